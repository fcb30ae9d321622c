import Derived.Test.YtihihgfcklkkhaaGreatDoorPkAD
import Derived.Test.YtihihgfcklkkhaaGreatDoorPkAE
import Derived.Test.YtihihgfcklkkhaaGreatDoorPkAB
import Derived.Test.YtihihgfcklkkhaaGreatDoorPkX
import Derived.Test.YtihihgfcklkkhaaGreatDoorPkAC
import Derived.Test.YtihihgfcklkkhaaGreatDoorBt10Told
namespace Go.Proofs.YtihihgfcklkkhaaGreatDoor.Pa
open Go.Proofs.YtihihgfcklkkhaaGreatDoor.Bk (Tx Bk Env fenceL spanK itemL dropBlank listL items kindOf closes unquote unitem inner define parse joinLF)
open Go.Proofs.YtihihgfcklkkhaaGreatDoor.Bt (dp cnt dpAll dpAll_cons cntAll cntAll_cons boxB)
open Go.Proofs.YtihihgfcklkkhaaGreatDoor.Ln (run mx trim run_no)
open Go.Proofs.YtihihgfcklkkhaaGreatDoor.Kd (E0)
set_option linter.unusedVariables false
def lowB (c : UInt8) : Bool := decide (97 ≤ c.toNat ∧ c.toNat ≤ 122)
theorem low_ne {c : UInt8} (h : lowB c = true) (n : UInt8) (hn : n.toNat < 97) : c ≠ n := fun e => by
  unfold lowB at h
  have h := of_decide_eq_true h
  rw [e] at h
  omega
theorem low_gap {c : UInt8} (h : lowB c = true) : Ln.gapB c = false := by
  unfold Ln.gapB
  rw [Bool.or_eq_false_iff, beq_eq_false_iff_ne, beq_eq_false_iff_ne]
  exact ⟨low_ne h 32 (by decide), low_ne h 9 (by decide)⟩
theorem kind_low {c : UInt8} (h : lowB c = true) (l : Tx) : kindOf E0 (c :: l) = 8 :=
  Bk.kind_other E0 c l (low_gap h) (low_ne h _ (by decide)) (low_ne h _ (by decide)) (low_ne h _ (by decide)) (low_ne h _ (by decide)) (low_ne h _ (by decide))
def gts (k : Nat) (s : Tx) : Tx := List.replicate k 62 ++ s
def dsh : Nat → Tx → Tx
  | 0, s => s
  | m + 1, s => 45 :: 32 :: dsh m s
theorem gts_succ (k : Nat) (s : Tx) : gts (k + 1) s = 62 :: gts k s := by
  unfold gts
  rw [List.replicate_succ]
  rfl
theorem gts_head {k : Nat} {s : Tx} (hs : ∀ c ∈ s, lowB c = true) : (gts k s).head? ≠ some 32 := by
  cases k with
  | zero =>
    cases s with
    | nil => simp [gts]
    | cons c s =>
      intro h
      simp [gts] at h
      exact low_ne (hs c (List.mem_cons_self ..)) 32 (by decide) h
  | succ k => rw [gts_succ]; simp
theorem quote_one {d : Nat} (hd : d ≤ 16) {t : Tx} (h : t.head? ≠ some 32) : allE d [62 :: t] = (allE (d + 1) [t]).map (fun k => [.mk 5 0 [] [] [] k]) := by
  have hk := kind_62 t
  have hu : unquote (62 :: t) = t := by
    unfold unquote
    cases t with
    | nil => rfl
    | cons c t =>
      rw [if_neg]
      · rfl
      · simpa using h
  have hsp : spanK E0 5 [62 :: t] = ([62 :: t], []) := by rw [spanK, if_pos hk]; rfl
  rw [allE_block hd (by rw [hk]; decide), val5 hk, quoted, rest5 hk, hsp]
  simp only [List.map_cons, List.map_nil, hu]
  cases allE (d + 1) [t] with
  | none => rfl
  | some k =>
    show (allE d []).map _ = _
    rw [allE_nil hd]
    rfl
theorem item_one {d : Nat} (hd : d ≤ 16) {t : Tx} : allE d [45 :: 32 :: t] = (allE (d + 2) [t]).map (fun k => [.mk 6 0 [] [] [] [.mk 7 0 [] [] [] k]]) := by
  have hk : kindOf E0 (45 :: 32 :: t) = 6 := Bk.kind_item E0 t
  have hl : lst [45 :: 32 :: t] = ([[t]], []) := by
    rw [lst_one (Or.inl rfl)]
    rfl
  rw [allE_block hd (by rw [hk]; decide), val6 hk, hl, rest6 hk, hl]
  unfold items
  cases allE (d + 2) [t] with
  | none => rfl
  | some k =>
    show (allE d []).map _ = _
    rw [allE_nil hd]
    rfl
theorem word_one {d : Nat} (hd : d ≤ 16) {s : Tx} (hs : ∀ c ∈ s, lowB c = true) : ∃ l, allE d [s] = some l ∧ dp l = 0 ∧ cnt l = (min s.length 1 : Nat) := by
  cases s with
  | nil =>
    refine ⟨[], ?_, by decide, by decide⟩
    rw [allE_blank (show kindOf E0 [] = 1 from rfl), allE_nil hd]
  | cons c s =>
    have hk := kind_low (hs c (List.mem_cons_self ..)) s
    have hsp : spanK E0 8 [c :: s] = ([c :: s], []) := by rw [spanK, if_pos hk]; rfl
    refine ⟨[.mk 1 0 [] [] (parse (joinLF (paraL (c :: s) []))) []], ?_, ?_, ?_⟩
    · rw [allE_block hd (by rw [hk]; decide), val8 hk, rest8 hk, hsp]
      simp only
      rw [allE_nil hd]
      rfl
    · unfold dp
      rw [dpAll_cons, dpAll]
      have : boxB 1 = false := by decide
      simp [Bk.kind, Bk.kids, this, dp, dpAll]
    · unfold cnt
      rw [cntAll_cons, cntAll, show (min (c :: s).length 1) = 1 by simp]
      show IntKind.i64.wrap (1 + cnt []) = ((1 : Nat) : Int)
      have h0 : cnt [] = 0 := rfl
      rw [h0]
      decide
theorem dp_quote {l : List Bk} {n : Nat} (h : dp l = n) (hn : n ≤ 100) : dp [.mk 5 0 [] [] [] l] = (n + 1 : Nat) := by
  have hb : boxB (Bk.mk 5 0 [] [] [] l).kind = true := by show boxB 5 = true; decide
  unfold dp
  rw [dpAll_cons, if_pos hb, dpAll]
  show max 0 (IntKind.i64.wrap (1 + dp l)) = _
  rw [h, IntKind.wrap_i64]
  omega
theorem cnt_quote {k : Int} {l : List Bk} {n : Nat} (h : cnt l = n) (hn : n ≤ 100) : cnt [.mk k 0 [] [] [] l] = (n + 1 : Nat) := by
  unfold cnt
  rw [cntAll_cons, cntAll]
  show IntKind.i64.wrap (1 + cnt l) = _
  rw [h, IntKind.wrap_i64]
  omega
theorem dp_item {l : List Bk} {n : Nat} (h : dp l = n) (hn : n ≤ 100) : dp [.mk 6 0 [] [] [] [.mk 7 0 [] [] [] l]] = (n + 2 : Nat) := by
  have hb : boxB (Bk.mk 6 0 [] [] [] [.mk 7 0 [] [] [] l]).kind = true := by show boxB 6 = true; decide
  have hb7 : boxB (Bk.mk 7 0 [] [] [] l).kind = true := by show boxB 7 = true; decide
  unfold dp
  rw [dpAll_cons, if_pos hb, dpAll]
  show max 0 (IntKind.i64.wrap (1 + dp [.mk 7 0 [] [] [] l])) = _
  have h7 : dp [.mk 7 0 [] [] [] l] = (n + 1 : Nat) := by
    unfold dp
    rw [dpAll_cons, if_pos hb7, dpAll]
    show max 0 (IntKind.i64.wrap (1 + dp l)) = _
    rw [h, IntKind.wrap_i64]
    omega
  rw [h7, IntKind.wrap_i64]
  omega
theorem gts_all {s : Tx} (hs : ∀ c ∈ s, lowB c = true) : ∀ k d, d ≤ 16 → (k + d ≤ 16 → ∃ l, allE d [gts k s] = some l ∧ dp l = (k : Nat) ∧ cnt l = (k + min s.length 1 : Nat)) ∧ (16 < k + d → allE d [gts k s] = none)
  | 0, d, hd => ⟨fun _ => by
      obtain ⟨l, h1, h2, h3⟩ := word_one hd hs
      exact ⟨l, h1, h2, by rw [h3]; simp⟩, fun h => absurd h (by omega)⟩
  | k + 1, d, hd => by
    have hq := quote_one hd (gts_head (k := k) hs)
    rw [gts_succ, hq]
    by_cases h16 : d + 1 ≤ 16
    · obtain ⟨ih1, ih2⟩ := gts_all hs k (d + 1) h16
      refine ⟨fun h => ?_, fun h => by rw [ih2 (by omega)]; rfl⟩
      obtain ⟨l, h1, h2, h3⟩ := ih1 (by omega)
      refine ⟨_, by rw [h1]; rfl, dp_quote h2 (by omega), ?_⟩
      rw [cnt_quote h3 (by omega)]
      omega
    · refine ⟨fun h => absurd h (by omega), fun h => ?_⟩
      rw [allE_deep (by omega)]
      rfl
theorem dsh_all {s : Tx} (hs : ∀ c ∈ s, lowB c = true) : ∀ m d, 2 * m + d ≤ 16 → ∃ l, allE d [dsh m s] = some l ∧ (s ≠ [] → dp l = (2 * m : Nat) ∧ cnt l = (2 * m + 1 : Nat))
  | 0, d, hd => by
    obtain ⟨l, h1, h2, h3⟩ := word_one (d := d) (by omega) hs
    refine ⟨l, h1, fun hne => ⟨h2, ?_⟩⟩
    rw [h3]
    cases s with
    | nil => exact absurd rfl hne
    | cons c s => simp
  | m + 1, d, hd => by
    obtain ⟨l, h1, h2⟩ := dsh_all hs m (d + 2) (by omega)
    refine ⟨[.mk 6 0 [] [] [] [.mk 7 0 [] [] [] l]], ?_, fun hne => ⟨?_, ?_⟩⟩
    · rw [dsh, item_one (by omega), h1]
      rfl
    · rw [dp_item (h2 hne).1 (by omega)]
      omega
    · rw [cnt_quote (cnt_quote (h2 hne).2 (by omega)) (by omega)]
      omega
theorem gts_len (k : Nat) (s : Tx) : (gts k s).length = k + s.length := by unfold gts; simp
theorem dsh_len : ∀ (m : Nat) (s : Tx), (dsh m s).length = 2 * m + s.length
  | 0, s => by simp [dsh]
  | m + 1, s => by simp only [dsh, List.length_cons, dsh_len m s]; omega
end Go.Proofs.YtihihgfcklkkhaaGreatDoor.Pa
namespace Go.Proofs.YtihihgfcklkkhaaGreatDoor.Pa
open Go.RowKit
open Go.Proofs.YtihihgfcklkkhaaGreatDoor.Tk (S S_of S_list S_size S_toList S_app ret_int eq8 ne8 at_data len_data Rd)
open Go.Proofs.YtihihgfcklkkhaaGreatDoor.Sp (ret_bool OkAns)
open Go.Proofs.YtihihgfcklkkhaaGreatDoor.Bt (TrB fitAll ttAll dp cnt fitAll_wide)
open Go.Proofs.YtihihgfcklkkhaaGreatDoor.Bk (Tx Bk kindOf)
set_option linter.unusedVariables false
theorem min2 (w : World) (x y : Int) : (Builtin.min_ #[3, 3] 3 #[.int .i64 x, .int .i64 y]).run Tryz.prog w = .ok (.int .i64 (min x y)) w := by
  have e : ∀ x y : Int, (if y < x then y else x) = min x y := fun x y => by
    rw [Int.min_def]
    split <;> split <;> omega
  simp [Builtin.min_, Builtin.min2, e]
theorem lns_some {xs : List Tx} {l : List Bk} (h : allE 0 xs = some l) : lnsB xs = (l, 0) := by unfold lnsB; rw [h]
theorem lns_none {xs : List Tx} (h : allE 0 xs = none) : lnsB xs = ([], 5) := by unfold lnsB; rw [h]
theorem all_small {xs : List Tx} {l : List Bk} (h : allE 0 xs = some l) (ht : tot xs ≤ 20000) : fitAll 140737488355328 l ∧ ttAll l ≤ 9000000 :=
  ⟨fitAll_wide (by decide) l (all_fit 0 xs l h (by omega)), by have := all_tt 0 xs l h; omega⟩
theorem lns_lit (K : Told12) (t : Tx) (ht : t.length ≤ 10000) (w : World) :
    Calls Tryz.prog 21 #[.slice (some ⟨w.heap.size, 0, none⟩) 1 1] (w.alloc (.cells #[.string (S t)] 9)) (LnsAns (w.alloc (.cells #[.string (S t)] 9)) (lnsB [t])) :=
  K.lines _ _ _ (OutS.rd (OutS.lit (Nat.le_refl _) t)) (by simp only [tot]; omega)
set_option maxHeartbeats 6400000 in
theorem parseDeep_walk (K : Told12) (KD : DeepC) (KC : CountC) (w : World) (cn : UInt8) (s : ByteArray) (hs : s.size ≤ maxLen) (hr : s.size ≤ reachBytes) :
    Calls Tryz.prog 9 #[.int .u8 cn.toNat, .string s] w (OkAns w true) := by
  have HA := Lib.hid (awake12_any K)
  by_cases hl : s.size ≤ 100
  · have g1 : decide ((s.size : Int) > 100) = false := decide_eq_false (by omega)
    have g2 : decide ((100 : Int) < (s.size : Int)) = false := decide_eq_false (by omega)
    have g3 : decide (100 < s.size) = false := decide_eq_false (by omega)
    have n256 : cn.toNat < 256 := cn.toNat_lt
    generalize cn.toNat = vn at *
    obtain ⟨kk, hkk⟩ : ∃ x, x = vn % 25 := ⟨_, rfl⟩
    have k25 : kk < 25 := by omega
    have r1 : (vn : Int) % 25 = (kk : Int) := by omega
    have r2 : (vn : Int).tmod 25 = (kk : Int) := by rw [Int.tmod_eq_emod_of_nonneg (by omega)]; exact r1
    obtain ⟨hf, hhf⟩ : ∃ x, x = kk / 2 := ⟨_, rfl⟩
    have q1 : (kk : Int) / 2 = (hf : Int) := by omega
    have q2 : (kk : Int).tdiv 2 = (hf : Int) := by rw [Int.tdiv_eq_ediv_of_nonneg (by omega)]; exact q1
    have HHf : Hid (2 * hf ≤ kk ∧ hf = kk / 2) := Lib.hid ⟨by omega, hhf⟩
    have hf13 : hf ≤ 12 := by omega
    have HK := Lib.hid K
    have HKD := Lib.hid KD
    have HKC := Lib.hid KC
    clear hkk hhf hs hr K KD KC
    go_enter Tryz.func9, Tryz.ntmps9
    go_wp2_with fail
    refine (HA.out _).mono ?_
    rintro e w2 ⟨rfl, b2⟩
    have HB2 := Lib.hid b2
    clear b2 HA
    go_wp2_with fail
    go_loopw [24] (fun iv wr => ∃ j : Nat, j ≤ s.size ∧ iv = .int .i64 j ∧ wr = w2 ∧ Hid (∀ i (h : i < s.size), i < j → lowB s[i] = true)) (fun iv _ => s.size - (intOf iv).toNat)
    case atStart => exact ⟨0, Nat.zero_le _, rfl, rfl, Lib.hid (fun i h hi => absurd hi (by omega))⟩
    case round =>
      obtain ⟨j, hj, rfl, rfl, HL⟩ := hrel
      by_cases hlt : j < s.size
      · have hji : (j : Int) < (s.size : Int) := by omega
        by_cases c1 : s[j].toNat < 97
        · have t1 : ((s[j].toNat : Nat) : Int) < 97 := by omega
          clear HL
          go_wp2_with fail
          go_ret
          exact ⟨rfl, HB2.out⟩
        · have t1 : ¬ ((s[j].toNat : Nat) : Int) < 97 := by omega
          by_cases c2 : 122 < s[j].toNat
          · have t2 : (122 : Int) < ((s[j].toNat : Nat) : Int) := by omega
            clear HL
            go_wp2_with fail
            go_ret
            exact ⟨rfl, HB2.out⟩
          · have t2 : ¬ (122 : Int) < ((s[j].toNat : Nat) : Int) := by omega
            have HL2 : Hid (∀ i (h : i < s.size), i < j + 1 → lowB s[i] = true) := Lib.hid (fun i h hi => by
              by_cases e : i = j
              · subst e
                exact decide_eq_true (by omega)
              · exact HL.out i h (by omega))
            clear HL
            go_wp2_with fail
            go_roundw
            case rel => exact ⟨j + 1, by omega, by go_num, by first | exact rfl | exact trivial, HL2⟩
            case measure => simp [intOf] <;> omega
      · obtain rfl : j = s.size := by omega
        have hlow : ∀ c ∈ s.data.toList, lowB c = true := fun c hc => by
          obtain ⟨i, hi, he⟩ := List.mem_iff_getElem.1 hc
          have hi' : i < s.size := by rw [← len_data]; exact hi
          have h2 := HL.out i hi' hi'
          have h3 := at_data s i hi'
          rw [List.drop_eq_getElem_cons hi, he] at h3
          injection h3 with h3
          rw [h3]; exact h2
        have hS : S s.data.toList = s := S_of s
        have htl : s.data.toList.length = s.size := len_data s
        have hga := gts_all hlow kk 0 (by omega)
        have hds := fun h => dsh_all hlow hf 0 h
        generalize s.data.toList = t at *
        have HG := Lib.hid hga
        have HD := Lib.hid hds
        have HT := Lib.hid htl
        have HS := Lib.hid hS
        have htlt : t.length ≤ 100 := by omega
        clear hga hds htl hS HL hlt hlow
        have z62 : (⟨#[62]⟩ : ByteArray).size = 1 := rfl
        have z45 : (⟨#[45, 32]⟩ : ByteArray).size = 2 := rfl
        go_wp2_with fail
        go_loopw [7, 43] (fun lv iv wx => ∃ (j : Nat) (st : ByteArray), j ≤ kk ∧ iv = .int .i64 j ∧ lv = .string st ∧ wx = wr ∧ st.size ≤ 200 ∧ Hid (st = S (gts j t))) (fun _ iv _ => kk - (intOf iv).toNat)
        case atStart => exact ⟨0, s, Nat.zero_le _, rfl, rfl, by first | exact rfl | exact trivial, by omega, Lib.hid HS.out.symm⟩
        case round =>
          obtain ⟨j, st, hj, rfl, rfl, rfl, hst, HN⟩ := hrel
          by_cases hlt : j < kk
          · have hji : (j : Int) < (kk : Int) := by omega
            have HN2 : Hid (⟨#[62]⟩ ++ st = S (gts (j + 1) t)) := Lib.hid (by
              rw [HN.out, show (⟨#[62]⟩ : ByteArray) = S [62] from rfl, S_app, gts_succ]
              rfl)
            have hz : (⟨#[62]⟩ ++ st : ByteArray).size ≤ 200 := by rw [HN2.out, S_size, gts_len]; omega
            have Hz := Lib.hid hz
            have hz3 : 1 + st.size ≤ 200 := by rw [ByteArray.size_append] at hz; exact hz
            clear hz HN HG HD
            go_wp2_with fail
            go_roundw
            case rel => exact ⟨j + 1, _, by omega, by go_num, rfl, by first | exact rfl | exact trivial, Hz.out, HN2⟩
            case measure => simp [intOf] <;> omega
          · obtain rfl : j = kk := by omega
            have HLn := Lib.hid (fun w' => lns_lit HK.out (gts j t) (by rw [gts_len]; omega) w')
            rw [← HN.out] at HLn
            unfold LnsAns at HLn
            clear HN
            by_cases h16 : j ≤ 16
            · obtain ⟨l, e1, e2, e3⟩ := HG.out.1 (by omega)
              rw [lns_some e1] at HLn
              obtain ⟨f1, f2⟩ := all_small e1 (by simp only [tot]; rw [gts_len]; omega)
              have HDp := Lib.hid (fun v w' h => HKD.out v l w' h f1 f2)
              have HCt := Lib.hid (fun v w' h => HKC.out v l w' h f1 f2)
              rw [e2] at HDp
              rw [e3] at HCt
              obtain ⟨m, d1, d2⟩ := HD.out (by have := HHf.out.1; omega)
              obtain ⟨f3, f4⟩ := all_small d1 (by simp only [tot]; rw [dsh_len]; omega)
              have HDp2 := Lib.hid (fun v w' h => HKD.out v m w' h f3 f4)
              have HCt2 := Lib.hid (fun v w' h => HKC.out v m w' h f3 f4)
              have HLm := Lib.hid (fun w' => lns_lit HK.out (dsh hf t) (by rw [dsh_len]; omega) w')
              rw [lns_some d1] at HLm
              unfold LnsAns at HLm
              unfold NumB at HDp HCt HDp2 HCt2
              have g16 : decide ((j : Int) > 16) = false := decide_eq_false (by omega)
              have g17 : decide ((16 : Int) < (j : Int)) = false := decide_eq_false (by omega)
              have g18 : decide (16 < j) = false := decide_eq_false (by omega)
              obtain ⟨mn, hmn⟩ : ∃ x, x = min t.length 1 := ⟨_, rfl⟩
              have hmi : ∀ w', (Builtin.min_ #[3, 3] 3 #[.int .i64 (s.size : Int), .int .i64 1]).run Tryz.prog w' = .ok (.int .i64 (mn : Nat)) w' := fun w' => by
                rw [min2, ← HT.out]
                congr 2
                omega
              rw [← hmn] at HCt
              have mn1 : mn ≤ 1 := by omega
              have hwc : IntKind.i64.wrap ((j : Int) + (mn : Int)) = ((j + mn : Nat) : Int) := by rw [IntKind.wrap_i64]; omega
              obtain ⟨cc, hcc⟩ : ∃ q, q = j + mn := ⟨_, rfl⟩
              rw [← hcc] at hwc HCt
              have HM := Lib.hid (show (t ≠ [] → dp m = (2 * hf : Nat) ∧ cnt m = (2 * hf + 1 : Nat)) from d2)
              simp only at HLn HLm
              clear HG HD e1 e2 e3 d1 d2 f1 f2 f3 f4 hmn hcc HK HKD HKC h16
              go_wp2_with fail
              refine (HLn.out _).mono ?_
              rintro e w3 ⟨u, rfl, t3, b3⟩
              have HT3 := Lib.hid t3
              have HB3 := Lib.hid ((HB2.out.alloc HB2.out.size (.cells #[.string st] 9)).trans (b3.mono (by simp; have := HB2.out.size; omega)))
              obtain ⟨ul, cl, rfl⟩ := t3.len
              clear t3 b3 HLn HB2
              go_wp2_with fail
              refine (HDp.out _ _ HT3.out).mono ?_
              rintro e w4 ⟨rfl, b4⟩
              have HT4 := Lib.hid (HT3.out.below b4)
              have HB4 := Lib.hid (HB3.out.trans (b4.mono HB3.out.size))
              clear b4 HDp HT3 HB3
              go_wp2_with fail
              refine (HCt.out _ _ HT4.out).mono ?_
              rintro e w5 ⟨rfl, b5⟩
              have HB5 := Lib.hid (HB4.out.trans (b5.mono HB4.out.size))
              clear b5 HCt HT4 HB4
              go_wp2_with fail
              go_loopw [11, 85] (fun lv iv wr => ∃ (i : Nat) (sx : ByteArray), i ≤ hf ∧ iv = .int .i64 i ∧ lv = .string sx ∧ wr = w5 ∧ sx.size ≤ 200 ∧ Hid (sx = S (dsh i t))) (fun _ iv _ => hf - (intOf iv).toNat)
              case atStart => exact ⟨0, s, Nat.zero_le _, rfl, rfl, by first | exact rfl | exact trivial, by omega, Lib.hid HS.out.symm⟩
              case round =>
                obtain ⟨i, sx, hi, rfl, rfl, rfl, hsx, HN⟩ := hrel
                by_cases hlt2 : i < hf
                · have hii : (i : Int) < (hf : Int) := by omega
                  have HN2 : Hid (⟨#[45, 32]⟩ ++ sx = S (dsh (i + 1) t)) := Lib.hid (by
                    rw [HN.out, show (⟨#[45, 32]⟩ : ByteArray) = S [45, 32] from rfl, S_app]
                    rfl)
                  have hz : (⟨#[45, 32]⟩ ++ sx : ByteArray).size ≤ 200 := by rw [HN2.out, S_size, dsh_len]; omega
                  have Hz := Lib.hid hz
                  have hz3 : 2 + sx.size ≤ 200 := by rw [ByteArray.size_append] at hz; exact hz
                  clear hz HN
                  go_wp2_with fail
                  go_roundw
                  case rel => exact ⟨i + 1, _, by omega, by go_num, rfl, by first | exact rfl | exact trivial, Hz.out, HN2⟩
                  case measure => simp [intOf] <;> omega
                · obtain rfl : i = hf := by omega
                  rw [← HN.out] at HLm
                  clear HN
                  go_wp2_with fail
                  refine (HLm.out _).mono ?_
                  rintro e w6 ⟨u2, rfl, t6, b6⟩
                  have HT6 := Lib.hid t6
                  have HB6 := Lib.hid ((HB5.out.alloc HB5.out.size (.cells #[.string sx] 9)).trans (b6.mono (by simp; have := HB5.out.size; omega)))
                  clear t6 b6 HLm HB5
                  by_cases hte : t = []
                  · have emE : (s.toList == ([] : List UInt8)) = true := by rw [← HS.out, S_toList, hte]; rfl
                    clear HM HDp2 HCt2 hte
                    go_wp2_with fail
                    go_ret
                    exact ⟨rfl, HB6.out⟩
                  · have emE : (s.toList == ([] : List UInt8)) = false := by
                      rw [← HS.out, S_toList, beq_eq_false_iff_ne]
                      exact hte
                    obtain ⟨m1, m2⟩ := HM.out hte
                    rw [m1] at HDp2
                    rw [m2] at HCt2
                    have x1 : IntKind.i64.wrap ((i : Int) * 2) = ((2 * i : Nat) : Int) := by rw [IntKind.wrap_i64]; omega
                    obtain ⟨ii, hii⟩ : ∃ q, q = 2 * i := ⟨_, rfl⟩
                    rw [← hii] at x1 HDp2 HCt2
                    have x2 : IntKind.i64.wrap ((ii : Int) + 1) = ((ii + 1 : Nat) : Int) := by rw [IntKind.wrap_i64]; omega
                    obtain ⟨i3, hi3⟩ : ∃ q, q = ii + 1 := ⟨_, rfl⟩
                    rw [← hi3] at x2 HCt2
                    clear HM hte m1 m2 hii hi3
                    go_wp2_with fail
                    refine (HDp2.out _ _ HT6.out).mono ?_
                    rintro e w7 ⟨rfl, b7⟩
                    have HT7 := Lib.hid (HT6.out.below b7)
                    have HB7 := Lib.hid (HB6.out.trans (b7.mono HB6.out.size))
                    clear b7 HDp2 HT6 HB6
                    go_wp2_with fail
                    refine (HCt2.out _ _ HT7.out).mono ?_
                    rintro e w8 ⟨rfl, b8⟩
                    have HB8 := Lib.hid (HB7.out.trans (b8.mono HB7.out.size))
                    clear b8 HCt2 HT7 HB7
                    go_wp2_with fail
                    go_ret
                    exact ⟨rfl, HB8.out⟩
            · rw [lns_none (HG.out.2 (by omega))] at HLn
              have g16 : decide ((j : Int) > 16) = true := decide_eq_true (by omega)
              have g17 : decide ((16 : Int) < (j : Int)) = true := decide_eq_true (by omega)
              have g18 : decide (16 < j) = true := decide_eq_true (by omega)
              simp only at HLn
              clear HG HD HK HKD HKC h16
              go_wp2_with fail
              refine (HLn.out _).mono ?_
              rintro e w3 ⟨u, rfl, t3, b3⟩
              have HB3 := Lib.hid ((HB2.out.alloc HB2.out.size (.cells #[.string st] 9)).trans (b3.mono (by simp; have := HB2.out.size; omega)))
              obtain ⟨ul, cl, rfl⟩ := t3.len
              have hl0 : ([] : List Bk).length = 0 := rfl
              rw [hl0]
              clear t3 b3 HLn HB2 hl0
              go_wp2_with fail
              go_ret
              exact ⟨rfl, HB3.out⟩
  · have g1 : decide ((s.size : Int) > 100) = true := decide_eq_true (by omega)
    have g2 : decide ((100 : Int) < (s.size : Int)) = true := decide_eq_true (by omega)
    have g3 : decide (100 < s.size) = true := decide_eq_true (by omega)
    clear K KD KC hl
    go_enter Tryz.func9, Tryz.ntmps9
    go_wp2_with fail
    refine (HA.out _).mono ?_
    rintro e w2 ⟨rfl, b2⟩
    have HB2 := Lib.hid b2
    clear b2
    go_wp2_with fail
    refine (HA.out _).mono ?_
    rintro e w3 ⟨rfl, b3⟩
    have HB3 := Lib.hid (HB2.out.trans (b3.mono HB2.out.size))
    clear b3
    go_wp2_with fail
    go_ret
    exact ⟨rfl, HB3.out⟩
end Go.Proofs.YtihihgfcklkkhaaGreatDoor.Pa
