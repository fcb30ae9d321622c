/-
  THE STATEMENT ParseQuotes, walked, for lines that are not too many (gen_quotes.py writes it).
-/
import Derived.Test.YtihihgfcklkkhaaGreatDoorPkAB
import Derived.Test.YtihihgfcklkkhaaGreatDoorPkAE
import Derived.Test.YtihihgfcklkkhaaGreatDoorPaEndsWalk
import Derived.Test.YtihihgfcklkkhaaGreatDoorPkAP
import Derived.Test.YtihihgfcklkkhaaGreatDoorPkAD
import Derived.Test.YtihihgfcklkkhaaGreatDoorPkV
import Derived.Test.YtihihgfcklkkhaaGreatDoorBt10Told
import Derived.Test.YtihihgfcklkkhaaGreatDoorPkAC
import Derived.BigQuiet
import Derived.WalkMore
import Derived.Laws.Runes
import Derived.Lib.OthersKept
import Derived.Lib.RuneCount
namespace Go.Proofs.YtihihgfcklkkhaaGreatDoor.Pa
open Go.RowKit
open Go.Proofs.YtihihgfcklkkhaaGreatDoor.Tk (S S_of S_list S_size S_toList S_app ret_int eq8 ne8 at_data len_data Rd)
open Go.Proofs.YtihihgfcklkkhaaGreatDoor.Sp (ret_bool OkAns)
open Go.Proofs.YtihihgfcklkkhaaGreatDoor.Bt (TrB smB smB_iff rsameB_any szAll dp dp_ge litB)
open Go.Proofs.YtihihgfcklkkhaaGreatDoor.Cm (Keep own_keep newsK)
open Go.Proofs.YtihihgfcklkkhaaGreatDoor.Bk (Tx Bk kindOf)
open Go.Proofs.YtihihgfcklkkhaaGreatDoor.Ln (trim dl dr gapB dr_last)
open Go.Proofs.YtihihgfcklkkhaaGreatDoor.Kd (E0 nilRd nilTr nilTrB)
set_option linter.unusedVariables false

/-! A line with a byte that is no gap isn't Blank. -/
theorem dwN (p : UInt8 → Bool) : ∀ l : Tx, l.dropWhile p = [] ↔ ∀ x ∈ l, p x = true
  | [] => by simp
  | x :: r => by
    rw [List.dropWhile_cons]
    by_cases h : p x = true
    · rw [if_pos h, dwN p r]
      simp [h]
    · rw [if_neg h]
      simp [h]
theorem kd_gap {s : Tx} (h : ∃ c ∈ s, gapB c = false) : kindOf E0 s ≠ 1 := by
  rw [Ne, Bk.kind_one]
  obtain ⟨c, hc, hg⟩ := h
  intro ht
  have h1 : ∀ x ∈ dr s, gapB x = true := by
    have h2 : (dr s).dropWhile gapB = [] := ht
    exact (dwN _ _).1 h2
  have h3 : dr s = [] := by
    cases hd : (dr s).getLast? with
    | none => simpa using hd
    | some b =>
      have h4 := dr_last s b hd
      have h5 := h1 b (List.mem_of_getLast? hd)
      rw [h4] at h5
      cases h5
  have h6 : (s.reverse.dropWhile gapB) = [] := by
    unfold dr at h3
    simpa using h3
  have h7 := (dwN _ _).1 h6 c (by simpa using hc)
  rw [hg] at h7
  cases h7

/-! Two rows of strings, side by side. -/
def Sep (u v : Value) : Prop := ∀ g, u.ownBlock = some g → v.ownBlock ≠ some g
theorem Sep.symm {u v : Value} (h : Sep u v) : Sep v u := fun g h1 h2 => h g h2 h1
theorem OutS.stay {B : Nat} {w w' : World} {u v : Value} {l : List Tx} (h : OutS B w u l) (hs : Sep u v) (hk : Keep (fun j => some j = v.ownBlock) w w') : OutS B w' u l :=
  ⟨Nat.le_trans (OutG.size h) hk.size, own_keep (OutG.own h) hk (fun g hg h' => hs g hg h'.symm), fun _ _ _ _ => trivial⟩
theorem pushS2 {B : Nat} {w : World} {v u : Value} {l m : List Tx} (h : OutS B w v l) (hu : OutS B w u m) (hs : Sep u v) (x : Tx) (hl : l.length + 1 ≤ 1000000) :
    ∃ v' w', (∀ ty, (Builtin.append_ #[32, 32] ty #[v, .slice (some ⟨w.heap.size, 0, none⟩) 1 1]).run Tryz.prog (w.alloc (.cells #[.string (S x)] 9)) = .ok v' w') ∧ OutS B w' v' (l ++ [x]) ∧ OutS B w' u m ∧ Sep u v' ∧ Below B w w' := by
  obtain ⟨i0, hi, hz0, hz1, hz2⟩ := info_parts infoX
  have hsz : (w.alloc (.cells #[.string (S x)] 9)).heap.size = w.heap.size + 1 := by simp
  have kAl : Keep (fun j => some j = v.ownBlock) w (w.alloc (.cells #[.string (S x)] 9)) := (Keep.refl _ _).alloc _
  have hown : (w.alloc (.cells #[.string (S x)] 9)).ownsRow B 9 1 v l.length (l.flatMap encX) := own_keep (OutG.own h) (S := fun j => j < B) ((Keep.refl _ _).alloc _) (fun g hg => by have := (OutG.block h g hg).1; omega)
  have hcells : ∀ j y, (encX x)[j]? = some y → (w.alloc (.cells #[.string (S x)] 9)).cell? (Addr.add ⟨w.heap.size, 0, none⟩ j) = some y := newsK
  obtain ⟨v', w', g1, g2, g3, _, g5⟩ := run_append_own_at (P := Tryz.prog) (w := w.alloc (.cells #[.string (S x)] 9)) B 32 0 9 i0 (.string ⟨#[]⟩) 1 16 Tryz.underlying32 hi hz0 hz1 hz2 rfl (by decide) v l.length (l.flatMap encX) hown ⟨w.heap.size, 0, none⟩ 1 1 (encX x) rfl hcells (fun y hy => by rw [encX, List.mem_singleton] at hy; subst hy; rfl) (by unfold maxLen; omega) (by omega) (by rw [hsz]; have := OutG.size h; omega)
  have kG : Keep (fun j => some j = v.ownBlock) w w' := kAl.grown g3 (fun j hj => Or.inl hj.symm)
  refine ⟨v', w', fun ty => g1, ⟨Nat.le_trans (OutG.size h) kG.size, ?_, fun _ _ _ _ => trivial⟩, OutS.stay hu hs kG, ?_, OutG.below h kG⟩
  · rw [List.length_append, List.flatMap_append]
    have : [x].flatMap encX = encX x := by simp [List.flatMap_cons]
    rw [this]
    exact g2
  · intro g hg
    rcases g5 with he | he
    · rw [he]; exact hs g hg
    · rw [he, hsz]
      intro h'
      have := (OutG.block hu g hg).2
      simp only [Option.some.injEq] at h'
      omega
theorem itl_snoc {l : List Tx} (h : l ≠ []) (x : Tx) : itl (l ++ [x]) = itl l ++ [mi x] := by
  cases l with
  | nil => exact absurd rfl h
  | cons s r => simp [itl]
theorem itl_len (l : List Tx) : (itl l).length = l.length := by
  cases l with
  | nil => rfl
  | cons s r => simp [itl]
theorem tot_mq : ∀ l : List Tx, tot (l.map mq) ≤ 3 * tot l
  | [] => Nat.le_refl _
  | s :: r => by have := tot_mq r; simp only [List.map_cons, tot, mq, List.length_cons]; omega
theorem tot_mi : ∀ l : List Tx, tot (l.map mi) ≤ 3 * tot l
  | [] => Nat.le_refl _
  | s :: r => by have := tot_mi r; simp only [List.map_cons, tot, mi, List.length_cons]; omega
theorem tot_itl (l : List Tx) : tot (itl l) ≤ 3 * tot l := by
  cases l with
  | nil => exact Nat.le_refl _
  | cons s r => have := tot_mi r; simp only [itl, tot, mk1, List.length_cons]; omega
def qtB (x : List Bk) : List Bk := [.mk 5 0 [] [] [] x]
def itB7 (x : List Bk) : List Bk := [.mk 7 0 [] [] [] x]
def lsB (x : List Bk) : List Bk := [.mk 6 0 [] [] [] (itB7 x)]
/-- What is told of lines with marks ahead. -/
theorem quotes_lns {xs : List Tx} (h0 : xs ≠ []) : (lnsB xs = ([], 5) ∧ lnsB (xs.map mq) = ([], 5) ∧ lnsB (itl xs) = ([], 5)) ∨
    ∃ x x', lnsB xs = (x, 0) ∧ dp x ≤ 16 ∧ lnsB (xs.map mq) = (if dp x + 1 ≤ 16 then (qtB x, 0) else ([], 5)) ∧ lnsB (itl xs) = (if dp x + 2 ≤ 16 then (lsB x', 0) else ([], 5)) ∧ ((∀ z, xs.getLast? = some z → kindOf E0 z ≠ 1) → x' = x) := by
  cases xs with
  | nil => exact absurd rfl h0
  | cons s r =>
    obtain ⟨h1, h2⟩ := quotes_all s r
    cases ha : allE 0 (s :: r) with
    | none =>
      obtain ⟨h3, h4⟩ := h2 ha
      exact Or.inl ⟨lns_none ha, lns_none h3, lns_none h4⟩
    | some x =>
      obtain ⟨h3, x', h4, h5⟩ := h1 x ha
      have hd := all_deep 0 _ x ha
      refine Or.inr ⟨x, x', lns_some ha, by omega, ?_, ?_, h5⟩
      · by_cases hc : dp x + 1 ≤ 16
        · rw [if_pos hc] at h3 ⊢
          exact lns_some h3
        · rw [if_neg hc] at h3 ⊢
          exact lns_none h3
      · by_cases hc : dp x + 2 ≤ 16
        · rw [if_pos hc] at h4 ⊢
          exact lns_some h4
        · rw [if_neg hc] at h4 ⊢
          exact lns_none h4

set_option maxHeartbeats 12800000 in
set_option maxRecDepth 100000 in
theorem parseQuotes_walk (K : Told12) (KD : DeepC) (w : World) (v : Value) (xs : List Tx) (hr : Rd w v xs) (hb : tot xs ≤ 2100000) :
    Calls Tryz.prog 6 #[v] w (OkAns w true) := by
  obtain ⟨ao, ca, rfl⟩ := hr.len
  have HA := Lib.hid (awake12_any K)
  have hcast : ((700 : Nat) : Int) = 700 := rfl
  have HF := Lib.hid (fun w' (h : Below w.heap.size w w') => fits_any _ xs w' (hr.below h) (by omega) 700 (by omega))
  simp only [hcast] at HF
  clear hcast
  cases hfit : fitsB xs 700 with
  | false =>
    simp only [hfit] at HF
    clear K KD hr hfit
    go_enter Tryz.func6, Tryz.ntmps6
    go_wp2_with fail
    refine (HA.out _).mono ?_
    rintro e w2 ⟨rfl, b2⟩
    have HB2 := Lib.hid b2
    clear b2
    go_wp2_with fail
    refine (HF.out _ HB2.out).mono ?_
    rintro e w3 ⟨rfl, b3⟩
    have HB3 := Lib.hid (HB2.out.trans (b3.mono HB2.out.size))
    clear b3 HF
    go_wp2_with fail
    refine (HA.out _).mono ?_
    rintro e w4 ⟨rfl, b4⟩
    have HB4 := Lib.hid (HB3.out.trans (b4.mono HB3.out.size))
    clear b4
    go_wp2_with fail
    go_ret
    exact ⟨rfl, HB4.out⟩
  | true =>
    obtain ⟨_, ht⟩ := fits_lt hfit
    simp only [hfit] at HF
    have hlen : xs.length ≤ 700 := Nat.le_trans (tot_len xs) ht
    have HRd := Lib.hid (fun w' (h : Below w.heap.size w w') => Bt.Rd.at (hr.below h))
    have hsz1 : ∀ j (hj : j < xs.length), xs[j].length ≤ 700 := fun j hj => by have := tot_mem xs xs[j] (List.getElem_mem hj); omega
    have Hsz := Lib.hid hsz1
    have HL1 := Lib.hid (fun w' (h : Below w.heap.size w w') => K.lines _ xs w' (hr.below h) (by omega))
    have HL2 := Lib.hid (fun vq w' (h : Rd w' vq (xs.map mq)) => K.lines vq (xs.map mq) w' h (by have := tot_mq xs; omega))
    have HL3 := Lib.hid (fun vq w' (h : Rd w' vq (itl xs)) => K.lines vq (itl xs) w' h (by have := tot_itl xs; omega))
    have HDp : Hid (∀ x, lnsB xs = (x, 0) → ∀ vx w', TrB w' vx x → Calls Tryz.prog 22 #[vx] w' (NumB w' (dp x))) := Lib.hid (fun x hx vx w' h => by
      have ha : allE 0 xs = some x := by
        unfold lnsB at hx
        cases ha : allE 0 xs with
        | none => rw [ha] at hx; simp at hx
        | some y => rw [ha] at hx; simp only [Prod.mk.injEq, and_true] at hx; rw [hx]
      obtain ⟨f1, f2⟩ := all_small ha (by omega)
      exact KD vx x w' h f1 f2)
    have HQl : Hid (xs ≠ [] → _) := Lib.hid (fun h => quotes_lns (xs := xs) h)
    unfold LnsAns at HL1 HL2 HL3
    have z62 : (⟨#[62, 32]⟩ : ByteArray).size = 2 := rfl
    have z45 : (⟨#[45, 32]⟩ : ByteArray).size = 2 := rfl
    have z32 : (⟨#[32, 32]⟩ : ByteArray).size = 2 := rfl
    clear K KD hr hfit ht hb hsz1
    go_enter Tryz.func6, Tryz.ntmps6
    go_wp2_with fail
    refine (HA.out _).mono ?_
    rintro e' w2 ⟨rfl, b2⟩
    have HB2 := Lib.hid b2
    clear b2
    go_wp2_with fail
    refine (HF.out _ HB2.out).mono ?_
    rintro e' w3 ⟨rfl, b3⟩
    have HB3 := Lib.hid (HB2.out.trans (b3.mono HB2.out.size))
    clear b3 HF HA HB2
    go_wp2_with fail
    go_loopw [3, 4, 26] (fun qv tv iv wr => ∃ j : Nat, j ≤ xs.length ∧ iv = .int .i64 j ∧ Hid (OutS w3.heap.size wr qv ((xs.take j).map mq)) ∧ Hid (OutS w3.heap.size wr tv (itl (xs.take j))) ∧ Hid (Sep tv qv) ∧ Hid (Below w3.heap.size w3 wr)) (fun _ _ iv _ => xs.length - (intOf iv).toNat)
    case atStart => exact ⟨0, Nat.zero_le _, rfl, Lib.hid (by rw [List.take_zero]; exact OutG.nil (Nat.le_refl _)), Lib.hid (by rw [List.take_zero]; exact OutG.nil (Nat.le_refl _)), Lib.hid (fun g h => by cases h), Lib.hid (Below.refl _ _)⟩
    case round =>
      obtain ⟨j, hj, rfl, HQ, HI, HS, HB⟩ := hrel
      by_cases hlt : j < xs.length
      · have hji : (j : Int) < (xs.length : Int) := by omega
        have HBw := Lib.hid (HB3.out.trans (HB.out.mono HB3.out.size))
        obtain ⟨b, of, hbo, c0⟩ := HRd.out wr HBw.out j hlt
        subst hbo
        have hsj := Hsz.out j hlt
        have htk : xs.take (j + 1) = xs.take j ++ [xs[j]] := List.take_succ_eq_append_getElem hlt
        have hlq : ((xs.take j).map mq).length = j := by rw [List.length_map, List.length_take]; omega
        have hli : (itl (xs.take j)).length = j := by rw [itl_len, List.length_take]; omega
        obtain ⟨v5, w5, hr5, ho5, hi5, hs5, hb5⟩ := pushS2 HQ.out HI.out HS.out (mq xs[j]) (by rw [hlq]; omega)
        obtain ⟨a5, m5, d5, h5⟩ : ∃ ao n cap, v5 = .slice ao n cap := by
          rcases (OutG.own ho5).2 with ⟨h, _⟩ | ⟨g, cap, _, h, _⟩
          · exact ⟨none, 0, 0, h⟩
          · exact ⟨_, _, _, h⟩
        subst h5
        have e62 : (⟨#[62, 32]⟩ : ByteArray) ++ S xs[j] = S (mq xs[j]) := by
          rw [show (⟨#[62, 32]⟩ : ByteArray) = S [62, 32] from rfl, S_app]; rfl
        have HBw5 := Lib.hid (HBw.out.trans (hb5.mono (by have := HBw.out.size; have := HB3.out.size; omega)))
        obtain ⟨b', of', hbo', c1⟩ := HRd.out w5 HBw5.out j hlt
        simp only [Option.some.injEq, Addr.mk.injEq, and_true] at hbo'
        obtain ⟨rfl, rfl⟩ := hbo'
        have hss : (S xs[j]).size ≤ 700 := by rw [S_size]; exact hsj
        have HB5 := Lib.hid (HB.out.trans hb5)
        have HQ5 : Hid (OutS w3.heap.size w5 (.slice a5 m5 d5) ((xs.take (j + 1)).map mq)) := Lib.hid (by rw [htk, List.map_append]; exact ho5)
        by_cases h0 : j = 0
        · subst h0
          obtain ⟨v6, w6, hr6, ho6, hi6, hs6, hb6⟩ := pushS2 hi5 HQ5.out hs5.symm (mk1 xs[0]) (by rw [hli]; omega)
          have HI6 : Hid (OutS w3.heap.size w6 v6 (itl (xs.take 1))) := Lib.hid (by
            have ho6' := ho6
            rw [show xs.take 1 = [xs[0]] by rw [show (1 : Nat) = 0 + 1 from rfl, htk]; rfl]
            have he : itl (xs.take 0) = [] := rfl
            rw [he] at ho6'
            exact ho6')
          have e45 : (⟨#[45, 32]⟩ : ByteArray) ++ S xs[0] = S (mk1 xs[0]) := by
            rw [show (⟨#[45, 32]⟩ : ByteArray) = S [45, 32] from rfl, S_app]; rfl
          have HQ6 := Lib.hid hi6
          have HS6 := Lib.hid hs6.symm
          have HB6 := Lib.hid (HB5.out.trans hb6)
          simp only [Nat.add_zero, Nat.zero_add] at c0 c1 HQ6
          have g0 : (((0 : Nat) : Int) == 0) = true := rfl
          clear HQ HI HS HB htk hlq hli ho5 hi5 hs5 hb5 ho6 hi6 hs6 hb6 hsj HQ5
          generalize S (mq xs[0]) = sq at *
          generalize S (mk1 xs[0]) = st at *
          generalize S xs[0] = sx at *
          go_wp2_with (first
            | (at_builtin; (show wpList _ _ _ (Oper.mk (some 36) _ _ _ _ _ :: _) _ _); refine Lib.wpList_append_run _ rfl _ _ _ _ rfl _ _ rfl rfl _ _ (hr5 _) ?_)
            | (at_builtin; (show wpList _ _ _ (Oper.mk (some 46) _ _ _ _ _ :: _) _ _); refine Lib.wpList_append_run _ rfl _ _ _ _ rfl _ _ rfl rfl _ _ (hr6 _) ?_))
          go_roundw
          case rel => exact ⟨1, by omega, by go_num, HQ6, HI6, HS6, HB6⟩
          case measure => simp [intOf] <;> omega
        · obtain ⟨v6, w6, hr6, ho6, hi6, hs6, hb6⟩ := pushS2 hi5 HQ5.out hs5.symm (mi xs[j]) (by rw [hli]; omega)
          have HI6 : Hid (OutS w3.heap.size w6 v6 (itl (xs.take (j + 1)))) := Lib.hid (by
            rw [htk, itl_snoc (by intro h; rw [List.take_eq_nil_iff] at h; rcases h with h | h; exact h0 h; rw [h] at hlt; simp at hlt)]
            exact ho6)
          have e32 : (⟨#[32, 32]⟩ : ByteArray) ++ S xs[j] = S (mi xs[j]) := by
            rw [show (⟨#[32, 32]⟩ : ByteArray) = S [32, 32] from rfl, S_app]; rfl
          have HQ6 := Lib.hid hi6
          have HS6 := Lib.hid hs6.symm
          have HB6 := Lib.hid (HB5.out.trans hb6)
          have g0 : ((j : Int) == 0) = false := by rw [beq_eq_false_iff_ne]; omega
          clear HQ HI HS HB htk hlq hli ho5 hi5 hs5 hb5 ho6 hi6 hs6 hb6 hsj HQ5 h0
          generalize S (mq xs[j]) = sq at *
          generalize S (mi xs[j]) = st at *
          generalize S xs[j] = sx at *
          go_wp2_with (first
            | (at_builtin; (show wpList _ _ _ (Oper.mk (some 36) _ _ _ _ _ :: _) _ _); refine Lib.wpList_append_run _ rfl _ _ _ _ rfl _ _ rfl rfl _ _ (hr5 _) ?_)
            | (at_builtin; (show wpList _ _ _ (Oper.mk (some 54) _ _ _ _ _ :: _) _ _); refine Lib.wpList_append_run _ rfl _ _ _ _ rfl _ _ rfl rfl _ _ (hr6 _) ?_))
          go_roundw
          case rel => exact ⟨j + 1, by omega, by go_num, HQ6, HI6, HS6, HB6⟩
          case measure => simp [intOf] <;> omega
      · obtain rfl : j = xs.length := by omega
        have htk : xs.take xs.length = xs := List.take_length
        rw [htk] at HQ HI
        have HBw := Lib.hid (HB3.out.trans (HB.out.mono HB3.out.size))
        have HRq := Lib.hid (OutS.rd HQ.out)
        have HRi := Lib.hid (OutS.rd HI.out)
        obtain ⟨aq, cq, hvq⟩ := HRq.out.len
        rw [List.length_map] at hvq
        subst hvq
        obtain ⟨ai, ci, hvi⟩ := HRi.out.len
        rw [itl_len] at hvi
        subst hvi
        have HLa := Lib.hid (HL1.out wr HBw.out)
        clear HQ HI HS HB htk hlt HL1 HB3
        go_wp2_with fail
        refine HLa.out.mono ?_
        rintro e' w5 ⟨u1, rfl, t1, b5⟩
        have HT1 := Lib.hid t1
        have HB5 := Lib.hid (HBw.out.trans (b5.mono HBw.out.size))
        have HLq := Lib.hid (HL2.out _ w5 (HRq.out.below b5))
        have HRi5 := Lib.hid (HRi.out.below b5)
        clear t1 b5 HLa HL2 HRq HRi HBw
        go_wp2_with fail
        refine HLq.out.mono ?_
        rintro e' w6 ⟨u2, rfl, t2, b6⟩
        have HT2 := Lib.hid t2
        have HT16 := Lib.hid (HT1.out.below b6)
        have HB6 := Lib.hid (HB5.out.trans (b6.mono HB5.out.size))
        have HLi := Lib.hid (HL3.out _ w6 (HRi5.out.below b6))
        clear t2 b6 HLq HL3 HRi5 HB5 HT1
        go_wp2_with fail
        refine HLi.out.mono ?_
        rintro e' w7 ⟨u3, rfl, t3, b7⟩
        have HT3 := Lib.hid t3
        have HT17 := Lib.hid (HT16.out.below b7)
        have HT27 := Lib.hid (HT2.out.below b7)
        have HB7 := Lib.hid (HB6.out.trans (b7.mono HB6.out.size))
        obtain ⟨a1, k1, hu1⟩ := HT17.out.len
        obtain ⟨a2, k2, hu2⟩ := HT27.out.len
        obtain ⟨a3, k3, hu3⟩ := HT3.out.len
        subst hu1
        subst hu2
        subst hu3
        clear t3 b7 HLi HB6 HT16 HT2
        by_cases hn : xs = []
        · subst hn
          have r0 : lnsB [] = ([], 0) := lns_some (allE_nil (by omega))
          have r1 : lnsB (([] : List Tx).map mq) = ([], 0) := r0
          have r2 : lnsB (itl []) = ([], 0) := r0
          have l0 : ([] : List Tx).length = 0 := rfl
          have l1 : ([] : List Bk).length = 0 := rfl
          simp only [r0, r1, r2, l0, l1]
          clear HQl HDp HT17 HT27 HT3 HRd Hsz r0 r1 r2 l0 l1
          go_wp2_with fail
          go_ret
          exact ⟨rfl, HB7.out⟩
        · have hnp : 0 < xs.length := List.length_pos_iff.2 hn
          have g0 : ((xs.length : Int) == 0) = false := by rw [beq_eq_false_iff_ne]; omega
          rcases HQl.out hn with ⟨q1, q2, q3⟩ | ⟨x, x', q1, hd16, q2, q3, hx'⟩
          · rw [q1, q2, q3]
            clear HQl HDp HT17 HT27 HT3 HRd Hsz q1 q2 q3 hn
            go_wp2_with fail
            go_ret
            exact ⟨rfl, HB7.out⟩
          · have HDx := Lib.hid (HDp.out x q1)
            rw [q1] at HT17 ⊢
            simp only at HT17
            unfold NumB at HDx
            have hd0 := dp_ge x
            generalize dp x = D at *
            have hw1 : IntKind.i64.wrap (D + 1) = D + 1 := by rw [IntKind.wrap_i64]; omega
            have hw2 : IntKind.i64.wrap (D + 2) = D + 2 := by rw [IntKind.wrap_i64]; omega
            obtain ⟨n1, hn1⟩ : ∃ q, q = xs.length - 1 := ⟨_, rfl⟩
            have hn1l : n1 < xs.length := by omega
            have hn1i : (n1 : Int) < (xs.length : Int) := by omega
            have wl : IntKind.i64.wrap ((xs.length : Int) - 1) = (n1 : Int) := by rw [IntKind.wrap_i64]; omega
            have hlast : xs.getLast? = some xs[n1] := by rw [List.getLast?_eq_getElem?, ← hn1, List.getElem?_eq_getElem hn1l]
            have HXx : Hid ((∃ c ∈ xs[n1], gapB c = false) → x' = x) := Lib.hid (fun h => hx' (fun z hz => by
              rw [hlast] at hz
              injection hz with hz
              rw [← hz]
              exact kd_gap h))
            obtain ⟨Y, hY⟩ : ∃ Y, lnsB (xs.map mq) = Y := ⟨_, rfl⟩
            obtain ⟨Z, hZ⟩ : ∃ Z, lnsB (itl xs) = Z := ⟨_, rfl⟩
            rw [hY] at q2 HT27 ⊢
            rw [hZ] at q3 HT3 ⊢
            obtain ⟨y, f⟩ := Y
            obtain ⟨z, g⟩ := Z
            simp only at HT27 HT3
            have hbf : ∃ bf : Bool, (f == 0) = bf ∧ (f != 0) = !bf ∧ decide (D + 1 ≤ 16) = bf ∧ (bf = true → y = qtB x) := by
              by_cases hc : D + 1 ≤ 16
              · rw [if_pos hc] at q2
                simp only [Prod.mk.injEq] at q2
                obtain ⟨h1, h2⟩ := q2
                subst h2
                exact ⟨true, rfl, rfl, decide_eq_true hc, fun _ => h1⟩
              · rw [if_neg hc] at q2
                simp only [Prod.mk.injEq] at q2
                obtain ⟨h1, h2⟩ := q2
                subst h2
                exact ⟨false, rfl, rfl, decide_eq_false hc, fun h => by cases h⟩
            have hbg : ∃ bg : Bool, (g == 0) = bg ∧ (g != 0) = !bg ∧ decide (D + 2 ≤ 16) = bg ∧ (bg = true → z = lsB x') := by
              by_cases hc : D + 2 ≤ 16
              · rw [if_pos hc] at q3
                simp only [Prod.mk.injEq] at q3
                obtain ⟨h1, h2⟩ := q3
                subst h2
                exact ⟨true, rfl, rfl, decide_eq_true hc, fun _ => h1⟩
              · rw [if_neg hc] at q3
                simp only [Prod.mk.injEq] at q3
                obtain ⟨h1, h2⟩ := q3
                subst h2
                exact ⟨false, rfl, rfl, decide_eq_false hc, fun h => by cases h⟩
            obtain ⟨bf, ef1, ef2, ef3, HY⟩ := hbf
            obtain ⟨bg, eg1, eg2, eg3, HZ⟩ := hbg
            have HY := Lib.hid HY
            have HZ := Lib.hid HZ
            have hnb : (bf != bf) = false := by cases bf <;> rfl
            have hnb2 : (bg != bg) = false := by cases bg <;> rfl
            have hsl := Hsz.out n1 hn1l
            clear HQl HDp q1 q2 q3 hY hZ hlast hn1 hx' hn hd16 hd0
            go_wp2_with fail
            refine (HDx.out _ _ HT17.out).mono ?_
            rintro e' w8 ⟨rfl, b8⟩
            have HT18 := Lib.hid (HT17.out.below b8)
            have HT28 := Lib.hid (HT27.out.below b8)
            have HT38 := Lib.hid (HT3.out.below b8)
            have HB8 := Lib.hid (HB7.out.trans (b8.mono HB7.out.size))
            obtain ⟨bl, ol, hbl, c0⟩ := HRd.out w8 HB8.out n1 hn1l
            subst hbl
            generalize xs[n1] = lt at *
            have hls : (S lt).size ≤ 700 := by rw [S_size]; exact hsl
            have HLt : Hid ((S lt).data.toList = lt) := Lib.hid (S_list lt)
            generalize S lt = sl at *
            clear b8 HDx HT17 HT27 HT3 HB7 HRd Hsz hsl
            go_wp2_with fail
            go_loopg [14] sl.size (fun g bv wx => ∃ (i : Nat) (bb : Bool), bv = .bool bb ∧ sl.size - i ≤ g ∧ wx.heap[w8.heap.size]? = some (.stringIter sl i) ∧ Below w8.heap.size w8 wx ∧ Hid (bb = false → ∃ c ∈ lt, gapB c = false))
            case atStart => exact ⟨0, true, rfl, by omega, World.iter_heap _ _ _, (Below.refl _ _).alloc (Nat.le_refl _) _, Lib.hid (fun h => by cases h)⟩
            case round =>
              obtain ⟨i, bb, rfl, hg, hIt, hb, hno⟩ := hrel
              have HB := Lib.hid hb
              by_cases hlt : i < sl.size
              · obtain ⟨g', rfl⟩ : ∃ g, gk = g + 1 := ⟨gk - 1, by omega⟩
                have hnx : ∀ ty, (Instr.next (.pointer (some ⟨w8.heap.size, 0, none⟩)) true ty).run Tryz.prog wr = _ := fun ty => Lib.run_next_any_at wr w8.heap.size sl i ty hIt hlt
                have hwp := Lib.decode_width_pos sl i hlt
                have hii : (i : Int) < (sl.size : Int) := by omega
                generalize (Utf8.decode sl i).1 = rn at *
                generalize (Utf8.decode sl i).2 = wd at *
                have hit1 := Lib.hid (Lib.iterAt_heap wr w8.heap.size sl i (i + wd) hIt)
                have hbw1 := Lib.hid (Lib.below_iterAt hb (k := w8.heap.size) (Nat.le_refl _) sl (i + wd))
                have hmem : Hid (sl[i] ∈ lt) := Lib.hid (by
                  rw [← HLt.out]
                  have h3 := at_data sl i hlt
                  exact List.mem_of_mem_drop (by rw [h3]; exact List.mem_cons_self ..))
                clear hb hIt
                generalize wr.iterAt w8.heap.size sl (i + wd) = w9 at *
                obtain ⟨x9, hx9⟩ : ∃ q : UInt8, sl[i] = q := ⟨_, rfl⟩
                rw [hx9] at hmem
                cases bb with
                | false =>
                  clear hmem hx9
                  go_wp2_with fail
                  go_roundg g'
                  case measure => omega
                  case rel => exact ⟨i + wd, false, rfl, by omega, hit1.out, hbw1.out, Lib.hid (fun _ => hno.out (by first | rfl | trivial))⟩
                | true =>
                  by_cases c1 : x9 = 32
                  · have t1 : ((sl[i].toNat : Int) == 32) = true := by rw [hx9, c1]; rfl
                    clear hmem hx9 c1
                    go_wp2_with fail
                    go_roundg g'
                    case measure => omega
                    case rel => exact ⟨i + wd, true, rfl, by omega, hit1.out, hbw1.out, Lib.hid (fun h => by cases h)⟩
                  · have n1' : (x9.toNat : Int) ≠ 32 := fun e => c1 (UInt8.toNat_inj.1 (by show x9.toNat = 32; omega))
                    have t1 : ((sl[i].toNat : Int) == 32) = false := by rw [hx9, beq_eq_false_iff_ne]; exact n1'
                    by_cases c2 : x9 = 9
                    · have t2 : ((sl[i].toNat : Int) == 9) = true := by rw [hx9, c2]; rfl
                      clear hmem hx9 c1 c2 n1'
                      go_wp2_with fail
                      go_roundg g'
                      case measure => omega
                      case rel => exact ⟨i + wd, true, rfl, by omega, hit1.out, hbw1.out, Lib.hid (fun h => by cases h)⟩
                    · have n2' : (x9.toNat : Int) ≠ 9 := fun e => c2 (UInt8.toNat_inj.1 (by show x9.toNat = 9; omega))
                      have t2 : ((sl[i].toNat : Int) == 9) = false := by rw [hx9, beq_eq_false_iff_ne]; exact n2'
                      have hno2 : Hid (∃ c ∈ lt, gapB c = false) := Lib.hid (⟨x9, hmem.out, by
                        unfold gapB
                        rw [Bool.or_eq_false_iff, beq_eq_false_iff_ne, beq_eq_false_iff_ne]
                        exact ⟨c1, c2⟩⟩)
                      clear hmem hx9 c1 c2 n1' n2'
                      go_wp2_with fail
                      go_roundg g'
                      case measure => omega
                      case rel => exact ⟨i + wd, false, rfl, by omega, hit1.out, hbw1.out, Lib.hid (fun _ => hno2.out)⟩
              · have hnx := fun ty => Lib.run_next_end_at (P := Tryz.prog) wr w8.heap.size sl i ty hIt hlt
                have HT19 := Lib.hid (HT18.out.below hb)
                have HT29 := Lib.hid (HT28.out.below hb)
                have HT39 := Lib.hid (HT38.out.below hb)
                have HB9 := Lib.hid (HB8.out.trans (hb.mono HB8.out.size))
                have HQ1 := Lib.hid (fun W (hW : Below wr.heap.size wr W) => (show TrB (W.alloc (.cells #[.int .i64 5, .int .i64 0, .string ⟨#[]⟩, .slice none 0 0, .slice none 0 0, .slice a1 x.length k1] 42)) (.slice (some ⟨W.heap.size, 0, none⟩) 1 1) (qtB x) from litB (k := 5) (lv := 0) (i := []) (nilRd W) (by simp) (nilTr W) (HT19.out.below hW) 42))
                have HQ7 := Lib.hid (fun W (hW : Below wr.heap.size wr W) => (show TrB (W.alloc (.cells #[.int .i64 7, .int .i64 0, .string ⟨#[]⟩, .slice none 0 0, .slice none 0 0, .slice a1 x.length k1] 42)) (.slice (some ⟨W.heap.size, 0, none⟩) 1 1) (itB7 x) from litB (k := 7) (lv := 0) (i := []) (nilRd W) (by simp) (nilTr W) (HT19.out.below hW) 42))
                have HQ6 := Lib.hid (fun (W : World) (n m : Nat) (hm : W.heap.size = m) (hW : TrB W (.slice (some ⟨n, 0, none⟩) 1 1) (itB7 x)) => (show TrB (W.alloc (.cells #[.int .i64 6, .int .i64 0, .string ⟨#[]⟩, .slice none 0 0, .slice none 0 0, .slice (some ⟨n, 0, none⟩) 1 1] 42)) (.slice (some ⟨m, 0, none⟩) 1 1) (lsB x) from by subst hm; exact litB (k := 6) (lv := 0) (i := []) (nilRd W) (by simp) (nilTr W) hW 42))
                have HSq := Lib.hid (fun (va vb : Value) (w' : World) (ta : TrB w' va (qtB x)) (tb : TrB w' vb (qtB x)) => rsameB_any (szAll (qtB x)) (qtB x) (qtB x) va vb w' (Nat.le_refl _) ta tb)
                have hsm1 : smB (qtB x) (qtB x) = true := (smB_iff _ _).2 rfl
                simp only [hsm1] at HSq
                have HSl := Lib.hid (fun (va vb : Value) (w' : World) (ta : TrB w' va (lsB x)) (tb : TrB w' vb (lsB x)) => rsameB_any (szAll (lsB x)) (lsB x) (lsB x) va vb w' (Nat.le_refl _) ta tb)
                have hsm2 : smB (lsB x) (lsB x) = true := (smB_iff _ _).2 rfl
                simp only [hsm2] at HSl
                clear hb hlt hsm1 hsm2 HT18 HT28 HT38 HB8 HLt hls hIt HB
                cases bf with
                | false =>
                  cases bg with
                  | true => exact absurd (of_decide_eq_true eg3) (by have := of_decide_eq_false ef3; omega)
                  | false =>
                    simp only [Bool.not_false] at ef2 eg2
                    clear HQ1 HQ7 HQ6 HSq HSl HY HZ HXx HT19 HT29 HT39 hno ef3 eg3
                    go_wp2_with fail
                    go_ret
                    exact ⟨rfl, HB9.out⟩
                | true =>
                  have hy := HY.out rfl
                  subst hy
                  simp only [Bool.not_true] at ef2
                  clear HY ef3
                  go_wp2_with fail
                  refine (HSq.out _ _ _ (HT29.out.below ((Below.refl _ _).alloc (Nat.le_refl _) _)) (HQ1.out _ (Below.refl _ _))).mono ?_
                  rintro e' w10 ⟨rfl, b10⟩
                  have hbx := ((Below.refl wr.heap.size wr).alloc (Nat.le_refl _) _).trans (b10.mono (by simp))
                  have HBx := Lib.hid hbx
                  have HB10 := Lib.hid (HB9.out.trans (hbx.mono HB9.out.size))
                  have HT310 := Lib.hid (HT39.out.below hbx)
                  clear b10 hbx HQ1 HSq HT29 HT39 HT19 HB9
                  cases bg with
                  | false =>
                    simp only [Bool.not_false] at eg2
                    clear HQ7 HQ6 HSl HZ HXx HT310 hno eg3 HBx
                    go_wp2_with fail
                    go_ret
                    exact ⟨rfl, HB10.out⟩
                  | true =>
                    simp only [Bool.not_true] at eg2
                    cases bb with
                    | true =>
                      clear HQ7 HQ6 HSl HZ HXx HT310 hno eg3 HBx
                      go_wp2_with fail
                      go_ret
                      exact ⟨rfl, HB10.out⟩
                    | false =>
                      have hxx := HXx.out (hno.out rfl)
                      have hz := HZ.out rfl
                      subst hxx
                      subst hz
                      clear HZ HXx hno eg3
                      go_wp2_with fail
                      refine (HSl.out _ _ _ ?_ ?_).mono ?_
                      · exact HT310.out.below (((Below.refl _ _).alloc (Nat.le_refl _) _).alloc (by simp) _)
                      · exact HQ6.out _ _ _ (by simp) (HQ7.out _ HBx.out)
                      rintro e' w11 ⟨rfl, b11⟩
                      have hby := (((Below.refl w10.heap.size w10).alloc (Nat.le_refl _) _).alloc (by simp) _).trans (b11.mono (by simp; omega))
                      have HB11 := Lib.hid (HB10.out.trans (hby.mono HB10.out.size))
                      clear hby
                      clear b11 HT310 HQ6 HQ7 HSl HB10 HBx
                      go_wp2_with fail
                      go_ret
                      exact ⟨rfl, HB11.out⟩

end Go.Proofs.YtihihgfcklkkhaaGreatDoor.Pa
