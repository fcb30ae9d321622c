/-
  THE WALK of the statement KindHeads.
-/
import Derived.Test.YtpenjdnbnacebaaDoorKdPlnWalk
import Derived.Test.YtpenjdnbnacebaaDoorBtLabelsWalk
namespace Go.Proofs.YtpenjdnbnacebaaDoor.Kd
open Go.RowKit
open Go.Proofs.YtpenjdnbnacebaaDoor.Tk (S S_of S_list S_size S_toList S_app ret_int eq8 ne8 at_data len_data Rd)
open Go.Proofs.YtpenjdnbnacebaaDoor.Cm (calls_at alloc_new alloc_at cell_at)
open Go.Proofs.YtpenjdnbnacebaaDoor.Sp (ret_bool OkAns dsB)
open Go.Proofs.YtpenjdnbnacebaaDoor.Bt (TrB labB litB litR dfn dfn_rg dfn_fit dfn_tt rgB rrightB_any fitAll fitAll_wide lnTot ttAll nilS nilB nilR)
open Go.Proofs.YtpenjdnbnacebaaDoor.Bk (Tx Bk define kindOf inner unquote trim_ne run_head kind_head run_reps define_ok kind_def df_some past label_no label isDest df)
open Go.Proofs.YtpenjdnbnacebaaDoor.Ln (run mx trim dl dr gapB dr_last dr_cons dl_no dl_yes dr_dl dr_yes dr_no)
set_option linter.unusedVariables false

def hsh (a : Nat) : Tx := List.replicate a 35
theorem hsh_len (a : Nat) : (hsh a).length = a := by simp [hsh]
def hl (n : Nat) (l : Tx) : Tx := hsh n ++ 32 :: l
theorem hl_run (n : Nat) (l : Tx) : run 35 (hl n l) = n := run_reps 35 _ (by simp) n
theorem hl_kind (n : Nat) (h1 : 1 ≤ n) (l : Tx) : kindOf E0 (hl n l) = 2 ↔ n ≤ 6 := by
  constructor
  · intro h
    rw [kd_eq] at h
    have h2 : T2 (hl n l) = true := by
      cases ht : T2 (hl n l) with
      | true => rfl
      | false =>
        rw [ht] at h
        unfold kdB at h
        repeat' split at h
        all_goals first | contradiction | omega
    unfold T2 at h2
    have h2 := of_decide_eq_true h2
    rw [hl_run] at h2
    exact h2.1.2
  · intro h
    exact (kind_head E0 n h1 h (32 :: l) (Or.inr ⟨l, rfl⟩)).1
theorem trim_sp (l : Tx) : trim (32 :: l) = trim l := by
  show dl (dr (32 :: l)) = dl (dr l)
  rw [← dr_dl, ← dr_dl, dl_yes (by decide)]
theorem hl_N (n : Nat) (h1 : 1 ≤ n) (l : Tx) : hdN (hl n l) = if n ≤ 6 then n else 0 := by
  unfold hdN
  by_cases h : n ≤ 6
  · rw [if_pos ((hl_kind n h1 l).2 h), if_pos h, hl_run]
  · rw [if_neg (fun e => h ((hl_kind n h1 l).1 e)), if_neg h]
theorem hl_T (n : Nat) (h1 : 1 ≤ n) (l : Tx) (h : n ≤ 6) : hdT (hl n l) = trim l := by
  unfold hdT
  rw [if_pos ((hl_kind n h1 l).2 h), hl_run, show (hl n l).drop n = 32 :: l from List.drop_left' (hsh_len n), trim_sp]
/-! A definition's line. -/
def dline (a t : Tx) : Tx := 91 :: (a ++ 93 :: 58 :: 32 :: t)
theorem dline_yes (a t : Tx) (h1 : labB a = true) (h2 : dsB t = true) : dfB (dline a t) = .mk 8 0 a [t] [] [] := by
  have g1 : label E0 a = true := by rw [lab_eq]; exact h1
  have g2 : isDest t = true := by rw [dest_eq]; exact h2
  unfold dfB dline
  rw [if_pos (kind_def E0 a t g1 g2), define_ok E0 a t g1 g2]
theorem dline_none (a t : Tx) (h : ¬ (labB a = true ∧ dsB t = true)) : define E0 (dline a t) = none := by
  cases hd : define E0 (dline a t) with
  | none => rfl
  | some p =>
    exfalso
    obtain ⟨x, y⟩ := p
    obtain ⟨p, hp, ht, hl, hde⟩ := df_some E0 _ [] x y hd
    rw [List.nil_append] at hp
    subst hp
    have h93 := label_no E0 x hl
    rcases past ht with ⟨a', e1, e2⟩ | ⟨c', e1, e2⟩
    · cases a' with
      | nil =>
        rw [List.append_nil] at e1
        rw [List.nil_append] at e2
        have e3 : t = y := by simpa using e2
        subst e1; subst e3
        rw [lab_eq] at hl
        rw [dest_eq] at hde
        exact h ⟨hl, hde⟩
      | cons c r =>
        have e3 : (93 : UInt8) = c := (List.cons.inj e2).1
        exact h93 (by rw [e1, e3]; simp)
    · have hd93 : (93 : UInt8) ∈ y := by
        match c', e2 with
        | [], e2 => have e2 : (58 : UInt8) :: 32 :: y = 93 :: 58 :: 32 :: t := e2
                    have := (List.cons.inj e2).1; exact absurd this (by decide)
        | [c], e2 => have e2 : (58 : UInt8) :: 32 :: y = c :: 93 :: 58 :: 32 :: t := e2
                     have := (List.cons.inj (List.cons.inj e2).2).1; exact absurd this (by decide)
        | c :: d :: r, e2 =>
          have e2 : (58 : UInt8) :: 32 :: y = c :: d :: (r ++ 93 :: 58 :: 32 :: t) := e2
          rw [(List.cons.inj (List.cons.inj e2).2).2]
          simp
      rw [dest_eq] at hde
      unfold dsB at hde
      rw [Bool.and_eq_true, List.all_eq_true] at hde
      have := hde.1 93 hd93
      revert this
      decide
theorem dline_no (a t : Tx) (h : ¬ (labB a = true ∧ dsB t = true)) : dfB (dline a t) = .mk 0 0 [] [] [] [] := by
  unfold dfB
  rw [dline_none a t h]
  split <;> rfl

def headGap : Tx → Bool
  | [] => false
  | x :: _ => gapB x
def lastGap (u : Tx) : Bool := (u.getLast?.map gapB).getD false
theorem lastGap_snoc (r : Tx) (x : UInt8) : lastGap (r ++ [x]) = gapB x := by simp [lastGap]
def szOf (v : Value) : Nat := match v with | .string b => b.size | _ => 0
theorem S_last (r : Tx) (x : UInt8) (h : (S (r ++ [x])).size - 1 < (S (r ++ [x])).size) : (S (r ++ [x]))[(S (r ++ [x])).size - 1] = x := by
  have e : (S (r ++ [x])).size - 1 = r.length := by rw [S_size, List.length_append]; rfl
  have h2 : (S (r ++ [x])).data.toList[(S (r ++ [x])).size - 1]? = some x := by
    rw [S_list, e, List.getElem?_append_right (Nat.le_refl _), Nat.sub_self]
    rfl
  rw [data_get _ _ h] at h2
  exact Option.some.inj h2
theorem S_first (r : Tx) (x : UInt8) (h : 0 < (S (x :: r)).size) : (S (x :: r))[0] = x := rfl
theorem snoc_of (u : Tx) (h : u ≠ []) : ∃ r x, u = r ++ [x] := ⟨u.dropLast, u.getLast h, (List.dropLast_concat_getLast h).symm⟩

set_option maxHeartbeats 12800000 in
set_option maxRecDepth 100000 in
theorem kindHeads_walk (K : Told11) (w : World) (cl : UInt8) (s : ByteArray) (hs : s.size ≤ maxLen) (hr : s.size ≤ reachBytes) (sa : ByteArray) (hsa : sa.size ≤ maxLen) (hra : sa.size ≤ reachBytes) (st : ByteArray) (hst : st.size ≤ maxLen) (hrt : st.size ≤ reachBytes) :
    Calls Tryd.prog 5 #[.int .u8 cl.toNat, .string s, .string sa, .string st] w (OkAns w true) := by
  have HA := Lib.hid (awake11_any K)
  have hrb : reachBytes ≤ 140737488355328 := by decide
  by_cases hl0 : s.size + sa.size + st.size ≤ 1000
  · have g0 : ¬ 1000 < (s.size : Int) + (sa.size : Int) + (st.size : Int) := by omega
    have g0b : decide ((s.size : Int) + (sa.size : Int) + (st.size : Int) > 1000) = false := decide_eq_false (by omega)
    have c256 : cl.toNat < 256 := cl.toNat_lt
    generalize cl.toNat = vl at *
    obtain ⟨nm, hnm⟩ : ∃ x, x = vl % 8 := ⟨_, rfl⟩
    have r1 : (vl : Int) % 8 = (nm : Int) := by omega
    have r2 : (vl : Int).tmod 8 = (nm : Int) := by rw [Int.tmod_eq_emod_of_nonneg (by omega)]; exact r1
    have m8 : nm < 8 := by omega
    obtain ⟨na, hna⟩ : ∃ x, x = 1 + nm := ⟨_, rfl⟩
    have r3 : IntKind.i64.wrap (1 + (nm : Int)) = (na : Int) := by rw [IntKind.wrap_i64]; omega
    have n1 : 1 ≤ na := by omega
    have n8 : na ≤ 8 := by omega
    clear hnm hna m8
    have hlsz : (S (hl na s.data.toList)).size ≤ 20000 := by rw [S_size]; unfold hl; rw [List.length_append, hsh_len, List.length_cons, len_data]; omega
    have K1 := Lib.hid (fun w' => K.head (S (hl na s.data.toList)) w' hlsz)
    have dlsz : (S (dline sa.data.toList st.data.toList)).size ≤ 20000 := by rw [S_size]; unfold dline; simp only [List.length_cons, List.length_append, len_data]; omega
    have K2 := Lib.hid (fun w' => K.defines (S (dline sa.data.toList st.data.toList)) w' dlsz)
    simp only [S_list] at K1 K2
    unfold LevK at K1
    have HN : Hid (hdN (hl na s.data.toList) = if na ≤ 6 then na else 0) := Lib.hid (hl_N na n1 _)
    have HT : Hid (na ≤ 6 → hdT (hl na s.data.toList) = trim s.data.toList) := Lib.hid (hl_T na n1 _)
    have rl : ∀ k : Nat, (S (hsh k)).size = k := fun k => by rw [S_size, hsh_len]
    have stp : ∀ k : Nat, S (hsh k) ++ (⟨#[35]⟩ : ByteArray) = S (hsh (k + 1)) := fun k => by
      show S (hsh k) ++ S [35] = _
      rw [S_app]
      unfold hsh
      rw [List.replicate_succ']
    have HSt := Lib.hid stp
    have HRl := Lib.hid rl
    have z35 : (⟨#[35]⟩ : ByteArray).size = 1 := rfl
    have z32 : (⟨#[32]⟩ : ByteArray).size = 1 := rfl
    have z91 : (⟨#[91]⟩ : ByteArray).size = 1 := rfl
    have z93 : (⟨#[93, 58, 32]⟩ : ByteArray).size = 3 := rfl
    have s0 : (⟨#[]⟩ : ByteArray) = S (hsh 0) := rfl
    have HFx : Hid (S (hsh na) ++ (⟨#[32]⟩ : ByteArray) ++ s = S (hl na s.data.toList)) := Lib.hid (by
      show S (hsh na) ++ S [32] ++ s = _
      rw [S_app]
      conv => lhs; rw [← S_of s]
      rw [S_app]
      unfold hl
      simp)
    have HFs : Hid ((S (hsh na) ++ (⟨#[32]⟩ : ByteArray)).size = na + 1) := Lib.hid (by rw [ByteArray.size_append, rl]; rfl)
    have HDx : Hid ((⟨#[91]⟩ : ByteArray) ++ sa ++ (⟨#[93, 58, 32]⟩ : ByteArray) ++ st = S (dline sa.data.toList st.data.toList)) := Lib.hid (by
      show S [91] ++ sa ++ S [93, 58, 32] ++ st = _
      conv => lhs; rw [← S_of sa, ← S_of st]
      rw [S_app, S_app, S_app]
      unfold dline
      simp)
    have HDs1 : Hid (((⟨#[91]⟩ : ByteArray) ++ sa).size = 1 + sa.size) := Lib.hid (by rw [ByteArray.size_append]; rfl)
    have HDs2 : Hid (((⟨#[91]⟩ : ByteArray) ++ sa ++ (⟨#[93, 58, 32]⟩ : ByteArray)).size = 1 + sa.size + 3) := Lib.hid (by rw [ByteArray.size_append, ByteArray.size_append]; rfl)
    have la : sa.data.toList.length ≤ 2000 := by rw [len_data]; omega
    have lt : st.data.toList.length ≤ 2000 := by rw [len_data]; omega
    have HRg := Lib.hid (fun v w' (h : TrB w' v (dfn 0 sa.data.toList [st.data.toList] [])) => by
      have h0 := rrightB_any _ v w' (fitAll_wide (by decide) _ (dfn_fit (lv := 0) (by omega) la (fun x hx => by rw [List.mem_singleton.1 hx]; exact lt) (by unfold fitAll; trivial))) (dfn_tt (lv := 0) la (by simp [lnTot]; omega) (by rw [ttAll]; omega)) h
      rw [dfn_rg] at h0
      exact h0)
    have HY : Hid (labB sa.data.toList = true ∧ dsB st.data.toList = true → dfB (dline sa.data.toList st.data.toList) = .mk 8 0 sa.data.toList [st.data.toList] [] []) := Lib.hid (fun h => dline_yes _ _ h.1 h.2)
    have HNo : Hid (¬ (labB sa.data.toList = true ∧ dsB st.data.toList = true) → dfB (dline sa.data.toList st.data.toList) = .mk 0 0 [] [] [] []) := Lib.hid (fun h => dline_no _ _ h)
    have eSa := Lib.hid (S_of sa)
    have eSt := Lib.hid (S_of st)
    have hl1 : s.size ≤ 1000 := by omega
    have hl2 : sa.size + st.size ≤ 1000 := by omega
    have zg : ¬ (9223372036854775807 < (s.size : Int) + (sa.size : Int)) := by omega
    clear K rl stp hs hr hsa hra hst hrt hrb hlsz dlsz la lt hl0
    go_enter Tryd.func5, Tryd.ntmps5
    go_wp2_with fail
    refine (HA.out _).mono ?_
    rintro e w2 ⟨rfl, b2⟩
    have B2 := Lib.hid b2
    clear b2 HA
    go_wp2_with fail
    rw [s0]
    clear s0
    go_loop [10, 34] (fun v i => ∃ k : Nat, k ≤ na ∧ i = .int .i64 k ∧ v = .string (S (hsh k))) (fun _ i => na - (intOf i).toNat)
    case atStart => exact ⟨0, Nat.zero_le _, rfl, rfl⟩
    case round =>
      obtain ⟨k, hk, rfl, rfl⟩ := hrel
      by_cases hlt : k < na
      · have hi1 : (k : Int) < (na : Int) := by omega
        have hsz := HRl.out k
        have hst := HSt.out k
        have zz : ¬ (9223372036854775807 < k + 1) := by omega
        generalize S (hsh k) = sk at *
        go_wp2_with fail
        go_round
        case rel => exact ⟨k + 1, by omega, by go_num, rfl⟩
        case measure => simp [intOf] <;> omega
      · obtain rfl : k = na := by omega
        have hi1 : ¬ (k : Int) < (k : Int) := by omega
        clear hlt HSt
        have hfx := HFx.out
        have hfs := HFs.out
        have hrs : (S (hsh k)).size = k := by rw [S_size, hsh_len]
        have zz : ¬ (9223372036854775807 < k + 1) := by omega
        have zz2 : ¬ (9223372036854775807 < k + 1 + s.size) := by omega
        clear HFx HFs HRl
        generalize S (hl k s.data.toList) = sx at *
        generalize S (hsh k) = sr at *
        generalize hdT (hl k s.data.toList) = tT at *
        generalize hdN (hl k s.data.toList) = hN at *
        go_wp2_with fail
        refine (K1.out _).mono ?_
        rintro e w3 ⟨rfl, b3⟩
        have B3 := Lib.hid (B2.out.trans (b3.mono B2.out.size))
        clear b3
        clear hfx hfs hrs zz zz2 K1 B2
        go_upto_region 10 with fail
        go_cut [61] from 15 to 148 (fun v wx => v = .bool false ∧ w3 = wx)
        case first =>
          have hN' := HN.out
          clear HT K2 HRg HY HNo HDx HDs1 HDs2 HN
          by_cases c6 : k ≤ 6
          · rw [if_pos c6] at hN'
            have t1a : ((hN : Int) == (k : Int)) = true := by rw [beq_iff_eq]; omega
            have t1b : ((hN : Int) != (k : Int)) = false := by rw [bne, t1a]; rfl
            have t2a : decide ((k : Int) ≤ (6 : Int)) = true := decide_eq_true (by omega)
            have t2c : decide (k ≤ 6) = true := decide_eq_true (by omega)
            have t2d : ((k : Int) ≤ (6 : Int)) := by omega
            have t3a : ((hN : Int) == (0 : Int)) = false := beq_eq_false_iff_ne.2 (by omega)
            have t3b : ((hN : Int) != (0 : Int)) = true := by rw [bne, t3a]; rfl
            clear hN' c6
            go_wp2_with fail
            go_meet
            exact ⟨by simp_all, rfl⟩
          · rw [if_neg c6] at hN'
            have t1a : ((hN : Int) == (k : Int)) = false := beq_eq_false_iff_ne.2 (by omega)
            have t1b : ((hN : Int) != (k : Int)) = true := by rw [bne, t1a]; rfl
            have t2a : decide ((k : Int) ≤ (6 : Int)) = false := decide_eq_false (by omega)
            have t2c : decide (k ≤ 6) = false := decide_eq_false (by omega)
            have t2d : ¬ ((k : Int) ≤ (6 : Int)) := by omega
            have t3a : ((hN : Int) == (0 : Int)) = true := by rw [beq_iff_eq]; omega
            have t3b : ((hN : Int) != (0 : Int)) = false := by rw [bne, t3a]; rfl
            clear hN' c6
            go_wp2_with fail
            go_meet
            exact ⟨by simp_all, rfl⟩
        case rest =>
          obtain ⟨rfl, rfl⟩ := hcut
          obtain ⟨l, hl⟩ : ∃ l, s.data.toList = l := ⟨_, rfl⟩
          have hsl : s = S l := by rw [← hl, S_of]
          have hll : l.length ≤ 1000 := by rw [← hl, len_data]; omega
          rw [hl] at HT
          go_wp2_with fail
          rw [hsl]
          clear hl hsl
          go_loop [1] (fun v => ∃ t : Tx, v = .string (S t) ∧ t.length ≤ 1000 ∧ Hid (Ln.dl t = Ln.dl l)) (fun v => szOf v)
          case atStart => exact ⟨l, rfl, hll, Lib.hid rfl⟩
          case round =>
            obtain ⟨t, rfl, htl, HD⟩ := hrel
            go_upto_region 12 with fail
            go_cut [1, 74] from 62 to 76 (fun v c wx => v = .string (S t) ∧ c = .bool (headGap t) ∧ w3 = wx)
            case first =>
              clear HT HN K2 HRg HY HNo HDx HDs1 HDs2 HD
              cases t with
              | nil =>
                have z0 : (S ([] : Tx)).size = 0 := rfl
                have u0 : ¬ (0 : Int) < ((S ([] : Tx)).size : Int) := by rw [z0]; decide
                have u1 : decide (((S ([] : Tx)).size : Int) > 0) = false := decide_eq_false (by rw [z0]; decide)
                have u2 : decide ((0 : Int) < ((S ([] : Tx)).size : Int)) = false := u1
                clear z0
                generalize S ([] : Tx) = b at *
                go_wp2_with fail
                go_meet
                exact ⟨rfl, rfl, rfl⟩
              | cons x r =>
                have hp : 0 < (S (x :: r)).size := by rw [S_size]; simp
                have hx := S_first r x hp
                have u0 : (0 : Int) < ((S (x :: r)).size : Int) := by omega
                have u1 : decide (((S (x :: r)).size : Int) > 0) = true := decide_eq_true u0
                have u2 : decide ((0 : Int) < ((S (x :: r)).size : Int)) = true := u1
                generalize S (x :: r) = b at *
                by_cases x32 : x = 32
                · have e1 : ((x.toNat : Int) == 32) = true := eq8 (b := 32) x32
                  have hg : gapB x = true := by rw [x32]; rfl
                  clear x32
                  go_wp2_with fail
                  go_meet
                  exact ⟨rfl, by rw [show headGap (x :: r) = gapB x from rfl, hg], rfl⟩
                · have e1 : ((x.toNat : Int) == 32) = false := ne8 (b := 32) x32
                  by_cases x9 : x = 9
                  · have e2 : ((x.toNat : Int) == 9) = true := eq8 (b := 9) x9
                    have hg : gapB x = true := by rw [x9]; rfl
                    clear x32 x9
                    go_wp2_with fail
                    go_meet
                    exact ⟨rfl, by rw [show headGap (x :: r) = gapB x from rfl, hg], rfl⟩
                  · have e2 : ((x.toNat : Int) == 9) = false := ne8 (b := 9) x9
                    have hg : gapB x = false := by unfold gapB; simp [x32, x9]
                    clear x32 x9
                    go_wp2_with fail
                    go_meet
                    exact ⟨rfl, by rw [show headGap (x :: r) = gapB x from rfl, hg], rfl⟩
            case rest =>
              obtain ⟨rfl, rfl, rfl⟩ := hcut
              have gapcase : (∃ x r, t = x :: r ∧ gapB x = true) ∨ (headGap t = false ∧ Ln.dl t = t) := by
                cases t with
                | nil => exact Or.inr ⟨rfl, rfl⟩
                | cons x r =>
                  cases hgx : gapB x with
                  | true => exact Or.inl ⟨x, r, rfl, hgx⟩
                  | false => exact Or.inr ⟨hgx, dl_no hgx r⟩
              rcases gapcase with ⟨x, r, rfl, hgx⟩ | ⟨hgx, hdt⟩
              · have HD2 : Hid (Ln.dl r = Ln.dl l) := Lib.hid (by rw [← HD.out, dl_yes hgx])
                have hp : 1 ≤ (S (x :: r)).size := by rw [S_size]; simp
                have hsl1 := fun w' => slice_end (S (x :: r)) 1 hp w'
                have hone : ((1 : Nat) : Int) = 1 := rfl
                simp only [end_S, S_list, List.drop_succ_cons, List.drop_zero] at hsl1
                rw [hone] at hsl1
                have hm : szOf (.string (S r)) < szOf (.string (S (x :: r))) := by show (S r).size < (S (x :: r)).size; rw [S_size, S_size]; simp
                have HM := Lib.hid hm
                have htr : r.length ≤ 1000 := by simp at htl; omega
                clear HD hone hm htl
                rw [show headGap (x :: r) = true from hgx]
                clear hgx hp
                go_wp2_with fail
                go_round
                case rel => exact ⟨r, rfl, htr, HD2⟩
                case measure => exact HM.out
              · rw [hgx]
                have HE : Hid (Ln.dl l = t) := Lib.hid (by rw [← HD.out, hdt])
                clear HD hgx hdt
                go_wp2_with fail
                have HU0 : Hid (Ln.dr (t) = Ln.dr (Ln.dl l)) := Lib.hid (by rw [HE.out])
                go_loop [1] (fun v => ∃ u : Tx, v = .string (S u) ∧ u.length ≤ 1000 ∧ Hid (Ln.dr u = Ln.dr (Ln.dl l))) (fun v => szOf v)
                case atStart => exact ⟨t, rfl, htl, HU0⟩
                case round =>
                  clear HU0 HE htl
                  obtain ⟨u, rfl, hul, HU⟩ := hrel
                  go_upto_region 14 with fail
                  go_cut [1, 95] from 77 to 100 (fun v c wx => v = .string (S u) ∧ c = .bool (lastGap u) ∧ w3 = wx)
                  case first =>
                    clear HT HN K2 HRg HY HNo HDx HDs1 HDs2 HU
                    by_cases hu0 : u = []
                    · subst hu0
                      have z0 : (S ([] : Tx)).size = 0 := rfl
                      have u0 : ¬ (0 : Int) < ((S ([] : Tx)).size : Int) := by rw [z0]; decide
                      have u1 : decide (((S ([] : Tx)).size : Int) > 0) = false := decide_eq_false (by rw [z0]; decide)
                      have u2 : decide ((0 : Int) < ((S ([] : Tx)).size : Int)) = false := u1
                      clear z0
                      generalize S ([] : Tx) = b at *
                      go_wp2_with fail
                      go_meet
                      exact ⟨rfl, rfl, rfl⟩
                    · obtain ⟨r, x, rfl⟩ := snoc_of u hu0
                      have hp : 0 < (S (r ++ [x])).size := by rw [S_size]; simp
                      have hq : (S (r ++ [x])).size - 1 < (S (r ++ [x])).size := by omega
                      have hx := S_last r x hq
                      have hb : (S (r ++ [x])).size ≤ 1000 := by rw [S_size]; exact hul
                      have u0 : (0 : Int) < ((S (r ++ [x])).size : Int) := by omega
                      have u1 : decide (((S (r ++ [x])).size : Int) > 0) = true := decide_eq_true u0
                      have u2 : decide ((0 : Int) < ((S (r ++ [x])).size : Int)) = true := u1
                      clear hu0 hul
                      generalize S (r ++ [x]) = b at *
                      obtain ⟨bq, hbq⟩ : ∃ n, b.size - 1 = n := ⟨_, rfl⟩
                      have hw1 : IntKind.i64.wrap ((b.size : Int) - 1) = (bq : Int) := by rw [IntKind.wrap_i64]; omega
                      have hq2 : bq < b.size := by omega
                      have hq3 : (bq : Int) < (b.size : Int) := by omega
                      have hx2 : b[bq] = x := by rw [← hx]; congr 1; exact hbq.symm
                      clear hx hbq hq hp
                      by_cases x32 : x = 32
                      · have e1 : ((x.toNat : Int) == 32) = true := eq8 (b := 32) x32
                        have hg : gapB x = true := by rw [x32]; rfl
                        clear x32
                        go_wp2_with fail
                        go_meet
                        exact ⟨rfl, by rw [lastGap_snoc, hg], rfl⟩
                      · have e1 : ((x.toNat : Int) == 32) = false := ne8 (b := 32) x32
                        by_cases x9 : x = 9
                        · have e2 : ((x.toNat : Int) == 9) = true := eq8 (b := 9) x9
                          have hg : gapB x = true := by rw [x9]; rfl
                          clear x32 x9
                          go_wp2_with fail
                          go_meet
                          exact ⟨rfl, by rw [lastGap_snoc, hg], rfl⟩
                        · have e2 : ((x.toNat : Int) == 9) = false := ne8 (b := 9) x9
                          have hg : gapB x = false := by unfold gapB; simp [x32, x9]
                          clear x32 x9
                          go_wp2_with fail
                          go_meet
                          exact ⟨rfl, by rw [lastGap_snoc, hg], rfl⟩
                  case rest =>
                    obtain ⟨rfl, rfl, rfl⟩ := hcut
                    have gapcase : (∃ r x, u = r ++ [x] ∧ gapB x = true) ∨ (lastGap u = false ∧ Ln.dr u = u) := by
                      by_cases hu0 : u = []
                      · subst hu0; exact Or.inr ⟨rfl, rfl⟩
                      · obtain ⟨r, x, rfl⟩ := snoc_of u hu0
                        cases hgx : gapB x with
                        | true => exact Or.inl ⟨r, x, rfl, hgx⟩
                        | false => exact Or.inr ⟨by rw [lastGap_snoc, hgx], dr_no hgx r⟩
                    rcases gapcase with ⟨r, x, rfl, hgx⟩ | ⟨hgx, hdu⟩
                    · have HU2 : Hid (Ln.dr r = Ln.dr (Ln.dl l)) := Lib.hid (by rw [← HU.out, dr_yes hgx])
                      have hgl : lastGap (r ++ [x]) = true := by rw [lastGap_snoc, hgx]
                      rw [hgl]
                      have hbs : (S (r ++ [x])).size = r.length + 1 := by rw [S_size, List.length_append]; rfl
                      have hsl1 := fun w' => slice_to (S (r ++ [x])) r.length (by omega) w'
                      have hex : (S (r ++ [x])).extract 0 r.length = S r := by rw [mid_S, S_list]; simp
                      rw [hex] at hsl1
                      have hm : szOf (.string (S r)) < szOf (.string (S (r ++ [x]))) := by show (S r).size < (S (r ++ [x])).size; rw [S_size, S_size]; simp
                      have HM := Lib.hid hm
                      have htr : r.length ≤ 1000 := by rw [List.length_append] at hul; omega
                      have hw1 : IntKind.i64.wrap (((S (r ++ [x])).size : Int) - 1) = (r.length : Int) := by rw [IntKind.wrap_i64, hbs]; omega
                      clear HU hgl hbs hex hm hul hgx
                      generalize S (r ++ [x]) = b at hsl1 hw1 ⊢
                      obtain ⟨rn, hrn⟩ : ∃ n, r.length = n := ⟨_, rfl⟩
                      rw [hrn] at hsl1 hw1
                      clear hrn
                      go_wp2_with fail
                      go_round
                      case rel => exact ⟨r, rfl, htr, HU2⟩
                      case measure => exact HM.out
                    · rw [hgx]
                      have HE2 : Hid (u = trim l) := Lib.hid (by show u = Ln.dl (Ln.dr l); rw [← dr_dl, ← HU.out, hdu])
                      clear HU hgx hdu hul
                      go_upto_region 16 with fail
                      go_cut [107] from 101 to 148 (fun v wx => v = .bool false ∧ w3 = wx)
                      case first =>
                        have hN' := HN.out
                        have hT' := HT.out
                        clear HT HN K2 HRg HY HNo HDx HDs1 HDs2
                        by_cases c6 : k ≤ 6
                        · rw [if_pos c6] at hN'
                          have hn0 : ((hN : Int) != 0) = true := by rw [bne_iff_ne]; omega
                          have hxs : ((S tT).toList != (S u).toList) = false := by rw [hT' c6, HE2.out]; simp
                          clear hN' hT' c6 HE2
                          go_wp2_with fail
                          go_meet
                          exact ⟨by simp_all, rfl⟩
                        · rw [if_neg c6] at hN'
                          have hn0 : ((hN : Int) != 0) = false := by rw [hN']; rfl
                          clear hN' hT' c6 HE2
                          go_wp2_with fail
                          go_meet
                          exact ⟨by simp_all, rfl⟩
                      case rest =>
                        obtain ⟨rfl, rfl⟩ := hcut
                        clear HT HN HE2
                        have hbb : ((0 : Int) == 0 && labB sa.data.toList && decide ([st.data.toList].length = 1) && dsB ([st.data.toList].headD [])) = (labB sa.data.toList && dsB st.data.toList) := by simp
                        simp only [hbb] at HRg
                        clear hbb
                        generalize S u = su at *
                        cases hrr : (labB sa.data.toList && dsB st.data.toList) with
                        | true =>
                          simp only [hrr] at HRg
                          have hX := HY.out (by simpa using hrr)
                          simp only [hX] at K2
                          clear hX
                          have hds1 := HDs1.out
                          have hds2 := HDs2.out
                          have hdx := HDx.out
                          have zd1 : ¬ (9223372036854775807 < 1 + sa.size) := by omega
                          have zd2 : ¬ (9223372036854775807 < 1 + sa.size + 3) := by omega
                          have zd3 : ¬ (9223372036854775807 < 1 + sa.size + 3 + st.size) := by omega
                          clear HDs1 HDs2 HDx HY HNo
                          generalize S (dline sa.data.toList st.data.toList) = sd at *
                          go_wp2_with fail
                          refine (K2.out _).mono ?_
                          rintro e w5 ⟨vl', vs, ao, cap, rfl, b5, rd5, sh5, sp5, tr5⟩
                          simp only [Bk.kind, Bk.level, Bk.info, Bk.lines, Bk.spans, Bk.kids, List.length_nil] at rd5 sh5 sp5 tr5 ⊢
                          obtain ⟨al, ca, rfl⟩ := rd5.len
                          obtain ⟨as', cs, rfl⟩ := sp5.len
                          simp only [List.length_nil, List.length_cons, Nat.zero_add] at rd5 sp5 ⊢
                          obtain ⟨bl, ol, hal, _, hcl⟩ : ∃ bl ol, al = some ⟨bl, ol, none⟩ ∧ bl < w5.heap.size ∧ w5.cell? ⟨bl, ol, none⟩ = some (.string st) := by
                            obtain ⟨ao1, cap1, hv1, _, hx1⟩ := rd5
                            simp only [Value.slice.injEq] at hv1
                            obtain ⟨rfl, _, _⟩ := hv1
                            rcases hx1 with hx1 | ⟨bl, ol, h1, h2, h3⟩
                            · cases hx1
                            · exact ⟨bl, ol, h1, h2, by rw [← eSt.out]; exact h3 0 _ rfl⟩
                          subst hal
                          have eI : S sa.data.toList = sa := eSa.out
                          rw [eI]
                          clear eI
                          have B5 := Lib.hid (B3.out.trans (b5.mono B3.out.size))
                          clear b5 K2 rd5 sh5 sp5 tr5
                          have HA5 := Lib.hid (alloc_new w5 (.cells #[.int .i64 8, .int .i64 0, .string sa, .slice (some ⟨bl, ol, none⟩) 1 ca, .slice as' 0 cs, .slice ao 0 cap] 35))
                          have B6 := Lib.hid (B5.out.alloc B5.out.size (.cells #[.int .i64 8, .int .i64 0, .string sa, .slice (some ⟨bl, ol, none⟩) 1 ca, .slice as' 0 cs, .slice ao 0 cap] 35))
                          have b56 := (Below.refl w5.heap.size w5).alloc (Nat.le_refl _) (.cells #[.int .i64 8, .int .i64 0, .string sa, .slice (some ⟨bl, ol, none⟩) 1 ca, .slice as' 0 cs, .slice ao 0 cap] 35)
                          have hlt6 : w5.heap.size < (w5.alloc (.cells #[.int .i64 8, .int .i64 0, .string sa, .slice (some ⟨bl, ol, none⟩) 1 ca, .slice as' 0 cs, .slice ao 0 cap] 35)).heap.size := by simp
                          have hcl6 := (b56.cell (p := ⟨bl, ol, none⟩) (by assumption)).trans hcl
                          have hbl : bl < w5.heap.size := by assumption
                          go_upto_region 19 with fail
                          generalize hw6 : w5.alloc (.cells #[.int .i64 8, .int .i64 0, .string sa, .slice (some ⟨bl, ol, none⟩) 1 ca, .slice as' 0 cs, .slice ao 0 cap] 35) = w6 at *
                          clear hw6 b56
                          have c0 : w6.cell? ⟨w5.heap.size, 0, none⟩ = some (.int .i64 8) := cell_at HA5.out 0
                          have c2 : w6.cell? ⟨w5.heap.size, 2, none⟩ = some (.string sa) := cell_at HA5.out 2
                          have c3 : w6.cell? ⟨w5.heap.size, 3, none⟩ = some (.slice (some ⟨bl, ol, none⟩) 1 ca) := cell_at HA5.out 3
                          have H0 := Lib.hid (fun w' (h : Below w6.heap.size w6 w') => (h.cell (p := ⟨w5.heap.size, 0, none⟩) (by exact hlt6)).trans c0)
                          have H2 := Lib.hid (fun w' (h : Below w6.heap.size w6 w') => (h.cell (p := ⟨w5.heap.size, 2, none⟩) (by exact hlt6)).trans c2)
                          have H3 := Lib.hid (fun w' (h : Below w6.heap.size w6 w') => (h.cell (p := ⟨w5.heap.size, 3, none⟩) (by exact hlt6)).trans c3)
                          clear c0 c2 c3 HA5
                          have hR := litR w6 st.data.toList 9
                          rw [eSt.out] at hR
                          have b7 := (Below.refl w6.heap.size w6).alloc (Nat.le_refl _) (.cells #[.string st] 9)
                          have hT := litB (k := 8) (lv := 0) (i := sa.data.toList) hR (by simp) (nilS _) (nilB _) 35
                          rw [eSa.out, World.size_alloc] at hT
                          have b8 := b7.alloc b7.size (.cells #[.int .i64 8, .int .i64 0, .string sa, .slice (some ⟨w6.heap.size, 0, none⟩) 1 1, .slice none 0 0, .slice none 0 0] 35)
                          have HRq := Lib.hid (HRg.out _ _ hT)
                          have B8 := Lib.hid b8
                          clear hR b7 hT b8 HRg
                          go_wp2_with fail
                          generalize (w6.alloc (.cells #[.string st] 9)).alloc (.cells #[.int .i64 8, .int .i64 0, .string sa, .slice (some ⟨w6.heap.size, 0, none⟩) 1 1, .slice none 0 0, .slice none 0 0] 35) = w8 at *
                          refine HRq.out.mono ?_
                          rintro e w9 ⟨rfl, b9⟩
                          have b69 := B8.out.trans (b9.mono B8.out.size)
                          have c0 := H0.out w9 b69
                          have c2 := H2.out w9 b69
                          have c3 := H3.out w9 b69
                          have c4 := (b69.cell (p := ⟨bl, ol, none⟩) (by exact Nat.lt_trans hbl hlt6)).trans hcl6
                          have hst1 : st.toList == st.toList := by simp
                          have hsa1 : sa.toList == sa.toList := by simp
                          have B9 := Lib.hid (B6.out.trans (b69.mono B6.out.size))
                          clear b9 b69 H0 H2 H3 HRq B8
                          go_wp2_with fail
                          go_ret
                          exact ⟨by simp, B9.out⟩
                        | false =>
                          simp only [hrr] at HRg
                          have hX := HNo.out (by intro h; rw [h.1, h.2] at hrr; cases hrr)
                          simp only [hX] at K2
                          clear hX
                          have hds1 := HDs1.out
                          have hds2 := HDs2.out
                          have hdx := HDx.out
                          have zd1 : ¬ (9223372036854775807 < 1 + sa.size) := by omega
                          have zd2 : ¬ (9223372036854775807 < 1 + sa.size + 3) := by omega
                          have zd3 : ¬ (9223372036854775807 < 1 + sa.size + 3 + st.size) := by omega
                          clear HDs1 HDs2 HDx HY HNo
                          generalize S (dline sa.data.toList st.data.toList) = sd at *
                          go_wp2_with fail
                          refine (K2.out _).mono ?_
                          rintro e w5 ⟨vl', vs, ao, cap, rfl, b5, rd5, sh5, sp5, tr5⟩
                          simp only [Bk.kind, Bk.level, Bk.info, Bk.lines, Bk.spans, Bk.kids, List.length_nil] at rd5 sh5 sp5 tr5 ⊢
                          obtain ⟨al, ca, rfl⟩ := rd5.len
                          obtain ⟨as', cs, rfl⟩ := sp5.len
                          simp only [List.length_nil] at rd5 sp5 ⊢
                          rw [show S ([] : Tx) = ⟨#[]⟩ from rfl]
                          have B5 := Lib.hid (B3.out.trans (b5.mono B3.out.size))
                          clear b5 K2 rd5 sh5 sp5 tr5
                          have HA5 := Lib.hid (alloc_new w5 (.cells #[.int .i64 0, .int .i64 0, .string ⟨#[]⟩, .slice al 0 ca, .slice as' 0 cs, .slice ao 0 cap] 35))
                          have B6 := Lib.hid (B5.out.alloc B5.out.size (.cells #[.int .i64 0, .int .i64 0, .string ⟨#[]⟩, .slice al 0 ca, .slice as' 0 cs, .slice ao 0 cap] 35))
                          have b56 := (Below.refl w5.heap.size w5).alloc (Nat.le_refl _) (.cells #[.int .i64 0, .int .i64 0, .string ⟨#[]⟩, .slice al 0 ca, .slice as' 0 cs, .slice ao 0 cap] 35)
                          have hlt6 : w5.heap.size < (w5.alloc (.cells #[.int .i64 0, .int .i64 0, .string ⟨#[]⟩, .slice al 0 ca, .slice as' 0 cs, .slice ao 0 cap] 35)).heap.size := by simp
                          go_upto_region 19 with fail
                          generalize hw6 : w5.alloc (.cells #[.int .i64 0, .int .i64 0, .string ⟨#[]⟩, .slice al 0 ca, .slice as' 0 cs, .slice ao 0 cap] 35) = w6 at *
                          clear hw6 b56
                          have c0 : w6.cell? ⟨w5.heap.size, 0, none⟩ = some (.int .i64 0) := cell_at HA5.out 0
                          have c2 : w6.cell? ⟨w5.heap.size, 2, none⟩ = some (.string ⟨#[]⟩) := cell_at HA5.out 2
                          have c3 : w6.cell? ⟨w5.heap.size, 3, none⟩ = some (.slice al 0 ca) := cell_at HA5.out 3
                          have H0 := Lib.hid (fun w' (h : Below w6.heap.size w6 w') => (h.cell (p := ⟨w5.heap.size, 0, none⟩) (by exact hlt6)).trans c0)
                          have H2 := Lib.hid (fun w' (h : Below w6.heap.size w6 w') => (h.cell (p := ⟨w5.heap.size, 2, none⟩) (by exact hlt6)).trans c2)
                          have H3 := Lib.hid (fun w' (h : Below w6.heap.size w6 w') => (h.cell (p := ⟨w5.heap.size, 3, none⟩) (by exact hlt6)).trans c3)
                          clear c0 c2 c3 HA5
                          have hR := litR w6 st.data.toList 9
                          rw [eSt.out] at hR
                          have b7 := (Below.refl w6.heap.size w6).alloc (Nat.le_refl _) (.cells #[.string st] 9)
                          have hT := litB (k := 8) (lv := 0) (i := sa.data.toList) hR (by simp) (nilS _) (nilB _) 35
                          rw [eSa.out, World.size_alloc] at hT
                          have b8 := b7.alloc b7.size (.cells #[.int .i64 8, .int .i64 0, .string sa, .slice (some ⟨w6.heap.size, 0, none⟩) 1 1, .slice none 0 0, .slice none 0 0] 35)
                          have HRq := Lib.hid (HRg.out _ _ hT)
                          have B8 := Lib.hid b8
                          clear hR b7 hT b8 HRg
                          go_wp2_with fail
                          generalize (w6.alloc (.cells #[.string st] 9)).alloc (.cells #[.int .i64 8, .int .i64 0, .string sa, .slice (some ⟨w6.heap.size, 0, none⟩) 1 1, .slice none 0 0, .slice none 0 0] 35) = w8 at *
                          refine HRq.out.mono ?_
                          rintro e w9 ⟨rfl, b9⟩
                          have b69 := B8.out.trans (b9.mono B8.out.size)
                          have c0 := H0.out w9 b69
                          have c2 := H2.out w9 b69
                          have c3 := H3.out w9 b69
                          have B9 := Lib.hid (B6.out.trans (b69.mono B6.out.size))
                          clear b9 b69 H0 H2 H3 HRq B8
                          go_wp2_with fail
                          go_ret
                          exact ⟨by simp, B9.out⟩
  · have g0 : 1000 < (s.size : Int) + (sa.size : Int) + (st.size : Int) := by omega
    have g0b : decide ((s.size : Int) + (sa.size : Int) + (st.size : Int) > 1000) = true := decide_eq_true (by omega)
    have hb3 : (s.size : Int) + (sa.size : Int) + (st.size : Int) ≤ 500000000000000 := by omega
    clear K hs hr hsa hra hst hrt hrb hl0
    go_enter Tryd.func5, Tryd.ntmps5
    go_wp2_with fail
    refine (HA.out _).mono ?_
    rintro e w2 ⟨rfl, b2⟩
    have B2 := Lib.hid b2
    clear b2
    go_wp2_with fail
    refine (HA.out _).mono ?_
    rintro e w3 ⟨rfl, b3⟩
    have B3 := Lib.hid (B2.out.trans (b3.mono B2.out.size))
    clear b3
    go_wp2_with fail
    go_ret
    exact ⟨rfl, B3.out⟩

end Go.Proofs.YtpenjdnbnacebaaDoor.Kd
