/-
  THE WALK of the statement KindFences.
-/
import Derived.Test.YtpenjdnbnacebaaDoorKdPlnWalk
namespace Go.Proofs.YtpenjdnbnacebaaDoor.Kd
open Go.RowKit
open Go.Proofs.YtpenjdnbnacebaaDoor.Tk (S S_of S_list S_size S_toList S_app ret_int eq8 ne8 at_data len_data Rd)
open Go.Proofs.YtpenjdnbnacebaaDoor.Sp (ret_bool OkAns)
open Go.Proofs.YtpenjdnbnacebaaDoor.Bk (Tx Bk define kindOf inner unquote trim_ne run_head kind_fence run_reps)
open Go.Proofs.YtpenjdnbnacebaaDoor.Ln (run mx mx_zero mx_none trim dl dr gapB dr_last dr_cons dl_no)
set_option linter.unusedVariables false

def rep (a : Nat) : Tx := List.replicate a 96
theorem rep_run (a : Nat) : run 96 (rep a) = a := by
  have := run_reps 96 [] (by simp) a
  simpa [rep] using this
theorem rep_len (a : Nat) : (rep a).length = a := by simp [rep]
theorem open_rep (a : Nat) : opN (rep a) = (if 3 ≤ a then a else 0) ∧ opT (rep a) = [] := by
  by_cases h3 : 3 ≤ a
  · have hk := (kind_fence E0 a h3 [] (by simp)).1
    rw [List.append_nil] at hk
    have hk : kindOf E0 (rep a) = 4 := hk
    unfold opN opT
    rw [if_pos hk, if_pos hk, if_pos h3, rep_run]
    refine ⟨rfl, ?_⟩
    rw [List.drop_eq_nil_of_le (by rw [rep_len]; exact Nat.le_refl _)]
    rfl
  · have hk : kindOf E0 (rep a) ≠ 4 := by
      rcases (show a = 0 ∨ a = 1 ∨ a = 2 by omega) with rfl | rfl | rfl
      · decide +kernel
      · decide +kernel
      · decide +kernel
    unfold opN opT
    rw [if_neg hk, if_neg hk, if_neg h3]
    exact ⟨rfl, rfl⟩
theorem close_rep (a b : Nat) : clB (rep a) (b : Nat) = (decide (1 ≤ a) && decide (b ≤ a)) := by
  unfold clB
  rw [rep_run, rep_len, decide_eq_true rfl, Bool.and_true, Bool.eq_iff_iff, Bool.and_eq_true, Bool.and_eq_true]
  simp only [decide_eq_true_iff]
  omega
def fx (a : Nat) (info : Tx) : Tx := rep a ++ 120 :: info
theorem fx_run (a : Nat) (info : Tx) : run 96 (fx a info) = a := run_reps 96 _ (by simp) a
theorem fx_drop (a : Nat) (info : Tx) : (fx a info).drop a = 120 :: info := List.drop_left' (rep_len a)
theorem kd4 (l : Tx) (h : kindOf E0 l = 4) : T4 l = true := by
  rw [kd_eq] at h
  cases ht : T4 l with
  | true => rfl
  | false =>
    rw [ht] at h
    unfold kdB at h
    repeat' split at h
    all_goals first | contradiction | omega
theorem fx_kind (a : Nat) (info : Tx) : kindOf E0 (fx a info) = 4 ↔ 3 ≤ a ∧ (96 : UInt8) ∉ info := by
  constructor
  · intro h
    have h4 := kd4 _ h
    unfold T4 at h4
    have h4 := of_decide_eq_true h4
    rw [fx_run, fx_drop] at h4
    have h5 := mx_zero 96 _ h4.2
    exact ⟨h4.1, fun hm => h5 (List.mem_cons_of_mem _ hm)⟩
  · rintro ⟨h3, hi⟩
    exact (kind_fence E0 a h3 (120 :: info) (by
      intro hm
      rcases List.mem_cons.1 hm with h | h
      · cases h
      · exact hi h)).1
theorem fx_open (a : Nat) (info : Tx) : opN (fx a info) = if 3 ≤ a ∧ (96 : UInt8) ∉ info then a else 0 := by
  unfold opN
  by_cases h : 3 ≤ a ∧ (96 : UInt8) ∉ info
  · rw [if_pos ((fx_kind a info).2 h), if_pos h, fx_run]
  · rw [if_neg (fun e => h ((fx_kind a info).1 e)), if_neg h]
theorem fx_text (a : Nat) (info : Tx) (h : 3 ≤ a ∧ (96 : UInt8) ∉ info) : ∃ r, opT (fx a info) = 120 :: r := by
  unfold opT
  rw [if_pos ((fx_kind a info).2 h), fx_run, fx_drop]
  unfold trim
  have h0 : gapB 120 = false := by decide
  rw [dr_cons]
  split
  · rw [h0]
    exact ⟨[], by rw [if_neg (by decide)]; exact dl_no h0 []⟩
  · exact ⟨dr info, dl_no h0 _⟩
theorem fx_close (a : Nat) (info : Tx) (b : Int) : clB (fx a info) b = false := by
  unfold clB
  rw [fx_run, decide_eq_false (show ¬ a = (fx a info).length by unfold fx; rw [List.length_append, rep_len, List.length_cons]; omega), Bool.and_false]

set_option maxHeartbeats 12800000 in
set_option maxRecDepth 100000 in
theorem kindFences_walk (K : Told11) (w : World) (cn cm : UInt8) (s : ByteArray) (hs : s.size ≤ maxLen) (hr : s.size ≤ reachBytes) :
    Calls Tryd.prog 6 #[.int .u8 cn.toNat, .int .u8 cm.toNat, .string s] w (OkAns w true) := by
  have HA := Lib.hid (awake11_any K)
  have hrb : reachBytes ≤ 140737488355328 := by decide
  by_cases hl : s.size ≤ 1000
  · have g0 : ¬ 1000 < (s.size : Int) := by omega
    have g0b : decide ((s.size : Int) > 1000) = false := decide_eq_false (by omega)
    have n256 : cn.toNat < 256 := cn.toNat_lt
    have m256 : cm.toNat < 256 := cm.toNat_lt
    generalize cn.toNat = vn at *
    generalize cm.toNat = vm at *
    obtain ⟨na, hna⟩ : ∃ x, x = vn % 20 := ⟨_, rfl⟩
    obtain ⟨nb, hnb⟩ : ∃ x, x = vm % 20 := ⟨_, rfl⟩
    have a20 : na < 20 := by omega
    have b20 : nb < 20 := by omega
    have r1 : (vn : Int) % 20 = (na : Int) := by omega
    have r2 : (vn : Int).tmod 20 = (na : Int) := by rw [Int.tmod_eq_emod_of_nonneg (by omega)]; exact r1
    have r3 : (vm : Int) % 20 = (nb : Int) := by omega
    have r4 : (vm : Int).tmod 20 = (nb : Int) := by rw [Int.tmod_eq_emod_of_nonneg (by omega)]; exact r3
    clear hna hnb
    have rl : ∀ k : Nat, (S (rep k)).size = k := fun k => by rw [S_size, rep_len]
    have K1 := Lib.hid (fun w' => K.opens (S (rep na)) w' (by rw [rl]; omega))
    have K2 := Lib.hid (fun w' => K.closes (S (rep na)) (nb : Nat) w' (by rw [rl]; omega) (by omega) (by omega))
    have fl : (S (fx na s.data.toList)).size ≤ 20000 := by rw [S_size]; unfold fx; rw [List.length_append, rep_len, List.length_cons, len_data]; omega
    have K3 := Lib.hid (fun w' => K.opens (S (fx na s.data.toList)) w' fl)
    have K4 := Lib.hid (fun w' => K.closes (S (fx na s.data.toList)) (nb : Nat) w' fl (by omega) (by omega))
    simp only [S_list] at K1 K2 K3 K4
    simp only [(open_rep na).1, (open_rep na).2] at K1
    simp only [close_rep] at K2
    simp only [fx_close] at K4
    unfold LevK at K1 K3
    have HN3 : Hid (opN (fx na s.data.toList) = if 3 ≤ na ∧ (96 : UInt8) ∉ s.data.toList then na else 0) := Lib.hid (fx_open _ _)
    have HT3 : Hid (3 ≤ na ∧ (96 : UInt8) ∉ s.data.toList → ∃ h : 0 < (S (opT (fx na s.data.toList))).size, (S (opT (fx na s.data.toList)))[0] = 120) := Lib.hid (fun h => by
      obtain ⟨r, hr⟩ := fx_text na s.data.toList h
      rw [hr]
      exact ⟨by rw [S_size]; simp, rfl⟩)
    have stp : ∀ k : Nat, S (rep k) ++ (⟨#[96]⟩ : ByteArray) = S (rep (k + 1)) := fun k => by
      show S (rep k) ++ S [96] = _
      rw [S_app]
      unfold rep
      rw [List.replicate_succ']
    have HSt := Lib.hid stp
    have z96 : (⟨#[96]⟩ : ByteArray).size = 1 := rfl
    have z120 : (⟨#[120]⟩ : ByteArray).size = 1 := rfl
    have s0 : (⟨#[]⟩ : ByteArray) = S (rep 0) := rfl
    have HFx : Hid (S (rep na) ++ (⟨#[120]⟩ : ByteArray) ++ s = S (fx na s.data.toList)) := Lib.hid (by
      show S (rep na) ++ S [120] ++ s = _
      rw [S_app]
      conv => lhs; rw [← S_of s]
      rw [S_app]
      unfold fx
      simp)
    have HFs : Hid ((S (rep na) ++ (⟨#[120]⟩ : ByteArray)).size = na + 1) := Lib.hid (by rw [ByteArray.size_append, rl]; rfl)
    have HRl := Lib.hid rl
    have HP : Hid (decide ((96 : UInt8) ∉ s.data.toList) = (s.data.toList.drop 0).all (fun c => c != 96)) := Lib.hid (by
      rw [List.drop_zero, Bool.eq_iff_iff, decide_eq_true_iff, List.all_eq_true]
      constructor
      · intro h x hx; rw [bne_iff_ne]; exact fun e => h (e ▸ hx)
      · intro h hm; have := h _ hm; simp at this)
    have emE : ((S ([] : Tx)).toList != ([] : List UInt8)) = false := by rw [S_toList]; rfl
    have emE' : ((S ([] : Tx)).toList == ([] : List UInt8)) = true := by rw [S_toList]; rfl
    clear K fl rl stp hs hr hrb
    go_enter Tryd.func6, Tryd.ntmps6
    go_wp2_with fail
    refine (HA.out _).mono ?_
    rintro e w2 ⟨rfl, b2⟩
    have B2 := Lib.hid b2
    clear b2 HA
    go_wp2_with fail
    rw [s0]
    go_loop [9, 31] (fun v i => ∃ k : Nat, k ≤ na ∧ i = .int .i64 k ∧ v = .string (S (rep k))) (fun _ i => na - (intOf i).toNat)
    case atStart => exact ⟨0, Nat.zero_le _, rfl, rfl⟩
    case round =>
      obtain ⟨k, hk, rfl, rfl⟩ := hrel
      by_cases hlt : k < na
      · have hi1 : (k : Int) < (na : Int) := by omega
        have hsz := HRl.out k
        have hst := HSt.out k
        have zz : ¬ (9223372036854775807 < k + 1) := by omega
        generalize S (rep k) = sk at *
        go_wp2_with fail
        go_round
        case rel => exact ⟨k + 1, by omega, by go_num, rfl⟩
        case measure => simp [intOf] <;> omega
      · obtain rfl : k = na := by omega
        have hi1 : ¬ (k : Int) < (k : Int) := by omega
        clear hlt HSt
        have e5 : (120 : UInt8).toNat = 120 := rfl
        go_wp2_with fail
        refine (K1.out _).mono ?_
        rintro e w3 ⟨rfl, b3⟩
        have B3 := Lib.hid (B2.out.trans (b3.mono B2.out.size))
        clear b3
        obtain ⟨kn, hkn⟩ : ∃ x, (if 3 ≤ k then k else 0) = x := ⟨_, rfl⟩
        rw [hkn]
        have HKn := Lib.hid hkn
        clear hkn HRl
        obtain ⟨cb, hcb⟩ : ∃ x, (decide (1 ≤ k) && decide (nb ≤ k)) = x := ⟨_, rfl⟩
        simp only [hcb] at K2
        have HCb := Lib.hid hcb
        clear hcb
        go_upto_region 10 with fail
        go_cut [67] from 16 to 124 (fun v wx => v = .bool false ∧ Hid (Below w.heap.size w wx))
        case first =>
          clear K3 K4 HN3 HT3 HFx HFs HP
          by_cases c3 : 3 ≤ k
          · have hkn := HKn.out
            rw [if_pos c3] at hkn
            obtain ⟨y, hy⟩ : ∃ b, decide (nb ≤ k) = b := ⟨_, rfl⟩
            have y1 : decide ((nb : Int) ≤ (k : Int)) = y := by rw [← hy]; exact decide_eq_decide.2 (by omega)
            have y2 : decide ((k : Int) ≥ (nb : Int)) = y := y1
            have hcb : cb = y := by rw [← HCb.out, decide_eq_true (show 1 ≤ k by omega), hy]; rfl
            subst hcb
            have t1a : ((kn : Int) == (k : Int)) = true := by rw [beq_iff_eq]; omega
            have t2a : decide ((k : Int) ≥ (3 : Int)) = true := decide_eq_true (by omega)
            have t2b : decide ((3 : Int) ≤ (k : Int)) = true := decide_eq_true (by omega)
            have t2c : decide (3 ≤ k) = true := decide_eq_true (by omega)
            have t2d : ((3 : Int) ≤ (k : Int)) := by omega
            have t2e : (3 ≤ k) := by omega
            have t3a : decide ((k : Int) ≥ (1 : Int)) = true := decide_eq_true (by omega)
            have t3b : decide ((1 : Int) ≤ (k : Int)) = true := decide_eq_true (by omega)
            have t3c : decide (1 ≤ k) = true := decide_eq_true (by omega)
            have t3d : ((1 : Int) ≤ (k : Int)) := by omega
            have t3e : (1 ≤ k) := by omega
            clear hkn HKn HCb c3 
            go_wp2_with fail
            refine (K2.out _).mono ?_
            rintro e w4 ⟨rfl, b4⟩
            have B4 := Lib.hid (B3.out.trans (b4.mono B3.out.size))
            clear b4
            go_wp2_with fail
            go_meet
            exact ⟨by simp_all, B4⟩
          · by_cases c0 : k = 0
            · have hkn := HKn.out
              rw [if_neg c3] at hkn
              have hcb : cb = false := by rw [← HCb.out, decide_eq_false (show ¬ 1 ≤ k by omega)]; rfl
              subst hcb
              have c0' := c0
              have t1a : ((kn : Int) == (k : Int)) = true := by rw [beq_iff_eq]; omega
              have t2a : decide ((k : Int) ≥ (3 : Int)) = false := decide_eq_false (by omega)
              have t2b : decide ((3 : Int) ≤ (k : Int)) = false := decide_eq_false (by omega)
              have t2c : decide (3 ≤ k) = false := decide_eq_false (by omega)
              have t2d : ¬ ((3 : Int) ≤ (k : Int)) := by omega
              have t2e : ¬ (3 ≤ k) := by omega
              have t3a : decide ((k : Int) ≥ (1 : Int)) = false := decide_eq_false (by omega)
              have t3b : decide ((1 : Int) ≤ (k : Int)) = false := decide_eq_false (by omega)
              have t3c : decide (1 ≤ k) = false := decide_eq_false (by omega)
              have t3d : ¬ ((1 : Int) ≤ (k : Int)) := by omega
              have t3e : ¬ (1 ≤ k) := by omega
              have t4a : ((k : Int) == (0 : Int)) = true := by rw [beq_iff_eq]; omega
              clear c0' hkn HKn HCb c3 c0 
              go_wp2_with fail
              refine (K2.out _).mono ?_
              rintro e w4 ⟨rfl, b4⟩
              have B4 := Lib.hid (B3.out.trans (b4.mono B3.out.size))
              clear b4
              go_wp2_with fail
              go_meet
              exact ⟨by simp_all, B4⟩
            · have hkn := HKn.out
              rw [if_neg c3] at hkn
              obtain ⟨y, hy⟩ : ∃ b, decide (nb ≤ k) = b := ⟨_, rfl⟩
              have y1 : decide ((nb : Int) ≤ (k : Int)) = y := by rw [← hy]; exact decide_eq_decide.2 (by omega)
              have y2 : decide ((k : Int) ≥ (nb : Int)) = y := y1
              have hcb : cb = y := by rw [← HCb.out, decide_eq_true (show 1 ≤ k by omega), hy]; rfl
              subst hcb
              have c0' := c0
              have t1a : ((kn : Int) == (k : Int)) = false := beq_eq_false_iff_ne.2 (by omega)
              have t2a : decide ((k : Int) ≥ (3 : Int)) = false := decide_eq_false (by omega)
              have t2b : decide ((3 : Int) ≤ (k : Int)) = false := decide_eq_false (by omega)
              have t2c : decide (3 ≤ k) = false := decide_eq_false (by omega)
              have t2d : ¬ ((3 : Int) ≤ (k : Int)) := by omega
              have t2e : ¬ (3 ≤ k) := by omega
              have t3a : decide ((k : Int) ≥ (1 : Int)) = true := decide_eq_true (by omega)
              have t3b : decide ((1 : Int) ≤ (k : Int)) = true := decide_eq_true (by omega)
              have t3c : decide (1 ≤ k) = true := decide_eq_true (by omega)
              have t3d : ((1 : Int) ≤ (k : Int)) := by omega
              have t3e : (1 ≤ k) := by omega
              have t4a : ((k : Int) == (0 : Int)) = false := beq_eq_false_iff_ne.2 (by omega)
              clear c0' hkn HKn HCb c3 c0 
              go_wp2_with fail
              refine (K2.out _).mono ?_
              rintro e w4 ⟨rfl, b4⟩
              have B4 := Lib.hid (B3.out.trans (b4.mono B3.out.size))
              clear b4
              go_wp2_with fail
              go_meet
              exact ⟨by simp_all, B4⟩
        case rest =>
          obtain ⟨rfl, B4⟩ := hcut
          clear B3 K1 K2 HKn HCb
          have hfx := HFx.out
          have hfs := HFs.out
          have hrs : (S (rep k)).size = k := by rw [S_size, rep_len]
          have zz : ¬ (9223372036854775807 < k + 1) := by omega
          have zz2 : ¬ (9223372036854775807 < k + 1 + s.size) := by omega
          clear HFx HFs
          generalize S (fx k s.data.toList) = sx at *
          generalize S (rep k) = sr at *
          generalize S (opT (fx k s.data.toList)) = sy at *
          generalize opN (fx k s.data.toList) = cN at *
          obtain ⟨P, hP⟩ : ∃ x, decide ((96 : UInt8) ∉ s.data.toList) = x := ⟨_, rfl⟩
          rw [hP] at HP
          have HPd := Lib.hid hP
          clear hP
          go_wp2_with fail
          refine (K3.out _).mono ?_
          rintro e w5 ⟨rfl, b5⟩
          have B5 := Lib.hid (B4.out.trans (b5.mono B4.out.size))
          clear b5
          go_wp2_with fail
          go_loop [14, 78] (fun v i => ∃ (j : Nat) (b : Bool), j ≤ s.size ∧ i = .int .i64 j ∧ v = .bool b ∧ Hid (P = (b && (s.data.toList.drop j).all (fun c => c != 96)))) (fun _ i => s.size - (intOf i).toNat)
          case atStart => exact ⟨0, true, Nat.zero_le _, rfl, rfl, HP⟩
          case round =>
            clear HP
            obtain ⟨j, b, hj, rfl, rfl, HN⟩ := hrel
            by_cases hlt : j < s.size
            · have hi2 : (j : Int) < (s.size : Int) := by omega
              have hnx := HN.out
              rw [at_data s j hlt, List.all_cons] at hnx
              obtain ⟨x, hx⟩ : ∃ x, s[j] = x := ⟨_, rfl⟩
              rw [hx] at hnx
              have HQ := Lib.hid hnx
              clear hnx HN
              cases b with
              | false =>
                have HR : Hid (P = (false && (s.data.toList.drop (j + 1)).all (fun c => c != 96))) := Lib.hid (by rw [HQ.out]; simp)
                go_wp2_with fail
                go_round
                case rel => exact ⟨j + 1, false, by omega, by go_num, rfl, HR⟩
                case measure => simp [intOf] <;> omega
              | true =>
                by_cases x96 : x = 96
                · have e1 : ((x.toNat : Int) != 96) = false := by rw [x96]; rfl
                  have HR : Hid (P = (false && (s.data.toList.drop (j + 1)).all (fun c => c != 96))) := Lib.hid (by rw [HQ.out, x96]; simp)
                  clear x96 HQ
                  go_wp2_with fail
                  go_round
                  case rel => exact ⟨j + 1, false, by omega, by go_num, rfl, HR⟩
                  case measure => simp [intOf] <;> omega
                · have e1 : ((x.toNat : Int) != 96) = true := by
                    have : ((x.toNat : Int) == 96) = false := ne8 (b := 96) x96
                    rw [bne, this]; rfl
                  have HR : Hid (P = (true && (s.data.toList.drop (j + 1)).all (fun c => c != 96))) := Lib.hid (by rw [HQ.out]; simp [x96])
                  clear x96 HQ
                  go_wp2_with fail
                  go_round
                  case rel => exact ⟨j + 1, true, by omega, by go_num, rfl, HR⟩
                  case measure => simp [intOf] <;> omega
            · obtain rfl : j = s.size := by omega
              have hnx := HN.out
              rw [List.drop_eq_nil_of_le (by rw [len_data]; exact Nat.le_refl _)] at hnx
              have HR : P = b := by rw [hnx]; simp
              clear hnx HN hlt
              subst HR
              by_cases c3 : 3 ≤ k
              · cases P with
                | true =>
                  have hin : (96 : UInt8) ∉ s.data.toList := of_decide_eq_true HPd.out
                  have HC : Hid (cN = k) := Lib.hid (by rw [HN3.out, if_pos ⟨c3, hin⟩])
                  obtain ⟨hy0, hy1⟩ := HT3.out ⟨c3, hin⟩
                  clear HN3 HT3 HPd hin
                  have hck := HC.out
                  have hyi : (0 : Int) < (sy.size : Int) := by omega
                  obtain ⟨x0, hx0⟩ : ∃ x, sy[0] = x := ⟨_, rfl⟩
                  have e6 : ((x0.toNat : Int) == 120) = true := by rw [← hx0, hy1]; rfl
                  clear hy1
                  have t1a : ((cN : Int) == (k : Int)) = true := by rw [beq_iff_eq]; omega
                  have t2a : decide ((cN : Int) > (0 : Int)) = true := decide_eq_true (by omega)
                  have t2b : decide ((0 : Int) < (cN : Int)) = true := decide_eq_true (by omega)
                  have t2c : decide (0 < cN) = true := decide_eq_true (by omega)
                  have t2d : ((0 : Int) < (cN : Int)) := by omega
                  have t3a : decide ((k : Int) ≥ (3 : Int)) = true := decide_eq_true (by omega)
                  have t3b : decide ((3 : Int) ≤ (k : Int)) = true := decide_eq_true (by omega)
                  have t3c : decide (3 ≤ k) = true := decide_eq_true (by omega)
                  have t3d : ((3 : Int) ≤ (k : Int)) := by omega
                  have t3e : (3 ≤ k) := by omega
                  have t4a : ((cN : Int) == (0 : Int)) = false := beq_eq_false_iff_ne.2 (by omega)
                  have t5a : decide ((sy.size : Int) ≥ (1 : Int)) = true := decide_eq_true (by omega)
                  have t5b : decide ((1 : Int) ≤ (sy.size : Int)) = true := decide_eq_true (by omega)
                  have t5c : decide (1 ≤ sy.size) = true := decide_eq_true (by omega)
                  have t5d : ((1 : Int) ≤ (sy.size : Int)) := by omega
                  have t5e : (1 ≤ sy.size) := by omega
                  clear hck HC c3 
                  go_wp2_with fail
                  refine (K4.out _).mono ?_
                  rintro e w6 ⟨rfl, b6⟩
                  have B6 := Lib.hid (B5.out.trans (b6.mono B5.out.size))
                  clear b6
                  go_wp2_with fail
                  go_ret
                  exact ⟨by simp_all, B6.out⟩
                | false =>
                  have hin : ¬ (96 : UInt8) ∉ s.data.toList := of_decide_eq_false HPd.out
                  have HC : Hid (cN = 0) := Lib.hid (by rw [HN3.out, if_neg (fun h => hin h.2)])
                  clear HN3 HT3 HPd hin
                  have hck := HC.out
                  have t1a : ((cN : Int) == (k : Int)) = false := beq_eq_false_iff_ne.2 (by omega)
                  have t3a : decide ((k : Int) ≥ (3 : Int)) = true := decide_eq_true (by omega)
                  have t3b : decide ((3 : Int) ≤ (k : Int)) = true := decide_eq_true (by omega)
                  have t3c : decide (3 ≤ k) = true := decide_eq_true (by omega)
                  have t3d : ((3 : Int) ≤ (k : Int)) := by omega
                  have t3e : (3 ≤ k) := by omega
                  have t4a : ((cN : Int) == (0 : Int)) = true := by rw [beq_iff_eq]; omega
                  clear hck HC c3 
                  go_wp2_with fail
                  refine (K4.out _).mono ?_
                  rintro e w6 ⟨rfl, b6⟩
                  have B6 := Lib.hid (B5.out.trans (b6.mono B5.out.size))
                  clear b6
                  go_wp2_with fail
                  go_ret
                  exact ⟨by simp_all, B6.out⟩
              · have HC : Hid (cN = 0) := Lib.hid (by rw [HN3.out, if_neg (fun h => c3 h.1)])
                clear HN3 HT3 HPd
                have hck := HC.out
                by_cases c0 : k = 0
                · have t1a : ((cN : Int) == (k : Int)) = true := by rw [beq_iff_eq]; omega
                  have t2a : decide ((cN : Int) > (0 : Int)) = false := decide_eq_false (by omega)
                  have t2b : decide ((0 : Int) < (cN : Int)) = false := decide_eq_false (by omega)
                  have t2c : decide (0 < cN) = false := decide_eq_false (by omega)
                  have t2d : ¬ ((0 : Int) < (cN : Int)) := by omega
                  have t3a : decide ((k : Int) ≥ (3 : Int)) = false := decide_eq_false (by omega)
                  have t3b : decide ((3 : Int) ≤ (k : Int)) = false := decide_eq_false (by omega)
                  have t3c : decide (3 ≤ k) = false := decide_eq_false (by omega)
                  have t3d : ¬ ((3 : Int) ≤ (k : Int)) := by omega
                  have t3e : ¬ (3 ≤ k) := by omega
                  have t4a : ((cN : Int) == (0 : Int)) = true := by rw [beq_iff_eq]; omega
                  clear hck HC c3 c0
                  go_wp2_with fail
                  refine (K4.out _).mono ?_
                  rintro e w6 ⟨rfl, b6⟩
                  have B6 := Lib.hid (B5.out.trans (b6.mono B5.out.size))
                  clear b6
                  go_wp2_with fail
                  go_ret
                  exact ⟨by simp_all, B6.out⟩
                · have t1a : ((cN : Int) == (k : Int)) = false := beq_eq_false_iff_ne.2 (by omega)
                  have t3a : decide ((k : Int) ≥ (3 : Int)) = false := decide_eq_false (by omega)
                  have t3b : decide ((3 : Int) ≤ (k : Int)) = false := decide_eq_false (by omega)
                  have t3c : decide (3 ≤ k) = false := decide_eq_false (by omega)
                  have t3d : ¬ ((3 : Int) ≤ (k : Int)) := by omega
                  have t3e : ¬ (3 ≤ k) := by omega
                  have t4a : ((cN : Int) == (0 : Int)) = true := by rw [beq_iff_eq]; omega
                  clear hck HC c3 c0
                  go_wp2_with fail
                  refine (K4.out _).mono ?_
                  rintro e w6 ⟨rfl, b6⟩
                  have B6 := Lib.hid (B5.out.trans (b6.mono B5.out.size))
                  clear b6
                  go_wp2_with fail
                  go_ret
                  exact ⟨by simp_all, B6.out⟩
  · have g0 : 1000 < (s.size : Int) := by omega
    have g0b : decide ((s.size : Int) > 1000) = true := decide_eq_true (by omega)
    clear K hs hr hrb hl
    go_enter Tryd.func6, Tryd.ntmps6
    go_wp2_with fail
    refine (HA.out _).mono ?_
    rintro e w2 ⟨rfl, b2⟩
    have B2 := Lib.hid b2
    clear b2
    go_wp2_with fail
    refine (HA.out _).mono ?_
    rintro e w3 ⟨rfl, b3⟩
    have B3 := Lib.hid (B2.out.trans (b3.mono B2.out.size))
    clear b3
    go_wp2_with fail
    go_ret
    exact ⟨rfl, B3.out⟩

end Go.Proofs.YtpenjdnbnacebaaDoor.Kd
