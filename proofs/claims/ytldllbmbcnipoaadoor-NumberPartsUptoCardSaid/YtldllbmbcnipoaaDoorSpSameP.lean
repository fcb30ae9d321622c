/-
  CONTRACT of the program's Same (span).
-/
import Derived.Test.YtldllbmbcnipoaaDoorPkNI
namespace Go.Proofs.YtldllbmbcnipoaaDoor.Sp
open Go.RowKit
open Go.Proofs.YtldllbmbcnipoaaDoor.Tk (S S_of S_list S_size S_toList S_app ret_int)
open Go.Proofs.YtldllbmbcnipoaaDoor.Cm (calls_at)
set_option linter.unusedVariables false

set_option maxHeartbeats 6400000 in
set_option maxRecDepth 100000 in
theorem sameP_any (m : Nat) : ∀ (a b : List Sp) (va vb : Value) (w : World), totAll a ≤ m → Tr w va a → Tr w vb b →
    Calls Tryd.prog 46 #[va, vb] w (OkAns w (smAll a b)) := by
  induction m using Nat.strongRecOn with
  | ind m ih =>
    intro a b va vb w hm ta tb
    have TA := Lib.hid ta
    have TB := Lib.hid tb
    obtain ⟨ao, ca, rfl⟩ := ta.len
    obtain ⟨bo, cb, rfl⟩ := tb.len
    have hla := ta.short
    have hlb := tb.short
    by_cases hl : a.length = b.length
    · have e0 : ((a.length : Int) != (b.length : Int)) = false := by simp [hl]
      have HIH : Hid (∀ k (hk : k < a.length) (l2 : List Sp) (v1 v2 : Value) (w' : World), Tr w' v1 a[k].kids → Tr w' v2 l2 → Calls Tryd.prog 46 #[v1, v2] w' (OkAns w' (smAll a[k].kids l2))) := Lib.hid (fun k hk l2 v1 v2 w' t1 t2 =>
        ih (totAll a[k].kids) (Nat.lt_of_lt_of_le (totAll_kids (List.getElem_mem hk)) hm) a[k].kids l2 v1 v2 w' (Nat.le_refl _) t1 t2)
      have H0 : Hid (smAll a b = smAll (a.drop 0) (b.drop 0)) := Lib.hid (by rw [List.drop_zero, List.drop_zero])
      obtain ⟨X, hX⟩ : ∃ X, smAll a b = X := ⟨_, rfl⟩
      rw [hX] at H0
      rw [hX]
      have HL := Lib.hid hl
      clear ih ta tb hm hX hl
      go_enter Tryd.func46, Tryd.ntmps46
      go_wp2_with fail
      go_loopw [15] (fun i wr => ∃ k : Nat, k ≤ a.length ∧ i = .int .i64 k ∧ Below w.heap.size w wr ∧ Hid (X = smAll (a.drop k) (b.drop k))) (fun i _ => a.length - (intOf i).toNat)
      case atStart => exact ⟨0, Nat.zero_le _, rfl, Below.refl _ _, H0⟩
      case round =>
        clear H0
        obtain ⟨k, hk, rfl, hb, HN⟩ := hrel
        have Hb := Lib.hid hb
        by_cases hlt : k < a.length
        · have hlt2 : k < b.length := by have := HL.out; omega
          have hnx := HN.out
          rw [drop_cons a k hlt, drop_cons b k hlt2, smAll_cons, smOne_eq] at hnx
          have hi1 : (k : Int) < (a.length : Int) := by omega
          have hi2 : (k : Int) < (b.length : Int) := by omega
          obtain ⟨b1, o1, ak1, ck1, rfl, hb1, hC1⟩ := (TA.out.below hb).at k hlt
          obtain ⟨b2, o2, ak2, ck2, rfl, hb2, hC2⟩ := (TB.out.below hb).at k hlt2
          have c0 := hC1.kind
          have c1 := hC1.s
          have c2 := hC1.kids
          have d0 := hC2.kind
          have d1 := hC2.s
          have d2 := hC2.kids
          have HC := Lib.hid (fun w' (h : Below wr.heap.size wr w') => HIH.out k hlt b[k].kids _ _ w' (hC1.tr.below h) (hC2.tr.below h))
          have HQ := Lib.hid hnx
          have hs1 := S_toList a[k].s
          have hs2 := S_toList b[k].s
          clear hnx HN hC1 hC2 hb
          generalize smAll a[k].kids b[k].kids = y at *
          generalize a[k].kids.length = kn1 at *
          generalize b[k].kids.length = kn2 at *
          generalize a[k].kind = z1 at *
          generalize b[k].kind = z2 at *
          generalize a[k].s = s1 at *
          generalize b[k].s = s2 at *
          have B1 : Below wr.heap.size wr (wr.alloc (.cells #[.int .i64 z1, .string (S s1), .slice ak1 kn1 ck1] 61)) := (Below.refl _ _).alloc (Nat.le_refl _) _
          have B2 : Below wr.heap.size wr ((wr.alloc (.cells #[.int .i64 z1, .string (S s1), .slice ak1 kn1 ck1] 61)).alloc (.cells #[.int .i64 z2, .string (S s2), .slice ak2 kn2 ck2] 61)) := B1.alloc B1.size _
          have d0' := (B1.cell (p := ⟨b2, o2 + k * 3, none⟩) hb2).trans d0
          have d1' := (B1.cell (p := ⟨b2, o2 + k * 3 + 1, none⟩) hb2).trans d1
          have d2' := (B1.cell (p := ⟨b2, o2 + k * 3 + 2, none⟩) hb2).trans d2
          have HB2 := Lib.hid B2
          have HBb := Lib.hid (Hb.out.trans (B2.mono Hb.out.size))
          clear B1 B2 d0 d1 d2
          by_cases hz : z1 = z2
          · have e1 : (z1 != z2) = false := by simp [hz]
            by_cases hs : s1 = s2
            · have e2 : ((S s1).toList == (S s2).toList) = true := by rw [hs]; simp
              have e2' : ((S s1).toList != (S s2).toList) = false := by rw [hs]; simp
              have HQ2 : Hid (X = (y && smAll (a.drop (k + 1)) (b.drop (k + 1)))) := Lib.hid (by rw [HQ.out, decide_eq_true hz, decide_eq_true hs]; simp)
              clear HQ hz hs hs1 hs2
              generalize S s1 = t1 at *
              generalize S s2 = t2 at *
              go_wp2_with fail
              refine (HC.out _ HB2.out).mono ?_
              rintro e w3 ⟨rfl, b3⟩
              have HB3 := Lib.hid (HBb.out.trans (b3.mono HBb.out.size))
              clear b3 HC
              cases y with
              | true =>
                have HR : Hid (X = smAll (a.drop (k + 1)) (b.drop (k + 1))) := Lib.hid (by rw [HQ2.out]; rfl)
                go_wp2_with fail
                go_roundw
                case rel => exact ⟨k + 1, by omega, by go_num, HB3.out, HR⟩
                case measure => simp [intOf] <;> omega
              | false =>
                have HR : Hid (X = false) := Lib.hid (by rw [HQ2.out]; rfl)
                go_wp2_with fail
                go_ret
                exact ⟨ret_bool HR.out.symm, HB3.out⟩
            · have e2 : ((S s1).toList == (S s2).toList) = false := by rw [hs1, hs2]; simpa using hs
              have e2' : ((S s1).toList != (S s2).toList) = true := by rw [hs1, hs2]; simpa using hs
              have HR : Hid (X = false) := Lib.hid (by rw [HQ.out, decide_eq_false hs]; simp)
              clear HQ hz hs HC hs1 hs2
              generalize S s1 = t1 at *
              generalize S s2 = t2 at *
              go_wp2_with fail
              go_ret
              exact ⟨ret_bool HR.out.symm, HBb.out⟩
          · have e1 : (z1 != z2) = true := by rw [bne_iff_ne]; exact hz
            have HR : Hid (X = false) := Lib.hid (by rw [HQ.out, decide_eq_false hz]; simp)
            clear HQ hz HC hs1 hs2
            generalize S s1 = t1 at *
            generalize S s2 = t2 at *
            go_wp2_with fail
            go_ret
            exact ⟨ret_bool HR.out.symm, HBb.out⟩
        · obtain rfl : k = a.length := by omega
          have hnx := HN.out
          rw [List.drop_length, List.drop_eq_nil_of_le (by have := HL.out; omega)] at hnx
          have HR : Hid (X = true) := Lib.hid (by rw [hnx]; unfold smAll; rfl)
          clear hnx HN hlt hb
          go_wp2_with fail
          go_ret
          exact ⟨ret_bool HR.out.symm, Hb.out⟩
    · have e0 : ((a.length : Int) != (b.length : Int)) = true := by simp; omega
      have HR := Lib.hid (smAll_len a b hl)
      clear ih ta tb hm hl TA TB
      go_enter Tryd.func46, Tryd.ntmps46
      go_wp2_with fail
      go_ret
      exact ⟨ret_bool HR.out.symm, Below.refl _ _⟩

end Go.Proofs.YtldllbmbcnipoaaDoor.Sp
