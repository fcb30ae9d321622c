/-
  Several texts in one:
  CONTRACT of the document's Same (emendationref07).
  CONTRACTS of the document's space, edge, has, Dest and text (emendationref07).
  CONTRACT of the document's text (emendationref07).
  PLAIN FUNCTIONS of layer 1 (utf): what a text's characters are. No program is named here.
-/
import Derived.Test.YtldllbmbcnipoaaGreatDoorPkTC
import Derived.Deep.Cut
import Derived.Deep.CutRange
import Derived.Deep.CutBlock
import Derived.WalkKit
namespace Go.Proofs.YtldllbmbcnipoaaGreatDoor.Sp
open Go.RowKit
open Go.Proofs.YtldllbmbcnipoaaGreatDoor.Tk (S S_of S_list S_size S_toList S_app ret_int)
open Go.Proofs.YtldllbmbcnipoaaGreatDoor.Cm (calls_at)
set_option linter.unusedVariables false

mutual
def smOne : Sp → Sp → Bool
  | .mk k s l, .mk q t m => decide (k = q) && decide (s = t) && smAll l m
def smAll : List Sp → List Sp → Bool
  | [], [] => true
  | x :: r, y :: t => smOne x y && smAll r t
  | _, _ => false
end
theorem smOne_eq (x y : Sp) : smOne x y = (decide (x.kind = y.kind) && decide (x.s = y.s) && smAll x.kids y.kids) := by
  obtain ⟨k, s, l⟩ := x
  obtain ⟨q, t, m⟩ := y
  unfold smOne
  rfl
theorem smAll_cons (x y : Sp) (r t : List Sp) : smAll (x :: r) (y :: t) = (smOne x y && smAll r t) := by rw [smAll]
mutual
theorem smOne_iff : ∀ x y : Sp, smOne x y = true ↔ x = y
  | .mk k s l, .mk q t m => by
    unfold smOne
    rw [Bool.and_eq_true, Bool.and_eq_true, decide_eq_true_iff, decide_eq_true_iff, smAll_iff l m]
    simp [and_assoc]
theorem smAll_iff : ∀ a b : List Sp, smAll a b = true ↔ a = b
  | [], [] => by simp [smAll]
  | [], _ :: _ => by simp [smAll]
  | _ :: _, [] => by simp [smAll]
  | x :: r, y :: t => by
    rw [smAll_cons, Bool.and_eq_true, smOne_iff x y, smAll_iff r t]
    simp
end
theorem smAll_len : ∀ a b : List Sp, a.length ≠ b.length → smAll a b = false
  | [], [], h => absurd rfl h
  | [], _ :: _, _ => by simp [smAll]
  | _ :: _, [], _ => by simp [smAll]
  | x :: r, y :: t, h => by
    rw [smAll_cons, smAll_len r t (by simpa using h), Bool.and_false]
theorem Tr.drewN {w : World} {v : Value} {l : List Sp} (h : Tr w v l) (n : Nat) : Tr (w.drewN n) v l := h.below (below_drewN (Below.refl _ _) n)

set_option maxHeartbeats 6400000 in
set_option maxRecDepth 100000 in
theorem rsame_any (m : Nat) : ∀ (a b : List Sp) (va vb : Value) (w : World), totAll a ≤ m → Tr w va a → Tr w vb b →
    Calls Tryz.prog 43 #[va, vb] w fun e w' => e = .returned (.bool (smAll a b)) ∧ ∃ n, w' = w.drewN n := by
  induction m using Nat.strongRecOn with
  | ind m ih =>
    intro a b va vb w hm ta tb
    obtain ⟨ao, ca, rfl⟩ := ta.len
    obtain ⟨bo, cb, rfl⟩ := tb.len
    have FA := Lib.hid (fun n => (ta.drewN n).at)
    have FB := Lib.hid (fun n => (tb.drewN n).at)
    have hla := ta.short
    have hlb := tb.short
    by_cases hl : a.length = b.length
    · have e0 : ((a.length : Int) != (b.length : Int)) = false := by simp [hl]
      have HIH : Hid (∀ k (hk : k < a.length) (l2 : List Sp) (v1 v2 : Value) (w' : World), Tr w' v1 a[k].kids → Tr w' v2 l2 → Calls Tryz.prog 43 #[v1, v2] w' fun e w'' => e = .returned (.bool (smAll a[k].kids l2)) ∧ ∃ n, w'' = w'.drewN n) := Lib.hid (fun k hk l2 v1 v2 w' t1 t2 =>
        ih (totAll a[k].kids) (Nat.lt_of_lt_of_le (totAll_kids (List.getElem_mem hk)) hm) a[k].kids l2 v1 v2 w' (Nat.le_refl _) t1 t2)
      have H0 : Hid (smAll a b = smAll (a.drop 0) (b.drop 0)) := Lib.hid (by rw [List.drop_zero, List.drop_zero])
      obtain ⟨X, hX⟩ : ∃ X, smAll a b = X := ⟨_, rfl⟩
      rw [hX] at H0
      rw [hX]
      clear ih ta tb hm hX
      go_enter Tryz.func43, Tryz.ntmps43
      go_wp2_with fail
      go_loopw [13] (fun i wr => ∃ k n : Nat, k ≤ a.length ∧ i = .int .i64 k ∧ wr = w.drewN n ∧ Hid (X = smAll (a.drop k) (b.drop k))) (fun i _ => a.length - (intOf i).toNat)
      case atStart => exact ⟨0, 0, Nat.zero_le _, rfl, rfl, H0⟩
      case round =>
        clear H0
        obtain ⟨k, n, hk, rfl, hwr, HN⟩ := hrel
        have HW := Lib.hid hwr
        by_cases hlt : k < a.length
        · have hlt2 : k < b.length := by omega
          have hnx := HN.out
          rw [drop_cons a k hlt, drop_cons b k hlt2, smAll_cons, smOne_eq] at hnx
          have hi1 : (k : Int) < (a.length : Int) := by omega
          have hi2 : (k : Int) < (b.length : Int) := by omega
          obtain ⟨b1, o1, ak1, ck1, rfl, hb1, hC1⟩ := FA.out n k hlt
          obtain ⟨b2, o2, ak2, ck2, rfl, hb2, hC2⟩ := FB.out n k hlt2
          rw [← hwr] at hC1 hC2
          have c0 := hC1.kind
          have c1 := hC1.s
          have c2 := hC1.kids
          have d0 := hC2.kind
          have d1 := hC2.s
          have d2 := hC2.kids
          have HC := Lib.hid (fun q => HIH.out k hlt b[k].kids _ _ (wr.drewN q) (hC1.tr.drewN q) (hC2.tr.drewN q))
          have HQ := Lib.hid hnx
          have hs1 := S_toList a[k].s
          have hs2 := S_toList b[k].s
          clear hnx HN hC1 hC2 hwr
          generalize smAll a[k].kids b[k].kids = y at *
          generalize a[k].kids.length = kn1 at *
          generalize b[k].kids.length = kn2 at *
          generalize a[k].kind = z1 at *
          generalize b[k].kind = z2 at *
          generalize a[k].s = s1 at *
          generalize b[k].s = s2 at *
          by_cases hz : z1 = z2
          · have e1 : (z1 != z2) = false := by simp [hz]
            by_cases hs : s1 = s2
            · have e2 : ((S s1).toList == (S s2).toList) = true := by rw [hs]; simp
              have e2' : ((S s1).toList != (S s2).toList) = false := by rw [hs]; simp
              have HQ2 : Hid (X = (y && smAll (a.drop (k + 1)) (b.drop (k + 1)))) := Lib.hid (by rw [HQ.out, decide_eq_true hz, decide_eq_true hs]; simp)
              clear HQ hz hs hs1 hs2
              generalize S s1 = t1 at *
              generalize S s2 = t2 at *
              go_wp2_with fail
              go_quiet (first | (go_at_call 43; refine Calls.quiet_of (calls_at (args := #[.slice ak1 kn1 ck1, .slice ak2 kn2 ck2]) rfl (HC.out _) (fun _ _ h => h))))
              cases y with
              | true =>
                have HR : Hid (X = smAll (a.drop (k + 1)) (b.drop (k + 1))) := Lib.hid (by rw [HQ2.out]; rfl)
                go_wp2_with fail
                go_roundw
                case rel => exact ⟨k + 1, n + nq, by omega, by go_num, by rw [HW.out, World.drewN_drewN], HR⟩
                case measure => simp [intOf] <;> omega
              | false =>
                have HR : Hid (X = false) := Lib.hid (by rw [HQ2.out]; rfl)
                go_wp2_with fail
                go_ret
                exact ⟨ret_bool HR.out.symm, n + nq, by rw [HW.out, World.drewN_drewN]⟩
            · have e2 : ((S s1).toList == (S s2).toList) = false := by rw [hs1, hs2]; simpa using hs
              have e2' : ((S s1).toList != (S s2).toList) = true := by rw [hs1, hs2]; simpa using hs
              have HR : Hid (X = false) := Lib.hid (by rw [HQ.out, decide_eq_false hs]; simp)
              clear HQ hz hs HC hs1 hs2
              generalize S s1 = t1 at *
              generalize S s2 = t2 at *
              go_wp2_with fail
              go_quiet (fail)
              go_wp2_with fail
              go_ret
              exact ⟨ret_bool HR.out.symm, n + nq, by rw [HW.out, World.drewN_drewN]⟩
          · have e1 : (z1 != z2) = true := by rw [bne_iff_ne]; exact hz
            have HR : Hid (X = false) := Lib.hid (by rw [HQ.out, decide_eq_false hz]; simp)
            clear HQ hz HC hs1 hs2
            generalize S s1 = t1 at *
            generalize S s2 = t2 at *
            go_wp2_with fail
            go_quiet (fail)
            go_wp2_with fail
            go_ret
            exact ⟨ret_bool HR.out.symm, n + nq, by rw [HW.out, World.drewN_drewN]⟩
        · obtain rfl : k = a.length := by omega
          have hnx := HN.out
          rw [List.drop_length, List.drop_eq_nil_of_le (by omega)] at hnx
          have HR : Hid (X = true) := Lib.hid (by rw [hnx]; unfold smAll; rfl)
          clear hnx HN hlt hwr
          go_wp2_with fail
          go_ret
          exact ⟨ret_bool HR.out.symm, n, HW.out⟩
    · have e0 : ((a.length : Int) != (b.length : Int)) = true := by simp; omega
      have HR := Lib.hid (smAll_len a b hl)
      clear ih ta tb hm hl FA FB
      go_enter Tryz.func43, Tryz.ntmps43
      go_wp2_with fail
      go_ret
      exact ⟨ret_bool HR.out.symm, 0, rfl⟩

end Go.Proofs.YtldllbmbcnipoaaGreatDoor.Sp

namespace Go.Proofs.YtldllbmbcnipoaaGreatDoor.Sp
open Go.RowKit
open Go.Proofs.YtldllbmbcnipoaaGreatDoor.Tk (S S_of S_list S_size S_toList S_app ret_int eq8 ne8 at_data len_data)
open Go.Proofs.YtldllbmbcnipoaaGreatDoor.Cm (calls_at)
set_option linter.unusedVariables false

def spB (c : UInt8) : Bool := decide (c = 32) || decide (c = 9)
def edB (c : UInt8) : Bool := spB c || decide (c = 10)
theorem i8 (c : UInt8) (n : Nat) (hn : n < 256) : ((c.toNat : Int) == (n : Int)) = decide (c = UInt8.ofNat n) := by
  rw [Bool.eq_iff_iff, beq_iff_eq, decide_eq_true_iff]
  constructor
  · intro h
    apply UInt8.toNat_inj.1
    rw [UInt8.toNat_ofNat']
    omega
  · intro h
    rw [h, UInt8.toNat_ofNat']
    omega

theorem drop_all (s : ByteArray) (k : Nat) (h : ¬ k < s.size) : s.data.toList.drop k = [] := List.drop_eq_nil_of_le (by simp; omega)
/-- Does a byte stand in a text? -/
def hsB (c : UInt8) (s : List UInt8) : Bool := s.any (fun b => decide (b = c))
/-! Where a link can go to. -/
def marksL : List UInt8 := [46, 47, 95, 45, 35, 63, 38, 58, 37]
def alB (c : UInt8) : Bool := (decide (97 ≤ (c.toNat : Int)) && decide ((c.toNat : Int) ≤ 122)) || (decide (65 ≤ (c.toNat : Int)) && decide ((c.toNat : Int) ≤ 90)) || (decide (48 ≤ (c.toNat : Int)) && decide ((c.toNat : Int) ≤ 57))
def dcB (c : UInt8) : Bool := alB c || marksL.any (fun b => decide (c = b))
def dsB (s : List UInt8) : Bool := s.all dcB && !s.isEmpty
end Go.Proofs.YtldllbmbcnipoaaGreatDoor.Sp

namespace Go.Proofs.YtldllbmbcnipoaaGreatDoor.Sp
open Go.RowKit
open Go.Proofs.YtldllbmbcnipoaaGreatDoor.Tk (S S_of S_list S_size S_toList S_app ret_int eq8 ne8 at_data len_data)
open Go.Proofs.YtldllbmbcnipoaaGreatDoor.Cm (calls_at)
set_option linter.unusedVariables false

def txB : List UInt8 → Bool
  | [] => true
  | [_] => true
  | a :: b :: r => !((decide (a = 10) && (spB b || decide (b = 10))) || (decide (b = 10) && spB a)) && txB (b :: r)
def ttB (s : List UInt8) : Bool := txB s && (!s.isEmpty && !hsB 13 s)
theorem txB_two (a b : UInt8) (r : List UInt8) : txB (a :: b :: r) = (!((decide (a = 10) && (spB b || decide (b = 10))) || (decide (b = 10) && spB a)) && txB (b :: r)) := by rw [txB]

end Go.Proofs.YtldllbmbcnipoaaGreatDoor.Sp

namespace Go.Proofs.YtldllbmbcnipoaaGreatDoor.Utf
open Go.RowKit

/-- The byte at a place (0 behind the end). -/
def bt (s : ByteArray) (k : Nat) : Nat := (s.data.toList.getD k 0).toNat
theorem bt_lt (s : ByteArray) (k : Nat) : bt s k < 256 := (s.data.toList.getD k 0).toNat_lt
theorem bt_eq (s : ByteArray) (k : Nat) (h : k < s.size) : bt s k = s[k].toNat := by
  have h' : k < s.data.toList.length := by simpa using h
  unfold bt
  rw [List.getD_eq_getElem?_getD, List.getElem?_eq_getElem h']
  rfl

/-- How many bytes a character has that begins with b; 0: none. -/
def ln (b : Nat) : Nat :=
  if b ≤ 127 then 1 else if 194 ≤ b ∧ b ≤ 223 then 2 else if 224 ≤ b ∧ b ≤ 239 then 3 else if 240 ≤ b ∧ b ≤ 244 then 4 else 0
/-- The bits that the first byte has of it. -/
def lc (b : Nat) : Nat :=
  if b ≤ 127 then b else if 194 ≤ b ∧ b ≤ 223 then b - 192 else if 224 ≤ b ∧ b ≤ 239 then b - 224 else if 240 ≤ b ∧ b ≤ 244 then b - 240 else 0
def moreB (b : Nat) : Bool := decide (128 ≤ b) && decide (b ≤ 191)
/-- The bits of the first byte and of j more. -/
def acc (f : Nat → Nat) : Nat → Nat
  | 0 => lc (f 0)
  | j + 1 => acc f j * 64 + (f (j + 1) - 128)
/-- Do j bytes behind the first go on? -/
def conts (f : Nat → Nat) : Nat → Bool
  | 0 => true
  | j + 1 => conts f j && moreB (f (j + 1))
def fitsI (c n : Int) : Bool :=
  if n = 3 then decide (2048 ≤ c) && (decide (c < 55296) || decide (57343 < c)) else if n = 4 then decide (65536 ≤ c) && decide (c ≤ 1114111) else true
def fitsB (c n : Nat) : Bool := fitsI c n
/-- The character of the bytes f, m of which there are; (0, 0): none. -/
def nx (f : Nat → Nat) (m : Nat) : Nat × Nat :=
  if m = 0 ∨ ln (f 0) = 0 ∨ m < ln (f 0) then (0, 0)
  else if conts f (ln (f 0) - 1) = true ∧ fitsB (acc f (ln (f 0) - 1)) (ln (f 0)) = true then (acc f (ln (f 0) - 1), ln (f 0)) else (0, 0)
def nxt (s : ByteArray) (k : Nat) : Nat × Nat := nx (fun i => bt s (k + i)) (s.size - k)
/-- At any int. -/
def nxtI (s : ByteArray) (k : Int) : Nat × Nat := if k < 0 then (0, 0) else nxt s k.toNat

theorem ln_le (b : Nat) : ln b ≤ 4 := by
  unfold ln; (repeat' split) <;> omega
theorem lc_ln (b : Nat) (hb : b < 256) : lc b * 1 < 128 ∧ (ln b = 2 → lc b < 32) ∧ (ln b = 3 → lc b < 16) ∧ (ln b = 4 → lc b < 8) := by
  unfold ln lc
  refine ⟨?_, ?_, ?_, ?_⟩
  all_goals (split <;> try omega)
  all_goals (split <;> try omega)
  all_goals (split <;> try omega)
  all_goals (split <;> try omega)
theorem conts_more (f : Nat → Nat) (j : Nat) (h : conts f (j + 1) = true) : conts f j = true ∧ 128 ≤ f (j + 1) ∧ f (j + 1) ≤ 191 := by
  rw [conts, moreB, Bool.and_eq_true, Bool.and_eq_true, decide_eq_true_eq, decide_eq_true_eq] at h
  exact h
theorem acc_zero (f : Nat → Nat) : acc f 0 = lc (f 0) := rfl
theorem acc_succ (f : Nat → Nat) (j : Nat) : acc f (j + 1) = acc f j * 64 + (f (j + 1) - 128) := rfl
theorem conts_succ (f : Nat → Nat) (j : Nat) : conts f (j + 1) = (conts f j && moreB (f (j + 1))) := rfl
theorem acc_step (a c p q x : Nat) (h : a < c * p) (hx : x ≤ 191) (e : q = p * 64) : a * 64 + (x - 128) < c * q := by
  subst e
  rw [← Nat.mul_assoc]
  generalize c * p = m at *
  omega
theorem acc_le (f : Nat → Nat) (j : Nat) (h : conts f j = true) : acc f j < (lc (f 0) + 1) * 64 ^ j := by
  induction j with
  | zero =>
    rw [acc_zero]
    omega
  | succ j ih =>
    obtain ⟨h1, h2, h3⟩ := conts_more f j h
    rw [acc_succ]
    exact acc_step _ _ _ _ _ (ih h1) h3 (Nat.pow_succ 64 j)
theorem acc_small (f : Nat → Nat) (j : Nat) (hb : f 0 < 256) (hj : j < ln (f 0)) (h : conts f j = true) : acc f j < 2097152 := by
  have h1 := acc_le f j h
  obtain ⟨a1, a2, a3, a4⟩ := lc_ln (f 0) hb
  have h4 := ln_le (f 0)
  generalize lc (f 0) = c at *
  generalize ln (f 0) = n at *
  generalize acc f j = a at *
  have e1 : (64 : Nat) ^ 1 = 64 := by decide
  have e2 : (64 : Nat) ^ 2 = 4096 := by decide
  have e3 : (64 : Nat) ^ 3 = 262144 := by decide
  have : j = 0 ∨ j = 1 ∨ j = 2 ∨ j = 3 := by omega
  rcases this with rfl | rfl | rfl | rfl
  · rw [Nat.pow_zero, Nat.mul_one] at h1; omega
  · rw [e1] at h1
    have : n = 2 ∨ n = 3 ∨ n = 4 := by omega
    rcases this with rfl | rfl | rfl
    · have := a2 rfl; omega
    · have := a3 rfl; omega
    · have := a4 rfl; omega
  · rw [e2] at h1
    have : n = 3 ∨ n = 4 := by omega
    rcases this with rfl | rfl
    · have := a3 rfl; omega
    · have := a4 rfl; omega
  · rw [e3] at h1
    have := a4 (by omega); omega
theorem conts_le (f : Nat → Nat) (i j : Nat) (h : conts f j = true) (hi : i ≤ j) : conts f i = true := by
  induction j with
  | zero => obtain rfl : i = 0 := by omega
            exact h
  | succ j ih =>
    by_cases e : i = j + 1
    · subst e; exact h
    · exact ih (conts_more f j h).1 (by omega)
theorem nx_none (f : Nat → Nat) (m : Nat) (h : m = 0 ∨ ln (f 0) = 0 ∨ m < ln (f 0)) : nx f m = (0, 0) := by
  unfold nx; rw [if_pos h]
theorem nx_bad (f : Nat → Nat) (m j : Nat) (hj : j + 1 < ln (f 0)) (h : f (j + 1) < 128 ∨ 191 < f (j + 1)) : nx f m = (0, 0) := by
  unfold nx
  split
  · rfl
  rw [if_neg]
  intro ⟨h1, _⟩
  have h2 := conts_more f j (conts_le f (j + 1) _ h1 (by omega))
  omega
theorem nx_unfit (f : Nat → Nat) (m : Nat) (h : fitsB (acc f (ln (f 0) - 1)) (ln (f 0)) = false) : nx f m = (0, 0) := by
  unfold nx
  split
  · rfl
  rw [if_neg]
  intro ⟨_, h1⟩
  rw [h] at h1; cases h1
theorem nx_yes (f : Nat → Nat) (m : Nat) (h0 : 0 < ln (f 0)) (hm : ln (f 0) ≤ m) (h1 : conts f (ln (f 0) - 1) = true) (h : fitsB (acc f (ln (f 0) - 1)) (ln (f 0)) = true) :
    nx f m = (acc f (ln (f 0) - 1), ln (f 0)) := by
  unfold nx
  rw [if_neg (by omega), if_pos ⟨h1, h⟩]
theorem or_step (a b : Nat) (ha : a < 2097152) (h1 : 128 ≤ b) (h2 : b ≤ 191) : bits BinOp.or IntKind.i32 (wrap32 ((a : Int) * 64)) ((b : Int) % 64) = ((a * 64 + (b - 128) : Nat) : Int) := by
  have e : wrap32 ((a : Int) * 64) = (a : Int) * 64 := by unfold wrap32; omega
  rw [e, i32_or6 ((a : Int) * 64) ((b : Int) % 64) (by omega) (by omega) (by omega) (by omega) (by omega)]
  omega
theorem nx_le (f : Nat → Nat) (m : Nat) : (nx f m).2 ≤ m ∧ (nx f m).2 ≤ 4 := by
  unfold nx
  have h4 := ln_le (f 0)
  split
  · exact ⟨Nat.zero_le _, Nat.zero_le _⟩
  · split
    · show ln _ ≤ _ ∧ ln _ ≤ _; omega
    · exact ⟨Nat.zero_le _, Nat.zero_le _⟩
theorem nx_lt (f : Nat → Nat) (m : Nat) (hb : f 0 < 256) : (nx f m).1 < 2097152 := by
  unfold nx
  split
  · decide
  · rename_i h0
    split
    · rename_i h
      exact acc_small f _ hb (by omega) h.1
    · decide
theorem nxt_le (t : ByteArray) (k : Nat) : (nxt t k).2 ≤ t.size - k := (nx_le _ _).1
theorem nxt_4 (t : ByteArray) (k : Nat) : (nxt t k).2 ≤ 4 := (nx_le _ _).2
theorem nxt_lt (t : ByteArray) (k : Nat) : (nxt t k).1 < 2097152 := nx_lt _ _ (bt_lt t k)
/-- Is the text from k on gone through, character by character? -/
def goes (t : ByteArray) : Nat → Nat → Bool
  | 0, k => decide (t.size ≤ k)
  | f + 1, k => if t.size ≤ k then true else if (nxt t k).2 = 0 then false else goes t f (k + (nxt t k).2)
theorem goes_fuel (t : ByteArray) (f g k : Nat) (hf : t.size - k ≤ f) (hg : t.size - k ≤ g) : goes t f k = goes t g k := by
  induction f generalizing g k with
  | zero =>
    have h : t.size ≤ k := by omega
    cases g with
    | zero => rfl
    | succ g => simp [goes, h]
  | succ f ih =>
    cases g with
    | zero =>
      have h : t.size ≤ k := by omega
      simp [goes, h]
    | succ g =>
      rw [goes, goes]
      split
      · rfl
      · split
        · rfl
        · exact ih g _ (by omega) (by omega)
def goesAt (t : ByteArray) (k : Nat) : Bool := goes t (t.size - k) k
theorem goesAt_end (t : ByteArray) (k : Nat) (h : t.size ≤ k) : goesAt t k = true := by
  unfold goesAt
  rw [show t.size - k = 0 by omega, goes]; exact decide_eq_true h
theorem goesAt_bad (t : ByteArray) (k : Nat) (h : k < t.size) (h0 : (nxt t k).2 = 0) : goesAt t k = false := by
  unfold goesAt
  obtain ⟨m, hm⟩ : ∃ m, t.size - k = m + 1 := ⟨t.size - k - 1, by omega⟩
  rw [hm, goes, if_neg (by omega), if_pos h0]
theorem goesAt_step (t : ByteArray) (k : Nat) (h : k < t.size) (h0 : (nxt t k).2 ≠ 0) : goesAt t (k + (nxt t k).2) = goesAt t k := by
  unfold goesAt
  obtain ⟨m, hm⟩ : ∃ m, t.size - k = m + 1 := ⟨t.size - k - 1, by omega⟩
  rw [hm, goes, if_neg (by omega), if_neg h0]
  exact goes_fuel t _ _ _ (by omega) (by omega)
def zeroB (t : ByteArray) : Bool := decide ((0 : UInt8) ∈ t.data.toList)
/-- The error's number. -/
def chk (t : ByteArray) : Int := if 1048576 < (t.size : Int) then 4 else if zeroB t = true then 3 else if goesAt t 0 = true then 0 else 2
end Go.Proofs.YtldllbmbcnipoaaGreatDoor.Utf
