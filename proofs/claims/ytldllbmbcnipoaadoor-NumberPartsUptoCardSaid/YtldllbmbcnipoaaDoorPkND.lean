/-
  Several texts in one:
  HOW THE STATEMENTS' ARGUMENTS READ: a []api.Block, opened; how much it holds.
  THE SECOND FORM's BULK, as the rows reckon it, is a reckoning of what a reading holds.
  THE LIBRARY's TABLE OF POWERS (strconv.Itoa reads it), as it was laid.
  FROM A ROW's LISTED VARIABLES: the library's table of powers lies as it was laid.
  CONTRACTS of the document's Count and Deep (emendationref10).
  CONTRACTS of the statements' own kind, and of the document's Plain and Same (emendationref07).
  CONTRACT of the document's Same (emendationref07).
-/
import Derived.Test.YtldllbmbcnipoaaDoorBtTree
import Derived.ProofKit
import Derived.OpenShut
import Derived.Carry
import Derived.SizedLaws
import Derived.Test.YtldllbmbcnipoaaDoorRows
import Derived.Lib.AppendIntMem
import Derived.Test.YtldllbmbcnipoaaDoorProg
import Derived.Lib.LaidTab
import Derived.LaidSub
import Derived.Test.YtldllbmbcnipoaaDoorSpFew
namespace Go.Proofs.YtldllbmbcnipoaaDoor.Bt
open Go.ChangeShapes Go.WideShapes Go.ChangeAt Go.RowKit
open Go.Proofs.YtldllbmbcnipoaaDoor.Bk (Bk)
set_option linter.unusedVariables false

theorem laidOut : laidOutB Tryd.prog = true := by kernel_rfl
theorem blocks_of {H : Type} {enc : TypeId × Value → H} {W : World} {a : Option Addr} {len cap : Nat} {d : DataW H} {ps : List MemPlace} {ts : List TypeId} {ds : List (DataW H)} {j : Nat}
    (h : DataW.Trod enc Tryd.prog W 0 (fun _ => true) true 22 (.slice a len cap) d ps) (hsz : (DataW.weightsEach Tryd.prog ts ds).all (· ≤ reachBytes) = true) (ht : ts[j]? = some 22) (hd : ds[j]? = some d) :
    ∃ l : List Bk, TrB W (.slice a len cap) l ∧ fitAll reachBytes l ∧ ∀ (f : DataW H → Nat) (fa : List (DataW H) → Nat), Bulk f fa → ttAll l ≤ f d := by
  obtain ⟨fuel, hf⟩ := h
  obtain ⟨l, h1, h2, h3⟩ := open_fuel fuel (.slice a len cap) (d, ps) (by simpa [Value.cells] using hf)
  refine ⟨l, h1, h2 (fun n hn => ?_), h3⟩
  have hm := DataW.weights_mem_each (P := Tryd.prog) ht hd n hn
  simpa using List.all_eq_true.1 hsz _ hm

/-- A tree can be read, though its type names itself. -/
theorem blocks_readable : Tryd.prog.readableRec 22 = true := by kernel_rfl

end Go.Proofs.YtldllbmbcnipoaaDoor.Bt

namespace Go.Proofs.YtldllbmbcnipoaaDoor.Bt
open Go.RowKit
set_option linter.unusedVariables false

theorem rowsBulk (H : Type) : Bulk (Rows.uptoBulk (H := H)) Rows.uptoBulkAll where
  str := fun b => by rw [Rows.uptoBulk]; omega
  strp := fun b => by rw [Rows.uptoBulk]; omega
  slice := fun e s => by rw [Rows.uptoBulk]; omega
  agg := fun p => by rw [Rows.uptoBulk]; omega
  cons := fun d r => by rw [Rows.uptoBulkAll]
  nil := by rw [Rows.uptoBulkAll]
theorem small_one {H : Type} {d : DataW H} {r : List (DataW H)} (hk : Rows.uptoSmall H (d :: r) = true) : Rows.uptoBulk d ≤ 1048576 := by
  have h : Rows.uptoBulkAll (d :: r) ≤ 1048576 := of_decide_eq_true hk
  rw [Rows.uptoBulkAll] at h
  omega
theorem small_two {H : Type} {d e : DataW H} {r : List (DataW H)} (hk : Rows.uptoSmall H (d :: e :: r) = true) : Rows.uptoBulk d + Rows.uptoBulk e ≤ 1048576 := by
  have h : Rows.uptoBulkAll (d :: e :: r) ≤ 1048576 := of_decide_eq_true hk
  rw [Rows.uptoBulkAll, Rows.uptoBulkAll] at h
  omega
end Go.Proofs.YtldllbmbcnipoaaDoor.Bt

namespace Go.Proofs.YtldllbmbcnipoaaDoor.Nm
open Go.RowKit
/-- The table lies as it was laid. -/
def Tab (w : World) : Prop := Lib.TabIs Tryd.prog w "internal/strconv.uint64pow10" .u64 Lib.pow10Tab
theorem Tab.below {w w' : World} (h : Tab w) (hb : Below w.heap.size w w') : Tab w' := Lib.tabBelow_of_tabIs h w' hb
end Go.Proofs.YtldllbmbcnipoaaDoor.Nm

namespace Go.Proofs.YtldllbmbcnipoaaDoor.Nm
open Go.RowKit
theorem pow_g : Tryd.prog.globalNamed "internal/strconv.uint64pow10" = some 0 := by kernel_rfl
theorem pow_t : (Tryd.prog.globals[0]?).map (·.type) = some 138 := by kernel_rfl
theorem tab_of {W : World} {l : List (String × DataW Unit)} (h : laidMet Tryd.prog l W) (h1 : (l.filter fun x => x.1 == "internal/strconv.uint64pow10") = [("internal/strconv.uint64pow10", Lib.tabData .u64 Lib.pow10Tab)]) : Tab W := by
  have h2 := laidMet.filter (fun x => x.1 == "internal/strconv.uint64pow10") h
  rw [h1] at h2
  exact Lib.tabIs_of_head pow_g pow_t Tryd.underlying138 Tryd.underlying104 (by kernel_rfl) (by kernel_rfl) h2
end Go.Proofs.YtldllbmbcnipoaaDoor.Nm

namespace Go.Proofs.YtldllbmbcnipoaaDoor.Bt
open Go.RowKit
open Go.Proofs.YtldllbmbcnipoaaDoor.Tk (S S_of S_list S_size ret_int)
open Go.Proofs.YtldllbmbcnipoaaDoor.Cm (calls_at)
open Go.Proofs.YtldllbmbcnipoaaDoor.Bk (Bk)
set_option linter.unusedVariables false

mutual
/-- How much there is: for inductions alone. -/
def szOne : Bk → Nat
  | .mk _ _ _ _ _ l => 1 + szAll l
def szAll : List Bk → Nat
  | [] => 0
  | x :: r => szOne x + szAll r
end
theorem szOne_eq (x : Bk) : szOne x = 1 + szAll x.kids := by obtain ⟨k, lv, i, ls, ss, l⟩ := x; rw [szOne]; rfl
theorem szAll_cons (x : Bk) (r : List Bk) : szAll (x :: r) = szOne x + szAll r := by rw [szAll]
theorem szAll_mem : ∀ {l : List Bk} {x : Bk}, x ∈ l → szOne x ≤ szAll l
  | [], x, h => by cases h
  | y :: r, x, h => by
    rw [szAll_cons]
    rcases List.mem_cons.1 h with rfl | h
    · omega
    · have := szAll_mem h; omega
theorem szAll_kids {l : List Bk} {x : Bk} (h : x ∈ l) : szAll x.kids < szAll l := by
  have h1 := szAll_mem h
  rw [szOne_eq] at h1
  omega
theorem szAll_app : ∀ l m : List Bk, szAll (l ++ m) = szAll l + szAll m
  | [], m => by rw [List.nil_append, szAll]; omega
  | x :: r, m => by rw [List.cons_append, szAll_cons, szAll_cons, szAll_app r m]; omega
theorem szAll_len : ∀ l : List Bk, l.length ≤ szAll l
  | [] => Nat.zero_le _
  | x :: r => by
    have := szAll_len r
    rw [szAll_cons, szOne_eq, List.length_cons]
    omega
theorem drop_cons (l : List Bk) (k : Nat) (h : k < l.length) : l.drop k = l[k] :: l.drop (k + 1) := List.drop_eq_getElem_cons h

/-! All blocks. -/
mutual
/-- As the machine counts. -/
def cntAll (n : Int) : List Bk → Int
  | [] => n
  | x :: r => cntAll (cntOne n x) r
def cntOne (n : Int) : Bk → Int
  | .mk _ _ _ _ _ l => IntKind.i64.wrap (n + cntAll (l.length : Int) l)
end
def cnt (l : List Bk) : Int := cntAll (l.length : Int) l
theorem cntAll_cons (n : Int) (x : Bk) (r : List Bk) : cntAll n (x :: r) = cntAll (IntKind.i64.wrap (n + cnt x.kids)) r := by
  obtain ⟨k, lv, i, ls, ss, l⟩ := x
  rw [cntAll, cntOne]
  rfl

end Go.Proofs.YtldllbmbcnipoaaDoor.Bt

namespace Go.Proofs.YtldllbmbcnipoaaDoor.Sp
open Go.RowKit
open Go.Proofs.YtldllbmbcnipoaaDoor.Tk (S S_of S_list S_size S_toList S_app ret_int)
open Go.Proofs.YtldllbmbcnipoaaDoor.Cm (calls_at)
set_option linter.unusedVariables false

theorem ret_bool {x y : Bool} (h : x = y) : Ending.returned (.bool x) = Ending.returned (.bool y) := by rw [h]
mutual
/-- Is there a span of a kind, however deep? -/
def kdOne (k : Int) : Sp → Bool
  | .mk q _ l => decide (q = k) || kdAll k l
def kdAll (k : Int) : List Sp → Bool
  | [] => false
  | x :: r => kdOne k x || kdAll k r
end
theorem kdOne_eq (k : Int) (x : Sp) : kdOne k x = (decide (x.kind = k) || kdAll k x.kids) := by obtain ⟨q, s, l⟩ := x; unfold kdOne; rfl
theorem kdAll_cons (k : Int) (x : Sp) (r : List Sp) : kdAll k (x :: r) = (kdOne k x || kdAll k r) := by rw [kdAll]

mutual
/-- What spans read. -/
def plOne : Sp → List UInt8
  | .mk q s l => (if q = 1 ∨ q = 2 then s else []) ++ plAll l
def plAll : List Sp → List UInt8
  | [] => []
  | x :: r => plOne x ++ plAll r
end
theorem plOne_eq (x : Sp) : plOne x = (if x.kind = 1 ∨ x.kind = 2 then x.s else []) ++ plAll x.kids := by obtain ⟨q, s, l⟩ := x; unfold plOne; rfl
theorem plAll_cons (x : Sp) (r : List Sp) : plAll (x :: r) = plOne x ++ plAll r := by rw [plAll]
theorem plAll_app : ∀ l m : List Sp, plAll (l ++ m) = plAll l ++ plAll m
  | [], m => by rw [List.nil_append]; rfl
  | x :: r, m => by rw [List.cons_append, plAll_cons, plAll_cons, plAll_app r m, List.append_assoc]
mutual
theorem plOne_len : ∀ x : Sp, (plOne x).length ≤ totOne x
  | .mk q s l => by
    have := plAll_len l
    unfold plOne totOne
    rw [List.length_append]
    split <;> simp <;> omega
theorem plAll_len : ∀ l : List Sp, (plAll l).length ≤ totAll l
  | [] => by unfold plAll totAll; simp
  | x :: r => by
    have h1 := plOne_len x
    have h2 := plAll_len r
    rw [plAll_cons, totAll_cons, List.length_append]
    omega
end
theorem ret_str {x y : ByteArray} (h : x = y) : Ending.returned (.string x) = Ending.returned (.string y) := by rw [h]

end Go.Proofs.YtldllbmbcnipoaaDoor.Sp

namespace Go.Proofs.YtldllbmbcnipoaaDoor.Sp
open Go.RowKit
open Go.Proofs.YtldllbmbcnipoaaDoor.Tk (S S_of S_list S_size S_toList S_app ret_int)
open Go.Proofs.YtldllbmbcnipoaaDoor.Cm (calls_at)
set_option linter.unusedVariables false

mutual
def smOne : Sp → Sp → Bool
  | .mk k s l, .mk q t m => decide (k = q) && decide (s = t) && smAll l m
def smAll : List Sp → List Sp → Bool
  | [], [] => true
  | x :: r, y :: t => smOne x y && smAll r t
  | _, _ => false
end
theorem smOne_eq (x y : Sp) : smOne x y = (decide (x.kind = y.kind) && decide (x.s = y.s) && smAll x.kids y.kids) := by
  obtain ⟨k, s, l⟩ := x
  obtain ⟨q, t, m⟩ := y
  unfold smOne
  rfl
theorem smAll_cons (x y : Sp) (r t : List Sp) : smAll (x :: r) (y :: t) = (smOne x y && smAll r t) := by rw [smAll]
mutual
theorem smOne_iff : ∀ x y : Sp, smOne x y = true ↔ x = y
  | .mk k s l, .mk q t m => by
    unfold smOne
    rw [Bool.and_eq_true, Bool.and_eq_true, decide_eq_true_iff, decide_eq_true_iff, smAll_iff l m]
    simp [and_assoc]
theorem smAll_iff : ∀ a b : List Sp, smAll a b = true ↔ a = b
  | [], [] => by simp [smAll]
  | [], _ :: _ => by simp [smAll]
  | _ :: _, [] => by simp [smAll]
  | x :: r, y :: t => by
    rw [smAll_cons, Bool.and_eq_true, smOne_iff x y, smAll_iff r t]
    simp
end
theorem smAll_len : ∀ a b : List Sp, a.length ≠ b.length → smAll a b = false
  | [], [], h => absurd rfl h
  | [], _ :: _, _ => by simp [smAll]
  | _ :: _, [], _ => by simp [smAll]
  | x :: r, y :: t, h => by
    rw [smAll_cons, smAll_len r t (by simpa using h), Bool.and_false]
theorem Tr.drewN {w : World} {v : Value} {l : List Sp} (h : Tr w v l) (n : Nat) : Tr (w.drewN n) v l := h.below (below_drewN (Below.refl _ _) n)

set_option maxHeartbeats 6400000 in
set_option maxRecDepth 100000 in
theorem rsame_any (m : Nat) : ∀ (a b : List Sp) (va vb : Value) (w : World), totAll a ≤ m → Tr w va a → Tr w vb b →
    Calls Tryd.prog 18 #[va, vb] w fun e w' => e = .returned (.bool (smAll a b)) ∧ ∃ n, w' = w.drewN n := by
  induction m using Nat.strongRecOn with
  | ind m ih =>
    intro a b va vb w hm ta tb
    obtain ⟨ao, ca, rfl⟩ := ta.len
    obtain ⟨bo, cb, rfl⟩ := tb.len
    have FA := Lib.hid (fun n => (ta.drewN n).at)
    have FB := Lib.hid (fun n => (tb.drewN n).at)
    have hla := ta.short
    have hlb := tb.short
    by_cases hl : a.length = b.length
    · have e0 : ((a.length : Int) != (b.length : Int)) = false := by simp [hl]
      have HIH : Hid (∀ k (hk : k < a.length) (l2 : List Sp) (v1 v2 : Value) (w' : World), Tr w' v1 a[k].kids → Tr w' v2 l2 → Calls Tryd.prog 18 #[v1, v2] w' fun e w'' => e = .returned (.bool (smAll a[k].kids l2)) ∧ ∃ n, w'' = w'.drewN n) := Lib.hid (fun k hk l2 v1 v2 w' t1 t2 =>
        ih (totAll a[k].kids) (Nat.lt_of_lt_of_le (totAll_kids (List.getElem_mem hk)) hm) a[k].kids l2 v1 v2 w' (Nat.le_refl _) t1 t2)
      have H0 : Hid (smAll a b = smAll (a.drop 0) (b.drop 0)) := Lib.hid (by rw [List.drop_zero, List.drop_zero])
      obtain ⟨X, hX⟩ : ∃ X, smAll a b = X := ⟨_, rfl⟩
      rw [hX] at H0
      rw [hX]
      clear ih ta tb hm hX
      go_enter Tryd.func18, Tryd.ntmps18
      go_wp2_with fail
      go_loopw [13] (fun i wr => ∃ k n : Nat, k ≤ a.length ∧ i = .int .i64 k ∧ wr = w.drewN n ∧ Hid (X = smAll (a.drop k) (b.drop k))) (fun i _ => a.length - (intOf i).toNat)
      case atStart => exact ⟨0, 0, Nat.zero_le _, rfl, rfl, H0⟩
      case round =>
        clear H0
        obtain ⟨k, n, hk, rfl, hwr, HN⟩ := hrel
        have HW := Lib.hid hwr
        by_cases hlt : k < a.length
        · have hlt2 : k < b.length := by omega
          have hnx := HN.out
          rw [drop_cons a k hlt, drop_cons b k hlt2, smAll_cons, smOne_eq] at hnx
          have hi1 : (k : Int) < (a.length : Int) := by omega
          have hi2 : (k : Int) < (b.length : Int) := by omega
          obtain ⟨b1, o1, ak1, ck1, rfl, hb1, hC1⟩ := FA.out n k hlt
          obtain ⟨b2, o2, ak2, ck2, rfl, hb2, hC2⟩ := FB.out n k hlt2
          rw [← hwr] at hC1 hC2
          have c0 := hC1.kind
          have c1 := hC1.s
          have c2 := hC1.kids
          have d0 := hC2.kind
          have d1 := hC2.s
          have d2 := hC2.kids
          have HC := Lib.hid (fun q => HIH.out k hlt b[k].kids _ _ (wr.drewN q) (hC1.tr.drewN q) (hC2.tr.drewN q))
          have HQ := Lib.hid hnx
          have hs1 := S_toList a[k].s
          have hs2 := S_toList b[k].s
          clear hnx HN hC1 hC2 hwr
          generalize smAll a[k].kids b[k].kids = y at *
          generalize a[k].kids.length = kn1 at *
          generalize b[k].kids.length = kn2 at *
          generalize a[k].kind = z1 at *
          generalize b[k].kind = z2 at *
          generalize a[k].s = s1 at *
          generalize b[k].s = s2 at *
          by_cases hz : z1 = z2
          · have e1 : (z1 != z2) = false := by simp [hz]
            by_cases hs : s1 = s2
            · have e2 : ((S s1).toList == (S s2).toList) = true := by rw [hs]; simp
              have e2' : ((S s1).toList != (S s2).toList) = false := by rw [hs]; simp
              have HQ2 : Hid (X = (y && smAll (a.drop (k + 1)) (b.drop (k + 1)))) := Lib.hid (by rw [HQ.out, decide_eq_true hz, decide_eq_true hs]; simp)
              clear HQ hz hs hs1 hs2
              generalize S s1 = t1 at *
              generalize S s2 = t2 at *
              go_wp2_with fail
              go_quiet (first | (go_at_call 18; refine Calls.quiet_of (calls_at (args := #[.slice ak1 kn1 ck1, .slice ak2 kn2 ck2]) rfl (HC.out _) (fun _ _ h => h))))
              cases y with
              | true =>
                have HR : Hid (X = smAll (a.drop (k + 1)) (b.drop (k + 1))) := Lib.hid (by rw [HQ2.out]; rfl)
                go_wp2_with fail
                go_roundw
                case rel => exact ⟨k + 1, n + nq, by omega, by go_num, by rw [HW.out, World.drewN_drewN], HR⟩
                case measure => simp [intOf] <;> omega
              | false =>
                have HR : Hid (X = false) := Lib.hid (by rw [HQ2.out]; rfl)
                go_wp2_with fail
                go_ret
                exact ⟨ret_bool HR.out.symm, n + nq, by rw [HW.out, World.drewN_drewN]⟩
            · have e2 : ((S s1).toList == (S s2).toList) = false := by rw [hs1, hs2]; simpa using hs
              have e2' : ((S s1).toList != (S s2).toList) = true := by rw [hs1, hs2]; simpa using hs
              have HR : Hid (X = false) := Lib.hid (by rw [HQ.out, decide_eq_false hs]; simp)
              clear HQ hz hs HC hs1 hs2
              generalize S s1 = t1 at *
              generalize S s2 = t2 at *
              go_wp2_with fail
              go_quiet (fail)
              go_wp2_with fail
              go_ret
              exact ⟨ret_bool HR.out.symm, n + nq, by rw [HW.out, World.drewN_drewN]⟩
          · have e1 : (z1 != z2) = true := by rw [bne_iff_ne]; exact hz
            have HR : Hid (X = false) := Lib.hid (by rw [HQ.out, decide_eq_false hz]; simp)
            clear HQ hz HC hs1 hs2
            generalize S s1 = t1 at *
            generalize S s2 = t2 at *
            go_wp2_with fail
            go_quiet (fail)
            go_wp2_with fail
            go_ret
            exact ⟨ret_bool HR.out.symm, n + nq, by rw [HW.out, World.drewN_drewN]⟩
        · obtain rfl : k = a.length := by omega
          have hnx := HN.out
          rw [List.drop_length, List.drop_eq_nil_of_le (by omega)] at hnx
          have HR : Hid (X = true) := Lib.hid (by rw [hnx]; unfold smAll; rfl)
          clear hnx HN hlt hwr
          go_wp2_with fail
          go_ret
          exact ⟨ret_bool HR.out.symm, n, HW.out⟩
    · have e0 : ((a.length : Int) != (b.length : Int)) = true := by simp; omega
      have HR := Lib.hid (smAll_len a b hl)
      clear ih ta tb hm hl FA FB
      go_enter Tryd.func18, Tryd.ntmps18
      go_wp2_with fail
      go_ret
      exact ⟨ret_bool HR.out.symm, 0, rfl⟩

end Go.Proofs.YtldllbmbcnipoaaDoor.Sp
