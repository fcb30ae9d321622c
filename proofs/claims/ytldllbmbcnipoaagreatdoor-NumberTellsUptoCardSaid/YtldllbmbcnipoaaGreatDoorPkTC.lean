/-
  Several texts in one:
  HOW THE STATEMENTS' ARGUMENTS READ: a []api.Block, opened; how much it holds.
  THE SECOND FORM's BULK, as the rows reckon it, is a reckoning of what a reading holds.
  THE LIBRARY's TABLE OF POWERS (strconv.Itoa reads it), as it was laid.
  FROM A ROW's LISTED VARIABLES: the library's table of powers lies as it was laid.
  CONTRACTS of the document's Count and Deep (emendationref10).
  CONTRACTS of the statements' own kind, and of the document's Plain and Same (emendationref07).
-/
import Derived.Test.YtldllbmbcnipoaaGreatDoorBtTree
import Derived.ProofKit
import Derived.OpenShut
import Derived.Carry
import Derived.SizedLaws
import Derived.Test.YtldllbmbcnipoaaGreatDoorRows
import Derived.Lib.AppendIntMem
import Derived.Test.YtldllbmbcnipoaaGreatDoorProg
import Derived.Lib.LaidTab
import Derived.LaidSub
import Derived.Test.YtldllbmbcnipoaaGreatDoorSpFew
namespace Go.Proofs.YtldllbmbcnipoaaGreatDoor.Bt
open Go.ChangeShapes Go.WideShapes Go.ChangeAt Go.RowKit
open Go.Proofs.YtldllbmbcnipoaaGreatDoor.Bk (Bk)
set_option linter.unusedVariables false

theorem laidOut : laidOutB Tryz.prog = true := by kernel_rfl
theorem blocks_of {H : Type} {enc : TypeId × Value → H} {W : World} {a : Option Addr} {len cap : Nat} {d : DataW H} {ps : List MemPlace} {ts : List TypeId} {ds : List (DataW H)} {j : Nat}
    (h : DataW.Trod enc Tryz.prog W 0 (fun _ => true) true 22 (.slice a len cap) d ps) (hsz : (DataW.weightsEach Tryz.prog ts ds).all (· ≤ reachBytes) = true) (ht : ts[j]? = some 22) (hd : ds[j]? = some d) :
    ∃ l : List Bk, TrB W (.slice a len cap) l ∧ fitAll reachBytes l ∧ ∀ (f : DataW H → Nat) (fa : List (DataW H) → Nat), Bulk f fa → ttAll l ≤ f d := by
  obtain ⟨fuel, hf⟩ := h
  obtain ⟨l, h1, h2, h3⟩ := open_fuel fuel (.slice a len cap) (d, ps) (by simpa [Value.cells] using hf)
  refine ⟨l, h1, h2 (fun n hn => ?_), h3⟩
  have hm := DataW.weights_mem_each (P := Tryz.prog) ht hd n hn
  simpa using List.all_eq_true.1 hsz _ hm

/-- A tree can be read, though its type names itself. -/
theorem blocks_readable : Tryz.prog.readableRec 22 = true := by kernel_rfl

end Go.Proofs.YtldllbmbcnipoaaGreatDoor.Bt

namespace Go.Proofs.YtldllbmbcnipoaaGreatDoor.Bt
open Go.RowKit
set_option linter.unusedVariables false

theorem rowsBulk (H : Type) : Bulk (Rows.uptoBulk (H := H)) Rows.uptoBulkAll where
  str := fun b => by rw [Rows.uptoBulk]; omega
  strp := fun b => by rw [Rows.uptoBulk]; omega
  slice := fun e s => by rw [Rows.uptoBulk]; omega
  agg := fun p => by rw [Rows.uptoBulk]; omega
  cons := fun d r => by rw [Rows.uptoBulkAll]
  nil := by rw [Rows.uptoBulkAll]
theorem small_one {H : Type} {d : DataW H} {r : List (DataW H)} (hk : Rows.uptoSmall H (d :: r) = true) : Rows.uptoBulk d ≤ 1048576 := by
  have h : Rows.uptoBulkAll (d :: r) ≤ 1048576 := of_decide_eq_true hk
  rw [Rows.uptoBulkAll] at h
  omega
theorem small_two {H : Type} {d e : DataW H} {r : List (DataW H)} (hk : Rows.uptoSmall H (d :: e :: r) = true) : Rows.uptoBulk d + Rows.uptoBulk e ≤ 1048576 := by
  have h : Rows.uptoBulkAll (d :: e :: r) ≤ 1048576 := of_decide_eq_true hk
  rw [Rows.uptoBulkAll, Rows.uptoBulkAll] at h
  omega
end Go.Proofs.YtldllbmbcnipoaaGreatDoor.Bt

namespace Go.Proofs.YtldllbmbcnipoaaGreatDoor.Nm
open Go.RowKit
/-- The table lies as it was laid. -/
def Tab (w : World) : Prop := Lib.TabIs Tryz.prog w "internal/strconv.uint64pow10" .u64 Lib.pow10Tab
theorem Tab.below {w w' : World} (h : Tab w) (hb : Below w.heap.size w w') : Tab w' := Lib.tabBelow_of_tabIs h w' hb
end Go.Proofs.YtldllbmbcnipoaaGreatDoor.Nm

namespace Go.Proofs.YtldllbmbcnipoaaGreatDoor.Nm
open Go.RowKit
theorem pow_g : Tryz.prog.globalNamed "internal/strconv.uint64pow10" = some 0 := by kernel_rfl
theorem pow_t : (Tryz.prog.globals[0]?).map (·.type) = some 141 := by kernel_rfl
theorem tab_of {W : World} {l : List (String × DataW Unit)} (h : laidMet Tryz.prog l W) (h1 : (l.filter fun x => x.1 == "internal/strconv.uint64pow10") = [("internal/strconv.uint64pow10", Lib.tabData .u64 Lib.pow10Tab)]) : Tab W := by
  have h2 := laidMet.filter (fun x => x.1 == "internal/strconv.uint64pow10") h
  rw [h1] at h2
  exact Lib.tabIs_of_head pow_g pow_t Tryz.underlying141 Tryz.underlying108 (by kernel_rfl) (by kernel_rfl) h2
end Go.Proofs.YtldllbmbcnipoaaGreatDoor.Nm

namespace Go.Proofs.YtldllbmbcnipoaaGreatDoor.Bt
open Go.RowKit
open Go.Proofs.YtldllbmbcnipoaaGreatDoor.Tk (S S_of S_list S_size ret_int)
open Go.Proofs.YtldllbmbcnipoaaGreatDoor.Cm (calls_at)
open Go.Proofs.YtldllbmbcnipoaaGreatDoor.Bk (Bk)
set_option linter.unusedVariables false

mutual
/-- How much there is: for inductions alone. -/
def szOne : Bk → Nat
  | .mk _ _ _ _ _ l => 1 + szAll l
def szAll : List Bk → Nat
  | [] => 0
  | x :: r => szOne x + szAll r
end
theorem szOne_eq (x : Bk) : szOne x = 1 + szAll x.kids := by obtain ⟨k, lv, i, ls, ss, l⟩ := x; rw [szOne]; rfl
theorem szAll_cons (x : Bk) (r : List Bk) : szAll (x :: r) = szOne x + szAll r := by rw [szAll]
theorem szAll_mem : ∀ {l : List Bk} {x : Bk}, x ∈ l → szOne x ≤ szAll l
  | [], x, h => by cases h
  | y :: r, x, h => by
    rw [szAll_cons]
    rcases List.mem_cons.1 h with rfl | h
    · omega
    · have := szAll_mem h; omega
theorem szAll_kids {l : List Bk} {x : Bk} (h : x ∈ l) : szAll x.kids < szAll l := by
  have h1 := szAll_mem h
  rw [szOne_eq] at h1
  omega
theorem szAll_app : ∀ l m : List Bk, szAll (l ++ m) = szAll l + szAll m
  | [], m => by rw [List.nil_append, szAll]; omega
  | x :: r, m => by rw [List.cons_append, szAll_cons, szAll_cons, szAll_app r m]; omega
theorem szAll_len : ∀ l : List Bk, l.length ≤ szAll l
  | [] => Nat.zero_le _
  | x :: r => by
    have := szAll_len r
    rw [szAll_cons, szOne_eq, List.length_cons]
    omega
theorem drop_cons (l : List Bk) (k : Nat) (h : k < l.length) : l.drop k = l[k] :: l.drop (k + 1) := List.drop_eq_getElem_cons h

/-! All blocks. -/
mutual
/-- As the machine counts. -/
def cntAll (n : Int) : List Bk → Int
  | [] => n
  | x :: r => cntAll (cntOne n x) r
def cntOne (n : Int) : Bk → Int
  | .mk _ _ _ _ _ l => IntKind.i64.wrap (n + cntAll (l.length : Int) l)
end
def cnt (l : List Bk) : Int := cntAll (l.length : Int) l
theorem cntAll_cons (n : Int) (x : Bk) (r : List Bk) : cntAll n (x :: r) = cntAll (IntKind.i64.wrap (n + cnt x.kids)) r := by
  obtain ⟨k, lv, i, ls, ss, l⟩ := x
  rw [cntAll, cntOne]
  rfl

end Go.Proofs.YtldllbmbcnipoaaGreatDoor.Bt

namespace Go.Proofs.YtldllbmbcnipoaaGreatDoor.Sp
open Go.RowKit
open Go.Proofs.YtldllbmbcnipoaaGreatDoor.Tk (S S_of S_list S_size S_toList S_app ret_int)
open Go.Proofs.YtldllbmbcnipoaaGreatDoor.Cm (calls_at)
set_option linter.unusedVariables false

theorem ret_bool {x y : Bool} (h : x = y) : Ending.returned (.bool x) = Ending.returned (.bool y) := by rw [h]
mutual
/-- Is there a span of a kind, however deep? -/
def kdOne (k : Int) : Sp → Bool
  | .mk q _ l => decide (q = k) || kdAll k l
def kdAll (k : Int) : List Sp → Bool
  | [] => false
  | x :: r => kdOne k x || kdAll k r
end
theorem kdOne_eq (k : Int) (x : Sp) : kdOne k x = (decide (x.kind = k) || kdAll k x.kids) := by obtain ⟨q, s, l⟩ := x; unfold kdOne; rfl
theorem kdAll_cons (k : Int) (x : Sp) (r : List Sp) : kdAll k (x :: r) = (kdOne k x || kdAll k r) := by rw [kdAll]

mutual
/-- What spans read. -/
def plOne : Sp → List UInt8
  | .mk q s l => (if q = 1 ∨ q = 2 then s else []) ++ plAll l
def plAll : List Sp → List UInt8
  | [] => []
  | x :: r => plOne x ++ plAll r
end
theorem plOne_eq (x : Sp) : plOne x = (if x.kind = 1 ∨ x.kind = 2 then x.s else []) ++ plAll x.kids := by obtain ⟨q, s, l⟩ := x; unfold plOne; rfl
theorem plAll_cons (x : Sp) (r : List Sp) : plAll (x :: r) = plOne x ++ plAll r := by rw [plAll]
theorem plAll_app : ∀ l m : List Sp, plAll (l ++ m) = plAll l ++ plAll m
  | [], m => by rw [List.nil_append]; rfl
  | x :: r, m => by rw [List.cons_append, plAll_cons, plAll_cons, plAll_app r m, List.append_assoc]
mutual
theorem plOne_len : ∀ x : Sp, (plOne x).length ≤ totOne x
  | .mk q s l => by
    have := plAll_len l
    unfold plOne totOne
    rw [List.length_append]
    split <;> simp <;> omega
theorem plAll_len : ∀ l : List Sp, (plAll l).length ≤ totAll l
  | [] => by unfold plAll totAll; simp
  | x :: r => by
    have h1 := plOne_len x
    have h2 := plAll_len r
    rw [plAll_cons, totAll_cons, List.length_append]
    omega
end
theorem ret_str {x y : ByteArray} (h : x = y) : Ending.returned (.string x) = Ending.returned (.string y) := by rw [h]

set_option maxHeartbeats 1600000 in
theorem rplain_any (m : Nat) : ∀ (l : List Sp) (v : Value) (w : World), totAll l ≤ m → m ≤ 9000000 → Tr w v l →
    Calls Tryz.prog 45 #[v] w fun e w' => e = .returned (.string (S (plAll l))) ∧ w = w' := by
  induction m using Nat.strongRecOn with
  | ind m ih =>
    intro l v w hm hM ht
    obtain ⟨ao, ca, rfl⟩ := ht.len
    have F := Lib.hid ht.at
    have hlen := ht.short
    have HIH : Hid (∀ k (hk : k < l.length) (v' : Value) (w' : World), Tr w' v' l[k].kids → Calls Tryz.prog 45 #[v'] w' fun e w'' => e = .returned (.string (S (plAll l[k].kids))) ∧ w' = w'') := Lib.hid (fun k hk v' w' ht' => by
      have h := totAll_kids (List.getElem_mem hk)
      exact ih (totAll l[k].kids) (Nat.lt_of_lt_of_le h hm) l[k].kids v' w' (Nat.le_refl _) (by omega) ht')
    have hpl : (plAll l).length ≤ 9000000 := Nat.le_trans (plAll_len l) (Nat.le_trans hm hM)
    have H0 : Hid (plAll l = [] ++ plAll (l.drop 0)) := Lib.hid (by rw [List.drop_zero]; rfl)
    obtain ⟨X, hX⟩ : ∃ X, plAll l = X := ⟨_, rfl⟩
    rw [hX] at H0 hpl
    rw [hX]
    clear ih ht hm hX
    go_enter Tryz.func45, Tryz.ntmps45
    go_wp2_with fail
    go_loop [3, 7] (fun s i => ∃ (k : Nat) (p : List UInt8), k ≤ l.length ∧ i = .int .i64 k ∧ s = .string (S p) ∧ Hid (X = p ++ plAll (l.drop k))) (fun _ i => l.length - (intOf i).toNat)
    case atStart => exact ⟨0, [], Nat.zero_le _, rfl, rfl, H0⟩
    case round =>
      clear H0
      obtain ⟨k, p, hk, rfl, rfl, HN⟩ := hrel
      by_cases hlt : k < l.length
      · have hnx := HN.out
        rw [drop_cons l k hlt, plAll_cons, plOne_eq] at hnx
        have hi1 : (k : Int) < (l.length : Int) := by omega
        obtain ⟨b, o, ak, ck, rfl, hb, hC⟩ := F.out k hlt
        have c0 := hC.kind
        have c1 := hC.s
        have c2 := hC.kids
        have HC := Lib.hid (HIH.out k hlt _ w hC.tr)
        have HQ := Lib.hid hnx
        have hall := congrArg List.length hnx
        simp only [List.length_append] at hall
        clear hnx HN hC
        generalize l[k].kids.length = kn at *
        generalize plAll l[k].kids = y at *
        generalize l[k].kind = z at *
        generalize l[k].s = s at *
        have z1 : (S p).size = p.length := S_size _
        have z2 : (S s).size = s.length := S_size _
        have z3 : (S y).size = y.length := S_size _
        have hap := Lib.hid (S_app p s)
        by_cases hz : z = 1 ∨ z = 2
        · rw [if_pos hz] at hall
          have HQ2 : Hid (X = ((p ++ s) ++ y) ++ plAll (l.drop (k + 1))) := Lib.hid (by rw [HQ.out, if_pos hz]; simp)
          have g1 : ¬ 9223372036854775807 < (S p).size + (S s).size := by omega
          have g2 : ¬ 9223372036854775807 < (S p).size + (S s).size + (S y).size := by omega
          have hap2 := Lib.hid (S_app (p ++ s) y)
          clear HQ hall
          rcases hz with hz | hz
          · have e1 : (z == 1) = true := by rw [hz]; rfl
            clear hz
            go_wp2_with fail
            refine HC.out.mono ?_
            rintro e w1 ⟨rfl, rfl⟩
            clear HC
            go_wp2_with fail
            go_round
            case rel => exact ⟨k + 1, (p ++ s) ++ y, by omega, by go_num, by rw [hap.out, hap2.out], HQ2⟩
            case measure => simp [intOf]; omega
          · have e1 : (z == 1) = false := by rw [hz]; rfl
            have e2 : (z == 2) = true := by rw [hz]; rfl
            clear hz
            go_wp2_with fail
            refine HC.out.mono ?_
            rintro e w1 ⟨rfl, rfl⟩
            clear HC
            go_wp2_with fail
            go_round
            case rel => exact ⟨k + 1, (p ++ s) ++ y, by omega, by go_num, by rw [hap.out, hap2.out], HQ2⟩
            case measure => simp [intOf]; omega
        · rw [if_neg hz] at hall
          have HQ2 : Hid (X = (p ++ y) ++ plAll (l.drop (k + 1))) := Lib.hid (by rw [HQ.out, if_neg hz]; simp)
          have e1 : (z == 1) = false := by rw [beq_eq_false_iff_ne]; omega
          have e2 : (z == 2) = false := by rw [beq_eq_false_iff_ne]; omega
          have g1 : ¬ 9223372036854775807 < (S p).size + (S y).size := by omega
          have hap2 := Lib.hid (S_app p y)
          clear HQ hall hz
          go_wp2_with fail
          refine HC.out.mono ?_
          rintro e w1 ⟨rfl, rfl⟩
          clear HC
          go_wp2_with fail
          go_round
          case rel => exact ⟨k + 1, p ++ y, by omega, by go_num, by rw [hap2.out], HQ2⟩
          case measure => simp [intOf]; omega
      · obtain rfl : k = l.length := by omega
        have hnx := HN.out
        rw [List.drop_length] at hnx
        have HQ : Hid (X = p) := Lib.hid (by rw [hnx]; unfold plAll; simp)
        clear hnx HN hlt
        go_wp2_with fail
        go_ret
        exact ⟨ret_str (by rw [HQ.out]), rfl⟩

end Go.Proofs.YtldllbmbcnipoaaGreatDoor.Sp
