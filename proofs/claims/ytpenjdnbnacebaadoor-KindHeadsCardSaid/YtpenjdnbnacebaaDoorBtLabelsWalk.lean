/-
  THE WALK of the statement TreeLabels.
-/
import Derived.Test.YtpenjdnbnacebaaDoorBt10Told
import Derived.Test.YtpenjdnbnacebaaDoorBtPlain
import Derived.Test.YtpenjdnbnacebaaDoorSpWrapsWalk
namespace Go.Proofs.YtpenjdnbnacebaaDoor.Bt
open Go.RowKit
open Go.Proofs.YtpenjdnbnacebaaDoor.Tk (S S_of S_list S_size S_toList ret_int Rd at_data len_data)
open Go.Proofs.YtpenjdnbnacebaaDoor.Cm (calls_at)
open Go.Proofs.YtpenjdnbnacebaaDoor.Sp (Sp Tr ret_bool OkAns rtB dsB)
open Go.Proofs.YtpenjdnbnacebaaDoor.Bk (Bk)
set_option linter.unusedVariables false

def dfn (lv : Int) (i : List UInt8) (ls : List (List UInt8)) (ks : List Bk) : List Bk := [.mk 8 lv i ls [] ks]
def lnk (t : List UInt8) : List Bk := [.mk 1 0 [] [] [.mk 4 t [.mk 2 [99] []]] []]
theorem dest_ok {s : List UInt8} (h : dsB s = true) (hs : s.length ≤ 100000) : Sp.ckB s = true := by
  unfold Sp.ckB
  refine decide_eq_true (Sp.chk_ascii (S s) (by rw [S_size]; omega) (fun k hk => ?_))
  unfold dsB at h
  rw [Bool.and_eq_true, List.all_eq_true] at h
  apply Sp.dc_range
  apply h.1
  have := at_data (S s) k hk
  rw [S_list] at this
  exact List.mem_of_mem_drop (by rw [this]; exact List.mem_cons_self ..)
theorem lnk_rt (t : List UInt8) : rtB [.mk 4 t [.mk 2 [99] []]] = (Sp.ckB t && dsB t) := by
  have e : Sp.okAll false true 0 [.mk 2 [99] []] = true := by decide +kernel
  unfold rtB
  rw [Sp.okAll_cons, Sp.okOne_eq]
  simp only [Sp.kind, Sp.s, Sp.kids]
  rw [e]
  simp [Sp.okAll, Sp.endB, Sp.hdB, Sp.ltB, Sp.kind]
theorem lnk_rg {t : List UInt8} (h : t.length ≤ 100000) : rgB (lnk t) = dsB t := by
  have e : rgB (lnk t) = rtB [.mk 4 t [.mk 2 [99] []]] := by
    unfold rgB lnk
    rw [allB_cons, oneB]
    have hd : dp [Bk.mk 1 0 [] [] [.mk 4 t [.mk 2 [99] []]] []] = 0 := by
      show dpAll 0 _ = 0
      rw [dpAll_cons, if_neg (by show ¬ (false = true); decide), dpAll]
      rfl
    rw [hd]
    simp [allB]
  rw [e, lnk_rt]
  cases hd : dsB t with
  | false => rw [Bool.and_false]
  | true => rw [dest_ok hd h]; rfl
theorem dfn_rg (lv : Int) (i : List UInt8) (ls : List (List UInt8)) : rgB (dfn lv i ls []) = ((lv == 0) && labB i && decide (ls.length = 1) && dsB (ls.headD [])) := by
  unfold rgB dfn
  rw [allB_cons, oneB]
  have hd : dp [Bk.mk 8 lv i ls [] []] = 0 := by
    show dpAll 0 _ = 0
    rw [dpAll_cons, if_neg (by show ¬ (false = true); decide), dpAll]
    rfl
  rw [hd]
  simp [allB]
theorem dfn_kids (lv : Int) (i : List UInt8) (ls : List (List UInt8)) (x : Bk) : rgB (dfn lv i ls [x]) = false := by
  unfold rgB dfn
  rw [allB_cons, oneB]
  simp

theorem litR (w : World) (t : List UInt8) (T : TypeId) : Rd (w.alloc (.cells #[.string (S t)] T)) (.slice (some ⟨w.heap.size, 0, none⟩) 1 1) [t] := by
  refine ⟨_, 1, rfl, Nat.le_refl _, Or.inr ⟨w.heap.size, 0, rfl, by simp, fun j x hj => ?_⟩⟩
  match j, hj with
  | 0, hj =>
    simp only [List.getElem?_cons_zero, Option.some.injEq] at hj
    subst hj
    rw [World.cell?_alloc_new]; rfl
theorem litR2 (w : World) (t : List UInt8) (T : TypeId) : Rd (w.alloc (.cells #[.string (S t), .string (S t)] T)) (.slice (some ⟨w.heap.size, 0, none⟩) 2 2) [t, t] := by
  refine ⟨_, 2, rfl, Nat.le_refl _, Or.inr ⟨w.heap.size, 0, rfl, by simp, fun j x hj => ?_⟩⟩
  match j, hj with
  | 0, hj =>
    simp only [List.getElem?_cons_zero, Option.some.injEq] at hj
    subst hj
    rw [World.cell?_alloc_new]; rfl
  | 1, hj =>
    simp only [List.getElem?_cons_succ, List.getElem?_cons_zero, Option.some.injEq] at hj
    subst hj
    rw [World.cell?_alloc_new]; rfl
/-- A literal of one span. -/
theorem litS {w : World} {k : Int} {i : List UInt8} {ao : Option Addr} {n c : Nat} {ks : List Sp} (htr : Tr w (.slice ao n c) ks) (T : TypeId) :
    Tr (w.alloc (.cells #[.int .i64 k, .string (S i), .slice ao n c] T)) (.slice (some ⟨w.heap.size, 0, none⟩) 1 1) [.mk k i ks] := by
  have hb : Below w.heap.size w (w.alloc (.cells #[.int .i64 k, .string (S i), .slice ao n c] T)) := (Below.refl _ _).alloc (Nat.le_refl _) _
  have hn : n = ks.length := by obtain ⟨_, _, hv, _⟩ := htr; simp only [Value.slice.injEq] at hv; exact hv.2.1
  subst hn
  refine ⟨_, 1, rfl, ⟨Nat.le_refl _, by omega⟩, Or.inr ⟨w.heap.size, 0, rfl, by simp, ?_⟩⟩
  unfold Sp.trAll
  refine ⟨Sp.trOne_of (ao := ao) (cap := c) ⟨?_, ?_, ?_, htr.below hb⟩, by unfold Sp.trAll; trivial⟩
  · rw [World.cell?_alloc_new]; rfl
  · rw [World.cell?_alloc_new]; rfl
  · rw [World.cell?_alloc_new]; rfl
theorem dfn_fit {lv : Int} {i : List UInt8} {ls : List (List UInt8)} {ks : List Bk} (hl : -9223372036854775808 ≤ lv ∧ lv ≤ 9223372036854775807) (hi : i.length ≤ 2000) (hls : ∀ s ∈ ls, s.length ≤ 2000) (hk : fitAll 1048576 ks) : fitAll 1048576 (dfn lv i ls ks) := by
  unfold dfn
  rw [fitAll, fitOne, fitAll]
  exact ⟨⟨by omega, hl, by omega, fun s hs => by have := hls s hs; omega, by unfold Sp.fitAll; trivial, hk⟩, trivial⟩
theorem lnk_fit {t : List UInt8} (h : t.length ≤ 2000) : fitAll 1048576 (lnk t) := by
  unfold lnk
  simp only [fitAll, fitOne, Sp.fitAll, Sp.fitOne, List.length_nil, List.length_cons]
  simp
  omega
theorem dfn_tt {lv : Int} {i : List UInt8} {ls : List (List UInt8)} {ks : List Bk} (hi : i.length ≤ 2000) (hls : lnTot ls ≤ 5000) (hk : ttAll ks ≤ 5000) : ttAll (dfn lv i ls ks) ≤ 9000000 := by
  unfold dfn
  rw [ttAll_cons, ttOne, ttAll, Sp.totAll]
  omega
theorem lnk_tt {t : List UInt8} (h : t.length ≤ 2000) : ttAll (lnk t) ≤ 9000000 := by
  unfold lnk
  rw [ttAll_cons, ttOne, ttAll]
  simp [lnTot, Sp.totAll, Sp.totOne]
  omega

end Go.Proofs.YtpenjdnbnacebaaDoor.Bt
