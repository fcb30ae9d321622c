import Derived.Test.YthpnbialpkkpgaaGreatDoorPkQ
import Derived.Test.YthpnbialpkkpgaaGreatDoorPkG
import Derived.Test.YthpnbialpkkpgaaGreatDoorPkU
import Derived.Test.YthpnbialpkkpgaaGreatDoorPkX
import Derived.Test.YthpnbialpkkpgaaGreatDoorPkV
import Derived.Test.YthpnbialpkkpgaaGreatDoorPkAC
namespace Go.Proofs.YthpnbialpkkpgaaGreatDoor.Sp
open Go.Proofs.YthpnbialpkkpgaaGreatDoor.Tk (S S_of S_list S_size S_toList S_app cls at_data len_data)
open Go.Proofs.YthpnbialpkkpgaaGreatDoor.Utf (chk chk_zero_iff zeroB)
set_option linter.unusedVariables false
end Go.Proofs.YthpnbialpkkpgaaGreatDoor.Sp
namespace Go.Proofs.YthpnbialpkkpgaaGreatDoor.Pa
open Go.Proofs.YthpnbialpkkpgaaGreatDoor.Bk (Tx Bk Env kindOf define parse joinLF)
open Go.Proofs.YthpnbialpkkpgaaGreatDoor.Ln (run mx trim)
open Go.Proofs.YthpnbialpkkpgaaGreatDoor.Kd (E0)
set_option linter.unusedVariables false
end Go.Proofs.YthpnbialpkkpgaaGreatDoor.Pa
namespace Go.Proofs.YthpnbialpkkpgaaGreatDoor.Pa
open Go.Proofs.YthpnbialpkkpgaaGreatDoor.Tk (S S_list S_size)
open Go.Proofs.YthpnbialpkkpgaaGreatDoor.Sp (Sp)
open Go.Proofs.YthpnbialpkkpgaaGreatDoor.Bt (fitAll fitOne fitOne_eq ttAll ttOne ttOne_eq ttAll_cons lnTot)
open Go.Proofs.YthpnbialpkkpgaaGreatDoor.Bk (Tx Bk Env kindOf define parse joinLF)
open Go.Proofs.YthpnbialpkkpgaaGreatDoor.Ln (run mx trim)
open Go.Proofs.YthpnbialpkkpgaaGreatDoor.Kd (E0)
set_option linter.unusedVariables false
end Go.Proofs.YthpnbialpkkpgaaGreatDoor.Pa
namespace Go.Proofs.YthpnbialpkkpgaaGreatDoor.Bt
open Go.Proofs.YthpnbialpkkpgaaGreatDoor.Sp (Sp)
open Go.Proofs.YthpnbialpkkpgaaGreatDoor.Bk (Bk)
set_option linter.unusedVariables false
theorem rg_parts {l : List Bk} (h : rgB l = true) : allB false 0 l = true ∧ dp l ≤ 16 := by
  unfold rgB at h
  rw [Bool.and_eq_true, decide_eq_true_iff] at h
  exact h
theorem ttAll_app : ∀ a b : List Bk, ttAll (a ++ b) = ttAll a + ttAll b
  | [], b => by rw [List.nil_append, ttAll]; omega
  | x :: a, b => by rw [List.cons_append, ttAll_cons, ttAll_cons, ttAll_app a b]; omega
mutual
theorem sz1_tt : ∀ x : Bk, szOne x ≤ ttOne x
  | .mk k lv i ls ss l => by
    have := sz_tt l
    rw [szOne, ttOne]
    omega
theorem sz_tt : ∀ l : List Bk, szAll l ≤ ttAll l
  | [] => by rw [szAll]; omega
  | x :: r => by
    have h1 := sz1_tt x
    have h2 := sz_tt r
    rw [szAll, ttAll]
    omega
end
end Go.Proofs.YthpnbialpkkpgaaGreatDoor.Bt
namespace Go.Proofs.YthpnbialpkkpgaaGreatDoor.Pa
open Go.Proofs.YthpnbialpkkpgaaGreatDoor.Tk (S S_list S_size)
open Go.Proofs.YthpnbialpkkpgaaGreatDoor.Sp (Sp Wt Wt_app Wt_tail Wt_nil rtB txB edB spB hsB plAll)
open Go.Proofs.YthpnbialpkkpgaaGreatDoor.Bt (allB oneB rgB lineB labB infB ckB tgB dp dpAll dpOne boxB dpAll_cons allB_cons)
open Go.Proofs.YthpnbialpkkpgaaGreatDoor.Bk (Tx Bk Env kindOf define parse joinLF)
open Go.Proofs.YthpnbialpkkpgaaGreatDoor.Ln (run mx trim dl dr gapB)
open Go.Proofs.YthpnbialpkkpgaaGreatDoor.Kd (E0)
set_option linter.unusedVariables false
end Go.Proofs.YthpnbialpkkpgaaGreatDoor.Pa
namespace Go.Proofs.YthpnbialpkkpgaaGreatDoor.Pa
open Go.Proofs.YthpnbialpkkpgaaGreatDoor.Tk (S S_list S_size)
open Go.Proofs.YthpnbialpkkpgaaGreatDoor.Sp (Sp rtB hsB dsB plAll)
open Go.Proofs.YthpnbialpkkpgaaGreatDoor.Bt (allB oneB rgB lineB labB infB ckB tgB dp dpAll dpOne boxB dpAll_cons allB_cons)
open Go.Proofs.YthpnbialpkkpgaaGreatDoor.Bk (Tx Bk Env kindOf define parse joinLF)
open Go.Proofs.YthpnbialpkkpgaaGreatDoor.Ln (run mx trim)
open Go.Proofs.YthpnbialpkkpgaaGreatDoor.Kd (E0)
set_option linter.unusedVariables false
end Go.Proofs.YthpnbialpkkpgaaGreatDoor.Pa
namespace Go.Proofs.YthpnbialpkkpgaaGreatDoor.Pa
open Go.Proofs.YthpnbialpkkpgaaGreatDoor.Tk (S S_list S_size)
open Go.Proofs.YthpnbialpkkpgaaGreatDoor.Sp (Sp V Wt)
open Go.Proofs.YthpnbialpkkpgaaGreatDoor.Bt (fitAll fitOne fitOne_eq)
open Go.Proofs.YthpnbialpkkpgaaGreatDoor.Bk (Tx Bk kindOf define parse joinLF)
open Go.Proofs.YthpnbialpkkpgaaGreatDoor.Ln (run trim)
open Go.Proofs.YthpnbialpkkpgaaGreatDoor.Kd (E0)
open Go.Proofs.YthpnbialpkkpgaaGreatDoor.Utf (chk)
set_option linter.unusedVariables false
end Go.Proofs.YthpnbialpkkpgaaGreatDoor.Pa
