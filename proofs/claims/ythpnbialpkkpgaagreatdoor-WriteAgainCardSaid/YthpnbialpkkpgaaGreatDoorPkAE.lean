import Derived.Test.YthpnbialpkkpgaaGreatDoorPkAD
set_option linter.unusedVariables false
namespace Go.Proofs.YthpnbialpkkpgaaGreatDoor
namespace Pa
open Bk (Tx Bk Env fenceL spanK itemL dropBlank listL items kindOf closes unquote unitem inner define parse joinLF)
open Bt (dp)
open Ln (run mx trim)
open Kd (E0)
structure Tl (T:List Tx):Prop where
 hd:T=[]∨∃t r,T=t::r∧kindOf E0 t=1
 it:itemL E0 T=([],T)
 nx:dropBlank E0 T=[]∨∃t r,dropBlank E0 T=t::r∧kindOf E0 t≠6
variable {T:List Tx}
end Pa
end Go.Proofs.YthpnbialpkkpgaaGreatDoor
