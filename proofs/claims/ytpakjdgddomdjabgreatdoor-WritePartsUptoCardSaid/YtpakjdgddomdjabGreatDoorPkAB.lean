import Derived.Test.YtpakjdgddomdjabGreatDoorPkZ
import Derived.Test.YtpakjdgddomdjabGreatDoorPkL
import Derived.Test.YtpakjdgddomdjabGreatDoorPkC
import Derived.Test.YtpakjdgddomdjabGreatDoorPkAC
import Derived.Test.YtpakjdgddomdjabGreatDoorPkV
set_option linter.unusedVariables false
namespace Go.Proofs.YtpakjdgddomdjabGreatDoor
namespace Pa
open Go.RowKit
open Bk (Tx Bk kindOf)
open Kd (E0)
def after (o:Option Bk) (r:Option (List Bk)):Option (List Bk):=match o with |none=>none |some b=>r.map (b::·)
theorem allE_after {deep:Nat} {s:Tx} {l:List Tx} (hd:deep≤16) (h:kindOf E0 s≠1):allE deep (s::l)=after (valB allE deep s l) (allE deep (restB s l)):=by
 rw[allE_block hd h];cases valB allE deep s l<;>rfl
end Pa
namespace Pa
open Go.RowKit
open Tk (S)
open Bt (TrB)
open Bk (Tx Bk)
open Utf (chk)
def lnsB (xs:List Tx):List Bk × Int:=match allE 0 xs with |none=>([],5)|some l=>(l,0)
def docB (s:Tx):List Bk × Int:=if chk (S s)=0 then lnsB (Ln.split s).1 else([],chk (S s))
def LnsAns (w:World) (r:List Bk × Int) (e:Ending) (w':World):Prop:=∃u,e=.returned (.tuple #[u,.int .i64 r.2])∧TrB w' u r.1∧Below w.heap.size w w'
end Pa
namespace Pa
open Go.RowKit
open Cm (Keep Rk)
open Bk (Tx kindOf)
open Kd (E0)
def spr (xs:List Tx):Nat→Nat→List (Nat × Nat)
 |0,_=>[]
 |f+1,j=>match xs.drop j with
  |[]=>[]
  |s::l=>if kindOf E0 s=1 then spr xs f (j+1)else(j,plc xs (restB s l))::spr xs f (plc xs (restB s l))
def sprB (xs:List Tx):List (Nat × Nat):=spr xs (xs.length+1) 0
theorem spr_end {xs:List Tx} (f:Nat):spr xs f xs.length=[]:=by
 cases f with
 |zero=>rfl
 |succ f=>rw[spr,List.drop_length]
theorem spr_blank {xs:List Tx} {f j:Nat} {s:Tx} {l:List Tx} (h:xs.drop j=s::l) (hk:kindOf E0 s=1):spr xs (f+1) j=spr xs f (j+1):=by
 rw[spr,h];exact if_pos hk
theorem spr_block {xs:List Tx} {f j:Nat} {s:Tx} {l:List Tx} (h:xs.drop j=s::l) (hk:kindOf E0 s≠1):spr xs (f+1) j=(j,plc xs (restB s l))::spr xs f (plc xs (restB s l)):=by
 rw[spr,h];exact if_neg hk
def encP (p:Nat × Nat):List Value:=[.int .i64 (p.1:Nat),.int .i64 (p.2:Nat)]
def OutP (B:Nat) (w:World) (v:Value) (l:List (Nat × Nat)):Prop:=OutG 2 35 encP (fun _ _=>True) B w v l
theorem infoP:(Tryz.prog.info? 35).map (fun i=>(i.zero,i.size,i.bytes))=some (some (.agg #[.int .i64 0,.int .i64 0]),2,16):=by kernel_rfl
theorem OutP.push {B:Nat} {w:World} {v:Value} {l:List (Nat × Nat)} (h:OutP B w v l) (x:Nat × Nat) (hl:l.length+1≤1000000):
  ∃v' w',(∀ty,(Builtin.append_ #[32,32] ty #[v,.slice (some ⟨w.heap.size,0,none⟩) 1 1]).run Tryz.prog (w.alloc (.cells #[.int .i64 (x.1:Nat),.int .i64 (x.2:Nat)] 35))= .ok v' w')∧OutP B w' v' (l++[x])∧Keep (fun j=>some j=v.ownBlock) w w':=
 OutG.push (ts:=32) Tryz.underlying32 infoP rfl (by decide) (by decide) (fun _=>rfl) h (fun _ _=>trivial) (fun u hu=>by
  rw[encP]at hu;rcases List.mem_cons.1 hu with rfl |hu
  ·rfl
  ·rw[List.mem_singleton]at hu;subst hu;rfl) hl
def RdP (w:World) (v:Value) (l:List (Nat × Nat)):Prop:=Rk 2 encP w v l∧l.length≤1000000
def SprAns (w:World) (l:List (Nat × Nat)) (e:Ending) (w':World):Prop:=∃u,e=.returned u∧RdP w' u l∧Below w.heap.size w w'
end Pa
namespace Pa
open Go.RowKit
open Tk (Rd)
open Sp (OkAns)
open Bt (TrB fitAll ttAll rgB)
open Bk (Tx Bk)
structure Told12:Prop where
 doc:∀(s:ByteArray) (w:World),s.size≤250000→Calls Tryz.prog 10 #[.string s] w (LnsAns w (docB s.data.toList))
 lines:∀(v:Value) (xs:List Tx) (w:World),Rd w v xs→tot xs≤260000→Calls Tryz.prog 22 #[v] w (LnsAns w (lnsB xs))
 spread:∀(v:Value) (xs:List Tx) (w:World),Rd w v xs→tot xs≤260000→Calls Tryz.prog 13 #[v] w (SprAns w (sprB xs))
def RightC:Prop:=∀(v:Value) (l:List Bk) (w:World),TrB w v l→fitAll 1048576 l→ttAll l≤9000000→Calls Tryz.prog 25 #[v] w (OkAns w (rgB l))
end Pa
end Go.Proofs.YtpakjdgddomdjabGreatDoor
