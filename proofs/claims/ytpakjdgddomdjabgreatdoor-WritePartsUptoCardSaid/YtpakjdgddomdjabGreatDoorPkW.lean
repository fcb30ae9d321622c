import Derived.Test.YtpakjdgddomdjabGreatDoorPkU
import Derived.Test.YtpakjdgddomdjabGreatDoorPkB
import Derived.BigQuiet
import Derived.Deep.QuietTactic
import Derived.OwnWalk
import Derived.Test.YtpakjdgddomdjabGreatDoorPkL
import Derived.Deep.Cut
import Derived.Test.YtpakjdgddomdjabGreatDoorPkV
set_option linter.unusedVariables false
namespace Go.Proofs.YtpakjdgddomdjabGreatDoor
namespace Kd
open Go.RowKit
open Tk (S S_of len_data)
theorem ext_mid (s:ByteArray) (a b:Nat):(s.extract a b).data.toList=(s.data.toList.drop a).take (b-a):=by
 rw[ByteArray.data_extract];simp only[Array.toList_extract,List.extract_eq_take_drop]
theorem ext_end (s:ByteArray) (k:Nat):(s.extract k s.size).data.toList=s.data.toList.drop k:=by
 rw[ext_mid];exact List.take_of_length_le (by rw[List.length_drop,len_data];exact Nat.le_refl _)
theorem mid_S (s:ByteArray) (a b:Nat):s.extract a b=S ((s.data.toList.drop a).take (b-a)):=by rw[←ext_mid,S_of]
theorem end_S (s:ByteArray) (k:Nat):s.extract k s.size=S (s.data.toList.drop k):=by rw[←ext_end,S_of]
theorem slice_end (x:ByteArray) (m:Nat) (h1:m≤x.size) (w:World):
  (Instr.slice 9 (.string x) (some (.int .i64 (m:Int))) none none).run Tryz.prog w=.ok (.string (x.extract m x.size)) w:=by
 have h4:(m:Int)≤(x.size:Int):=by omega
 have h5:0≤(m:Int):=by omega
 go_simp
theorem slice_to (x:ByteArray) (k:Nat) (h2:k≤x.size) (w:World):
  (Instr.slice 9 (.string x) none (some (.int .i64 (k:Int))) none).run Tryz.prog w=.ok (.string (x.extract 0 k)) w:=by
 have h4:(k:Int)≤(x.size:Int):=by omega
 have h5:0≤(k:Int):=by omega
 go_simp
theorem data_at (s:ByteArray) (i:Nat) (h:i<s.size):s.data.toList[i]'(by rw[len_data];exact h)=s[i]:=by rw[Array.getElem_toList];rfl
end Kd
namespace Kd
open Go.RowKit
open Tk (len_data)
open Bk (Tx define kindOf)
open Ln (run mx trim)
def kdB (t1 t2 t3 t4 t5 t6 t7:Bool):Nat:=if t1 then 1 else if t2 then 2 else if t3 then 3 else if t4 then 4 else if t5 then 5 else if t6 then 6 else if t7 then 7 else 8
def T2 (l:Tx):Bool:=decide ((1≤run 35 l∧run 35 l≤6)∧(l.length=run 35 l∨l[run 35 l]? = some 32))
def T3 (l:Tx):Bool:=decide (3≤run 45 l∧run 45 l=l.length)
def T4 (l:Tx):Bool:=decide (3≤run 96 l∧mx 96 (l.drop (run 96 l))=0)
def T6 (l:Tx):Bool:=decide (l=[45]∨l.take 2=[45,32])
theorem kd_eq (l:Tx):kindOf E0 l=kdB (decide (trim l=[])) (T2 l) (T3 l) (T4 l) (decide (l.head? = some 62)) (T6 l) (define E0 l).isSome:=by
 unfold kindOf kdB T2 T3 T4 T6;simp only[decide_eq_true_eq]
theorem data_get (s:ByteArray) (i:Nat) (h:i<s.size):s.data.toList[i]? = some s[i]:=by
 rw[List.getElem?_eq_getElem (by rw[len_data];exact h),data_at s i h]
end Kd
namespace Kd
open Go.RowKit
open Tk (S Rd)
open Sp (Tr)
open Bt (TrB)
open Cm (cell_at set_at lt_of_at)
open Bk (Tx Bk define kindOf unquote)
open Ln (run trim)
def hdN (l:Tx):Nat:=if kindOf E0 l=2 then run 35 l else 0
def hdT (l:Tx):Tx:=if kindOf E0 l=2 then trim (l.drop (run 35 l))else []
def opN (l:Tx):Nat:=if kindOf E0 l=4 then run 96 l else 0
def opT (l:Tx):Tx:=if kindOf E0 l=4 then trim (l.drop (run 96 l))else []
def clB (l:Tx) (n:Int):Bool:=decide (0<l.length)&&decide (n≤(l.length:Int))&&decide (run 96 l=l.length)
def uqT (l:Tx):Tx:=if kindOf E0 l=5 then unquote l else []
def uiT (l:Tx):Tx:=if kindOf E0 l=6 then l.drop 2 else []
def dfB (l:Tx):Bk:=if kindOf E0 l=7 then(match define E0 l with |some (a,d)=>.mk 8 0 a [d] [] []|none=>.mk 0 0 [] [] [] [])else .mk 0 0 [] [] [] []
def BlkAns (w:World) (b:Bk) (e:Ending) (w':World):Prop:=∃vl vs ao cap,e=.returned (.agg #[.int .i64 b.kind,.int .i64 b.level,.string (S b.info),vl,vs,.slice ao b.kids.length cap])∧Below w.heap.size w w'∧Rd w' vl b.lines∧b.lines.length≤9223372036854775807∧Tr w' vs b.spans∧TrB w' (.slice ao b.kids.length cap) b.kids
theorem nilRd (w:World):Rd w (.slice none 0 0) []:=⟨none,0,rfl,Nat.le_refl _,Or.inl rfl⟩
theorem nilTr (w:World):Tr w (.slice none 0 0) []:=⟨none,0,rfl,⟨Nat.le_refl _,by omega⟩,Or.inl rfl⟩
theorem nilTrB (w:World):TrB w (.slice none 0 0) []:=⟨none,0,rfl,⟨Nat.le_refl _,by omega⟩,Or.inl rfl⟩
def inV (o:Option Tx):Value:=.tuple #[.string (S (o.getD [])),.bool o.isSome]
theorem set6 {w:World} {b:Nat} {v0 v1 v2 v3 v4 v5 u0 u1 u2 u3 u4 u5:Value} {T:TypeId} {fr:Nat × Nat} (h:w.heap[b]? = some (Obj.cells #[v0,v1,v2,v3,v4,v5] T fr)):
  ((((((w.setCell ⟨b,0,none⟩ u0).setCell ⟨b,1,none⟩ u1).setCell ⟨b,2,none⟩ u2).setCell ⟨b,3,none⟩ u3).setCell ⟨b,4,none⟩ u4).setCell ⟨b,5,none⟩ u5).heap[b]? = some (Obj.cells #[u0,u1,u2,u3,u4,u5] T fr):=
 set_at (set_at (set_at (set_at (set_at (set_at h 0 u0) 1 u1) 2 u2) 3 u3) 4 u4) 5 u5
theorem set6_other {w:World} {b k:Nat} (hne:k≠b) (u0 u1 u2 u3 u4 u5:Value):
  ((((((w.setCell ⟨b,0,none⟩ u0).setCell ⟨b,1,none⟩ u1).setCell ⟨b,2,none⟩ u2).setCell ⟨b,3,none⟩ u3).setCell ⟨b,4,none⟩ u4).setCell ⟨b,5,none⟩ u5).heap[k]? = w.heap[k]?:=by
 have h:∀(w:World) (i:Nat) (v:Value),(w.setCell ⟨b,i,none⟩ v).heap[k]? = w.heap[k]?:=fun w i v=>Below.heap_setCell _ _ _ _ hne
 rw[h,h,h,h,h,h]
theorem set6_below {w0 w:World} {B b:Nat} (h:Below B w0 w) (hb:B≤b) (u0 u1 u2 u3 u4 u5:Value):
  Below B w0 ((((((w.setCell ⟨b,0,none⟩ u0).setCell ⟨b,1,none⟩ u1).setCell ⟨b,2,none⟩ u2).setCell ⟨b,3,none⟩ u3).setCell ⟨b,4,none⟩ u4).setCell ⟨b,5,none⟩ u5):=
 (((((h.setCell (p:=⟨b,0,none⟩) hb u0).setCell (p:=⟨b,1,none⟩) hb u1).setCell (p:=⟨b,2,none⟩) hb u2).setCell (p:=⟨b,3,none⟩) hb u3).setCell (p:=⟨b,4,none⟩) hb u4).setCell (p:=⟨b,5,none⟩) hb u5
theorem blk_zero {w w5:World} {X:Bk} (HB:Below w.heap.size w w5) (HR:X=.mk 0 0 [] [] [] []):
  BlkAns w X (.returned (.agg #[.int .i64 0,.int .i64 0,.string ⟨#[]⟩,.slice none 0 0,.slice none 0 0,.slice none 0 0])) w5:=by
 subst HR;exact⟨_,_,none,0,rfl,HB,nilRd _,by simp[Bk.lines],nilTr _,nilTrB _⟩
theorem blk_one {w w5:World} {X:Bk} {a d:Tx} {sa:ByteArray} {k:Nat} {T:TypeId} {fr:Nat × Nat} (HSa:S a=sa) (HB:Below w.heap.size w w5) (HA:w5.heap[k]? = some (Obj.cells #[.string (S d)] T fr)) (HR:X=.mk 8 0 a [d] [] []):
  BlkAns w X (.returned (.agg #[.int .i64 8,.int .i64 0,.string sa,.slice (some ⟨k,0,none⟩) 1 1,.slice none 0 0,.slice none 0 0])) w5:=by
 subst HR;subst HSa;refine⟨.slice (some ⟨k,0,none⟩) 1 1,_,none,0,rfl,HB,⟨_,1,rfl,Nat.le_refl _,Or.inr ⟨k,0,rfl,lt_of_at HA,fun j x hj=>?_⟩⟩,by simp[Bk.lines],nilTr _,nilTrB _⟩;have h0:=cell_at HA 0;cases j with
 |zero=>
  have:x=d:=by simpa [Bk.lines]using hj.symm
  subst this;exact h0
 |succ j=>simp[Bk.lines]at hj
end Kd
end Go.Proofs.YtpakjdgddomdjabGreatDoor
