import Derived.Test.YtpakjdgddomdjabGreatDoorPkD
import Derived.Test.YtpakjdgddomdjabGreatDoorPkA
import Derived.Test.YtpakjdgddomdjabGreatDoorPkE
import Derived.Lib.QuietBelow
import Derived.BigQuiet
import Derived.Test.YtpakjdgddomdjabGreatDoorPkY
import Derived.Test.YtpakjdgddomdjabGreatDoorPkB
set_option linter.unusedVariables false
namespace Go.Proofs.YtpakjdgddomdjabGreatDoor
namespace Sp
open Go.RowKit
theorem esc_cons (c:UInt8) (r:List UInt8):esc (c::r)=(if marked c=true then [92,c]else [c])++esc r:=by
 rw[esc];split<;>rfl
theorem esc_le:∀l:List UInt8,(esc l).length≤2*l.length
 |[]=>Nat.le_refl _
 |c::r=>by
  have:=esc_le r;rw[esc_cons,List.length_append,List.length_cons];split<;>simp<;>omega
end Sp
namespace Sp
open Go.RowKit
open Tk (at_data)
theorem hasRun_fuel (n:Nat):∀(m f f':Nat) (t:List UInt8),t.length≤m→t.length≤f→t.length≤f'→hasRun n f t=hasRun n f' t
 |m,f,f',[],_,_,_=>by rw[hasRun_nil,hasRun_nil]
 |0,f,f',b::r,h,_,_=>by simp at h
 |m+1,f,f',b::r,h,h1,h2=>by
  obtain⟨g,rfl⟩:∃g,f=g+1:=⟨f-1,by simp at h1;omega⟩;obtain⟨g',rfl⟩:∃g,f'=g+1:=⟨f'-1,by simp at h2;omega⟩;have hd:=drop_lt (b:=b) (r:=r);have hl:(b::r).length=r.length+1:=rfl;rw[hl]at h h1 h2 hd;rw[hasRun_cons,hasRun_cons,hasRun_fuel n m g g' _ (by omega) (by omega) (by omega)]
def hrAt (l:List UInt8) (k n:Nat):Bool:=hasRun n (l.drop k).length (l.drop k)
theorem hrAt_step (s:ByteArray) (n k:Nat) (h:k<s.size):hrAt s.data.toList k n=if ticks (s.data.toList.drop k)=n then true else hrAt s.data.toList (k+max (ticks (s.data.toList.drop k)) 1) n:=by
 have hdd:s.data.toList.drop (k+max (ticks (s.data.toList.drop k)) 1)=(s.data.toList.drop k).drop (max (ticks (s.data.toList.drop k)) 1):=by rw[List.drop_drop]
 unfold hrAt;rw[hdd];cases ht:s.data.toList.drop k with
 |nil=>exfalso;rw[at_data s k h]at ht;cases ht
 |cons b r=>
  have hd:=drop_lt (b:=b) (r:=r);have hl:(b::r).length=r.length+1:=rfl;rw[hl]at hd ⊢;rw[hasRun_cons,hasRun_fuel n r.length r.length _ _ (by omega) (by omega) (Nat.le_refl _)]
end Sp
namespace Sp
open Go.RowKit
end Sp
namespace Sp
open Go.RowKit
theorem fence_le (s:List UInt8):∀f n,fence s f n≤n+f
 |0,n=>Nat.le_refl _
 |f+1,n=>by
  have:=fence_le s f (n+1);show(if hasRun n s.length s=true then fence s f (n+1)else n)≤_;split<;>omega
theorem ticksOf_le (s:List UInt8):ticksOf s≤s.length+2:=by
 have:=fence_le s (s.length+1) 1;unfold ticksOf;omega
theorem padded_le (s:List UInt8):(padded s).length≤s.length+2:=by
 unfold padded;split<;>simp
theorem wr1_eq (x:Sp):wr1 x=if x.kind=1 then esc x.s else if x.kind=2 then List.replicate (ticksOf x.s) 96++(padded x.s++List.replicate (ticksOf x.s) 96)
  else if x.kind=3 then 42::(wrs x.kids++[42])else if x.kind=4 then 91::(wrs x.kids++(93::40::(x.s++[41])))else []:=by
 obtain⟨k,s,kids⟩:=x;rw[wr1];rfl
theorem wrs_cons (x:Sp) (r:List Sp):wrs (x::r)=wr1 x++wrs r:=by rw[wrs]
mutual
theorem wr1_le:∀x:Sp,(wr1 x).length≤6*totOne x
 |.mk q s l=>by
  have h:=wrs_le l;have h1:=esc_le s;have h2:=ticksOf_le s;have h3:=padded_le s;rw[totOne_eq,wr1_eq]
  show(if q=1 then esc s else if q=2 then List.replicate (ticksOf s) 96++(padded s++List.replicate (ticksOf s) 96)
   else if q=3 then 42::(wrs l++[42])else if q=4 then 91::(wrs l++(93::40::(s++[41])))else []).length≤6*(1+s.length+totAll l)
  split
  ·omega
  ·split
   ·simp only[List.length_append,List.length_replicate];omega
   ·split
    ·simp only[List.length_append,List.length_cons,List.length_nil];omega
    ·split
     ·simp only[List.length_append,List.length_cons,List.length_nil];omega
     ·simp
theorem wrs_le:∀l:List Sp,(wrs l).length≤6*totAll l
 |[]=>by simp[wrs]
 |x::r=>by
  have h1:=wr1_le x;have h2:=wrs_le r;rw[wrs_cons,totAll_cons,List.length_append];omega
end
end Sp
namespace Sp
open Go.RowKit
open Tk (S)
def wrB (l:List Sp):ByteArray:=S (if rtB l=true then wrs l else [])
def erB (l:List Sp):Int:=if rtB l=true then 0 else 6
def TwoAns (w:World) (x:ByteArray) (n:Int) (e:Ending) (w':World):Prop:=e=.returned (.tuple #[.string x,.int .i64 n])∧Below w.heap.size w w'
end Sp
end Go.Proofs.YtpakjdgddomdjabGreatDoor
