import Derived.Test.YtpakjdgddomdjabGreatDoorPkX
import Derived.Test.YtpakjdgddomdjabGreatDoorSiRead
set_option linter.unusedVariables false
namespace Go.Proofs.YtpakjdgddomdjabGreatDoor
namespace Pa
open Go.RowKit
open Tk (S S_list Rd)
open Sp (Sp Tr parseB)
open Bt (TrB KB)
open Cm (Keep)
open Bk (Tx Bk spanK kindOf parse define)
open Kd (E0)
theorem parse_eq (t:Tx):parseB (S t)=parse t:=by
 unfold parseB parse Sp.Rdr;rw[S_list]
theorem set6_keep {w:World} {b B:Nat} (h:b<B) (u0 u1 u2 u3 u4 u5:Value):Keep (fun j=>j<B) w ((((((w.setCell ⟨b,0,none⟩ u0).setCell ⟨b,1,none⟩ u1).setCell ⟨b,2,none⟩ u2).setCell ⟨b,3,none⟩ u3).setCell ⟨b,4,none⟩ u4).setCell ⟨b,5,none⟩ u5):=
 (((((((Keep.refl _ w).setCell (p:=⟨b,0,none⟩) (Or.inl h) u0).setCell (p:=⟨b,1,none⟩) (Or.inl h) u1).setCell (p:=⟨b,2,none⟩) (Or.inl h) u2).setCell (p:=⟨b,3,none⟩) (Or.inl h) u3).setCell (p:=⟨b,4,none⟩) (Or.inl h) u4).setCell (p:=⟨b,5,none⟩) (Or.inl h) u5)
def bz (o:Option Bk):Bk:=o.getD (.mk 0 0 [] [] [] [])
def BlockAns (w:World) (o:Option Bk) (n:Nat) (e:Ending) (w':World):Prop:=∃vl vs vk,e=.returned (.tuple #[.agg #[.int .i64 (bz o).kind,.int .i64 (bz o).level,.string (S (bz o).info),vl,vs,vk],.int .i64 (n:Nat)])∧Below w.heap.size w w'∧∀w'',Keep (fun j=>j<w.heap.size) w' w''→KB w'' (bz o,vl,vs,vk)
theorem ans_some {w w9:World} {o:Option Bk} {n p:Nat} {k lv:Int} {inf:Tx} {ls:List Tx} {ss:List Sp} {ks:List Bk} {vl vs vk:Value} (HV:o=some (.mk k lv inf ls ss ks)) (HP:n=p) (HB:Below w.heap.size w w9)
  (hl:Fr Rd w.heap.size w9 vl ls) (hn:ls.length≤9223372036854775807) (hs:Fr Tr w.heap.size w9 vs ss) (hk:Fr TrB w.heap.size w9 vk ks):
  BlockAns w o n (.returned (.tuple #[.agg #[.int .i64 k,.int .i64 lv,.string (S inf),vl,vs,vk],.int .i64 (p:Nat)])) w9:=by
 subst HV;subst HP;exact⟨vl,vs,vk,rfl,HB,fun w'' k2=>⟨hl w'' k2,hn,hs w'' k2,hk w'' k2⟩⟩
theorem frRd_nil (B:Nat) (w:World):Fr Rd B w (.slice none 0 0) []:=fun w' _=>Kd.nilRd w'
theorem frTr_nil (B:Nat) (w:World):Fr Tr B w (.slice none 0 0) []:=fun w' _=>Kd.nilTr w'
theorem frB_nil (B:Nat) (w:World):Fr TrB B w (.slice none 0 0) []:=fun w' _=>Kd.nilTrB w'
theorem Fr.put {β:Type} {Q:World→Value→β→Prop} {B0 B:Nat} {w w9:World} {v:Value} {x:β} (h:Fr Q B w v x) (hk:Keep (fun j=>j<B) w w9) (hB:B0≤B):Fr Q B0 w9 v x:=(h.go hk).mono hB
theorem span_kind (k:Nat):∀l:List Tx,∀s∈(spanK E0 k l).1,kindOf E0 s=k
 |[],s,h=>by simp[spanK]at h
 |x::l,s,h=>by
  unfold spanK at h;split at h
  ·rename_i hx
   rcases List.mem_cons.1 h with rfl |h
   ·exact hx
   ·exact span_kind k l s h
  ·cases h
theorem kd7 {s:Tx} (h:kindOf E0 s=7):∃p,define E0 s=some p:=by
 unfold kindOf at h
 repeat' split at h
 all_goals first |omega |skip
 rename_i h1;exact Option.isSome_iff_exists.1 h1
end Pa
end Go.Proofs.YtpakjdgddomdjabGreatDoor
namespace Go.Proofs.YtpakjdgddomdjabGreatDoor
namespace Pa
open Go.RowKit
end Pa
namespace Pa
open Go.RowKit
end Pa
namespace Pa
open Go.RowKit
end Pa
end Go.Proofs.YtpakjdgddomdjabGreatDoor
