import Derived.Test.YthpnbialpkkpgaaGreatDoorPkQ
import Derived.Test.YthpnbialpkkpgaaGreatDoorPkG
import Derived.Test.YthpnbialpkkpgaaGreatDoorPkU
import Derived.Test.YthpnbialpkkpgaaGreatDoorPkX
import Derived.Test.YthpnbialpkkpgaaGreatDoorPkV
import Derived.Test.YthpnbialpkkpgaaGreatDoorPkAC
set_option linter.unusedVariables false
namespace Go.Proofs.YthpnbialpkkpgaaGreatDoor
namespace Sp
open Tk (S S_of S_list S_size S_toList S_app cls at_data len_data)
open Utf (chk chk_zero_iff zeroB)
def psB (s:ByteArray):List Sp:=(Rdr false false s.data.toList).1
theorem hs_no {c:UInt8} {s:List UInt8} (h:c∉s):hsB c s=false:=by
 cases hh:hsB c s with
 |false=>rfl
 |true=>
  unfold hsB at hh
  rw[List.any_eq_true]at hh
  obtain⟨x,hx,he⟩:=hh
  rw[of_decide_eq_true he]at hx
  exact absurd hx h
theorem ck_of {s:List UInt8} (h:Wt s) (hl:s.length≤200000):ckB s=true:=by
 unfold ckB
 refine decide_eq_true ((chk_zero_iff (S s)).2 ⟨by rw[S_size];omega,?_,h.1⟩)
 unfold zeroB
 rw[S_list]
 exact decide_eq_false h.2.1
theorem emp_no {α:Type} {l:List α} (h:l≠[]):l.isEmpty=false:=by
 cases l with
 |nil=>exact absurd rfl h
 |cons a r=>rfl
mutual
theorem okOne_of (e k:Bool):∀x:Sp,fit1 e k x→nmOne x→totOne x≤200000→okOne e k x=true
 |.mk q s l,hf,hn,ht=>by
  rw[nmOne_mk]at hn
  rw[totOne_mk]at ht
  obtain⟨hW,hX,hK⟩:=hn
  have hck:=ck_of hW (by omega)
  have h13:=hs_no hW.2.2
  have ih:=fun e k p h=>okAll_of e k p l h hK (by omega)
  rw[okOne,hck,Bool.true_and]
  rw[fit1]at hf
  rcases hf with ⟨h1,h2,h3⟩|⟨h1,h2,h3,h4⟩|⟨h1,h2,h3,h4,h5⟩|⟨h1,h2,h3,h4,h5,h6⟩
  ·rw[if_pos h1,h2]
   unfold ttB
   rw[hX h1,emp_no h3,h13]
   rfl
  ·subst h1
   rw[if_neg (by decide),if_pos rfl,h2,emp_no h3,hs_no h4,h13]
   rfl
  ·subst h1
   rw[if_neg (by decide),if_neg (by decide),if_pos rfl,h2,emp_no h3,h4,ih true k 0 h5]
   rfl
  ·subst h1
   rw[if_neg (by decide),if_neg (by decide),if_neg (by decide),if_pos rfl,emp_no h4,h5,ih e true 0 h6]
   have hd:dsB s=true:=by
    unfold dsB
    rw[emp_no h2,Bool.and_eq_true]
    exact⟨List.all_eq_true.2 (fun c hc=>by rw[←dcB_eq];exact h3 c hc),rfl⟩
   rw[hd]
   rfl
theorem okAll_of (e k:Bool) (p:Int):∀L:List Sp,fits e k p L→nmAll L→totAll L≤200000→okAll e k p L=true
 |[],_,_,_=>by unfold okAll;rfl
 |.mk q s l::r,hf,hn,ht=>by
  rw[nmAll_cons]at hn
  rw[totAll_cons]at ht
  rw[fits]at hf
  rw[okAll_cons,okOne_of e k (.mk q s l) hf.1 hn.1 (by omega),Bool.true_and]
  have h1:(decide ((Sp.mk q s l).kind=p)&&decide ((Sp.mk q s l).kind≤2))=false:=by
   cases hd:(decide ((Sp.mk q s l).kind=p)&&decide ((Sp.mk q s l).kind≤2))with
   |false=>rfl
   |true=>
    rw[Bool.and_eq_true,decide_eq_true_iff,decide_eq_true_iff]at hd
    exact absurd hd hf.2.1
  rw[h1,Bool.not_false,Bool.true_and]
  exact okAll_of e k q r hf.2.2 hn.2 (by omega)
end
theorem last_suf {t p t':List UInt8} (h:t=p++t') (hne:t'≠[]):t'.getLast? = t.getLast?:=by
 rw[h,List.getLast?_append]
 cases hl:t'.getLast? with
 |none=>exact absurd (List.getLast?_eq_none_iff.1 hl) hne
 |some x=>rfl
theorem stp_last (c:UInt8) (r:List UInt8):stp false false c r≠.stop∧
  (∀a,stp false false c r=.text a []→∀b,a.getLast? = some b→(c::r).getLast? = some b∨edB b=false)∧(∀a t',stp false false c r=.text a t'→a≠[]):=by
 have hplain:(Stp.text [c] r)≠.stop∧(∀a,(Stp.text [c] r)= .text a []→∀b,a.getLast? = some b→(c::r).getLast? = some b∨edB b=false)∧(∀a t',(Stp.text [c] r)= .text a t'→a≠[]):=by
  refine⟨by simp,fun a h b hb=>?_,fun a t' h=>?_⟩
  ·simp only[Stp.text.injEq]at h
   obtain⟨rfl,rfl⟩:=h
   exact Or.inl hb
  ·simp only[Stp.text.injEq]at h
   rw[←h.1];simp
 unfold stp stepOf
 split
 ·rename_i h;simp at h
 ·split
  ·rename_i hn he
   cases r with
   |nil=>simp at he
   |cons d r=>
    have h4:cls d=4:=by simpa using he.2
    refine⟨by simp,fun a h b hb=>?_,fun a t' h=>?_⟩
    ·simp only[Stp.text.injEq]at h
     obtain⟨rfl,_⟩:=h
     have:d=b:=by simpa using hb
     exact Or.inr (by rw[←this];exact(hard_cls h4).1)
    ·simp only[Stp.text.injEq]at h
     rw[←h.1];simp
  ·split
   ·rename_i hc96
    subst hc96
    have hp:=ticks_pos (r:=r) rfl
    cases hcode:code (ticks (96::r)) (96::r).length [] ((96::r).drop (ticks (96::r)))with
    |none=>
     refine⟨by simp,fun a h b hb=>?_,fun a t' h=>?_⟩
     ·simp only[Stp.text.injEq]at h
      obtain⟨rfl,_⟩:=h
      exact Or.inr (by rw[List.eq_of_mem_replicate (List.mem_of_getLast? hb)];exact hard96)
     ·simp only[Stp.text.injEq]at h
      rw[←h.1]
      intro e0
      have:=congrArg List.length e0
      rw[List.length_replicate,List.length_nil]at this
      omega
    |some q=>exact⟨by simp,fun a h=>(by cases h),fun a t' h=>(by cases h)⟩
   ·split
    ·split
     ·exact⟨by simp,fun a h=>(by cases h),fun a t' h=>(by cases h)⟩
     ·exact hplain
    ·split
     ·split
      ·rename_i k kids t1 hrd
       cases hd:dest t1 with
       |none=>exact hplain
       |some q=>exact⟨by simp,fun a h=>(by cases h),fun a t' h=>(by cases h)⟩
      ·exact hplain
     ·exact hplain
theorem stp_suf (e l:Bool) (c:UInt8) (r:List UInt8):
 (∀a t',stp e l c r=.text a t'→∃p,c::r=p++t')∧(∀x t',stp e l c r=.span x t'→∃p,c::r=p++t'):=stepOf_suf Rdr Rdr_suf e l c r
theorem consT_ne (a:List UInt8) (R:List Sp):consT a R≠[]:=by
 cases R with
 |nil=>simp[consT]
 |cons x l=>
  obtain⟨k,t,kids⟩:=x
  show(if k=1 then .mk 1 (a++t) kids::l else .mk 1 a []::.mk k t kids::l)≠[]
  split<;>simp
theorem last_consT {a:List UInt8} {R:List Sp} (hR:R≠[]) {x:Sp} (h:(consT a R).getLast? = some x):R.getLast? = some x∨∃s kids,R=[.mk 1 s kids]∧x=.mk 1 (a++s) kids:=by
 cases R with
 |nil=>exact absurd rfl hR
 |cons y l=>
  obtain⟨k,t,kids⟩:=y
  have h':(if k=1 then .mk 1 (a++t) kids::l else .mk 1 a []::.mk k t kids::l:List Sp).getLast? = some x:=h
  split at h'
  ·rename_i hk
   subst hk
   cases l with
   |nil=>exact Or.inr ⟨t,kids,rfl,by simpa using h'.symm⟩
   |cons z l=>
    rw[List.getLast?_cons_cons]at h'
    exact Or.inl (by rw[List.getLast?_cons_cons];exact h')
  ·rw[List.getLast?_cons_cons]at h'
   exact Or.inl h'
theorem Rdr_last:∀(n:Nat) (t:List UInt8),t.length≤n→(t≠[]→(Rdr false false t).1≠[])∧
  ∀x b,(Rdr false false t).1.getLast? = some x→x.kind=1→x.s.getLast? = some b→t.getLast? = some b∨edB b=false
 |n,[],_=>⟨fun h=>absurd rfl h,fun x b h=>by simp[Rdr_nil]at h⟩
 |0,c::r,h=>by simp at h
 |n+1,c::r,h=>by
  rw[List.length_cons]at h
  have hl:=stp_len false false c r
  obtain⟨h1,h2,h3⟩:=stp_last c r
  have hsf:=stp_suf false false c r
  rw[Rdr_cons]
  cases hst:stp false false c r with
  |stop=>exact absurd hst h1
  |text a t'=>
   have ih:=Rdr_last n t' (by have:=(hl.1 a t' hst).1;omega)
   refine⟨fun _=>consT_ne a _,fun x b hx hk hb=>?_⟩
   have hx':(consT a (Rdr false false t').1).getLast? = some x:=hx
   by_cases ht:t'=[]
   ·subst ht
    have:x=.mk 1 a []:=by simpa [Rdr_nil,consT]using hx'.symm
    rw[this]at hb
    exact h2 a hst b hb
   ·obtain⟨p,hp⟩:=hsf.1 a t' hst
    have hle:=last_suf hp ht
    rcases last_consT (ih.1 ht) hx' with h4 |⟨s,kids,h4,h5⟩
    ·rcases ih.2 x b h4 hk hb with h6 |h6
     ·exact Or.inl (hle▸h6)
     ·exact Or.inr h6
    ·have hfit:=(read_fits t'.length false false t').1
     have hR:(read t'.length false false t').1=[.mk 1 s kids]:=h4
     rw[hR,fits,fit1]at hfit
     have hs:s≠[]:=by
      rcases hfit.1 with h7 |h7 |h7 |h7
      ·exact h7.2.2
      ·exact absurd h7.1 (by decide)
      ·exact absurd h7.1 (by decide)
      ·exact absurd h7.1 (by decide)
     rw[h5]at hb
     have hb':(a++s).getLast? = some b:=hb
     rw[←last_suf rfl hs]at hb'
     rcases ih.2 (.mk 1 s kids) b (by rw[h4];rfl) rfl hb' with h6 |h6
     ·exact Or.inl (hle▸h6)
     ·exact Or.inr h6
  |span y t'=>
   have ih:=Rdr_last n t' (by have:=(hl.2 y t' hst).1;omega)
   refine⟨fun _=>by show y::_≠[];simp,fun x b hx hk hb=>?_⟩
   have hx':(y::(Rdr false false t').1).getLast? = some x:=hx
   cases hR:(Rdr false false t').1 with
   |nil=>
    rw[hR]at hx'
    have:y=x:=by simpa using hx'
    rw[←this]at hk
    exact absurd hk (hl.2 y t' hst).2.2
   |cons z R=>
    rw[hR,List.getLast?_cons_cons,←hR]at hx'
    have ht:t'≠[]:=fun h0=>by rw[h0,Rdr_nil]at hR;cases hR
    obtain⟨p,hp⟩:=hsf.2 y t' hst
    have hle:=last_suf hp ht
    rcases ih.2 x b hx' hk hb with h6 |h6
    ·exact Or.inl (hle▸h6)
    ·exact Or.inr h6
theorem parse_nil {s:ByteArray}:psB s=[]↔s.size=0:=by
 have hl:=Rdr_last s.data.toList.length s.data.toList (Nat.le_refl _)
 constructor
 ·intro h
  rcases Nat.eq_zero_or_pos s.size with h0 |h0
  ·exact h0
  ·exfalso
   refine hl.1 (fun e=>?_) h
   have:=congrArg List.length e
   rw[len_data,List.length_nil]at this
   omega
 ·intro h
  have:s.data.toList=[]:=List.eq_nil_of_length_eq_zero (by rw[len_data];exact h)
  unfold psB
  rw[this,Rdr_nil]
theorem parse_norm {t:List UInt8} (hl:t.length≤90000) (hW:Wt t) (hX:txB t=true) (hh':∀b,t.head? = some b→edB b=false) (hl':∀b,t.getLast? = some b→edB b=false):rtB (psB (S t))=true:=by
 have hpe:psB (S t)=(Rdr false false t).1:=by unfold psB;rw[S_list]
 have hT:totAll (psB (S t))≤200000:=by
  have:=Rdr_tot false false t
  rw[hpe]
  omega
 obtain⟨n1,_,_,n4⟩:=Rdr_norm t.length false false t (Nat.le_refl _) hW hX
 have hf:=(read_fits t.length false false t).1
 have hok:=(by rw[hpe];exact okAll_of false false 0 _ hf n1 (by rw[←hpe];exact hT):okAll false false 0 (psB (S t))=true)
 have hlast:=(Rdr_last t.length t (Nat.le_refl _)).2
 unfold rtB
 rw[hok,Bool.true_and]
 have hok1:∀x∈psB (S t),x.kind=1→x.s≠[]:=fun x hx hk=>okOne_text (okAll_mem hok x hx) hk
 unfold endB
 rw[Bool.and_eq_true]
 constructor
 ·cases hh:(psB (S t)).head? with
  |none=>rfl
  |some x=>
   show hdB x=true
   unfold hdB
   by_cases hk:x.kind=1
   ·have hxm:=List.mem_of_head? hh
    have hne:=hok1 x hxm hk
    obtain⟨q,xs,kids⟩:=x
    simp only[Sp.kind]at hk
    subst hk
    obtain⟨b,xs',hxs⟩:=List.exists_cons_of_ne_nil hne
    simp only[Sp.s]at hxs hne
    have hL:∃R,(Rdr false false t).1=.mk 1 xs kids::R:=by
     have hq':(Rdr false false t).1.head? = some (.mk 1 xs kids):=by rw[hpe]at hh;exact hh
     cases hr:(Rdr false false t).1 with
     |nil=>rw[hr]at hq';cases hq'
     |cons y R=>rw[hr]at hq';exact⟨R,by simpa using hq'⟩
    obtain⟨R,hR⟩:=hL
    have hed:edB b=false:=by
     exact(n4 xs kids R b hR (by rw[hxs];rfl)).elim (hh' b) id
    simp only[Sp.s,hxs,List.headD_cons,hed]
    simp
   ·rw[decide_eq_false hk];rfl
 ·cases hh:(psB (S t)).getLast? with
  |none=>rfl
  |some x=>
   show ltB x=true
   unfold ltB
   by_cases hk:x.kind=1
   ·have hne:=hok1 x (List.mem_of_getLast? hh) hk
    obtain⟨b,hb⟩:∃b,x.s.getLast? = some b:=by
     cases hl:x.s.getLast? with
     |none=>exact absurd (List.getLast?_eq_none_iff.1 hl) hne
     |some b=>exact⟨b,rfl⟩
    have hed:edB b=false:=by
     exact(hlast x b (by rw[hpe]at hh;exact hh) hk hb).elim (hl' b) id
    rw[List.getLastD_eq_getLast?,hb]
    simp[hed]
   ·rw[decide_eq_false hk];rfl
mutual
theorem fo_of {R:Nat} (hR:200000≤R) (e k:Bool):∀x:Sp,fit1 e k x→totOne x≤200000→fitOne R x
 |.mk q s l,hf,ht=>by
  rw[totOne_mk]at ht
  have hk:=fit_kind hf
  have ih:=fun e k p h=>fa_of hR e k p l h (by omega)
  rw[fit1]at hf
  unfold fitOne
  refine⟨by omega,by omega,?_⟩
  rcases hf with h |h |h |h
  ·rw[h.2.1];unfold fitAll;trivial
  ·rw[h.2.1];unfold fitAll;trivial
  ·exact ih true k 0 h.2.2.2.2
  ·exact ih e true 0 h.2.2.2.2.2
theorem fa_of {R:Nat} (hR:200000≤R) (e k:Bool) (p:Int):∀L:List Sp,fits e k p L→totAll L≤200000→fitAll R L
 |[],_,_=>by unfold fitAll;trivial
 |.mk q s l::r,hf,ht=>by
  rw[totAll_cons]at ht
  rw[fits]at hf
  unfold fitAll
  exact⟨fo_of hR e k (.mk q s l) hf.1 (by omega),fa_of hR e k q r hf.2.2 (by omega)⟩
end
theorem parse_fit (s:ByteArray) (hs:s.size≤90000):totAll (psB s)≤200000∧fitAll 200000 (psB s):=by
 have hT:totAll (psB s)≤200000:=by
  have:=Rdr_tot false false s.data.toList
  rw[len_data]at this
  unfold psB
  omega
 exact⟨hT,fa_of (Nat.le_refl _) false false 0 (psB s) (read_fits s.data.toList.length false false s.data.toList).1 hT⟩
end Sp
namespace Pa
open Bk (Tx Bk Env fenceL spanK itemL dropBlank listL items kindOf closes unquote unitem inner define parse joinLF)
open Ln (run mx trim)
open Kd (E0)
def quoted (s:Tx) (l:List Tx):List Tx:=(spanK E0 5 (s::l)).1.map unquote
def paraL (s:Tx) (l:List Tx):List Tx:=(spanK E0 8 (s::l)).1.map trim
theorem val2 {rec:Nat→List Tx→Option (List Bk)} {d:Nat} {s:Tx} {l:List Tx} (hk:kindOf E0 s=2):valB rec d s l=some (.mk 2 (run 35 s) [] [] (parse (trim (s.drop (run 35 s)))) []):=by
 unfold valB;rw[if_pos hk]
theorem val3 {rec:Nat→List Tx→Option (List Bk)} {d:Nat} {s:Tx} {l:List Tx} (hk:kindOf E0 s=3):valB rec d s l=some (.mk 3 0 [] [] [] []):=by
 unfold valB;rw[if_neg (by rw[hk];decide),if_pos hk]
theorem val4 {rec:Nat→List Tx→Option (List Bk)} {d:Nat} {s:Tx} {l:List Tx} (hk:kindOf E0 s=4):valB rec d s l=some (.mk 4 0 (trim (s.drop (run 96 s))) (fenceL (run 96 s) l).1 [] []):=by
 unfold valB;rw[if_neg (by rw[hk];decide),if_neg (by rw[hk];decide),if_pos hk]
theorem val5 {rec:Nat→List Tx→Option (List Bk)} {d:Nat} {s:Tx} {l:List Tx} (hk:kindOf E0 s=5):valB rec d s l=(rec (d+1) (quoted s l)).map fun k=>.mk 5 0 [] [] [] k:=by
 unfold valB;rw[if_neg (by rw[hk];decide),if_neg (by rw[hk];decide),if_neg (by rw[hk];decide),if_pos hk];rfl
theorem val6 {rec:Nat→List Tx→Option (List Bk)} {d:Nat} {s:Tx} {l:List Tx} (hk:kindOf E0 s=6):valB rec d s l=(items (rec (d+2)) (lst (s::l)).1).map fun k=>.mk 6 0 [] [] [] k:=by
 unfold valB;rw[if_neg (by rw[hk];decide),if_neg (by rw[hk];decide),if_neg (by rw[hk];decide),if_neg (by rw[hk];decide),if_pos hk];rfl
theorem val7 {rec:Nat→List Tx→Option (List Bk)} {d:Nat} {s:Tx} {l:List Tx} (hk:kindOf E0 s=7):valB rec d s l=(define E0 s).map fun p=>.mk 8 0 p.1 [p.2] [] []:=by
 unfold valB;rw[if_neg (by rw[hk];decide),if_neg (by rw[hk];decide),if_neg (by rw[hk];decide),if_neg (by rw[hk];decide),if_neg (by rw[hk];decide),if_pos hk]
theorem val8 {rec:Nat→List Tx→Option (List Bk)} {d:Nat} {s:Tx} {l:List Tx} (hk:kindOf E0 s=8):valB rec d s l=some (.mk 1 0 [] [] (parse (joinLF (paraL s l))) []):=by
 unfold valB;rw[if_neg (by rw[hk];decide),if_neg (by rw[hk];decide),if_neg (by rw[hk];decide),if_neg (by rw[hk];decide),if_neg (by rw[hk];decide),if_neg (by rw[hk];decide)];rfl
theorem rest1 {s:Tx} {l:List Tx} (hk:kindOf E0 s=2∨kindOf E0 s=3∨kindOf E0 s=7):restB s l=l:=by
 unfold restB
 rw[if_neg (by omega),if_neg (by omega),if_neg (by omega),if_neg (by omega)]
theorem rest4 {s:Tx} {l:List Tx} (hk:kindOf E0 s=4):restB s l=(fenceL (run 96 s) l).2:=by unfold restB;rw[if_pos hk]
theorem rest5 {s:Tx} {l:List Tx} (hk:kindOf E0 s=5):restB s l=(spanK E0 5 (s::l)).2:=by unfold restB;rw[if_neg (by omega),if_pos hk]
theorem rest6 {s:Tx} {l:List Tx} (hk:kindOf E0 s=6):restB s l=(lst (s::l)).2:=by unfold restB;rw[if_neg (by omega),if_neg (by omega),if_pos hk];rfl
theorem rest8 {s:Tx} {l:List Tx} (hk:kindOf E0 s=8):restB s l=(spanK E0 8 (s::l)).2:=by unfold restB;rw[if_neg (by omega),if_neg (by omega),if_neg (by omega),if_pos hk]
theorem kind_cases (s:Tx) (h:kindOf E0 s≠1):kindOf E0 s=2∨kindOf E0 s=3∨kindOf E0 s=4∨kindOf E0 s=5∨kindOf E0 s=6∨kindOf E0 s=7∨kindOf E0 s=8:=by
 have:=kind_le E0 s
 omega
theorem quoted_len (s:Tx) (l:List Tx):(quoted s l).length≤l.length+1:=by
 unfold quoted
 have:=span_len E0 5 (s::l)
 rw[List.length_map]
 simp only[List.length_cons]at this
 omega
theorem lst_mem_len (l:List Tx):∀x∈(lst l).1,x.length≤l.length:=list_len E0 _ l
theorem all_ind {Q:Nat→List Tx→List Bk→Prop} (h0:∀d,d≤16→Q d [] [])
  (hb:∀d s l bs,d≤16→kindOf E0 s=1→allE d l=some bs→Q d l bs→Q d (s::l) bs)
  (hc:∀d s l b bs,d≤16→kindOf E0 s≠1→valB allE d s l=some b→allE d (restB s l)=some bs→Q d (restB s l) bs→
   (∀k,allE (d+1) (quoted s l)=some k→Q (d+1) (quoted s l) k)→(∀x∈(lst (s::l)).1,∀k,allE (d+2) x=some k→Q (d+2) x k)→Q d (s::l) (b::bs)):
  ∀(n d:Nat) (l:List Tx) (bs:List Bk),l.length+(17-d)≤n→allE d l=some bs→Q d l bs:=by
 intro n
 induction n with
 |zero=>
  intro d l bs hn h
  rw[allE_deep (by omega)]at h
  cases h
 |succ n ih=>
  intro d l bs hn h
  by_cases hd:16<d
  ·rw[allE_deep hd]at h;cases h
  have hd':d≤16:=by omega
  cases l with
  |nil=>
   rw[allE_nil hd']at h
   injection h with h
   subst h
   exact h0 d hd'
  |cons s l=>
   simp only[List.length_cons]at hn
   by_cases hk:kindOf E0 s=1
   ·rw[allE_blank hk]at h
    exact hb d s l bs hd' hk h (ih d l bs (by omega) h)
   ·rw[allE_block hd' hk]at h
    cases hv:valB allE d s l with
    |none=>rw[hv]at h;cases h
    |some b=>
     rw[hv]at h
     obtain⟨bs',hr,rfl⟩:=Option.map_eq_some_iff.1 h
     have hs:=(rest_suf s l).length_le
     refine hc d s l b bs' hd' hk hv hr (ih d _ _ (by omega) hr) (fun k hq=>ih (d+1) _ k ?_ hq) (fun x hx k hq=>ih (d+2) x k ?_ hq)
     ·have:=quoted_len s l;omega
     ·have:=lst_mem_len (s::l) x hx
      simp only[List.length_cons]at this
      omega
end Pa
namespace Pa
open Tk (S S_list S_size)
open Sp (Sp psB Rdr Rdr_tot)
open Bt (fitAll fitOne fitOne_eq ttAll ttOne ttOne_eq ttAll_cons lnTot)
open Bk (Tx Bk Env fenceL spanK itemL dropBlank listL items kindOf closes unquote unitem inner define parse joinLF)
open Ln (run mx trim)
open Kd (E0)
theorem parse_psB (t:Tx):parse t=psB (S t):=by
 unfold parse psB Rdr
 rw[S_list]
theorem lnTot_eq:∀l:List Tx,lnTot l=tot l
 |[]=>rfl
 |s::l=>by rw[lnTot,tot,lnTot_eq l]
theorem fence_tot (n:Nat):∀l:List Tx,tot (fenceL n l).1+tot (fenceL n l).2≤tot l
 |[]=>by simp[fenceL,tot]
 |s::l=>by
  unfold fenceL
  split
  ·simp[tot]
  ·have:=fence_tot n l
   simp only[tot]
   omega
theorem span_tot (k:Nat):∀l:List Tx,tot (spanK E0 k l).1+tot (spanK E0 k l).2=tot l
 |[]=>by simp[spanK,tot]
 |s::l=>by
  unfold spanK
  split
  ·have:=span_tot k l
   simp only[tot]
   omega
  ·simp[tot]
theorem blank_tot:∀l:List Tx,tot (dropBlank E0 l)≤tot l:=fun l=>tot_suf (blank_suf E0 l)
def totL:List (List Tx)→Nat
 |[]=>0
 |x::r=>1+tot x+totL r
theorem totL_mem:∀(xs:List (List Tx)) (x:List Tx),x∈xs→tot x≤totL xs
 |[],_,h=>by cases h
 |y::r,x,h=>by
  rcases List.mem_cons.1 h with rfl |h
  ·rw[totL];omega
  ·have:=totL_mem r x h;rw[totL];omega
theorem span_kindE (k:Nat):∀l:List Tx,∀s∈(spanK E0 k l).1,kindOf E0 s=k
 |[],s,h=>by simp[spanK]at h
 |x::l,s,h=>by
  unfold spanK at h
  split at h
  ·rename_i hx
   rcases List.mem_cons.1 h with rfl |h
   ·exact hx
   ·exact span_kindE k l s h
  ·cases h
theorem span_kind5 (l:List Tx):∀s∈(spanK E0 5 l).1,kindOf E0 s=5:=span_kindE 5 l
theorem span_kind8 (l:List Tx):∀s∈(spanK E0 8 l).1,kindOf E0 s=8:=span_kindE 8 l
theorem kd_ne {s:Tx} (h:kindOf E0 s≠1):s≠[]:=fun e=>h (by rw[e];decide)
theorem unitem_tot {s:Tx} (h:kindOf E0 s=6):(unitem s).length+1≤s.length:=by
 have:=List.length_pos_iff.2 (kd_ne (s:=s) (by omega))
 unfold unitem
 rw[List.length_drop]
 omega
theorem unq_tot {s:Tx} (h:kindOf E0 s=5):(unquote s).length+1≤s.length:=by
 have:=List.length_pos_iff.2 (kd_ne (s:=s) (by omega))
 unfold unquote
 split
 ·rw[List.length_drop];omega
 ·rw[List.length_drop];omega
theorem lst_cases (s:Tx) (l:List Tx):(lst (s::l)=([unitem s::(itemL E0 l).1],(itemL E0 l).2)∧(dropBlank E0 (itemL E0 l).2=[]∨∃t r,dropBlank E0 (itemL E0 l).2=t::r∧kindOf E0 t≠6))∨
  ∃t r,dropBlank E0 (itemL E0 l).2=t::r∧kindOf E0 t=6∧lst (s::l)=((unitem s::(itemL E0 l).1)::(lst (t::r)).1,(lst (t::r)).2):=by
 cases h:dropBlank E0 (itemL E0 l).2 with
 |nil=>exact Or.inl ⟨lst_one (Or.inl h),Or.inl rfl⟩
 |cons t r=>
  by_cases hk:kindOf E0 t=6
  ·exact Or.inr ⟨t,r,rfl,hk,lst_more h hk⟩
  ·exact Or.inl ⟨lst_one (Or.inr ⟨t,r,h,hk⟩),Or.inr ⟨t,r,rfl,hk⟩⟩
theorem lst_totL:∀(n:Nat) (s:Tx) (l:List Tx),l.length≤n→kindOf E0 s=6→totL (lst (s::l)).1+tot (lst (s::l)).2≤tot (s::l)
 |n,s,l,hn,hk=>by
  have h1:=item_tot l
  have h2:=unitem_tot hk
  have h3:=blank_tot (itemL E0 l).2
  rcases lst_cases s l with ⟨h,_⟩|⟨t,r,hd,hk2,h⟩
  ·rw[h]
   simp only[totL,tot]
   omega
  ·rw[h]
   have h4:=((blank_suf E0 (itemL E0 l).2).trans (item_suf E0 l)).length_le
   rw[hd]at h4 h3
   simp only[List.length_cons]at h4
   cases n with
   |zero=>exact absurd h4 (by omega)
   |succ n=>
    have ih:=lst_totL n t r (by omega) hk2
    simp only[totL,tot]at ih h3 ⊢
    omega
theorem quoted_tot {s:Tx} {l:List Tx} (hk:kindOf E0 s=5):tot (quoted s l)+1+tot (spanK E0 5 (s::l)).2≤tot (s::l):=by
 have h1:=span_tot 5 (s::l)
 unfold quoted
 rw[spanK,if_pos hk]at h1 ⊢
 have h2:=unq_tot hk
 have h3:=tot_map unquote unq_len (spanK E0 5 l).1
 simp only[tot,List.map_cons]at h1 h2 h3 ⊢
 omega
theorem para_tot {s:Tx} {l:List Tx}:(joinLF (paraL s l)).length+tot (spanK E0 8 (s::l)).2≤tot (s::l):=by
 have h1:=span_tot 8 (s::l)
 unfold paraL
 have h2:=joinLF_len ((spanK E0 8 (s::l)).1.map trim)
 have h3:=tot_map trim (fun s=>Ln.trim_len s) (spanK E0 8 (s::l)).1
 omega
theorem define_tot {s:Tx} {p:Tx × Tx} (h:define E0 s=some p):p.1.length+p.2.length+1≤s.length:=by
 unfold define at h
 split at h
 ·rename_i t
  obtain⟨q,hq1,hq2,_⟩:=Bk.df_some (E:=E0) t [] p.1 p.2 h
  rw[List.nil_append]at hq1
  rw[hq2,hq1]
  simp only[List.length_cons,List.length_append]
  omega
 ·cases h
theorem spans_tot (t:Tx):Sp.totAll (parse t)≤2*t.length:=Rdr_tot false false t
theorem items_tt {d:Nat}:∀(xs:List (List Tx)) (ks:List Bk),(∀x∈xs,∀k,allE d x=some k→ttAll k≤4*tot x)→items (allE d) xs=some ks→ttAll ks+3*xs.length≤4*totL xs
 |[],ks,_,h=>by
  unfold items at h
  injection h with h
  subst h
  simp[ttAll,totL]
 |x::r,ks,hx,h=>by
  unfold items at h
  cases ha:allE d x with
  |none=>rw[ha]at h;cases h
  |some k=>
   rw[ha]at h
   obtain⟨ks',h2,rfl⟩:=Option.map_eq_some_iff.1 h
   have h3:=items_tt r ks' (fun y hy=>hx y (List.mem_cons_of_mem _ hy)) h2
   have h4:=hx x (List.mem_cons_self ..) k ha
   rw[ttAll_cons,ttOne_eq]
   simp only[Bk.info,Bk.lines,Bk.spans,Bk.kids,lnTot,Sp.totAll,List.length_nil,List.length_cons,totL]
   omega
theorem all_tt (d:Nat) (l:List Tx) (bs:List Bk) (h:allE d l=some bs):ttAll bs≤4*tot l:=by
 refine all_ind (Q:=fun d l bs=>ttAll bs≤4*tot l) ?_ ?_ ?_ _ d l bs (Nat.le_refl _) h
 ·intro d _;simp[ttAll]
 ·intro d s l bs _ _ _ ih
  rw[tot];omega
 ·intro d s l b bs hd hk hv hr ih h5 h6
  rw[ttAll_cons,ttOne_eq]
  rcases kind_cases s hk with k |k |k |k |k |k |k
  ·rw[val2 k]at hv;injection hv with hv;subst hv
   rw[rest1 (Or.inl k)]at ih
   have h1:=spans_tot (trim (s.drop (run 35 s)))
   have h2:=Ln.trim_len (s.drop (run 35 s))
   have h3:(s.drop (run 35 s)).length≤s.length:=by rw[List.length_drop];omega
   simp only[Bk.info,Bk.lines,Bk.spans,Bk.kids,lnTot,ttAll,List.length_nil,tot]
   omega
  ·rw[val3 k]at hv;injection hv with hv;subst hv
   rw[rest1 (Or.inr (Or.inl k))]at ih
   simp only[Bk.info,Bk.lines,Bk.spans,Bk.kids,lnTot,ttAll,Sp.totAll,List.length_nil,tot]
   omega
  ·rw[val4 k]at hv;injection hv with hv;subst hv
   rw[rest4 k]at ih
   have h1:=fence_tot (run 96 s) l
   have h2:=Ln.trim_len (s.drop (run 96 s))
   have h3:(s.drop (run 96 s)).length≤s.length:=by rw[List.length_drop];omega
   simp only[Bk.info,Bk.lines,Bk.spans,Bk.kids,lnTot_eq,ttAll,Sp.totAll,tot]
   omega
  ·rw[val5 k]at hv
   obtain⟨ks,ha,rfl⟩:=Option.map_eq_some_iff.1 hv
   rw[rest5 k]at ih
   have h1:=h5 ks ha
   have h2:=quoted_tot (l:=l) k
   simp only[Bk.info,Bk.lines,Bk.spans,Bk.kids,lnTot,Sp.totAll,List.length_nil]
   omega
  ·rw[val6 k]at hv
   obtain⟨ks,ha,rfl⟩:=Option.map_eq_some_iff.1 hv
   rw[rest6 k]at ih
   have h1:=items_tt _ ks h6 ha
   have h2:=lst_totL l.length s l (Nat.le_refl _) k
   have h3:1≤(lst (s::l)).1.length:=by
    rcases lst_cases s l with ⟨h,_⟩|⟨t,r,_,_,h⟩
    ·rw[h];simp
    ·rw[h];simp
   simp only[Bk.info,Bk.lines,Bk.spans,Bk.kids,lnTot,Sp.totAll,List.length_nil]
   omega
  ·rw[val7 k]at hv
   obtain⟨p,ha,rfl⟩:=Option.map_eq_some_iff.1 hv
   rw[rest1 (Or.inr (Or.inr k))]at ih
   have h1:=define_tot ha
   simp only[Bk.info,Bk.lines,Bk.spans,Bk.kids,lnTot,ttAll,Sp.totAll,tot]
   omega
  ·rw[val8 k]at hv;injection hv with hv;subst hv
   rw[rest8 k]at ih
   have h1:=spans_tot (joinLF (paraL s l))
   have h2:=para_tot (s:=s) (l:=l)
   have h3:=span_tot 8 (s::l)
   have h4:1≤tot (spanK E0 8 (s::l)).1:=by rw[spanK,if_pos k];simp only[tot];omega
   simp only[Bk.info,Bk.lines,Bk.spans,Bk.kids,lnTot,ttAll,List.length_nil]
   omega
end Pa
namespace Bt
open Sp (Sp)
open Bk (Bk)
mutual
theorem dpOne_ge (n:Int):∀x:Bk,n≤dpOne n x
 |.mk k lv i ls ss l=>by
  rw[dpOne]
  split<;>omega
theorem dpAll_ge (n:Int):∀l:List Bk,n≤dpAll n l
 |[]=>by rw[dpAll];omega
 |x::r=>by
  rw[dpAll]
  have h1:=dpOne_ge n x
  have h2:=dpAll_ge (dpOne n x) r
  omega
end
theorem dp_ge (l:List Bk):0≤dp l:=dpAll_ge 0 l
theorem rg_parts {l:List Bk} (h:rgB l=true):allB false 0 l=true∧dp l≤16:=by
 unfold rgB at h
 rw[Bool.and_eq_true,decide_eq_true_iff]at h
 exact h
theorem ttAll_app:∀a b:List Bk,ttAll (a++b)=ttAll a+ttAll b
 |[],b=>by rw[List.nil_append,ttAll];omega
 |x::a,b=>by rw[List.cons_append,ttAll_cons,ttAll_cons,ttAll_app a b];omega
mutual
theorem sz1_tt:∀x:Bk,szOne x≤ttOne x
 |.mk k lv i ls ss l=>by
  have:=sz_tt l
  rw[szOne,ttOne]
  omega
theorem sz_tt:∀l:List Bk,szAll l≤ttAll l
 |[]=>by rw[szAll];omega
 |x::r=>by
  have h1:=sz1_tt x
  have h2:=sz_tt r
  rw[szAll,ttAll]
  omega
end
end Bt
namespace Pa
open Tk (S S_list S_size)
open Sp (Sp psB Rdr Wt Wt_app Wt_tail Wt_cut Wt_nil ck_of rtB txB edB spB hsB parse_norm plAll Rdr_sub)
open Bt (allB oneB rgB lineB labB infB ckB tgB dp dpAll dpOne boxB dpAll_cons allB_cons)
open Bk (Tx Bk Env fenceL spanK itemL dropBlank listL items kindOf closes unquote unitem inner define parse joinLF)
open Ln (run mx trim dl dr gapB)
open Kd (E0)
def Lt (s:Tx):Prop:=Wt s∧(10:UInt8)∉s
theorem Lt_nil:Lt []:=⟨Wt_nil,by simp⟩
theorem Lt_tail {c:UInt8} {t:Tx} (hc:c.toNat≤127) (h:Lt (c::t)):Lt t:=⟨Wt_tail hc h.1,fun hm=>h.2 (List.mem_cons_of_mem _ hm)⟩
theorem gap_127 {c:UInt8} (h:gapB c=true):c.toNat≤127:=by
 unfold gapB at h
 rw[Bool.or_eq_true,beq_iff_eq,beq_iff_eq]at h
 rcases h with rfl |rfl<;>decide
theorem Lt_dl:∀{s:Tx},Lt s→Lt (dl s)
 |[],h=>h
 |c::t,h=>by
  cases hg:gapB c with
  |true=>rw[Ln.dl_yes hg];exact Lt_dl (Lt_tail (gap_127 hg) h)
  |false=>rw[Ln.dl_no hg];exact h
theorem dr_pre (s:Tx):∃g:Tx,s=dr s++g∧∀c∈g,gapB c=true:=by
 induction s with
 |nil=>exact⟨[],rfl,fun c h=>by cases h⟩
 |cons c t ih=>
  obtain⟨g,h1,h2⟩:=ih
  rw[Ln.dr_cons]
  by_cases h0:dr t=[]
  ·rw[if_pos h0]
   rw[h0,List.nil_append]at h1
   cases hg:gapB c with
   |true=>
    refine⟨c::g,by rw[if_pos rfl,List.nil_append,←h1],fun x hx=>?_⟩
    rcases List.mem_cons.1 hx with rfl |hx
    ·exact hg
    ·exact h2 x hx
   |false=>exact⟨g,by rw[if_neg (by decide),h1];rfl,h2⟩
  ·rw[if_neg h0]
   exact⟨g,by rw[List.cons_append,←h1],h2⟩
theorem Lt_dr {s:Tx} (h:Lt s):Lt (dr s):=by
 obtain⟨g,h1,h2⟩:=dr_pre s
 cases g with
 |nil=>rw[List.append_nil]at h1;rw[←h1];exact h
 |cons c g=>
  rw[h1]at h
  exact⟨(Wt_cut (gap_127 (h2 c (List.mem_cons_self ..))) h.1).1,fun hm=>h.2 (List.mem_append_left _ hm)⟩
theorem Lt_trim {s:Tx} (h:Lt s):Lt (trim s):=Lt_dl (Lt_dr h)
theorem Lt_run {c:UInt8} (hc:c.toNat≤127):∀{s:Tx},Lt s→Lt (s.drop (run c s))
 |[],h=>by simpa using h
 |b::t,h=>by
  by_cases e:b=c
  ·rw[Ln.run_yes e,List.drop_succ_cons]
   exact Lt_run hc (Lt_tail (by rw[e];exact hc) h)
  ·rw[Ln.run_no e,List.drop_zero];exact h
theorem kd5 {s:Tx} (h:kindOf E0 s=5):∃t,s=62::t:=by
 unfold kindOf at h
 repeat' split at h
 all_goals first |omega |skip
 rename_i h1
 cases s with
 |nil=>simp at h1
 |cons c t=>exact⟨t,by rw[List.head?_cons,Option.some.injEq]at h1;rw[h1]⟩
theorem kd6 {s:Tx} (h:kindOf E0 s=6):s=[45]∨∃t,s=45::32::t:=by
 unfold kindOf at h
 repeat' split at h
 all_goals first |omega |skip
 rename_i h1
 rcases h1 with h1 |h1
 ·exact Or.inl h1
 ·cases s with
  |nil=>simp at h1
  |cons c t=>
   cases t with
   |nil=>simp at h1
   |cons d t=>
    simp at h1
    exact Or.inr ⟨t,by rw[h1.1,h1.2]⟩
theorem Lt_unq {s:Tx} (hk:kindOf E0 s=5) (h:Lt s):Lt (unquote s):=by
 obtain⟨t,rfl⟩:=kd5 hk
 have ht:=Lt_tail (c:=62) (by decide) h
 unfold unquote
 split
 ·rename_i h1
  cases t with
  |nil=>exact Lt_nil
  |cons c t=>
   simp at h1
   subst h1
   exact Lt_tail (c:=32) (by decide) ht
 ·exact ht
theorem Lt_uni {s:Tx} (hk:kindOf E0 s=6) (h:Lt s):Lt (unitem s):=by
 rcases kd6 hk with rfl |⟨t,rfl⟩
 ·exact Lt_nil
 ·exact Lt_tail (c:=32) (by decide) (Lt_tail (c:=45) (by decide) h)
theorem Lt_inner {s x:Tx} (hi:inner s=some x) (h:Lt s):Lt x:=by
 unfold inner at hi
 split at hi
 ·rename_i h2
  injection hi with hi
  subst hi
  cases s with
  |nil=>exact Lt_nil
  |cons c t=>
   cases t with
   |nil=>exact Lt_nil
   |cons d t=>
    simp at h2
    obtain⟨rfl,rfl⟩:=h2
    exact Lt_tail (c:=32) (by decide) (Lt_tail (c:=32) (by decide) h)
 ·split at hi
  ·injection hi with hi;subst hi;exact Lt_nil
  ·cases hi
theorem Lt_sp {k:Nat} {l:List Tx} (h:∀s∈l,Lt s):∀s∈(spanK E0 k l).1,Lt s:=fun s hs=>h s (by
 rw[span_fst]at hs
 exact List.mem_of_mem_take hs)
theorem Lt_suf {r l:List Tx} (hr:r <:+ l) (h:∀s∈l,Lt s):∀s∈r,Lt s:=fun s hs=>h s (hr.subset hs)
theorem Lt_item:∀{l:List Tx},(∀s∈l,Lt s)→∀y∈(itemL E0 l).1,Lt y
 |[],_,y,hy=>by simp[itemL]at hy
 |s::l,h,y,hy=>by
  unfold itemL at hy
  split at hy
  ·cases hy
  ·rename_i x hx
   split at hy
   ·cases hy
   ·rcases List.mem_cons.1 hy with rfl |hy
    ·exact Lt_inner hx (h s (List.mem_cons_self ..))
    ·exact Lt_item (fun z hz=>h z (List.mem_cons_of_mem _ hz)) y hy
theorem Lt_lst:∀(n:Nat) (s:Tx) (l:List Tx),l.length≤n→kindOf E0 s=6→(∀z∈s::l,Lt z)→∀x∈(lst (s::l)).1,∀y∈x,Lt y
 |n,s,l,hn,hk,h,x,hx,y,hy=>by
  have hone:∀y∈unitem s::(itemL E0 l).1,Lt y:=fun y hy=>by
   rcases List.mem_cons.1 hy with rfl |hy
   ·exact Lt_uni hk (h s (List.mem_cons_self ..))
   ·exact Lt_item (fun z hz=>h z (List.mem_cons_of_mem _ hz)) y hy
  rcases lst_cases s l with ⟨hl,_⟩|⟨t,r,hd,hk2,hl⟩
  ·rw[hl,List.mem_singleton]at hx
   rw[hx]at hy
   exact hone y hy
  ·rw[hl]at hx
   rcases List.mem_cons.1 hx with rfl |hx
   ·exact hone y hy
   ·have hsuf:=(blank_suf E0 (itemL E0 l).2).trans (item_suf E0 l)
    have h4:=hsuf.length_le
    rw[hd]at h4 hsuf
    simp only[List.length_cons]at h4
    cases n with
    |zero=>exact absurd h4 (by omega)
    |succ n=>exact Lt_lst n t r (by omega) hk2 (Lt_suf hsuf (fun z hz=>h z (List.mem_cons_of_mem _ hz))) x hx y hy
theorem hs_false {c:UInt8} {s:Tx} (h:c∉s):hsB c s=false:=Sp.hs_no h
theorem line_of {s:Tx} (h:Lt s) (hl:s.length≤90000):lineB s=true:=by
 unfold lineB
 have:ckB s=true:=ck_of h.1 (by omega)
 rw[this,hs_false h.2,hs_false h.1.2.2]
 rfl
theorem ed_of {b:UInt8} (h1:gapB b=false) (h2:b≠10):edB b=false:=by
 unfold edB
 rw[←Kd.gap_sp,Kd.gap_ln,h1,decide_eq_false h2]
 rfl
theorem tx_no:∀s:Tx,(10:UInt8)∉s→txB s=true
 |[],_=>rfl
 |[_],_=>rfl
 |a::b::r,h=>by
  have h1:a≠10:=fun e=>h (by rw[e];exact List.mem_cons_self ..)
  have h2:b≠10:=fun e=>h (by rw[e];exact List.mem_cons_of_mem _ (List.mem_cons_self ..))
  rw[Sp.txB_two,tx_no (b::r) (fun hm=>h (List.mem_cons_of_mem _ hm)),decide_eq_false h1,decide_eq_false h2]
  rfl
structure Tr1 (s:Tx):Prop where
 lt:Lt s
 ne:s≠[]
 hd:∀b,s.head? = some b→gapB b=false
 la:∀b,s.getLast? = some b→gapB b=false
theorem tr_trim {s:Tx} (h:Lt s) (hk:trim s≠[]):Tr1 (trim s):=⟨Lt_trim h,hk,fun b hb=>Ln.trim_head s b hb,fun b hb=>Ln.trim_last s b hb⟩
theorem sp_gap (b:UInt8):spB b=gapB b:=by rw[←Kd.gap_sp,Kd.gap_ln]
theorem tx_join {z:Tx} (hz:txB z=true) (hne:z≠[]) (hh:∀b,z.head? = some b→gapB b=false∧b≠10):∀x:Tx,(10:UInt8)∉x→x≠[]→(∀b,x.getLast? = some b→gapB b=false)→txB (x++10::z)=true
 |[],_,h,_=>absurd rfl h
 |[a],h10,_,hl=>by
  have h1:a≠10:=fun e=>h10 (by rw[e];exact List.mem_cons_self ..)
  obtain⟨b,r,rfl⟩:=List.exists_cons_of_ne_nil hne
  obtain⟨h2,h3⟩:=hh b rfl
  show txB (a::10::b::r)=true
  rw[Sp.txB_two,Sp.txB_two,hz,decide_eq_false h1,decide_eq_false h3,sp_gap b,sp_gap a,h2,hl a rfl]
  simp only[decide_true,Bool.false_and,Bool.and_false,Bool.or_false,Bool.not_false,Bool.and_true]
 |a::b::r,h10,_,hl=>by
  have h1:a≠10:=fun e=>h10 (by rw[e];exact List.mem_cons_self ..)
  have h2:b≠10:=fun e=>h10 (by rw[e];exact List.mem_cons_of_mem _ (List.mem_cons_self ..))
  have ih:=tx_join hz hne hh (b::r) (fun hm=>h10 (List.mem_cons_of_mem _ hm)) (by simp) (fun c hc=>hl c (by rw[List.getLast?_cons_cons];exact hc))
  show txB (a::b::(r++10::z))=true
  rw[Sp.txB_two,decide_eq_false h1,decide_eq_false h2]
  have:txB (b::(r++10::z))=true:=ih
  rw[this]
  rfl
structure Jn (z:Tx):Prop where
 wt:Wt z
 tx:txB z=true
 ne:z≠[]
 hd:∀b,z.head? = some b→gapB b=false∧b≠10
 la:∀b,z.getLast? = some b→gapB b=false∧b≠10
theorem not10 {s:Tx} (h:Lt s) {b:UInt8} (hb:b∈s):b≠10:=fun e=>h.2 (by rw[←e];exact hb)
theorem jn_of:∀l:List Tx,l≠[]→(∀s∈l,Tr1 s)→Jn (joinLF l)
 |[],h,_=>absurd rfl h
 |[x],_,h=>by
  have hx:=h x (List.mem_cons_self ..)
  exact⟨hx.lt.1,tx_no x hx.lt.2,hx.ne,fun b hb=>⟨hx.hd b hb,not10 hx.lt (List.mem_of_head? hb)⟩,fun b hb=>⟨hx.la b hb,not10 hx.lt (List.mem_of_getLast? hb)⟩⟩
 |x::y::r,_,h=>by
  have hx:=h x (List.mem_cons_self ..)
  have ih:=jn_of (y::r) (by simp) (fun s hs=>h s (List.mem_cons_of_mem _ hs))
  show Jn (x++10::joinLF (y::r))
  refine⟨Wt_app hx.lt.1 (Wt_app (a:=[10]) ⟨Sp.V_one (by decide),by decide,by decide⟩ ih.wt),tx_join ih.tx ih.ne ih.hd x hx.lt.2 hx.ne hx.la,by simp,fun b hb=>?_,fun b hb=>?_⟩
  ·obtain⟨c,t,rfl⟩:=List.exists_cons_of_ne_nil hx.ne
   have:some c=some b:=hb
   injection this with this
   subst this
   exact⟨hx.hd c rfl,not10 hx.lt (List.mem_cons_self ..)⟩
  ·refine ih.la b ?_
   obtain⟨c,t,hc⟩:=List.exists_cons_of_ne_nil ih.ne
   rw[hc]at hb ⊢
   rw[List.getLast?_append]at hb
   simpa using hb
theorem rt_of {z:Tx} (h:Jn z) (hl:z.length≤90000):rtB (parse z)=true:=by
 rw[parse_psB]
 exact parse_norm hl h.wt h.tx (fun b hb=>ed_of (h.hd b hb).1 (h.hd b hb).2) (fun b hb=>ed_of (h.la b hb).1 (h.la b hb).2)
theorem rt_line {z:Tx} (h:Lt z) (ht:trim z=z) (hl:z.length≤90000):rtB (parse z)=true:=by
 rw[parse_psB]
 exact parse_norm hl h.1 (tx_no z h.2) (fun b hb=>ed_of (Ln.trim_head z b (by rw[ht];exact hb)) (not10 h (List.mem_of_head? hb))) (fun b hb=>ed_of (Ln.trim_last z b (by rw[ht];exact hb)) (not10 h (List.mem_of_getLast? hb)))
end Pa
namespace Pa
open Tk (S S_list S_size)
open Sp (Sp rtB hsB dsB plAll Rdr_sub)
open Bt (allB oneB rgB lineB labB infB ckB tgB dp dpAll dpOne boxB dpAll_cons allB_cons)
open Bk (Tx Bk Env fenceL spanK itemL dropBlank listL items kindOf closes unquote unitem inner define parse joinLF)
open Ln (run mx trim)
open Kd (E0)
theorem val_six {d:Nat} {s:Tx} {l:List Tx} {b:Bk} (hk:kindOf E0 s≠1) (h:valB allE d s l=some b) (h6:b.kind=6):kindOf E0 s=6:=by
 rcases kind_cases s hk with k |k |k |k |k |k |k
 ·rw[val2 k]at h;injection h with h;subst h;simp[Bk.kind]at h6
 ·rw[val3 k]at h;injection h with h;subst h;simp[Bk.kind]at h6
 ·rw[val4 k]at h;injection h with h;subst h;simp[Bk.kind]at h6
 ·rw[val5 k]at h;obtain⟨_,_,h⟩:=Option.map_eq_some_iff.1 h;subst h;simp[Bk.kind]at h6
 ·exact k
 ·rw[val7 k]at h;obtain⟨_,_,h⟩:=Option.map_eq_some_iff.1 h;subst h;simp[Bk.kind]at h6
 ·rw[val8 k]at h;injection h with h;subst h;simp[Bk.kind]at h6
theorem first_six (d:Nat):∀(l:List Tx) (b:Bk) (bs:List Bk),allE d l=some (b::bs)→b.kind=6→∃t r,dropBlank E0 l=t::r∧kindOf E0 t=6
 |[],b,bs,h,h6=>by
  by_cases hd:d≤16
  ·rw[allE_nil hd]at h;cases h
  ·rw[allE_deep (by omega)]at h;cases h
 |s::l,b,bs,h,h6=>by
  by_cases hd:d≤16
  ·unfold dropBlank
   by_cases hk:kindOf E0 s=1
   ·rw[allE_blank hk]at h
    rw[if_pos hk]
    exact first_six d l b bs h h6
   ·rw[if_neg hk]
    rw[allE_block hd hk]at h
    cases hv:valB allE d s l with
    |none=>rw[hv]at h;cases h
    |some b'=>
     rw[hv]at h
     obtain⟨bs',_,he⟩:=Option.map_eq_some_iff.1 h
     injection he with he1 he2
     subst he1
     exact⟨s,l,rfl,val_six hk hv h6⟩
  ·rw[allE_deep (by omega)]at h;cases h
theorem lst_rest:∀(n:Nat) (s:Tx) (l:List Tx),l.length≤n→dropBlank E0 (lst (s::l)).2=[]∨∃t r,dropBlank E0 (lst (s::l)).2=t::r∧kindOf E0 t≠6
 |n,s,l,hn=>by
  rcases lst_cases s l with ⟨hl,h⟩|⟨t,r,hd,hk2,hl⟩
  ·rw[hl];exact h
  ·rw[hl]
   have h4:=((blank_suf E0 (itemL E0 l).2).trans (item_suf E0 l)).length_le
   rw[hd]at h4
   simp only[List.length_cons]at h4
   cases n with
   |zero=>exact absurd h4 (by omega)
   |succ n=>exact lst_rest n t r (by omega)
theorem after_list {d:Nat} {s:Tx} {l:List Tx} {bs:List Bk} (h:allE d (lst (s::l)).2=some bs):∀b r,bs=b::r→b.kind≠6:=by
 intro b r hb h6
 subst hb
 obtain⟨t,q,h1,h2⟩:=first_six d _ b r h h6
 rcases lst_rest l.length s l (Nat.le_refl _)with h3 |⟨t',r',h3,h4⟩
 ·rw[h3]at h1;cases h1
 ·rw[h3]at h1
  injection h1 with h1 _
  subst h1
  exact h4 h2
theorem tight_trim (s:Tx):tgB (trim s)=true:=by
 have h1:=fun b=>Ln.trim_head s b
 have h2:=fun b=>Ln.trim_last s b
 generalize trim s=t at *
 cases t with
 |nil=>rfl
 |cons b r=>
  unfold tgB
  rw[List.isEmpty_cons,Bool.false_or,List.headD_cons,sp_gap,sp_gap,h1 b rfl,List.getLastD_eq_getLast?]
  cases hc:(b::r).getLast? with
  |none=>simp at hc
  |some c=>
   rw[Option.getD_some,h2 c hc]
   rfl
theorem kd2 {s:Tx} (h:kindOf E0 s=2):1≤run 35 s∧run 35 s≤6:=by
 unfold kindOf at h
 split at h
 ·omega
 ·split at h
  ·rename_i h1;exact h1.1
  ·repeat' split at h
   all_goals omega
theorem kd4 {s:Tx} (h:kindOf E0 s=4):mx 96 (s.drop (run 96 s))=0:=by
 unfold kindOf at h
 repeat' split at h
 all_goals omega
theorem trim_mem {s:Tx} {b:UInt8} (h:b∈trim s):b∈s:=by
 have h1:b∈Ln.dr s:=(List.dropWhile_sublist _).subset h
 obtain⟨g,h2,_⟩:=dr_pre s
 rw[h2]
 exact List.mem_append_left _ h1
theorem define_dest {s:Tx} {p:Tx × Tx} (h:define E0 s=some p):labB p.1=true∧dsB p.2=true:=by
 unfold define at h
 split at h
 ·rename_i t
  obtain⟨q,_,_,h3,h4⟩:=Bk.df_some (E:=E0) t [] p.1 p.2 h
  rw[Kd.lab_eq]at h3
  rw[Kd.dest_eq]at h4
  exact⟨h3,h4⟩
 ·cases h
theorem fence_mem (n:Nat):∀(l:List Tx) (s:Tx),s∈(fenceL n l).1→s∈l
 |[],s,h=>by simp[fenceL]at h
 |x::l,s,h=>by
  unfold fenceL at h
  split at h
  ·cases h
  ·rcases List.mem_cons.1 h with rfl |h
   ·exact List.mem_cons_self ..
   ·exact List.mem_cons_of_mem _ (fence_mem n l s h)
theorem items_right {d:Nat}:∀(xs:List (List Tx)) (ks:List Bk) (p:Int),p≠6→(∀x∈xs,∀k,allE d x=some k→allB false 0 k=true)→items (allE d) xs=some ks→allB true p ks=true∧ks.length=xs.length
 |[],ks,p,_,_,h=>by
  unfold items at h
  injection h with h
  subst h
  rw[allB]
  exact⟨rfl,rfl⟩
 |x::r,ks,p,hp,hx,h=>by
  unfold items at h
  cases ha:allE d x with
  |none=>rw[ha]at h;cases h
  |some k=>
   rw[ha]at h
   obtain⟨ks',h2,rfl⟩:=Option.map_eq_some_iff.1 h
   have h3:=items_right r ks' 7 (by decide) (fun y hy=>hx y (List.mem_cons_of_mem _ hy)) h2
   have h4:=hx x (List.mem_cons_self ..) k ha
   rw[allB_cons,oneB]
   simp[Bk.kind,h3.1,h4,hp,h3.2]
theorem all_right (d:Nat) (l:List Tx) (bs:List Bk) (h:allE d l=some bs) (hl:∀s∈l,Lt s) (ht:tot l≤90000):∀p:Int,(p=6→∀b r,bs=b::r→b.kind≠6)→allB false p bs=true:=by
 refine all_ind (Q:=fun d l bs=>(∀s∈l,Lt s)→tot l≤90000→∀p:Int,(p=6→∀b r,bs=b::r→b.kind≠6)→allB false p bs=true) ?_ ?_ ?_ _ d l bs (Nat.le_refl _) h hl ht
 ·intro d _ _ _ p _;rw[allB]
 ·intro d s l bs _ _ _ ih hl ht p hp
  exact ih (fun z hz=>hl z (List.mem_cons_of_mem _ hz)) (by rw[tot]at ht;omega) p hp
 ·intro d s l b bs hd hk hv hr ih h5 h6 hl ht p hp
  have hls:∀z∈l,Lt z:=fun z hz=>hl z (List.mem_cons_of_mem _ hz)
  have hs:=hl s (List.mem_cons_self ..)
  have hrs:=rest_suf s l
  have htl:tot l≤90000:=by rw[tot]at ht;omega
  have hsl:s.length≤90000:=by rw[tot]at ht;omega
  have hbl:∀{t:Tx},lineB t=true→True:=fun _=>trivial
  have hnext:allB false b.kind bs=true:=ih (Lt_suf hrs hls) (Nat.le_trans (tot_suf hrs) htl) b.kind (fun hb6=>by
   have hk6:=val_six hk hv hb6
   rw[rest6 hk6]at hr
   exact after_list hr)
  rw[allB_cons,hnext,Bool.and_true,Bool.and_eq_true]
  constructor
  ·rcases kind_cases s hk with k |k |k |k |k |k |k
   ·rw[val2 k]at hv;injection hv with hv;subst hv
    have hL:Lt (trim (s.drop (run 35 s))):=Lt_trim (Lt_run (by decide) hs)
    have hlen:(trim (s.drop (run 35 s))).length≤90000:=by
     have h2:=Ln.trim_len (s.drop (run 35 s))
     have h3:(s.drop (run 35 s)).length≤s.length:=by rw[List.length_drop];omega
     omega
    have h1:=rt_line hL (Ln.trim_trim _) hlen
    have h2:hsB 10 (plAll (parse (trim (s.drop (run 35 s)))))=false:=hs_false (fun hm=>hL.2 ((Rdr_sub false false (trim (s.drop (run 35 s)))).subset hm))
    obtain⟨h3,h4⟩:=kd2 k
    rw[oneB]
    simp[h1,h2]
    omega
   ·rw[val3 k]at hv;injection hv with hv;subst hv
    rw[oneB];simp
   ·rw[val4 k]at hv;injection hv with hv;subst hv
    have hL:Lt (trim (s.drop (run 96 s))):=Lt_trim (Lt_run (by decide) hs)
    have hlen:(trim (s.drop (run 96 s))).length≤90000:=by
     have h2:=Ln.trim_len (s.drop (run 96 s))
     have h3:(s.drop (run 96 s)).length≤s.length:=by rw[List.length_drop];omega
     omega
    have h1:=line_of hL hlen
    have h2:hsB 96 (trim (s.drop (run 96 s)))=false:=hs_false (fun hm=>Ln.mx_zero 96 _ (kd4 k) (trim_mem hm))
    have h3:infB (trim (s.drop (run 96 s)))=true:=by unfold infB;rw[h1,h2,tight_trim];rfl
    have h4:((fenceL (run 96 s) l).1.all lineB)=true:=List.all_eq_true.2 (fun x hx=>by
     have hm:=fence_mem _ l x hx
     have:=tot_mem l x hm
     exact line_of (hls x hm) (by omega))
    rw[oneB,h4,h3];simp
   ·rw[val5 k]at hv
    obtain⟨ks,ha,rfl⟩:=Option.map_eq_some_iff.1 hv
    have hq:=quoted_tot (l:=l) k
    have h1:=h5 ks ha (fun z hz=>by
     unfold quoted at hz
     obtain⟨y,hy,rfl⟩:=List.mem_map.1 hz
     exact Lt_unq (span_kind5 (s::l) y hy) (Lt_sp hl y hy)) (by omega) 0 (fun h=>absurd h (by decide))
    rw[oneB];simp[h1]
   ·rw[val6 k]at hv
    obtain⟨ks,ha,rfl⟩:=Option.map_eq_some_iff.1 hv
    have hq:=lst_totL l.length s l (Nat.le_refl _) k
    obtain⟨h1,h2⟩:=items_right (lst (s::l)).1 ks 0 (by decide) (fun x hx k' hk'=>h6 x hx k' hk' (Lt_lst l.length s l (Nat.le_refl _) k hl x hx) (by
     have:=totL_mem _ x hx
     omega) 0 (fun h=>absurd h (by decide))) ha
    have h3:ks.isEmpty=false:=by
     cases ks with
     |nil=>
      exfalso
      rcases lst_cases s l with ⟨h,_⟩|⟨t,r,_,_,h⟩
      ·rw[h]at h2;simp at h2
      ·rw[h]at h2;simp at h2
     |cons _ _=>rfl
    rw[oneB];simp[h1,h3]
   ·rw[val7 k]at hv
    obtain⟨q,ha,rfl⟩:=Option.map_eq_some_iff.1 hv
    obtain⟨h1,h2⟩:=define_dest ha
    rw[oneB];simp[h1,h2]
   ·rw[val8 k]at hv;injection hv with hv;subst hv
    have hq:=para_tot (s:=s) (l:=l)
    have hj:Jn (joinLF (paraL s l)):=jn_of _ (by unfold paraL;rw[spanK,if_pos k];simp) (fun z hz=>by
     unfold paraL at hz
     obtain⟨y,hy,rfl⟩:=List.mem_map.1 hz
     have hy8:=span_kind8 (s::l) y hy
     exact tr_trim (Lt_sp hl y hy) (fun h0=>by
      have:=(Bk.kind_one (E:=E0) y).2 h0
      omega))
    have h1:=rt_of hj (by omega)
    have h2:(parse (joinLF (paraL s l))).isEmpty=false:=by
     cases hp:parse (joinLF (paraL s l))with
     |nil=>
      exfalso
      rw[parse_psB]at hp
      have:=Sp.parse_nil.1 hp
      rw[S_size]at this
      exact hj.ne (List.eq_nil_of_length_eq_zero this)
     |cons _ _=>rfl
    rw[oneB];simp[h1,h2]
  ·by_cases hp6:p=6
   ·have:=hp hp6 b bs rfl
    simp[this]
   ·simp[hp6]
def gB (x:Bk):Int:=if boxB x.kind=true then IntKind.i64.wrap (1+dp x.kids)else dp x.kids
theorem dpAll_max:∀(l:List Bk) (n:Int),0≤n→dpAll n l=max n (dp l)
 |[],n,h=>by unfold dp;rw[dpAll,dpAll];omega
 |x::r,n,h=>by
  have e:∀m:Int,dpAll m (x::r)=dpAll (max m (gB x)) r:=fun m=>by
   rw[dpAll_cons]
   unfold gB
   split<;>rfl
  have h1:=dpAll_max r (max n (gB x)) (by omega)
  have h2:=dpAll_max r (max 0 (gB x)) (by omega)
  unfold dp at h1 h2 ⊢
  rw[e,e,h1,h2]
  omega
theorem dp_cons (x:Bk) (r:List Bk):dp (x::r)=max (max 0 (gB x)) (dp r):=by
 have:dp (x::r)=dpAll (max 0 (gB x)) r:=by
  unfold dp
  rw[dpAll_cons]
  unfold gB
  split<;>rfl
 rw[this,dpAll_max r _ (by omega)]
theorem dp_nil:dp []=0:=rfl
theorem items_deep {d:Nat} (n:Int) (hn:0≤n) (hn2:n≤16):∀(xs:List (List Tx)) (ks:List Bk),(∀x∈xs,∀k,allE d x=some k→dp k≤n)→items (allE d) xs=some ks→dp ks≤n+1
 |[],ks,_,h=>by
  unfold items at h
  injection h with h
  subst h
  rw[dp_nil];omega
 |x::r,ks,hx,h=>by
  unfold items at h
  cases ha:allE d x with
  |none=>rw[ha]at h;cases h
  |some k=>
   rw[ha]at h
   obtain⟨ks',h2,rfl⟩:=Option.map_eq_some_iff.1 h
   have h3:=items_deep n hn hn2 r ks' (fun y hy=>hx y (List.mem_cons_of_mem _ hy)) h2
   have h4:=hx x (List.mem_cons_self ..) k ha
   have h5:=Bt.dp_ge k
   rw[dp_cons]
   have:gB (.mk 7 0 [] [] [] k)=1+dp k:=by
    show(if boxB 7=true then IntKind.i64.wrap (1+dp k)else dp k)=_
    rw[if_pos (by decide),IntKind.wrap_i64]
    omega
   rw[this]
   omega
theorem all_deep (d:Nat) (l:List Tx) (bs:List Bk) (h:allE d l=some bs):dp bs+d≤16:=by
 refine all_ind (Q:=fun d l bs=>dp bs+d≤16) ?_ ?_ ?_ _ d l bs (Nat.le_refl _) h
 ·intro d hd;rw[dp_nil];omega
 ·intro d s l bs _ _ _ ih;exact ih
 ·intro d s l b bs hd hk hv hr ih h5 h6
  rw[dp_cons]
  have hz:dp ([]:List Bk)=0:=rfl
  rcases kind_cases s hk with k |k |k |k |k |k |k
  ·rw[val2 k]at hv;injection hv with hv;subst hv
   have:gB (.mk 2 (run 35 s) [] [] (parse (trim (s.drop (run 35 s)))) [])=0:=rfl
   rw[this];omega
  ·rw[val3 k]at hv;injection hv with hv;subst hv
   have:gB (.mk 3 0 [] [] [] [])=0:=rfl
   rw[this];omega
  ·rw[val4 k]at hv;injection hv with hv;subst hv
   have:gB (.mk 4 0 (trim (s.drop (run 96 s))) (fenceL (run 96 s) l).1 [] [])=0:=rfl
   rw[this];omega
  ·rw[val5 k]at hv
   obtain⟨ks,ha,rfl⟩:=Option.map_eq_some_iff.1 hv
   have h1:=h5 ks ha
   have h2:=Bt.dp_ge ks
   have:gB (.mk 5 0 [] [] [] ks)=1+dp ks:=by
    show(if boxB 5=true then IntKind.i64.wrap (1+dp ks)else dp ks)=_
    rw[if_pos (by decide),IntKind.wrap_i64]
    omega
   rw[this]
   omega
  ·rw[val6 k]at hv
   obtain⟨ks,ha,rfl⟩:=Option.map_eq_some_iff.1 hv
   have hd2:(d:Int)+2≤16:=by
    rcases lst_cases s l with ⟨h,_⟩|⟨t,r,_,_,h⟩
    all_goals
     rw[h]at ha
     unfold items at ha
     rcases Nat.lt_or_ge 16 (d+2)with h' |h'
     ·rw[allE_deep h']at ha;cases ha
     ·omega
   have h1:=items_deep (14-d) (by omega) (by omega) _ ks (fun x hx k' hk'=>by have:=h6 x hx k' hk';omega) ha
   have h2:=Bt.dp_ge ks
   have:gB (.mk 6 0 [] [] [] ks)=1+dp ks:=by
    show(if boxB 6=true then IntKind.i64.wrap (1+dp ks)else dp ks)=_
    rw[if_pos (by decide),IntKind.wrap_i64]
    omega
   rw[this]
   omega
  ·rw[val7 k]at hv
   obtain⟨q,ha,rfl⟩:=Option.map_eq_some_iff.1 hv
   have:gB (.mk 8 0 q.1 [q.2] [] [])=0:=rfl
   rw[this];omega
  ·rw[val8 k]at hv;injection hv with hv;subst hv
   have:gB (.mk 1 0 [] [] (parse (joinLF (paraL s l))) [])=0:=rfl
   rw[this];omega
theorem all_rg (l:List Tx) (bs:List Bk) (h:allE 0 l=some bs) (hl:∀s∈l,Lt s) (ht:tot l≤90000):rgB bs=true:=by
 unfold rgB
 rw[all_right 0 l bs h hl ht 0 (fun h=>absurd h (by decide)),Bool.true_and,decide_eq_true_iff]
 have:=all_deep 0 l bs h
 omega
end Pa
namespace Pa
open Tk (S S_list S_size)
open Sp (Sp V V_cut psB Wt)
open Bt (fitAll fitOne fitOne_eq)
open Bk (Tx Bk fenceL spanK items kindOf define parse joinLF)
open Ln (run trim)
open Kd (E0)
open Utf (chk)
theorem strip_lt {cur:Tx} (hv:V cur) (h0:(0:UInt8)∉cur) (h10:(10:UInt8)∉cur) (h13:(13:UInt8)∉cur∨∃c,cur=c++[13]∧(13:UInt8)∉c):Lt (Ln.strip cur):=by
 rcases h13 with h |⟨c,rfl,h⟩
 ·rw[Ln.strip_id cur h]
  exact⟨⟨hv,h0,h⟩,h10⟩
 ·rw[Ln.strip_snoc]
  exact⟨⟨(V_cut (c:=13) (by decide) c.length c [] (Nat.le_refl _) hv).1,fun hm=>h0 (List.mem_append_left _ hm),h⟩,fun hm=>h10 (List.mem_append_left _ hm)⟩
theorem ls_lt:∀(r cur:Tx),V (cur++r)→(0:UInt8)∉cur++r→(10:UInt8)∉cur→((13:UInt8)∉cur∨∃c,cur=c++[13]∧(13:UInt8)∉c∧r.head? = some 10)→∀x∈(Ln.ls cur r).1,Lt x
 |[],cur,hv,h0,h10,h13,x,hx=>by
  have h:(13:UInt8)∉cur:=by
   rcases h13 with h |⟨c,_,_,h⟩
   ·exact h
   ·cases h
  rw[List.append_nil]at hv h0
  unfold Ln.ls at hx
  split at hx
  ·cases hx
  ·rw[List.mem_singleton]at hx
   subst hx
   exact⟨⟨hv,h0,h⟩,h10⟩
 |b::r,cur,hv,h0,h10,h13,x,hx=>by
  by_cases hb:b=10
  ·subst hb
   obtain⟨v1,v2⟩:=V_cut (c:=10) (by decide) cur.length cur r (Nat.le_refl _) hv
   rw[Ln.ls_lf]at hx
   rcases List.mem_cons.1 hx with rfl |hx
   ·exact strip_lt v1 (fun hm=>h0 (List.mem_append_left _ hm)) h10 (h13.imp id (fun⟨c,e,h,_⟩=>⟨c,e,h⟩))
   ·exact ls_lt r [] (by simpa using v2) (fun hm=>h0 (List.mem_append_right _ (List.mem_cons_of_mem _ (by simpa using hm)))) (by simp) (Or.inl (by simp)) x hx
  ·have h13':(13:UInt8)∉cur:=by
    rcases h13 with h |⟨c,_,_,h⟩
    ·exact h
    ·exact absurd (by simpa using h) hb
   by_cases hc:b=13∧r.head?≠some 10
   ·obtain⟨rfl,hc⟩:=hc
    obtain⟨v1,v2⟩:=V_cut (c:=13) (by decide) cur.length cur r (Nat.le_refl _) hv
    rw[Ln.ls_cr _ _ hc]at hx
    rcases List.mem_cons.1 hx with rfl |hx
    ·exact⟨⟨v1,fun hm=>h0 (List.mem_append_left _ hm),h13'⟩,h10⟩
    ·exact ls_lt r [] (by simpa using v2) (fun hm=>h0 (List.mem_append_right _ (List.mem_cons_of_mem _ (by simpa using hm)))) (by simp) (Or.inl (by simp)) x hx
   ·have he:Ln.ls cur (b::r)=Ln.ls (cur++[b]) r:=by rw[Ln.ls,if_neg hb,if_neg hc]
    rw[he]at hx
    have happ:cur++[b]++r=cur++b::r:=by rw[List.append_assoc];rfl
    refine ls_lt r (cur++[b]) (by rw[happ];exact hv) (by rw[happ];exact h0) (fun hm=>?_) ?_ x hx
    ·rcases List.mem_append.1 hm with hm |hm
     ·exact h10 hm
     ·rw[List.mem_singleton]at hm;exact hb hm.symm
    ·by_cases hb13:b=13
     ·subst hb13
      exact Or.inr ⟨cur,rfl,h13',by
       by_cases h:r.head? = some 10
       ·exact h
       ·exact absurd ⟨rfl,h⟩ hc⟩
     ·exact Or.inl (fun hm=>by
       rcases List.mem_append.1 hm with hm |hm
       ·exact h13' hm
       ·rw[List.mem_singleton]at hm;exact hb13 hm.symm)
theorem split_lt {s:Tx} (h:chk (S s)=0):∀x∈(Ln.split s).1,Lt x:=by
 have hz:=(Utf.chk_zero_iff (S s)).1 h
 have h0:(0:UInt8)∉s:=by
  have:=hz.2.1
  unfold Utf.zeroB at this
  have h1:=of_decide_eq_false this
  rwa[S_list]at h1
 exact ls_lt s [] (by simpa [V]using hz.2.2) (by simpa using h0) (by simp) (Or.inl (by simp))
theorem parse_fitR (t:Tx) (h:t.length≤90000):Sp.fitAll 200000 (parse t):=by
 rw[parse_psB]
 exact(Sp.parse_fit (S t) (by rw[S_size];exact h)).2
theorem all_fit (d:Nat) (l:List Tx) (bs:List Bk) (h:allE d l=some bs) (ht:tot l≤90000):fitAll 200000 bs:=by
 refine all_ind (Q:=fun d l bs=>tot l≤90000→fitAll 200000 bs) ?_ ?_ ?_ _ d l bs (Nat.le_refl _) h ht
 ·intro d _ _;unfold fitAll;trivial
 ·intro d s l bs _ _ _ ih ht;exact ih (by rw[tot]at ht;omega)
 ·intro d s l b bs hd hk hv hr ih h5 h6 ht
  have htl:tot l≤90000:=by rw[tot]at ht;omega
  have hsl:s.length≤90000:=by rw[tot]at ht;omega
  unfold fitAll
  refine⟨?_,ih (Nat.le_trans (tot_suf (rest_suf s l)) htl)⟩
  rw[fitOne_eq]
  have hnil:fitAll 200000 []:=by unfold fitAll;trivial
  have hsnil:Sp.fitAll 200000 []:=by unfold Sp.fitAll;trivial
  have hrun:∀c,run c s≤90000:=fun c=>Nat.le_trans (Ln.run_le c s) hsl
  have htr:∀c,(trim (s.drop (run c s))).length≤90000:=fun c=>by
   have h2:=Ln.trim_len (s.drop (run c s))
   have h3:(s.drop (run c s)).length≤s.length:=by rw[List.length_drop];omega
   omega
  rcases kind_cases s hk with k |k |k |k |k |k |k
  ·rw[val2 k]at hv;injection hv with hv;subst hv
   have:=hrun 35
   exact⟨by simp[Bk.kind],by simp only[Bk.level];omega,by simp[Bk.info],(fun x hx=>by cases hx),parse_fitR _ (htr 35),hnil⟩
  ·rw[val3 k]at hv;injection hv with hv;subst hv
   exact⟨by simp[Bk.kind],by simp[Bk.level],by simp[Bk.info],(fun x hx=>by cases hx),hsnil,hnil⟩
  ·rw[val4 k]at hv;injection hv with hv;subst hv
   have:=htr 96
   exact⟨by simp[Bk.kind],by simp[Bk.level],by simp only[Bk.info];omega,fun x hx=>by
    have:=tot_mem l x (fence_mem _ l x hx)
    omega,hsnil,hnil⟩
  ·rw[val5 k]at hv
   obtain⟨ks,ha,rfl⟩:=Option.map_eq_some_iff.1 hv
   have hq:=quoted_tot (l:=l) k
   exact⟨by simp[Bk.kind],by simp[Bk.level],by simp[Bk.info],(fun x hx=>by cases hx),hsnil,h5 ks ha (by omega)⟩
  ·rw[val6 k]at hv
   obtain⟨ks,ha,rfl⟩:=Option.map_eq_some_iff.1 hv
   have hq:=lst_totL l.length s l (Nat.le_refl _) k
   have hit:∀(xs:List (List Tx)) (ks:List Bk),(∀x∈xs,∀k,allE (d+2) x=some k→fitAll 200000 k)→items (allE (d+2)) xs=some ks→fitAll 200000 ks:=by
    intro xs
    induction xs with
    |nil=>intro ks _ h;unfold items at h;injection h with h;subst h;exact hnil
    |cons x r ihx=>
     intro ks hx h
     unfold items at h
     cases ha:allE (d+2) x with
     |none=>rw[ha]at h;cases h
     |some k=>
      rw[ha]at h
      obtain⟨ks',h2,rfl⟩:=Option.map_eq_some_iff.1 h
      unfold fitAll
      refine⟨?_,ihx ks' (fun y hy=>hx y (List.mem_cons_of_mem _ hy)) h2⟩
      rw[fitOne_eq]
      exact⟨by simp[Bk.kind],by simp[Bk.level],by simp[Bk.info],(fun x hx=>by cases hx),hsnil,hx x (List.mem_cons_self ..) k ha⟩
   exact⟨by simp[Bk.kind],by simp[Bk.level],by simp[Bk.info],(fun x hx=>by cases hx),hsnil,hit _ ks (fun x hx k' hk'=>h6 x hx k' hk' (by
    have:=totL_mem _ x hx
    omega)) ha⟩
  ·rw[val7 k]at hv
   obtain⟨q,ha,rfl⟩:=Option.map_eq_some_iff.1 hv
   have:=define_tot ha
   exact⟨by simp[Bk.kind],by simp[Bk.level],by simp only[Bk.info];omega,fun x hx=>by
    simp only[Bk.lines,List.mem_singleton]at hx
    subst hx
    omega,hsnil,hnil⟩
  ·rw[val8 k]at hv;injection hv with hv;subst hv
   have hq:=para_tot (s:=s) (l:=l)
   exact⟨by simp[Bk.kind],by simp[Bk.level],by simp[Bk.info],(fun x hx=>by cases hx),parse_fitR _ (by omega),hnil⟩
end Pa
end Go.Proofs.YthpnbialpkkpgaaGreatDoor
