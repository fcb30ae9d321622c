import Derived.Test.YtpakjdgddomdjabGreatDoorPkK
import Derived.Test.YtpakjdgddomdjabGreatDoorPkF
set_option linter.unusedVariables false
namespace Go.Proofs.YtpakjdgddomdjabGreatDoor
namespace Sp
open Go.RowKit Go.Sort
open Tk (at_data cls class8)
open Cm (cell_at)
theorem escP_any (b:UInt8) (w:World):Calls Tryz.prog 215 #[.int .u8 b.toNat] w fun e w'=>e=.returned (.bool (decide (cls b=4)))∧w=w':=by
 have HC:=Lib.hid (class8 b w);have HE:Hid (((cls b:Int)==4)=decide (cls b=4)):=Lib.hid (by rw[Bool.eq_iff_iff,beq_iff_eq,decide_eq_true_iff];omega);have hb:b.toNat<256:=b.toNat_lt;go_enter Tryz.func215,Tryz.ntmps215;go_wp2_with fail;refine HC.out.mono ?_;rintro e w' ⟨rfl,rfl⟩;go_wp2_with fail;go_ret
 first |exact⟨rfl,rfl⟩|exact⟨by rw[HE.out];rfl,rfl⟩
def LineOk (l R:List UInt8):Prop:=∃u lf,l=u++lf∧(10:UInt8)∉u∧(lf=[10]∨(lf=[]∧R=[]))
def StepAns (C B:Nat) (w:World) (line:ByteArray) (d:List (Nat × Nat)) (ps:List Pc) (R:List UInt8) (k:Nat) (e:Ending) (w':World):Prop:=
 ∃(k':Nat) (ps':List Pc),e=.returned (.int .i64 k')∧k<k'∧k'≤line.size∧ps'.length≤k'-k∧Cst C B w' line d (ps++ps')∧BdS kC C w w'∧Cut1 (line.data.toList.drop k++R) ps' (line.data.toList.drop k'++R)
theorem drop_two (s:ByteArray) (k:Nat) (h:k+1<s.size):s.data.toList.drop k=s[k]::s[k+1]::s.data.toList.drop (k+2):=by
 rw[at_data s k (by omega),at_data s (k+1) h]
theorem take_one (s:ByteArray) (k:Nat) (h:k<s.size):(s.data.toList.drop k).take 1=[s[k]]:=by rw[at_data s k h];rfl
set_option maxHeartbeats 3200000 in
set_option maxRecDepth 100000 in
theorem escape_any {C B:Nat} {w:World} {line:ByteArray} {d:List (Nat × Nat)} {ps:List Pc} (h:Cst C B w line d ps) (R:List UInt8) (hR:LineOk line.data.toList R) (k:Nat) (hk:k<line.size) (hl:ps.length+(line.size-k)≤1000000) (hs:line.size≤1000000) (h92:line[k]=92):
  Calls Tryz.prog 201 #[.pointer (some ⟨C,0,none⟩),.int .i64 k] w (StepAns C B w line d ps R k):=by
 have hh:=h;obtain⟨c1,c2,rv,ov,c3,c4,c5⟩:=hh;have q0:w.cell? ⟨C,0,none⟩=some (.string line):=cell_at c3 0;clear c3 c4 c5;by_cases h1:k+1<line.size
 ·have hd:=drop_two line k h1
  have HE:=Lib.hid (fun w=>escP_any line[k+1] w);have hi1:(k:Int)+1<(line.size:Int):=by omega
  cases hc:decide (cls line[k+1]=4)with
  |true=>
   rw[hc]at HE;have HP:=Lib.hid (put_any h (by omega) 0 (k+1) (k+2) (by omega) (by omega) hs [92,line[k+1]])
   have HF:Hid (∀w',CutAns C B w line d (ps++[⟨0,(line.data.toList.drop (k+1)).take (k+2-(k+1)),[92,line[k+1]]⟩]) ((k+2:Nat):Int) (.returned (.int .i64 ((k+2:Nat):Int))) w'→StepAns C B w line d ps R k (.returned (.int .i64 ((k+2:Nat):Int))) w'):=Lib.hid (fun w' ⟨_,h2,h3⟩=>by
    refine⟨k+2,_,rfl,by omega,by omega,by simp,h2,h3,?_⟩;rw[show k+2-(k+1)=1 by omega,take_one line (k+1) h1,hd,h92];exact cut_esc (of_decide_eq_true hc))
   clear hc hd h;rw[show((k+2:Nat):Int)=(k:Int)+2 by omega,show((k+1:Nat):Int)=(k:Int)+1 by omega]at HP;rw[show((k+2:Nat):Int)=(k:Int)+2 by omega]at HF;go_enter Tryz.func201,Tryz.ntmps201;go_wp2_with fail;refine(HE.out _).mono ?_;rintro e w' ⟨rfl,rfl⟩;go_wp2_with fail;refine HP.out.mono ?_;rintro e w2 ⟨rfl,hc2,hb2⟩;have HR:=Lib.hid (HF.out w2 ⟨rfl,hc2,hb2⟩);clear hc2 hb2;go_wp2_with fail;go_ret;exact HR.out
  |false=>
   rw[hc]at HE;have HP:=Lib.hid (put_any h (by omega) 0 k (k+1) (by omega) (by omega) hs [92])
   have HF:Hid (∀w',CutAns C B w line d (ps++[⟨0,(line.data.toList.drop k).take (k+1-k),[92]⟩]) ((k+1:Nat):Int) (.returned (.int .i64 ((k+1:Nat):Int))) w'→StepAns C B w line d ps R k (.returned (.int .i64 ((k+1:Nat):Int))) w'):=Lib.hid (fun w' ⟨_,h2,h3⟩=>by
    refine⟨k+1,_,rfl,by omega,by omega,by simp,h2,h3,?_⟩;rw[show k+1-k=1 by omega,take_one line k hk,at_data line k hk,h92,List.cons_append];refine cut_slash ?_;rw[at_data line (k+1) h1];simp only[List.cons_append,List.head?_cons,Option.map_some];intro e;exact of_decide_eq_false hc (Option.some.inj e))
   clear hc hd h;rw[show((k+1:Nat):Int)=(k:Int)+1 by omega]at HP HF;go_enter Tryz.func201,Tryz.ntmps201;go_wp2_with fail;refine(HE.out _).mono ?_;rintro e w' ⟨rfl,rfl⟩;go_wp2_with fail;refine HP.out.mono ?_;rintro e w2 ⟨rfl,hc2,hb2⟩;have HR:=Lib.hid (HF.out w2 ⟨rfl,hc2,hb2⟩);clear hc2 hb2;go_wp2_with fail;go_ret;exact HR.out
 ·have hi1:¬(k:Int)+1<(line.size:Int):=by omega
  have HP:=Lib.hid (put_any h (by omega) 0 k (k+1) (by omega) (by omega) hs [92])
  have HF:Hid (∀w',CutAns C B w line d (ps++[⟨0,(line.data.toList.drop k).take (k+1-k),[92]⟩]) ((k+1:Nat):Int) (.returned (.int .i64 ((k+1:Nat):Int))) w'→StepAns C B w line d ps R k (.returned (.int .i64 ((k+1:Nat):Int))) w'):=Lib.hid (fun w' ⟨_,h2,h3⟩=>by
   refine⟨k+1,_,rfl,by omega,by omega,by simp,h2,h3,?_⟩;have hd:=at_data line k hk;rw[drop_all line (k+1) (by omega),h92]at hd;obtain⟨u,lf,h4,h5,h6⟩:=hR
   have hlast:line.data.toList.getLast? = some 92:=by
    rw[last_data line (by omega)];congr 1;rw[←h92];congr 1;omega
   rcases h6 with rfl |⟨rfl,rfl⟩
   ·rw[h4]at hlast
    simp at hlast
   ·rw[show k+1-k=1 by omega,take_one line k hk,hd,drop_all line (k+1) (by omega),h92]
    exact cut_slash (t':=[]++[]) (by simp))
  clear h;rw[show((k+1:Nat):Int)=(k:Int)+1 by omega]at HP HF;go_enter Tryz.func201,Tryz.ntmps201;go_wp2_with fail;refine HP.out.mono ?_;rintro e w2 ⟨rfl,hc2,hb2⟩;have HR:=Lib.hid (HF.out w2 ⟨rfl,hc2,hb2⟩);clear hc2 hb2;go_wp2_with fail;go_ret;exact HR.out
theorem Rns_lf {u lf:List UInt8} (h:lf=[10]∨lf=[]) (q:Nat):Rns q (u++lf)=Rns q u:=by
 rw[Rns_app (v:=lf) (by rcases h with rfl |rfl<;>simp) u.length q u (Nat.le_refl _)]
 have:Rns (q+u.length) lf=[]:=by
  rcases h with rfl |rfl
  ·rw[Rns_cons];rfl
  ·rfl
 rw[this,List.append_nil]
theorem ticks_cut {l R:List UInt8} (hR:LineOk l R) {k:Nat} {r:List UInt8} (hd:l.drop k=96::r):
  (fstRun (ticks (l.drop k)) (Rns (k+ticks (l.drop k)) (l.drop (k+ticks (l.drop k))))=none→Cut1 (l.drop k++R) [⟨0,(l.drop k).take (ticks (l.drop k)),(l.drop k).take (ticks (l.drop k))⟩] (l.drop (k+ticks (l.drop k))++R))∧
  (∀p,fstRun (ticks (l.drop k)) (Rns (k+ticks (l.drop k)) (l.drop (k+ticks (l.drop k))))=some p→k+ticks (l.drop k)≤p∧p+ticks (l.drop k)≤l.length∧∃raw,Cut1 (l.drop k++R) [⟨1,strip ((l.drop (k+ticks (l.drop k))).take (p-(k+ticks (l.drop k)))),raw⟩] (l.drop (p+ticks (l.drop k))++R)):=by
 obtain⟨u,lf,rfl,h10,hlf⟩:=hR;have hlf':lf=[10]∨lf=[]:=by rcases hlf with h |h;exact Or.inl h;exact Or.inr h.1
 have hk:k<u.length:=by
  rcases Nat.lt_or_ge k u.length with h |h
  ·exact h
  ·exfalso
   rw[List.drop_append,List.drop_eq_nil_of_le h,List.nil_append]at hd;have:(96:UInt8)∈lf:=List.mem_of_mem_drop (i:=k-u.length) (by rw[hd];exact List.mem_cons_self ..);rcases hlf' with rfl |rfl
   ·simp at this
   ·simp at this
 have hhead:∀X:List UInt8,(lf++X).head?≠some 96∨(lf=[]∧X.head? = some 96):=fun X=>by
  rcases hlf' with rfl |rfl
  ·left;simp
  ·by_cases h:X.head? = some 96
   ·exact Or.inr ⟨rfl,h⟩
   ·left;simpa using h
 have hrest:(lf++R)=[]∨∃r',(lf++R)=10::r':=by
  rcases hlf with rfl |⟨rfl,rfl⟩
  ·exact Or.inr ⟨R,rfl⟩
  ·exact Or.inl rfl
 have hrest2:lf.head?≠some 96:=by rcases hlf' with rfl |rfl<;>simp
 have hrest3:(lf++R).head?≠some 96:=by rcases hrest with h |⟨r',h⟩<;>rw[h]<;>simp
 have e1:(u++lf).drop k=u.drop k++lf:=List.drop_append_of_le_length (by omega);have ht:ticks (u.drop k++lf)=ticks (u.drop k):=ticks_behind hrest2 _
 obtain⟨b,v,huv⟩:∃b v,u.drop k=b::v:=by
  cases hx:u.drop k with
  |nil=>rw[List.drop_eq_nil_iff]at hx;omega
  |cons b v=>exact⟨b,v,rfl⟩
 have hb:b=96:=by rw[e1,huv]at hd;simpa using (List.cons.inj hd).1
 subst hb;have hn0:0<ticks (u.drop k):=by rw[huv];exact ticks_pos rfl
 have hle:ticks (u.drop k)≤u.length-k:=by have:=ticks_le (u.drop k);rwa[List.length_drop]at this
 rw[e1,ht];have e2:(u++lf).drop (k+ticks (u.drop k))=u.drop (k+ticks (u.drop k))++lf:=List.drop_append_of_le_length (by omega);rw[e2,Rns_lf hlf']
 have hcode:=code_run (n:=ticks (u.drop k)) hn0 hrest (u.drop (k+ticks (u.drop k))).length (k+ticks (u.drop k)) (u.drop (k+ticks (u.drop k))) (96::(v++(lf++R))).length [] (Nat.le_refl _) (by
  have:=congrArg List.length huv;simp only[List.length_drop,List.length_cons,List.length_append]at this ⊢;omega) (fun h=>h10 (List.mem_of_mem_drop h))
 have ht2:ticks (96::(v++(lf++R)))=ticks (u.drop k):=by
  rw[show 96::(v++(lf++R))=u.drop k++(lf++R)by rw[huv];rfl];exact ticks_behind hrest3 _
 have hdrop2:(96::(v++(lf++R))).drop (ticks (u.drop k))=u.drop (k+ticks (u.drop k))++(lf++R):=by
  rw[show 96::(v++(lf++R))=u.drop k++(lf++R)by rw[huv];rfl,List.drop_append_of_le_length (by rw[List.length_drop];exact hle),List.drop_drop]
 have hwhole:u.drop k++lf++R=96::(v++(lf++R)):=by rw[huv];simp
 refine⟨fun hno=>?_,fun p hp=>?_⟩
 ·rw[hno]at hcode
  rw[hwhole,List.append_assoc];have hc:=cut_ticks (r:=v++(lf++R)) (by rw[ht2,hdrop2];exact hcode);rw[ht2,hdrop2]at hc
  have htake:(u.drop k++lf).take (ticks (u.drop k))=List.replicate (ticks (u.drop k)) 96:=by
   rw[List.take_append_of_le_length (by rw[List.length_drop];exact hle),ticks_take]
  rw[htake];exact hc
 ·rw[hp]at hcode
  have hpm:k+ticks (u.drop k)≤p∧p+ticks (u.drop k)≤u.length:=by
   unfold fstRun at hp;obtain⟨x,hx,rfl⟩:=Option.map_eq_some_iff.1 hp;have h1:=Rns_mem _ _ _ (Nat.le_refl _) x (List.mem_of_find?_eq_some hx);have h2:x.1=ticks (u.drop k):=by simpa using List.find?_some hx
   rw[List.length_drop]at h1;omega
  refine⟨hpm.1,by rw[List.length_append];omega,?_⟩;rw[hwhole];simp only[Option.map_some,List.nil_append]at hcode;obtain⟨raw,hc⟩:=cut_code (r:=v++(lf++R)) (by rw[ht2,hdrop2];exact hcode);refine⟨raw,?_⟩;rw[List.take_append_of_le_length (by rw[List.length_drop];omega),List.drop_append_of_le_length (by omega),List.append_assoc];rw[List.drop_drop,show k+ticks (u.drop k)+(p-(k+ticks (u.drop k))+ticks (u.drop k))=p+ticks (u.drop k)by omega]at hc;exact hc
end Sp
namespace Sp
open Go.RowKit Go.Sort
open Tk (at_data len_data)
open Cm (cell_at alloc_at alloc_new frozen_at)
theorem bel_n {w0 w:World} (h:Below w0.heap.size w0 w) (n:Nat):Below w0.heap.size w0 (w.drewN n):=below_drewN h n
theorem drewN_new (w:World) (o:Obj) (n:Nat):((w.drewN n).alloc o).heap[w.heap.size]? = some o:=alloc_new (w.drewN n) o
theorem endAns_none:endAns none=-1:=rfl
theorem endAns_some (p:Nat):endAns (some p)=(p:Int):=rfl
set_option maxHeartbeats 6400000 in
set_option maxRecDepth 100000 in
theorem ticksC_any {C B:Nat} {w:World} {line:ByteArray} {d:List (Nat × Nat)} {ps:List Pc} (h:Cst C B w line d ps) (hd1:d.Perm (Rns 0 line.data.toList)) (hd2:Rises d) (R:List UInt8) (hR:LineOk line.data.toList R) (k:Nat) (hk:k < line.size) (hl:ps.length+(line.size - k)≤1000000) (hs:line.size≤1000000) (h96:line[k]=96) :
   Calls Tryz.prog 202 #[.pointer (some ⟨C,0,none⟩),.int .i64 k] w (StepAns C B w line d ps R k):=by
 have hdl:d.length≤1000000:=by
   have:=hd1.length_eq;have h2:=Rns_len _ 0 line.data.toList (Nat.le_refl _);rw [len_data] at h2;omega
 have hat:=at_data line k hk;rw [h96] at hat;have hcut:=ticks_cut hR hat;have hn0:0 < ticks (line.data.toList.drop k):=by rw [hat];exact ticks_pos rfl
 have hnl:k+ticks (line.data.toList.drop k)≤line.size:=by
   have:=ticks_le (line.data.toList.drop k);rw [List.length_drop,len_data] at this;omega
 have hTa:ticksAt line.data.toList (k:Int)=ticks (line.data.toList.drop k):=by unfold ticksAt;rw [if_neg (by omega)];simp
 have HT:=Lib.hid (fun w=>ticksP_any line (k:Int) (by omega) (by omega) (by omega) w);rw [hTa] at HT
 have hv:(line.data.toList.drop (k+ticks (line.data.toList.drop k))).head?≠some 96:=by
   have:=ticks_drop (line.data.toList.drop k);rwa [List.drop_drop] at this
 have hu:(line.data.toList.take (k+ticks (line.data.toList.drop k))).length=k+ticks (line.data.toList.drop k):=by rw [List.length_take,len_data];omega
 have hh:=h;obtain ⟨c1,c2,rv,ov,c3,c4,c5⟩:=hh;have hcl:=closer_any rv d (line.data.toList.take (k+ticks (line.data.toList.drop k))) (line.data.toList.drop (k+ticks (line.data.toList.drop k))) (ticks (line.data.toList.drop k)) w c4.1 hd2 hdl (by rw [List.take_append_drop];exact hd1) hv hn0;rw [hu] at hcl;have HC:=Lib.hid hcl;have q0:w.cell? ⟨C,0,none⟩=some (.string line):=cell_at c3 0;have q1:w.cell? ⟨C,1,none⟩=some rv:=cell_at c3 1;obtain ⟨aor,car,hrv⟩:=c4.1.len;clear hcl hv hu hTa hat hd1 hd2 hdl c3 c4 c5;generalize hN:ticks (line.data.toList.drop k)=n at *;rw [show ((k+n:Nat):Int)=(k:Int)+(n:Int) by omega] at HC;cases hF:fstRun n (Rns (k+n) (line.data.toList.drop (k+n))) with
 | none =>
   rw [hF,endAns_none] at HC;have HK:Hid (Cut1 (line.data.toList.drop k++R) [⟨0,(line.data.toList.drop k).take n,(line.data.toList.drop k).take n⟩] (line.data.toList.drop (k+n)++R)):=Lib.hid (hcut.1 hF);have HP:=Lib.hid (fun w2 (hb:Below w.heap.size w w2)=>put_any (h.go hb) (by omega) 0 k (k+n) (by omega) hnl hs ((line.data.toList.drop k).take n))
   have HF2:Hid (∀ w2 w',Below w.heap.size w w2→CutAns C B w2 line d (ps++[⟨0,(line.data.toList.drop k).take (k+n - k),(line.data.toList.drop k).take n⟩]) ((k+n:Nat):Int) (.returned (.int .i64 ((k+n:Nat):Int))) w'→StepAns C B w line d ps R k (.returned (.int .i64 ((k+n:Nat):Int))) w'):=Lib.hid (fun w2 w' hb ⟨_,h2,h3⟩=>by
     rw [show k+n - k=n by omega] at h2;exact ⟨k+n,_,rfl,by omega,hnl,by simp;omega,h2,(bds_below hb (by omega)).trans h3,HK.out⟩)
   rw [show ((k+n:Nat):Int)=(k:Int)+(n:Int) by omega] at HP HF2;clear HK hcut hF h;subst hrv;go_enter Tryz.func202,Tryz.ntmps202;go_wp2_with fail;refine (HT.out _).mono ?_;rintro e w' ⟨rfl,rfl⟩;go_wp2_with fail;refine HC.out.mono ?_;rintro e w2 ⟨rfl,hb⟩;have HB:=Lib.hid hb;have HP2:=Lib.hid (HP.out w2 hb);clear hb;go_wp2_with fail;refine HP2.out.mono ?_;rintro e w3 ⟨rfl,hc2,hb2⟩;have HR:=Lib.hid (HF2.out w2 w3 HB.out ⟨rfl,hc2,hb2⟩);clear hc2 hb2;go_wp2_with fail;go_ret;exact HR.out
 | some p =>
   rw [hF,endAns_some] at HC;obtain ⟨hp1,hp2,raw,hK⟩:=hcut.2 p hF;rw [len_data] at hp2;have HK:=Lib.hid hK;have HS:Hid (strip (line.extract (k+n) p).data.toList=strip ((line.data.toList.drop (k+n)).take (p - (k+n)))):=Lib.hid (by rw [ext_list]);have HI:=Lib.hid (fun w=>inner_any (line.extract (k+n) p) (by simp;omega) w);have hsl:=sliceS line (k+n) p hp1 (by omega);rw [HS.out] at HI;rw [show ((k+n:Nat):Int)=(k:Int)+(n:Int) by omega] at hsl;have HG:=Lib.hid (fun w2 (hb:Below w.heap.size w w2)=>h.go hb)
   have HF2:Hid (∀ w2 w',Below w.heap.size w w2→Cst C B w' line d (ps++[⟨1,strip ((line.data.toList.drop (k+n)).take (p - (k+n))),raw⟩])→BdS kC C w2 w'→StepAns C B w line d ps R k (.returned (.int .i64 ((p:Int)+(n:Int)))) w'):=Lib.hid (fun w2 w' hb h2 h3=>by
     refine ⟨p+n,_,by rw [show ((p+n:Nat):Int)=(p:Int)+(n:Int) by omega],by omega,hp2,by simp;omega,h2,(bds_below hb (by omega)).trans h3,HK.out⟩)
   generalize strip ((line.data.toList.drop (k+n)).take (p - (k+n)))=sl at *;have hple:ps.length+1≤1000000:=by omega
   have hpz:¬ (p:Int) < 0:=by omega
   clear hK HK HS hcut hF h;subst hrv;go_enter Tryz.func202,Tryz.ntmps202;go_wp2_with fail;refine (HT.out _).mono ?_;rintro e w' ⟨rfl,rfl⟩;go_wp2_with fail;refine HC.out.mono ?_;rintro e w2 ⟨rfl,hb⟩;obtain ⟨c1',c2',rv',ov',c3',c4',c5'⟩:=HG.out w2 hb;have HP:=Lib.hid (fun w3 c (hb:Below w2.heap.size w2 w3) hc=>Cst.push (p:=⟨1,sl,raw⟩) c1' c2' c3' c4' c5' (w2:=w3) (c:=c) hb hc hple);have HFs:=Lib.hid (fun w' v' (h:Put C B w2 w' line rv' ov' v' d (ps++[⟨1,sl,raw⟩]))=>h.stored c1' c2');have r0:w2.cell? ⟨C,0,none⟩=some (.string line):=cell_at c3' 0;have r2:w2.cell? ⟨C,2,none⟩=some ov':=cell_at c3' 2;have r0a:∀ o,(w2.alloc o).cell? ⟨C,0,none⟩=some (.string line):=fun o=>cell_at (alloc_at c3' o) 0
   have r2a:∀ o,(w2.alloc o).cell? ⟨C,2,none⟩=some ov':=fun o=>cell_at (alloc_at c3' o) 2
   have r0b:∀ m o,((w2.drewN m).alloc o).cell? ⟨C,0,none⟩=some (.string line):=fun m o=>cell_at (alloc_at (w:=w2.drewN m) c3' o) 0
   have r2b:∀ m o,((w2.drewN m).alloc o).cell? ⟨C,2,none⟩=some ov':=fun m o=>cell_at (alloc_at (w:=w2.drewN m) c3' o) 2
   have HB:=Lib.hid hb;clear hb c3' c4' c5' HC HG HT q0 q1;simp only at HP;go_upto_region 5 with fail;have hwr:IntKind.i64.wrap ((k:Int)+(n:Int))=(k:Int)+(n:Int):=by rw [IntKind.wrap_i64];omega
   have hwt:((k:Int)+(n:Int)).toNat=k+n:=by omega
   have hle3:(k:Int)+(n:Int)≤(p:Int):=by omega
   have hle4:0≤(k:Int)+(n:Int):=by omega
   have hle5:p≤line.size:=by omega
   go_region_law (first
     | (go_simp
        go_at_call 217;refine (HI.out _).mono ?_;rintro e w' ⟨rfl,nn,rfl⟩)
     | (refine step_run_ex rfl (.tmp 35) (.tmp 47) _ _ rfl _ _ rfl rfl (HP.out _ _ (by repeat (first | exact Below.refl _ _ | apply bel_d | apply bel_a | apply bel_n)) (by first | exact alloc_new _ _ | exact drew_new _ _ | exact drewN_new _ _ _)) ?_
        intro v7 w7 H7;obtain ⟨ao7,n7,ca7,hv7⟩:=own_slice H7.1;subst hv7;have H7':=Lib.hid H7;have d2:w7.cell? ⟨C,2,none⟩=some ov':=cell_at H7.2.1 2;have d2f:w7.frozen? ⟨C,2,none⟩=false:=frozen_at H7.2.1 2;clear H7))
   all_goals (
     have HFF:=Lib.hid (HFs.out _ _ H7'.out);have HR:=Lib.hid (HF2.out w2 _ HB.out HFF.out.1 HFF.out.2);go_simp;go_wp2_with fail;go_ret;exact HR.out)
end Sp
namespace Sp
open Go.RowKit Go.Sort
open Tk (eq8 ne8 at_data len_data)
open Cm (cell_at)
theorem dest_lf {u lf R:List UInt8} (h:lf=[10]∨(lf=[]∧R=[])):dest (u++lf++R)=(dest (u++lf)).map (fun x=>(x.1,x.2++R)):=by
 rcases h with rfl |⟨rfl,rfl⟩
 ·have key:∀(v tw:List UInt8),destOn tw (v++[10]++R)=(destOn tw (v++[10])).map (fun x=>(x.1,x.2++R)):=by
   intro v;induction v with
   |nil=>
    intro tw;rw[List.nil_append,List.singleton_append,destOn_no tw 10 R (by decide),destOn_no tw 10 [] (by decide)];rfl
   |cons c v ih=>
    intro tw;rw[List.cons_append,List.cons_append];cases hc:dcB c with
    |true=>rw[destOn_yes _ _ _ hc,destOn_yes _ _ _ hc];exact ih _
    |false=>
     rw[destOn_no _ _ _ hc,destOn_no _ _ _ hc];by_cases h41:c=41
     ·rw[if_pos h41,if_pos h41]
      by_cases ht:tw=[]
      ·rw[if_pos ht,if_pos ht];rfl
      ·rw[if_neg ht,if_neg ht];rfl
     ·rw[if_neg h41,if_neg h41];rfl
  cases u with
  |nil=>rw[List.nil_append,List.singleton_append,dest_not (by simp),dest_not (by simp)];rfl
  |cons c v=>
   by_cases h40:c=40
   ·subst h40
    rw[List.cons_append,List.cons_append,dest_on,dest_on];exact key v []
   ·rw[List.cons_append,List.cons_append,dest_not (by simpa using h40),dest_not (by simpa using h40)];rfl
 ·rw[List.append_nil,List.append_nil]
  cases dest u with
  |none=>rfl
  |some x=>simp
theorem LineOk.dest {l R r:List UInt8} (h:LineOk l R) {j:Nat} (hj:l.drop j=93::r):dest (l.drop (j+1)++R)=(Sp.dest (l.drop (j+1))).map (fun x=>(x.1,x.2++R)):=by
 obtain⟨u,lf,rfl,h10,hlf⟩:=h
 have hk:j<u.length:=by
  rcases Nat.lt_or_ge j u.length with h |h
  ·exact h
  ·exfalso
   rw[List.drop_append,List.drop_eq_nil_of_le h,List.nil_append]at hj;have:(93:UInt8)∈lf:=List.mem_of_mem_drop (i:=j-u.length) (by rw[hj];exact List.mem_cons_self ..);rcases hlf with rfl |⟨rfl,_⟩
   ·simp at this
   ·simp at this
 rw[List.drop_append_of_le_length (by omega)];exact dest_lf hlf
set_option maxHeartbeats 6400000 in
set_option maxRecDepth 100000 in
theorem bracket_any {C B:Nat} {w:World} {line:ByteArray} {d:List (Nat × Nat)} {ps:List Pc} (h:Cst C B w line d ps) (R:List UInt8) (hR:LineOk line.data.toList R) (k:Nat) (hk:k<line.size) (hl:ps.length+(line.size-k)≤1000000) (hs:line.size≤1000000) (h93:line[k]=93):
  Calls Tryz.prog 204 #[.pointer (some ⟨C,0,none⟩),.int .i64 k] w (StepAns C B w line d ps R k):=by
 have hat:=at_data line k hk;rw[h93]at hat;have hdR:=hR.dest hat;have HP:=Lib.hid (put_any h (by omega) 4 k (k+1) (by omega) (by omega) hs [93]);have e0:(line.data.toList.drop k).take (k+1-k)=[93]:=by rw[show k+1-k=1 by omega,take_one line k hk,h93]
 rw[e0]at HP;have HT:=Lib.hid (fun w=>tailLength_any (line.extract (k+1) line.size) (by simp;omega) w);rw[ext_from]at HT;have hsl:=fun w=>slice_fromS line (k+1) (by omega) (by omega) w
 rw[show((k+1:Nat):Int)=(k:Int)+1 by omega]at hsl HP;cases hD:dest (line.data.toList.drop (k+1))with
 |none=>
  have hTl:tlAns (line.data.toList.drop (k+1))=0:=by unfold tlAns;rw[hD]
  rw[hTl]at HT;rw[hD]at hdR;have HK:Hid (Cut1 (line.data.toList.drop k++R) [⟨4,[93],[93]⟩] (line.data.toList.drop (k+1)++R)):=Lib.hid (by rw[hat,List.cons_append];exact cut_shut hdR)
  have HF:Hid (∀w2 w3,Cst C B w2 line d (ps++[⟨4,[93],[93]⟩])→BdS kC C w w2→Below w2.heap.size w2 w3→StepAns C B w line d ps R k (.returned (.int .i64 ((k:Int)+1))) w3):=Lib.hid (fun w2 w3 h2 h3 hb=>by
   exact⟨k+1,_,by rw[show((k+1:Nat):Int)=(k:Int)+1 by omega],by omega,by omega,by simp,h2.go hb,h3.trans (bds_below hb (by have:=h2.1;have:=h2.2.1;omega)),HK.out⟩)
  clear HK hdR hat e0 hTl hD h h93;go_enter Tryz.func204,Tryz.ntmps204;go_wp2_with fail;refine HP.out.mono ?_;rintro e w2 ⟨rfl,hc2,hb2⟩;have H2:=Lib.hid hc2;have HB2:=Lib.hid hb2;obtain⟨_,_,rv,ov,c3,_⟩:=hc2;have q0:w2.cell? ⟨C,0,none⟩=some (.string line):=cell_at c3 0;clear c3 hb2;go_wp2_with fail;refine(HT.out _).mono ?_;rintro e w3 ⟨rfl,hb3⟩;have HR:=Lib.hid (HF.out w2 w3 H2.out HB2.out hb3);clear hb3 q0;go_wp2_with fail;go_ret;exact HR.out
 |some x=>
  obtain⟨xs,rest'⟩:=x;obtain⟨hx1,hx2,hx3⟩:=dest_some hD;have hTl:tlAns (line.data.toList.drop (k+1))=((xs.length+2:Nat):Int):=by unfold tlAns;rw[hD];simp
  rw[hTl]at HT;rw[hD]at hdR;have hlen:=congrArg List.length hx3;simp only[List.length_drop,List.length_cons,List.length_append,len_data]at hlen
  have htk:(line.data.toList.drop (k+1)).take (k+1+(xs.length+2)-(k+1))=40::(xs++[41]):=by
   rw[show k+1+(xs.length+2)-(k+1)=xs.length+2 by omega,hx3,List.take_succ_cons,show xs.length+1=(xs++[41]).length by simp,show xs++41::rest'=(xs++[41])++rest' by simp,List.take_left]
  have hdr:line.data.toList.drop (k+1+(xs.length+2))=rest':=by
   rw[←List.drop_drop,hx3,List.drop_succ_cons,show xs.length+1=(xs++[41]).length by simp,show xs++41::rest'=(xs++[41])++rest' by simp,List.drop_left]
  have HK:Hid (Cut1 (line.data.toList.drop k++R) [⟨4,[93],[93]⟩,⟨5,40::(xs++[41]),40::(xs++[41])⟩] (line.data.toList.drop (k+1+(xs.length+2))++R)):=Lib.hid (by
   rw[hat,List.cons_append,hdr];exact cut_tail hdR)
  have HP2:Hid (∀w2 w3,Cst C B w2 line d (ps++[⟨4,[93],[93]⟩])→Below w2.heap.size w2 w3→Calls Tryz.prog 203 #[.pointer (some ⟨C,0,none⟩),.int .i64 5,.int .i64 ((k:Int)+1),.int .i64 ((k:Int)+1+((xs.length+2:Nat):Int))] w3 (CutAns C B w3 line d (ps++[⟨4,[93],[93]⟩]++[⟨5,40::(xs++[41]),40::(xs++[41])⟩]) ((k:Int)+1+((xs.length+2:Nat):Int)))):=Lib.hid (fun w2 w3 h2 hb=>by
   have:=put_any (h2.go hb) (by simp;omega) 5 (k+1) (k+1+(xs.length+2)) (by omega) (by omega) hs (40::(xs++[41]));rw[htk]at this;rw[show((k+1+(xs.length+2):Nat):Int)=(k:Int)+1+((xs.length+2:Nat):Int)by omega,show((k+1:Nat):Int)=(k:Int)+1 by omega]at this;exact this)
  have HF:Hid (∀w2 w3 w4,Cst C B w2 line d (ps++[⟨4,[93],[93]⟩])→BdS kC C w w2→Below w2.heap.size w2 w3→Cst C B w4 line d (ps++[⟨4,[93],[93]⟩]++[⟨5,40::(xs++[41]),40::(xs++[41])⟩])→BdS kC C w3 w4→StepAns C B w line d ps R k (.returned (.int .i64 ((k:Int)+1+((xs.length+2:Nat):Int)))) w4):=Lib.hid (fun w2 w3 w4 h2 h3 hb h4 h5=>by
   refine⟨k+1+(xs.length+2),_,by rw[show((k+1+(xs.length+2):Nat):Int)=(k:Int)+1+((xs.length+2:Nat):Int)by omega],by omega,by omega,?_,?_,h3.trans ((bds_below hb (by have:=h2.1;have:=h2.2.1;omega)).trans h5),HK.out⟩
   ·simp;omega
   ·rw[List.append_assoc]at h4;exact h4)
  have hgt:(0:Int)<((xs.length+2:Nat):Int):=by omega
  have hmx:k+1+(xs.length+2)≤1000000:=by omega
  clear HK hdR hat e0 hTl hD h h93 htk hdr hx1 hx2 hx3;generalize xs.length+2=m at *;go_enter Tryz.func204,Tryz.ntmps204;go_wp2_with fail;refine HP.out.mono ?_;rintro e w2 ⟨rfl,hc2,hb2⟩;have H2:=Lib.hid hc2;have HB2:=Lib.hid hb2;obtain⟨_,_,rv,ov,c3,_⟩:=hc2;have q0:w2.cell? ⟨C,0,none⟩=some (.string line):=cell_at c3 0;clear c3 hb2;go_wp2_with fail;refine(HT.out _).mono ?_;rintro e w3 ⟨rfl,hb3⟩;have HB3:=Lib.hid hb3;have HP3:=Lib.hid (HP2.out w2 w3 H2.out hb3);clear hb3 q0 HP2;go_wp2_with fail;refine HP3.out.mono ?_;rintro e w4 ⟨rfl,h4,h5⟩;have HR:=Lib.hid (HF.out w2 w3 w4 H2.out HB2.out HB3.out h4 h5);clear h4 h5;go_wp2_with fail;go_ret;exact HR.out
theorem idxAny_spec:∀l:List UInt8,(Lib.indexAny l spL=-1∧∀c∈l,spcB c=false)∨∃k,k<l.length∧Lib.indexAny l spL=(k:Int)∧∀c∈l.take k,spcB c=false
 |[]=>Or.inl ⟨rfl,fun c hc=>by cases hc⟩
 |b::r=>by
  have hsp:spL.contains b=spcB b:=by
   unfold spcB spL;rw[Bool.eq_iff_iff];simp;constructor
   ·rintro(h |h |h |h |h)<;>simp[h]
   ·rintro((((h |h)|h)|h)|h)<;>simp[h]
  rw[Lib.indexAny,hsp];cases hb:spcB b with
  |true=>exact Or.inr ⟨0,by simp,rfl,fun c hc=>by simp at hc⟩
  |false=>
   rw[if_neg (by simp)];rcases idxAny_spec r with ⟨h1,h2⟩|⟨k,h1,h2,h3⟩
   ·rw[h1,if_pos (by rfl)]
    exact Or.inl ⟨rfl,fun c hc=>by rcases List.mem_cons.1 hc with rfl |hc;exact hb;exact h2 c hc⟩
   ·rw[h2,if_neg (by rw[beq_iff_eq];omega)]
    refine Or.inr ⟨k+1,by simp;omega,by omega,fun c hc=>?_⟩;rw[List.take_succ_cons]at hc;rcases List.mem_cons.1 hc with rfl |hc
    ·exact hb
    ·exact h3 c hc
set_option maxHeartbeats 6400000 in
set_option maxRecDepth 100000 in
theorem next_any {C B:Nat} {w:World} {line:ByteArray} {d:List (Nat × Nat)} {ps:List Pc} (h:Cst C B w line d ps) (hd1:d.Perm (Rns 0 line.data.toList)) (hd2:Rises d) (R:List UInt8) (hR:LineOk line.data.toList R) (k:Nat) (hk:k<line.size) (hl:ps.length+(line.size-k)≤1000000) (hs:line.size≤1000000):
  Calls Tryz.prog 172 #[.pointer (some ⟨C,0,none⟩),.int .i64 k] w (StepAns C B w line d ps R k):=by
 have hh:=h;obtain⟨c1,c2,rv,ov,c3,c4,c5⟩:=hh;have q0:w.cell? ⟨C,0,none⟩=some (.string line):=cell_at c3 0;clear c3 c4 c5;have hi1:(k:Int)<(line.size:Int):=by omega
 have hat:=at_data line k hk;by_cases h92:line[k]=92
 ·have HC:=Lib.hid (escape_any h R hR k hk hl hs h92)
  have e1:((line[k].toNat:Int)==92)=true:=eq8 (b:=92) h92;clear h hd1 hd2 hR hat h92;go_enter Tryz.func172,Tryz.ntmps172;go_wp2_with fail;refine HC.out.mono ?_;rintro e w2 ⟨k',ps',rfl,hh⟩;have HR:Hid (StepAns C B w line d ps R k (.returned (.int .i64 (k':Int))) w2):=Lib.hid ⟨k',ps',rfl,hh⟩;clear hh;go_wp2_with fail;go_ret;exact HR.out
 have n92:((line[k].toNat:Int)==92)=false:=ne8 (b:=92) h92;by_cases h96:line[k]=96
 ·have HC:=Lib.hid (ticksC_any h hd1 hd2 R hR k hk hl hs h96)
  have e1:((line[k].toNat:Int)==96)=true:=eq8 (b:=96) h96;clear h hd1 hd2 hR hat h92 h96;go_enter Tryz.func172,Tryz.ntmps172;go_wp2_with fail;refine HC.out.mono ?_;rintro e w2 ⟨k',ps',rfl,hh⟩;have HR:Hid (StepAns C B w line d ps R k (.returned (.int .i64 (k':Int))) w2):=Lib.hid ⟨k',ps',rfl,hh⟩;clear hh;go_wp2_with fail;go_ret;exact HR.out
 have n96:((line[k].toNat:Int)==96)=false:=ne8 (b:=96) h96;by_cases h42:line[k]=42
 ·have HP:=Lib.hid (put_any h (by omega) 2 k (k+1) (by omega) (by omega) hs [42])
  have HF:Hid (∀w',CutAns C B w line d (ps++[⟨2,(line.data.toList.drop k).take (k+1-k),[42]⟩]) ((k+1:Nat):Int) (.returned (.int .i64 ((k+1:Nat):Int))) w'→StepAns C B w line d ps R k (.returned (.int .i64 ((k+1:Nat):Int))) w'):=Lib.hid (fun w' ⟨_,h2,h3⟩=>by
   refine⟨k+1,_,rfl,by omega,by omega,by simp,h2,h3,?_⟩;rw[show k+1-k=1 by omega,take_one line k hk,hat,h42,List.cons_append];exact cut_star _)
  have e1:((line[k].toNat:Int)==42)=true:=eq8 (b:=42) h42;rw[show((k+1:Nat):Int)=(k:Int)+1 by omega]at HP HF;clear h hd1 hd2 hR hat h92 h96 h42;go_enter Tryz.func172,Tryz.ntmps172;go_wp2_with fail;refine HP.out.mono ?_;rintro e w2 ⟨rfl,hc2,hb2⟩;have HR:=Lib.hid (HF.out w2 ⟨rfl,hc2,hb2⟩);clear hc2 hb2;go_wp2_with fail;go_ret;exact HR.out
 have n42:((line[k].toNat:Int)==42)=false:=ne8 (b:=42) h42;by_cases h91:line[k]=91
 ·have HP:=Lib.hid (put_any h (by omega) 3 k (k+1) (by omega) (by omega) hs [91])
  have HF:Hid (∀w',CutAns C B w line d (ps++[⟨3,(line.data.toList.drop k).take (k+1-k),[91]⟩]) ((k+1:Nat):Int) (.returned (.int .i64 ((k+1:Nat):Int))) w'→StepAns C B w line d ps R k (.returned (.int .i64 ((k+1:Nat):Int))) w'):=Lib.hid (fun w' ⟨_,h2,h3⟩=>by
   refine⟨k+1,_,rfl,by omega,by omega,by simp,h2,h3,?_⟩;rw[show k+1-k=1 by omega,take_one line k hk,hat,h91,List.cons_append];exact cut_open _)
  have e1:((line[k].toNat:Int)==91)=true:=eq8 (b:=91) h91;rw[show((k+1:Nat):Int)=(k:Int)+1 by omega]at HP HF;clear h hd1 hd2 hR hat h92 h96 h42 h91;go_enter Tryz.func172,Tryz.ntmps172;go_wp2_with fail;refine HP.out.mono ?_;rintro e w2 ⟨rfl,hc2,hb2⟩;have HR:=Lib.hid (HF.out w2 ⟨rfl,hc2,hb2⟩);clear hc2 hb2;go_wp2_with fail;go_ret;exact HR.out
 have n91:((line[k].toNat:Int)==91)=false:=ne8 (b:=91) h91;by_cases h93:line[k]=93
 ·have HC:=Lib.hid (bracket_any h R hR k hk hl hs h93)
  have e1:((line[k].toNat:Int)==93)=true:=eq8 (b:=93) h93;clear h hd1 hd2 hR hat h92 h96 h42 h91 h93;go_enter Tryz.func172,Tryz.ntmps172;go_wp2_with fail;refine HC.out.mono ?_;rintro e w2 ⟨k',ps',rfl,hh⟩;have HR:Hid (StepAns C B w line d ps R k (.returned (.int .i64 (k':Int))) w2):=Lib.hid ⟨k',ps',rfl,hh⟩;clear hh;go_wp2_with fail;go_ret;exact HR.out
 have n93:((line[k].toNat:Int)==93)=false:=ne8 (b:=93) h93;have hsp:spcB line[k]=false:=by unfold spcB;simp[h92,h96,h42,h91,h93]
 have hsl:=fun w=>slice_fromS line k (by omega) (by omega) w
 have HI:=Lib.hid (fun w=>indexAnyS_any (line.extract k line.size) (by simp;omega) w);rw[ext_from]at HI;have hIdx:=idxAny_spec (line.data.toList.drop k);have HP:Hid (∀m w2,k<m→m≤line.size→Below w.heap.size w w2→Calls Tryz.prog 203 #[.pointer (some ⟨C,0,none⟩),.int .i64 0,.int .i64 k,.int .i64 (m:Nat)] w2 (CutAns C B w2 line d (ps++[⟨0,(line.data.toList.drop k).take (m-k),(line.data.toList.drop k).take (m-k)⟩]) m)):=Lib.hid (fun m w2 h1 h2 hb=>put_any (h.go hb) (by omega) 0 k m (by omega) h2 hs ((line.data.toList.drop k).take (m-k)))
 have HF:Hid (∀m w2 w',k<m→m≤line.size→(∀c∈(line.data.toList.drop k).take (m-k),spcB c=false)→Below w.heap.size w w2→Cst C B w' line d (ps++[⟨0,(line.data.toList.drop k).take (m-k),(line.data.toList.drop k).take (m-k)⟩])→BdS kC C w2 w'→StepAns C B w line d ps R k (.returned (.int .i64 (m:Nat))) w'):=Lib.hid (fun m w2 w' h1 h2 hc hb h4 h5=>by
  refine⟨m,_,rfl,h1,h2,by simp;omega,h4,(bds_below hb (by omega)).trans h5,?_⟩
  have hsplit:line.data.toList.drop k++R=(line.data.toList.drop k).take (m-k)++(line.data.toList.drop m++R):=by
   rw[←List.append_assoc];congr 1;rw[show m=k+(m-k)by omega,←List.drop_drop,show k+(m-k)-k=m-k by omega,List.take_append_drop]
  rw[hsplit];refine cut_plain (fun e=>?_) hc;have:=congrArg List.length e;rw[List.length_take,List.length_drop,len_data]at this;simp at this;omega)
 have hdl:(line.data.toList.drop k).length=line.size-k:=by rw[List.length_drop,len_data]
 have q0b:∀w2,Below w.heap.size w w2→w2.cell? ⟨C,0,none⟩=some (.string line):=fun w2 hb=>(hb.cell (p:=⟨C,0,none⟩) (by show C<_;omega)).trans q0
 have Q0:=Lib.hid q0b;rcases hIdx with ⟨i1,i2⟩|⟨j,i0,i1,i2⟩
 ·rw[i1]at HI
  have HP2:=Lib.hid (fun w2 hb=>HP.out line.size w2 hk (Nat.le_refl _) hb);have HF2:Hid (∀w2 w',Below w.heap.size w w2→Cst C B w' line d (ps++[⟨0,(line.data.toList.drop k).take (line.size-k),(line.data.toList.drop k).take (line.size-k)⟩])→BdS kC C w2 w'→StepAns C B w line d ps R k (.returned (.int .i64 ((line.size:Nat):Int))) w'):=Lib.hid (fun w2 w' hb h4 h5=>HF.out line.size w2 w' hk (Nat.le_refl _) (fun c hc=>i2 c (List.mem_of_mem_take hc)) hb h4 h5);have hsum:(k:Int)+((line.size:Int)-(k:Int))=(line.size:Int):=by omega
  clear h hd1 hd2 hR hat h92 h96 h42 h91 h93 hsp i1 i2 hdl q0b HP HF;generalize (line.data.toList.drop k).take (line.size-k)=sl at *;go_enter Tryz.func172,Tryz.ntmps172;go_wp2_with fail;refine(HI.out _).mono ?_;rintro e w2 ⟨rfl,hb⟩;have q0':=Q0.out w2 hb;have HB:=Lib.hid hb;have HP3:=Lib.hid (HP2.out w2 hb);clear hb HP2 HI;go_wp2_with fail;refine HP3.out.mono ?_;rintro e w3 ⟨rfl,h4,h5⟩;have HR:=Lib.hid (HF2.out w2 w3 HB.out h4 h5);clear h4 h5;go_wp2_with fail;go_ret;exact HR.out
 ·have hj0:0<j:=by
   rcases Nat.eq_zero_or_pos j with hj |hj
   ·exfalso
    subst hj;rw[hat,Lib.indexAny]at i1
    have hcs:spL.contains line[k]=false:=by
     unfold spL;simp[h92,h96,h42,h91,h93]
    rw[hcs,if_neg (by simp)]at i1;have:=Lib.indexAny_ge spL (line.data.toList.drop (k+1));split at i1
    ·omega
    ·rename_i hne
     have:Lib.indexAny (line.data.toList.drop (k+1)) spL=-1:=by omega
     rw[this]at hne;exact hne rfl
   ·exact hj
  rw[i1]at HI;have HP2:=Lib.hid (fun w2 hb=>HP.out (k+j) w2 (by omega) (by omega) hb);have HF2:Hid (∀w2 w',Below w.heap.size w w2→Cst C B w' line d (ps++[⟨0,(line.data.toList.drop k).take (k+j-k),(line.data.toList.drop k).take (k+j-k)⟩])→BdS kC C w2 w'→StepAns C B w line d ps R k (.returned (.int .i64 ((k+j:Nat):Int))) w'):=Lib.hid (fun w2 w' hb h4 h5=>HF.out (k+j) w2 w' (by omega) (by omega) (fun c hc=>i2 c (by rwa[show k+j-k=j by omega]at hc)) hb h4 h5);rw[show((k+j:Nat):Int)=(k:Int)+(j:Int)by omega]at HP2 HF2;have hjz:¬(j:Int)<0:=by omega
  have hjm:j≤1000000:=by omega
  clear h hd1 hd2 hR hat h92 h96 h42 h91 h93 hsp i1 i2 hdl q0b HP HF;generalize (line.data.toList.drop k).take (k+j-k)=sl at *;go_enter Tryz.func172,Tryz.ntmps172;go_wp2_with fail;refine(HI.out _).mono ?_;rintro e w2 ⟨rfl,hb⟩;have q0':=Q0.out w2 hb;have HB:=Lib.hid hb;have HP3:=Lib.hid (HP2.out w2 hb);clear hb HP2 HI;go_wp2_with fail;refine HP3.out.mono ?_;rintro e w3 ⟨rfl,h4,h5⟩;have HR:=Lib.hid (HF2.out w2 w3 HB.out h4 h5);clear h4 h5;go_wp2_with fail;go_ret;exact HR.out
end Sp
end Go.Proofs.YtpakjdgddomdjabGreatDoor
