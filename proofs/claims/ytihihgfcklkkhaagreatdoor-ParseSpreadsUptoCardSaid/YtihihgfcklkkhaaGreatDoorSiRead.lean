import Derived.Test.YtihihgfcklkkhaaGreatDoorPkD
import Derived.Test.YtihihgfcklkkhaaGreatDoorPkF
namespace Go.Proofs.YtihihgfcklkkhaaGreatDoor.Sp
open Go.RowKit
open Go.Proofs.YtihihgfcklkkhaaGreatDoor.Tk (S S_of S_list S_size S_toList S_app ret_int eq8 ne8 at_data len_data cls rclass8)
open Go.Proofs.YtihihgfcklkkhaaGreatDoor.Cm (calls_at Keep cell_at alloc_new alloc_at lt_of_at)
set_option linter.unusedVariables false
def RdAns (N:Nat) (w0:World) (X:List Sp × List UInt8) (e:Ending) (w':World):Prop :=
 ∃ v,e = .returned (.tuple #[v,.int .i64 ((N - X.2.length:Nat):Int)])∧Out w0 w' v X.1
theorem ext_S (s:ByteArray) (a b:Nat):s.extract a b=S ((s.data.toList.drop a).take (b - a)):=by
 rw [← ext_list,S_of]
theorem one_S (s:ByteArray) (k:Nat) (h:k < s.size):s.extract k (k+1)=S [s[k]]:=by
 rw [← ext_one' s k h,S_of]
set_option maxHeartbeats 12800000 in
set_option maxRecDepth 100000 in
theorem rread_any (s:ByteArray) (hs:s.size≤100000) (m:Nat):∀ (i:Nat) (e l:Bool) (w:World),i≤s.size→s.size - i≤m →
   Calls Tryz.prog 103 #[.string s,.int .i64 i,.bool e,.bool l] w (RdAns s.size w (Rdr e l (s.data.toList.drop i))):=by
 induction m using Nat.strongRecOn with
 | ind m ih =>
   intro i e l w hi hm
   have HIH:Hid (∀ (j:Nat) (e l:Bool) (w':World),i < j→j≤s.size→Calls Tryz.prog 103 #[.string s,.int .i64 j,.bool e,.bool l] w' (RdAns s.size w' (Rdr e l (s.data.toList.drop j)))):=Lib.hid (fun j e l w' h1 h2 =>
     ih (s.size - j) (by omega) j e l w' h2 (Nat.le_refl _))
   have H0:Hid (Rdr e l (s.data.toList.drop i)=gl e l [] (s.data.toList.drop i)):=Lib.hid (gl_begin e l _).symm
   have HTk:=Lib.hid (fun (j:Nat) (hj:j≤s.size) w=>rticks_any s (j:Int) (by omega) (by omega) w)
   have HTa:Hid (∀ j:Nat,ticksAt s.data.toList (j:Int)=ticks (s.data.toList.drop j)):=Lib.hid (fun j=>by unfold ticksAt;rw [if_neg (by omega)];simp)
   have HCd:=Lib.hid (fun (a n:Nat) (h1:1≤n) (h2:a+n≤s.size) w=>rcode_any s a n (by omega) h1 h2 w)
   have HDs:=Lib.hid (fun (a:Nat) (h:a≤s.size) w=>rdestAt_any s a (by omega) h w)
   have HCl:=Lib.hid (fun (b:UInt8) w=>rclass8 b w)
   obtain ⟨X,hX⟩:∃ X,Rdr e l (s.data.toList.drop i)=X:=⟨_,rfl⟩
   rw [hX] at H0
   rw [hX]
   clear ih hm hX
   go_enter Tryz.func103,Tryz.ntmps103
   go_wp2_with fail
   go_loopw [1,10] (fun iv ov wr=>∃ (j:Nat) (L:List Sp),i≤j∧j≤s.size∧iv = .int .i64 j∧Hid (Out w wr ov L)∧Hid (Bnd (j - i) L)∧Hid (X=gl e l L (s.data.toList.drop j))) (fun iv _ _=>s.size - (intOf iv).toNat)
   case atStart=>exact ⟨i,[],Nat.le_refl _,hi,rfl,Lib.hid (Out.nil (Below.refl _ _)),Lib.hid (Bnd.nil _),H0⟩
   case round =>
     clear H0
     obtain ⟨j,L,hij,hj,rfl,HO,HBd,HN⟩:=hrel
     by_cases hlt:j < s.size
     · have hi1:(j:Int) < (s.size:Int):=by omega
       have HTx:Hid (∀ w':World,Out w w' u10 L→∀ a:List UInt8,a.length≤100000→Calls Tryz.prog 131 #[u10,.string (S a)] w' (OutAns w (snocT L a))):=Lib.hid (fun w' h a ha =>
         rtext_any h a (by omega) (fun x hx=>by have:=HBd.out.2 x hx;omega) (by have:=HBd.out.1;omega))
       have hsl:=sliceS s j (j+1) (Nat.le_succ j) hlt
       rw [one_S s j hlt,show ((j+1:Nat):Int)=(j:Int)+1 by omega] at hsl
       by_cases hstop:(s[j]=42∧e=true)∨(s[j]=93∧l=true)
       · have HR:Hid (X=(L,s.data.toList.drop j)):=Lib.hid (by rw [HN.out];exact st_stop hlt hstop)
         have HEnd:Hid (((s.size - X.2.length:Nat):Int)=(j:Int)):=Lib.hid (by rw [HR.out];simp only [List.length_drop,len_data];omega)
         clear HN HIH HTk HTa HCd HDs HCl HTx
         rcases hstop with ⟨h42,rfl⟩ | ⟨h93,rfl⟩
         · have e42:((s[j].toNat:Int) == 42)=true:=by rw [h42];rfl
           clear h42
           go_wp2_with fail
           go_ret2
           exact ⟨_,by rw [HEnd.out];rfl,by rw [HR.out];exact HO.out⟩
         · have e42:((s[j].toNat:Int) == 42)=false:=by rw [h93];rfl
           have e93:((s[j].toNat:Int) == 93)=true:=by rw [h93];rfl
           clear h93
           go_wp2_with fail
           go_ret2
           exact ⟨_,by rw [HEnd.out];rfl,by rw [HR.out];exact HO.out⟩
       · by_cases h92:s[j]=92
         · skip
           have e42:((s[j].toNat:Int) == 42)=false:=by rw [h92];rfl
           have e93:((s[j].toNat:Int) == 93)=false:=by rw [h92];rfl
           have e92:((s[j].toNat:Int) == 92)=true:=by rw [h92];rfl
           have e96:((s[j].toNat:Int) == 96)=false:=by rw [h92];rfl
           have e91:((s[j].toNat:Int) == 91)=false:=by rw [h92];rfl
           by_cases hn1:j+1 < s.size
           · have hi2:(j:Int)+1 < (s.size:Int):=by omega
             have HCc:=Lib.hid (HCl.out s[j+1] wr)
             have h256:s[j+1].toNat < 256:=s[j+1].toNat_lt
             by_cases h4:cls s[j+1]=4
             · have c4:((cls s[j+1]:Int) == 4)=true:=by rw [h4];rfl
               have hsl2:=sliceS s (j+1) (j+2) (Nat.le_succ _) (by omega)
               rw [one_S s (j+1) hn1,show ((j+1:Nat):Int)=(j:Int)+1 by omega,show ((j+2:Nat):Int)=(j:Int)+2 by omega] at hsl2
               have HNx:Hid (X=gl e l (snocT L [s[j+1]]) (s.data.toList.drop (j+2))):=Lib.hid (by rw [HN.out];exact st_esc hn1 hstop h92 h4)
               have HBx:Hid (Bnd (j+2 - i) (snocT L [s[j+1]])):=Lib.hid (((HBd.out.snoc [s[j+1]] (d:=j+2 - j) (by simp) (by omega))).mono (by omega))
               have HT5:=Lib.hid (HTx.out wr HO.out [s[j+1]] (by simp))
               clear HTx HN HBd HIH HTk HTa HCd HDs HCl hstop h92 h4 hsl
               generalize cls s[j+1]=cv at *
               go_wp2_with fail
               refine HCc.out.mono ?_
               rintro e4 w4 ⟨rfl,rfl⟩
               clear HCc
               go_wp2_with fail
               refine HT5.out.mono ?_
               rintro e5 w5 ⟨v5,rfl,ho5⟩
               have HO5:=Lib.hid ho5
               clear ho5 HT5
               go_wp2_with fail
               go_roundw
               case rel=>exact ⟨j+2,snocT L [s[j+1]],by omega,by omega,by go_num,HO5,HBx,HNx⟩
               case measure=>simp [intOf] <;> omega
             · have c4:((cls s[j+1]:Int) == 4)=false:=by rw [beq_eq_false_iff_ne];omega
               as_aux_lemma =>
                 have HNx:Hid (X=gl e l (snocT L [s[j]]) (s.data.toList.drop (j+1))):=Lib.hid (by rw [HN.out];exact st_plain hlt hstop (fun h=>h4 (by obtain ⟨_,_,h⟩:=h;exact h)) (by rw [h92];decide) (by rw [h92];decide) (by rw [h92];simp))
                 have HBx:Hid (Bnd (j+1 - i) (snocT L [s[j]])):=Lib.hid (((HBd.out.snoc [s[j]] (d:=j+1 - j) (by simp) (by omega))).mono (by omega))
                 clear hstop h92 h4
                 generalize cls s[j+1]=cv at *
                 go_wp2_with fail
                 refine HCc.out.mono ?_
                 rintro e4 w4 ⟨rfl,rfl⟩
                 clear HCc
                 have HT5:=Lib.hid (HTx.out _ HO.out [s[j]] (by simp))
                 clear HTx HN HBd HIH HTk HTa HCd HDs HCl
                 go_wp2_with fail
                 refine HT5.out.mono ?_
                 rintro e5 w5 ⟨v5,rfl,ho5⟩
                 have HO5:=Lib.hid ho5
                 clear ho5 HT5
                 go_wp2_with fail
                 go_roundw
                 case rel=>exact ⟨j+1,snocT L [s[j]],by omega,by omega,by go_num,HO5,HBx,HNx⟩
                 case measure=>simp [intOf] <;> omega
           · have hi2:¬ (j:Int)+1 < (s.size:Int):=by omega
             as_aux_lemma =>
               have HNx:Hid (X=gl e l (snocT L [s[j]]) (s.data.toList.drop (j+1))):=Lib.hid (by rw [HN.out];exact st_plain hlt hstop (fun h=>hn1 (by obtain ⟨_,h,_⟩:=h;exact h)) (by rw [h92];decide) (by rw [h92];decide) (by rw [h92];simp))
               have HBx:Hid (Bnd (j+1 - i) (snocT L [s[j]])):=Lib.hid (((HBd.out.snoc [s[j]] (d:=j+1 - j) (by simp) (by omega))).mono (by omega))
               clear hstop h92
               have HT5:=Lib.hid (HTx.out wr HO.out [s[j]] (by simp))
               clear HTx HN HBd HIH HTk HTa HCd HDs HCl
               go_wp2_with fail
               refine HT5.out.mono ?_
               rintro e5 w5 ⟨v5,rfl,ho5⟩
               have HO5:=Lib.hid ho5
               clear ho5 HT5
               go_wp2_with fail
               go_roundw
               case rel=>exact ⟨j+1,snocT L [s[j]],by omega,by omega,by go_num,HO5,HBx,HNx⟩
               case measure=>simp [intOf] <;> omega
         · by_cases h96:s[j]=96
           · skip
             have e42:((s[j].toNat:Int) == 42)=false:=by rw [h96];rfl
             have e93:((s[j].toNat:Int) == 93)=false:=by rw [h96];rfl
             have e92:((s[j].toNat:Int) == 92)=false:=by rw [h96];rfl
             have e96:((s[j].toNat:Int) == 96)=true:=by rw [h96];rfl
             have e91:((s[j].toNat:Int) == 91)=false:=by rw [h96];rfl
             as_aux_lemma =>
               obtain ⟨tk,htk⟩:∃ tk,ticks (s.data.toList.drop j)=tk:=⟨_,rfl⟩
               have hpos:=tk_pos hlt h96
               have hle:=ticks_le (s.data.toList.drop j)
               rw [List.length_drop,len_data,htk] at hle
               rw [htk] at hpos
               have HT1:=Lib.hid (HTk.out j hj wr)
               rw [HTa.out,htk] at HT1
               have HC1:=Lib.hid (HCd.out j tk hpos (by omega) wr)
               cases hcode:codeAt s.data.toList (j+tk) tk [] with
               | none =>
                 rw [hcode] at HC1
                 have HNx:Hid (X=gl e l (snocT L ((s.data.toList.drop j).take tk)) (s.data.toList.drop (j+tk))):=Lib.hid (by
                   rw [HN.out]
                   subst htk
                   exact st_ticks hlt h96 hcode)
                 have HBx:Hid (Bnd (j+tk - i) (snocT L ((s.data.toList.drop j).take tk))):=Lib.hid (((HBd.out.snoc ((s.data.toList.drop j).take tk) (d:=tk) (by rw [List.length_take];omega) hpos)).mono (by omega))
                 have HT5:=Lib.hid (HTx.out wr HO.out ((s.data.toList.drop j).take tk) (by rw [List.length_take];omega))
                 have hsl2:=sliceS s j (j+tk) (by omega) (by omega)
                 rw [ext_S,show j+tk - j=tk by omega,show ((j+tk:Nat):Int)=(j:Int)+(tk:Int) by omega] at hsl2
                 have hS0:S []=⟨#[]⟩:=rfl
                 simp only [cdAns,hS0] at HC1
                 clear HTx HN HBd HIH HTk HTa HCd HDs HCl hstop h96 hsl htk hcode
                 go_wp2_with fail
                 refine HT1.out.mono ?_
                 rintro e3 w3 ⟨rfl,rfl⟩
                 clear HT1
                 go_wp2_with fail
                 refine HC1.out.mono ?_
                 rintro e4 w4 ⟨rfl,rfl⟩
                 clear HC1
                 go_wp2_with fail
                 refine HT5.out.mono ?_
                 rintro e5 w5 ⟨v5,rfl,ho5⟩
                 have HO5:=Lib.hid ho5
                 clear ho5 HT5
                 go_wp2_with fail
                 go_roundw
                 case rel=>exact ⟨j+tk,snocT L ((s.data.toList.drop j).take tk),by omega,by omega,by go_num,HO5,HBx,HNx⟩
                 case measure=>simp [intOf] <;> omega
               | some q =>
                 obtain ⟨x,t'⟩:=q
                 rw [hcode] at HC1
                 obtain ⟨g1,g2,g3⟩:=st_code (e:=e) (l:=l) (L:=L) hlt h96 (x:=x) (t':=t') (by rw [htk];exact hcode)
                 obtain ⟨nx,hnx⟩:∃ nx,s.size - t'.length=nx:=⟨_,rfl⟩
                 simp only [cdAns,hnx] at HC1
                 rw [hnx] at g1 g3
                 have hge:0≤(nx:Int):=by omega
                 have hnk:j < nx:=by omega
                 have hns:nx≤s.size:=by omega
                 clear h96 htk hcode hnx
                 have HNx:Hid (X=gl e l (L++[.mk 2 (strip x) []]) (s.data.toList.drop (nx))):=Lib.hid (by rw [HN.out];exact g1)
                 have HBx:Hid (Bnd (nx - i) (L++[.mk 2 (strip x) []])):=Lib.hid ((HBd.out.push (.mk 2 (strip x) []) (d:=nx - j) (by exact g3) (by omega)).mono (by omega))
                 obtain ⟨v5,w5,hr5,ho5⟩:=HO.out.push (x:=.mk 2 (strip x) []) (vk:=.slice none 0 0) (KidS.nil 2 (strip x)) (by have:=HBd.out.1;omega)
                 have HO5:=Lib.hid ho5
                 simp only [Sp.kind,Sp.s] at hr5
                 clear ho5 HTx HN HBd HIH HTk HTa HCd HCl hstop
                 clear g1 hsl HDs
                 go_wp2_with fail
                 refine HT1.out.mono ?_
                 rintro e3 w3 ⟨rfl,rfl⟩
                 clear HT1
                 go_wp2_with fail
                 refine HC1.out.mono ?_
                 rintro e4 w4 ⟨rfl,rfl⟩
                 clear HC1
                 go_wp2_with (at_builtin;refine Lib.wpList_append_run _ rfl _ _ _ _ rfl _ _ rfl rfl _ _ (hr5 _) ?_)
                 go_roundw
                 case rel=>exact ⟨nx,L++[.mk 2 (strip x) []],by omega,by omega,by go_num,HO5,HBx,HNx⟩
                 case measure=>simp [intOf] <;> omega
           · by_cases h42:s[j]=42
             · skip
               have e42:((s[j].toNat:Int) == 42)=true:=by rw [h42];rfl
               have e93:((s[j].toNat:Int) == 93)=false:=by rw [h42];rfl
               have e92:((s[j].toNat:Int) == 92)=false:=by rw [h42];rfl
               have e96:((s[j].toNat:Int) == 96)=false:=by rw [h42];rfl
               have e91:((s[j].toNat:Int) == 91)=false:=by rw [h42];rfl
               have he:e=false:=by cases e with | false=>rfl | true=>exact absurd (Or.inl ⟨h42,rfl⟩) hstop
               subst he
               obtain ⟨K,R,hr⟩:∃ K R,Rdr true l (s.data.toList.drop (j+1))=(K,R):=⟨_,_,rfl⟩
               have hRl:R.length≤s.size - (j+1):=by
                 have:=Rdr_len true l (s.data.toList.drop (j+1))
                 rw [hr,List.length_drop,len_data] at this
                 exact this
               obtain ⟨k,hk⟩:∃ k,k=s.size - R.length:=⟨_,rfl⟩
               have HI3:Hid (Calls Tryz.prog 103 #[.string s,.int .i64 ((j:Int)+1),.bool true,.bool l] wr (fun e3 w3=>∃ ak ck,e3 = .returned (.tuple #[.slice ak K.length ck,.int .i64 (k:Int)])∧Out wr w3 (.slice ak K.length ck) K)):=Lib.hid (by
                 have h:=HIH.out (j+1) true l wr (by omega) (by omega)
                 rw [hr,show ((j+1:Nat):Int)=(j:Int)+1 by omega] at h
                 refine h.mono ?_
                 rintro e3 w3 ⟨v,h1,h2⟩
                 obtain ⟨ak,ck,hv⟩:=h2.tr.len
                 subst hv
                 exact ⟨ak,ck,by rw [h1,hk],h2⟩)
               have hkj:j+1≤k:=by omega
               by_cases hks:k < s.size
               · have hi3:(k:Int) < (s.size:Int):=by omega
                 by_cases hc2:s[k]=42
                 · have ek:((s[k].toNat:Int) == 42)=true:=by rw [hc2];rfl
                   by_cases hK:K=[]
                   · have hK0:¬ 0 < (K.length:Int):=by rw [hK];simp
                     have hpl:=st_star hlt h42 rfl hr hk hRl (L:=L) (fun h=>h.1 hK)
                     as_aux_lemma =>
                       have HNx:Hid (X=gl false l (snocT L [s[j]]) (s.data.toList.drop (j+1))):=Lib.hid (by rw [HN.out];exact hpl)
                       have HBx:Hid (Bnd (j+1 - i) (snocT L [s[j]])):=Lib.hid (((HBd.out.snoc [s[j]] (d:=j+1 - j) (by simp) (by omega))).mono (by omega))
                       clear hstop h42 hr hRl hk
                       clear hpl
                       clear hK hc2
                       go_wp2_with fail
                       refine HI3.out.mono ?_
                       rintro e3 w3 ⟨ak,ck,rfl,ho3⟩
                       have HO3:Hid (Out w w3 u10 L):=Lib.hid (HO.out.go ho3.bel)
                       clear HI3 ho3
                       have HT5:=Lib.hid (HTx.out w3 HO3.out [s[j]] (by simp))
                       clear HTx HN HBd HIH HTk HTa HCd HDs HCl
                       go_wp2_with fail
                       refine HT5.out.mono ?_
                       rintro e5 w5 ⟨v5,rfl,ho5⟩
                       have HO5:=Lib.hid ho5
                       clear ho5 HT5
                       go_wp2_with fail
                       go_roundw
                       case rel=>exact ⟨j+1,snocT L [s[j]],by omega,by omega,by go_num,HO5,HBx,HNx⟩
                       case measure=>simp [intOf] <;> omega
                   · have hK0:0 < (K.length:Int):=by have:=List.length_pos_iff.2 hK;omega
                     as_aux_lemma =>
                       have hst:=st_emph (L:=L) hlt h42 rfl hr hK hk hks hc2 hRl
                       have HPu:Hid (∀ (w3:World) (ak:Option Addr) (ck:Nat),Out wr w3 (.slice ak K.length ck) K→Out w w3 u10 L→∃ v5 w5,(∀ ty,(Builtin.append_ #[40,40] ty #[u10,.slice (some ⟨w3.heap.size,0,none⟩) 1 1]).run Tryz.prog (w3.alloc (.cells #[.int .i64 3,.string ⟨#[]⟩,.slice ak K.length ck] 47)) = .ok v5 w5)∧Out w w5 v5 (L++[.mk 3 [] K])):=Lib.hid (fun w3 ak ck h1 h2 =>
                         h2.push (x:=.mk 3 [] K) (vk:=.slice ak K.length ck) (h1.fresh.kid HO.out.bel.size HO.out.block 3 []) (by have:=HBd.out.1;omega))
                       have HNx:Hid (X=gl false l (L++[.mk 3 [] K]) (s.data.toList.drop (k+1))):=Lib.hid (by rw [HN.out];exact hst)
                       have HBx:Hid (Bnd (k+1 - i) (L++[.mk 3 [] K])):=Lib.hid ((HBd.out.push (.mk 3 [] K) (d:=k+1 - j) (by simp [Sp.s]) (by omega)).mono (by omega))
                       clear HTx HN HBd HIH HTk HTa HCd HDs HCl hstop h42 hr hRl hk hst hsl hc2 hK
                       go_wp2_with fail
                       refine HI3.out.mono ?_
                       rintro e3 w3 ⟨ak,ck,rfl,ho3⟩
                       have HO3:Hid (Out w w3 u10 L):=Lib.hid (HO.out.go ho3.bel)
                       obtain ⟨v5,w5,hr5,ho5⟩:=HPu.out w3 ak ck ho3 HO3.out
                       have HO5:=Lib.hid ho5
                       clear ho5 ho3 HPu HI3
                       go_wp2_with (at_builtin;refine Lib.wpList_append_run _ rfl _ _ _ _ rfl _ _ rfl rfl _ _ (hr5 _) ?_)
                       go_roundw
                       case rel=>exact ⟨k+1,L++[.mk 3 [] K],by omega,by omega,by go_num,HO5,HBx,HNx⟩
                       case measure=>simp [intOf] <;> omega
                 · have ek:((s[k].toNat:Int) == 42)=false:=ne8 (b:=42) hc2
                   have hpl:=st_star hlt h42 rfl hr hk hRl (L:=L) (fun h=>hc2 (by obtain ⟨_,h⟩:=h.2;exact h))
                   as_aux_lemma =>
                     have HNx:Hid (X=gl false l (snocT L [s[j]]) (s.data.toList.drop (j+1))):=Lib.hid (by rw [HN.out];exact hpl)
                     have HBx:Hid (Bnd (j+1 - i) (snocT L [s[j]])):=Lib.hid (((HBd.out.snoc [s[j]] (d:=j+1 - j) (by simp) (by omega))).mono (by omega))
                     clear hstop h42 hr hRl hk
                     clear hpl
                     clear hc2
                     go_wp2_with fail
                     refine HI3.out.mono ?_
                     rintro e3 w3 ⟨ak,ck,rfl,ho3⟩
                     have HO3:Hid (Out w w3 u10 L):=Lib.hid (HO.out.go ho3.bel)
                     clear HI3 ho3
                     have HT5:=Lib.hid (HTx.out w3 HO3.out [s[j]] (by simp))
                     clear HTx HN HBd HIH HTk HTa HCd HDs HCl
                     go_wp2_with fail
                     refine HT5.out.mono ?_
                     rintro e5 w5 ⟨v5,rfl,ho5⟩
                     have HO5:=Lib.hid ho5
                     clear ho5 HT5
                     go_wp2_with fail
                     go_roundw
                     case rel=>exact ⟨j+1,snocT L [s[j]],by omega,by omega,by go_num,HO5,HBx,HNx⟩
                     case measure=>simp [intOf] <;> omega
               · have hi3:¬ (k:Int) < (s.size:Int):=by omega
                 have hpl:=st_star hlt h42 rfl hr hk hRl (L:=L) (fun h=>hks (by obtain ⟨h,_⟩:=h.2;exact h))
                 as_aux_lemma =>
                   have HNx:Hid (X=gl false l (snocT L [s[j]]) (s.data.toList.drop (j+1))):=Lib.hid (by rw [HN.out];exact hpl)
                   have HBx:Hid (Bnd (j+1 - i) (snocT L [s[j]])):=Lib.hid (((HBd.out.snoc [s[j]] (d:=j+1 - j) (by simp) (by omega))).mono (by omega))
                   clear hstop h42 hr hRl hk
                   clear hpl
                   go_wp2_with fail
                   refine HI3.out.mono ?_
                   rintro e3 w3 ⟨ak,ck,rfl,ho3⟩
                   have HO3:Hid (Out w w3 u10 L):=Lib.hid (HO.out.go ho3.bel)
                   clear HI3 ho3
                   have HT5:=Lib.hid (HTx.out w3 HO3.out [s[j]] (by simp))
                   clear HTx HN HBd HIH HTk HTa HCd HDs HCl
                   go_wp2_with fail
                   refine HT5.out.mono ?_
                   rintro e5 w5 ⟨v5,rfl,ho5⟩
                   have HO5:=Lib.hid ho5
                   clear ho5 HT5
                   go_wp2_with fail
                   go_roundw
                   case rel=>exact ⟨j+1,snocT L [s[j]],by omega,by omega,by go_num,HO5,HBx,HNx⟩
                   case measure=>simp [intOf] <;> omega
             · by_cases h91:s[j]=91
               · skip
                 have e42:((s[j].toNat:Int) == 42)=false:=by rw [h91];rfl
                 have e93:((s[j].toNat:Int) == 93)=false:=by rw [h91];rfl
                 have e92:((s[j].toNat:Int) == 92)=false:=by rw [h91];rfl
                 have e96:((s[j].toNat:Int) == 96)=false:=by rw [h91];rfl
                 have e91:((s[j].toNat:Int) == 91)=true:=by rw [h91];rfl
                 cases l with
                 | true =>
                   as_aux_lemma =>
                     have HNx:Hid (X=gl e true (snocT L [s[j]]) (s.data.toList.drop (j+1))):=Lib.hid (by rw [HN.out];exact st_plain hlt hstop (fun h=>h92 h.1) h96 h42 (by simp))
                     have HBx:Hid (Bnd (j+1 - i) (snocT L [s[j]])):=Lib.hid (((HBd.out.snoc [s[j]] (d:=j+1 - j) (by simp) (by omega))).mono (by omega))
                     clear hstop h91
                     have HT5:=Lib.hid (HTx.out wr HO.out [s[j]] (by simp))
                     clear HTx HN HBd HIH HTk HTa HCd HDs HCl
                     go_wp2_with fail
                     refine HT5.out.mono ?_
                     rintro e5 w5 ⟨v5,rfl,ho5⟩
                     have HO5:=Lib.hid ho5
                     clear ho5 HT5
                     go_wp2_with fail
                     go_roundw
                     case rel=>exact ⟨j+1,snocT L [s[j]],by omega,by omega,by go_num,HO5,HBx,HNx⟩
                     case measure=>simp [intOf] <;> omega
                 | false =>
                   obtain ⟨K,R,hr⟩:∃ K R,Rdr e true (s.data.toList.drop (j+1))=(K,R):=⟨_,_,rfl⟩
                   have hRl:R.length≤s.size - (j+1):=by
                     have:=Rdr_len e true (s.data.toList.drop (j+1))
                     rw [hr,List.length_drop,len_data] at this
                     exact this
                   obtain ⟨k,hk⟩:∃ k,k=s.size - R.length:=⟨_,rfl⟩
                   have HI3:Hid (Calls Tryz.prog 103 #[.string s,.int .i64 ((j:Int)+1),.bool e,.bool true] wr (fun e3 w3=>∃ ak ck,e3 = .returned (.tuple #[.slice ak K.length ck,.int .i64 (k:Int)])∧Out wr w3 (.slice ak K.length ck) K)):=Lib.hid (by
                     have h:=HIH.out (j+1) e true wr (by omega) (by omega)
                     rw [hr,show ((j+1:Nat):Int)=(j:Int)+1 by omega] at h
                     refine h.mono ?_
                     rintro e3 w3 ⟨v,h1,h2⟩
                     obtain ⟨ak,ck,hv⟩:=h2.tr.len
                     subst hv
                     exact ⟨ak,ck,by rw [h1,hk],h2⟩)
                   have hkj:j+1≤k:=by omega
                   by_cases hks:k < s.size
                   · have hi3:(k:Int) < (s.size:Int):=by omega
                     by_cases hc2:s[k]=93
                     · have ek:((s[k].toNat:Int) == 93)=true:=by rw [hc2];rfl
                       by_cases hK:K=[]
                       · have hK0:¬ 0 < (K.length:Int):=by rw [hK];simp
                         have hpl:=st_open hlt h91 rfl hr hk hRl (L:=L) (fun h=>h.1 hK)
                         as_aux_lemma =>
                           have HNx:Hid (X=gl e false (snocT L [s[j]]) (s.data.toList.drop (j+1))):=Lib.hid (by rw [HN.out];exact hpl)
                           have HBx:Hid (Bnd (j+1 - i) (snocT L [s[j]])):=Lib.hid (((HBd.out.snoc [s[j]] (d:=j+1 - j) (by simp) (by omega))).mono (by omega))
                           clear hstop h91 hr hRl hk
                           clear hpl
                           clear hK hc2
                           go_wp2_with fail
                           refine HI3.out.mono ?_
                           rintro e3 w3 ⟨ak,ck,rfl,ho3⟩
                           have HO3:Hid (Out w w3 u10 L):=Lib.hid (HO.out.go ho3.bel)
                           clear HI3 ho3
                           have HT5:=Lib.hid (HTx.out w3 HO3.out [s[j]] (by simp))
                           clear HTx HN HBd HIH HTk HTa HCd HDs HCl
                           go_wp2_with fail
                           refine HT5.out.mono ?_
                           rintro e5 w5 ⟨v5,rfl,ho5⟩
                           have HO5:=Lib.hid ho5
                           clear ho5 HT5
                           go_wp2_with fail
                           go_roundw
                           case rel=>exact ⟨j+1,snocT L [s[j]],by omega,by omega,by go_num,HO5,HBx,HNx⟩
                           case measure=>simp [intOf] <;> omega
                       · have hK0:0 < (K.length:Int):=by have:=List.length_pos_iff.2 hK;omega
                         have HD3:=Lib.hid (fun w3=>HDs.out (k+1) hks w3)
                         cases hd:dest (s.data.toList.drop (k+1)) with
                         | none =>
                           rw [hd] at HD3
                           have hS0:S []=⟨#[]⟩:=rfl
                           simp only [dsAns,hS0,show ((k+1:Nat):Int)=(k:Int)+1 by omega] at HD3
                           have hpl:=st_open hlt h91 rfl hr hk hRl (L:=L) (fun h=>h.2.2 hd)
                           as_aux_lemma =>
                             have HNx:Hid (X=gl e false (snocT L [s[j]]) (s.data.toList.drop (j+1))):=Lib.hid (by rw [HN.out];exact hpl)
                             have HBx:Hid (Bnd (j+1 - i) (snocT L [s[j]])):=Lib.hid (((HBd.out.snoc [s[j]] (d:=j+1 - j) (by simp) (by omega))).mono (by omega))
                             clear hstop h91 hr hRl hk
                             clear hpl
                             clear hK hc2 hd
                             go_wp2_with fail
                             refine HI3.out.mono ?_
                             rintro e3 w3 ⟨ak,ck,rfl,ho3⟩
                             have HO3:Hid (Out w w3 u10 L):=Lib.hid (HO.out.go ho3.bel)
                             go_wp2_with fail
                             refine (HD3.out _).mono ?_
                             rintro e4 w4 ⟨rfl,rfl⟩
                             clear HD3
                             clear HI3 ho3
                             have HT5:=Lib.hid (HTx.out w3 HO3.out [s[j]] (by simp))
                             clear HTx HN HBd HIH HTk HTa HCd HDs HCl
                             go_wp2_with fail
                             refine HT5.out.mono ?_
                             rintro e5 w5 ⟨v5,rfl,ho5⟩
                             have HO5:=Lib.hid ho5
                             clear ho5 HT5
                             go_wp2_with fail
                             go_roundw
                             case rel=>exact ⟨j+1,snocT L [s[j]],by omega,by omega,by go_num,HO5,HBx,HNx⟩
                             case measure=>simp [intOf] <;> omega
                         | some q =>
                           as_aux_lemma =>
                             obtain ⟨d,t'⟩:=q
                             obtain ⟨g1,g2,g3⟩:=st_link (L:=L) hlt h91 rfl hr hK hk hks hc2 hRl hd
                             obtain ⟨nx,hnx⟩:∃ nx,s.size - t'.length=nx:=⟨_,rfl⟩
                             rw [hd] at HD3
                             simp only [dsAns,hnx,show ((k+1:Nat):Int)=(k:Int)+1 by omega] at HD3
                             rw [hnx] at g1 g3
                             have hge:0≤(nx:Int):=by omega
                             have hnk:k < nx:=by omega
                             have hns:nx≤s.size:=by omega
                             have HPu:Hid (∀ (w3:World) (ak:Option Addr) (ck:Nat),Out wr w3 (.slice ak K.length ck) K→Out w w3 u10 L→∃ v5 w5,(∀ ty,(Builtin.append_ #[40,40] ty #[u10,.slice (some ⟨w3.heap.size,0,none⟩) 1 1]).run Tryz.prog (w3.alloc (.cells #[.int .i64 4,.string (S d),.slice ak K.length ck] 47)) = .ok v5 w5)∧Out w w5 v5 (L++[.mk 4 d K])):=Lib.hid (fun w3 ak ck h1 h2 =>
                               h2.push (x:=.mk 4 d K) (vk:=.slice ak K.length ck) (h1.fresh.kid HO.out.bel.size HO.out.block 4 d) (by have:=HBd.out.1;omega))
                             have HNx:Hid (X=gl e false (L++[.mk 4 d K]) (s.data.toList.drop nx)):=Lib.hid (by rw [HN.out];exact g1)
                             have HBx:Hid (Bnd (nx - i) (L++[.mk 4 d K])):=Lib.hid ((HBd.out.push (.mk 4 d K) (d:=nx - j) (by simp only [Sp.s];omega) (by omega)).mono (by omega))
                             clear HTx HN HBd HIH HTk HTa HCd HDs HCl hstop h91 hr hRl hk hsl hc2 hK hd g1 g2 g3 hnx
                             generalize S d=sd at *
                             go_wp2_with fail
                             refine HI3.out.mono ?_
                             rintro e3 w3 ⟨ak,ck,rfl,ho3⟩
                             have HO3:Hid (Out w w3 u10 L):=Lib.hid (HO.out.go ho3.bel)
                             go_wp2_with fail
                             refine (HD3.out _).mono ?_
                             rintro e4 w4 ⟨rfl,rfl⟩
                             clear HD3
                             obtain ⟨v5,w5,hr5,ho5⟩:=HPu.out _ ak ck ho3 HO3.out
                             have HO5:=Lib.hid ho5
                             clear ho5 ho3 HPu HI3
                             go_wp2_with (at_builtin;refine Lib.wpList_append_run _ rfl _ _ _ _ rfl _ _ rfl rfl _ _ (hr5 _) ?_)
                             go_roundw
                             case rel=>exact ⟨nx,L++[.mk 4 d K],by omega,by omega,by go_num,HO5,HBx,HNx⟩
                             case measure=>simp [intOf] <;> omega
                     · have ek:((s[k].toNat:Int) == 93)=false:=ne8 (b:=93) hc2
                       have hpl:=st_open hlt h91 rfl hr hk hRl (L:=L) (fun h=>hc2 (by obtain ⟨_,h⟩:=h.2.1;exact h))
                       as_aux_lemma =>
                         have HNx:Hid (X=gl e false (snocT L [s[j]]) (s.data.toList.drop (j+1))):=Lib.hid (by rw [HN.out];exact hpl)
                         have HBx:Hid (Bnd (j+1 - i) (snocT L [s[j]])):=Lib.hid (((HBd.out.snoc [s[j]] (d:=j+1 - j) (by simp) (by omega))).mono (by omega))
                         clear hstop h91 hr hRl hk
                         clear hpl
                         clear hc2
                         go_wp2_with fail
                         refine HI3.out.mono ?_
                         rintro e3 w3 ⟨ak,ck,rfl,ho3⟩
                         have HO3:Hid (Out w w3 u10 L):=Lib.hid (HO.out.go ho3.bel)
                         clear HI3 ho3
                         have HT5:=Lib.hid (HTx.out w3 HO3.out [s[j]] (by simp))
                         clear HTx HN HBd HIH HTk HTa HCd HDs HCl
                         go_wp2_with fail
                         refine HT5.out.mono ?_
                         rintro e5 w5 ⟨v5,rfl,ho5⟩
                         have HO5:=Lib.hid ho5
                         clear ho5 HT5
                         go_wp2_with fail
                         go_roundw
                         case rel=>exact ⟨j+1,snocT L [s[j]],by omega,by omega,by go_num,HO5,HBx,HNx⟩
                         case measure=>simp [intOf] <;> omega
                   · have hi3:¬ (k:Int) < (s.size:Int):=by omega
                     have hpl:=st_open hlt h91 rfl hr hk hRl (L:=L) (fun h=>hks (by obtain ⟨h,_⟩:=h.2.1;exact h))
                     as_aux_lemma =>
                       have HNx:Hid (X=gl e false (snocT L [s[j]]) (s.data.toList.drop (j+1))):=Lib.hid (by rw [HN.out];exact hpl)
                       have HBx:Hid (Bnd (j+1 - i) (snocT L [s[j]])):=Lib.hid (((HBd.out.snoc [s[j]] (d:=j+1 - j) (by simp) (by omega))).mono (by omega))
                       clear hstop h91 hr hRl hk
                       clear hpl
                       go_wp2_with fail
                       refine HI3.out.mono ?_
                       rintro e3 w3 ⟨ak,ck,rfl,ho3⟩
                       have HO3:Hid (Out w w3 u10 L):=Lib.hid (HO.out.go ho3.bel)
                       clear HI3 ho3
                       have HT5:=Lib.hid (HTx.out w3 HO3.out [s[j]] (by simp))
                       clear HTx HN HBd HIH HTk HTa HCd HDs HCl
                       go_wp2_with fail
                       refine HT5.out.mono ?_
                       rintro e5 w5 ⟨v5,rfl,ho5⟩
                       have HO5:=Lib.hid ho5
                       clear ho5 HT5
                       go_wp2_with fail
                       go_roundw
                       case rel=>exact ⟨j+1,snocT L [s[j]],by omega,by omega,by go_num,HO5,HBx,HNx⟩
                       case measure=>simp [intOf] <;> omega
               · by_cases h93:s[j]=93
                 · skip
                   have e42:((s[j].toNat:Int) == 42)=false:=by rw [h93];rfl
                   have e93:((s[j].toNat:Int) == 93)=true:=by rw [h93];rfl
                   have e92:((s[j].toNat:Int) == 92)=false:=by rw [h93];rfl
                   have e96:((s[j].toNat:Int) == 96)=false:=by rw [h93];rfl
                   have e91:((s[j].toNat:Int) == 91)=false:=by rw [h93];rfl
                   have hl:l=false:=by cases l with | false=>rfl | true=>exact absurd (Or.inr ⟨h93,rfl⟩) hstop
                   subst hl
                   as_aux_lemma =>
                     have HNx:Hid (X=gl e false (snocT L [s[j]]) (s.data.toList.drop (j+1))):=Lib.hid (by rw [HN.out];exact st_plain hlt hstop (fun h=>h92 h.1) h96 h42 (fun h=>h91 h.1))
                     have HBx:Hid (Bnd (j+1 - i) (snocT L [s[j]])):=Lib.hid (((HBd.out.snoc [s[j]] (d:=j+1 - j) (by simp) (by omega))).mono (by omega))
                     clear hstop h93
                     have HT5:=Lib.hid (HTx.out wr HO.out [s[j]] (by simp))
                     clear HTx HN HBd HIH HTk HTa HCd HDs HCl
                     go_wp2_with fail
                     refine HT5.out.mono ?_
                     rintro e5 w5 ⟨v5,rfl,ho5⟩
                     have HO5:=Lib.hid ho5
                     clear ho5 HT5
                     go_wp2_with fail
                     go_roundw
                     case rel=>exact ⟨j+1,snocT L [s[j]],by omega,by omega,by go_num,HO5,HBx,HNx⟩
                     case measure=>simp [intOf] <;> omega
                 · skip
                   have e42:((s[j].toNat:Int) == 42)=false:=ne8 (b:=42) h42
                   have e93:((s[j].toNat:Int) == 93)=false:=ne8 (b:=93) h93
                   have e92:((s[j].toNat:Int) == 92)=false:=ne8 (b:=92) h92
                   have e96:((s[j].toNat:Int) == 96)=false:=ne8 (b:=96) h96
                   have e91:((s[j].toNat:Int) == 91)=false:=ne8 (b:=91) h91
                   as_aux_lemma =>
                     have HNx:Hid (X=gl e l (snocT L [s[j]]) (s.data.toList.drop (j+1))):=Lib.hid (by rw [HN.out];exact st_plain hlt hstop (fun h=>h92 h.1) h96 h42 (fun h=>h91 h.1))
                     have HBx:Hid (Bnd (j+1 - i) (snocT L [s[j]])):=Lib.hid (((HBd.out.snoc [s[j]] (d:=j+1 - j) (by simp) (by omega))).mono (by omega))
                     clear hstop h42 h93 h92 h96 h91
                     have HT5:=Lib.hid (HTx.out wr HO.out [s[j]] (by simp))
                     clear HTx HN HBd HIH HTk HTa HCd HDs HCl
                     go_wp2_with fail
                     refine HT5.out.mono ?_
                     rintro e5 w5 ⟨v5,rfl,ho5⟩
                     have HO5:=Lib.hid ho5
                     clear ho5 HT5
                     go_wp2_with fail
                     go_roundw
                     case rel=>exact ⟨j+1,snocT L [s[j]],by omega,by omega,by go_num,HO5,HBx,HNx⟩
                     case measure=>simp [intOf] <;> omega
     · have hi1:¬ (j:Int) < (s.size:Int):=by omega
       have hjs:j=s.size:=by omega
       have HR:Hid (X=(L,[])):=Lib.hid (by rw [HN.out,drop_all s j hlt,gl_nil])
       have HEnd:Hid (((s.size - X.2.length:Nat):Int)=(s.size:Int)):=Lib.hid (by rw [HR.out];simp)
       clear HN HIH HTk HTa HCd HDs HCl
       go_wp2_with fail
       go_ret2
       exact ⟨_,by rw [HEnd.out];rfl,by rw [HR.out];exact HO.out⟩
def parseB (s:ByteArray):List Sp:=(Rdr false false s.data.toList).1
theorem rparse_any (s:ByteArray) (hs:s.size≤100000) (w:World) :
   Calls Tryz.prog 65 #[.string s] w (OutAns w (parseB s)):=by
 have HR:=Lib.hid (rread_any s hs s.size 0 false false w (Nat.zero_le _) (by omega))
 rw [List.drop_zero] at HR
 have HX:Hid ((Rdr false false s.data.toList).1=parseB s):=Lib.hid rfl
 generalize Rdr false false s.data.toList=X at *
 go_enter Tryz.func65,Tryz.ntmps65
 go_wp2_with fail
 refine HR.out.mono ?_
 rintro e3 w3 ⟨v,rfl,ho⟩
 have HO:=Lib.hid ho
 clear ho HR
 go_wp2_with fail
 go_ret
 exact ⟨_,rfl,by rw [← HX.out];exact HO.out⟩
end Go.Proofs.YtihihgfcklkkhaaGreatDoor.Sp
