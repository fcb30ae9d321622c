import Derived.Test.YtihihgfcklkkhaaGreatDoorPkB
import Derived.Test.YtihihgfcklkkhaaGreatDoorPkY
namespace Go.Proofs.YtihihgfcklkkhaaGreatDoor.Sp
open Go.RowKit
open Go.Proofs.YtihihgfcklkkhaaGreatDoor.Tk (S S_of S_list S_size S_toList S_app ret_int eq8 ne8 at_data len_data)
open Go.Proofs.YtihihgfcklkkhaaGreatDoor.Cm (calls_at)
set_option linter.unusedVariables false
def ticksAt (l:List UInt8) (at':Int):Nat:=if at' < 0 then 0 else ticks (l.drop at'.toNat)
theorem ticks_at (s:ByteArray) (k:Nat) (h:k < s.size):ticks (s.data.toList.drop k)=if s[k]=96 then ticks (s.data.toList.drop (k+1))+1 else 0:=by
 rw [at_data s k h,ticks]
theorem rticks_any (s:ByteArray) (at':Int) (hs:s.size≤140737488355328) (ha:at'≤9223372036854775807) (w:World) :
   Calls Tryz.prog 132 #[.string s,.int .i64 at'] w fun e w'=>e = .returned (.int .i64 (ticksAt s.data.toList at':Nat))∧w=w':=by
 by_cases h0:at' < 0
 · have HR:Hid (ticksAt s.data.toList at'=0):=Lib.hid (by unfold ticksAt;rw [if_pos h0])
   have g0:¬ 0≤at':=by omega
   rw [HR.out]
   clear h0 HR
   go_enter Tryz.func132,Tryz.ntmps132
   go_wp2_with fail
   go_loop [5] (fun i=>i = .int .i64 0) (fun i=>0)
   case atStart=>rfl
   case round =>
     subst hrel
     go_wp2_with fail
     go_ret
     exact ⟨rfl,rfl⟩
 · obtain ⟨k,rfl⟩:∃ k:Nat,at'=(k:Int):=⟨at'.toNat,by omega⟩
   have H0:Hid (ticksAt s.data.toList (k:Int)=0+ticks (s.data.toList.drop (k+0))):=Lib.hid (by unfold ticksAt;rw [if_neg h0];simp)
   obtain ⟨X,hX⟩:∃ X,ticksAt s.data.toList (k:Int)=X:=⟨_,rfl⟩
   rw [hX] at H0
   rw [hX]
   clear hX h0
   go_enter Tryz.func132,Tryz.ntmps132
   go_wp2_with fail
   go_loop [5] (fun i=>∃ n:Nat,i = .int .i64 n∧(n=0∨k+n≤s.size)∧Hid (X=n+ticks (s.data.toList.drop (k+n)))) (fun i=>s.size - (intOf i).toNat)
   case atStart=>exact ⟨0,rfl,Or.inl rfl,H0⟩
   case round =>
     clear H0
     obtain ⟨n,rfl,hn,HN⟩:=hrel
     by_cases hlt:k+n < s.size
     · have hnx:=HN.out
       rw [ticks_at s (k+n) hlt] at hnx
       have hi1:(k:Int)+(n:Int) < (s.size:Int):=by omega
       have hi0:0≤(k:Int)+(n:Int):=by omega
       by_cases hc:s[k+n]=96
       · have e1:((s[k+n].toNat:Int) == 96)=true:=eq8 (b:=96) hc
         have HR:Hid (X=(n+1)+ticks (s.data.toList.drop (k+(n+1)))):=Lib.hid (by rw [hnx,if_pos hc,show k+(n+1)=k+n+1 from rfl];omega)
         clear hnx HN hc
         go_wp2_with fail
         go_round
         case rel=>exact ⟨n+1,by go_num,Or.inr (by omega),HR⟩
         case measure=>simp [intOf];omega
       · have e1:((s[k+n].toNat:Int) == 96)=false:=ne8 (b:=96) hc
         have HR:Hid (X=n):=Lib.hid (by rw [hnx,if_neg hc];omega)
         clear hnx HN hc
         go_wp2_with fail
         go_ret
         exact ⟨ret_int (by rw [HR.out]),rfl⟩
     · have hi1:¬ (k:Int)+(n:Int) < (s.size:Int):=by omega
       have HR:Hid (X=n):=Lib.hid (by rw [HN.out,drop_all s _ hlt];rfl)
       clear HN
       go_wp2_with fail
       go_ret
       exact ⟨ret_int (by rw [HR.out]),rfl⟩
theorem only_at (s:ByteArray) (k:Nat) (h:k < s.size):onlySp (s.data.toList.drop k)=((s[k] == 32) && onlySp (s.data.toList.drop (k+1))):=by
 rw [at_data s k h];rfl
theorem head_data (s:ByteArray) (h:0 < s.size):s.data.toList.head? = some s[0]:=by
 have:=at_data s 0 h
 rw [List.drop_zero] at this
 rw [this];rfl
theorem last_data (s:ByteArray) (h:s.size - 1 < s.size):s.data.toList.getLast? = some s[s.size - 1]:=by
 have h1:=at_data s (s.size - 1) h
 have hl:=len_data s
 rw [List.getLast?_eq_getElem?,← List.head?_drop,hl,h1]
 rfl
theorem cut_data (s:ByteArray) (h:2≤s.size):s.extract 1 (s.size - 1)=S s.data.toList.tail.dropLast:=by
 rw [← S_of (s.extract 1 (s.size - 1))]
 congr 1
 rw [ByteArray.data_extract,Array.toList_extract,List.extract_eq_take_drop,List.dropLast_eq_take,List.length_tail,len_data,List.drop_one]
theorem only_two {s:ByteArray} (h:onlySp s.data.toList=false) (h0:0 < s.size) (h32:s[0]=32):2≤s.size:=by
 rcases Nat.lt_or_ge s.size 2 with h1 | h1
 · exfalso
   have:=only_at s 0 h0
   rw [List.drop_zero,drop_all s (0+1) (by omega),h32] at this
   rw [this] at h
   simp [onlySp] at h
 · exact h1
theorem rstrip_any (s:ByteArray) (hs:s.size≤140737488355328) (w:World) :
   Calls Tryz.prog 162 #[.string s] w fun e w'=>e = .returned (.string (S (strip s.data.toList)))∧w=w':=by
 have H0:Hid (onlySp s.data.toList=(true && onlySp (s.data.toList.drop 0))):=Lib.hid (by rw [List.drop_zero];rfl)
 have HX:Hid (strip s.data.toList=if onlySp s.data.toList=false∧s.data.toList.head? = some 32∧s.data.toList.getLast? = some 32 then s.data.toList.tail.dropLast else s.data.toList):=Lib.hid rfl
 have HTwo:=Lib.hid (fun h=>only_two (s:=s) h)
 have HPos:Hid (onlySp s.data.toList=false→0 < s.size):=Lib.hid (fun h=>by
   rcases Nat.eq_zero_or_pos s.size with h0 | h0
   · have:=drop_all s 0 (by omega)
     rw [List.drop_zero] at this
     rw [this] at h
     cases h
   · exact h0)
 obtain ⟨oy,ho⟩:∃ oy,onlySp s.data.toList=oy:=⟨_,rfl⟩
 rw [ho] at H0 HX HTwo HPos
 obtain ⟨X,hX⟩:∃ X,strip s.data.toList=X:=⟨_,rfl⟩
 rw [hX] at HX
 rw [hX]
 clear ho hX
 go_enter Tryz.func162,Tryz.ntmps162
 go_wp2_with fail
 go_loop [3,4] (fun o i=>∃ (k:Nat) (ok:Bool),k≤s.size∧i = .int .i64 k∧o = .bool ok∧Hid (oy=(ok && onlySp (s.data.toList.drop k)))) (fun _ i=>s.size - (intOf i).toNat)
 case atStart=>exact ⟨0,true,Nat.zero_le _,rfl,rfl,H0⟩
 case round =>
   clear H0
   obtain ⟨k,ok,hk,rfl,rfl,HN⟩:=hrel
   by_cases hlt:k < s.size
   · have hnx:=HN.out
     rw [only_at s k hlt] at hnx
     have hi1:(k:Int) < (s.size:Int):=by omega
     cases ok with
     | false =>
       have HR:Hid (oy=(false && onlySp (s.data.toList.drop (k+1)))):=Lib.hid (by rw [hnx];simp)
       clear hnx HN HX HTwo HPos
       go_wp2_with fail
       go_round
       case rel=>exact ⟨k+1,false,by omega,by go_num,rfl,HR⟩
       case measure=>simp [intOf];omega
     | true =>
       have HR:Hid (oy=((s[k] == 32) && onlySp (s.data.toList.drop (k+1)))):=Lib.hid (by rw [hnx];simp)
       have e1:((s[k].toNat:Int) == 32)=(s[k] == 32):=by
         by_cases hc:s[k]=32
         · rw [show (s[k] == 32)=true from by rw [hc];rfl];exact eq8 (b:=32) hc
         · rw [beq_eq_false_iff_ne.2 hc];exact ne8 (b:=32) hc
       clear hnx HN HX HTwo HPos
       go_wp2_with fail
       go_round
       case rel=>exact ⟨k+1,_,by omega,by go_num,rfl,HR⟩
       case measure=>simp [intOf];omega
   · obtain rfl:k=s.size:=by omega
     have hoy:oy=ok:=by rw [HN.out,drop_all s _ hlt];simp [onlySp]
     subst hoy
     clear HN hlt
     cases oy with
     | true =>
       have HR:Hid (X=s.data.toList):=Lib.hid (by rw [HX.out,if_neg (by simp)])
       clear HX HTwo HPos
       go_wp2_with fail
       go_ret
       exact ⟨ret_str (by rw [HR.out,S_of]),rfl⟩
     | false =>
       have hpos:=HPos.out rfl
       by_cases h32:s[0]=32
       · have h2:=HTwo.out rfl hpos h32
         have hl1:s.size - 1 < s.size:=by omega
         have e1:((s[0].toNat:Int) == 32)=true:=eq8 (b:=32) h32
         by_cases l32:s[s.size - 1]=32
         · have e2:((s[s.size - 1].toNat:Int) == 32)=true:=eq8 (b:=32) l32
           have HR:Hid (s.extract 1 (s.size - 1)=S X):=Lib.hid (by rw [HX.out,if_pos ⟨rfl,by rw [head_data s hpos,h32],by rw [last_data s hl1,l32]⟩,cut_data s h2])
           have hi:(1:Int)≤(s.size:Int) - 1:=by omega
           have hi2:(s.size:Int) - 1≤(s.size:Int):=by omega
           have hnat:((s.size:Int) - 1).toNat=s.size - 1:=by omega
           clear HX HTwo HPos h32 l32
           go_wp2_with fail
           go_ret
           exact ⟨ret_str (by rw [← HR.out]),rfl⟩
         · have e2:((s[s.size - 1].toNat:Int) == 32)=false:=ne8 (b:=32) l32
           have HR:Hid (X=s.data.toList):=Lib.hid (by rw [HX.out,if_neg (fun h=>l32 (by have:=h.2.2;rw [last_data s hl1] at this;exact Option.some.inj this))])
           clear HX HTwo HPos h32 l32
           go_wp2_with fail
           go_ret
           exact ⟨ret_str (by rw [HR.out,S_of]),rfl⟩
       · have e1:((s[0].toNat:Int) == 32)=false:=ne8 (b:=32) h32
         have HR:Hid (X=s.data.toList):=Lib.hid (by rw [HX.out,if_neg (fun h=>h32 (by have:=h.2.1;rw [head_data s hpos] at this;exact Option.some.inj this))])
         clear HX HTwo HPos h32
         go_wp2_with fail
         go_ret
         exact ⟨ret_str (by rw [HR.out,S_of]),rfl⟩
end Go.Proofs.YtihihgfcklkkhaaGreatDoor.Sp
namespace Go.Proofs.YtihihgfcklkkhaaGreatDoor.Sp
open Go.RowKit
open Go.Proofs.YtihihgfcklkkhaaGreatDoor.Tk (S S_of S_list S_size S_toList S_app ret_int eq8 ne8 at_data len_data)
open Go.Proofs.YtihihgfcklkkhaaGreatDoor.Cm (calls_at)
set_option linter.unusedVariables false
theorem code_step (n f:Nat) (acc:List UInt8) (b:UInt8) (r:List UInt8):code n (f+1) acc (b :: r)=if b=10 then none else if ticks (b :: r)=n then some (acc,(b :: r).drop n) else code n f (acc++(b :: r).take (max (ticks (b :: r)) 1)) ((b :: r).drop (max (ticks (b :: r)) 1)):=rfl
theorem code_fuel (n:Nat):∀ (m f f':Nat) (acc t:List UInt8),t.length≤m→t.length < f→t.length < f'→code n f acc t=code n f' acc t
 | m,f+1,f'+1,acc,[],_,_,_=>rfl
 | 0,f,f',acc,b :: r,h,_,_=>by simp at h
 | m+1,f+1,f'+1,acc,b :: r,h,h1,h2=>by
   rw [code_step,code_step]
   have hd:=@drop_lt b r
   rw [code_fuel n m f f' _ ((b :: r).drop (max (ticks (b :: r)) 1)) (by omega) (by omega) (by omega)]
def codeAt (l:List UInt8) (j n:Nat) (acc:List UInt8):Option (List UInt8 × List UInt8):=code n ((l.drop j).length+1) acc (l.drop j)
def cdAns (N:Nat):Option (List UInt8 × List UInt8)→List UInt8 × Int
 | some (x,t)=>(strip x,((N - t.length:Nat):Int))
 | none=>([],-1)
theorem drop_drop' (l:List UInt8) (a b:Nat):(l.drop a).drop b=l.drop (a+b):=by rw [List.drop_drop]
theorem codeAt_step (s:ByteArray) (j n:Nat) (acc:List UInt8) (h:j < s.size) :
   codeAt s.data.toList j n acc=if s[j]=10 then none else if ticks (s.data.toList.drop j)=n then some (acc,s.data.toList.drop (j+n)) else codeAt s.data.toList (j+max (ticks (s.data.toList.drop j)) 1) n (acc++(s.data.toList.drop j).take (max (ticks (s.data.toList.drop j)) 1)):=by
 unfold codeAt
 have hd:=at_data s j h
 obtain ⟨T,hT⟩:∃ T,s.data.toList.drop j=T:=⟨_,rfl⟩
 have hl:T.length=s.data.toList.length - j:=by rw [← hT,List.length_drop]
 rw [hT] at hd
 have e1:s.data.toList.drop (j+n)=T.drop n:=by rw [← hT,drop_drop']
 have e2:s.data.toList.drop (j+max (ticks T) 1)=T.drop (max (ticks T) 1):=by rw [← hT,drop_drop']
 rw [hT,e1,e2]
 rw [hd,code_step]
 congr 1
 congr 1
 rw [← hd]
 refine code_fuel n T.length _ _ _ _ (by rw [List.length_drop];omega) ?_ (by omega)
 rw [hd] at *
 have:=@drop_lt s[j] (s.data.toList.drop (j+1))
 omega
theorem codeAt_end (s:ByteArray) (j n:Nat) (acc:List UInt8) (h:¬ j < s.size):codeAt s.data.toList j n acc=none:=by
 unfold codeAt
 rw [drop_all s j h]
 rfl
theorem ext_list (s:ByteArray) (a b:Nat):(s.extract a b).data.toList=(s.data.toList.drop a).take (b - a):=by
 rw [ByteArray.data_extract,Array.toList_extract,List.extract_eq_take_drop]
theorem take_more (l:List UInt8) (a j m:Nat) (h:a≤j):(l.drop a).take (j - a)++(l.drop j).take m=(l.drop a).take (j+m - a):=by
 rw [show j+m - a=(j - a)+m by omega,List.take_add,drop_drop',show a+(j - a)=j by omega]
theorem sliceS (x:ByteArray) (m k:Nat) (h1:m≤k) (h2:k≤x.size) (w:World) :
   (Instr.slice 9 (.string x) (some (.int .i64 (m:Int))) (some (.int .i64 (k:Int))) none).run Tryz.prog w = .ok (.string (x.extract m k)) w:=by
 have h3:(m:Int)≤(k:Int):=by omega
 have h4:(k:Int)≤(x.size:Int):=by omega
 have h5:0≤(m:Int):=by omega
 go_simp
theorem rcode_any (s:ByteArray) (a n:Nat) (hs:s.size≤140737488355328) (hn:1≤n) (ha:a+n≤s.size) (w:World) :
   Calls Tryz.prog 133 #[.string s,.int .i64 a,.int .i64 n] w fun e w'=>e = .returned (.tuple #[.string (S (cdAns s.size (codeAt s.data.toList (a+n) n [])).1),.int .i64 (cdAns s.size (codeAt s.data.toList (a+n) n [])).2])∧w=w':=by
 have H0:Hid (cdAns s.size (codeAt s.data.toList (a+n) n [])=cdAns s.size (codeAt s.data.toList (a+n) n ((s.data.toList.drop (a+n)).take (a+n - (a+n))))):=Lib.hid (by rw [Nat.sub_self,List.take_zero])
 have HT:=Lib.hid (fun (j:Nat) (hj:j≤s.size) w=>rticks_any s (j:Int) hs (by omega) w)
 have HTk:Hid (∀ j:Nat,ticksAt s.data.toList (j:Int)=ticks (s.data.toList.drop j)):=Lib.hid (fun j=>by unfold ticksAt;rw [if_neg (by omega)];simp)
 have HSt:=Lib.hid (fun (j:Nat) w=>rstrip_any (s.extract (a+n) j) (by simp;omega) w)
 have HSp:=Lib.hid (codeAt_step s)
 obtain ⟨X,hX⟩:∃ X,cdAns s.size (codeAt s.data.toList (a+n) n [])=X:=⟨_,rfl⟩
 rw [hX] at H0
 rw [hX]
 clear hX
 go_enter Tryz.func133,Tryz.ntmps133
 go_wp2_with fail
 go_loop [8,9] (fun i _=>∃ j:Nat,a+n≤j∧j≤s.size∧i = .int .i64 j∧Hid (X=cdAns s.size (codeAt s.data.toList j n ((s.data.toList.drop (a+n)).take (j - (a+n)))))) (fun i _=>s.size - (intOf i).toNat)
 case atStart=>exact ⟨a+n,Nat.le_refl _,ha,by go_num,H0⟩
 case round =>
   clear H0
   obtain ⟨j,hj1,hj2,rfl,HN⟩:=hrel
   by_cases hlt:j < s.size
   · have hnx:=HN.out
     rw [HSp.out j n _ hlt] at hnx
     have hi1:(j:Int) < (s.size:Int):=by omega
     by_cases hc:s[j]=10
     · have e1:((s[j].toNat:Int) == 10)=true:=eq8 (b:=10) hc
       have e2:((s[j].toNat:Int) != 10)=false:=by rw [bne,e1];rfl
       have HR:Hid (X=([],-1)):=Lib.hid (by rw [hnx,if_pos hc];rfl)
       clear hnx HN hc HSt HT HTk HSp
       go_wp2_with fail
       go_ret2
       exact ⟨by rw [HR.out];rfl,rfl⟩
     · have e1:((s[j].toNat:Int) == 10)=false:=ne8 (b:=10) hc
       have e2:((s[j].toNat:Int) != 10)=true:=by rw [bne,e1];rfl
       rw [if_neg hc] at hnx
       have HTj:=Lib.hid (HT.out j hj2 w)
       rw [HTk.out] at HTj
       have hle:=ticks_le (s.data.toList.drop j)
       rw [List.length_drop,len_data] at hle
       by_cases hk:ticks (s.data.toList.drop j)=n
       · have e3:((ticks (s.data.toList.drop j):Int) == (n:Int))=true:=by rw [hk];simp
         have HR:Hid (X=(strip ((s.data.toList.drop (a+n)).take (j - (a+n))),(j:Int)+(n:Int))):=Lib.hid (by
           rw [hnx,if_pos hk]
           unfold cdAns
           simp only [List.length_drop,len_data]
           rw [show ((s.size - (s.size - (j+n)):Nat):Int)=(j:Int)+(n:Int) by omega])
         have HS2:=Lib.hid (HSt.out j w)
         rw [ext_list] at HS2
         have HSx:Hid (S X.1=S (strip ((s.data.toList.drop (a+n)).take (j - (a+n))))):=Lib.hid (by rw [HR.out])
         have HSy:Hid (X.2=(j:Int)+(n:Int)):=Lib.hid (by rw [HR.out])
         have hsl:=sliceS s (a+n) j hj1 hj2
         rw [show ((a+n:Nat):Int)=(a:Int)+(n:Int) by omega] at hsl
         clear hnx HN hc HT HTk hk HSt HSp HR
         generalize ticks (s.data.toList.drop j)=tk at *
         generalize S (strip ((s.data.toList.drop (a+n)).take (j - (a+n))))=rs at *
         go_wp2_with fail
         refine HTj.out.mono ?_
         rintro e w2 ⟨rfl,rfl⟩
         clear HTj
         go_wp2_with fail
         refine HS2.out.mono ?_
         rintro e w3 ⟨rfl,rfl⟩
         clear HS2
         go_wp2_with fail
         go_ret2
         exact ⟨by rw [HSx.out,HSy.out];rfl,rfl⟩
       · have e3:((ticks (s.data.toList.drop j):Int) == (n:Int))=false:=by rw [beq_eq_false_iff_ne];omega
         rw [if_neg hk,take_more _ _ _ _ hj1] at hnx
         have hm:max (ticks (s.data.toList.drop j):Int) 1=((max (ticks (s.data.toList.drop j)) 1:Nat):Int):=by omega
         have hm1:1≤max (ticks (s.data.toList.drop j)) 1:=by omega
         have hm2:j+max (ticks (s.data.toList.drop j)) 1≤s.size:=by omega
         have HR:=Lib.hid hnx
         clear hnx HN hc HT HTk hk HSt HSp
         generalize ticks (s.data.toList.drop j)=tk at *
         generalize max tk 1=mk at *
         go_wp2_with fail
         refine HTj.out.mono ?_
         rintro e w2 ⟨rfl,rfl⟩
         clear HTj
         go_wp2_with fail
         go_round
         case rel=>exact ⟨j+mk,by omega,hm2,by go_num,HR⟩
         case measure=>simp [intOf];omega
   · have hi1:¬ (j:Int) < (s.size:Int):=by omega
     have HR:Hid (X=([],-1)):=Lib.hid (by rw [HN.out,codeAt_end s j n _ hlt];rfl)
     clear HN HSt HT HTk HSp
     go_wp2_with fail
     go_ret2
     exact ⟨by rw [HR.out];rfl,rfl⟩
theorem dcB_eq (c:UInt8):destB c=dcB c:=by
 unfold destB dcB alB
 have h:∀ n:Nat,n < 256→(decide (UInt8.ofNat n≤c)=decide ((n:Int)≤(c.toNat:Int)))∧(decide (c≤UInt8.ofNat n)=decide ((c.toNat:Int)≤(n:Int))):=fun n hn=>by
   have e:(UInt8.ofNat n).toNat=n:=by rw [UInt8.toNat_ofNat'];omega
   constructor
   · apply decide_eq_decide.2
     rw [UInt8.le_iff_toNat_le,e]
     omega
   · apply decide_eq_decide.2
     rw [UInt8.le_iff_toNat_le,e]
     omega
 have m:[46,47,95,45,35,63,38,58,37].contains c=marksL.any (fun b=>decide (c=b)):=by
   rw [Bool.eq_iff_iff,List.contains_iff_mem,List.any_eq_true]
   constructor
   · intro hm;exact ⟨c,hm,by simp⟩
   · rintro ⟨x,hx,he⟩
     have e:c=x:=by simpa using he
     rw [e];exact hx
 rw [m]
 have a1:=(h 97 (by omega)).1
 have a2:=(h 122 (by omega)).2
 have a3:=(h 65 (by omega)).1
 have a4:=(h 90 (by omega)).2
 have a5:=(h 48 (by omega)).1
 have a6:=(h 57 (by omega)).2
 have o97:(UInt8.ofNat 97)=97:=rfl
 have o122:(UInt8.ofNat 122)=122:=rfl
 have o65:(UInt8.ofNat 65)=65:=rfl
 have o90:(UInt8.ofNat 90)=90:=rfl
 have o48:(UInt8.ofNat 48)=48:=rfl
 have o57:(UInt8.ofNat 57)=57:=rfl
 rw [o97] at a1
 rw [o122] at a2
 rw [o65] at a3
 rw [o90] at a4
 rw [o48] at a5
 rw [o57] at a6
 rw [a1,a2,a3,a4,a5,a6]
 rfl
def dsAns (N:Nat):Option (List UInt8 × List UInt8)→List UInt8 × Int
 | some (x,t)=>(x,((N - t.length:Nat):Int))
 | none=>([],-1)
def destOn (tw t:List UInt8):Option (List UInt8 × List UInt8) :=
 match t.dropWhile destB with
 | 41 :: r=>if tw++t.takeWhile destB=[] then none else some (tw++t.takeWhile destB,r)
 | _=>none
theorem dest_on (t:List UInt8):dest (40 :: t)=destOn [] t:=by
 unfold dest destOn
 rfl
theorem destOn_yes (tw:List UInt8) (c:UInt8) (r:List UInt8) (h:dcB c=true):destOn tw (c :: r)=destOn (tw++[c]) r:=by
 unfold destOn
 rw [← dcB_eq] at h
 rw [List.dropWhile_cons_of_pos h,List.takeWhile_cons_of_pos h]
 simp
theorem destOn_no (tw:List UInt8) (c:UInt8) (r:List UInt8) (h:dcB c=false):destOn tw (c :: r)=if c=41 then (if tw=[] then none else some (tw,r)) else none:=by
 unfold destOn
 rw [← dcB_eq] at h
 have h':¬ destB c=true:=by rw [h];simp
 rw [List.dropWhile_cons_of_neg h',List.takeWhile_cons_of_neg h',List.append_nil]
 by_cases hc:c=41
 · subst hc;rfl
 · rw [if_neg hc]
   split
   · rename_i r' he
     simp at he
     exact absurd he.1 hc
   · rfl
theorem destOn_nil (tw:List UInt8):destOn tw []=none:=rfl
theorem dest_not {t:List UInt8} (h:t.head?≠some 40):dest t=none:=by
 unfold dest
 split
 · exact absurd rfl h
 · rfl
theorem ext_one' (x:ByteArray) (k:Nat) (h:k < x.size):(x.extract k (k+1)).data.toList=[x[k]]:=by
 rw [ext_list,at_data x k h,show k+1 - k=1 by omega]
 rfl
theorem dsB_one (c:UInt8):dsB [c]=dcB c:=by unfold dsB;simp
theorem rdestAt_any (s:ByteArray) (a:Nat) (hs:s.size≤140737488355328) (ha:a≤s.size) (w:World) :
   Calls Tryz.prog 134 #[.string s,.int .i64 a] w fun e w'=>e = .returned (.tuple #[.string (S (dsAns s.size (dest (s.data.toList.drop a))).1),.int .i64 (dsAns s.size (dest (s.data.toList.drop a))).2])∧w=w':=by
 obtain ⟨X,hX⟩:∃ X,dsAns s.size (dest (s.data.toList.drop a))=X:=⟨_,rfl⟩
 by_cases h0:a < s.size
 · have hi0:¬ (s.size:Int)≤(a:Int):=by omega
   by_cases h40:s[a]=40
   · have e1 : ((s[a].toNat:Int) == 40)=true:=eq8 (b:=40) h40
     have e2:((s[a].toNat:Int) != 40)=false:=by rw [bne,e1];rfl
     have H0:Hid (X=dsAns s.size (destOn ((s.data.toList.drop (a+1)).take (a+1 - (a+1))) (s.data.toList.drop (a+1)))):=Lib.hid (by
       rw [← hX,at_data s a h0,h40,dest_on,Nat.sub_self,List.take_zero])
     have HD:=Lib.hid (fun (j:Nat) w=>dest_any (s.extract j (j+1)) (by simp;omega) w)
     have HE1:=Lib.hid (ext_one' s)
     have HAt:=Lib.hid (at_data s)
     have HExt:=Lib.hid (ext_list s)
     rw [hX]
     clear hX
     go_enter Tryz.func134,Tryz.ntmps134
     go_wp2_with fail
     go_loop [6] (fun i=>∃ j:Nat,a+1≤j∧j≤s.size∧i = .int .i64 j∧Hid (X=dsAns s.size (destOn ((s.data.toList.drop (a+1)).take (j - (a+1))) (s.data.toList.drop j)))) (fun i=>s.size - (intOf i).toNat)
     case atStart=>exact ⟨a+1,Nat.le_refl _,h0,by go_num,H0⟩
     case round =>
       clear H0
       obtain ⟨j,hj1,hj2,rfl,HN⟩:=hrel
       have hsl1:=sliceS s (a+1) j hj1 hj2
       rw [show ((a+1:Nat):Int)=(a:Int)+1 by omega] at hsl1
       by_cases hlt:j < s.size
       · have hi1:(j:Int) < (s.size:Int):=by omega
         have hsl:=sliceS s j (j+1) (Nat.le_succ _) hlt
         rw [show ((j+1:Nat):Int)=(j:Int)+1 by omega] at hsl
         have HDj:=Lib.hid (HD.out j w)
         rw [HE1.out j hlt,dsB_one] at HDj
         have hnx:=HN.out
         rw [HAt.out j hlt] at hnx
         cases hc:dcB s[j] with
         | true =>
           rw [hc] at HDj
           rw [destOn_yes _ _ _ hc] at hnx
           have HR:Hid (X=dsAns s.size (destOn ((s.data.toList.drop (a+1)).take (j+1 - (a+1))) (s.data.toList.drop (j+1)))):=Lib.hid (by
             rw [hnx,← take_more _ _ _ _ hj1,HAt.out j hlt]
             rfl)
           clear hnx HN hc HD HE1 HAt HExt hsl1
           go_wp2_with fail
           refine HDj.out.mono ?_
           rintro e w2 ⟨rfl,rfl⟩
           clear HDj
           go_wp2_with fail
           go_round
           case rel=>exact ⟨j+1,by omega,by omega,by go_num,HR⟩
           case measure=>simp [intOf];omega
         | false =>
           rw [hc] at HDj
           rw [destOn_no _ _ _ hc] at hnx
           have hi2:¬ (s.size:Int)≤(j:Int):=by omega
           by_cases hja:j=a+1
           · have e3:((j:Int) == (a:Int)+1)=true:=by rw [beq_iff_eq];omega
             have HR:Hid (X=([],-1)):=Lib.hid (by
               have ht:(s.data.toList.drop (a+1)).take (j - (a+1))=[]:=by rw [show j - (a+1)=0 by omega,List.take_zero]
               rw [hnx,ht]
               split <;> rfl)
             clear hnx HN hc HD HE1 HAt HExt hsl1 hja
             go_wp2_with fail
             refine HDj.out.mono ?_
             rintro e w2 ⟨rfl,rfl⟩
             clear HDj
             go_wp2_with fail
             go_ret2
             exact ⟨by rw [HR.out];rfl,rfl⟩
           · have e3:((j:Int) == (a:Int)+1)=false:=by rw [beq_eq_false_iff_ne];omega
             have hne:((s.data.toList.drop (a+1)).take (j - (a+1)))≠[]:=by
               intro e
               have:=congrArg List.length e
               rw [List.length_take,List.length_drop,len_data] at this
               simp at this
               omega
             by_cases h41:s[j]=41
             · have e4:((s[j].toNat:Int) == 41)=true:=eq8 (b:=41) h41
               have e5:((s[j].toNat:Int) != 41)=false:=by rw [bne,e4];rfl
               have HR:Hid (X=((s.data.toList.drop (a+1)).take (j - (a+1)),(j:Int)+1)):=Lib.hid (by
                 rw [hnx,if_pos h41,if_neg hne]
                 unfold dsAns
                 simp only [List.length_drop,len_data]
                 rw [show ((s.size - (s.size - (j+1)):Nat):Int)=(j:Int)+1 by omega])
               have HSx:Hid (s.extract (a+1) j=S X.1):=Lib.hid (by rw [HR.out,← HExt.out,S_of])
               have HSy:Hid (X.2=(j:Int)+1):=Lib.hid (by rw [HR.out])
               clear hnx HN hc HD HE1 HAt HExt HR hne h41 hja
               go_wp2_with fail
               refine HDj.out.mono ?_
               rintro e w2 ⟨rfl,rfl⟩
               clear HDj
               go_wp2_with fail
               go_ret2
               exact ⟨by rw [← HSx.out,HSy.out];rfl,rfl⟩
             · have e4:((s[j].toNat:Int) == 41)=false:=ne8 (b:=41) h41
               have e5:((s[j].toNat:Int) != 41)=true:=by rw [bne,e4];rfl
               have HR:Hid (X=([],-1)):=Lib.hid (by rw [hnx,if_neg h41];rfl)
               clear hnx HN hc HD HE1 HAt HExt hne h41 hja hsl1
               go_wp2_with fail
               refine HDj.out.mono ?_
               rintro e w2 ⟨rfl,rfl⟩
               clear HDj
               go_wp2_with fail
               go_ret2
               exact ⟨by rw [HR.out];rfl,rfl⟩
       · have hi1:¬ (j:Int) < (s.size:Int):=by omega
         have hi2:(s.size:Int)≤(j:Int):=by omega
         have HR:Hid (X=([],-1)):=Lib.hid (by rw [HN.out,drop_all s j hlt,destOn_nil];rfl)
         clear HN HD HE1 HAt HExt hsl1
         by_cases hja:j=a+1
         · have e3:((j:Int) == (a:Int)+1)=true:=by rw [beq_iff_eq];omega
           clear hja
           go_wp2_with fail
           go_ret2
           exact ⟨by rw [HR.out];rfl,rfl⟩
         · have e3:((j:Int) == (a:Int)+1)=false:=by rw [beq_eq_false_iff_ne];omega
           clear hja
           go_wp2_with fail
           go_ret2
           exact ⟨by rw [HR.out];rfl,rfl⟩
   · have e1:((s[a].toNat:Int) == 40)=false:=ne8 (b:=40) h40
     have e2:((s[a].toNat:Int) != 40)=true:=by rw [bne,e1];rfl
     have HR:Hid (X=([],-1)):=Lib.hid (by
       rw [← hX,dest_not (by rw [at_data s a h0];intro h;exact h40 (Option.some.inj h))];rfl)
     rw [hX]
     clear hX h40
     go_enter Tryz.func134,Tryz.ntmps134
     go_wp2_with fail
     go_ret2
     exact ⟨by rw [HR.out];rfl,rfl⟩
 · have hi0:(s.size:Int)≤(a:Int):=by omega
   have HR:Hid (X=([],-1)):=Lib.hid (by rw [← hX,drop_all s a h0];rfl)
   rw [hX]
   clear hX
   go_enter Tryz.func134,Tryz.ntmps134
   go_wp2_with fail
   go_ret2
   exact ⟨by rw [HR.out];rfl,rfl⟩
end Go.Proofs.YtihihgfcklkkhaaGreatDoor.Sp
namespace Go.Proofs.YtihihgfcklkkhaaGreatDoor.Sp
open Go.Proofs.YtihihgfcklkkhaaGreatDoor.Tk (cls at_data len_data)
set_option linter.unusedVariables false
theorem stepOf_suf (rec:Bool→Bool→List UInt8→List Sp × List UInt8) (hrec:∀ e l t,∃ p,t=p++(rec e l t).2) (e l:Bool) (c:UInt8) (r:List UInt8) :
   (∀ a t',stepOf rec e l c r = .text a t'→∃ p,c :: r=p++t')∧(∀ x t',stepOf rec e l c r = .span x t'→∃ p,c :: r=p++t'):=by
 unfold stepOf
 split
 · exact ⟨fun a t' h=>(by cases h),fun x t' h=>(by cases h)⟩
 · split
   · refine ⟨fun a t' h=>?_,fun x t' h=>(by cases h)⟩
     simp only [Stp.text.injEq] at h
     obtain ⟨rfl,rfl⟩:=h
     exact ⟨c :: r.take 1,by rw [List.cons_append,← List.drop_one,List.take_append_drop]⟩
   · split
     · rename_i hc
       subst hc
       have hp:=ticks_pos (r:=r) rfl
       cases hcode:code (ticks (96 :: r)) (96 :: r).length [] ((96 :: r).drop (ticks (96 :: r))) with
       | none =>
         refine ⟨fun a t' h=>?_,fun x t' h=>(by cases h)⟩
         simp only [Stp.text.injEq] at h
         obtain ⟨rfl,rfl⟩:=h
         exact ⟨(96 :: r).take (ticks (96 :: r)),(List.take_append_drop _ _).symm⟩
       | some q =>
         obtain ⟨x,t1⟩:=q
         refine ⟨fun a t' h=>(by cases h),fun y t' h=>?_⟩
         simp only [Stp.span.injEq] at h
         obtain ⟨rfl,rfl⟩:=h
         obtain ⟨h1,h2,y,h3,h4,h5⟩:=code_some _ hp _ _ _ _ _ hcode
         exact ⟨(96 :: r).take (ticks (96 :: r))++(y++List.replicate (ticks (96 :: r)) 96),by
           conv=>lhs;rw [← List.take_append_drop (ticks (96 :: r)) (96 :: r),h4]
           simp only [List.append_assoc]⟩
     · have hplain:(∀ a t',(Stp.text [c] r) = .text a t'→∃ p,c :: r=p++t')∧(∀ x t',(Stp.text [c] r) = .span x t'→∃ p,c :: r=p++t'):=by
         refine ⟨fun a t' h=>?_,fun x t' h=>(by cases h)⟩
         simp only [Stp.text.injEq] at h
         obtain ⟨rfl,rfl⟩:=h
         exact ⟨[c],rfl⟩
       split
       · split
         · rename_i k kids t1 hr
           obtain ⟨p,h1⟩:=hrec true l r
           rw [hr] at h1
           refine ⟨fun a t' h=>(by cases h),fun y t' h=>?_⟩
           simp only [Stp.span.injEq] at h
           obtain ⟨rfl,rfl⟩:=h
           exact ⟨c :: (p++[42]),by rw [h1];simp⟩
         · exact hplain
       · split
         · split
           · rename_i k kids t1 hr
             obtain ⟨p,h1⟩:=hrec e true r
             rw [hr] at h1
             cases hd:dest t1 with
             | none=>exact hplain
             | some q =>
               obtain ⟨d,t2⟩:=q
               obtain ⟨d1,d2,d3⟩:=dest_some hd
               refine ⟨fun a t' h=>(by cases h),fun y t' h=>?_⟩
               simp only [Stp.span.injEq] at h
               obtain ⟨rfl,rfl⟩:=h
               exact ⟨c :: (p++(93 :: 40 :: (d++[41]))),by rw [h1,d3];simp⟩
           · exact hplain
         · exact hplain
theorem read_suf:∀ (f:Nat) (e l:Bool) (t:List UInt8),∃ p,t=p++(read f e l t).2
 | 0,e,l,t=>⟨[],rfl⟩
 | f+1,e,l,[]=>⟨[],rfl⟩
 | f + 1,e,l,c :: r=>by
   have hl:=stepOf_suf (read f) (read_suf f) e l c r
   rw [read_step]
   cases hs:stepOf (read f) e l c r with
   | stop=>exact ⟨[],rfl⟩
   | text a t' =>
     obtain ⟨p,h1⟩:=hl.1 a t' hs
     obtain ⟨q,h2⟩:=read_suf f e l t'
     exact ⟨p++q,by rw [List.append_assoc,h1];exact congrArg _ h2⟩
   | span x t' =>
     obtain ⟨p,h1⟩:=hl.2 x t' hs
     obtain ⟨q,h2⟩:=read_suf f e l t'
     exact ⟨p++q,by rw [List.append_assoc,h1];exact congrArg _ h2⟩
theorem Rdr_suf (e l:Bool) (t:List UInt8):∃ p,t=p++(Rdr e l t).2:=read_suf _ e l t
theorem suf_drop {T p t':List UInt8} {j:Nat} (h:T.drop j=p++t') (hj:j≤T.length):t'=T.drop (T.length - t'.length):=by
 have h1:=congrArg List.length h
 rw [List.length_drop,List.length_append] at h1
 have h2:T.length - t'.length=j+p.length:=by omega
 rw [h2,← List.drop_drop,h,List.drop_left]
variable {e l:Bool} {L:List Sp}
theorem st_stop {s:ByteArray} {j:Nat} (h:j < s.size) (hc:(s[j]=42∧e=true)∨(s[j]=93∧l=true)):gl e l L (s.data.toList.drop j)=(L,s.data.toList.drop j):=by
 rw [at_data s j h]
 apply gl_stop
 unfold stp stepOf
 rw [if_pos hc]
theorem st_esc {s:ByteArray} {j:Nat} (h:j+1 < s.size) (hn:¬ ((s[j]=42∧e=true)∨(s[j]=93∧l=true))) (h92:s[j]=92) (h4:cls s[j+1]=4) :
   gl e l L (s.data.toList.drop j)=gl e l (snocT L [s[j+1]]) (s.data.toList.drop (j+2)):=by
 rw [at_data s j (by omega),at_data s (j+1) h]
 apply gl_text
 unfold stp stepOf
 rw [if_neg hn,if_pos ⟨h92,by simp [h4]⟩]
 rfl
theorem tk_drop (s:ByteArray) (j n:Nat):(s.data.toList.drop j).drop n=s.data.toList.drop (j+n):=by rw [List.drop_drop]
theorem st_fuel (s:ByteArray) (j n:Nat) (hn:1≤n) (hj:j < s.size):code n (s.data.toList.drop j).length [] (s.data.toList.drop (j+n))=codeAt s.data.toList (j+n) n []:=by
 unfold codeAt
 have h1:=len_data s
 refine code_fuel n s.size _ _ _ _ ?_ ?_ ?_ <;> simp only [List.length_drop,h1] <;> omega
theorem tk_pos {s:ByteArray} {j:Nat} (h:j < s.size) (h96:s[j]=96):1≤ticks (s.data.toList.drop j):=by
 rw [at_data s j h]
 exact ticks_pos h96
theorem st_ticks {s:ByteArray} {j:Nat} (h:j < s.size) (h96:s[j]=96) (hcode:codeAt s.data.toList (j+ticks (s.data.toList.drop j)) (ticks (s.data.toList.drop j)) []=none) :
   gl e l L (s.data.toList.drop j)=gl e l (snocT L ((s.data.toList.drop j).take (ticks (s.data.toList.drop j)))) (s.data.toList.drop (j+ticks (s.data.toList.drop j))):=by
 rw [← st_fuel s j _ (tk_pos h h96) h] at hcode
 rw [ticks_take,← tk_drop s j]
 rw [← tk_drop s j] at hcode
 rw [at_data s j h] at hcode ⊢
 apply gl_text
 unfold stp stepOf
 rw [if_neg (by rw [h96];simp),if_neg (by rw [h96];simp),if_pos h96,hcode]
theorem st_code {s:ByteArray} {j:Nat} (h:j < s.size) (h96:s[j]=96) {x t':List UInt8} (hcode:codeAt s.data.toList (j+ticks (s.data.toList.drop j)) (ticks (s.data.toList.drop j)) []=some (x,t')) :
   gl e l L (s.data.toList.drop j)=gl e l (L++[.mk 2 (strip x) []]) (s.data.toList.drop (s.size - t'.length))∧t'.length < s.size - j∧(strip x).length≤s.size - t'.length - j:=by
 rw [← st_fuel s j _ (tk_pos h h96) h,← tk_drop s j] at hcode
 have hd:=at_data s j h
 have hst:stp e l s[j] (s.data.toList.drop (j+1)) = .span (.mk 2 (strip x) []) t':=by
   unfold stp stepOf
   rw [hd] at hcode
   rw [if_neg (by rw [h96];simp),if_neg (by rw [h96];simp),if_pos h96,hcode]
 have hl:=(stp_len e l s[j] (s.data.toList.drop (j+1))).2 _ _ hst
 obtain ⟨p,hp⟩:=(stepOf_suf Rdr Rdr_suf e l s[j] (s.data.toList.drop (j+1))).2 _ _ hst
 rw [← hd] at hp
 have hsf:=suf_drop hp (by rw [len_data];omega)
 rw [len_data] at hsf
 have h1:=gl_span (L:=L) hst
 rw [← hd] at h1
 have hl1:=hl.1
 have hl2:=hl.2.1
 rw [List.length_drop,len_data] at hl1
 rw [List.length_cons,List.length_drop,len_data] at hl2
 have hxl:(Sp.mk 2 (strip x) []).s=strip x:=rfl
 rw [hxl] at hl2
 refine ⟨by rw [h1,← hsf],by omega,by omega⟩
theorem st_plain {s:ByteArray} {j:Nat} (h:j < s.size) (hn:¬ ((s[j]=42∧e=true)∨(s[j]=93∧l=true))) (h92:¬ (s[j]=92∧∃ h':j+1 < s.size,cls s[j+1]=4)) (h96:s[j]≠96) (h42:s[j]≠42) (h91:¬ (s[j]=91∧l=false)) :
   gl e l L (s.data.toList.drop j)=gl e l (snocT L [s[j]]) (s.data.toList.drop (j+1)):=by
 rw [at_data s j h]
 apply gl_text
 unfold stp stepOf
 rw [if_neg hn,if_neg (fun hc=>h92 ⟨hc.1,?_⟩),if_neg h96,if_neg h42,if_neg h91]
 by_cases h1:j+1 < s.size
 · rw [at_data s (j+1) h1] at hc
   exact ⟨h1,by simpa using hc.2⟩
 · rw [drop_all s (j+1) h1] at hc
   simp at hc
theorem st_emph {s:ByteArray} {j:Nat} (h:j < s.size) (h42:s[j]=42) (he:e=false) {K:List Sp} {R:List UInt8} (hr:Rdr true l (s.data.toList.drop (j+1))=(K,R)) (hK:K≠[]) {k:Nat} (hk:k=s.size - R.length) (hks:k < s.size) (hc:s[k]=42) (hRl:R.length≤s.size - (j+1)) :
   gl e l L (s.data.toList.drop j)=gl e l (L++[.mk 3 [] K]) (s.data.toList.drop (k+1)):=by
 obtain ⟨p,hp⟩:=Rdr_suf true l (s.data.toList.drop (j+1))
 rw [hr] at hp
 have hsf:=suf_drop hp (by rw [len_data];omega)
 simp only [len_data] at hsf
 rw [← hk,at_data s k hks,hc] at hsf
 rw [at_data s j h]
 apply gl_span
 unfold stp stepOf
 rw [if_neg (by rw [h42,he];simp),if_neg (by rw [h42];simp),if_neg (by rw [h42];decide),if_pos h42,hr]
 cases K with
 | nil=>exact absurd rfl hK
 | cons a b =>
   rw [hsf]
   rfl
theorem st_star {s:ByteArray} {j:Nat} (h:j < s.size) (h42:s[j]=42) (he:e=false) {K:List Sp} {R:List UInt8} (hr:Rdr true l (s.data.toList.drop (j+1))=(K,R)) {k:Nat} (hk:k=s.size - R.length) (hRl:R.length≤s.size - (j+1)) (hno:¬ (K≠[]∧∃ hks:k < s.size,s[k]=42)) :
   gl e l L (s.data.toList.drop j)=gl e l (snocT L [s[j]]) (s.data.toList.drop (j+1)):=by
 obtain ⟨p,hp⟩:=Rdr_suf true l (s.data.toList.drop (j+1))
 rw [hr] at hp
 have hsf:=suf_drop hp (by rw [len_data];omega)
 simp only [len_data] at hsf
 rw [← hk] at hsf
 rw [at_data s j h]
 apply gl_text
 unfold stp stepOf
 rw [if_neg (by rw [h42,he];simp),if_neg (by rw [h42];simp),if_neg (by rw [h42];decide),if_pos h42,hr]
 split
 · rename_i a b t' heq
   simp only [Prod.mk.injEq] at heq
   obtain ⟨rfl,rfl⟩:=heq
   exfalso
   apply hno
   refine ⟨by simp,?_⟩
   by_cases hks:k < s.size
   · rw [at_data s k hks] at hsf
     simp at hsf
     exact ⟨hks,hsf.1.symm⟩
   · rw [drop_all s k hks] at hsf
     cases hsf
 · rfl
theorem st_link {s:ByteArray} {j:Nat} (h:j < s.size) (h91:s[j]=91) (hl:l=false) {K:List Sp} {R:List UInt8} (hr:Rdr e true (s.data.toList.drop (j+1))=(K,R)) (hK:K≠[]) {k:Nat} (hk:k=s.size - R.length) (hks:k < s.size) (hc:s[k]=93) (hRl:R.length≤s.size - (j+1)) {d t':List UInt8} (hd:dest (s.data.toList.drop (k+1))=some (d,t')) :
   gl e l L (s.data.toList.drop j)=gl e l (L++[.mk 4 d K]) (s.data.toList.drop (s.size - t'.length))∧t'.length < s.size - k∧d.length≤s.size - t'.length - k:=by
 obtain ⟨p,hp⟩:=Rdr_suf e true (s.data.toList.drop (j+1))
 rw [hr] at hp
 have hsf:=suf_drop hp (by rw [len_data];omega)
 simp only [len_data] at hsf
 rw [← hk,at_data s k hks,hc] at hsf
 obtain ⟨d1,d2,d3⟩:=dest_some hd
 have hd':=suf_drop (p:=40 :: (d++[41])) (t':=t') (by rw [d3];simp) (show k+1≤s.data.toList.length by rw [len_data];omega)
 rw [len_data] at hd'
 have hlen:=congrArg List.length d3
 simp only [List.length_drop,len_data,List.length_cons,List.length_append] at hlen
 refine ⟨?_,by omega,by omega⟩
 rw [← hd',at_data s j h]
 apply gl_span
 unfold stp stepOf
 rw [if_neg (by rw [h91];simp),if_neg (by rw [h91];simp),if_neg (by rw [h91];decide),if_neg (by rw [h91];decide),if_pos ⟨h91,hl⟩,hr]
 cases K with
 | nil=>exact absurd rfl hK
 | cons a b =>
   rw [hsf]
   simp only
   rw [hd]
theorem st_open {s:ByteArray} {j:Nat} (h:j < s.size) (h91:s[j]=91) (hl:l=false) {K:List Sp} {R:List UInt8} (hr:Rdr e true (s.data.toList.drop (j+1))=(K,R)) {k:Nat} (hk:k=s.size - R.length) (hRl:R.length≤s.size - (j+1)) (hno:¬ (K≠[]∧(∃ hks:k < s.size,s[k]=93)∧dest (s.data.toList.drop (k+1))≠none)) :
   gl e l L (s.data.toList.drop j)=gl e l (snocT L [s[j]]) (s.data.toList.drop (j+1)):=by
 obtain ⟨p,hp⟩:=Rdr_suf e true (s.data.toList.drop (j+1))
 rw [hr] at hp
 have hsf:=suf_drop hp (by rw [len_data];omega)
 simp only [len_data] at hsf
 rw [← hk] at hsf
 rw [at_data s j h]
 apply gl_text
 unfold stp stepOf
 rw [if_neg (by rw [h91];simp),if_neg (by rw [h91];simp),if_neg (by rw [h91];decide),if_neg (by rw [h91];decide),if_pos ⟨h91,hl⟩,hr]
 split
 · rename_i a b t' heq
   simp only [Prod.mk.injEq] at heq
   obtain ⟨rfl,rfl⟩:=heq
   by_cases hks:k < s.size
   · rw [at_data s k hks] at hsf
     simp at hsf
     obtain ⟨hc,ht⟩:=hsf
     rw [ht]
     cases hd:dest (s.data.toList.drop (k+1)) with
     | none=>rfl
     | some q=>exact absurd ⟨by simp,⟨hks,hc.symm⟩,by rw [hd];simp⟩ hno
   · rw [drop_all s k hks] at hsf
     cases hsf
 · rfl
end Go.Proofs.YtihihgfcklkkhaaGreatDoor.Sp
namespace Go.Proofs.YtihihgfcklkkhaaGreatDoor.Sp
open Go.RowKit
open Go.Proofs.YtihihgfcklkkhaaGreatDoor.Tk (S S_of S_list S_size S_toList S_app ret_int eq8 ne8 at_data len_data)
open Go.Proofs.YtihihgfcklkkhaaGreatDoor.Cm (calls_at)
set_option linter.unusedVariables false
def txB:List UInt8→Bool
 | []=>true
 | [_]=>true
 | a :: b :: r=>!((decide (a=10) && (spB b || decide (b=10))) || (decide (b=10) && spB a)) && txB (b :: r)
def ttB (s:List UInt8):Bool:=txB s && (!s.isEmpty && !hsB 13 s)
theorem txB_two (a b:UInt8) (r:List UInt8):txB (a :: b :: r)=(!((decide (a=10) && (spB b || decide (b=10))) || (decide (b=10) && spB a)) && txB (b :: r)):=by rw [txB]
end Go.Proofs.YtihihgfcklkkhaaGreatDoor.Sp
