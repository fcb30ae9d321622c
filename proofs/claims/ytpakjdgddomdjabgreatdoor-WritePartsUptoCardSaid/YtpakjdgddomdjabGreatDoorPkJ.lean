import Derived.Test.YtpakjdgddomdjabGreatDoorPkB
import Derived.Lib.OthersKept
import Derived.Lib.DecodeN
import Derived.Laws.RangeAny
import Derived.Lib.IndexAny
import Derived.Test.YtpakjdgddomdjabGreatDoorPkI
import Derived.BigQuiet
import Derived.WalkMore
import Derived.Laws.Runes
import Derived.Deep.QuietTactic
set_option linter.unusedVariables false
namespace Go.Proofs.YtpakjdgddomdjabGreatDoor
namespace Sp
open Go.RowKit
def crL:List UInt8:=[13,10]
theorem has_mem (c:UInt8) (s:List UInt8):hsB c s=true↔c∈s:=by
 unfold hsB;rw[List.any_eq_true];constructor
 ·rintro⟨x,hx,he⟩;rw[←of_decide_eq_true he];exact hx
 ·intro h;exact⟨c,h,decide_eq_true rfl⟩
theorem any_mem (chars:List UInt8):∀s:List UInt8,Lib.containsAny s chars=true↔∃b∈s,chars.contains b=true
 |[]=>by unfold Lib.containsAny Lib.indexAny;simp
 |b::l=>by
  have ih:=any_mem chars l;unfold Lib.containsAny at ih ⊢;rw[decide_eq_true_iff]at ih ⊢;rw[Lib.indexAny];have hge:=Lib.indexAny_ge chars l;cases hc:chars.contains b with
  |true=>
   rw[if_pos rfl];exact⟨fun _=>⟨b,List.mem_cons_self ..,hc⟩,fun _=>Int.le_refl 0⟩
  |false=>
   rw[if_neg (by simp)];constructor
   ·intro h
    by_cases hm:Lib.indexAny l chars=-1
    ·rw[hm]at h;simp at h
    ·obtain⟨x,hx,hxc⟩:=ih.1 (by omega)
     exact⟨x,List.mem_cons_of_mem _ hx,hxc⟩
   ·rintro⟨x,hx,hxc⟩
    rcases List.mem_cons.1 hx with rfl |hx
    ·rw[hxc]at hc;cases hc
    ·have:=ih.2 ⟨x,hx,hxc⟩
     rw[if_neg (by simp;omega)];omega
theorem cr_any (s:List UInt8):Lib.containsAny s crL=(hsB 10 s||hsB 13 s):=by
 rw[Bool.eq_iff_iff,any_mem,Bool.or_eq_true,has_mem,has_mem];constructor
 ·rintro⟨b,hb,hc⟩
  have:b=13∨b=10:=by simpa [crL]using hc
  rcases this with rfl |rfl
  ·exact Or.inr hb
  ·exact Or.inl hb
 ·rintro(h |h)
  ·exact⟨10,h,by decide⟩
  ·exact⟨13,h,by decide⟩
theorem decN_wide (n b0 b1 b2 b3:Nat) (hn:1≤n) (h0:128≤b0):1≤(Lib.decodeN n b0 b1 b2 b3).2∧(Lib.decodeN n b0 b1 b2 b3).2≤n∧(2≤(Lib.decodeN n b0 b1 b2 b3).2→128≤b1)∧(3≤(Lib.decodeN n b0 b1 b2 b3).2→128≤b2)∧(4≤(Lib.decodeN n b0 b1 b2 b3).2→128≤b3)∧(Lib.decodeN n b0 b1 b2 b3).2≤4:=by
 unfold Lib.decodeN
 repeat' split
 all_goals simp only[]
 all_goals omega
theorem get_nat (s:ByteArray) (j:Nat) (h:j<s.size):s.get! j=s[j]:=by
 simp[ByteArray.get!,getElem!_pos,h];rfl
theorem wide_no {s:ByteArray} {pos:Nat} (hp:pos<s.size) (ha:128≤s[pos].toNat) (hno:Lib.NoAny s.data.toList crL pos):
  pos+(Utf8.decode s pos).2≤s.size∧1≤(Utf8.decode s pos).2∧Lib.NoAny s.data.toList crL (pos+(Utf8.decode s pos).2):=by
 have hd:=decN_wide (s.size-pos) (s.get! pos).toNat (s.get! (pos+1)).toNat (s.get! (pos+2)).toNat (s.get! (pos+3)).toNat (by omega) (by rw[get_nat s pos hp];exact ha);rw[←Lib.decode_at]at hd;generalize (Utf8.decode s pos).2=n at *;obtain⟨h1,h2,h3,h4,h5,h6⟩:=hd;refine⟨by omega,h1,fun j b hj hb=>?_⟩;by_cases hlt:j<pos
 ·exact hno j b hlt hb
 ·have hjs:j<s.size:=by omega
  have hbj:s[j]=b:=by
   rw[Lib.data_getElem? s j hjs]at hb;exact Option.some.inj hb
  have h128:128≤s[j].toNat:=by
   rcases(show j=pos∨j=pos+1∨j=pos+2∨j=pos+3 by omega)with rfl |rfl |rfl |rfl
   ·exact ha
   ·have:=h3 (by omega);rw[get_nat s _ hjs]at this;exact this
   ·have:=h4 (by omega);rw[get_nat s _ hjs]at this;exact this
   ·have:=h5 (by omega);rw[get_nat s _ hjs]at this;exact this
  rw[hbj]at h128;have hne:∀x:UInt8,x.toNat<128→x≠b:=fun x hx e=>by rw[e]at hx;omega
  have a1:=hne 13 (by decide);have a2:=hne 10 (by decide);simp[crL,Ne.symm a1,Ne.symm a2]
theorem enc_wide (r:Int) (h:128≤r) (hv:Utf8.valid r=true):∃t:ByteArray,Utf8.encode r=t∧2≤t.size∧t.size≤4∧∃(hl:t.size-1<t.size),128≤(t[t.size-1]'hl).toNat:=by
 have hr:128≤r.toNat:=by omega
 unfold Utf8.encode;simp only[hv,if_true];rw[if_neg (by omega)];have hm:∀n:Nat,128≤(UInt8.ofNat (0x80+n%64)).toNat:=fun n=>by rw[UInt8.toNat_ofNat'];omega
 split
 ·exact⟨_,rfl,Nat.le_refl 2,Nat.le_of_ble_eq_true rfl,Nat.le_refl 2,hm _⟩
 ·split
  ·exact⟨_,rfl,Nat.le_of_ble_eq_true rfl,Nat.le_of_ble_eq_true rfl,Nat.le_refl 3,hm _⟩
  ·exact⟨_,rfl,Nat.le_of_ble_eq_true rfl,Nat.le_of_ble_eq_true rfl,Nat.le_refl 4,hm _⟩
end Sp
namespace Sp
open Go.RowKit
open Tk (eq8 ne8 at_data len_data)
theorem ed_ten {b:UInt8} (h:edB b=false):b≠10:=by
 intro e;rw[e]at h;revert h;decide
theorem ed_two (a b:UInt8):(!((decide (a=10)&&(spB b||decide (b=10)))||(decide (b=10)&&spB a)))=(!((decide (a=10)&&edB b)||(decide (b=10)&&edB a))):=by
 unfold edB;cases spB a<;>cases spB b<;>cases decide (a=10)<;>cases decide (b=10)<;>rfl
theorem txB_ed (a b:UInt8) (r:List UInt8):txB (a::b::r)=(!((decide (a=10)&&edB b)||(decide (b=10)&&edB a))&&txB (b::r)):=by rw[txB_two,ed_two]
theorem cr_find (s:List UInt8):decide (0≤Lib.indexByte s 13)=hsB 13 s:=by
 rw[←Lib.contains_iff_indexByte,Bool.eq_iff_iff,List.contains_iff_mem,has_mem]
set_option maxHeartbeats 3200000 in
theorem textP_any (s:ByteArray) (hs:s.size≤140737488355328) (w:World):
  Calls Tryz.prog 182 #[.string s] w (OkAns w (ctB s&&ttB s.data.toList)):=by
 have HT:=Lib.hid (isText_any s hs w);have HG:=Lib.hid (fun c w=>gap_any c w);have HF:=Lib.hid (fun w=>Tryz.strings_IndexByte s 13 w);have h13:((13:Int)).toNat.toUInt8=13:=rfl;rw[h13]at HF;have HD:=Lib.hid (cr_find s.data.toList);have HEm:Hid ((s.toList==([]:List UInt8))=s.data.toList.isEmpty):=Lib.hid (by rw[Lib.toList_data];cases s.data.toList<;>rfl)
 have HE2:Hid (s.data.toList.isEmpty=false→1≤s.size):=Lib.hid (fun h=>by
  rw[←len_data];cases hl:s.data.toList with
  |nil=>rw[hl]at h;cases h
  |cons x r=>simp)
 have HX:Hid ((ctB s&&ttB s.data.toList)=(ctB s&&(txB (s.data.toList.drop 0)&&(!s.data.toList.isEmpty&&!hsB 13 s.data.toList)))):=Lib.hid (by rw[List.drop_zero];rfl);obtain⟨X,hX⟩:∃X,(ctB s&&ttB s.data.toList)=X:=⟨_,rfl⟩;obtain⟨ne,hne⟩:∃ne,s.data.toList.isEmpty=ne:=⟨_,rfl⟩;rw[hX,hne]at HX;rw[hne]at HEm HE2;rw[hX];clear hX hne h13;generalize Lib.indexByte s.data.toList 13=ix at *;cases ne with
 |true=>
  have em:=HEm.out;have HR:Hid (X=false):=Lib.hid (by rw[HX.out];simp);clear HX HEm HT HG HF HD HE2;go_enter Tryz.func182,Tryz.ntmps182;go_wp2_with fail;go_ret;exact⟨ret_bool HR.out.symm,Below.refl _ _⟩
 |false=>
  have em:=HEm.out;have h1s:=HE2.out rfl;clear HEm HE2;cases hct:ctB s with
  |false=>
   rw[hct]at HT HX;have HR:Hid (X=false):=Lib.hid (by rw[HX.out];simp);clear HX HG HF HD hct;go_enter Tryz.func182,Tryz.ntmps182;go_wp2_with fail;refine HT.out.mono ?_;rintro e w2 ⟨rfl,hb⟩;have HB:=Lib.hid hb;clear hb HT;go_wp2_with fail;go_ret;exact⟨ret_bool HR.out.symm,HB.out⟩
  |true=>
   rw[hct]at HT HX;cases hcr:hsB 13 s.data.toList with
   |true=>
    rw[hcr]at HD HX;have hd:=HD.out;have hge:0≤ix:=of_decide_eq_true hd;have HR:Hid (X=false):=Lib.hid (by rw[HX.out];simp);clear HX HG HD hct hcr hd;go_enter Tryz.func182,Tryz.ntmps182;go_wp2_with fail;refine HT.out.mono ?_;rintro e w2 ⟨rfl,hb⟩;have HB:=Lib.hid hb;clear hb HT;go_wp2_with fail;refine(HF.out _).mono ?_;rintro e w3 ⟨rfl,rfl⟩;clear HF;go_wp2_with fail;go_ret;exact⟨ret_bool HR.out.symm,HB.out⟩
   |false=>
    rw[hcr]at HD HX;have hd:=HD.out;have hge:¬0≤ix:=of_decide_eq_false hd;have H0:Hid (X=txB (s.data.toList.drop (1-1))):=Lib.hid (by rw[HX.out];simp);clear HX HD hct hcr hd;go_enter Tryz.func182,Tryz.ntmps182;go_wp2_with fail;refine HT.out.mono ?_;rintro e w2 ⟨rfl,hb⟩;have HB:=Lib.hid hb;clear hb HT;go_wp2_with fail;refine(HF.out _).mono ?_;rintro e w3 ⟨rfl,hw3⟩;subst hw3;clear HF;go_wp2_with fail;go_loop [3] (fun i=>∃k:Nat,1≤k∧k≤s.size∧i=.int .i64 k∧Hid (X=txB (s.data.toList.drop (k-1)))) (fun i=>s.size-(intOf i).toNat)
    case atStart=>exact⟨1,Nat.le_refl _,h1s,rfl,H0⟩
    case round=>
     clear H0;obtain⟨k,hk1,hk,rfl,HN⟩:=hrel;by_cases hlt:k<s.size
     ·have hk0:k-1<s.size:=by omega
      have hnx:=HN.out;have hkk:k-1+1=k:=by omega
      rw[at_data s (k-1) hk0,hkk,at_data s k hlt,txB_ed,←at_data s k hlt]at hnx;have hi1:(k:Int)<(s.size:Int):=by omega
      have hi0:(1:Int)≤(k:Int):=by omega
      have HQ:Hid (X=(!((decide (s[k-1]=10)&&edB s[k])||(decide (s[k]=10)&&edB s[k-1]))&&txB (s.data.toList.drop (k+1-1)))):=Lib.hid (by rw[hnx,Nat.add_sub_cancel]);have HGa:=Lib.hid (HG.out s[k-1] w3);have HGb:=Lib.hid (HG.out s[k] w3);clear hnx HN hkk;by_cases a10:s[k-1]=10
      ·have e1:((s[k-1].toNat:Int)==10)=true:=eq8 (b:=10) a10
       cases hb:edB s[k]with
       |true=>
        rw[hb]at HGb;have HR:Hid (X=false):=Lib.hid (by rw[HQ.out,hb,decide_eq_true a10];simp);clear HQ a10 hb HGa;go_wp2_with fail;refine HGb.out.mono ?_;rintro e w4 ⟨rfl,rfl⟩;clear HGb;go_wp2_with fail;go_ret;exact⟨ret_bool HR.out.symm,HB.out⟩
       |false=>
        rw[hb]at HGb;have b10:=ed_ten hb;have e2:((s[k].toNat:Int)==10)=false:=ne8 (b:=10) b10;have HR:Hid (X=txB (s.data.toList.drop (k+1-1))):=Lib.hid (by rw[HQ.out,hb,decide_eq_false b10];simp);clear HQ a10 b10 hb HGa;go_wp2_with fail;refine HGb.out.mono ?_;rintro e w4 ⟨rfl,rfl⟩;clear HGb;go_wp2_with fail;go_round
        case rel=>exact⟨k+1,by omega,by omega,by go_num,HR⟩
        case measure=>simp[intOf];omega
      ·have e1:((s[k-1].toNat:Int)==10)=false:=ne8 (b:=10) a10
       by_cases b10:s[k]=10
       ·have e2:((s[k].toNat:Int)==10)=true:=eq8 (b:=10) b10
        cases ha:edB s[k-1]with
        |true=>
         rw[ha]at HGa;have HR:Hid (X=false):=Lib.hid (by rw[HQ.out,ha,decide_eq_true b10];simp);clear HQ a10 b10 ha HGb;go_wp2_with fail;refine HGa.out.mono ?_;rintro e w4 ⟨rfl,rfl⟩;clear HGa;go_wp2_with fail;go_ret;exact⟨ret_bool HR.out.symm,HB.out⟩
        |false=>
         rw[ha]at HGa;have HR:Hid (X=txB (s.data.toList.drop (k+1-1))):=Lib.hid (by rw[HQ.out,ha,decide_eq_false a10];simp);clear HQ a10 b10 ha HGb;go_wp2_with fail;refine HGa.out.mono ?_;rintro e w4 ⟨rfl,rfl⟩;clear HGa;go_wp2_with fail;go_round
         case rel=>exact⟨k+1,by omega,by omega,by go_num,HR⟩
         case measure=>simp[intOf];omega
       ·have e2:((s[k].toNat:Int)==10)=false:=ne8 (b:=10) b10
        have HR:Hid (X=txB (s.data.toList.drop (k+1-1))):=Lib.hid (by rw[HQ.out,decide_eq_false a10,decide_eq_false b10];simp);clear HQ a10 b10 HGa HGb;go_wp2_with fail;go_round
        case rel=>exact⟨k+1,by omega,by omega,by go_num,HR⟩
        case measure=>simp[intOf];omega
     ·obtain rfl:k=s.size:=by omega
      have hone:txB (s.data.toList.drop (s.size-1))=true:=by
       rw[at_data s (s.size-1) (by omega),drop_all s _ (by omega)];rfl
      have HR:Hid (X=true):=Lib.hid (by rw[HN.out,hone]);clear HN hone hlt;go_wp2_with fail;go_ret;exact⟨ret_bool HR.out.symm,HB.out⟩
end Sp
namespace Sp
open Go.RowKit
open Tk (ret_int len_data)
open Cm (lt_of_at)
def crS:ByteArray:=⟨#[13,10]⟩
theorem valid_rune {r:Int} (h:Lib.validRune r=true):Utf8.valid r=true:=by
 unfold Lib.validRune at h;have h:=of_decide_eq_true h;unfold Utf8.valid;simp only[Bool.or_eq_true,Bool.and_eq_true,decide_eq_true_eq];omega
theorem cr_at:∀i (h:i<crS.size),crS[i].toNat<128∧((crS[i].toNat:Int)==65533)=false
 |0,_=>⟨(by decide:(13:UInt8).toNat<128),rfl⟩
 |1,_=>⟨(by decide:(10:UInt8).toNat<128),rfl⟩
set_option maxHeartbeats 3200000 in
set_option maxRecDepth 100000 in
theorem runeWide_any (r:Int) (h:128≤r) (hr:r≤2147483647) (w:World):
  Calls Tryz.prog 168 #[.string crS,.int .i32 r] w fun e w'=>e=.returned (.int .i64 (-1))∧Below w.heap.size w w':=by
 by_cases h65:r=65533
 ·subst h65
  have hsz:crS.size=2:=rfl;have HA:=Lib.hid cr_at;generalize crS=s at *;go_enter Tryz.func168,Tryz.ntmps168;go_wp2_with fail;go_loopg [5,6] 2 (fun g _ _ wx=>∃i:Nat,i+g=2∧wx=w.iter s i)
  case atStart=>exact⟨0,by omega,rfl⟩
  case round=>
   obtain⟨i,hig,rfl⟩:=hrel;cases gk with
   |zero=>
    obtain rfl:i=s.size:=by omega
    have hnx:=fun ty=>run_next_end (P:=Tryz.prog) w s 2 ty (by omega)
    go_wp2_with fail;go_ret;exact⟨rfl,(Below.refl _ _).alloc (Nat.le_refl _) _⟩
   |succ g=>
    have hi:i<s.size:=by omega
    have hnx:=fun ty=>run_next_ascii (P:=Tryz.prog) w s i ty hi (HA.out i hi).1
    have e1:=(HA.out i hi).2;go_wp2_with fail;go_roundg g
    case measure=>omega
    case rel=>exact⟨i+1,by omega,rfl⟩
 ·have e65:(r==65533)=false:=by rw[beq_eq_false_iff_ne];exact h65
  clear h65;have HV:=Lib.hid (Tryz.utf8_ValidRune r w);cases hv:Lib.validRune r with
  |false=>
   rw[hv]at HV;clear hv;go_enter Tryz.func168,Tryz.ntmps168;go_wp2_with fail;refine HV.out.mono ?_;rintro e w2 ⟨rfl,hw⟩;subst hw;clear HV;go_wp2_with fail;go_ret;exact⟨rfl,Below.refl _ _⟩
  |true=>
   rw[hv]at HV;obtain⟨t,ht,ht2,ht4,htl,ht8⟩:=enc_wide r h (valid_rune hv);have hs2:crS.size=2:=rfl;have hc1:∀h:1<crS.size,crS[1]=10:=fun _=>rfl
   have HC1:=Lib.hid hc1;clear hv hc1;generalize crS=s at *;go_enter Tryz.func168,Tryz.ntmps168;go_wp2_with fail;refine HV.out.mono ?_;rintro e w2 ⟨rfl,hw⟩;subst hw;clear HV;go_wp2_with fail;have HI:=Lib.hid (fun(x:UInt8) (w':World)=>Tryz.strings_IndexByte ByteArray.empty (x.toNat:Int) w');have HI2:Hid (∀x:UInt8,Lib.indexByte ByteArray.empty.data.toList x=-1):=Lib.hid (fun x=>rfl);go_step3;go_wp2_with fail;clear ht;by_cases hsz:t.size=2
   ·obtain⟨x,hx⟩:∃x,t[t.size-1]=x:=⟨_,rfl⟩
    rw[hx]at ht8;go_loopw [9,10] (fun i f wr=>i=.int .i64 1∧wr=w2) (fun _ _ _=>0)
    case atStart=>exact⟨by rw[hsz];rfl,rfl⟩
    case round=>
     obtain⟨rfl,rfl⟩:=hrel;have hi1:(1:Int)<(s.size:Int):=by omega
     have hx1:t[1]'(by omega)=x:=by rw[←hx];congr 1;omega
     have hs1:s[1]'(by omega)=10:=HC1.out _;have hne:((10:Int)!=(x.toNat:Int))=true:=by rw[bne_iff_ne];omega
     have HJ:=Lib.hid (HI.out x);have hv:=HI2.out x;have hback:((x.toNat:Int)).toNat.toUInt8=x:=by simp
     rw[hback]at HJ;rw[hv]at HJ;have hw2:IntKind.i64.wrap 2=2:=rfl;clear hx hv hback HI HI2;go_wp2_with fail;go_step3;go_wp2_with fail;go_quiet (fail);go_wp2_with fail;go_quiet ((go_at_call 76;refine(HJ.out _).mono ?_;rintro e w'' ⟨he,hw⟩;exact⟨he,_,hw⟩));go_wp2_with fail;rw[Exit.noGoto_ret];go_wp2_with fail;rw[Exit.noGoto_ret];go_wp2_with fail;go_ret;exact⟨rfl,below_drewN (Below.refl _ _) _⟩
   ·go_loopw [9,10] (fun i f wr=>i=.int .i64 ((t.size:Int)-1)∧wr=w2) (fun _ _ _=>0)
    case atStart=>exact⟨rfl,rfl⟩
    case round=>
     obtain⟨rfl,rfl⟩:=hrel;have hi1:¬((t.size:Int)-1<(s.size:Int)):=by omega
     go_wp2_with fail;go_ret;exact⟨rfl,Below.refl _ _⟩
theorem set_info:(Tryz.prog.info? 148).map (fun i=>(i.zero,i.size))=some (some (.agg (Array.replicate 256 (.bool false))),256):=by kernel_rfl
theorem crL_list:crS.data.toList=crL:=rfl
theorem crL_ascii : ∀ (j:Nat) b,crS.data.toList[j]? = some b→b.toNat < 128
 | 0, b, h => by rw [crL_list] at h;obtain rfl:(13:UInt8)=b:=by simpa [crL] using h
                 decide
 | 1, b, h => by rw [crL_list] at h;obtain rfl:(10:UInt8)=b:=by simpa [crL] using h
                 decide
 | j+2,b,h=>by rw [crL_list] at h;simp [crL] at h
set_option maxHeartbeats 6400000 in
set_option maxRecDepth 100000 in
theorem indexAny_any (s:ByteArray) (hs:s.size≤1048576) (w:World):
  Calls Tryz.prog 146 #[.string s,.string crS] w fun e w'=>e=.returned (.int .i64 (Lib.indexAny s.data.toList crL))∧Below w.heap.size w w':=by
 by_cases h8:s.size≤8
 ·have HU:=Lib.hid (fun w=>Tryz.strings_shouldUseASCIISet (s.size:Int) w)
  have hemp:(crS.toList==([]:List UInt8))=false:=by rw[Lib.toList_data,crL_list];rfl
  have hn1:((crS.size:Int)==1)=false:=rfl;have h8z:decide ((8:Int)<(s.size:Int))=false:=decide_eq_false (by omega);rw[h8z]at HU;have HR:=Lib.hid (fun r h hr w=>runeWide_any r h hr w);have HA:=Lib.hid (fun r w h0 h1=>Tryz.strings_IndexRune_ascii crS r w h0 h1);have HCo:=Lib.hid (fun x=>Lib.contains_iff_indexByte crL x);rw[crL_list]at HA;have HW:=Lib.hid (fun pos (hp:pos<s.size) ha hno=>wide_no (s:=s) (pos:=pos) hp ha hno);generalize crS=t at *;go_enter Tryz.func146,Tryz.ntmps146;go_wp2_with fail;refine(HU.out _).mono ?_;rintro e w2 ⟨rfl,hw⟩;subst hw;clear HU;go_wp2_with fail;go_loopg [9,10] s.size (fun g _ _ wx=>∃i:Nat,i≤s.size∧s.size-i≤g∧wx.heap[w2.heap.size]? = some (.stringIter s i)∧Below w2.heap.size w2 wx∧Lib.NoAny s.data.toList crL i)
  case atStart=>exact⟨0,by omega,by omega,World.iter_heap _ _ _,(Below.refl _ _).alloc (Nat.le_refl _) _,Lib.NoAny.zero _ _⟩
  case round=>
   obtain⟨i,hi,hg,hIt,hb,hno⟩:=hrel;have HN:=Lib.hid hno;have HB:=Lib.hid hb;by_cases hlt:i<s.size
   ·obtain⟨g,rfl⟩:∃g,gk=g+1:=⟨gk-1,by omega⟩
    have hnx:∀ty,(Instr.next (.pointer (some ⟨w2.heap.size,0,none⟩)) true ty).run Tryz.prog wr=_:=fun ty=>Lib.run_next_any_at wr w2.heap.size s i ty hIt hlt
    obtain⟨x,hx⟩:∃x:UInt8,s[i]=x:=⟨_,rfl⟩;have Hx:Hid (s.data.toList[i]? = some x):=Lib.hid (by rw[←hx];exact Lib.data_getElem? s i hlt);by_cases h128:x.toNat<128
    ·have hdec:=decode_ascii s i hlt (by rw[hx];exact h128)
     rw[hdec,hx]at hnx;have hit1:=Lib.hid (Lib.iterAt_heap wr w2.heap.size s i (i+1) hIt);have hbw1:=Lib.hid (Lib.below_iterAt hb (k:=w2.heap.size) (Nat.le_refl _) s (i+1));have hA1:=Lib.hid (HA.out (x.toNat:Int) (wr.iterAt w2.heap.size s (i+1)) (by omega) (by omega));have hback:((x.toNat:Int)).toNat.toUInt8=x:=by simp
     rw[hback]at hA1;have hcon:=HCo.out x;clear hb hno hx hdec hIt hback HA HR HW HCo;generalize wr.iterAt w2.heap.size s (i+1)=w3 at *;generalize Lib.indexByte crL x=ix at *;cases hc:crL.contains x with
     |true=>
      have hge:0≤ix:=of_decide_eq_true (by rw[←hcon,hc]);have HF:=Lib.hid (Lib.indexAny_hit HN.out Hx.out hc);clear hcon hc;go_wp2_with fail;refine hA1.out.mono ?_;rintro e w4 ⟨rfl,hw⟩;subst hw;go_wp2_with fail;go_ret;exact⟨ret_int HF.out.symm,hbw1.out⟩
     |false=>
      have hge:¬0≤ix:=of_decide_eq_false (by rw[←hcon,hc]);have HF:=Lib.hid (HN.out.succ Hx.out hc);clear hcon hc;go_wp2_with fail;refine hA1.out.mono ?_;rintro e w4 ⟨rfl,hw⟩;subst hw;go_wp2_with fail;go_roundg g
      case measure=>omega
      case rel=>exact⟨i+1,by omega,by omega,hit1.out,hbw1.out,HF.out⟩
    ·have hge:128≤s[i].toNat:=by rw[hx];omega
     obtain⟨hr1,hr2⟩:=decode_high s i hlt hge;have hr3:=decode_le s i;obtain⟨hn1,hn2,hn3⟩:=HW.out i hlt hge hno;obtain⟨r,n,hrn⟩:∃r n,Utf8.decode s i=(r,n):=⟨_,_,rfl⟩;rw[hrn]at hnx hr1 hr2 hr3 hn1 hn2 hn3;simp only at hnx hr1 hr2 hr3 hn1 hn2 hn3;have HF:=Lib.hid hn3;have hit1:=Lib.hid (Lib.iterAt_heap wr w2.heap.size s i (i+n) hIt);have hbw1:=Lib.hid (Lib.below_iterAt hb (k:=w2.heap.size) (Nat.le_refl _) s (i+n));have hA1:=Lib.hid (HR.out (r:Int) (by omega) (by omega) (wr.iterAt w2.heap.size s (i+n)));clear hb hno hx hIt HA HR HW HCo hrn hge hn3;generalize wr.iterAt w2.heap.size s (i+n)=w3 at *;go_wp2_with fail;refine hA1.out.mono ?_;rintro e w4 ⟨rfl,hb4⟩;have hit4:=Lib.hid ((hb4.block _ (lt_of_at hit1.out)).trans hit1.out);have hbw4:=Lib.hid (hbw1.out.trans (hb4.mono hbw1.out.size));clear hb4;go_wp2_with fail;go_roundg g
     case measure=>omega
     case rel=>exact⟨i+n,hn1,by omega,hit4.out,hbw4.out,HF.out⟩
   ·have hnx:=fun ty=>Lib.run_next_end_at (P:=Tryz.prog) wr w2.heap.size s i ty hIt hlt
    have hsz:i=s.size:=by omega
    have HF:Hid (Lib.indexAny s.data.toList crL=-1):=Lib.hid (Lib.indexAny_none (by rw[len_data,←hsz];exact HN.out));clear hb hno;go_wp2_with fail;go_ret;exact⟨ret_int HF.out.symm,HB.out⟩
 ·have h:=Tryz.strings_IndexAny_long (zero_of_info set_info).1 s crS w (Nat.le_refl 2) (by omega) (by omega) (by show 2<4294967281;omega) crL_ascii
  refine h.mono ?_;rintro e w' ⟨rfl,hw⟩;refine⟨rfl,?_⟩;rw[hw];exact((Below.refl _ _).alloc (Nat.le_refl _) _).alloc (by simp) _
theorem contains_any (s:ByteArray) (hs:s.size≤1048576) (w:World):
  Calls Tryz.prog 116 #[.string s,.string crS] w (OkAns w (hsB 10 s.data.toList||hsB 13 s.data.toList)):=by
 have HI:=Lib.hid (indexAny_any s hs w);have HR:Hid (decide (0≤Lib.indexAny s.data.toList crL)=(hsB 10 s.data.toList||hsB 13 s.data.toList)):=Lib.hid (cr_any _);generalize Lib.indexAny s.data.toList crL=ix at *;generalize crS=t at *;go_enter Tryz.func116,Tryz.ntmps116;go_wp2_with fail;refine HI.out.mono ?_;rintro e w2 ⟨rfl,hb⟩;have HB:=Lib.hid hb;clear hb HI;go_wp2_with fail;go_ret;exact⟨ret_bool HR.out,HB.out⟩
theorem ct_size {s:ByteArray} (h:ctB s=true):s.size≤1048576:=by
 unfold ctB Go.Proofs.YtpakjdgddomdjabGreatDoor.Utf.chk at h;have h:=of_decide_eq_true h;split at h
 ·cases h
 ·omega
def cdB (s:List UInt8):Bool:=!s.isEmpty&&(!hsB 10 s&&!hsB 13 s)
theorem codeP_any (s:ByteArray) (hs:s.size≤140737488355328) (w:World) :
   Calls Tryz.prog 183 #[.string s] w (OkAns w (ctB s && cdB s.data.toList)):=by
 have HT:=Lib.hid (isText_any s hs w);have HC:=Lib.hid (fun h w=>contains_any s (ct_size h) w);have hE:(⟨#[13,10]⟩:ByteArray)=crS:=rfl;have HEm:Hid ((s.toList == ([]:List UInt8))=s.data.toList.isEmpty):=Lib.hid (by rw [Lib.toList_data];cases s.data.toList <;> rfl);have HEn:Hid ((s.toList != ([]:List UInt8)) = !s.data.toList.isEmpty):=Lib.hid (by rw [Lib.toList_data];cases s.data.toList <;> rfl);have HX:Hid ((ctB s && cdB s.data.toList)=(ctB s && (!s.data.toList.isEmpty && !(hsB 10 s.data.toList || hsB 13 s.data.toList)))):=Lib.hid (by unfold cdB;rw [Bool.not_or]);obtain ⟨X,hX⟩:∃ X,(ctB s && cdB s.data.toList)=X:=⟨_,rfl⟩;obtain ⟨ne,hne⟩:∃ ne,s.data.toList.isEmpty=ne:=⟨_,rfl⟩;rw [hX,hne] at HX;rw [hne] at HEm HEn;rw [hX];clear hX hne;cases ne with
 | true =>
   have em:=HEm.out;have en:=HEn.out;have HR:Hid (X=false):=Lib.hid (by rw [HX.out];simp);clear HX HEm HT HC HEn hE;go_enter Tryz.func183,Tryz.ntmps183;go_wp2_with fail;go_ret;exact ⟨ret_bool HR.out.symm,Below.refl _ _⟩
 | false =>
   have em:=HEm.out;have en:=HEn.out;clear HEm HEn;cases hct:ctB s with
   | false =>
     rw [hct] at HT HX;have HR:Hid (X=false):=Lib.hid (by rw [HX.out];simp);clear HX HC hct hE;go_enter Tryz.func183,Tryz.ntmps183;go_wp2_with fail;refine HT.out.mono ?_;rintro e w2 ⟨rfl,hb⟩;have HB:=Lib.hid hb;clear hb HT;go_wp2_with fail;go_ret;exact ⟨ret_bool HR.out.symm,HB.out⟩
   | true =>
     have HCA:=Lib.hid (HC.out hct);rw [hct] at HT HX;rw [← hE] at HCA;have HR:Hid (X = !(hsB 10 s.data.toList || hsB 13 s.data.toList)):=Lib.hid (by rw [HX.out];simp);clear HX HC hct hE;generalize (hsB 10 s.data.toList || hsB 13 s.data.toList)=y at *;go_enter Tryz.func183,Tryz.ntmps183;go_wp2_with fail;refine HT.out.mono ?_;rintro e w2 ⟨rfl,hb⟩;have HB:=Lib.hid hb;clear hb HT;go_wp2_with fail;refine (HCA.out _).mono ?_;rintro e w3 ⟨rfl,hb⟩;have HB3:=Lib.hid (HB.out.trans (hb.mono HB.out.size));clear hb HCA;go_wp2_with fail;go_ret;exact ⟨ret_bool HR.out.symm,HB3.out⟩
end Sp
namespace Sp
open Go.RowKit
open Tk (ret_int at_data len_data)
open Cm (lt_of_at)
def spL:List UInt8:=[92,96,42,91,93]
def spS:ByteArray:=⟨#[92,96,42,91,93]⟩
theorem spL_list:spS.data.toList=spL:=rfl
theorem spL_lt:∀b∈spL,b.toNat<128:=by decide
theorem sp_at (i:Nat) (h:i<spS.size):spS[i].toNat<128∧((spS[i].toNat:Int)==65533)=false:=by
 have hm:spS[i]∈spL:=by
  have h1:=at_data spS i h;have:spS[i]∈spS.data.toList.drop i:=by rw[h1];exact List.mem_cons_self ..
  exact List.mem_of_mem_drop this
 have:=spL_lt _ hm;exact⟨this,by rw[beq_eq_false_iff_ne];omega⟩
theorem spL_ascii (j:Nat) (b:UInt8) (h:spS.data.toList[j]? = some b):b.toNat<128:=spL_lt b (List.mem_of_getElem? h)
theorem idx_none {x:UInt8}:∀{l:List UInt8},(∀b∈l,b≠x)→Lib.indexByte l x=-1
 |[],_=>rfl
 |b::r,h=>by
  have ih:=idx_none (l:=r) (fun c hc=>h c (List.mem_cons_of_mem _ hc));have hb:=h b (List.mem_cons_self ..);rw[Lib.indexByte];simp[hb,ih]
theorem wideS_no {s:ByteArray} {pos:Nat} (hp:pos<s.size) (ha:128≤s[pos].toNat) (hno:Lib.NoAny s.data.toList spL pos):
  pos+(Utf8.decode s pos).2≤s.size∧1≤(Utf8.decode s pos).2∧Lib.NoAny s.data.toList spL (pos+(Utf8.decode s pos).2):=by
 have hd:=decN_wide (s.size-pos) (s.get! pos).toNat (s.get! (pos+1)).toNat (s.get! (pos+2)).toNat (s.get! (pos+3)).toNat (by omega) (by rw[get_nat s pos hp];exact ha);rw[←Lib.decode_at]at hd;generalize (Utf8.decode s pos).2=n at *;obtain⟨h1,h2,h3,h4,h5,h6⟩:=hd;refine⟨by omega,h1,fun j b hj hb=>?_⟩;by_cases hlt:j<pos
 ·exact hno j b hlt hb
 ·have hjs:j<s.size:=by omega
  have hbj:s[j]=b:=by
   rw[Lib.data_getElem? s j hjs]at hb;exact Option.some.inj hb
  have h128:128≤s[j].toNat:=by
   rcases(show j=pos∨j=pos+1∨j=pos+2∨j=pos+3 by omega)with rfl |rfl |rfl |rfl
   ·exact ha
   ·have:=h3 (by omega);rw[get_nat s _ hjs]at this;exact this
   ·have:=h4 (by omega);rw[get_nat s _ hjs]at this;exact this
   ·have:=h5 (by omega);rw[get_nat s _ hjs]at this;exact this
  rw[hbj]at h128;have hne:∀x:UInt8,x.toNat<128→x≠b:=fun x hx e=>by rw[e]at hx;omega
  have a1:=hne 92 (by decide);have a2:=hne 96 (by decide);have a3:=hne 42 (by decide);have a4:=hne 91 (by decide);have a5:=hne 93 (by decide);simp[spL,Ne.symm a1,Ne.symm a2,Ne.symm a3,Ne.symm a4,Ne.symm a5]
set_option maxHeartbeats 3200000 in
set_option maxRecDepth 100000 in
theorem runeWideS_any (r:Int) (h:128≤r) (hr:r≤2147483647) (w:World):
  Calls Tryz.prog 168 #[.string spS,.int .i32 r] w fun e w'=>e=.returned (.int .i64 (-1))∧Below w.heap.size w w':=by
 by_cases h65:r=65533
 ·subst h65
  have hsz:spS.size=5:=rfl;have HA:=Lib.hid sp_at;generalize spS=s at *;go_enter Tryz.func168,Tryz.ntmps168;go_wp2_with fail;go_loopg [5,6] 5 (fun g _ _ wx=>∃i:Nat,i+g=5∧wx=w.iter s i)
  case atStart=>exact⟨0,by omega,rfl⟩
  case round=>
   obtain⟨i,hig,rfl⟩:=hrel;cases gk with
   |zero=>
    obtain rfl:i=s.size:=by omega
    have hnx:=fun ty=>run_next_end (P:=Tryz.prog) w s 5 ty (by omega)
    go_wp2_with fail;go_ret;exact⟨rfl,(Below.refl _ _).alloc (Nat.le_refl _) _⟩
   |succ g=>
    have hi:i<s.size:=by omega
    have hnx:=fun ty=>run_next_ascii (P:=Tryz.prog) w s i ty hi (HA.out i hi).1
    have e1:=(HA.out i hi).2;go_wp2_with fail;go_roundg g
    case measure=>omega
    case rel=>exact⟨i+1,by omega,rfl⟩
 ·have e65:(r==65533)=false:=by rw[beq_eq_false_iff_ne];exact h65
  clear h65;have HV:=Lib.hid (Tryz.utf8_ValidRune r w);cases hv:Lib.validRune r with
  |false=>
   rw[hv]at HV;clear hv;go_enter Tryz.func168,Tryz.ntmps168;go_wp2_with fail;refine HV.out.mono ?_;rintro e w2 ⟨rfl,hw⟩;subst hw;clear HV;go_wp2_with fail;go_ret;exact⟨rfl,Below.refl _ _⟩
  |true=>
   rw[hv]at HV;obtain⟨t,ht,ht2,ht4,htl,ht8⟩:=enc_wide r h (valid_rune hv);have hs2:spS.size=5:=rfl;have HC1:Hid (∀(k:Nat) (h:k<spS.size),spS[k].toNat<128):=Lib.hid (fun k h=>(sp_at k h).1)
   have HI2:Hid (∀(k:Nat) (x:UInt8),128≤x.toNat→Lib.indexByte (spS.extract k spS.size).data.toList x=-1):=Lib.hid (fun k x hx=>idx_none (fun b hb=>by
    rw[ext_from]at hb;have hb:=List.mem_of_mem_drop hb;have hb':b∈spL:=hb;have:b.toNat<128:=spL_lt b hb';intro e;rw[e]at this;omega))
   clear hv;generalize spS=s at *;go_enter Tryz.func168,Tryz.ntmps168;go_wp2_with fail;refine HV.out.mono ?_;rintro e w2 ⟨rfl,hw⟩;subst hw;clear HV;go_wp2_with fail;have HI:=Lib.hid (fun(k:Nat) (x:UInt8) (w':World)=>Tryz.strings_IndexByte (s.extract k s.size) (x.toNat:Int) w');go_step3;go_wp2_with fail;clear ht;obtain⟨m,hm⟩:∃m:Nat,t.size=m+1:=⟨t.size-1,by omega⟩;obtain⟨x,hx⟩:∃x,t[t.size-1]=x:=⟨_,rfl⟩;rw[hx]at ht8;have hx1:t[m]'(by omega)=x:=by rw[←hx];congr 1;omega
   go_loopw [9,10] (fun i f wr=>i=.int .i64 m∧wr=w2) (fun _ _ _=>0)
   case atStart=>exact⟨by rw[hm];simp,rfl⟩
   case round=>
    obtain⟨rfl,rfl⟩:=hrel;have hi1:(m:Int)<(s.size:Int):=by omega
    have hms:m<s.size:=by omega
    have hs1:=HC1.out m hms;have hne:((s[m].toNat:Int)!=(x.toNat:Int))=true:=by rw[bne_iff_ne];omega
    have HJ:=Lib.hid (HI.out (m+1) x);rw[hs2]at HJ;have hv:=HI2.out (m+1) x ht8;rw[hs2]at hv;have hback:((x.toNat:Int)).toNat.toUInt8=x:=by simp
    rw[hback]at HJ;rw[hv]at HJ;have hsl:=fun w=>slice_fromS s (m+1) (by omega) (by omega) w
    rw[show((m+1:Nat):Int)=(m:Int)+1 by omega]at hsl;have hw2:IntKind.i64.wrap ((m:Int)+1)=(m:Int)+1:=by rw[IntKind.wrap_i64];omega
    clear hx hv hback HI HI2 HC1 hs1;go_wp2_with fail;go_step3;go_wp2_with fail;go_quiet (fail);go_wp2_with fail;go_quiet ((go_at_call 76;refine(HJ.out _).mono ?_;rintro e w'' ⟨he,hw⟩;exact⟨he,_,hw⟩));go_wp2_with fail;rw[Exit.noGoto_ret];go_wp2_with fail;rw[Exit.noGoto_ret];go_wp2_with fail;go_ret;exact⟨rfl,below_drewN (Below.refl _ _) _⟩
set_option maxHeartbeats 6400000 in
set_option maxRecDepth 100000 in
theorem indexAnyS_any (s:ByteArray) (hs:s.size≤1048576) (w:World):
  Calls Tryz.prog 146 #[.string s,.string spS] w fun e w'=>e=.returned (.int .i64 (Lib.indexAny s.data.toList spL))∧Below w.heap.size w w':=by
 by_cases h8:s.size≤8
 ·have HU:=Lib.hid (fun w=>Tryz.strings_shouldUseASCIISet (s.size:Int) w)
  have hemp:(spS.toList==([]:List UInt8))=false:=by rw[Lib.toList_data,spL_list];rfl
  have hn1:((spS.size:Int)==1)=false:=rfl;have h8z:decide ((8:Int)<(s.size:Int))=false:=decide_eq_false (by omega);rw[h8z]at HU;have HR:=Lib.hid (fun r h hr w=>runeWideS_any r h hr w);have HA:=Lib.hid (fun r w h0 h1=>Tryz.strings_IndexRune_ascii spS r w h0 h1);have HCo:=Lib.hid (fun x=>Lib.contains_iff_indexByte spL x);rw[spL_list]at HA;have HW:=Lib.hid (fun pos (hp:pos<s.size) ha hno=>wideS_no (s:=s) (pos:=pos) hp ha hno);generalize spS=t at *;go_enter Tryz.func146,Tryz.ntmps146;go_wp2_with fail;refine(HU.out _).mono ?_;rintro e w2 ⟨rfl,hw⟩;subst hw;clear HU;go_wp2_with fail;go_loopg [9,10] s.size (fun g _ _ wx=>∃i:Nat,i≤s.size∧s.size-i≤g∧wx.heap[w2.heap.size]? = some (.stringIter s i)∧Below w2.heap.size w2 wx∧Lib.NoAny s.data.toList spL i)
  case atStart=>exact⟨0,by omega,by omega,World.iter_heap _ _ _,(Below.refl _ _).alloc (Nat.le_refl _) _,Lib.NoAny.zero _ _⟩
  case round=>
   obtain⟨i,hi,hg,hIt,hb,hno⟩:=hrel;have HN:=Lib.hid hno;have HB:=Lib.hid hb;by_cases hlt:i<s.size
   ·obtain⟨g,rfl⟩:∃g,gk=g+1:=⟨gk-1,by omega⟩
    have hnx:∀ty,(Instr.next (.pointer (some ⟨w2.heap.size,0,none⟩)) true ty).run Tryz.prog wr=_:=fun ty=>Lib.run_next_any_at wr w2.heap.size s i ty hIt hlt
    obtain⟨x,hx⟩:∃x:UInt8,s[i]=x:=⟨_,rfl⟩;have Hx:Hid (s.data.toList[i]? = some x):=Lib.hid (by rw[←hx];exact Lib.data_getElem? s i hlt);by_cases h128:x.toNat<128
    ·have hdec:=decode_ascii s i hlt (by rw[hx];exact h128)
     rw[hdec,hx]at hnx;have hit1:=Lib.hid (Lib.iterAt_heap wr w2.heap.size s i (i+1) hIt);have hbw1:=Lib.hid (Lib.below_iterAt hb (k:=w2.heap.size) (Nat.le_refl _) s (i+1));have hA1:=Lib.hid (HA.out (x.toNat:Int) (wr.iterAt w2.heap.size s (i+1)) (by omega) (by omega));have hback:((x.toNat:Int)).toNat.toUInt8=x:=by simp
     rw[hback]at hA1;have hcon:=HCo.out x;clear hb hno hx hdec hIt hback HA HR HW HCo;generalize wr.iterAt w2.heap.size s (i+1)=w3 at *;generalize Lib.indexByte spL x=ix at *;cases hc:spL.contains x with
     |true=>
      have hge:0≤ix:=of_decide_eq_true (by rw[←hcon,hc]);have HF:=Lib.hid (Lib.indexAny_hit HN.out Hx.out hc);clear hcon hc;go_wp2_with fail;refine hA1.out.mono ?_;rintro e w4 ⟨rfl,hw⟩;subst hw;go_wp2_with fail;go_ret;exact⟨ret_int HF.out.symm,hbw1.out⟩
     |false=>
      have hge:¬0≤ix:=of_decide_eq_false (by rw[←hcon,hc]);have HF:=Lib.hid (HN.out.succ Hx.out hc);clear hcon hc;go_wp2_with fail;refine hA1.out.mono ?_;rintro e w4 ⟨rfl,hw⟩;subst hw;go_wp2_with fail;go_roundg g
      case measure=>omega
      case rel=>exact⟨i+1,by omega,by omega,hit1.out,hbw1.out,HF.out⟩
    ·have hge:128≤s[i].toNat:=by rw[hx];omega
     obtain⟨hr1,hr2⟩:=decode_high s i hlt hge;have hr3:=decode_le s i;obtain⟨hn1,hn2,hn3⟩:=HW.out i hlt hge hno;obtain⟨r,n,hrn⟩:∃r n,Utf8.decode s i=(r,n):=⟨_,_,rfl⟩;rw[hrn]at hnx hr1 hr2 hr3 hn1 hn2 hn3;simp only at hnx hr1 hr2 hr3 hn1 hn2 hn3;have HF:=Lib.hid hn3;have hit1:=Lib.hid (Lib.iterAt_heap wr w2.heap.size s i (i+n) hIt);have hbw1:=Lib.hid (Lib.below_iterAt hb (k:=w2.heap.size) (Nat.le_refl _) s (i+n));have hA1:=Lib.hid (HR.out (r:Int) (by omega) (by omega) (wr.iterAt w2.heap.size s (i+n)));clear hb hno hx hIt HA HR HW HCo hrn hge hn3;generalize wr.iterAt w2.heap.size s (i+n)=w3 at *;go_wp2_with fail;refine hA1.out.mono ?_;rintro e w4 ⟨rfl,hb4⟩;have hit4:=Lib.hid ((hb4.block _ (lt_of_at hit1.out)).trans hit1.out);have hbw4:=Lib.hid (hbw1.out.trans (hb4.mono hbw1.out.size));clear hb4;go_wp2_with fail;go_roundg g
     case measure=>omega
     case rel=>exact⟨i+n,hn1,by omega,hit4.out,hbw4.out,HF.out⟩
   ·have hnx:=fun ty=>Lib.run_next_end_at (P:=Tryz.prog) wr w2.heap.size s i ty hIt hlt
    have hsz:i=s.size:=by omega
    have HF:Hid (Lib.indexAny s.data.toList spL=-1):=Lib.hid (Lib.indexAny_none (by rw[len_data,←hsz];exact HN.out));clear hb hno;go_wp2_with fail;go_ret;exact⟨ret_int HF.out.symm,HB.out⟩
 ·have h:=Tryz.strings_IndexAny_long (zero_of_info set_info).1 s spS w (by decide) (by omega) (by omega) (by decide) spL_ascii
  refine h.mono ?_;rintro e w' ⟨rfl,hw⟩;refine⟨rfl,?_⟩;rw[hw];exact((Below.refl _ _).alloc (Nat.le_refl _) _).alloc (by simp) _
end Sp
end Go.Proofs.YtpakjdgddomdjabGreatDoor
