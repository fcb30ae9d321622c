import Derived.Test.YtpakjdgddomdjabGreatDoorPkJ
import Derived.Lib.AsciiSet
import Derived.Test.YtpakjdgddomdjabGreatDoorPkI
import Derived.Test.YtpakjdgddomdjabGreatDoorShelf
import Derived.Test.YtpakjdgddomdjabGreatDoorPkV
import Derived.Test.YtpakjdgddomdjabGreatDoorPkU
import Derived.Test.YtpakjdgddomdjabGreatDoorPkL
import Derived.Test.YtpakjdgddomdjabGreatDoorPkB
import Derived.Laws.StructEq
set_option linter.unusedVariables false
namespace Go.Proofs.YtpakjdgddomdjabGreatDoor
namespace Sp
open Go.RowKit
open Tk (ret_int at_data len_data)
open Cm (lt_of_at)
structure Chs (t:ByteArray):Prop where
 ascii:∀b∈t.data.toList,b.toNat<128
 two:2≤t.size
 few:t.size≤100
theorem Chs.get {t:ByteArray} (K:Chs t) (j:Nat) (b:UInt8) (h:t.data.toList[j]? = some b):b.toNat<128:=K.ascii b (List.mem_of_getElem? h)
theorem Chs.at {t:ByteArray} (K:Chs t) (i:Nat) (h:i<t.size):t[i].toNat<128∧((t[i].toNat:Int)==65533)=false:=by
 have hm:t[i]∈t.data.toList:=by
  have h1:=at_data t i h;have:t[i]∈t.data.toList.drop i:=by rw[h1];exact List.mem_cons_self ..
  exact List.mem_of_mem_drop this
 have:=K.ascii _ hm;exact⟨this,by rw[beq_eq_false_iff_ne];omega⟩
theorem idxO_none {x:UInt8}:∀{l:List UInt8},(∀b∈l,b≠x)→Lib.indexByte l x=-1
 |[],_=>rfl
 |b::r,h=>by
  have ih:=idxO_none (l:=r) (fun c hc=>h c (List.mem_cons_of_mem _ hc));have hb:=h b (List.mem_cons_self ..);rw[Lib.indexByte];simp[hb,ih]
theorem extO_from (s:ByteArray) (k:Nat):(s.extract k s.size).data.toList=s.data.toList.drop k:=by
 rw[ByteArray.data_extract];simp only[Array.toList_extract,List.extract_eq_take_drop];exact List.take_of_length_le (by simp)
theorem sliceO_from (x:ByteArray) (m:Nat) (h1:m≤x.size) (hx:x.size≤140737488355328) (w:World):
  (Instr.slice 9 (.string x) (some (.int .i64 (m:Int))) none none).run Tryz.prog w=.ok (.string (x.extract m x.size)) w:=by
 have h4:(m:Int)≤(x.size:Int):=by omega
 have h5:0≤(m:Int):=by omega
 go_simp
theorem wideO_no {t s:ByteArray} (K:Chs t) {pos:Nat} (hp:pos<s.size) (ha:128≤s[pos].toNat) (hno:Lib.NoAny s.data.toList t.data.toList pos):
  pos+(Utf8.decode s pos).2≤s.size∧1≤(Utf8.decode s pos).2∧Lib.NoAny s.data.toList t.data.toList (pos+(Utf8.decode s pos).2):=by
 have hd:=decN_wide (s.size-pos) (s.get! pos).toNat (s.get! (pos+1)).toNat (s.get! (pos+2)).toNat (s.get! (pos+3)).toNat (by omega) (by rw[get_nat s pos hp];exact ha);rw[←Lib.decode_at]at hd;generalize (Utf8.decode s pos).2=n at *;obtain⟨h1,h2,h3,h4,h5,h6⟩:=hd;refine⟨by omega,h1,fun j b hj hb=>?_⟩;by_cases hlt:j<pos
 ·exact hno j b hlt hb
 ·have hjs:j<s.size:=by omega
  have hbj:s[j]=b:=by
   rw[Lib.data_getElem? s j hjs]at hb;exact Option.some.inj hb
  have h128:128≤s[j].toNat:=by
   rcases(show j=pos∨j=pos+1∨j=pos+2∨j=pos+3 by omega)with rfl |rfl |rfl |rfl
   ·exact ha
   ·have:=h3 (by omega);rw[get_nat s _ hjs]at this;exact this
   ·have:=h4 (by omega);rw[get_nat s _ hjs]at this;exact this
   ·have:=h5 (by omega);rw[get_nat s _ hjs]at this;exact this
  rw[hbj]at h128;cases hc:t.data.toList.contains b with
  |false=>rfl
  |true=>
   have hm:b∈t.data.toList:=by simpa using hc
   have:=K.ascii b hm;omega
set_option maxHeartbeats 3200000 in
set_option maxRecDepth 100000 in
theorem runeWideO_any (s:ByteArray) (K:Chs s) (r:Int) (h:128≤r) (hr:r≤2147483647) (w:World):
  Calls Tryz.prog 168 #[.string s,.int .i32 r] w fun e w'=>e=.returned (.int .i64 (-1))∧Below w.heap.size w w':=by
 have hsz2:=K.two;have hsz1:=K.few;by_cases h65:r=65533
 ·subst h65
  have HA:=Lib.hid K.at;clear K;go_enter Tryz.func168,Tryz.ntmps168;go_wp2_with fail;go_loopg [5,6] s.size (fun g _ _ wx=>∃i:Nat,i+g=s.size∧wx=w.iter s i)
  case atStart=>exact⟨0,by omega,rfl⟩
  case round=>
   obtain⟨i,hig,rfl⟩:=hrel;cases gk with
   |zero=>
    obtain rfl:i=s.size:=by omega
    have hnx:=fun ty=>run_next_end (P:=Tryz.prog) w s s.size ty (by omega)
    go_wp2_with fail;go_ret;exact⟨rfl,(Below.refl _ _).alloc (Nat.le_refl _) _⟩
   |succ g=>
    have hi:i<s.size:=by omega
    have hnx:=fun ty=>run_next_ascii (P:=Tryz.prog) w s i ty hi (HA.out i hi).1
    have e1:=(HA.out i hi).2;go_wp2_with fail;go_roundg g
    case measure=>omega
    case rel=>exact⟨i+1,by omega,rfl⟩
 ·have e65:(r==65533)=false:=by rw[beq_eq_false_iff_ne];exact h65
  clear h65;have HV:=Lib.hid (Tryz.utf8_ValidRune r w);cases hv:Lib.validRune r with
  |false=>
   rw[hv]at HV;clear hv;go_enter Tryz.func168,Tryz.ntmps168;go_wp2_with fail;refine HV.out.mono ?_;rintro e w2 ⟨rfl,hw⟩;subst hw;clear HV;go_wp2_with fail;go_ret;exact⟨rfl,Below.refl _ _⟩
  |true=>
   rw[hv]at HV;obtain⟨t,ht,ht2,ht4,htl,ht8⟩:=enc_wide r h (valid_rune hv);have HC1:Hid (∀(k:Nat) (h:k<s.size),s[k].toNat<128):=Lib.hid (fun k h=>(K.at k h).1)
   have HI2:Hid (∀(k:Nat) (x:UInt8),128≤x.toNat→Lib.indexByte (s.extract k s.size).data.toList x=-1):=Lib.hid (fun k x hx=>idxO_none (fun b hb=>by
    rw[extO_from]at hb;have hb:=List.mem_of_mem_drop hb;have:b.toNat<128:=K.ascii b hb;intro e;rw[e]at this;omega))
   clear hv K;go_enter Tryz.func168,Tryz.ntmps168;go_wp2_with fail;refine HV.out.mono ?_;rintro e w2 ⟨rfl,hw⟩;subst hw;clear HV;go_wp2_with fail;have HI:=Lib.hid (fun(k:Nat) (x:UInt8) (w':World)=>Tryz.strings_IndexByte (s.extract k s.size) (x.toNat:Int) w');go_step3;go_wp2_with fail;clear ht;obtain⟨m,hm⟩:∃m:Nat,t.size=m+1:=⟨t.size-1,by omega⟩;obtain⟨x,hx⟩:∃x,t[t.size-1]=x:=⟨_,rfl⟩;rw[hx]at ht8;have hx1:t[m]'(by omega)=x:=by rw[←hx];congr 1;omega
   by_cases hms:m<s.size
   ·go_loopw [9,10] (fun i f wr=>i=.int .i64 m∧wr=w2) (fun _ _ _=>0)
    case atStart=>exact⟨by rw[hm];simp,rfl⟩
    case round=>
     obtain⟨rfl,rfl⟩:=hrel;have hi1:(m:Int)<(s.size:Int):=by omega
     have hs1:=HC1.out m hms;have hne:((s[m].toNat:Int)!=(x.toNat:Int))=true:=by rw[bne_iff_ne];omega
     have HJ:=Lib.hid (HI.out (m+1) x);have hv:=HI2.out (m+1) x ht8;have hback:((x.toNat:Int)).toNat.toUInt8=x:=by simp
     rw[hback]at HJ;rw[hv]at HJ;have hsl:=fun w=>sliceO_from s (m+1) (by omega) (by omega) w
     rw[show((m+1:Nat):Int)=(m:Int)+1 by omega]at hsl;have hw2:IntKind.i64.wrap ((m:Int)+1)=(m:Int)+1:=by rw[IntKind.wrap_i64];omega
     clear hx hv hback HI HI2 HC1 hs1;generalize s.extract (m+1) s.size=se at *;go_wp2_with fail;go_step3;go_wp2_with fail;go_quiet (fail);go_wp2_with fail;go_quiet ((go_at_call 76;refine(HJ.out _).mono ?_;rintro e w'' ⟨he,hw⟩;exact⟨he,_,hw⟩));go_wp2_with fail;rw[Exit.noGoto_ret];go_wp2_with fail;rw[Exit.noGoto_ret];go_wp2_with fail;go_ret;exact⟨rfl,below_drewN (Below.refl _ _) _⟩
   ·go_loopw [9,10] (fun i f wr=>i=.int .i64 m∧wr=w2) (fun _ _ _=>0)
    case atStart=>exact⟨by rw[hm];simp,rfl⟩
    case round=>
     obtain⟨rfl,rfl⟩:=hrel;have hi1:¬((m:Int)<(s.size:Int)):=by omega
     clear HI HI2 HC1;go_wp2_with fail;go_ret;exact⟨rfl,Below.refl _ _⟩
set_option maxHeartbeats 6400000 in
set_option maxRecDepth 100000 in
theorem indexAnyO_any (t:ByteArray) (K:Chs t) (s:ByteArray) (hs:s.size≤140737488355328) (w:World) :
   Calls Tryz.prog 146 #[.string s,.string t] w fun e w'=>e = .returned (.int .i64 (Lib.indexAny s.data.toList t.data.toList))∧Below w.heap.size w w':=by
 have hsz2:=K.two;have hsz1:=K.few
 have hemp:(t.toList == ([]:List UInt8))=false:=by
   rw [Lib.toList_data];cases hd:t.data.toList with
   | nil => have:t.data.toList.length=0:=by rw [hd];rfl
            rw [len_data] at this;omega
   | cons _ _=>rfl
 have hn1:((t.size:Int) == 1)=false:=beq_eq_false_iff_ne.2 (by omega);have HU:=Lib.hid (fun w=>Tryz.strings_shouldUseASCIISet (s.size:Int) w);by_cases h8:s.size≤8
 · have h8z:decide ((8:Int) < (s.size:Int))=false:=decide_eq_false (by omega)
   rw [h8z] at HU;have HR:=Lib.hid (fun r h hr w=>runeWideO_any t K r h hr w);have HA:=Lib.hid (fun r w h0 h1=>Tryz.strings_IndexRune_ascii t r w h0 h1);have HCo:=Lib.hid (fun x=>Lib.contains_iff_indexByte t.data.toList x);have HW:=Lib.hid (fun pos (hp:pos < s.size) ha hno=>wideO_no (s:=s) K (pos:=pos) hp ha hno);clear K;generalize t.data.toList=cl at *;go_enter Tryz.func146,Tryz.ntmps146;go_wp2_with fail;refine (HU.out _).mono ?_;rintro e w2 ⟨rfl,hw⟩;subst hw;clear HU;go_wp2_with fail;go_loopg [9,10] s.size (fun g _ _ wx=>∃ i:Nat,i≤s.size∧s.size - i≤g∧wx.heap[w2.heap.size]? = some (.stringIter s i)∧Below w2.heap.size w2 wx∧Lib.NoAny s.data.toList cl i)
   case atStart=>exact ⟨0,by omega,by omega,World.iter_heap _ _ _,(Below.refl _ _).alloc (Nat.le_refl _) _,Lib.NoAny.zero _ _⟩
   case round =>
     obtain ⟨i,hi,hg,hIt,hb,hno⟩:=hrel;have HN:=Lib.hid hno;have HB:=Lib.hid hb;by_cases hlt:i < s.size
     · obtain ⟨g,rfl⟩:∃ g,gk=g+1:=⟨gk - 1,by omega⟩
       have hnx:∀ ty,(Instr.next (.pointer (some ⟨w2.heap.size,0,none⟩)) true ty).run Tryz.prog wr=_:=fun ty=>Lib.run_next_any_at wr w2.heap.size s i ty hIt hlt
       obtain ⟨x,hx⟩:∃ x:UInt8,s[i]=x:=⟨_,rfl⟩;have Hx:Hid (s.data.toList[i]? = some x):=Lib.hid (by rw [← hx];exact Lib.data_getElem? s i hlt);by_cases h128:x.toNat < 128
       · have hdec:=decode_ascii s i hlt (by rw [hx];exact h128)
         rw [hdec,hx] at hnx;have hit1:=Lib.hid (Lib.iterAt_heap wr w2.heap.size s i (i+1) hIt);have hbw1:=Lib.hid (Lib.below_iterAt hb (k:=w2.heap.size) (Nat.le_refl _) s (i+1));have hA1:=Lib.hid (HA.out (x.toNat:Int) (wr.iterAt w2.heap.size s (i+1)) (by omega) (by omega));have hback:((x.toNat:Int)).toNat.toUInt8=x:=by simp
         rw [hback] at hA1;have hcon:=HCo.out x;clear hb hno hx hdec hIt hback HA HR HW HCo;generalize wr.iterAt w2.heap.size s (i+1)=w3 at *;generalize Lib.indexByte cl x=ix at *;cases hc:cl.contains x with
         | true =>
           have hge:0≤ix:=of_decide_eq_true (by rw [← hcon,hc]);have HF:=Lib.hid (Lib.indexAny_hit HN.out Hx.out hc);clear hcon hc;go_wp2_with fail;refine hA1.out.mono ?_;rintro e w4 ⟨rfl,hw⟩;subst hw;go_wp2_with fail;go_ret;exact ⟨ret_int HF.out.symm,hbw1.out⟩
         | false =>
           have hge:¬ 0≤ix:=of_decide_eq_false (by rw [← hcon,hc]);have HF:=Lib.hid (HN.out.succ Hx.out hc);clear hcon hc;go_wp2_with fail;refine hA1.out.mono ?_;rintro e w4 ⟨rfl,hw⟩;subst hw;go_wp2_with fail;go_roundg g
           case measure=>omega
           case rel=>exact ⟨i+1,by omega,by omega,hit1.out,hbw1.out,HF.out⟩
       · have hge:128≤s[i].toNat:=by rw [hx];omega
         obtain ⟨hr1,hr2⟩:=decode_high s i hlt hge;have hr3:=decode_le s i;obtain ⟨hn1',hn2,hn3⟩:=HW.out i hlt hge hno;obtain ⟨r,n,hrn⟩:∃ r n,Utf8.decode s i=(r,n):=⟨_,_,rfl⟩;rw [hrn] at hnx hr1 hr2 hr3 hn1' hn2 hn3;simp only at hnx hr1 hr2 hr3 hn1' hn2 hn3;have HF:=Lib.hid hn3;have hit1:=Lib.hid (Lib.iterAt_heap wr w2.heap.size s i (i+n) hIt);have hbw1:=Lib.hid (Lib.below_iterAt hb (k:=w2.heap.size) (Nat.le_refl _) s (i+n));have hA1:=Lib.hid (HR.out (r:Int) (by omega) (by omega) (wr.iterAt w2.heap.size s (i+n)));clear hb hno hx hIt HA HR HW HCo hrn hge hn3;generalize wr.iterAt w2.heap.size s (i+n)=w3 at *;go_wp2_with fail;refine hA1.out.mono ?_;rintro e w4 ⟨rfl,hb4⟩;have hit4:=Lib.hid ((hb4.block _ (lt_of_at hit1.out)).trans hit1.out);have hbw4:=Lib.hid (hbw1.out.trans (hb4.mono hbw1.out.size));clear hb4;go_wp2_with fail;go_roundg g
         case measure=>omega
         case rel=>exact ⟨i+n,hn1',by omega,hit4.out,hbw4.out,HF.out⟩
     · have hnx:=fun ty=>Lib.run_next_end_at (P:=Tryz.prog) wr w2.heap.size s i ty hIt hlt
       have hsz:i=s.size:=by omega
       have HF:Hid (Lib.indexAny s.data.toList cl = -1):=Lib.hid (Lib.indexAny_none (by rw [len_data,← hsz];exact HN.out));clear hb hno;go_wp2_with fail;go_ret;exact ⟨ret_int HF.out.symm,HB.out⟩
 · have h8z:decide ((8:Int) < (s.size:Int))=true:=decide_eq_true (by omega)
   rw [h8z] at HU;have HM:=Lib.hid (fun w=>Tryz.strings_makeASCIISet (zero_of_info set_info).1 t w (by omega) K.get);have HK:=Lib.hid (fun b x v w hc=>Tryz.asciiSet_contains b x v w hc);have hsc:=fun (w0:World)=>run_storeCells_new (P:=Tryz.prog) w0 148 (Array.replicate 256 (.bool false)) (Lib.setCells t.data.toList) (by rw [Lib.setCells_size];kernel_rfl) (by rw [Lib.setCells_size];rfl) (Lib.setCells_one _)
   have hCs:(Lib.setCells t.data.toList).size=256:=Lib.setCells_size _;rw [show Array.replicate 256 (Value.bool false)=Tryz.zeroCells148 from by kernel_rfl] at hsc;have HS:Hid (∀ (w0:World) (x:UInt8),(w0.alloc (.cells (Lib.setCells t.data.toList) 148)).cell? ⟨w0.heap.size,x.toNat,none⟩=some (.bool (t.data.toList.contains x))):=Lib.hid (fun w0 x=>by rw [World.cell?_alloc_new,Lib.setCells_at]);clear K;generalize Lib.setCells t.data.toList=C at *;generalize t.data.toList=cl at *;go_enter Tryz.func146,Tryz.ntmps146;go_wp2_with fail;refine (HU.out _).mono ?_;rintro e w2 ⟨rfl,hw⟩;subst hw;clear HU;go_wp2_with fail;refine (HM.out _).mono ?_;rintro e w3 ⟨rfl,hw⟩;have HB3:Hid (Below w2.heap.size w2 w3):=Lib.hid (by rw [hw];exact (Below.refl _ _).alloc (Nat.le_refl _) _);clear hw HM;go_wp2_with fail;have HB4:=Lib.hid (HB3.out.trans (((Below.refl w3.heap.size w3).alloc (Nat.le_refl _) (.cells C 148)).mono HB3.out.size));have HS3:=Lib.hid (HS.out w3);clear HS HB3 hsc hCs;generalize w3.alloc (.cells C 148)=w4 at *;generalize w3.heap.size=b3 at *;go_loopg [8] s.size (fun g s8 wx=>∃ i:Nat,i+g=s.size∧s8 = .int .i64 i∧wx=w4∧Hid (Lib.NoAny s.data.toList cl i))
   case atStart=>exact ⟨0,by omega,rfl,rfl,Lib.hid (Lib.NoAny.zero _ _)⟩
   case round =>
     obtain ⟨i,hig,rfl,rfl,HN⟩:=hrel;cases gk with
     | zero =>
       obtain rfl:i=s.size:=by omega
       have hiz:¬ ((s.size:Int) < (s.size:Int)):=by omega
       have HF:Hid (Lib.indexAny s.data.toList cl = -1):=Lib.hid (Lib.indexAny_none (by rw [len_data];exact HN.out));clear HN hig;go_wp2_with fail;go_ret;exact ⟨ret_int HF.out.symm,HB4.out⟩
     | succ g =>
       have hi:i < s.size:=by omega
       have hiz:(i:Int) < (s.size:Int):=by omega
       obtain ⟨x,hx⟩:∃ x:UInt8,s[i]'hi=x:=⟨_,rfl⟩;have Hx:Hid (s.data.toList[i]? = some x):=Lib.hid (by rw [← hx];exact Lib.data_getElem? s i hi);have HKx:=Lib.hid (HK.out b3 x _ wr (HS3.out x));cases hin:cl.contains x with
       | true =>
         rw [hin] at HKx;have HF:=Lib.hid (Lib.indexAny_hit HN.out Hx.out hin);clear hin;go_wp2_with fail;refine HKx.out.mono ?_;rintro e w5 ⟨rfl,hw⟩;subst hw;go_wp2_with fail;go_ret;exact ⟨ret_int HF.out.symm,HB4.out⟩
       | false =>
         rw [hin] at HKx;have HF:=Lib.hid (HN.out.succ Hx.out hin);clear hin;go_wp2_with fail;refine HKx.out.mono ?_;rintro e w5 ⟨rfl,hw⟩;subst hw;go_wp2_with fail;go_roundg g
         case measure=>omega
         case rel=>exact ⟨i+1,by omega,by go_num,rfl,HF⟩
theorem containsO_any (t:ByteArray) (K:Chs t) (s:ByteArray) (hs:s.size≤140737488355328) (w:World):
  Calls Tryz.prog 116 #[.string s,.string t] w (OkAns w (Lib.containsAny s.data.toList t.data.toList)):=by
 have HI:=Lib.hid (indexAnyO_any t K s hs w);have HR:Hid (decide (0≤Lib.indexAny s.data.toList t.data.toList)=Lib.containsAny s.data.toList t.data.toList):=Lib.hid rfl;generalize Lib.indexAny s.data.toList t.data.toList=ix at *;generalize Lib.containsAny s.data.toList t.data.toList=y at *;clear K;go_enter Tryz.func116,Tryz.ntmps116;go_wp2_with fail;refine HI.out.mono ?_;rintro e w2 ⟨rfl,hb⟩;have HB:=Lib.hid hb;clear hb HI;go_wp2_with fail;go_ret;exact⟨ret_bool HR.out,HB.out⟩
end Sp
namespace Sp
open Go.RowKit
open Tk (S S_list)
open Cm (alloc_new alloc_at cell_at set_at frozen_at)
def lnC (l:List Sp):Int:=IntKind.i64.wrap (1+((plAll l).count 10:Nat))
theorem wrap_wrap (a b:Int):IntKind.i64.wrap (IntKind.i64.wrap a+b)=IntKind.i64.wrap (a+b):=by
 rw[IntKind.wrap_i64,IntKind.wrap_i64,IntKind.wrap_i64];omega
def CntW (b:Nat) (p:List UInt8) (w:World):Prop:=w.heap[b]? = some (Obj.cells #[.int .i64 (IntKind.i64.wrap (1+(p.count 10:Nat)))] 3 (0,0))
theorem linesW1_any (B b:Nat) (p s:List UInt8) (w:World) (h:CntW b p w) (hB:B≤b):
  Calls Tryz.prog 158 #[.string (S s),.pointer (some ⟨b,0,none⟩)] w fun e w'=>e=.returned (.tuple #[])∧Below B w w'∧CntW b (p++s) w'∧∀(k:Nat) (c:Array Value),w.heap[k]? = some (Obj.cells c 71 (0,0))→w'.heap[k]? = some (Obj.cells c 71 (0,0)):=by
 have HC:=Lib.hid (fun w=>Tryz.strings_Count_one (S s) 10 w)
 have HS:Hid (IntKind.i64.wrap (IntKind.i64.wrap (1+(p.count 10:Nat))+(Lib.countByte (S s).data.toList 10:Nat))=IntKind.i64.wrap (1+((p++s).count 10:Nat))):=Lib.hid (by
  unfold Lib.countByte
  rw[wrap_wrap,S_list,List.count_append]
  push_cast
  congr 1
  omega)
 have c0:w.cell? ⟨b,0,none⟩=some (.int .i64 (IntKind.i64.wrap (1+(p.count 10:Nat)))):=cell_at h 0
 have f0:w.frozen? ⟨b,0,none⟩=false:=frozen_at h 0
 have HH:=Lib.hid h
 unfold CntW at HH
 have HG:Hid (CntW b (p++s) (w.setCell ⟨b,0,none⟩ (.int .i64 (IntKind.i64.wrap (1+((p++s).count 10:Nat)))))):=Lib.hid (by unfold CntW;exact set_at HH.out 0 _)
 clear h
 generalize Lib.countByte (S s).data.toList 10=n at *
 generalize S s=t at *
 obtain⟨m,hm⟩:∃m,IntKind.i64.wrap (1+(p.count 10:Nat))=m:=⟨_,rfl⟩
 rw[hm]at c0 HH HS
 obtain⟨mn,hmn⟩:∃m,IntKind.i64.wrap (1+((p++s).count 10:Nat))=m:=⟨_,rfl⟩
 rw[hmn]at HG HS
 clear hm hmn
 have hw:=HS.out
 have HK:Hid (∀(v:Value) (k:Nat) (c:Array Value),w.heap[k]? = some (Obj.cells c 71 (0,0))→(w.setCell ⟨b,0,none⟩ v).heap[k]? = some (Obj.cells c 71 (0,0))):=Lib.hid (fun v k c hk=>by
  rw[Below.heap_setCell _ _ _ _ (fun e=>by
   have e:k=b:=e
   subst e
   rw[HH.out]at hk
   simp at hk)]
  exact hk)
 have HBl:Hid (∀v,Below B w (w.setCell ⟨b,0,none⟩ v)):=Lib.hid (fun v=>(Below.refl B w).setCell (p:=⟨b,0,none⟩) hB v)
 go_enter Tryz.func158,Tryz.ntmps158
 go_region_with (go_at_call 159;refine(HC.out _).mono ?_;rintro e w' ⟨rfl,hw⟩;subst hw)
 all_goals go_end0
 all_goals exact⟨rfl,(HBl.out _).drew,HG.out,fun k c hk=>HK.out _ k c hk⟩
def IntW (w:World) (n:Int) (e:Ending) (w':World):Prop:=e=.returned (.int .i64 n)∧Below w.heap.size w w'
theorem linesWP_any (l:List Sp) (v:Value) (w:World) (ht:Tr w v l):
  Calls Tryz.prog 133 #[v] w (IntW w (lnC l)):=by
 have hK:Sink 158 (.pointer (some ⟨w.heap.size,0,none⟩)) w.heap.size (plAll l).length (fun p w'=>CntW w.heap.size p w'):=
  ⟨enters_of Tryz.func158 (by kernel_rfl) rfl,fun p w' o h=>alloc_at h o,fun p s w' h hB hl=>linesW1_any _ _ p s w' h (Nat.le_refl _)⟩
 have hb1:Below w.heap.size w (w.alloc (.cells #[.int .i64 1] 3)):=(Below.refl _ _).alloc (Nat.le_refl _) _;have hf:CntW w.heap.size [] (w.alloc (.cells #[.int .i64 1] 3)):=alloc_new w _;have HR:=Lib.hid (read_any _ _ (plAll l).length _ w hK (totAll l) l v (w.alloc (.cells #[.int .i64 1] 3)) [] (Nat.le_refl _) ht hb1 hf (by simp));obtain⟨ao,ca,rfl⟩:=ht.len;rw[List.nil_append]at HR;have HX:Hid (lnC l=IntKind.i64.wrap (1+((plAll l).count 10:Nat))):=Lib.hid rfl;obtain⟨X,hX⟩:∃X,lnC l=X:=⟨_,rfl⟩;rw[hX]at HX;rw[hX];clear hK hb1 hf ht hX;generalize plAll l=p at *;go_enter Tryz.func133,Tryz.ntmps133;go_wp2_with fail;refine HR.out.mono ?_;rintro e w2 ⟨rfl,hb2,hi2⟩;have HB2:=Lib.hid hb2;unfold CntW at hi2;rw[←HX.out]at hi2;have c0:w2.cell? ⟨w.heap.size,0,none⟩=some (.int .i64 X):=cell_at hi2 0;clear hb2 hi2 HR HX;go_wp2_with fail;go_ret;exact⟨rfl,HB2.out⟩
end Sp
namespace Bt
open Go.RowKit
open Tk (S S_of S_list S_size S_toList Rd)
open Sp (hsB spB ret_bool OkAns Chs containsO_any any_mem has_mem check_row beq_dec)
open Utf (chk)
def lfcr:ByteArray:=⟨#[10,13]⟩
theorem lfcr_chs:Chs lfcr:=⟨by decide,by decide,by decide⟩
theorem lfcr_has (s:List UInt8):Lib.containsAny s lfcr.data.toList=(hsB 10 s||hsB 13 s):=by
 rw[Bool.eq_iff_iff,any_mem,Bool.or_eq_true,has_mem,has_mem];constructor
 ·rintro⟨b,hb,hc⟩
  have:b=10∨b=13:=by simpa [lfcr]using hc
  rcases this with rfl |rfl
  ·exact Or.inl hb
  ·exact Or.inr hb
 ·rintro(h |h)
  ·exact⟨10,h,by decide⟩
  ·exact⟨13,h,by decide⟩
def brk:ByteArray:=⟨#[91,93,92]⟩
theorem brk_chs:Chs brk:=⟨by decide,by decide,by decide⟩
theorem brk_has (s:List UInt8):Lib.containsAny s brk.data.toList=(hsB 91 s||hsB 93 s||hsB 92 s):=by
 rw[Bool.eq_iff_iff,any_mem,Bool.or_eq_true,Bool.or_eq_true,has_mem,has_mem,has_mem];constructor
 ·rintro⟨b,hb,hc⟩
  have:b=91∨b=93∨b=92:=by simpa [brk]using hc
  rcases this with rfl |rfl |rfl
  ·exact Or.inl (Or.inl hb)
  ·exact Or.inl (Or.inr hb)
  ·exact Or.inr hb
 ·rintro((h |h)|h)
  ·exact⟨91,h,by decide⟩
  ·exact⟨93,h,by decide⟩
  ·exact⟨92,h,by decide⟩
theorem isLineP_any (s:ByteArray) (hs:s.size≤140737488355328) (w:World):
  Calls Tryz.prog 114 #[.string s] w (OkAns w (lineB s.data.toList)):=by
 have hca:=fun(w:World) (t:ByteArray)=>run_bytes_of_string (P:=Tryz.prog) w 9 49 5 t Tryz.underlying9 Tryz.underlying49 Tryz.underlying5
 have HA:=Lib.hid (containsO_any lfcr lfcr_chs s hs w);rw[lfcr_has]at HA;have hE:(⟨#[10,13]⟩:ByteArray)=lfcr:=rfl;have HC:=Lib.hid (fun w'=>check_row s w' hs);have HX:Hid (lineB s.data.toList=((chk s==0)&&!(hsB 10 s.data.toList||hsB 13 s.data.toList))):=Lib.hid (by unfold lineB ckB;rw[S_of,beq_dec,Bool.not_or,Bool.and_assoc]);rw[←hE]at HA;generalize chk s=c at *;obtain⟨X,hX⟩:∃X,lineB s.data.toList=X:=⟨_,rfl⟩;rw[hX]at HX ⊢;clear hX hE;generalize (hsB 10 s.data.toList||hsB 13 s.data.toList)=y at *;go_enter Tryz.func114,Tryz.ntmps114;go_wp2_with fail;refine HA.out.mono ?_;rintro e w2 ⟨rfl,b2⟩;have HB2:=Lib.hid b2;have HC2:=Lib.hid (HC.out w2);clear HA HC b2;cases y with
 |true=>
  have HR:Hid (X=false):=Lib.hid (by rw[HX.out];simp);go_wp2_with fail;go_ret;exact⟨ret_bool HR.out.symm,HB2.out⟩
 |false=>
  have HR:Hid (X=(c==0)):=Lib.hid (by rw[HX.out];simp);go_wp2_with fail;refine HC2.out.mono ?_;rintro e w3 ⟨rfl,b3⟩;have HB3:=Lib.hid (HB2.out.trans (b3.mono HB2.out.size));clear HC2 b3 hca;go_wp2_with fail;go_ret;exact⟨ret_bool HR.out.symm,HB3.out⟩
theorem gap_sp (b:UInt8):Ln.gapB b=spB b:=by
 unfold Ln.gapB spB;rw[Bool.eq_iff_iff];simp
theorem trim_tight (l:List UInt8):(Ln.trim l==l)=tgB l:=by
 cases l with
 |nil=>rfl
 |cons b r=>
  unfold tgB;rw[List.isEmpty_cons,Bool.false_or,List.headD_cons,List.getLastD_eq_getLast?,←gap_sp,←gap_sp];cases hc:(b::r).getLast? with
  |none=>simp at hc
  |some c=>
   rw[Option.getD_some,Bool.eq_iff_iff,beq_iff_eq,Bool.and_eq_true,Bool.not_eq_true',Bool.not_eq_true'];constructor
   ·intro h
    have h1:=Ln.trim_head (b::r) b (by rw[h];rfl);have h2:=Ln.trim_last (b::r) c (by rw[h];exact hc);exact⟨h1,h2⟩
   ·rintro⟨h1,h2⟩
    unfold Ln.trim
    rw[Ln.dr_fix _ (fun x hx=>by rw[hc]at hx;cases hx;exact h2),Ln.dl_fix _ (fun x hx=>by
     rw[List.head?_cons]at hx;cases hx;exact h1)]
theorem tightP_any (s:ByteArray) (hs:s.size≤140737488355328) (w:World):
  Calls Tryz.prog 115 #[.string s] w (OkAns w (tgB s.data.toList)):=by
 have HT:=Lib.hid (Ln.trim_any s (by omega) w);have HR:Hid (((Ln.S (Ln.trim s.data.toList)).toList==s.toList)=tgB s.data.toList):=Lib.hid (by rw[Ln.S_toList,Lib.toList_data,trim_tight]);generalize Ln.S (Ln.trim s.data.toList)=t at *;generalize tgB s.data.toList=y at *;go_enter Tryz.func115,Tryz.ntmps115;go_wp2_with fail;refine HT.out.mono ?_;rintro e w2 ⟨rfl,b2⟩;have HB2:=Lib.hid b2;clear HT b2;go_wp2_with fail;go_ret;exact⟨ret_bool HR.out,HB2.out⟩
theorem idx_has (c:UInt8) (s:List UInt8):decide (Lib.indexByte s c<0)= !hsB c s:=by
 have h:=Lib.contains_iff_indexByte s c;have h2:s.contains c=hsB c s:=by rw[Bool.eq_iff_iff,has_mem];simp
 rw[h2]at h;rw[h];by_cases hx:Lib.indexByte s c<0
 ·rw[decide_eq_true hx,decide_eq_false (by omega)];rfl
 ·rw[decide_eq_false hx,decide_eq_true (by omega)];rfl
theorem isInfoP_any (s:ByteArray) (hs:s.size≤140737488355328) (w:World):
  Calls Tryz.prog 102 #[.string s] w (OkAns w (infB s.data.toList)):=by
 have HL:=Lib.hid (isLineP_any s hs w);have HT:=Lib.hid (fun w'=>tightP_any s hs w');have HI:=Lib.hid (fun w'=>Tryz.strings_IndexByte s 96 w');have HX:Hid (infB s.data.toList=(lineB s.data.toList&&tgB s.data.toList&&decide (Lib.indexByte s.data.toList 96<0))):=Lib.hid (by rw[idx_has];rfl);have h96:(96:Int).toNat.toUInt8=96:=rfl;rw[h96]at HI;obtain⟨X,hX⟩:∃X,infB s.data.toList=X:=⟨_,rfl⟩;rw[hX]at HX ⊢;clear hX h96;generalize lineB s.data.toList=y1 at *;generalize tgB s.data.toList=y2 at *;generalize Lib.indexByte s.data.toList 96=ix at *;go_enter Tryz.func102,Tryz.ntmps102;go_wp2_with fail;refine HL.out.mono ?_;rintro e w2 ⟨rfl,b2⟩;have HB2:=Lib.hid b2;have HT2:=Lib.hid (HT.out w2);clear HL HT b2;cases y1 with
 |false=>
  have HR:Hid (X=false):=Lib.hid (by rw[HX.out];simp);go_wp2_with fail;go_ret;exact⟨ret_bool HR.out.symm,HB2.out⟩
 |true=>
  go_wp2_with fail;refine HT2.out.mono ?_;rintro e w3 ⟨rfl,b3⟩;have HB3:=Lib.hid (HB2.out.trans (b3.mono HB2.out.size));have HI3:=Lib.hid (HI.out w3);clear HT2 HI b3;cases y2 with
  |false=>
   have HR:Hid (X=false):=Lib.hid (by rw[HX.out];simp);go_wp2_with fail;go_ret;exact⟨ret_bool HR.out.symm,HB3.out⟩
  |true=>
   have HR:Hid (X=decide (ix<0)):=Lib.hid (by rw[HX.out];simp);go_wp2_with fail;refine HI3.out.mono ?_;rintro e w4 ⟨rfl,rfl⟩;go_wp2_with fail;go_ret;exact⟨ret_bool HR.out.symm,HB3.out⟩
theorem labelP_any (s:ByteArray) (hs:s.size≤140737488355328) (w:World) :
   Calls Tryz.prog 80 #[.string s] w (OkAns w (labB s.data.toList)):=by
 have HL:=Lib.hid (isLineP_any s hs w);have HT:=Lib.hid (fun w'=>tightP_any s hs w');have HA:=Lib.hid (fun w'=>containsO_any brk brk_chs s hs w');simp only [brk_has] at HA;have hE:(⟨#[91,93,92]⟩:ByteArray)=brk:=rfl;rw [← hE] at HA;have HX:Hid (labB s.data.toList=(!s.data.toList.isEmpty && lineB s.data.toList && tgB s.data.toList && !(hsB 91 s.data.toList || hsB 93 s.data.toList || hsB 92 s.data.toList))):=Lib.hid (by unfold labB;rw [Bool.not_or,Bool.not_or];simp only [Bool.and_assoc]);have HEm:Hid ((s.toList == ([]:List UInt8))=s.data.toList.isEmpty):=Lib.hid (by rw [Lib.toList_data];cases s.data.toList <;> rfl);have HEn:Hid ((s.toList != ([]:List UInt8)) = !s.data.toList.isEmpty):=Lib.hid (by rw [Lib.toList_data];cases s.data.toList <;> rfl);obtain ⟨X,hX⟩:∃ X,labB s.data.toList=X:=⟨_,rfl⟩;rw [hX] at HX ⊢;clear hX hE;generalize lineB s.data.toList=y1 at *;generalize tgB s.data.toList=y2 at *;generalize (hsB 91 s.data.toList || hsB 93 s.data.toList || hsB 92 s.data.toList)=y3 at *;generalize s.data.toList.isEmpty=ne at *;cases ne with
 | true =>
   have em:=HEm.out;have en:=HEn.out;have HR:Hid (X=false):=Lib.hid (by rw [HX.out];simp);clear HX HEm HT HL HA HEn;go_enter Tryz.func80,Tryz.ntmps80;go_wp2_with fail;go_ret;exact ⟨ret_bool HR.out.symm,Below.refl _ _⟩
 | false =>
   have em:=HEm.out;have en:=HEn.out;clear HEm HEn;go_enter Tryz.func80,Tryz.ntmps80;go_wp2_with fail;refine HL.out.mono ?_;rintro e w2 ⟨rfl,b2⟩;have HB2:=Lib.hid b2;have HT2:=Lib.hid (HT.out w2);clear HL HT b2;cases y1 with
   | false =>
     have HR:Hid (X=false):=Lib.hid (by rw [HX.out];simp);go_wp2_with fail;go_ret;exact ⟨ret_bool HR.out.symm,HB2.out⟩
   | true =>
     go_wp2_with fail;refine HT2.out.mono ?_;rintro e w3 ⟨rfl,b3⟩;have HB3:=Lib.hid (HB2.out.trans (b3.mono HB2.out.size));have HA3:=Lib.hid (HA.out w3);clear HT2 HA b3;cases y2 with
     | false =>
       have HR:Hid (X=false):=Lib.hid (by rw [HX.out];simp);go_wp2_with fail;go_ret;exact ⟨ret_bool HR.out.symm,HB3.out⟩
     | true =>
       have HR:Hid (X = !y3):=Lib.hid (by rw [HX.out];simp);go_wp2_with fail;refine HA3.out.mono ?_;rintro e w4 ⟨rfl,b4⟩;have HB4:=Lib.hid (HB3.out.trans (b4.mono HB3.out.size));clear b4;go_wp2_with fail;go_ret;exact ⟨ret_bool HR.out.symm,HB4.out⟩
set_option maxHeartbeats 800000 in
theorem codeRightP_any (v:Value) (xs:List (List UInt8)) (w:World) (hr:Rd w v xs) (hn:xs.length≤9223372036854775807) (hl:∀s∈xs,s.length≤140737488355328):
  Calls Tryz.prog 103 #[v] w (OkAns w (xs.all lineB)):=by
 obtain⟨ao,ca,rfl⟩:=hr.len;have HRd:=Lib.hid (fun w' (h:Below w.heap.size w w')=>Rd.at (hr.below h));have HL:=Lib.hid (fun k (hk:k<xs.length) w'=>isLineP_any (S xs[k]) (by rw[S_size];exact hl _ (List.getElem_mem hk)) w');simp only[S_list]at HL;have H0:Hid (xs.all lineB=(xs.drop 0).all lineB):=Lib.hid (by rw[List.drop_zero]);obtain⟨X,hX⟩:∃X,xs.all lineB=X:=⟨_,rfl⟩;rw[hX]at H0 ⊢;clear hX hr hl;go_enter Tryz.func103,Tryz.ntmps103;go_wp2_with fail;go_loopw [7] (fun i wr=>∃k:Nat,k≤xs.length∧i=.int .i64 k∧Hid (Below w.heap.size w wr)∧Hid (X=(xs.drop k).all lineB)) (fun i _=>xs.length-(intOf i).toNat)
 case atStart=>exact⟨0,Nat.zero_le _,rfl,Lib.hid (Below.refl _ _),H0⟩
 case round=>
  clear H0;obtain⟨k,hk,rfl,HB,HN⟩:=hrel;by_cases hlt:k<xs.length
  ·have hnx:=HN.out
   rw[List.drop_eq_getElem_cons hlt,List.all_cons]at hnx;have hi1:(k:Int)<(xs.length:Int):=by omega
   obtain⟨b,o,rfl,c0⟩:=HRd.out wr HB.out k hlt;have HLk:=Lib.hid (HL.out k hlt wr);have HQ:=Lib.hid hnx;clear hnx HN;generalize lineB xs[k]=y at *;generalize S xs[k]=sx at *;go_wp2_with fail;refine HLk.out.mono ?_;rintro e w2 ⟨rfl,b2⟩;have HB2:=Lib.hid (HB.out.trans (b2.mono HB.out.size));clear b2 HLk;cases y with
   |false=>
    have HR:Hid (X=false):=Lib.hid (by rw[HQ.out];simp);go_wp2_with fail;go_ret;exact⟨ret_bool HR.out.symm,HB2.out⟩
   |true=>
    have HR:Hid (X=(xs.drop (k+1)).all lineB):=Lib.hid (by rw[HQ.out];simp);go_wp2_with fail;go_roundw
    case rel=>exact⟨k+1,by omega,by go_num,HB2,HR⟩
    case measure=>simp[intOf]<;>omega
  ·obtain rfl:k=xs.length:=by omega
   have hnx:=HN.out;rw[List.drop_length]at hnx;have HR:Hid (X=true):=Lib.hid (by rw[hnx];rfl);clear hnx HN hlt;go_wp2_with fail;go_ret;exact⟨ret_bool HR.out.symm,HB.out⟩
end Bt
namespace Bt
open Go.RowKit
def hasV (k lv:Int) (s:ByteArray) (n ns nk:Int):Value:=.agg #[.int .i64 k,.int .i64 lv,.string s,.int .i64 n,.int .i64 ns,.int .i64 nk]
def HasAns (w:World) (v:Value) (e:Ending) (w':World):Prop:=e=.returned v∧Below w.heap.size w w'
theorem of_any (k lv:Int) (s:ByteArray) (al as' ak:Option Addr) (n ns nk:Nat) (cl cs ck:Nat) (w:World):
  Calls Tryz.prog 98 #[.agg #[.int .i64 k,.int .i64 lv,.string s,.slice al n cl,.slice as' ns cs,.slice ak nk ck]] w (HasAns w (hasV k lv s n ns nk)):=by
 go_enter Tryz.func98,Tryz.ntmps98;go_wp2_with fail;exact bodyPost_ret (v:=hasV k lv s n ns nk) (by simp[results,Tryz.results98,go_sem,hasV]) rfl ⟨rfl,((Below.refl _ w).alloc (Nat.le_refl _) _).alloc (by simp) _⟩
def usedV (k lv:Int) (s:ByteArray) (n ns nk:Int):Value:=
 if k=1 then hasV k 0 ⟨#[]⟩ 0 ns 0
 else if k=2 then hasV k lv ⟨#[]⟩ 0 ns 0
 else if k=4∨k=8 then hasV k 0 s n 0 0
 else if k=5∨k=6∨k=7 then hasV k 0 ⟨#[]⟩ 0 0 nk
 else hasV k 0 ⟨#[]⟩ 0 0 0
theorem used_any (k lv:Int) (s:ByteArray) (n ns nk:Int) (w:World):
  Calls Tryz.prog 99 #[hasV k lv s n ns nk] w (HasAns w (usedV k lv s n ns nk)):=by
 have hv:hasV k lv s n ns nk=.agg #[.int .i64 k,.int .i64 lv,.string s,.int .i64 n,.int .i64 ns,.int .i64 nk]:=rfl;by_cases q1:k=1
 ·have q:=q1
  have f1:(k==1)=true:=by rw[q];rfl
  have f2:(k==2)=false:=beq_eq_false_iff_ne.2 (by omega);have f4:(k==4)=false:=beq_eq_false_iff_ne.2 (by omega);have f5:(k==5)=false:=beq_eq_false_iff_ne.2 (by omega);have f6:(k==6)=false:=beq_eq_false_iff_ne.2 (by omega);have f7:(k==7)=false:=beq_eq_false_iff_ne.2 (by omega);have f8:(k==8)=false:=beq_eq_false_iff_ne.2 (by omega);have HU:Hid (usedV k lv s n ns nk=hasV k 0 ⟨#[]⟩ 0 ns 0):=Lib.hid (by unfold usedV;rw[if_pos q1]);rw[HU.out,hv];clear hv;clear q1 q;go_enter Tryz.func99,Tryz.ntmps99;go_wp2_with fail;exact bodyPost_ret (v:=hasV k 0 ⟨#[]⟩ 0 ns 0) (by simp[results,Tryz.results99,go_sem,hasV]) rfl ⟨rfl,((Below.refl _ w).alloc (Nat.le_refl _) _).alloc (by simp) _⟩
 ·
  by_cases q2:k=2
  ·have q:=q2
   have f1:(k==1)=false:=beq_eq_false_iff_ne.2 (by omega);have f2:(k==2)=true:=by rw[q];rfl
   have f4:(k==4)=false:=beq_eq_false_iff_ne.2 (by omega);have f5:(k==5)=false:=beq_eq_false_iff_ne.2 (by omega);have f6:(k==6)=false:=beq_eq_false_iff_ne.2 (by omega);have f7:(k==7)=false:=beq_eq_false_iff_ne.2 (by omega);have f8:(k==8)=false:=beq_eq_false_iff_ne.2 (by omega);have HU:Hid (usedV k lv s n ns nk=hasV k lv ⟨#[]⟩ 0 ns 0):=Lib.hid (by unfold usedV;rw[if_neg q1,if_pos q2]);rw[HU.out,hv];clear hv;clear q1 q2 q;go_enter Tryz.func99,Tryz.ntmps99;go_wp2_with fail;exact bodyPost_ret (v:=hasV k lv ⟨#[]⟩ 0 ns 0) (by simp[results,Tryz.results99,go_sem,hasV]) rfl ⟨rfl,((Below.refl _ w).alloc (Nat.le_refl _) _).alloc (by simp) _⟩
  ·
   by_cases q4:k=4
   ·have q:=q4
    have f1:(k==1)=false:=beq_eq_false_iff_ne.2 (by omega);have f2:(k==2)=false:=beq_eq_false_iff_ne.2 (by omega);have f4:(k==4)=true:=by rw[q];rfl
    have f5:(k==5)=false:=beq_eq_false_iff_ne.2 (by omega);have f6:(k==6)=false:=beq_eq_false_iff_ne.2 (by omega);have f7:(k==7)=false:=beq_eq_false_iff_ne.2 (by omega);have f8:(k==8)=false:=beq_eq_false_iff_ne.2 (by omega);have HU:Hid (usedV k lv s n ns nk=hasV k 0 s n 0 0):=Lib.hid (by unfold usedV;rw[if_neg q1,if_neg q2,if_pos (Or.inl q4)]);rw[HU.out,hv];clear hv;clear q1 q2 q4 q;go_enter Tryz.func99,Tryz.ntmps99;go_wp2_with fail;exact bodyPost_ret (v:=hasV k 0 s n 0 0) (by simp[results,Tryz.results99,go_sem,hasV]) rfl ⟨rfl,((Below.refl _ w).alloc (Nat.le_refl _) _).alloc (by simp) _⟩
   ·
    by_cases q8:k=8
    ·have q:=q8
     have f1:(k==1)=false:=beq_eq_false_iff_ne.2 (by omega);have f2:(k==2)=false:=beq_eq_false_iff_ne.2 (by omega);have f4:(k==4)=false:=beq_eq_false_iff_ne.2 (by omega);have f5:(k==5)=false:=beq_eq_false_iff_ne.2 (by omega);have f6:(k==6)=false:=beq_eq_false_iff_ne.2 (by omega);have f7:(k==7)=false:=beq_eq_false_iff_ne.2 (by omega);have f8:(k==8)=true:=by rw[q];rfl
     have HU:Hid (usedV k lv s n ns nk=hasV k 0 s n 0 0):=Lib.hid (by unfold usedV;rw[if_neg q1,if_neg q2,if_pos (Or.inr q8)]);rw[HU.out,hv];clear hv;clear q1 q2 q4 q8 q;go_enter Tryz.func99,Tryz.ntmps99;go_wp2_with fail;exact bodyPost_ret (v:=hasV k 0 s n 0 0) (by simp[results,Tryz.results99,go_sem,hasV]) rfl ⟨rfl,((Below.refl _ w).alloc (Nat.le_refl _) _).alloc (by simp) _⟩
    ·
     by_cases q5:k=5
     ·have q:=q5
      have f1:(k==1)=false:=beq_eq_false_iff_ne.2 (by omega);have f2:(k==2)=false:=beq_eq_false_iff_ne.2 (by omega);have f4:(k==4)=false:=beq_eq_false_iff_ne.2 (by omega);have f5:(k==5)=true:=by rw[q];rfl
      have f6:(k==6)=false:=beq_eq_false_iff_ne.2 (by omega);have f7:(k==7)=false:=beq_eq_false_iff_ne.2 (by omega);have f8:(k==8)=false:=beq_eq_false_iff_ne.2 (by omega);have HU:Hid (usedV k lv s n ns nk=hasV k 0 ⟨#[]⟩ 0 0 nk):=Lib.hid (by unfold usedV;rw[if_neg q1,if_neg q2,if_neg (by omega),if_pos (by omega)]);rw[HU.out,hv];clear hv;clear q1 q2 q4 q8 q5 q;go_enter Tryz.func99,Tryz.ntmps99;go_wp2_with fail;exact bodyPost_ret (v:=hasV k 0 ⟨#[]⟩ 0 0 nk) (by simp[results,Tryz.results99,go_sem,hasV]) rfl ⟨rfl,((Below.refl _ w).alloc (Nat.le_refl _) _).alloc (by simp) _⟩
     ·
      by_cases q6:k=6
      ·have q:=q6
       have f1:(k==1)=false:=beq_eq_false_iff_ne.2 (by omega);have f2:(k==2)=false:=beq_eq_false_iff_ne.2 (by omega);have f4:(k==4)=false:=beq_eq_false_iff_ne.2 (by omega);have f5:(k==5)=false:=beq_eq_false_iff_ne.2 (by omega);have f6:(k==6)=true:=by rw[q];rfl
       have f7:(k==7)=false:=beq_eq_false_iff_ne.2 (by omega);have f8:(k==8)=false:=beq_eq_false_iff_ne.2 (by omega);have HU:Hid (usedV k lv s n ns nk=hasV k 0 ⟨#[]⟩ 0 0 nk):=Lib.hid (by unfold usedV;rw[if_neg q1,if_neg q2,if_neg (by omega),if_pos (by omega)]);rw[HU.out,hv];clear hv;clear q1 q2 q4 q8 q5 q6 q;go_enter Tryz.func99,Tryz.ntmps99;go_wp2_with fail;exact bodyPost_ret (v:=hasV k 0 ⟨#[]⟩ 0 0 nk) (by simp[results,Tryz.results99,go_sem,hasV]) rfl ⟨rfl,((Below.refl _ w).alloc (Nat.le_refl _) _).alloc (by simp) _⟩
      ·
       by_cases q7:k=7
       ·have q:=q7
        have f1:(k==1)=false:=beq_eq_false_iff_ne.2 (by omega);have f2:(k==2)=false:=beq_eq_false_iff_ne.2 (by omega);have f4:(k==4)=false:=beq_eq_false_iff_ne.2 (by omega);have f5:(k==5)=false:=beq_eq_false_iff_ne.2 (by omega);have f6:(k==6)=false:=beq_eq_false_iff_ne.2 (by omega);have f7:(k==7)=true:=by rw[q];rfl
        have f8:(k==8)=false:=beq_eq_false_iff_ne.2 (by omega);have HU:Hid (usedV k lv s n ns nk=hasV k 0 ⟨#[]⟩ 0 0 nk):=Lib.hid (by unfold usedV;rw[if_neg q1,if_neg q2,if_neg (by omega),if_pos (by omega)]);rw[HU.out,hv];clear hv;clear q1 q2 q4 q8 q5 q6 q7 q;go_enter Tryz.func99,Tryz.ntmps99;go_wp2_with fail;exact bodyPost_ret (v:=hasV k 0 ⟨#[]⟩ 0 0 nk) (by simp[results,Tryz.results99,go_sem,hasV]) rfl ⟨rfl,((Below.refl _ w).alloc (Nat.le_refl _) _).alloc (by simp) _⟩
       ·
        have f1:(k==1)=false:=beq_eq_false_iff_ne.2 (by omega);have f2:(k==2)=false:=beq_eq_false_iff_ne.2 (by omega);have f4:(k==4)=false:=beq_eq_false_iff_ne.2 (by omega);have f5:(k==5)=false:=beq_eq_false_iff_ne.2 (by omega);have f6:(k==6)=false:=beq_eq_false_iff_ne.2 (by omega);have f7:(k==7)=false:=beq_eq_false_iff_ne.2 (by omega);have f8:(k==8)=false:=beq_eq_false_iff_ne.2 (by omega);have HU:Hid (usedV k lv s n ns nk=hasV k 0 ⟨#[]⟩ 0 0 0):=Lib.hid (by unfold usedV;rw[if_neg q1,if_neg q2,if_neg (by omega),if_neg (by omega)]);rw[HU.out,hv];clear hv;clear q1 q2 q4 q8 q5 q6 q7;go_enter Tryz.func99,Tryz.ntmps99;go_wp2_with fail;exact bodyPost_ret (v:=hasV k 0 ⟨#[]⟩ 0 0 0) (by simp[results,Tryz.results99,go_sem,hasV]) rfl ⟨rfl,((Below.refl _ w).alloc (Nat.le_refl _) _).alloc (by simp) _⟩
def eqH (k lv:Int) (s:ByteArray) (n ns nk:Int) (k' lv':Int) (s':ByteArray) (n' ns' nk':Int):Bool:=(k==k')&&(lv==lv')&&(s.toList==s'.toList)&&(n==n')&&(ns==ns')&&(nk==nk')
theorem run_eq_has (k lv:Int) (s:ByteArray) (n ns nk:Int) (k' lv':Int) (s':ByteArray) (n' ns' nk':Int) (w:World):
  (binOp .eql 120 (hasV k lv s n ns nk) (hasV k' lv' s' n' ns' nk')).run Tryz.prog w=.ok (.bool (eqH k lv s n ns nk k' lv' s' n' ns' nk')) w:=by
 unfold hasV;rw[run_eql_struct,run_equalIn_agg w 9999 _ _ _ (by kernel_rfl) (by kernel_rfl)];simp[go_sem,Program.fieldsOf,Tryz.underlying120,Tryz.underlying3,Tryz.underlying9];unfold eqH
 repeat' split
 all_goals simp_all
theorem run_ne_has (k lv:Int) (s:ByteArray) (n ns nk:Int) (k' lv':Int) (s':ByteArray) (n' ns' nk':Int) (w:World):
  (binOp .neq 120 (hasV k lv s n ns nk) (hasV k' lv' s' n' ns' nk')).run Tryz.prog w=.ok (.bool (!eqH k lv s n ns nk k' lv' s' n' ns' nk')) w:=by
 have h:=run_eq_has k lv s n ns nk k' lv' s' n' ns' nk' w;unfold hasV at h ⊢;rw[run_eql_struct]at h;rw[run_neq_struct];cases hr:(Op.equalIn 10000 120 (.agg #[.int .i64 k,.int .i64 lv,.string s,.int .i64 n,.int .i64 ns,.int .i64 nk]) (.agg #[.int .i64 k',.int .i64 lv',.string s',.int .i64 n',.int .i64 ns',.int .i64 nk'])).run Tryz.prog w with
 |ok b w1=>
  rw[hr]at h;simp only[Result.andThen,Result.ok.injEq,Value.bool.injEq]at h ⊢;exact⟨by rw[h.1],h.2⟩
 |halt x w1=>
  rw[hr]at h;simp[Result.andThen]at h
theorem guard_has (op:BinOp) (x y:Operand) (xs ys:Array Value) (w:World):(eqGuard op 120 x y (.agg xs) (.agg ys)).run Tryz.prog w=.ok () w:=run_eqGuard_agg w op _ x y xs ys (by kernel_rfl)
end Bt
end Go.Proofs.YtpakjdgddomdjabGreatDoor
