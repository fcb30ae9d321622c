import Derived.Test.YtihihgfcklkkhaaGreatDoorPkQ
import Derived.Test.YtihihgfcklkkhaaGreatDoorPkG
import Derived.Test.YtihihgfcklkkhaaGreatDoorPkU
import Derived.Test.YtihihgfcklkkhaaGreatDoorPkX
import Derived.Test.YtihihgfcklkkhaaGreatDoorPkV
import Derived.Test.YtihihgfcklkkhaaGreatDoorPkAC
namespace Go.Proofs.YtihihgfcklkkhaaGreatDoor.Sp
open Go.Proofs.YtihihgfcklkkhaaGreatDoor.Tk (S S_of S_list S_size S_toList S_app cls at_data len_data)
open Go.Proofs.YtihihgfcklkkhaaGreatDoor.Utf (chk chk_zero_iff zeroB)
set_option linter.unusedVariables false
end Go.Proofs.YtihihgfcklkkhaaGreatDoor.Sp
namespace Go.Proofs.YtihihgfcklkkhaaGreatDoor.Pa
open Go.Proofs.YtihihgfcklkkhaaGreatDoor.Bk (Tx Bk Env fenceL spanK itemL dropBlank listL items kindOf closes unquote unitem inner define parse joinLF)
open Go.Proofs.YtihihgfcklkkhaaGreatDoor.Ln (run mx trim)
open Go.Proofs.YtihihgfcklkkhaaGreatDoor.Kd (E0)
set_option linter.unusedVariables false
def quoted (s:Tx) (l:List Tx):List Tx:=(spanK E0 5 (s :: l)).1.map unquote
def paraL (s:Tx) (l:List Tx):List Tx:=(spanK E0 8 (s :: l)).1.map trim
theorem val2 {rec:Nat→List Tx→Option (List Bk)} {d:Nat} {s:Tx} {l:List Tx} (hk:kindOf E0 s=2):valB rec d s l=some (.mk 2 (run 35 s) [] [] (parse (trim (s.drop (run 35 s)))) []):=by
 unfold valB;rw [if_pos hk]
theorem val3 {rec:Nat→List Tx→Option (List Bk)} {d:Nat} {s:Tx} {l:List Tx} (hk:kindOf E0 s=3):valB rec d s l=some (.mk 3 0 [] [] [] []):=by
 unfold valB;rw [if_neg (by rw [hk];decide),if_pos hk]
theorem val4 {rec:Nat→List Tx→Option (List Bk)} {d:Nat} {s:Tx} {l:List Tx} (hk:kindOf E0 s=4):valB rec d s l=some (.mk 4 0 (trim (s.drop (run 96 s))) (fenceL (run 96 s) l).1 [] []):=by
 unfold valB;rw [if_neg (by rw [hk];decide),if_neg (by rw [hk];decide),if_pos hk]
theorem val5 {rec:Nat→List Tx→Option (List Bk)} {d:Nat} {s:Tx} {l:List Tx} (hk:kindOf E0 s=5):valB rec d s l=(rec (d+1) (quoted s l)).map fun k=>.mk 5 0 [] [] [] k:=by
 unfold valB;rw [if_neg (by rw [hk];decide),if_neg (by rw [hk];decide),if_neg (by rw [hk];decide),if_pos hk];rfl
theorem val6 {rec:Nat→List Tx→Option (List Bk)} {d:Nat} {s:Tx} {l:List Tx} (hk:kindOf E0 s=6):valB rec d s l=(items (rec (d+2)) (lst (s :: l)).1).map fun k=>.mk 6 0 [] [] [] k:=by
 unfold valB;rw [if_neg (by rw [hk];decide),if_neg (by rw [hk];decide),if_neg (by rw [hk];decide),if_neg (by rw [hk];decide),if_pos hk];rfl
theorem val7 {rec:Nat→List Tx→Option (List Bk)} {d:Nat} {s:Tx} {l:List Tx} (hk:kindOf E0 s=7):valB rec d s l=(define E0 s).map fun p=>.mk 8 0 p.1 [p.2] [] []:=by
 unfold valB;rw [if_neg (by rw [hk];decide),if_neg (by rw [hk];decide),if_neg (by rw [hk];decide),if_neg (by rw [hk];decide),if_neg (by rw [hk];decide),if_pos hk]
theorem val8 {rec:Nat→List Tx→Option (List Bk)} {d:Nat} {s:Tx} {l:List Tx} (hk:kindOf E0 s=8):valB rec d s l=some (.mk 1 0 [] [] (parse (joinLF (paraL s l))) []):=by
 unfold valB;rw [if_neg (by rw [hk];decide),if_neg (by rw [hk];decide),if_neg (by rw [hk];decide),if_neg (by rw [hk];decide),if_neg (by rw [hk];decide),if_neg (by rw [hk];decide)];rfl
theorem rest1 {s:Tx} {l:List Tx} (hk:kindOf E0 s=2∨kindOf E0 s=3∨kindOf E0 s=7):restB s l=l:=by
 unfold restB
 rw [if_neg (by omega),if_neg (by omega),if_neg (by omega),if_neg (by omega)]
theorem rest4 {s:Tx} {l:List Tx} (hk:kindOf E0 s=4):restB s l=(fenceL (run 96 s) l).2:=by unfold restB;rw [if_pos hk]
theorem rest5 {s:Tx} {l:List Tx} (hk:kindOf E0 s=5):restB s l=(spanK E0 5 (s :: l)).2:=by unfold restB;rw [if_neg (by omega),if_pos hk]
theorem rest6 {s:Tx} {l:List Tx} (hk:kindOf E0 s=6):restB s l=(lst (s :: l)).2:=by unfold restB;rw [if_neg (by omega),if_neg (by omega),if_pos hk];rfl
theorem rest8 {s:Tx} {l:List Tx} (hk:kindOf E0 s=8):restB s l=(spanK E0 8 (s :: l)).2:=by unfold restB;rw [if_neg (by omega),if_neg (by omega),if_neg (by omega),if_pos hk]
theorem kind_cases (s:Tx) (h:kindOf E0 s≠1):kindOf E0 s=2∨kindOf E0 s=3∨kindOf E0 s=4∨kindOf E0 s=5∨kindOf E0 s=6∨kindOf E0 s=7∨kindOf E0 s=8:=by
 have:=kind_le E0 s
 omega
end Go.Proofs.YtihihgfcklkkhaaGreatDoor.Pa
namespace Go.Proofs.YtihihgfcklkkhaaGreatDoor.Pa
open Go.Proofs.YtihihgfcklkkhaaGreatDoor.Tk (S S_list S_size)
open Go.Proofs.YtihihgfcklkkhaaGreatDoor.Sp (Sp Rdr Rdr_tot)
open Go.Proofs.YtihihgfcklkkhaaGreatDoor.Bt (lnTot)
open Go.Proofs.YtihihgfcklkkhaaGreatDoor.Bk (Tx Bk Env fenceL spanK itemL dropBlank listL items kindOf closes unquote unitem inner define parse joinLF)
open Go.Proofs.YtihihgfcklkkhaaGreatDoor.Ln (run mx trim)
open Go.Proofs.YtihihgfcklkkhaaGreatDoor.Kd (E0)
set_option linter.unusedVariables false
theorem lst_cases (s:Tx) (l:List Tx):(lst (s :: l)=([unitem s :: (itemL E0 l).1],(itemL E0 l).2)∧(dropBlank E0 (itemL E0 l).2=[]∨∃ t r,dropBlank E0 (itemL E0 l).2=t :: r∧kindOf E0 t≠6)) ∨
   ∃ t r,dropBlank E0 (itemL E0 l).2=t :: r∧kindOf E0 t=6∧lst (s :: l)=((unitem s :: (itemL E0 l).1) :: (lst (t :: r)).1,(lst (t :: r)).2):=by
 cases h:dropBlank E0 (itemL E0 l).2 with
 | nil=>exact Or.inl ⟨lst_one (Or.inl h),Or.inl rfl⟩
 | cons t r =>
   by_cases hk:kindOf E0 t=6
   · exact Or.inr ⟨t,r,rfl,hk,lst_more h hk⟩
   · exact Or.inl ⟨lst_one (Or.inr ⟨t,r,h,hk⟩),Or.inr ⟨t,r,rfl,hk⟩⟩
end Go.Proofs.YtihihgfcklkkhaaGreatDoor.Pa
namespace Go.Proofs.YtihihgfcklkkhaaGreatDoor.Bt
open Go.Proofs.YtihihgfcklkkhaaGreatDoor.Sp (Sp)
open Go.Proofs.YtihihgfcklkkhaaGreatDoor.Bk (Bk)
set_option linter.unusedVariables false
end Go.Proofs.YtihihgfcklkkhaaGreatDoor.Bt
namespace Go.Proofs.YtihihgfcklkkhaaGreatDoor.Pa
open Go.Proofs.YtihihgfcklkkhaaGreatDoor.Tk (S S_list S_size)
open Go.Proofs.YtihihgfcklkkhaaGreatDoor.Sp (Sp Rdr Wt txB edB spB hsB plAll)
open Go.Proofs.YtihihgfcklkkhaaGreatDoor.Bt (lineB labB ckB tgB)
open Go.Proofs.YtihihgfcklkkhaaGreatDoor.Bk (Tx Bk Env fenceL spanK itemL dropBlank listL items kindOf closes unquote unitem inner define parse joinLF)
open Go.Proofs.YtihihgfcklkkhaaGreatDoor.Ln (run mx trim dl dr gapB)
open Go.Proofs.YtihihgfcklkkhaaGreatDoor.Kd (E0)
set_option linter.unusedVariables false
def Lt (s:Tx):Prop:=Wt s∧(10:UInt8)∉s
theorem kd6 {s:Tx} (h:kindOf E0 s=6):s=[45]∨∃ t,s=45 :: 32 :: t:=by
 unfold kindOf at h
 repeat' split at h
 all_goals first | omega | skip
 rename_i h1
 rcases h1 with h1 | h1
 · exact Or.inl h1
 · cases s with
   | nil=>simp at h1
   | cons c t =>
     cases t with
     | nil=>simp at h1
     | cons d t =>
       simp at h1
       exact Or.inr ⟨t,by rw [h1.1,h1.2]⟩
structure Tr1 (s:Tx):Prop where
 lt:Lt s
 ne:s≠[]
 hd:∀ b,s.head? = some b→gapB b=false
 la:∀ b,s.getLast? = some b→gapB b=false
structure Jn (z:Tx):Prop where
 wt:Wt z
 tx:txB z=true
 ne:z≠[]
 hd:∀ b,z.head? = some b→gapB b=false∧b≠10
 la:∀ b,z.getLast? = some b→gapB b=false∧b≠10
end Go.Proofs.YtihihgfcklkkhaaGreatDoor.Pa
namespace Go.Proofs.YtihihgfcklkkhaaGreatDoor.Pa
open Go.Proofs.YtihihgfcklkkhaaGreatDoor.Tk (S S_list S_size)
open Go.Proofs.YtihihgfcklkkhaaGreatDoor.Sp (Sp hsB dsB plAll)
open Go.Proofs.YtihihgfcklkkhaaGreatDoor.Bt (lineB labB ckB tgB)
open Go.Proofs.YtihihgfcklkkhaaGreatDoor.Bk (Tx Bk Env fenceL spanK itemL dropBlank listL items kindOf closes unquote unitem inner define parse joinLF)
open Go.Proofs.YtihihgfcklkkhaaGreatDoor.Ln (run mx trim)
open Go.Proofs.YtihihgfcklkkhaaGreatDoor.Kd (E0)
set_option linter.unusedVariables false
end Go.Proofs.YtihihgfcklkkhaaGreatDoor.Pa
namespace Go.Proofs.YtihihgfcklkkhaaGreatDoor.Pa
open Go.Proofs.YtihihgfcklkkhaaGreatDoor.Tk (S S_list S_size)
open Go.Proofs.YtihihgfcklkkhaaGreatDoor.Sp (Sp V Wt)
open Go.Proofs.YtihihgfcklkkhaaGreatDoor.Bk (Tx Bk fenceL spanK items kindOf define parse joinLF)
open Go.Proofs.YtihihgfcklkkhaaGreatDoor.Ln (run trim)
open Go.Proofs.YtihihgfcklkkhaaGreatDoor.Kd (E0)
open Go.Proofs.YtihihgfcklkkhaaGreatDoor.Utf (chk)
set_option linter.unusedVariables false
end Go.Proofs.YtihihgfcklkkhaaGreatDoor.Pa
