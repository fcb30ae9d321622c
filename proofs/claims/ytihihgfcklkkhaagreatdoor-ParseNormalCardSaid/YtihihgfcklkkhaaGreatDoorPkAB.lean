import Derived.Test.YtihihgfcklkkhaaGreatDoorPkZ
import Derived.Test.YtihihgfcklkkhaaGreatDoorPkL
import Derived.Test.YtihihgfcklkkhaaGreatDoorPkC
import Derived.Test.YtihihgfcklkkhaaGreatDoorPkAC
import Derived.Test.YtihihgfcklkkhaaGreatDoorPkV
namespace Go.Proofs.YtihihgfcklkkhaaGreatDoor.Pa
open Go.RowKit
open Go.Proofs.YtihihgfcklkkhaaGreatDoor.Tk (S S_of S_list S_size S_toList S_app ret_int eq8 ne8 at_data len_data Rd)
open Go.Proofs.YtihihgfcklkkhaaGreatDoor.Sp (Sp Tr)
open Go.Proofs.YtihihgfcklkkhaaGreatDoor.Bt (TrB KB)
open Go.Proofs.YtihihgfcklkkhaaGreatDoor.Cm (Keep alloc_new alloc_at cell_at frozen_at set_at set_other lt_of_at)
open Go.Proofs.YtihihgfcklkkhaaGreatDoor.Bk (Tx Bk kindOf define)
open Go.Proofs.YtihihgfcklkkhaaGreatDoor.Kd (E0)
set_option linter.unusedVariables false
def after (o : Option Bk) (r : Option (List Bk)) : Option (List Bk) := match o with | none => none | some b => r.map (b :: ·)
theorem allE_after {deep : Nat} {s : Tx} {l : List Tx} (hd : deep ≤ 16) (h : kindOf E0 s ≠ 1) : allE deep (s :: l) = after (valB allE deep s l) (allE deep (restB s l)) := by
  rw [allE_block hd h]
  cases valB allE deep s l <;> rfl
end Go.Proofs.YtihihgfcklkkhaaGreatDoor.Pa
namespace Go.Proofs.YtihihgfcklkkhaaGreatDoor.Pa
open Go.RowKit
open Go.Proofs.YtihihgfcklkkhaaGreatDoor.Tk (S S_of S_list S_size S_toList S_app ret_int eq8 ne8 at_data len_data Rd)
open Go.Proofs.YtihihgfcklkkhaaGreatDoor.Bt (TrB KB)
open Go.Proofs.YtihihgfcklkkhaaGreatDoor.Cm (Keep)
open Go.Proofs.YtihihgfcklkkhaaGreatDoor.Bk (Tx Bk kindOf)
open Go.Proofs.YtihihgfcklkkhaaGreatDoor.Kd (E0)
open Go.Proofs.YtihihgfcklkkhaaGreatDoor.Utf (chk rcheck_any)
set_option linter.unusedVariables false
def lnsB (xs : List Tx) : List Bk × Int := match allE 0 xs with | none => ([], 5) | some l => (l, 0)
def docB (s : Tx) : List Bk × Int := if chk (S s) = 0 then lnsB (Ln.split s).1 else ([], chk (S s))
def LnsAns (w : World) (r : List Bk × Int) (e : Ending) (w' : World) : Prop := ∃ u, e = .returned (.tuple #[u, .int .i64 r.2]) ∧ TrB w' u r.1 ∧ Below w.heap.size w w'
theorem strip_len (l : Tx) : (Ln.strip l).length ≤ l.length := by
  unfold Ln.strip
  split
  · simp
  · exact Nat.le_refl _
theorem split_tot : ∀ (r cur : Tx), tot (Ln.ls cur r).1 ≤ cur.length + r.length + 1
  | [], cur => by
    unfold Ln.ls
    split
    · simp [tot]
    · simp only [tot, List.length_nil]; omega
  | b :: r, cur => by
    have h1 := split_tot r []
    have h2 := split_tot r (cur ++ [b])
    have h3 := strip_len cur
    unfold Ln.ls
    split
    · simp only [tot, List.length_cons, List.length_nil] at h1 ⊢; omega
    · split
      · simp only [tot, List.length_cons, List.length_nil] at h1 ⊢; omega
      · simp only [List.length_append, List.length_cons, List.length_nil] at h2 ⊢; omega
end Go.Proofs.YtihihgfcklkkhaaGreatDoor.Pa
namespace Go.Proofs.YtihihgfcklkkhaaGreatDoor.Pa
open Go.RowKit
open Go.Proofs.YtihihgfcklkkhaaGreatDoor.Tk (S S_of S_list S_size S_toList S_app ret_int eq8 ne8 at_data len_data Rd)
open Go.Proofs.YtihihgfcklkkhaaGreatDoor.Bt (TrB KB)
open Go.Proofs.YtihihgfcklkkhaaGreatDoor.Cm (Keep Rk alloc_new alloc_at cell_at frozen_at set_at set_other lt_of_at)
open Go.Proofs.YtihihgfcklkkhaaGreatDoor.Bk (Tx Bk kindOf)
open Go.Proofs.YtihihgfcklkkhaaGreatDoor.Kd (E0)
set_option linter.unusedVariables false
def spr (xs : List Tx) : Nat → Nat → List (Nat × Nat)
  | 0, _ => []
  | f + 1, j => match xs.drop j with
    | [] => []
    | s :: l => if kindOf E0 s = 1 then spr xs f (j + 1) else (j, plc xs (restB s l)) :: spr xs f (plc xs (restB s l))
def sprB (xs : List Tx) : List (Nat × Nat) := spr xs (xs.length + 1) 0
theorem spr_end {xs : List Tx} (f : Nat) : spr xs f xs.length = [] := by
  cases f with
  | zero => rfl
  | succ f => rw [spr, List.drop_length]
theorem spr_blank {xs : List Tx} {f j : Nat} {s : Tx} {l : List Tx} (h : xs.drop j = s :: l) (hk : kindOf E0 s = 1) : spr xs (f + 1) j = spr xs f (j + 1) := by
  rw [spr, h]
  exact if_pos hk
theorem spr_block {xs : List Tx} {f j : Nat} {s : Tx} {l : List Tx} (h : xs.drop j = s :: l) (hk : kindOf E0 s ≠ 1) : spr xs (f + 1) j = (j, plc xs (restB s l)) :: spr xs f (plc xs (restB s l)) := by
  rw [spr, h]
  exact if_neg hk
def encP (p : Nat × Nat) : List Value := [.int .i64 (p.1 : Nat), .int .i64 (p.2 : Nat)]
def OutP (B : Nat) (w : World) (v : Value) (l : List (Nat × Nat)) : Prop := OutG 2 36 encP (fun _ _ => True) B w v l
theorem infoP : (Tryz.prog.info? 36).map (fun i => (i.zero, i.size, i.bytes)) = some (some (.agg #[.int .i64 0, .int .i64 0]), 2, 16) := by kernel_rfl
theorem OutP.push {B : Nat} {w : World} {v : Value} {l : List (Nat × Nat)} (h : OutP B w v l) (x : Nat × Nat) (hl : l.length + 1 ≤ 1000000) :
    ∃ v' w', (∀ ty, (Builtin.append_ #[34, 34] ty #[v, .slice (some ⟨w.heap.size, 0, none⟩) 1 1]).run Tryz.prog (w.alloc (.cells #[.int .i64 (x.1 : Nat), .int .i64 (x.2 : Nat)] 36)) = .ok v' w') ∧ OutP B w' v' (l ++ [x]) ∧ Keep (fun j => some j = v.ownBlock) w w' :=
  OutG.push (ts := 34) Tryz.underlying34 infoP rfl (by decide) (by decide) (fun _ => rfl) h (fun _ _ => trivial) (fun u hu => by
    rw [encP] at hu
    rcases List.mem_cons.1 hu with rfl | hu
    · rfl
    · rw [List.mem_singleton] at hu; subst hu; rfl) hl
def RdP (w : World) (v : Value) (l : List (Nat × Nat)) : Prop := Rk 2 encP w v l ∧ l.length ≤ 1000000
def SprAns (w : World) (l : List (Nat × Nat)) (e : Ending) (w' : World) : Prop := ∃ u, e = .returned u ∧ RdP w' u l ∧ Below w.heap.size w w'
end Go.Proofs.YtihihgfcklkkhaaGreatDoor.Pa
namespace Go.Proofs.YtihihgfcklkkhaaGreatDoor.Pa
open Go.RowKit
open Go.Proofs.YtihihgfcklkkhaaGreatDoor.Tk (S S_of S_list S_size S_toList S_app ret_int eq8 ne8 at_data len_data Rd)
open Go.Proofs.YtihihgfcklkkhaaGreatDoor.Sp (ret_bool OkAns)
open Go.Proofs.YtihihgfcklkkhaaGreatDoor.Bt (TrB KB fitAll ttAll rgB dp cnt)
open Go.Proofs.YtihihgfcklkkhaaGreatDoor.Cm (Keep)
open Go.Proofs.YtihihgfcklkkhaaGreatDoor.Bk (Tx Bk kindOf)
open Go.Proofs.YtihihgfcklkkhaaGreatDoor.Kd (E0)
set_option linter.unusedVariables false
structure Told12 : Prop where
  doc : ∀ (s : ByteArray) (w : World), s.size ≤ 10000 → Calls Tryz.prog 13 #[.string s] w (LnsAns w (docB s.data.toList))
  lines : ∀ (v : Value) (xs : List Tx) (w : World), Rd w v xs → tot xs ≤ 20000 → Calls Tryz.prog 21 #[v] w (LnsAns w (lnsB xs))
  spread : ∀ (v : Value) (xs : List Tx) (w : World), Rd w v xs → tot xs ≤ 20000 → Calls Tryz.prog 19 #[v] w (SprAns w (sprB xs))
def RightC : Prop := ∀ (v : Value) (l : List Bk) (w : World), TrB w v l → fitAll 1048576 l → ttAll l ≤ 9000000 → Calls Tryz.prog 16 #[v] w (OkAns w (rgB l))
def awk : Tx := [35, 32, 97, 10, 10, 45, 32, 98, 10]
theorem awk2 : (docB awk).2 = 0 := by decide +kernel
theorem awk1 : (docB awk).1.map Bk.kind = [2, 6] := by decide +kernel
theorem two_of {l : List Bk} (h : l.map Bk.kind = [2, 6]) : ∃ x y, l = [x, y] ∧ x.kind = 2 ∧ y.kind = 6 := by
  cases l with
  | nil => simp at h
  | cons x l =>
    cases l with
    | nil => simp at h
    | cons y l =>
      cases l with
      | nil =>
        simp at h
        exact ⟨x, y, rfl, h.1, h.2⟩
      | cons z l => simp at h
set_option maxRecDepth 100000 in
theorem awake12_any (K : Told12) (w : World) : Calls Tryz.prog 12 #[] w (OkAns w true) := by
  have HD : Hid (Calls Tryz.prog 13 #[.string ⟨#[35, 32, 97, 10, 10, 45, 32, 98, 10]⟩] w (LnsAns w (docB awk))) := Lib.hid (K.doc ⟨#[35, 32, 97, 10, 10, 45, 32, 98, 10]⟩ w (by decide))
  unfold LnsAns at HD
  rw [awk2] at HD
  have h1 := awk1
  generalize (docB awk).1 = l at *
  obtain ⟨x, y, rfl, hx, hy⟩ := two_of h1
  clear K h1
  go_enter Tryz.func12, Tryz.ntmps12
  go_wp2_with fail
  refine HD.out.mono ?_
  rintro e w2 ⟨u, rfl, ht, b2⟩
  obtain ⟨ao, cap, rfl⟩ := ht.len
  have HB2 := Lib.hid b2
  obtain ⟨b, o, _, _, _, _, rfl, _, hc0⟩ := ht.at 0 (by simp)
  obtain ⟨b', o', _, _, _, _, hbo, _, hc1⟩ := ht.at 1 (by simp)
  simp only [Option.some.injEq, Addr.mk.injEq, and_true] at hbo
  obtain ⟨rfl, rfl⟩ := hbo
  have k0 := hc0.kind
  have k1 := hc1.kind
  simp only [List.getElem_cons_zero, List.getElem_cons_succ, hx, hy, Nat.zero_mul, Nat.one_mul, Nat.add_zero] at k0 k1
  have hl2 : ([x, y] : List Bk).length = 2 := rfl
  rw [hl2]
  clear ht b2 HD hc0 hc1 hx hy hl2
  go_wp2_with fail
  go_ret
  exact ⟨rfl, HB2.out⟩
end Go.Proofs.YtihihgfcklkkhaaGreatDoor.Pa
