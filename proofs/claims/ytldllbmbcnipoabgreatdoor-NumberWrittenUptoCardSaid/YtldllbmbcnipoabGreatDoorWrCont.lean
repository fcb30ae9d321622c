import Derived.Test.YtldllbmbcnipoabGreatDoorPkWW
import Derived.Test.YtldllbmbcnipoabGreatDoorBtTree
import Derived.Test.YtldllbmbcnipoabGreatDoorWrSize
namespace Go.Proofs.YtldllbmbcnipoabGreatDoor.Wr
open Go.RowKit
open Go.Proofs.YtldllbmbcnipoabGreatDoor.Tk (S S_of S_list S_size S_toList S_app ret_int len_data Rd)
open Go.Proofs.YtldllbmbcnipoabGreatDoor.Bt (TrB fitAll ttAll szAll allB)
open Go.Proofs.YtldllbmbcnipoabGreatDoor.Cm (Keep own_keep cell_at alloc_new)
open Go.Proofs.YtldllbmbcnipoabGreatDoor.Bk (Tx Bk wl preQ preI itemW)
open Go.Proofs.YtldllbmbcnipoabGreatDoor.Pa (OutG OutS)
set_option linter.unusedVariables false
def RowS (w : World) (l : List Tx) (e : Ending) (w' : World) : Prop := ∃ u, e = .returned u ∧ OutS w.heap.size w' u l ∧ Below w.heap.size w w'
theorem behindQ (x : Tx) (w : World) (hx : x.length ≤ 10000000000) : Calls Tryz.prog 95 #[.string ⟨#[62, 32]⟩, .string ⟨#[62]⟩, .string (S x)] w fun e w' => e = .returned (.string (S (preQ x))) ∧ w = w' := by
  have h := behind_any [62, 32] [62] x w (by decide) hx
  unfold preQ
  exact h
set_option maxHeartbeats 1600000 in
theorem wquote_any {B b : Nat} {g : Option Nat} {ls : List Tx} {w : World} (h : Pg B b g ls w) (v : Value) (xs : List Tx) (HI : Calls Tryz.prog 94 #[v] w (RowS w xs)) (hx : ∀ x ∈ xs, x.length ≤ 10000000000) (hl : ls.length + xs.length ≤ 1000000) :
    Calls Tryz.prog 60 #[.pointer (some ⟨b, 0, none⟩), v] w (PutAns B b g (ls ++ xs.map preQ) w) := by
  have HI := Lib.hid HI
  have HP := Lib.hid h
  have HB := Lib.hid (fun j (hj : j < xs.length) (w' : World) => behindQ xs[j] w' (hx _ (List.getElem_mem hj)))
  have HPut := Lib.hid (fun (g' : Option Nat) (ls' : List Tx) (w' : World) (h' : Pg B b g' ls' w') (s : Tx) (hl' : ls'.length + 1 ≤ 1000000) => put_any h' s hl')
  unfold RowS at HI
  unfold PutAns at HPut
  clear hx
  go_enter Tryz.func60, Tryz.ntmps60
  go_wp2_with fail
  refine HI.out.mono ?_
  rintro e w1 ⟨u, rfl, ho, b1⟩
  have HO := Lib.hid ho
  have P1 := Lib.hid (HP.out.below b1)
  have B1 := Lib.hid b1
  obtain ⟨ao, ca, hu⟩ := (Pa.OutS.rd ho).len
  subst hu
  clear ho b1 HI
  go_wp2_with fail
  go_loopw [9] (fun iv wr => ∃ j : Nat, j ≤ xs.length ∧ iv = .int .i64 j ∧ Hid (∃ g', Pt B b g g' (ls ++ (xs.map preQ).take j) w1 wr)) (fun iv _ => xs.length - (intOf iv).toNat)
  case atStart => exact ⟨0, Nat.zero_le _, rfl, Lib.hid ⟨g, by rw [List.take_zero, List.append_nil]; exact Pt.refl P1.out⟩⟩
  case round =>
    obtain ⟨j, hj, rfl, HT⟩ := hrel
    obtain ⟨g1, t1⟩ := HT.out
    have HT1 := Lib.hid t1
    clear t1 HT
    by_cases hlt : j < xs.length
    · have hi1 : (j : Int) < (xs.length : Int) := by omega
      obtain ⟨bb, o, rfl, c0⟩ := Bt.Rd.at (HT1.out.rd HP.out HO.out) j hlt
      have HBj := Lib.hid (HB.out j hlt wr)
      have HPj := Lib.hid (HPut.out _ _ _ HT1.out.pg (preQ xs[j]) (by rw [List.length_append, List.length_take, List.length_map]; omega))
      have HE : Hid (ls ++ (xs.map preQ).take j ++ [preQ xs[j]] = ls ++ (xs.map preQ).take (j + 1)) := Lib.hid (by rw [List.append_assoc, List.take_succ_eq_append_getElem (by rw [List.length_map]; exact hlt), List.getElem_map])
      clear HPut HB
      generalize S (preQ xs[j]) = px at *
      generalize S xs[j] = sx at *
      go_wp2_with fail
      refine HBj.out.mono ?_
      rintro e w2 ⟨rfl, rfl⟩
      clear HBj
      go_wp2_with fail
      refine HPj.out.mono ?_
      rintro e w3 ⟨rfl, g2, t2⟩
      have HT2 : Hid (∃ g', Pt B b g g' (ls ++ (xs.map preQ).take (j + 1)) w1 w3) := Lib.hid ⟨g2, by rw [← HE.out]; exact HT1.out.trans t2⟩
      clear t2 HPj
      go_wp2_with fail
      go_roundw
      case rel => exact ⟨j + 1, by omega, by go_num, HT2⟩
      case measure => simp [intOf] <;> omega
    · have hi1 : ¬ (j : Int) < (xs.length : Int) := by omega
      have HX2 : Hid (Pt B b g g1 (ls ++ xs.map preQ) w wr) := Lib.hid (by
        have h2 := HT1.out
        rw [List.take_of_length_le (by rw [List.length_map]; omega)] at h2
        exact Pt.ahead HP.out B1.out h2)
      clear HT1 hlt
      go_wp2_with fail
      go_end0
      exact ⟨rfl, _, HX2.out⟩
def itP (j : Nat) (x : Tx) : Tx := if j = 0 then (if x = [] then [45] else 45 :: 32 :: x) else preI x
theorem behind0 (x : Tx) (j : Nat) (hj : j = 0) (w : World) (hx : x.length ≤ 10000000000) : Calls Tryz.prog 95 #[.string ⟨#[45, 32]⟩, .string ⟨#[45]⟩, .string (S x)] w fun e w' => e = .returned (.string (S (itP j x))) ∧ w = w' := by
  subst hj
  have h := behind_any [45, 32] [45] x w (by decide) hx
  exact h
theorem behindI (x : Tx) (j : Nat) (hj : j ≠ 0) (w : World) (hx : x.length ≤ 10000000000) : Calls Tryz.prog 95 #[.string ⟨#[32, 32]⟩, .string ⟨#[]⟩, .string (S x)] w fun e w' => e = .returned (.string (S (itP j x))) ∧ w = w' := by
  have h := behind_any [32, 32] [] x w (by decide) hx
  unfold itP
  rw [if_neg hj]
  unfold preI
  exact h
theorem itP_map (s : Tx) (r : List Tx) (hs : s ≠ []) : (s :: r).mapIdx itP = itemW (s :: r) := by
  rw [List.mapIdx_cons]
  have e : List.mapIdx (fun i => itP (i + 1)) r = r.map preI := by
    apply List.ext_getElem
    · simp
    · intro i h1 h2
      simp [itP]
  rw [e]
  show itP 0 s :: _ = (45 :: 32 :: s) :: _
  unfold itP
  rw [if_pos rfl, if_neg hs]
set_option maxHeartbeats 1600000 in
theorem witem_any {B b : Nat} {g : Option Nat} {ls : List Tx} {w : World} (h : Pg B b g ls w) (v : Value) (xs : List Tx) (HI : Calls Tryz.prog 94 #[v] w (RowS w xs)) (hx : ∀ x ∈ xs, x.length ≤ 10000000000) (hl : ls.length + xs.length ≤ 1000000) :
    Calls Tryz.prog 61 #[.pointer (some ⟨b, 0, none⟩), v] w (PutAns B b g (ls ++ xs.mapIdx itP) w) := by
  have HI := Lib.hid HI
  have HP := Lib.hid h
  have HB0 := Lib.hid (fun j (hj : j < xs.length) (h0 : j = 0) (w' : World) => behind0 xs[j] j h0 w' (hx _ (List.getElem_mem hj)))
  have HB := Lib.hid (fun j (hj : j < xs.length) (h0 : j ≠ 0) (w' : World) => behindI xs[j] j h0 w' (hx _ (List.getElem_mem hj)))
  have HPut := Lib.hid (fun (g' : Option Nat) (ls' : List Tx) (w' : World) (h' : Pg B b g' ls' w') (s : Tx) (hl' : ls'.length + 1 ≤ 1000000) => put_any h' s hl')
  unfold RowS at HI
  unfold PutAns at HPut
  clear hx
  go_enter Tryz.func61, Tryz.ntmps61
  go_wp2_with fail
  refine HI.out.mono ?_
  rintro e w1 ⟨u, rfl, ho, b1⟩
  have HO := Lib.hid ho
  have P1 := Lib.hid (HP.out.below b1)
  have B1 := Lib.hid b1
  obtain ⟨ao, ca, hu⟩ := (Pa.OutS.rd ho).len
  subst hu
  clear ho b1 HI
  go_wp2_with fail
  go_loopw [9] (fun iv wr => ∃ j : Nat, j ≤ xs.length ∧ iv = .int .i64 j ∧ Hid (∃ g', Pt B b g g' (ls ++ (xs.mapIdx itP).take j) w1 wr)) (fun iv _ => xs.length - (intOf iv).toNat)
  case atStart => exact ⟨0, Nat.zero_le _, rfl, Lib.hid ⟨g, by rw [List.take_zero, List.append_nil]; exact Pt.refl P1.out⟩⟩
  case round =>
    obtain ⟨j, hj, rfl, HT⟩ := hrel
    obtain ⟨g1, t1⟩ := HT.out
    have HT1 := Lib.hid t1
    clear t1 HT
    by_cases hlt : j < xs.length
    · have hi1 : (j : Int) < (xs.length : Int) := by omega
      obtain ⟨bb, o, rfl, c0⟩ := Bt.Rd.at (HT1.out.rd HP.out HO.out) j hlt
      have HPj := Lib.hid (HPut.out _ _ _ HT1.out.pg (itP j xs[j]) (by rw [List.length_append, List.length_take, List.length_mapIdx]; omega))
      have HE : Hid (ls ++ (xs.mapIdx itP).take j ++ [itP j xs[j]] = ls ++ (xs.mapIdx itP).take (j + 1)) := Lib.hid (by rw [List.append_assoc, List.take_succ_eq_append_getElem (by rw [List.length_mapIdx]; exact hlt), List.getElem_mapIdx])
      by_cases h0 : j = 0
      · have HBj := Lib.hid (HB0.out j hlt h0 wr)
        have e0 : ((j : Int) == 0) = true := by rw [h0]; rfl
        clear HPut HB HB0 h0
        generalize S (itP j xs[j]) = px at *
        generalize S xs[j] = sx at *
        go_wp2_with fail
        refine HBj.out.mono ?_
        rintro e w2 ⟨rfl, rfl⟩
        clear HBj
        go_wp2_with fail
        refine HPj.out.mono ?_
        rintro e w3 ⟨rfl, g2, t2⟩
        have HT2 : Hid (∃ g', Pt B b g g' (ls ++ (xs.mapIdx itP).take (j + 1)) w1 w3) := Lib.hid ⟨g2, by rw [← HE.out]; exact HT1.out.trans t2⟩
        clear t2 HPj
        go_wp2_with fail
        go_roundw
        case rel => exact ⟨j + 1, by omega, by go_num, HT2⟩
        case measure => simp [intOf] <;> omega
      · have HBj := Lib.hid (HB.out j hlt h0 wr)
        have e0 : ((j : Int) == 0) = false := by rw [beq_eq_false_iff_ne]; omega
        clear HPut HB HB0 h0
        generalize S (itP j xs[j]) = px at *
        generalize S xs[j] = sx at *
        go_wp2_with fail
        refine HBj.out.mono ?_
        rintro e w2 ⟨rfl, rfl⟩
        clear HBj
        go_wp2_with fail
        refine HPj.out.mono ?_
        rintro e w3 ⟨rfl, g2, t2⟩
        have HT2 : Hid (∃ g', Pt B b g g' (ls ++ (xs.mapIdx itP).take (j + 1)) w1 w3) := Lib.hid ⟨g2, by rw [← HE.out]; exact HT1.out.trans t2⟩
        clear t2 HPj
        go_wp2_with fail
        go_roundw
        case rel => exact ⟨j + 1, by omega, by go_num, HT2⟩
        case measure => simp [intOf] <;> omega
    · have hi1 : ¬ (j : Int) < (xs.length : Int) := by omega
      have HX2 : Hid (Pt B b g g1 (ls ++ xs.mapIdx itP) w wr) := Lib.hid (by
        have h2 := HT1.out
        rw [List.take_of_length_le (by rw [List.length_mapIdx]; omega)] at h2
        exact Pt.ahead HP.out B1.out h2)
      clear HT1 hlt
      go_wp2_with fail
      go_end0
      exact ⟨rfl, _, HX2.out⟩
def BlkC (l : List Bk) : Prop := ∀ (v : Value) (w0 w : World) (b : Nat) (g : Option Nat) (ls : List Tx), TrB w0 v l → Below w0.heap.size w0 w → Pg w0.heap.size b g ls w → ls.length + 3 * ttAll l ≤ 900000 →
  Calls Tryz.prog 20 #[.pointer (some ⟨b, 0, none⟩), v] w (PutAns w0.heap.size b g (ls ++ wl l) w)
def insL (l : List Bk) : List Tx := if wl l = [] then [[]] else wl l
set_option maxHeartbeats 1600000 in
theorem winside_any (l : List Bk) (H : BlkC l) (v : Value) (w : World) (ht : TrB w v l) (hl : 3 * ttAll l ≤ 900000) :
    Calls Tryz.prog 94 #[v] w (RowS w (insL l)) := by
  have HC := Lib.hid (H v w (w.alloc (.cells #[.slice none 0 0] 54)) w.heap.size none [] ht ((Below.refl _ _).alloc (Nat.le_refl _) _) (Pg.begin w) (by simpa using hl))
  have HB1 := Lib.hid ((Below.refl w.heap.size w).alloc (Nat.le_refl _) (.cells #[.slice none 0 0] 54))
  have HP1 := Lib.hid (Pg.begin w)
  have HPut := Lib.hid (fun (g' : Option Nat) (ls' : List Tx) (w' : World) (h' : Pg w.heap.size w.heap.size g' ls' w') (s : Tx) (hl' : ls'.length + 1 ≤ 1000000) => put_any h' s hl')
  have HX : Hid (insL l = if wl l = [] then [[]] else wl l) := Lib.hid rfl
  generalize insL l = X at *
  rw [List.nil_append] at HC
  unfold PutAns at HC HPut
  clear H ht hl
  generalize wl l = L at *
  obtain ⟨ao0, ca0, hv⟩ : ∃ (a : Value) (c : Unit), v = a := ⟨v, (), rfl⟩
  clear hv ao0 ca0
  go_enter Tryz.func94, Tryz.ntmps94
  go_upto_region 2 with fail
  generalize w.alloc (.cells #[.slice none 0 0] 54) = w1 at *
  go_wp2_with fail
  refine HC.out.mono ?_
  rintro e w2 ⟨rfl, g2, t2⟩
  have HT2 := Lib.hid t2
  have HB2 := Lib.hid (HB1.out.trans (t2.bel HP1.out))
  clear t2 HC HB1 HP1
  by_cases h0 : L = []
  · rw [if_pos h0] at HX
    subst h0
    have HPj := Lib.hid (HPut.out _ _ _ HT2.out.pg [] (by simp))
    have hz : S [] = ⟨#[]⟩ := rfl
    rw [hz, List.nil_append] at HPj
    obtain ⟨_, u2, hb2, _, ho2⟩ := HT2.out.pg
    obtain ⟨ao, ca, hu⟩ := (Pa.OutS.rd ho2).len
    subst hu
    have c0 := cell_at hb2 0
    rw [show ([] : List Tx).length = 0 from rfl] at c0
    have c1 : w2.cell? ⟨w.heap.size, 0, none⟩ = some (.slice ao 0 ca) := c0
    have P2 := Lib.hid HT2.out.pg
    clear hb2 ho2 HPut hz HT2 c0
    go_wp2_with fail
    refine HPj.out.mono ?_
    rintro e w3 ⟨rfl, g3, t3⟩
    have HB3 := Lib.hid (HB2.out.trans (t3.bel P2.out))
    obtain ⟨_, u3, hb3, _, ho3⟩ := t3.pg
    obtain ⟨ao3, ca3, hu3⟩ := (Pa.OutS.rd ho3).len
    have HO3 := Lib.hid ho3
    have c3 : w3.cell? ⟨w.heap.size, 0, none⟩ = some u3 := cell_at hb3 0
    clear hb3 ho3 t3 HPj hu3
    go_wp2_with fail
    go_ret
    exact ⟨_, rfl, by rw [HX.out]; exact HO3.out, HB3.out⟩
  · rw [if_neg h0] at HX
    have hpos : 0 < L.length := List.length_pos_iff.2 h0
    obtain ⟨_, u2, hb2, _, ho2⟩ := HT2.out.pg
    obtain ⟨ao, ca, hu⟩ := (Pa.OutS.rd ho2).len
    have HO2 := Lib.hid ho2
    have c1 : w2.cell? ⟨w.heap.size, 0, none⟩ = some u2 := cell_at hb2 0
    obtain ⟨n, hn⟩ : ∃ n, L.length = n := ⟨_, rfl⟩
    rw [hn] at hu hpos
    have e0 : ((n : Int) == 0) = false := by rw [beq_eq_false_iff_ne]; omega
    subst hu
    clear hb2 ho2 HPut HT2 h0 hn
    go_wp2_with fail
    go_ret
    exact ⟨_, rfl, by rw [HX.out]; exact HO2.out, HB2.out⟩
end Go.Proofs.YtldllbmbcnipoabGreatDoor.Wr
