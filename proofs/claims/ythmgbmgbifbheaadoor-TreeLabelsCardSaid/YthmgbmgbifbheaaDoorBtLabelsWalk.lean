/-
  THE WALK of the statement TreeLabels.
-/
import Derived.Test.YthmgbmgbifbheaaDoorBt10Told
import Derived.Test.YthmgbmgbifbheaaDoorBtPlain
import Derived.Test.YthmgbmgbifbheaaDoorSpWrapsWalk
namespace Go.Proofs.YthmgbmgbifbheaaDoor.Bt
open Go.RowKit
open Go.Proofs.YthmgbmgbifbheaaDoor.Tk (S S_of S_list S_size S_toList ret_int Rd at_data len_data)
open Go.Proofs.YthmgbmgbifbheaaDoor.Cm (calls_at)
open Go.Proofs.YthmgbmgbifbheaaDoor.Sp (Sp Tr ret_bool OkAns rtB dsB)
open Go.Proofs.YthmgbmgbifbheaaDoor.Bk (Bk)
set_option linter.unusedVariables false

def dfn (lv : Int) (i : List UInt8) (ls : List (List UInt8)) (ks : List Bk) : List Bk := [.mk 8 lv i ls [] ks]
def lnk (t : List UInt8) : List Bk := [.mk 1 0 [] [] [.mk 4 t [.mk 2 [99] []]] []]
theorem dest_ok {s : List UInt8} (h : dsB s = true) (hs : s.length ≤ 100000) : Sp.ckB s = true := by
  unfold Sp.ckB
  refine decide_eq_true (Sp.chk_ascii (S s) (by rw [S_size]; omega) (fun k hk => ?_))
  unfold dsB at h
  rw [Bool.and_eq_true, List.all_eq_true] at h
  apply Sp.dc_range
  apply h.1
  have := at_data (S s) k hk
  rw [S_list] at this
  exact List.mem_of_mem_drop (by rw [this]; exact List.mem_cons_self ..)
theorem lnk_rt (t : List UInt8) : rtB [.mk 4 t [.mk 2 [99] []]] = (Sp.ckB t && dsB t) := by
  have e : Sp.okAll false true 0 [.mk 2 [99] []] = true := by decide +kernel
  unfold rtB
  rw [Sp.okAll_cons, Sp.okOne_eq]
  simp only [Sp.kind, Sp.s, Sp.kids]
  rw [e]
  simp [Sp.okAll, Sp.endB, Sp.hdB, Sp.ltB, Sp.kind]
theorem lnk_rg {t : List UInt8} (h : t.length ≤ 100000) : rgB (lnk t) = dsB t := by
  have e : rgB (lnk t) = rtB [.mk 4 t [.mk 2 [99] []]] := by
    unfold rgB lnk
    rw [allB_cons, oneB]
    have hd : dp [Bk.mk 1 0 [] [] [.mk 4 t [.mk 2 [99] []]] []] = 0 := by
      show dpAll 0 _ = 0
      rw [dpAll_cons, if_neg (by show ¬ (false = true); decide), dpAll]
      rfl
    rw [hd]
    simp [allB]
  rw [e, lnk_rt]
  cases hd : dsB t with
  | false => rw [Bool.and_false]
  | true => rw [dest_ok hd h]; rfl
theorem dfn_rg (lv : Int) (i : List UInt8) (ls : List (List UInt8)) : rgB (dfn lv i ls []) = ((lv == 0) && labB i && decide (ls.length = 1) && dsB (ls.headD [])) := by
  unfold rgB dfn
  rw [allB_cons, oneB]
  have hd : dp [Bk.mk 8 lv i ls [] []] = 0 := by
    show dpAll 0 _ = 0
    rw [dpAll_cons, if_neg (by show ¬ (false = true); decide), dpAll]
    rfl
  rw [hd]
  simp [allB]
theorem dfn_kids (lv : Int) (i : List UInt8) (ls : List (List UInt8)) (x : Bk) : rgB (dfn lv i ls [x]) = false := by
  unfold rgB dfn
  rw [allB_cons, oneB]
  simp

theorem litR (w : World) (t : List UInt8) (T : TypeId) : Rd (w.alloc (.cells #[.string (S t)] T)) (.slice (some ⟨w.heap.size, 0, none⟩) 1 1) [t] := by
  refine ⟨_, 1, rfl, Nat.le_refl _, Or.inr ⟨w.heap.size, 0, rfl, by simp, fun j x hj => ?_⟩⟩
  match j, hj with
  | 0, hj =>
    simp only [List.getElem?_cons_zero, Option.some.injEq] at hj
    subst hj
    rw [World.cell?_alloc_new]; rfl
theorem litR2 (w : World) (t : List UInt8) (T : TypeId) : Rd (w.alloc (.cells #[.string (S t), .string (S t)] T)) (.slice (some ⟨w.heap.size, 0, none⟩) 2 2) [t, t] := by
  refine ⟨_, 2, rfl, Nat.le_refl _, Or.inr ⟨w.heap.size, 0, rfl, by simp, fun j x hj => ?_⟩⟩
  match j, hj with
  | 0, hj =>
    simp only [List.getElem?_cons_zero, Option.some.injEq] at hj
    subst hj
    rw [World.cell?_alloc_new]; rfl
  | 1, hj =>
    simp only [List.getElem?_cons_succ, List.getElem?_cons_zero, Option.some.injEq] at hj
    subst hj
    rw [World.cell?_alloc_new]; rfl
/-- A literal of one span. -/
theorem litS {w : World} {k : Int} {i : List UInt8} {ao : Option Addr} {n c : Nat} {ks : List Sp} (htr : Tr w (.slice ao n c) ks) (T : TypeId) :
    Tr (w.alloc (.cells #[.int .i64 k, .string (S i), .slice ao n c] T)) (.slice (some ⟨w.heap.size, 0, none⟩) 1 1) [.mk k i ks] := by
  have hb : Below w.heap.size w (w.alloc (.cells #[.int .i64 k, .string (S i), .slice ao n c] T)) := (Below.refl _ _).alloc (Nat.le_refl _) _
  have hn : n = ks.length := by obtain ⟨_, _, hv, _⟩ := htr; simp only [Value.slice.injEq] at hv; exact hv.2.1
  subst hn
  refine ⟨_, 1, rfl, ⟨Nat.le_refl _, by omega⟩, Or.inr ⟨w.heap.size, 0, rfl, by simp, ?_⟩⟩
  unfold Sp.trAll
  refine ⟨Sp.trOne_of (ao := ao) (cap := c) ⟨?_, ?_, ?_, htr.below hb⟩, by unfold Sp.trAll; trivial⟩
  · rw [World.cell?_alloc_new]; rfl
  · rw [World.cell?_alloc_new]; rfl
  · rw [World.cell?_alloc_new]; rfl
theorem dfn_fit {lv : Int} {i : List UInt8} {ls : List (List UInt8)} {ks : List Bk} (hl : -9223372036854775808 ≤ lv ∧ lv ≤ 9223372036854775807) (hi : i.length ≤ 2000) (hls : ∀ s ∈ ls, s.length ≤ 2000) (hk : fitAll 1048576 ks) : fitAll 1048576 (dfn lv i ls ks) := by
  unfold dfn
  rw [fitAll, fitOne, fitAll]
  exact ⟨⟨by omega, hl, by omega, fun s hs => by have := hls s hs; omega, by unfold Sp.fitAll; trivial, hk⟩, trivial⟩
theorem lnk_fit {t : List UInt8} (h : t.length ≤ 2000) : fitAll 1048576 (lnk t) := by
  unfold lnk
  simp only [fitAll, fitOne, Sp.fitAll, Sp.fitOne, List.length_nil, List.length_cons]
  simp
  omega
theorem dfn_tt {lv : Int} {i : List UInt8} {ls : List (List UInt8)} {ks : List Bk} (hi : i.length ≤ 2000) (hls : lnTot ls ≤ 5000) (hk : ttAll ks ≤ 5000) : ttAll (dfn lv i ls ks) ≤ 9000000 := by
  unfold dfn
  rw [ttAll_cons, ttOne, ttAll, Sp.totAll]
  omega
theorem lnk_tt {t : List UInt8} (h : t.length ≤ 2000) : ttAll (lnk t) ≤ 9000000 := by
  unfold lnk
  rw [ttAll_cons, ttOne, ttAll]
  simp [lnTot, Sp.totAll, Sp.totOne]
  omega

set_option maxHeartbeats 3200000 in
set_option maxRecDepth 100000 in
theorem treeLabels_walk (K : Told10) (w : World) (s : ByteArray) (hs : s.size ≤ maxLen) (hr : s.size ≤ reachBytes) (t : ByteArray) (hs2 : t.size ≤ maxLen) (hr2 : t.size ≤ reachBytes) (lv : Int) (hlv : -9223372036854775808 ≤ lv ∧ lv ≤ 9223372036854775807) :
    Calls Tryd.prog 8 #[.string s, .string t, .int .i64 lv] w (OkAns w true) := by
  have HA := Lib.hid (awake10_any K)
  have hrb : reachBytes ≤ 140737488355328 := by decide
  have hb3 : (s.size : Int) + (t.size : Int) ≤ 281474976710656 := by omega
  by_cases hl : s.size + t.size ≤ 2000
  · have g0 : ¬ 2000 < (s.size : Int) + (t.size : Int) := by omega
    have ns : s.data.toList.length ≤ 2000 := by rw [len_data]; omega
    have nt : t.data.toList.length ≤ 2000 := by rw [len_data]; omega
    have hRl : rgB [Bk.mk 3 0 [] [] [] []] = true := by decide +kernel
    have K1 := Lib.hid (fun v w' (h : TrB w' v (dfn 0 s.data.toList [t.data.toList] [])) => K.right v _ w' h (dfn_fit (by omega) ns (fun x hx => by rw [List.mem_singleton.1 hx]; exact nt) (by unfold fitAll; trivial)) (dfn_tt ns (by simp [lnTot]; omega) (by rw [ttAll]; omega)))
    have K2 := Lib.hid (fun v w' (h : TrB w' v (lnk t.data.toList)) => K.right v _ w' h (lnk_fit nt) (lnk_tt nt))
    have K3 := Lib.hid (fun w' => K.label s w' (by omega))
    have K4 := Lib.hid (fun v w' (h : TrB w' v (dfn lv s.data.toList [t.data.toList] [])) => K.right v _ w' h (dfn_fit hlv ns (fun x hx => by rw [List.mem_singleton.1 hx]; exact nt) (by unfold fitAll; trivial)) (dfn_tt ns (by simp [lnTot]; omega) (by rw [ttAll]; omega)))
    have K5 := Lib.hid (fun v w' (h : TrB w' v (dfn 0 s.data.toList [t.data.toList, t.data.toList] [])) => K.right v _ w' h (dfn_fit (by omega) ns (fun x hx => by simp at hx; rw [hx]; exact nt) (by unfold fitAll; trivial)) (dfn_tt ns (by simp [lnTot]; omega) (by rw [ttAll]; omega)))
    have K6 := Lib.hid (fun v w' (h : TrB w' v (dfn 0 s.data.toList [t.data.toList] [.mk 3 0 [] [] [] []])) => K.right v _ w' h (dfn_fit (by omega) ns (fun x hx => by rw [List.mem_singleton.1 hx]; exact nt) (by simp [fitAll, fitOne, Sp.fitAll])) (dfn_tt ns (by simp [lnTot]; omega) (by simp [ttAll, ttOne, lnTot, Sp.totAll])))
    have e1 : rgB (dfn 0 s.data.toList [t.data.toList] []) = (labB s.data.toList && dsB t.data.toList) := by rw [dfn_rg]; simp
    have e4 : rgB (dfn lv s.data.toList [t.data.toList] []) = ((lv == 0) && (labB s.data.toList && dsB t.data.toList)) := by rw [dfn_rg]; simp [Bool.and_assoc]
    have e5 : rgB (dfn 0 s.data.toList [t.data.toList, t.data.toList] []) = false := by rw [dfn_rg]; simp
    rw [e1] at K1
    rw [e4] at K4
    rw [e5] at K5
    rw [dfn_kids] at K6
    clear e1 e4 e5
    rw [lnk_rg (by omega)] at K2
    have hds : t.data.toList.isEmpty = true → dsB t.data.toList = false := fun h => by unfold dsB; rw [h]; simp
    have emT : (t.toList == ([] : List UInt8)) = t.data.toList.isEmpty := by rw [Lib.toList_data]; cases t.data.toList <;> rfl
    have L0 := Lib.hid (fun w' => litR w' t.data.toList 9)
    have L1 := Lib.hid (fun w' => litR2 w' t.data.toList 9)
    rw [S_of] at L0 L1
    have HB := Lib.hid (fun (w' : World) (lv : Int) (vl : Value) (ls : List (List UInt8)) (ao : Option Addr) (n c : Nat) (ks : List Bk) (h1 : Rd w' vl ls) (h2 : ls.length ≤ 9223372036854775807) (h3 : TrB w' (.slice ao n c) ks) => by
      have := litB (k := 8) (lv := lv) (i := s.data.toList) h1 h2 (nilS w') h3 32
      rw [S_of] at this
      exact this)
    generalize labB s.data.toList = lb at *
    generalize dsB t.data.toList = ds at *
    generalize t.data.toList.isEmpty = te at *
    clear hRl K hs hr hs2 hr2 hrb hb3
    go_enter Tryd.func8, Tryd.ntmps8
    go_wp2_with fail
    refine (HA.out _).mono ?_
    rintro e w2 ⟨rfl, b2⟩
    have H2 := Lib.hid b2
    clear b2 HA
    go_upto_region 4 with fail
    have z1 : (w2.alloc (.cells #[.string t] 9)).heap.size = w2.heap.size + 1 := by simp
    have hR := L0.out w2
    have hb1 := H2.out.alloc H2.out.size (.cells #[.string t] 9)
    have hD := Cm.alloc_new (w2.alloc (.cells #[.string t] 9)) (.cells #[.int .i64 8, .int .i64 0, .string s, .slice (some ⟨w2.heap.size, 0, none⟩) 1 1, .slice none 0 0, .slice none 0 0] 32)
    have hbb : Below (w2.alloc (.cells #[.string t] 9)).heap.size (w2.alloc (.cells #[.string t] 9)) ((w2.alloc (.cells #[.string t] 9)).alloc (.cells #[.int .i64 8, .int .i64 0, .string s, .slice (some ⟨w2.heap.size, 0, none⟩) 1 1, .slice none 0 0, .slice none 0 0] 32)) := (Below.refl _ _).alloc (Nat.le_refl _) _
    have hR2 := Lib.hid (hR.below hbb)
    have H3 := Lib.hid (hb1.alloc hb1.size (.cells #[.int .i64 8, .int .i64 0, .string s, .slice (some ⟨w2.heap.size, 0, none⟩) 1 1, .slice none 0 0, .slice none 0 0] 32))
    rw [z1] at hD
    have HD := Lib.hid hD
    have z2 : ((w2.alloc (.cells #[.string t] 9)).alloc (.cells #[.int .i64 8, .int .i64 0, .string s, .slice (some ⟨w2.heap.size, 0, none⟩) 1 1, .slice none 0 0, .slice none 0 0] 32)).heap.size = w2.heap.size + 2 := by simp
    clear hR hb1 hD hbb z1 H2
    generalize (w2.alloc (.cells #[.string t] 9)).alloc (.cells #[.int .i64 8, .int .i64 0, .string s, .slice (some ⟨w2.heap.size, 0, none⟩) 1 1, .slice none 0 0, .slice none 0 0] 32) = w3 at *
    generalize w2.heap.size = na at *
    have HKc : Hid (∀ w', Below w3.heap.size w3 w' → w'.cell? ⟨na + 1, 0, none⟩ = some (.int .i64 8) ∧ w'.cell? ⟨na + 1, 1, none⟩ = some (.int .i64 0) ∧ w'.cell? ⟨na + 1, 2, none⟩ = some (.string s) ∧ w'.cell? ⟨na + 1, 3, none⟩ = some (.slice (some ⟨na, 0, none⟩) 1 1) ∧ w'.cell? ⟨na + 1, 4, none⟩ = some (.slice none 0 0) ∧ w'.cell? ⟨na + 1, 5, none⟩ = some (.slice none 0 0) ∧ Rd w' (.slice (some ⟨na, 0, none⟩) 1 1) [t.data.toList]) := Lib.hid (fun w' h => by
      have hlt : na + 1 < w3.heap.size := by omega
      exact ⟨(h.cell (by exact hlt)).trans (Cm.cell_at HD.out 0), (h.cell (by exact hlt)).trans (Cm.cell_at HD.out 1), (h.cell (by exact hlt)).trans (Cm.cell_at HD.out 2), (h.cell (by exact hlt)).trans (Cm.cell_at HD.out 3), (h.cell (by exact hlt)).trans (Cm.cell_at HD.out 4), (h.cell (by exact hlt)).trans (Cm.cell_at HD.out 5), hR2.out.below h⟩)
    obtain ⟨c0, c1, c2, c3, c4, c5, hR3⟩ := HKc.out w3 (Below.refl _ _)
    have T3 := Lib.hid (HB.out w3 0 _ _ none 0 0 [] hR3 (by simp) (nilB _))
    have G3 : Hid (Below w3.heap.size w3 w3) := Lib.hid (Below.refl _ _)
    clear HD hR2 hR3 z2
    go_wp2_with fail
    refine (K1.out _ _ T3.out).mono ?_
    rintro e w4 ⟨rfl, b4⟩
    have bA : Below w3.heap.size w3 (w3.alloc (.cells #[.int .i64 8, .int .i64 0, .string s, .slice (some ⟨na, 0, none⟩) 1 1, .slice none 0 0, .slice none 0 0] 32)) := (Below.refl _ _).alloc (Nat.le_refl _) _
    have G4 := Lib.hid (bA.trans (b4.mono bA.size))
    have H4 := Lib.hid (H3.out.trans (G4.out.mono H3.out.size))
    clear b4 bA T3 K1 H3 c0 c1 c2 c3 c4 c5 G3
    go_wp2_with fail
    refine (K3.out _).mono ?_
    rintro e w5 ⟨rfl, b5⟩
    have G5 := Lib.hid (G4.out.trans (b5.mono G4.out.size))
    have H5 := Lib.hid (H4.out.trans (b5.mono H4.out.size))
    clear b5 K3 G4 H4
    obtain ⟨c0, c1, c2, c3, c4, c5, hR5⟩ := HKc.out w5 G5.out
    cases lb with
    | false =>
      go_upto_region 9 with fail
      have hx := Cm.alloc_new w5 (.cells #[.int .i64 8, .int .i64 lv, .string s, .slice (some ⟨na, 0, none⟩) 1 1, .slice none 0 0, .slice none 0 0] 32)
      have gx : Below w5.heap.size w5 (w5.alloc (.cells #[.int .i64 8, .int .i64 lv, .string s, .slice (some ⟨na, 0, none⟩) 1 1, .slice none 0 0, .slice none 0 0] 32)) := (Below.refl _ _).alloc (Nat.le_refl _) _
      have sx : (w5.alloc (.cells #[.int .i64 8, .int .i64 lv, .string s, .slice (some ⟨na, 0, none⟩) 1 1, .slice none 0 0, .slice none 0 0] 32)).heap.size = w5.heap.size + 1 := by simp
      have G6 := Lib.hid (G5.out.trans (gx.mono G5.out.size))
      have H6 := Lib.hid (H5.out.trans (gx.mono H5.out.size))
      have HX := Lib.hid hx
      clear hx gx c0 c1 c2 c3 c4 c5 hR5
      generalize w5.alloc (.cells #[.int .i64 8, .int .i64 lv, .string s, .slice (some ⟨na, 0, none⟩) 1 1, .slice none 0 0, .slice none 0 0] 32) = w6 at *
      generalize w5.heap.size = nx at *
      obtain ⟨d0, d1, d2, d3, d4, d5, hR6⟩ := HKc.out w6 G6.out
      go_upto_region 11 with fail
      have hy := Cm.alloc_at (Cm.alloc_new w6 (.cells #[.int .i64 8, .int .i64 0, .string s, .slice (some ⟨nx + 1 + 1, 0, none⟩) 2 2, .slice none 0 0, .slice none 0 0] 32)) (.cells #[.string t, .string t] 9)
      have r2 := L1.out (w6.alloc (.cells #[.int .i64 8, .int .i64 0, .string s, .slice (some ⟨nx + 1 + 1, 0, none⟩) 2 2, .slice none 0 0, .slice none 0 0] 32))
      rw [World.size_alloc, sx] at r2
      rw [sx] at hy
      have g7 : Below w6.heap.size w6 ((w6.alloc (.cells #[.int .i64 8, .int .i64 0, .string s, .slice (some ⟨nx + 1 + 1, 0, none⟩) 2 2, .slice none 0 0, .slice none 0 0] 32)).alloc (.cells #[.string t, .string t] 9)) := ((Below.refl _ _).alloc (Nat.le_refl _) _).alloc (by simp) _
      have s7 : ((w6.alloc (.cells #[.int .i64 8, .int .i64 0, .string s, .slice (some ⟨nx + 1 + 1, 0, none⟩) 2 2, .slice none 0 0, .slice none 0 0] 32)).alloc (.cells #[.string t, .string t] 9)).heap.size = nx + 3 := by simp; omega
      have HX7 := Lib.hid (Cm.alloc_at (Cm.alloc_at HX.out (.cells #[.int .i64 8, .int .i64 0, .string s, .slice (some ⟨nx + 1 + 1, 0, none⟩) 2 2, .slice none 0 0, .slice none 0 0] 32)) (.cells #[.string t, .string t] 9))
      have HY7 := Lib.hid hy
      have HR7 := Lib.hid r2
      have G7 := Lib.hid (G6.out.trans (g7.mono G6.out.size))
      have H7 := Lib.hid (H6.out.trans (g7.mono H6.out.size))
      clear hy r2 g7 d0 d1 d2 d3 d4 d5 hR6 HX G6 H6
      generalize (w6.alloc (.cells #[.int .i64 8, .int .i64 0, .string s, .slice (some ⟨nx + 1 + 1, 0, none⟩) 2 2, .slice none 0 0, .slice none 0 0] 32)).alloc (.cells #[.string t, .string t] 9) = w7 at *
      obtain ⟨d0, d1, d2, d3, d4, d5, hR7⟩ := HKc.out w7 G7.out
      have sz7 : w7.heap.size = nx + 1 + 1 + 1 := by omega
      clear s7 sx
      obtain ⟨nz, hnz⟩ : ∃ n, n = nx + 1 + 1 + 1 := ⟨_, rfl⟩
      rw [← hnz] at sz7
      have hlt7 : nx + 1 + 1 + 1 ≤ nz := by omega
      clear hnz
      go_upto_region 13 with fail
      try rw [sz7]
      have hz := Cm.alloc_at (Cm.alloc_new w7 (.cells #[.int .i64 8, .int .i64 0, .string s, .slice (some ⟨na, 0, none⟩) 1 1, .slice none 0 0, .slice (some ⟨nz + 1, 0, none⟩) 1 1] 32)) (.cells #[.int .i64 3, .int .i64 0, .string ⟨#[]⟩, .slice none 0 0, .slice none 0 0, .slice none 0 0] 32)
      rw [sz7] at hz
      have tr := litB (w := w7.alloc (.cells #[.int .i64 8, .int .i64 0, .string s, .slice (some ⟨na, 0, none⟩) 1 1, .slice none 0 0, .slice (some ⟨nz + 1, 0, none⟩) 1 1] 32)) (k := 3) (lv := 0) (i := []) (nilR _) (by simp) (nilS _) (nilB _) 32
      rw [show S [] = ⟨#[]⟩ from rfl, World.size_alloc, sz7] at tr
      have g8 : Below w7.heap.size w7 ((w7.alloc (.cells #[.int .i64 8, .int .i64 0, .string s, .slice (some ⟨na, 0, none⟩) 1 1, .slice none 0 0, .slice (some ⟨nz + 1, 0, none⟩) 1 1] 32)).alloc (.cells #[.int .i64 3, .int .i64 0, .string ⟨#[]⟩, .slice none 0 0, .slice none 0 0, .slice none 0 0] 32)) := ((Below.refl _ _).alloc (Nat.le_refl _) _).alloc (by simp) _
      have s8 : ((w7.alloc (.cells #[.int .i64 8, .int .i64 0, .string s, .slice (some ⟨na, 0, none⟩) 1 1, .slice none 0 0, .slice (some ⟨nz + 1, 0, none⟩) 1 1] 32)).alloc (.cells #[.int .i64 3, .int .i64 0, .string ⟨#[]⟩, .slice none 0 0, .slice none 0 0, .slice none 0 0] 32)).heap.size = nz + 2 := by simp; omega
      have HX8 := Lib.hid (Cm.alloc_at (Cm.alloc_at HX7.out (.cells #[.int .i64 8, .int .i64 0, .string s, .slice (some ⟨na, 0, none⟩) 1 1, .slice none 0 0, .slice (some ⟨nz + 1, 0, none⟩) 1 1] 32)) (.cells #[.int .i64 3, .int .i64 0, .string ⟨#[]⟩, .slice none 0 0, .slice none 0 0, .slice none 0 0] 32))
      have HY8 := Lib.hid (Cm.alloc_at (Cm.alloc_at HY7.out (.cells #[.int .i64 8, .int .i64 0, .string s, .slice (some ⟨na, 0, none⟩) 1 1, .slice none 0 0, .slice (some ⟨nz + 1, 0, none⟩) 1 1] 32)) (.cells #[.int .i64 3, .int .i64 0, .string ⟨#[]⟩, .slice none 0 0, .slice none 0 0, .slice none 0 0] 32))
      have HR8 := Lib.hid (HR7.out.below g8)
      have HZ8 := Lib.hid hz
      have HT8 := Lib.hid tr
      have G8 := Lib.hid (G7.out.trans (g8.mono G7.out.size))
      have H8 := Lib.hid (H7.out.trans (g8.mono H7.out.size))
      clear hz tr g8 d0 d1 d2 d3 d4 d5 hR7 HX7 HY7 HR7 G7 H7
      generalize (w7.alloc (.cells #[.int .i64 8, .int .i64 0, .string s, .slice (some ⟨na, 0, none⟩) 1 1, .slice none 0 0, .slice (some ⟨nz + 1, 0, none⟩) 1 1] 32)).alloc (.cells #[.int .i64 3, .int .i64 0, .string ⟨#[]⟩, .slice none 0 0, .slice none 0 0, .slice none 0 0] 32) = w8 at *
      have HK8 : Hid (∀ w', Below w8.heap.size w8 w' → (w'.cell? ⟨nx, 0, none⟩ = some (.int .i64 8) ∧ w'.cell? ⟨nx, 1, none⟩ = some (.int .i64 lv) ∧ w'.cell? ⟨nx, 2, none⟩ = some (.string s) ∧ w'.cell? ⟨nx, 3, none⟩ = some (.slice (some ⟨na, 0, none⟩) 1 1) ∧ w'.cell? ⟨nx, 4, none⟩ = some (.slice none 0 0) ∧ w'.cell? ⟨nx, 5, none⟩ = some (.slice none 0 0)) ∧ (w'.cell? ⟨nx + 1, 0, none⟩ = some (.int .i64 8) ∧ w'.cell? ⟨nx + 1, 1, none⟩ = some (.int .i64 0) ∧ w'.cell? ⟨nx + 1, 2, none⟩ = some (.string s) ∧ w'.cell? ⟨nx + 1, 3, none⟩ = some (.slice (some ⟨nx + 1 + 1, 0, none⟩) 2 2) ∧ w'.cell? ⟨nx + 1, 4, none⟩ = some (.slice none 0 0) ∧ w'.cell? ⟨nx + 1, 5, none⟩ = some (.slice none 0 0)) ∧ (w'.cell? ⟨nz, 0, none⟩ = some (.int .i64 8) ∧ w'.cell? ⟨nz, 1, none⟩ = some (.int .i64 0) ∧ w'.cell? ⟨nz, 2, none⟩ = some (.string s) ∧ w'.cell? ⟨nz, 3, none⟩ = some (.slice (some ⟨na, 0, none⟩) 1 1) ∧ w'.cell? ⟨nz, 4, none⟩ = some (.slice none 0 0) ∧ w'.cell? ⟨nz, 5, none⟩ = some (.slice (some ⟨nz + 1, 0, none⟩) 1 1)) ∧ Rd w' (.slice (some ⟨na, 0, none⟩) 1 1) [t.data.toList] ∧ Rd w' (.slice (some ⟨nx + 1 + 1, 0, none⟩) 2 2) [t.data.toList, t.data.toList] ∧ TrB w' (.slice (some ⟨nz + 1, 0, none⟩) 1 1) [.mk 3 0 [] [] [] []]) := Lib.hid (fun w' h => by
        have l1 : nx < w8.heap.size := by omega
        have l2 : nx + 1 < w8.heap.size := by omega
        have l3 : nz < w8.heap.size := by omega
        refine ⟨⟨(h.cell (by exact l1)).trans (Cm.cell_at HX8.out 0), (h.cell (by exact l1)).trans (Cm.cell_at HX8.out 1), (h.cell (by exact l1)).trans (Cm.cell_at HX8.out 2), (h.cell (by exact l1)).trans (Cm.cell_at HX8.out 3), (h.cell (by exact l1)).trans (Cm.cell_at HX8.out 4), (h.cell (by exact l1)).trans (Cm.cell_at HX8.out 5)⟩, ⟨(h.cell (by exact l2)).trans (Cm.cell_at HY8.out 0), (h.cell (by exact l2)).trans (Cm.cell_at HY8.out 1), (h.cell (by exact l2)).trans (Cm.cell_at HY8.out 2), (h.cell (by exact l2)).trans (Cm.cell_at HY8.out 3), (h.cell (by exact l2)).trans (Cm.cell_at HY8.out 4), (h.cell (by exact l2)).trans (Cm.cell_at HY8.out 5)⟩, ⟨(h.cell (by exact l3)).trans (Cm.cell_at HZ8.out 0), (h.cell (by exact l3)).trans (Cm.cell_at HZ8.out 1), (h.cell (by exact l3)).trans (Cm.cell_at HZ8.out 2), (h.cell (by exact l3)).trans (Cm.cell_at HZ8.out 3), (h.cell (by exact l3)).trans (Cm.cell_at HZ8.out 4), (h.cell (by exact l3)).trans (Cm.cell_at HZ8.out 5)⟩, ?_, HR8.out.below h, HT8.out.below h⟩
        obtain ⟨_, _, _, _, _, _, hh⟩ := HKc.out w' (G8.out.trans (h.mono G8.out.size))
        exact hh)
      clear HX8 HY8 HR8 HZ8 HT8 HKc G8 sz7 hlt7 s8
      obtain ⟨⟨a0, a1, a2, a3, a4, a5⟩, -, -, ar, -, -⟩ := HK8.out w8 (Below.refl _ _)
      have T8 := Lib.hid (HB.out w8 lv _ _ none 0 0 [] ar (by simp) (nilB _))
      have bb : Below w8.heap.size w8 (w8.alloc (.cells #[.int .i64 8, .int .i64 lv, .string s, .slice (some ⟨na, 0, none⟩) 1 1, .slice none 0 0, .slice none 0 0] 32)) := (Below.refl _ _).alloc (Nat.le_refl _) _
      have G9 := Lib.hid bb
      clear bb ar
      go_wp2_with fail
      refine (K4.out _ _ T8.out).mono ?_
      rintro e w9 ⟨rfl, b9⟩
      have G9' := Lib.hid (G9.out.trans (b9.mono G9.out.size))
      have H9 := Lib.hid (H8.out.trans (G9'.out.mono H8.out.size))
      clear a0 a1 a2 a3 a4 a5 T8 b9 G9 K4 H8
      obtain ⟨-, ⟨a0, a1, a2, a3, a4, a5⟩, -, -, ar, -⟩ := HK8.out w9 G9'.out
      have T9 := Lib.hid (HB.out w9 0 _ _ none 0 0 [] ar (by simp) (nilB _))
      have bb : Below w9.heap.size w9 (w9.alloc (.cells #[.int .i64 8, .int .i64 0, .string s, .slice (some ⟨nx + 1 + 1, 0, none⟩) 2 2, .slice none 0 0, .slice none 0 0] 32)) := (Below.refl _ _).alloc (Nat.le_refl _) _
      have G10 := Lib.hid (G9'.out.trans (bb.mono G9'.out.size))
      have H10 := Lib.hid (H9.out.trans (bb.mono H9.out.size))
      clear bb ar G9' H9
      go_wp2_with fail
      refine (K5.out _ _ T9.out).mono ?_
      rintro e w10 ⟨rfl, b10⟩
      have G11 := Lib.hid (G10.out.trans (b10.mono G10.out.size))
      have H11 := Lib.hid (H10.out.trans (b10.mono H10.out.size))
      clear a0 a1 a2 a3 a4 a5 T9 b10 G10 K5 H10
      obtain ⟨-, -, ⟨a0, a1, a2, a3, a4, a5⟩, ar, -, at'⟩ := HK8.out w10 G11.out
      have T11 := Lib.hid (HB.out w10 0 _ _ _ _ _ _ ar (by simp) at')
      have bb : Below w10.heap.size w10 (w10.alloc (.cells #[.int .i64 8, .int .i64 0, .string s, .slice (some ⟨na, 0, none⟩) 1 1, .slice none 0 0, .slice (some ⟨nz + 1, 0, none⟩) 1 1] 32)) := (Below.refl _ _).alloc (Nat.le_refl _) _
      have H12 := Lib.hid (H11.out.trans (bb.mono H11.out.size))
      clear bb ar at' G11 H11 HK8
      go_wp2_with fail
      refine (K6.out _ _ T11.out).mono ?_
      rintro e w11 ⟨rfl, b11⟩
      have H13 := Lib.hid (H12.out.trans (b11.mono H12.out.size))
      clear b11 T11 H12 K6
      go_wp2_with fail
      go_ret
      exact ⟨by simp, H13.out⟩
    | true =>
      cases te with
      | true =>
        have hds' := hds rfl
        subst hds'
        clear hds
        go_upto_region 9 with fail
        have hx := Cm.alloc_new w5 (.cells #[.int .i64 8, .int .i64 lv, .string s, .slice (some ⟨na, 0, none⟩) 1 1, .slice none 0 0, .slice none 0 0] 32)
        have gx : Below w5.heap.size w5 (w5.alloc (.cells #[.int .i64 8, .int .i64 lv, .string s, .slice (some ⟨na, 0, none⟩) 1 1, .slice none 0 0, .slice none 0 0] 32)) := (Below.refl _ _).alloc (Nat.le_refl _) _
        have sx : (w5.alloc (.cells #[.int .i64 8, .int .i64 lv, .string s, .slice (some ⟨na, 0, none⟩) 1 1, .slice none 0 0, .slice none 0 0] 32)).heap.size = w5.heap.size + 1 := by simp
        have G6 := Lib.hid (G5.out.trans (gx.mono G5.out.size))
        have H6 := Lib.hid (H5.out.trans (gx.mono H5.out.size))
        have HX := Lib.hid hx
        clear hx gx c0 c1 c2 c3 c4 c5 hR5
        generalize w5.alloc (.cells #[.int .i64 8, .int .i64 lv, .string s, .slice (some ⟨na, 0, none⟩) 1 1, .slice none 0 0, .slice none 0 0] 32) = w6 at *
        generalize w5.heap.size = nx at *
        obtain ⟨d0, d1, d2, d3, d4, d5, hR6⟩ := HKc.out w6 G6.out
        go_upto_region 11 with fail
        have hy := Cm.alloc_at (Cm.alloc_new w6 (.cells #[.int .i64 8, .int .i64 0, .string s, .slice (some ⟨nx + 1 + 1, 0, none⟩) 2 2, .slice none 0 0, .slice none 0 0] 32)) (.cells #[.string t, .string t] 9)
        have r2 := L1.out (w6.alloc (.cells #[.int .i64 8, .int .i64 0, .string s, .slice (some ⟨nx + 1 + 1, 0, none⟩) 2 2, .slice none 0 0, .slice none 0 0] 32))
        rw [World.size_alloc, sx] at r2
        rw [sx] at hy
        have g7 : Below w6.heap.size w6 ((w6.alloc (.cells #[.int .i64 8, .int .i64 0, .string s, .slice (some ⟨nx + 1 + 1, 0, none⟩) 2 2, .slice none 0 0, .slice none 0 0] 32)).alloc (.cells #[.string t, .string t] 9)) := ((Below.refl _ _).alloc (Nat.le_refl _) _).alloc (by simp) _
        have s7 : ((w6.alloc (.cells #[.int .i64 8, .int .i64 0, .string s, .slice (some ⟨nx + 1 + 1, 0, none⟩) 2 2, .slice none 0 0, .slice none 0 0] 32)).alloc (.cells #[.string t, .string t] 9)).heap.size = nx + 3 := by simp; omega
        have HX7 := Lib.hid (Cm.alloc_at (Cm.alloc_at HX.out (.cells #[.int .i64 8, .int .i64 0, .string s, .slice (some ⟨nx + 1 + 1, 0, none⟩) 2 2, .slice none 0 0, .slice none 0 0] 32)) (.cells #[.string t, .string t] 9))
        have HY7 := Lib.hid hy
        have HR7 := Lib.hid r2
        have G7 := Lib.hid (G6.out.trans (g7.mono G6.out.size))
        have H7 := Lib.hid (H6.out.trans (g7.mono H6.out.size))
        clear hy r2 g7 d0 d1 d2 d3 d4 d5 hR6 HX G6 H6
        generalize (w6.alloc (.cells #[.int .i64 8, .int .i64 0, .string s, .slice (some ⟨nx + 1 + 1, 0, none⟩) 2 2, .slice none 0 0, .slice none 0 0] 32)).alloc (.cells #[.string t, .string t] 9) = w7 at *
        obtain ⟨d0, d1, d2, d3, d4, d5, hR7⟩ := HKc.out w7 G7.out
        have sz7 : w7.heap.size = nx + 1 + 1 + 1 := by omega
        clear s7 sx
        obtain ⟨nz, hnz⟩ : ∃ n, n = nx + 1 + 1 + 1 := ⟨_, rfl⟩
        rw [← hnz] at sz7
        have hlt7 : nx + 1 + 1 + 1 ≤ nz := by omega
        clear hnz
        go_upto_region 13 with fail
        try rw [sz7]
        have hz := Cm.alloc_at (Cm.alloc_new w7 (.cells #[.int .i64 8, .int .i64 0, .string s, .slice (some ⟨na, 0, none⟩) 1 1, .slice none 0 0, .slice (some ⟨nz + 1, 0, none⟩) 1 1] 32)) (.cells #[.int .i64 3, .int .i64 0, .string ⟨#[]⟩, .slice none 0 0, .slice none 0 0, .slice none 0 0] 32)
        rw [sz7] at hz
        have tr := litB (w := w7.alloc (.cells #[.int .i64 8, .int .i64 0, .string s, .slice (some ⟨na, 0, none⟩) 1 1, .slice none 0 0, .slice (some ⟨nz + 1, 0, none⟩) 1 1] 32)) (k := 3) (lv := 0) (i := []) (nilR _) (by simp) (nilS _) (nilB _) 32
        rw [show S [] = ⟨#[]⟩ from rfl, World.size_alloc, sz7] at tr
        have g8 : Below w7.heap.size w7 ((w7.alloc (.cells #[.int .i64 8, .int .i64 0, .string s, .slice (some ⟨na, 0, none⟩) 1 1, .slice none 0 0, .slice (some ⟨nz + 1, 0, none⟩) 1 1] 32)).alloc (.cells #[.int .i64 3, .int .i64 0, .string ⟨#[]⟩, .slice none 0 0, .slice none 0 0, .slice none 0 0] 32)) := ((Below.refl _ _).alloc (Nat.le_refl _) _).alloc (by simp) _
        have s8 : ((w7.alloc (.cells #[.int .i64 8, .int .i64 0, .string s, .slice (some ⟨na, 0, none⟩) 1 1, .slice none 0 0, .slice (some ⟨nz + 1, 0, none⟩) 1 1] 32)).alloc (.cells #[.int .i64 3, .int .i64 0, .string ⟨#[]⟩, .slice none 0 0, .slice none 0 0, .slice none 0 0] 32)).heap.size = nz + 2 := by simp; omega
        have HX8 := Lib.hid (Cm.alloc_at (Cm.alloc_at HX7.out (.cells #[.int .i64 8, .int .i64 0, .string s, .slice (some ⟨na, 0, none⟩) 1 1, .slice none 0 0, .slice (some ⟨nz + 1, 0, none⟩) 1 1] 32)) (.cells #[.int .i64 3, .int .i64 0, .string ⟨#[]⟩, .slice none 0 0, .slice none 0 0, .slice none 0 0] 32))
        have HY8 := Lib.hid (Cm.alloc_at (Cm.alloc_at HY7.out (.cells #[.int .i64 8, .int .i64 0, .string s, .slice (some ⟨na, 0, none⟩) 1 1, .slice none 0 0, .slice (some ⟨nz + 1, 0, none⟩) 1 1] 32)) (.cells #[.int .i64 3, .int .i64 0, .string ⟨#[]⟩, .slice none 0 0, .slice none 0 0, .slice none 0 0] 32))
        have HR8 := Lib.hid (HR7.out.below g8)
        have HZ8 := Lib.hid hz
        have HT8 := Lib.hid tr
        have G8 := Lib.hid (G7.out.trans (g8.mono G7.out.size))
        have H8 := Lib.hid (H7.out.trans (g8.mono H7.out.size))
        clear hz tr g8 d0 d1 d2 d3 d4 d5 hR7 HX7 HY7 HR7 G7 H7
        generalize (w7.alloc (.cells #[.int .i64 8, .int .i64 0, .string s, .slice (some ⟨na, 0, none⟩) 1 1, .slice none 0 0, .slice (some ⟨nz + 1, 0, none⟩) 1 1] 32)).alloc (.cells #[.int .i64 3, .int .i64 0, .string ⟨#[]⟩, .slice none 0 0, .slice none 0 0, .slice none 0 0] 32) = w8 at *
        have HK8 : Hid (∀ w', Below w8.heap.size w8 w' → (w'.cell? ⟨nx, 0, none⟩ = some (.int .i64 8) ∧ w'.cell? ⟨nx, 1, none⟩ = some (.int .i64 lv) ∧ w'.cell? ⟨nx, 2, none⟩ = some (.string s) ∧ w'.cell? ⟨nx, 3, none⟩ = some (.slice (some ⟨na, 0, none⟩) 1 1) ∧ w'.cell? ⟨nx, 4, none⟩ = some (.slice none 0 0) ∧ w'.cell? ⟨nx, 5, none⟩ = some (.slice none 0 0)) ∧ (w'.cell? ⟨nx + 1, 0, none⟩ = some (.int .i64 8) ∧ w'.cell? ⟨nx + 1, 1, none⟩ = some (.int .i64 0) ∧ w'.cell? ⟨nx + 1, 2, none⟩ = some (.string s) ∧ w'.cell? ⟨nx + 1, 3, none⟩ = some (.slice (some ⟨nx + 1 + 1, 0, none⟩) 2 2) ∧ w'.cell? ⟨nx + 1, 4, none⟩ = some (.slice none 0 0) ∧ w'.cell? ⟨nx + 1, 5, none⟩ = some (.slice none 0 0)) ∧ (w'.cell? ⟨nz, 0, none⟩ = some (.int .i64 8) ∧ w'.cell? ⟨nz, 1, none⟩ = some (.int .i64 0) ∧ w'.cell? ⟨nz, 2, none⟩ = some (.string s) ∧ w'.cell? ⟨nz, 3, none⟩ = some (.slice (some ⟨na, 0, none⟩) 1 1) ∧ w'.cell? ⟨nz, 4, none⟩ = some (.slice none 0 0) ∧ w'.cell? ⟨nz, 5, none⟩ = some (.slice (some ⟨nz + 1, 0, none⟩) 1 1)) ∧ Rd w' (.slice (some ⟨na, 0, none⟩) 1 1) [t.data.toList] ∧ Rd w' (.slice (some ⟨nx + 1 + 1, 0, none⟩) 2 2) [t.data.toList, t.data.toList] ∧ TrB w' (.slice (some ⟨nz + 1, 0, none⟩) 1 1) [.mk 3 0 [] [] [] []]) := Lib.hid (fun w' h => by
          have l1 : nx < w8.heap.size := by omega
          have l2 : nx + 1 < w8.heap.size := by omega
          have l3 : nz < w8.heap.size := by omega
          refine ⟨⟨(h.cell (by exact l1)).trans (Cm.cell_at HX8.out 0), (h.cell (by exact l1)).trans (Cm.cell_at HX8.out 1), (h.cell (by exact l1)).trans (Cm.cell_at HX8.out 2), (h.cell (by exact l1)).trans (Cm.cell_at HX8.out 3), (h.cell (by exact l1)).trans (Cm.cell_at HX8.out 4), (h.cell (by exact l1)).trans (Cm.cell_at HX8.out 5)⟩, ⟨(h.cell (by exact l2)).trans (Cm.cell_at HY8.out 0), (h.cell (by exact l2)).trans (Cm.cell_at HY8.out 1), (h.cell (by exact l2)).trans (Cm.cell_at HY8.out 2), (h.cell (by exact l2)).trans (Cm.cell_at HY8.out 3), (h.cell (by exact l2)).trans (Cm.cell_at HY8.out 4), (h.cell (by exact l2)).trans (Cm.cell_at HY8.out 5)⟩, ⟨(h.cell (by exact l3)).trans (Cm.cell_at HZ8.out 0), (h.cell (by exact l3)).trans (Cm.cell_at HZ8.out 1), (h.cell (by exact l3)).trans (Cm.cell_at HZ8.out 2), (h.cell (by exact l3)).trans (Cm.cell_at HZ8.out 3), (h.cell (by exact l3)).trans (Cm.cell_at HZ8.out 4), (h.cell (by exact l3)).trans (Cm.cell_at HZ8.out 5)⟩, ?_, HR8.out.below h, HT8.out.below h⟩
          obtain ⟨_, _, _, _, _, _, hh⟩ := HKc.out w' (G8.out.trans (h.mono G8.out.size))
          exact hh)
        clear HX8 HY8 HR8 HZ8 HT8 HKc G8 sz7 hlt7 s8
        obtain ⟨⟨a0, a1, a2, a3, a4, a5⟩, -, -, ar, -, -⟩ := HK8.out w8 (Below.refl _ _)
        have T8 := Lib.hid (HB.out w8 lv _ _ none 0 0 [] ar (by simp) (nilB _))
        have bb : Below w8.heap.size w8 (w8.alloc (.cells #[.int .i64 8, .int .i64 lv, .string s, .slice (some ⟨na, 0, none⟩) 1 1, .slice none 0 0, .slice none 0 0] 32)) := (Below.refl _ _).alloc (Nat.le_refl _) _
        have G9 := Lib.hid bb
        clear bb ar
        go_wp2_with fail
        refine (K4.out _ _ T8.out).mono ?_
        rintro e w9 ⟨rfl, b9⟩
        have G9' := Lib.hid (G9.out.trans (b9.mono G9.out.size))
        have H9 := Lib.hid (H8.out.trans (G9'.out.mono H8.out.size))
        clear a0 a1 a2 a3 a4 a5 T8 b9 G9 K4 H8
        obtain ⟨-, ⟨a0, a1, a2, a3, a4, a5⟩, -, -, ar, -⟩ := HK8.out w9 G9'.out
        have T9 := Lib.hid (HB.out w9 0 _ _ none 0 0 [] ar (by simp) (nilB _))
        have bb : Below w9.heap.size w9 (w9.alloc (.cells #[.int .i64 8, .int .i64 0, .string s, .slice (some ⟨nx + 1 + 1, 0, none⟩) 2 2, .slice none 0 0, .slice none 0 0] 32)) := (Below.refl _ _).alloc (Nat.le_refl _) _
        have G10 := Lib.hid (G9'.out.trans (bb.mono G9'.out.size))
        have H10 := Lib.hid (H9.out.trans (bb.mono H9.out.size))
        clear bb ar G9' H9
        go_wp2_with fail
        refine (K5.out _ _ T9.out).mono ?_
        rintro e w10 ⟨rfl, b10⟩
        have G11 := Lib.hid (G10.out.trans (b10.mono G10.out.size))
        have H11 := Lib.hid (H10.out.trans (b10.mono H10.out.size))
        clear a0 a1 a2 a3 a4 a5 T9 b10 G10 K5 H10
        obtain ⟨-, -, ⟨a0, a1, a2, a3, a4, a5⟩, ar, -, at'⟩ := HK8.out w10 G11.out
        have T11 := Lib.hid (HB.out w10 0 _ _ _ _ _ _ ar (by simp) at')
        have bb : Below w10.heap.size w10 (w10.alloc (.cells #[.int .i64 8, .int .i64 0, .string s, .slice (some ⟨na, 0, none⟩) 1 1, .slice none 0 0, .slice (some ⟨nz + 1, 0, none⟩) 1 1] 32)) := (Below.refl _ _).alloc (Nat.le_refl _) _
        have H12 := Lib.hid (H11.out.trans (bb.mono H11.out.size))
        clear bb ar at' G11 H11 HK8
        go_wp2_with fail
        refine (K6.out _ _ T11.out).mono ?_
        rintro e w11 ⟨rfl, b11⟩
        have H13 := Lib.hid (H12.out.trans (b11.mono H12.out.size))
        clear b11 T11 H12 K6
        go_wp2_with fail
        go_ret
        exact ⟨by simp, H13.out⟩
      | false =>
        clear hds
        have t1 := litS (k := 2) (i := [99]) (nilS w5) 34
        have t2 := litS (k := 4) (i := t.data.toList) t1 34
        rw [S_of, World.size_alloc, show S [99] = ⟨#[99]⟩ from rfl] at t2
        have t3 := litB (k := 1) (lv := 0) (i := []) (nilR _) (by simp) t2 (nilB _) 32
        rw [World.size_alloc, World.size_alloc, show S [] = ⟨#[]⟩ from rfl] at t3
        have T5 := Lib.hid t3
        have gl : Below w5.heap.size w5 (((w5.alloc (.cells #[.int .i64 2, .string ⟨#[99]⟩, .slice none 0 0] 34)).alloc (.cells #[.int .i64 4, .string t, .slice (some ⟨w5.heap.size, 0, none⟩) 1 1] 34)).alloc (.cells #[.int .i64 1, .int .i64 0, .string ⟨#[]⟩, .slice none 0 0, .slice (some ⟨w5.heap.size + 1, 0, none⟩) 1 1, .slice none 0 0] 32)) := (((Below.refl _ _).alloc (Nat.le_refl _) _).alloc (by simp) _).alloc (by rw [World.size_alloc, World.size_alloc]; omega) _
        have GL := Lib.hid (G5.out.trans (gl.mono G5.out.size))
        have HL := Lib.hid (H5.out.trans (gl.mono H5.out.size))
        clear t1 t2 t3 gl c0 c1 c2 c3 c4 c5 hR5 G5 H5
        go_wp2_with fail
        refine (K2.out _ _ T5.out).mono ?_
        rintro e wb ⟨rfl, bb⟩
        have GM := Lib.hid (GL.out.trans (bb.mono GL.out.size))
        have HM := Lib.hid (HL.out.trans (bb.mono HL.out.size))
        clear bb T5 GL HL K2
        obtain ⟨c0, c1, c2, c3, c4, c5, hR5⟩ := HKc.out wb GM.out
        cases ds with
        | false =>
          go_upto_region 9 with fail
          have hx := Cm.alloc_new wb (.cells #[.int .i64 8, .int .i64 lv, .string s, .slice (some ⟨na, 0, none⟩) 1 1, .slice none 0 0, .slice none 0 0] 32)
          have gx : Below wb.heap.size wb (wb.alloc (.cells #[.int .i64 8, .int .i64 lv, .string s, .slice (some ⟨na, 0, none⟩) 1 1, .slice none 0 0, .slice none 0 0] 32)) := (Below.refl _ _).alloc (Nat.le_refl _) _
          have sx : (wb.alloc (.cells #[.int .i64 8, .int .i64 lv, .string s, .slice (some ⟨na, 0, none⟩) 1 1, .slice none 0 0, .slice none 0 0] 32)).heap.size = wb.heap.size + 1 := by simp
          have G6 := Lib.hid (GM.out.trans (gx.mono GM.out.size))
          have H6 := Lib.hid (HM.out.trans (gx.mono HM.out.size))
          have HX := Lib.hid hx
          clear hx gx c0 c1 c2 c3 c4 c5 hR5
          generalize wb.alloc (.cells #[.int .i64 8, .int .i64 lv, .string s, .slice (some ⟨na, 0, none⟩) 1 1, .slice none 0 0, .slice none 0 0] 32) = w6 at *
          generalize wb.heap.size = nx at *
          obtain ⟨d0, d1, d2, d3, d4, d5, hR6⟩ := HKc.out w6 G6.out
          go_upto_region 11 with fail
          have hy := Cm.alloc_at (Cm.alloc_new w6 (.cells #[.int .i64 8, .int .i64 0, .string s, .slice (some ⟨nx + 1 + 1, 0, none⟩) 2 2, .slice none 0 0, .slice none 0 0] 32)) (.cells #[.string t, .string t] 9)
          have r2 := L1.out (w6.alloc (.cells #[.int .i64 8, .int .i64 0, .string s, .slice (some ⟨nx + 1 + 1, 0, none⟩) 2 2, .slice none 0 0, .slice none 0 0] 32))
          rw [World.size_alloc, sx] at r2
          rw [sx] at hy
          have g7 : Below w6.heap.size w6 ((w6.alloc (.cells #[.int .i64 8, .int .i64 0, .string s, .slice (some ⟨nx + 1 + 1, 0, none⟩) 2 2, .slice none 0 0, .slice none 0 0] 32)).alloc (.cells #[.string t, .string t] 9)) := ((Below.refl _ _).alloc (Nat.le_refl _) _).alloc (by simp) _
          have s7 : ((w6.alloc (.cells #[.int .i64 8, .int .i64 0, .string s, .slice (some ⟨nx + 1 + 1, 0, none⟩) 2 2, .slice none 0 0, .slice none 0 0] 32)).alloc (.cells #[.string t, .string t] 9)).heap.size = nx + 3 := by simp; omega
          have HX7 := Lib.hid (Cm.alloc_at (Cm.alloc_at HX.out (.cells #[.int .i64 8, .int .i64 0, .string s, .slice (some ⟨nx + 1 + 1, 0, none⟩) 2 2, .slice none 0 0, .slice none 0 0] 32)) (.cells #[.string t, .string t] 9))
          have HY7 := Lib.hid hy
          have HR7 := Lib.hid r2
          have G7 := Lib.hid (G6.out.trans (g7.mono G6.out.size))
          have H7 := Lib.hid (H6.out.trans (g7.mono H6.out.size))
          clear hy r2 g7 d0 d1 d2 d3 d4 d5 hR6 HX G6 H6
          generalize (w6.alloc (.cells #[.int .i64 8, .int .i64 0, .string s, .slice (some ⟨nx + 1 + 1, 0, none⟩) 2 2, .slice none 0 0, .slice none 0 0] 32)).alloc (.cells #[.string t, .string t] 9) = w7 at *
          obtain ⟨d0, d1, d2, d3, d4, d5, hR7⟩ := HKc.out w7 G7.out
          have sz7 : w7.heap.size = nx + 1 + 1 + 1 := by omega
          clear s7 sx
          obtain ⟨nz, hnz⟩ : ∃ n, n = nx + 1 + 1 + 1 := ⟨_, rfl⟩
          rw [← hnz] at sz7
          have hlt7 : nx + 1 + 1 + 1 ≤ nz := by omega
          clear hnz
          go_upto_region 13 with fail
          try rw [sz7]
          have hz := Cm.alloc_at (Cm.alloc_new w7 (.cells #[.int .i64 8, .int .i64 0, .string s, .slice (some ⟨na, 0, none⟩) 1 1, .slice none 0 0, .slice (some ⟨nz + 1, 0, none⟩) 1 1] 32)) (.cells #[.int .i64 3, .int .i64 0, .string ⟨#[]⟩, .slice none 0 0, .slice none 0 0, .slice none 0 0] 32)
          rw [sz7] at hz
          have tr := litB (w := w7.alloc (.cells #[.int .i64 8, .int .i64 0, .string s, .slice (some ⟨na, 0, none⟩) 1 1, .slice none 0 0, .slice (some ⟨nz + 1, 0, none⟩) 1 1] 32)) (k := 3) (lv := 0) (i := []) (nilR _) (by simp) (nilS _) (nilB _) 32
          rw [show S [] = ⟨#[]⟩ from rfl, World.size_alloc, sz7] at tr
          have g8 : Below w7.heap.size w7 ((w7.alloc (.cells #[.int .i64 8, .int .i64 0, .string s, .slice (some ⟨na, 0, none⟩) 1 1, .slice none 0 0, .slice (some ⟨nz + 1, 0, none⟩) 1 1] 32)).alloc (.cells #[.int .i64 3, .int .i64 0, .string ⟨#[]⟩, .slice none 0 0, .slice none 0 0, .slice none 0 0] 32)) := ((Below.refl _ _).alloc (Nat.le_refl _) _).alloc (by simp) _
          have s8 : ((w7.alloc (.cells #[.int .i64 8, .int .i64 0, .string s, .slice (some ⟨na, 0, none⟩) 1 1, .slice none 0 0, .slice (some ⟨nz + 1, 0, none⟩) 1 1] 32)).alloc (.cells #[.int .i64 3, .int .i64 0, .string ⟨#[]⟩, .slice none 0 0, .slice none 0 0, .slice none 0 0] 32)).heap.size = nz + 2 := by simp; omega
          have HX8 := Lib.hid (Cm.alloc_at (Cm.alloc_at HX7.out (.cells #[.int .i64 8, .int .i64 0, .string s, .slice (some ⟨na, 0, none⟩) 1 1, .slice none 0 0, .slice (some ⟨nz + 1, 0, none⟩) 1 1] 32)) (.cells #[.int .i64 3, .int .i64 0, .string ⟨#[]⟩, .slice none 0 0, .slice none 0 0, .slice none 0 0] 32))
          have HY8 := Lib.hid (Cm.alloc_at (Cm.alloc_at HY7.out (.cells #[.int .i64 8, .int .i64 0, .string s, .slice (some ⟨na, 0, none⟩) 1 1, .slice none 0 0, .slice (some ⟨nz + 1, 0, none⟩) 1 1] 32)) (.cells #[.int .i64 3, .int .i64 0, .string ⟨#[]⟩, .slice none 0 0, .slice none 0 0, .slice none 0 0] 32))
          have HR8 := Lib.hid (HR7.out.below g8)
          have HZ8 := Lib.hid hz
          have HT8 := Lib.hid tr
          have G8 := Lib.hid (G7.out.trans (g8.mono G7.out.size))
          have H8 := Lib.hid (H7.out.trans (g8.mono H7.out.size))
          clear hz tr g8 d0 d1 d2 d3 d4 d5 hR7 HX7 HY7 HR7 G7 H7
          generalize (w7.alloc (.cells #[.int .i64 8, .int .i64 0, .string s, .slice (some ⟨na, 0, none⟩) 1 1, .slice none 0 0, .slice (some ⟨nz + 1, 0, none⟩) 1 1] 32)).alloc (.cells #[.int .i64 3, .int .i64 0, .string ⟨#[]⟩, .slice none 0 0, .slice none 0 0, .slice none 0 0] 32) = w8 at *
          have HK8 : Hid (∀ w', Below w8.heap.size w8 w' → (w'.cell? ⟨nx, 0, none⟩ = some (.int .i64 8) ∧ w'.cell? ⟨nx, 1, none⟩ = some (.int .i64 lv) ∧ w'.cell? ⟨nx, 2, none⟩ = some (.string s) ∧ w'.cell? ⟨nx, 3, none⟩ = some (.slice (some ⟨na, 0, none⟩) 1 1) ∧ w'.cell? ⟨nx, 4, none⟩ = some (.slice none 0 0) ∧ w'.cell? ⟨nx, 5, none⟩ = some (.slice none 0 0)) ∧ (w'.cell? ⟨nx + 1, 0, none⟩ = some (.int .i64 8) ∧ w'.cell? ⟨nx + 1, 1, none⟩ = some (.int .i64 0) ∧ w'.cell? ⟨nx + 1, 2, none⟩ = some (.string s) ∧ w'.cell? ⟨nx + 1, 3, none⟩ = some (.slice (some ⟨nx + 1 + 1, 0, none⟩) 2 2) ∧ w'.cell? ⟨nx + 1, 4, none⟩ = some (.slice none 0 0) ∧ w'.cell? ⟨nx + 1, 5, none⟩ = some (.slice none 0 0)) ∧ (w'.cell? ⟨nz, 0, none⟩ = some (.int .i64 8) ∧ w'.cell? ⟨nz, 1, none⟩ = some (.int .i64 0) ∧ w'.cell? ⟨nz, 2, none⟩ = some (.string s) ∧ w'.cell? ⟨nz, 3, none⟩ = some (.slice (some ⟨na, 0, none⟩) 1 1) ∧ w'.cell? ⟨nz, 4, none⟩ = some (.slice none 0 0) ∧ w'.cell? ⟨nz, 5, none⟩ = some (.slice (some ⟨nz + 1, 0, none⟩) 1 1)) ∧ Rd w' (.slice (some ⟨na, 0, none⟩) 1 1) [t.data.toList] ∧ Rd w' (.slice (some ⟨nx + 1 + 1, 0, none⟩) 2 2) [t.data.toList, t.data.toList] ∧ TrB w' (.slice (some ⟨nz + 1, 0, none⟩) 1 1) [.mk 3 0 [] [] [] []]) := Lib.hid (fun w' h => by
            have l1 : nx < w8.heap.size := by omega
            have l2 : nx + 1 < w8.heap.size := by omega
            have l3 : nz < w8.heap.size := by omega
            refine ⟨⟨(h.cell (by exact l1)).trans (Cm.cell_at HX8.out 0), (h.cell (by exact l1)).trans (Cm.cell_at HX8.out 1), (h.cell (by exact l1)).trans (Cm.cell_at HX8.out 2), (h.cell (by exact l1)).trans (Cm.cell_at HX8.out 3), (h.cell (by exact l1)).trans (Cm.cell_at HX8.out 4), (h.cell (by exact l1)).trans (Cm.cell_at HX8.out 5)⟩, ⟨(h.cell (by exact l2)).trans (Cm.cell_at HY8.out 0), (h.cell (by exact l2)).trans (Cm.cell_at HY8.out 1), (h.cell (by exact l2)).trans (Cm.cell_at HY8.out 2), (h.cell (by exact l2)).trans (Cm.cell_at HY8.out 3), (h.cell (by exact l2)).trans (Cm.cell_at HY8.out 4), (h.cell (by exact l2)).trans (Cm.cell_at HY8.out 5)⟩, ⟨(h.cell (by exact l3)).trans (Cm.cell_at HZ8.out 0), (h.cell (by exact l3)).trans (Cm.cell_at HZ8.out 1), (h.cell (by exact l3)).trans (Cm.cell_at HZ8.out 2), (h.cell (by exact l3)).trans (Cm.cell_at HZ8.out 3), (h.cell (by exact l3)).trans (Cm.cell_at HZ8.out 4), (h.cell (by exact l3)).trans (Cm.cell_at HZ8.out 5)⟩, ?_, HR8.out.below h, HT8.out.below h⟩
            obtain ⟨_, _, _, _, _, _, hh⟩ := HKc.out w' (G8.out.trans (h.mono G8.out.size))
            exact hh)
          clear HX8 HY8 HR8 HZ8 HT8 HKc G8 sz7 hlt7 s8
          obtain ⟨⟨a0, a1, a2, a3, a4, a5⟩, -, -, ar, -, -⟩ := HK8.out w8 (Below.refl _ _)
          have T8 := Lib.hid (HB.out w8 lv _ _ none 0 0 [] ar (by simp) (nilB _))
          have bb : Below w8.heap.size w8 (w8.alloc (.cells #[.int .i64 8, .int .i64 lv, .string s, .slice (some ⟨na, 0, none⟩) 1 1, .slice none 0 0, .slice none 0 0] 32)) := (Below.refl _ _).alloc (Nat.le_refl _) _
          have G9 := Lib.hid bb
          clear bb ar
          go_wp2_with fail
          refine (K4.out _ _ T8.out).mono ?_
          rintro e w9 ⟨rfl, b9⟩
          have G9' := Lib.hid (G9.out.trans (b9.mono G9.out.size))
          have H9 := Lib.hid (H8.out.trans (G9'.out.mono H8.out.size))
          clear a0 a1 a2 a3 a4 a5 T8 b9 G9 K4 H8
          obtain ⟨-, ⟨a0, a1, a2, a3, a4, a5⟩, -, -, ar, -⟩ := HK8.out w9 G9'.out
          have T9 := Lib.hid (HB.out w9 0 _ _ none 0 0 [] ar (by simp) (nilB _))
          have bb : Below w9.heap.size w9 (w9.alloc (.cells #[.int .i64 8, .int .i64 0, .string s, .slice (some ⟨nx + 1 + 1, 0, none⟩) 2 2, .slice none 0 0, .slice none 0 0] 32)) := (Below.refl _ _).alloc (Nat.le_refl _) _
          have G10 := Lib.hid (G9'.out.trans (bb.mono G9'.out.size))
          have H10 := Lib.hid (H9.out.trans (bb.mono H9.out.size))
          clear bb ar G9' H9
          go_wp2_with fail
          refine (K5.out _ _ T9.out).mono ?_
          rintro e w10 ⟨rfl, b10⟩
          have G11 := Lib.hid (G10.out.trans (b10.mono G10.out.size))
          have H11 := Lib.hid (H10.out.trans (b10.mono H10.out.size))
          clear a0 a1 a2 a3 a4 a5 T9 b10 G10 K5 H10
          obtain ⟨-, -, ⟨a0, a1, a2, a3, a4, a5⟩, ar, -, at'⟩ := HK8.out w10 G11.out
          have T11 := Lib.hid (HB.out w10 0 _ _ _ _ _ _ ar (by simp) at')
          have bb : Below w10.heap.size w10 (w10.alloc (.cells #[.int .i64 8, .int .i64 0, .string s, .slice (some ⟨na, 0, none⟩) 1 1, .slice none 0 0, .slice (some ⟨nz + 1, 0, none⟩) 1 1] 32)) := (Below.refl _ _).alloc (Nat.le_refl _) _
          have H12 := Lib.hid (H11.out.trans (bb.mono H11.out.size))
          clear bb ar at' G11 H11 HK8
          go_wp2_with fail
          refine (K6.out _ _ T11.out).mono ?_
          rintro e w11 ⟨rfl, b11⟩
          have H13 := Lib.hid (H12.out.trans (b11.mono H12.out.size))
          clear b11 T11 H12 K6
          go_wp2_with fail
          go_ret
          exact ⟨by simp, H13.out⟩
        | true =>
          go_upto_region 9 with fail
          have hx := Cm.alloc_new wb (.cells #[.int .i64 8, .int .i64 lv, .string s, .slice (some ⟨na, 0, none⟩) 1 1, .slice none 0 0, .slice none 0 0] 32)
          have gx : Below wb.heap.size wb (wb.alloc (.cells #[.int .i64 8, .int .i64 lv, .string s, .slice (some ⟨na, 0, none⟩) 1 1, .slice none 0 0, .slice none 0 0] 32)) := (Below.refl _ _).alloc (Nat.le_refl _) _
          have sx : (wb.alloc (.cells #[.int .i64 8, .int .i64 lv, .string s, .slice (some ⟨na, 0, none⟩) 1 1, .slice none 0 0, .slice none 0 0] 32)).heap.size = wb.heap.size + 1 := by simp
          have G6 := Lib.hid (GM.out.trans (gx.mono GM.out.size))
          have H6 := Lib.hid (HM.out.trans (gx.mono HM.out.size))
          have HX := Lib.hid hx
          clear hx gx c0 c1 c2 c3 c4 c5 hR5
          generalize wb.alloc (.cells #[.int .i64 8, .int .i64 lv, .string s, .slice (some ⟨na, 0, none⟩) 1 1, .slice none 0 0, .slice none 0 0] 32) = w6 at *
          generalize wb.heap.size = nx at *
          obtain ⟨d0, d1, d2, d3, d4, d5, hR6⟩ := HKc.out w6 G6.out
          go_upto_region 11 with fail
          have hy := Cm.alloc_at (Cm.alloc_new w6 (.cells #[.int .i64 8, .int .i64 0, .string s, .slice (some ⟨nx + 1 + 1, 0, none⟩) 2 2, .slice none 0 0, .slice none 0 0] 32)) (.cells #[.string t, .string t] 9)
          have r2 := L1.out (w6.alloc (.cells #[.int .i64 8, .int .i64 0, .string s, .slice (some ⟨nx + 1 + 1, 0, none⟩) 2 2, .slice none 0 0, .slice none 0 0] 32))
          rw [World.size_alloc, sx] at r2
          rw [sx] at hy
          have g7 : Below w6.heap.size w6 ((w6.alloc (.cells #[.int .i64 8, .int .i64 0, .string s, .slice (some ⟨nx + 1 + 1, 0, none⟩) 2 2, .slice none 0 0, .slice none 0 0] 32)).alloc (.cells #[.string t, .string t] 9)) := ((Below.refl _ _).alloc (Nat.le_refl _) _).alloc (by simp) _
          have s7 : ((w6.alloc (.cells #[.int .i64 8, .int .i64 0, .string s, .slice (some ⟨nx + 1 + 1, 0, none⟩) 2 2, .slice none 0 0, .slice none 0 0] 32)).alloc (.cells #[.string t, .string t] 9)).heap.size = nx + 3 := by simp; omega
          have HX7 := Lib.hid (Cm.alloc_at (Cm.alloc_at HX.out (.cells #[.int .i64 8, .int .i64 0, .string s, .slice (some ⟨nx + 1 + 1, 0, none⟩) 2 2, .slice none 0 0, .slice none 0 0] 32)) (.cells #[.string t, .string t] 9))
          have HY7 := Lib.hid hy
          have HR7 := Lib.hid r2
          have G7 := Lib.hid (G6.out.trans (g7.mono G6.out.size))
          have H7 := Lib.hid (H6.out.trans (g7.mono H6.out.size))
          clear hy r2 g7 d0 d1 d2 d3 d4 d5 hR6 HX G6 H6
          generalize (w6.alloc (.cells #[.int .i64 8, .int .i64 0, .string s, .slice (some ⟨nx + 1 + 1, 0, none⟩) 2 2, .slice none 0 0, .slice none 0 0] 32)).alloc (.cells #[.string t, .string t] 9) = w7 at *
          obtain ⟨d0, d1, d2, d3, d4, d5, hR7⟩ := HKc.out w7 G7.out
          have sz7 : w7.heap.size = nx + 1 + 1 + 1 := by omega
          clear s7 sx
          obtain ⟨nz, hnz⟩ : ∃ n, n = nx + 1 + 1 + 1 := ⟨_, rfl⟩
          rw [← hnz] at sz7
          have hlt7 : nx + 1 + 1 + 1 ≤ nz := by omega
          clear hnz
          go_upto_region 13 with fail
          try rw [sz7]
          have hz := Cm.alloc_at (Cm.alloc_new w7 (.cells #[.int .i64 8, .int .i64 0, .string s, .slice (some ⟨na, 0, none⟩) 1 1, .slice none 0 0, .slice (some ⟨nz + 1, 0, none⟩) 1 1] 32)) (.cells #[.int .i64 3, .int .i64 0, .string ⟨#[]⟩, .slice none 0 0, .slice none 0 0, .slice none 0 0] 32)
          rw [sz7] at hz
          have tr := litB (w := w7.alloc (.cells #[.int .i64 8, .int .i64 0, .string s, .slice (some ⟨na, 0, none⟩) 1 1, .slice none 0 0, .slice (some ⟨nz + 1, 0, none⟩) 1 1] 32)) (k := 3) (lv := 0) (i := []) (nilR _) (by simp) (nilS _) (nilB _) 32
          rw [show S [] = ⟨#[]⟩ from rfl, World.size_alloc, sz7] at tr
          have g8 : Below w7.heap.size w7 ((w7.alloc (.cells #[.int .i64 8, .int .i64 0, .string s, .slice (some ⟨na, 0, none⟩) 1 1, .slice none 0 0, .slice (some ⟨nz + 1, 0, none⟩) 1 1] 32)).alloc (.cells #[.int .i64 3, .int .i64 0, .string ⟨#[]⟩, .slice none 0 0, .slice none 0 0, .slice none 0 0] 32)) := ((Below.refl _ _).alloc (Nat.le_refl _) _).alloc (by simp) _
          have s8 : ((w7.alloc (.cells #[.int .i64 8, .int .i64 0, .string s, .slice (some ⟨na, 0, none⟩) 1 1, .slice none 0 0, .slice (some ⟨nz + 1, 0, none⟩) 1 1] 32)).alloc (.cells #[.int .i64 3, .int .i64 0, .string ⟨#[]⟩, .slice none 0 0, .slice none 0 0, .slice none 0 0] 32)).heap.size = nz + 2 := by simp; omega
          have HX8 := Lib.hid (Cm.alloc_at (Cm.alloc_at HX7.out (.cells #[.int .i64 8, .int .i64 0, .string s, .slice (some ⟨na, 0, none⟩) 1 1, .slice none 0 0, .slice (some ⟨nz + 1, 0, none⟩) 1 1] 32)) (.cells #[.int .i64 3, .int .i64 0, .string ⟨#[]⟩, .slice none 0 0, .slice none 0 0, .slice none 0 0] 32))
          have HY8 := Lib.hid (Cm.alloc_at (Cm.alloc_at HY7.out (.cells #[.int .i64 8, .int .i64 0, .string s, .slice (some ⟨na, 0, none⟩) 1 1, .slice none 0 0, .slice (some ⟨nz + 1, 0, none⟩) 1 1] 32)) (.cells #[.int .i64 3, .int .i64 0, .string ⟨#[]⟩, .slice none 0 0, .slice none 0 0, .slice none 0 0] 32))
          have HR8 := Lib.hid (HR7.out.below g8)
          have HZ8 := Lib.hid hz
          have HT8 := Lib.hid tr
          have G8 := Lib.hid (G7.out.trans (g8.mono G7.out.size))
          have H8 := Lib.hid (H7.out.trans (g8.mono H7.out.size))
          clear hz tr g8 d0 d1 d2 d3 d4 d5 hR7 HX7 HY7 HR7 G7 H7
          generalize (w7.alloc (.cells #[.int .i64 8, .int .i64 0, .string s, .slice (some ⟨na, 0, none⟩) 1 1, .slice none 0 0, .slice (some ⟨nz + 1, 0, none⟩) 1 1] 32)).alloc (.cells #[.int .i64 3, .int .i64 0, .string ⟨#[]⟩, .slice none 0 0, .slice none 0 0, .slice none 0 0] 32) = w8 at *
          have HK8 : Hid (∀ w', Below w8.heap.size w8 w' → (w'.cell? ⟨nx, 0, none⟩ = some (.int .i64 8) ∧ w'.cell? ⟨nx, 1, none⟩ = some (.int .i64 lv) ∧ w'.cell? ⟨nx, 2, none⟩ = some (.string s) ∧ w'.cell? ⟨nx, 3, none⟩ = some (.slice (some ⟨na, 0, none⟩) 1 1) ∧ w'.cell? ⟨nx, 4, none⟩ = some (.slice none 0 0) ∧ w'.cell? ⟨nx, 5, none⟩ = some (.slice none 0 0)) ∧ (w'.cell? ⟨nx + 1, 0, none⟩ = some (.int .i64 8) ∧ w'.cell? ⟨nx + 1, 1, none⟩ = some (.int .i64 0) ∧ w'.cell? ⟨nx + 1, 2, none⟩ = some (.string s) ∧ w'.cell? ⟨nx + 1, 3, none⟩ = some (.slice (some ⟨nx + 1 + 1, 0, none⟩) 2 2) ∧ w'.cell? ⟨nx + 1, 4, none⟩ = some (.slice none 0 0) ∧ w'.cell? ⟨nx + 1, 5, none⟩ = some (.slice none 0 0)) ∧ (w'.cell? ⟨nz, 0, none⟩ = some (.int .i64 8) ∧ w'.cell? ⟨nz, 1, none⟩ = some (.int .i64 0) ∧ w'.cell? ⟨nz, 2, none⟩ = some (.string s) ∧ w'.cell? ⟨nz, 3, none⟩ = some (.slice (some ⟨na, 0, none⟩) 1 1) ∧ w'.cell? ⟨nz, 4, none⟩ = some (.slice none 0 0) ∧ w'.cell? ⟨nz, 5, none⟩ = some (.slice (some ⟨nz + 1, 0, none⟩) 1 1)) ∧ Rd w' (.slice (some ⟨na, 0, none⟩) 1 1) [t.data.toList] ∧ Rd w' (.slice (some ⟨nx + 1 + 1, 0, none⟩) 2 2) [t.data.toList, t.data.toList] ∧ TrB w' (.slice (some ⟨nz + 1, 0, none⟩) 1 1) [.mk 3 0 [] [] [] []]) := Lib.hid (fun w' h => by
            have l1 : nx < w8.heap.size := by omega
            have l2 : nx + 1 < w8.heap.size := by omega
            have l3 : nz < w8.heap.size := by omega
            refine ⟨⟨(h.cell (by exact l1)).trans (Cm.cell_at HX8.out 0), (h.cell (by exact l1)).trans (Cm.cell_at HX8.out 1), (h.cell (by exact l1)).trans (Cm.cell_at HX8.out 2), (h.cell (by exact l1)).trans (Cm.cell_at HX8.out 3), (h.cell (by exact l1)).trans (Cm.cell_at HX8.out 4), (h.cell (by exact l1)).trans (Cm.cell_at HX8.out 5)⟩, ⟨(h.cell (by exact l2)).trans (Cm.cell_at HY8.out 0), (h.cell (by exact l2)).trans (Cm.cell_at HY8.out 1), (h.cell (by exact l2)).trans (Cm.cell_at HY8.out 2), (h.cell (by exact l2)).trans (Cm.cell_at HY8.out 3), (h.cell (by exact l2)).trans (Cm.cell_at HY8.out 4), (h.cell (by exact l2)).trans (Cm.cell_at HY8.out 5)⟩, ⟨(h.cell (by exact l3)).trans (Cm.cell_at HZ8.out 0), (h.cell (by exact l3)).trans (Cm.cell_at HZ8.out 1), (h.cell (by exact l3)).trans (Cm.cell_at HZ8.out 2), (h.cell (by exact l3)).trans (Cm.cell_at HZ8.out 3), (h.cell (by exact l3)).trans (Cm.cell_at HZ8.out 4), (h.cell (by exact l3)).trans (Cm.cell_at HZ8.out 5)⟩, ?_, HR8.out.below h, HT8.out.below h⟩
            obtain ⟨_, _, _, _, _, _, hh⟩ := HKc.out w' (G8.out.trans (h.mono G8.out.size))
            exact hh)
          clear HX8 HY8 HR8 HZ8 HT8 HKc G8 sz7 hlt7 s8
          obtain ⟨⟨a0, a1, a2, a3, a4, a5⟩, -, -, ar, -, -⟩ := HK8.out w8 (Below.refl _ _)
          have T8 := Lib.hid (HB.out w8 lv _ _ none 0 0 [] ar (by simp) (nilB _))
          have bb : Below w8.heap.size w8 (w8.alloc (.cells #[.int .i64 8, .int .i64 lv, .string s, .slice (some ⟨na, 0, none⟩) 1 1, .slice none 0 0, .slice none 0 0] 32)) := (Below.refl _ _).alloc (Nat.le_refl _) _
          have G9 := Lib.hid bb
          clear bb ar
          go_wp2_with fail
          refine (K4.out _ _ T8.out).mono ?_
          rintro e w9 ⟨rfl, b9⟩
          have G9' := Lib.hid (G9.out.trans (b9.mono G9.out.size))
          have H9 := Lib.hid (H8.out.trans (G9'.out.mono H8.out.size))
          clear a0 a1 a2 a3 a4 a5 T8 b9 G9 K4 H8
          obtain ⟨-, ⟨a0, a1, a2, a3, a4, a5⟩, -, -, ar, -⟩ := HK8.out w9 G9'.out
          have T9 := Lib.hid (HB.out w9 0 _ _ none 0 0 [] ar (by simp) (nilB _))
          have bb : Below w9.heap.size w9 (w9.alloc (.cells #[.int .i64 8, .int .i64 0, .string s, .slice (some ⟨nx + 1 + 1, 0, none⟩) 2 2, .slice none 0 0, .slice none 0 0] 32)) := (Below.refl _ _).alloc (Nat.le_refl _) _
          have G10 := Lib.hid (G9'.out.trans (bb.mono G9'.out.size))
          have H10 := Lib.hid (H9.out.trans (bb.mono H9.out.size))
          clear bb ar G9' H9
          go_wp2_with fail
          refine (K5.out _ _ T9.out).mono ?_
          rintro e w10 ⟨rfl, b10⟩
          have G11 := Lib.hid (G10.out.trans (b10.mono G10.out.size))
          have H11 := Lib.hid (H10.out.trans (b10.mono H10.out.size))
          clear a0 a1 a2 a3 a4 a5 T9 b10 G10 K5 H10
          obtain ⟨-, -, ⟨a0, a1, a2, a3, a4, a5⟩, ar, -, at'⟩ := HK8.out w10 G11.out
          have T11 := Lib.hid (HB.out w10 0 _ _ _ _ _ _ ar (by simp) at')
          have bb : Below w10.heap.size w10 (w10.alloc (.cells #[.int .i64 8, .int .i64 0, .string s, .slice (some ⟨na, 0, none⟩) 1 1, .slice none 0 0, .slice (some ⟨nz + 1, 0, none⟩) 1 1] 32)) := (Below.refl _ _).alloc (Nat.le_refl _) _
          have H12 := Lib.hid (H11.out.trans (bb.mono H11.out.size))
          clear bb ar at' G11 H11 HK8
          go_wp2_with fail
          refine (K6.out _ _ T11.out).mono ?_
          rintro e w11 ⟨rfl, b11⟩
          have H13 := Lib.hid (H12.out.trans (b11.mono H12.out.size))
          clear b11 T11 H12 K6
          go_wp2_with fail
          go_ret
          exact ⟨by simp, H13.out⟩
  · have g0 : 2000 < (s.size : Int) + (t.size : Int) := by omega
    go_enter Tryd.func8, Tryd.ntmps8
    go_wp2_with fail
    refine (HA.out _).mono ?_
    rintro e w2 ⟨rfl, b2⟩
    have H2 := Lib.hid b2
    clear b2
    go_wp2_with fail
    refine (HA.out _).mono ?_
    rintro e w3 ⟨rfl, b3⟩
    have H3 := Lib.hid (H2.out.trans (b3.mono H2.out.size))
    clear b3
    go_wp2_with fail
    go_ret
    exact ⟨rfl, H3.out⟩

end Go.Proofs.YthmgbmgbifbheaaDoor.Bt
