/-
  Several texts in one:
  CONTRACTS of all and add (spanin's gathered).
  CONTRACT of add (spanin's gathered).
-/
import Derived.Test.YtjgmfgnfdaeelaaGreatDoorPkL
namespace Go.Proofs.YtjgmfgnfdaeelaaGreatDoor.Sp
open Go.RowKit
open Go.Proofs.YtjgmfgnfdaeelaaGreatDoor.Tk (S S_of S_list S_size S_toList S_app ret_int)
open Go.Proofs.YtjgmfgnfdaeelaaGreatDoor.Cm (calls_at Rk Keep own_keep cell_at alloc_new alloc_at lt_of_at own_obj set_at set_other frozen_at flat_get)
set_option linter.unusedVariables false

theorem EffG.chain {G : Nat} {sv : Value} {w w' w'' : World} (h : Keep (EffG G sv w) w w') (k : Keep (EffG G sv w') w' w'') : Keep (EffG G sv w) w w'' :=
  keep_chain h k (fun j hj hs ⟨h1, h2⟩ => hs ⟨h1, h2.imp id (fun h3 h4 => h3 ((SpB.same (h.block j hj hs)).2 h4))⟩)
theorem eff_below {G : Nat} {sv : Value} {w w' : World} (h : Below w.heap.size w w') : Keep (EffG G sv w) w w' := Keep.of_below h
/-- A row that isn't empty, its last one. -/
theorem Sps.slice1 {B : Nat} {w : World} {v : Value} {L : List Sp} {x : Sp} (h : Sps B w v (L ++ [x])) : ∃ g cap cur ak ck, v = .slice (some ⟨g, 0, none⟩) (L.length + 1) cap ∧ B ≤ g ∧ w.heap[g]? = some (.cells cur 31 (0, 0)) ∧
    w.cell? ⟨g, L.length * 3, none⟩ = some (.int .i64 x.kind) ∧ w.cell? ⟨g, L.length * 3 + 1, none⟩ = some (.string (S x.s)) ∧ w.cell? ⟨g, L.length * 3 + 2, none⟩ = some (.slice ak x.kids.length ck) := by
  obtain ⟨ps, h1, h2, h3⟩ := h
  have hl : ps.length = L.length + 1 := by rw [← List.length_map (f := (·.1)), h1]; simp
  rcases h2.2 with ⟨_, h0⟩ | ⟨g, cap, cur, hv, hB, hg, hr⟩
  · omega
  · rw [hl] at hv
    have hp : ∃ p, ps[L.length]? = some p ∧ p.1 = x := by
      have hlt : L.length < ps.length := by omega
      refine ⟨ps[L.length], List.getElem?_eq_getElem hlt, ?_⟩
      have := congrArg (fun l => l[L.length]?) h1
      simp only [List.getElem?_map, List.getElem?_eq_getElem hlt, Option.map_some, List.getElem?_append_right (Nat.le_refl _), Nat.sub_self] at this
      simpa using this
    obtain ⟨p, hp1, hp2⟩ := hp
    obtain ⟨ak, ck, hk⟩ := (h3 p (List.mem_of_getElem? hp1)).tr.len
    have hc : ∀ q u, q < 3 → (encT p)[q]? = some u → w.cell? ⟨g, L.length * 3 + q, none⟩ = some u := fun q u hq hu => by
      have h4 := flat_get encT_len ps L.length p hp1 q u hu
      have h2' := h2
      rw [hl, hv] at h2'
      rw [h2'.cellAt (L.length * 3 + q) (by omega)]
      exact h4
    refine ⟨g, cap, cur, ak, ck, hv, hB, hg, ?_, ?_, ?_⟩
    · have := hc 0 _ (by omega) rfl; rw [hp2] at this; exact this
    · have := hc 1 _ (by omega) rfl; rw [hp2] at this; exact this
    · have := hc 2 _ (by omega) rfl; rw [hk, hp2] at this; exact this
/-- What is left behind the text's end. -/
structure Rf (G : Nat) (sv : Value) (L : List Sp) (w wx : World) : Prop where
  ex : ∃ sv' p bv, wx.heap[G]? = some (.cells #[sv', p, bv] 73 (0, 0)) ∧ Sps (G + 1) wx sv' L ∧ (sv'.ownBlock = sv.ownBlock ∨ ∃ n, sv'.ownBlock = some n ∧ w.heap.size ≤ n)
  keep : Keep (EffG G sv w) w wx
theorem Rf.drew {G : Nat} {sv : Value} {L : List Sp} {w wx : World} (h : Rf G sv L w wx) : Rf G sv L w wx.drew := by
  obtain ⟨⟨sv', p, bv, h1, h2, h3⟩, h4⟩ := h
  exact ⟨⟨sv', p, bv, h1, h2.keep (S := fun _ => False) (Keep.refl _ wx).drew (fun _ h => h.elim), h3⟩, h4.drew⟩
theorem rf_fin {G g n cap : Nat} {sv p bv : Value} {L : List Sp} {x0 x : Sp} {w w7 : World} (hG : w7.heap[G]? = some (.cells #[sv, p, bv] 73 (0, 0))) (hs : Sps (G + 1) w7 (.slice (some ⟨g, 0, none⟩) n cap) (L ++ [x0])) (hx : x.kids = [])
    (hg : ∃ cur, w7.heap[g]? = some (.cells cur 31 (0, 0))) (ho : some g = sv.ownBlock ∨ w.heap.size ≤ g) (hGg : G < g) (hGw : G < w.heap.size) (hwG : ¬ SpB w G) (k : Keep (EffG G sv w) w w7) :
    Rf G sv (L ++ [x]) w ((((w7.setCell ⟨g, L.length * 3, none⟩ (.int .i64 x.kind)).setCell ⟨g, L.length * 3 + 1, none⟩ (.string (S x.s))).setCell ⟨g, L.length * 3 + 2, none⟩ (.slice none 0 0)).setCell ⟨G, 0, none⟩ (.slice (some ⟨g, 0, none⟩) n cap)) ∧
    Rf G sv (L ++ [x]) w ((((w7.setCell ⟨G, 0, none⟩ (.slice (some ⟨g, 0, none⟩) n cap)).setCell ⟨g, L.length * 3, none⟩ (.int .i64 x.kind)).setCell ⟨g, L.length * 3 + 1, none⟩ (.string (S x.s))).setCell ⟨g, L.length * 3 + 2, none⟩ (.slice none 0 0)) := by
  obtain ⟨cur, hg⟩ := hg
  obtain ⟨q, s, kids⟩ := x
  have hx' : kids = [] := hx
  subst hx'
  have hown : (Value.slice (some ⟨g, 0, none⟩) n cap).ownBlock = sv.ownBlock ∨ ∃ m, (Value.slice (some ⟨g, 0, none⟩) n cap).ownBlock = some m ∧ w.heap.size ≤ m := by
    rcases ho with h | h
    · exact Or.inl h
    · exact Or.inr ⟨g, rfl, h⟩
  have hS7 : ¬ SpB w7 G := SpB.not hG (by decide)
  have e1 : ∀ j, j = G ∨ j = g → (EffG G sv w j ∨ w.heap.size ≤ j) := fun j hj => by
    rcases hj with rfl | rfl
    · exact Or.inl ⟨Nat.le_refl _, Or.inr hwG⟩
    · rcases ho with h | h
      · exact Or.inl ⟨Nat.le_of_lt hGg, Or.inl h⟩
      · exact Or.inr h
  refine ⟨⟨⟨.slice (some ⟨g, 0, none⟩) n cap, p, bv, ?_, ?_, hown⟩, ?_⟩, ⟨⟨.slice (some ⟨g, 0, none⟩) n cap, p, bv, ?_, ?_, hown⟩, ?_⟩⟩
  · have h1 := set_at (set_other (set_other (set_other hG (i := L.length * 3) (v := .int .i64 q) (b' := g) (by omega)) (i := L.length * 3 + 1) (v := .string (S s)) (b' := g) (by omega)) (i := L.length * 3 + 2) (v := .slice none 0 0) (b' := g) (by omega)) 0 (.slice (some ⟨g, 0, none⟩) n cap)
    rw [show (#[sv, p, bv] : Array Value).setIfInBounds 0 (.slice (some ⟨g, 0, none⟩) n cap) = #[.slice (some ⟨g, 0, none⟩) n cap, p, bv] from rfl] at h1
    exact h1
  · have h1 := hs.setLast (x := .mk q s []) (vk := .slice none 0 0) (KidT.nil q s)
    have h2 : ¬ SpB (((w7.setCell ⟨g, L.length * 3, none⟩ (.int .i64 q)).setCell ⟨g, L.length * 3 + 1, none⟩ (.string (S s))).setCell ⟨g, L.length * 3 + 2, none⟩ (.slice none 0 0)) G := SpB.not (set_other (set_other (set_other hG (by omega)) (by omega)) (by omega)) (by decide)
    exact h1.keep (S := fun j => j = G) ((Keep.refl (fun j => j = G) _).setCell (p := ⟨G, 0, none⟩) (Or.inl rfl) _) (fun j hj => by subst hj; exact Or.inr h2)
  · exact (((k.setCell (p := ⟨g, L.length * 3, none⟩) (e1 g (Or.inr rfl)) _).setCell (p := ⟨g, L.length * 3 + 1, none⟩) (e1 g (Or.inr rfl)) _).setCell (p := ⟨g, L.length * 3 + 2, none⟩) (e1 g (Or.inr rfl)) _).setCell (p := ⟨G, 0, none⟩) (e1 G (Or.inl rfl)) _
  · have h1 := set_other (set_other (set_other (set_at hG 0 (.slice (some ⟨g, 0, none⟩) n cap)) (i := L.length * 3) (v := .int .i64 q) (b' := g) (by omega)) (i := L.length * 3 + 1) (v := .string (S s)) (b' := g) (by omega)) (i := L.length * 3 + 2) (v := .slice none 0 0) (b' := g) (by omega)
    rw [show (#[sv, p, bv] : Array Value).setIfInBounds 0 (.slice (some ⟨g, 0, none⟩) n cap) = #[.slice (some ⟨g, 0, none⟩) n cap, p, bv] from rfl] at h1
    exact h1
  · have h1 := hs.keep (S := fun j => j = G) ((Keep.refl (fun j => j = G) w7).setCell (p := ⟨G, 0, none⟩) (Or.inl rfl) (.slice (some ⟨g, 0, none⟩) n cap)) (fun j hj => by subst hj; exact Or.inr hS7)
    exact h1.setLast (x := .mk q s []) (vk := .slice none 0 0) (KidT.nil q s)
  · exact (((k.setCell (p := ⟨G, 0, none⟩) (e1 G (Or.inl rfl)) _).setCell (p := ⟨g, L.length * 3, none⟩) (e1 g (Or.inr rfl)) _).setCell (p := ⟨g, L.length * 3 + 1, none⟩) (e1 g (Or.inr rfl)) _).setCell (p := ⟨g, L.length * 3 + 2, none⟩) (e1 g (Or.inr rfl)) _
/-- The text behind the spans made one. -/
def flush (L : List Sp) (t : List UInt8) : List Sp := if t = [] then L else L ++ [.mk 1 t []]
def AllAns (G : Nat) (sv : Value) (L : List Sp) (w : World) (e : Ending) (w' : World) : Prop := ∃ sv', e = .returned sv' ∧ Gth G w' sv' L [] ∧ (sv'.ownBlock = sv.ownBlock ∨ ∃ n, sv'.ownBlock = some n ∧ w.heap.size ≤ n) ∧ Keep (EffG G sv w) w w'

set_option maxHeartbeats 6400000 in
set_option maxRecDepth 100000 in
theorem allG_any (G : Nat) (sv : Value) (L : List Sp) (t : List UInt8) (w : World) (h : Gth G w sv L t) (hl : L.length + 1 ≤ 1000000) :
    Calls Tryz.prog 53 #[.pointer (some ⟨G, 0, none⟩)] w (AllAns G sv (flush L t) w) := by
  have HLen := Lib.hid (lenG_any G sv L t w h)
  obtain ⟨p, bv, h1, h2, h3⟩ := h.ex
  have q0 : w.cell? ⟨G, 0, none⟩ = some sv := cell_at h1 0
  obtain ⟨ao, ca, rfl⟩ := h.sps.slice
  by_cases h0 : t = []
  · subst h0
    have HR : Hid (AllAns G (.slice ao L.length ca) (flush L []) w (.returned (.slice ao L.length ca)) w) := Lib.hid ⟨_, rfl, by unfold flush; rw [if_pos rfl]; exact h, Or.inl rfl, Keep.refl _ _⟩
    clear h h1 h2 h3
    go_enter Tryz.func53, Tryz.ntmps53
    go_wp2_with fail
    refine HLen.out.mono ?_
    rintro e w' ⟨rfl, rfl⟩
    go_wp2_with fail
    go_ret
    exact HR.out
  · have hpos : (0 : Int) < (t.length : Int) := by
      have : t.length ≠ 0 := fun e => h0 (List.eq_nil_of_length_eq_zero e)
      omega
    have HFl : Hid (flush L t = L ++ [.mk 1 t []]) := Lib.hid (by unfold flush; rw [if_neg h0])
    have hGlt := h.lt
    have hwG : ¬ SpB w G := SpB.not h1 (by decide)
    have HS := Lib.hid (fun w' (hb : Below w.heap.size w w') => stringG_any G _ L t w' (h.keep (S := fun _ => False) (Keep.of_below hb) (fun _ h => h.elim)) h0)
    have HOw := Lib.hid h.sps.own
    have HH := Lib.hid h
    have HRs := Lib.hid (fun sv p bv w h => resetG_any G sv p bv w h)
    have q0a : ∀ o, (w.alloc o).cell? ⟨G, 0, none⟩ = some (.slice ao L.length ca) := fun o => cell_at (alloc_at h1 o) 0
    have HWG := Lib.hid hwG
    rw [HFl.out]
    clear h h1 h2 h3 h0 hwG
    go_enter Tryz.func53, Tryz.ntmps53
    go_wp2_with fail
    refine HLen.out.mono ?_
    rintro e w' ⟨rfl, rfl⟩
    clear HLen
    go_upto_region 2 with fail
    go_cut [] from 6 (fun wx => Hid (Rf G (.slice ao L.length ca) (L ++ [.mk 1 t []]) w wx))
    case first =>
      have hww : ∀ k, (Value.slice ao L.length ca).ownBlock = some k → k < w.heap.size := fun k hk => (HOw.out k hk).2.1
      have HNo : Hid (¬ EffG G (.slice ao L.length ca) (w.alloc (.cells #[.int .i64 0, .string ⟨#[]⟩, .slice none 0 0] 31)) w.heap.size) := Lib.hid (fun ⟨e1, e2⟩ => by
        rcases e2 with e2 | e2
        · have := hww _ e2.symm; omega
        · exact e2 ⟨_, _, alloc_new w _⟩)
      clear hww
      have hlt7 : (L.length : Int) < (L.length : Int) + 1 := by omega
      go_region_law (first
        | (go_simp
           go_at_call 42
           refine (HS.out _ (by repeat (first | exact Below.refl _ _ | apply bel_d | apply bel_a))).mono ?_
           rintro e w9 ⟨rfl, p9, bv9, g9, s9, k9⟩
           have c9 : w9.cell? ⟨G, 0, none⟩ = some (.slice ao L.length ca) := cell_at g9 0
           have c9a : ∀ o, (w9.alloc o).cell? ⟨G, 0, none⟩ = some (.slice ao L.length ca) := fun o => cell_at (alloc_at g9 o) 0
           try have l9 : w9.heap[w.heap.size]? = some (.cells #[.int .i64 0, .string ⟨#[]⟩, .slice none 0 0] 31 (0, 0)) := k9.at (drew_new w _) HNo.out
           have K9 : Hid (Keep (EffG G (.slice ao L.length ca) w) w w9) := Lib.hid (EffG.chain (Keep.of_below (by repeat (first | exact Below.refl _ _ | apply bel_d | apply bel_a))) k9)
           have G9 := Lib.hid g9
           have S9 := Lib.hid s9
           clear g9 s9 k9)
        | (refine step_run_ex rfl (.tmp 11) (.tmp 18) _ _ rfl _ _ rfl rfl (S9.out.push (x := .mk 0 [] []) (KidT.nil 0 []) hl (by have := lt_of_at G9.out; omega) (by repeat (first | exact Below.refl _ _ | apply bel_d | apply bel_a)) (by first | exact alloc_new _ _ | exact l9)) ?_
           rintro v7 w7 ⟨s7, k7, o7⟩
           obtain ⟨g7, cap7, cur7, ak7, ck7, rfl, hB7, hg7, c70, c71, c72⟩ := s7.slice1
           have H7 := Lib.hid (And.intro s7 (And.intro k7 (And.intro o7 (And.intro hB7 hg7))))
           have f7 : ∀ j, w7.frozen? ⟨g7, j, none⟩ = false := fun j => frozen_at hg7 j
           have hgG : g7 ≠ G := by omega
           have g79 := k7.at G9.out (fun e => by have := (S9.out.own G e).1; omega)
           have d70 : w7.cell? ⟨G, 0, none⟩ = some (.slice ao L.length ca) := cell_at g79 0
           have f70 : w7.frozen? ⟨G, 0, none⟩ = false := frozen_at g79 0
           have G79 := Lib.hid g79
           clear s7 k7 o7 hB7 hg7 g79))
      all_goals (
        obtain ⟨y1, y2, y3, y4, y5⟩ := H7.out
        have hkk : Keep (EffG G (.slice ao L.length ca) w) w w7 := keep_chain K9.out y2 (fun j hj hs e => hs ⟨by have := (S9.out.own j e).1; omega, Or.inl e.symm⟩)
        have hrf := rf_fin (x := .mk 1 t []) G79.out y1 rfl ⟨_, y5⟩ (by
          rcases y3 with e | ⟨n, e, hn⟩
          · exact Or.inl (by simpa [Value.ownBlock] using e)
          · right
            simp [Value.ownBlock] at e
            have := K9.out.size
            omega) (by omega) hGlt HWG.out hkk
        have HRf := Lib.hid (And.intro hrf (And.intro hrf.1.drew hrf.2.drew))
        clear y1 y2 y3 y4 y5 hkk hrf
        go_simp
        go_wp2_with fail
        go_meet
        first
          | exact Lib.hid HRf.out.1.1
          | exact Lib.hid HRf.out.1.2
          | exact Lib.hid HRf.out.2.1
          | exact Lib.hid HRf.out.2.2)
    case rest =>
      obtain ⟨⟨sv', p', bv', g1, g2, g3⟩, g4⟩ := hcut.out
      have HR := Lib.hid (HRs.out sv' p' bv' wc g1)
      have G2 := Lib.hid (And.intro g2 (And.intro g3 g4))
      have hns : ¬ SpB wc G := SpB.not g1 (by decide)
      obtain ⟨ao', ca', hsv⟩ := g2.slice
      rw [List.length_append, List.length_singleton] at hsv
      subst hsv
      clear g1 g2 g3 g4 hcut
      go_wp2_with fail
      refine HR.out.mono ?_
      rintro e w9 ⟨rfl, r1, r2⟩
      have c9 : w9.cell? ⟨G, 0, none⟩ = some (.slice ao' (L.length + 1) ca') := cell_at r1 0
      have HA : Hid (AllAns G (.slice ao L.length ca) (L ++ [.mk 1 t []]) w (.returned (.slice ao' (L.length + 1) ca')) w9) := Lib.hid ⟨_, rfl, ⟨⟨_, _, r1, Or.inl rfl, World.ownsRow_nil _ _ _ _⟩, G2.out.1.keep r2 (fun j hj => by subst hj; exact Or.inr hns)⟩, G2.out.2.1,
        keep_chain G2.out.2.2 r2 (fun j hj hs e => hs (by subst e; exact ⟨Nat.le_refl _, Or.inr HWG.out⟩))⟩
      clear r1 r2 HR G2 hns
      go_wp2_with fail
      go_ret
      exact HA.out
end Go.Proofs.YtjgmfgnfdaeelaaGreatDoor.Sp

namespace Go.Proofs.YtjgmfgnfdaeelaaGreatDoor.Sp
open Go.RowKit
open Go.Proofs.YtjgmfgnfdaeelaaGreatDoor.Tk (S S_of S_list S_size S_toList S_app ret_int)
open Go.Proofs.YtjgmfgnfdaeelaaGreatDoor.Cm (calls_at Rk Keep own_keep cell_at alloc_new alloc_at lt_of_at own_obj set_at set_other frozen_at flat_get)
set_option linter.unusedVariables false

theorem gth_store {G : Nat} {w9 w7 : World} {sv9 v7 : Value} {L9 L' : List Sp} {t : List UInt8} (h : Gth G w9 sv9 L9 t) (s7 : Sps (G + 1) w7 v7 L') (k7 : Keep (fun k => sv9.ownBlock = some k) w9 w7) :
    Gth G (w7.setCell ⟨G, 0, none⟩ v7) v7 L' t ∧ Keep (EffG G sv9 w9) w9 (w7.setCell ⟨G, 0, none⟩ v7) ∧ w7.cell? ⟨G, 0, none⟩ = some sv9 ∧ w7.frozen? ⟨G, 0, none⟩ = false := by
  obtain ⟨p, bv, h1, h2, h3⟩ := h.ex
  have hne : ¬ sv9.ownBlock = some G := fun e => by have := (h.sps.own G e).1; omega
  have g7 := k7.at h1 hne
  have ks : Keep (fun j => j = G) w7 (w7.setCell ⟨G, 0, none⟩ v7) := (Keep.refl (fun j => j = G) w7).setCell (p := ⟨G, 0, none⟩) (Or.inl rfl) _
  have hns7 : ¬ SpB w7 G := SpB.not g7 (by decide)
  have hns9 : ¬ SpB w9 G := SpB.not h1 (by decide)
  have o7 := own_keep h3 k7 (fun g hg e => by
    obtain ⟨cur, hc⟩ := own_obj h3 hg
    exact SpB.not hc (by decide) (h.sps.own g e).2.2)
  refine ⟨⟨⟨p, bv, by have := set_at g7 0 v7; simpa using this, h2, own_keep o7 ks (fun g hg e => by subst e; have := (o7.lt _ hg).1; omega)⟩, s7.keep ks (fun j hj => by subst hj; exact Or.inr hns7)⟩, keep_chain (k7.mono (fun j _ hj => ⟨by have := (h.sps.own j hj).1; omega, Or.inl hj.symm⟩)) ks (fun j hj hs e => hs (by subst e; exact ⟨Nat.le_refl _, Or.inr hns9⟩)), cell_at g7 0, frozen_at g7 0⟩
def AddAns (G : Nat) (L : List Sp) (sv : Value) (w : World) (e : Ending) (w' : World) : Prop := e = .returned (.tuple #[]) ∧ ∃ sv', Gth G w' sv' L [] ∧ (sv'.ownBlock = sv.ownBlock ∨ ∃ n, sv'.ownBlock = some n ∧ w.heap.size ≤ n) ∧ Keep (EffG G sv w) w w'

set_option maxHeartbeats 6400000 in
set_option maxRecDepth 100000 in
theorem add_any (G B' : Nat) (sv : Value) (L : List Sp) (t : List UInt8) (x : Sp) (vk : Value) (w : World) (h : Gth G w sv L t) (hk : FreshT B' w vk x.kids) (hB : G + 1 ≤ B') (hg : ∀ k, sv.ownBlock = some k → k < B') (hB2 : B' ≤ w.heap.size) (hl : L.length + 2 ≤ 1000000) :
    Calls Tryz.prog 49 #[.pointer (some ⟨G, 0, none⟩), .agg #[.int .i64 x.kind, .string (S x.s), vk]] w (AddAns G (flush L t ++ [x]) sv w) := by
  obtain ⟨p, bv, h1, h2, h3⟩ := h.ex
  have hGlt := h.lt
  have hwG : ¬ SpB w G := SpB.not h1 (by decide)
  obtain ⟨q, s, kids⟩ := x
  obtain ⟨aok, ck, hvk⟩ := hk.tr.len
  subst hvk
  have hfl : (flush L t).length + 1 ≤ 1000000 := by unfold flush; split <;> simp <;> omega
  have HAl := Lib.hid (fun w' (hb : Below w.heap.size w w') => allG_any G sv L t w' (h.keep (S := fun _ => False) (Keep.of_below hb) (fun _ h => h.elim)) (by omega))
  have HKd := Lib.hid (hk.kid (w := w) hB hg q s)
  have HWG := Lib.hid hwG
  have HOw := Lib.hid h.sps.own
  have B0 := Lib.hid ((Below.refl w.heap.size w).alloc (Nat.le_refl _) (.cells #[.int .i64 q, .string (S s), .slice aok kids.length ck] 31))
  have N0 := Lib.hid (alloc_new w (.cells #[.int .i64 q, .string (S s), .slice aok kids.length ck] 31))
  clear h h1 h2 h3 hk hwG
  show Calls _ _ #[_, .agg #[.int .i64 q, .string (S s), .slice aok kids.length ck]] _ _
  go_enter Tryz.func49, Tryz.ntmps49
  go_wp2_with fail
  generalize w.alloc (.cells #[.int .i64 q, .string (S s), .slice aok kids.length ck] 31) = w1 at *
  go_upto_region 1 with fail
  have a0 : w1.cell? ⟨w.heap.size, 0, none⟩ = some (.int .i64 q) := cell_at N0.out 0
  have a1 : w1.cell? ⟨w.heap.size, 1, none⟩ = some (.string (S s)) := cell_at N0.out 1
  have a2 : w1.cell? ⟨w.heap.size, 2, none⟩ = some (.slice aok kids.length ck) := cell_at N0.out 2
  have hnown : ∀ k, sv.ownBlock = some k → k < w.heap.size := fun k hk => (HOw.out k hk).2.1
  have HNe : Hid (∀ (W : World) (k : Nat) (us : Array Value) (fr : Nat × Nat), w.heap.size ≤ k → W.heap[k]? = some (.cells us 31 fr) → ¬ EffG G sv W k) := Lib.hid (fun W k us fr hk hW ⟨e1, e2⟩ => by
    rcases e2 with e2 | e2
    · have := hnown _ e2.symm; omega
    · exact e2 ⟨_, _, hW⟩)
  have HN1 : Hid (w.heap.size ≤ w1.heap.size) := Lib.hid B0.out.size
  have N0d : w1.drew.heap[w.heap.size]? = some (.cells #[.int .i64 q, .string (S s), .slice aok kids.length ck] 31 (0, 0)) := N0.out
  have HN0d := Lib.hid N0d
  have HN0a : Hid (∀ o, (w1.alloc o).drew.heap[w.heap.size]? = some (.cells #[.int .i64 q, .string (S s), .slice aok kids.length ck] 31 (0, 0))) := Lib.hid (fun o => alloc_at N0.out o)
  clear hnown N0d
  go_region_law (first
    | (go_simp
       go_at_call 53
       refine (HAl.out _ (by repeat (first | exact B0.out | apply bel_d | apply bel_a))).mono ?_
       rintro e w9 ⟨sv9, rfl, g9, o9, k9⟩
       have K9 : Hid (Keep (EffG G sv w) w w9) := Lib.hid (EffG.chain (Keep.of_below (by repeat (first | exact B0.out | apply bel_d | apply bel_a))) k9)
       have O9 : Hid (sv9.ownBlock = sv.ownBlock ∨ ∃ n, sv9.ownBlock = some n ∧ w.heap.size ≤ n) := Lib.hid (o9.imp id (fun ⟨n, h1, h2⟩ => ⟨n, h1, Nat.le_trans (Below.size (by repeat (first | exact B0.out | apply bel_d | apply bel_a))) h2⟩))
       have m9 : w9.heap[w.heap.size]? = some (.cells #[.int .i64 q, .string (S s), .slice aok kids.length ck] 31 (0, 0)) := by
         first
           | exact k9.at HN0d.out (HNe.out _ _ _ _ (Nat.le_refl _) HN0d.out)
           | exact k9.at (HN0a.out _) (HNe.out _ _ _ _ (Nat.le_refl _) (HN0a.out _))
       have b0 : w9.cell? ⟨w.heap.size, 0, none⟩ = some (.int .i64 q) := cell_at m9 0
       have b1 : w9.cell? ⟨w.heap.size, 1, none⟩ = some (.string (S s)) := cell_at m9 1
       have b2 : w9.cell? ⟨w.heap.size, 2, none⟩ = some (.slice aok kids.length ck) := cell_at m9 2
       try have l9 : w9.heap[w1.heap.size]? = some (.cells #[.int .i64 q, .string (S s), .slice aok kids.length ck] 31 (0, 0)) := k9.at (drew_new w1 _) (HNe.out _ _ _ _ HN1.out (drew_new w1 _))
       obtain ⟨ao9, ca9, hsv9⟩ := g9.sps.slice
       subst hsv9
       have G9 := Lib.hid g9
       clear g9 o9 k9 m9)
    | (refine step_run_ex rfl (.tmp 6) (.tmp 8) _ _ rfl _ _ rfl rfl (G9.out.sps.push (x := .mk q s kids) (HKd.out.keep K9.out (fun j hj => Or.inr (hj.2.imp id id)) O9.out) hfl (by have := G9.out.lt; omega) (by repeat (first | exact Below.refl _ _ | apply bel_d | apply bel_a)) (by first | exact alloc_new _ _ | exact l9)) ?_
       rintro v7 w7 ⟨s7, k7, o7⟩
       obtain ⟨z1, z2, z3, z4⟩ := gth_store G9.out s7 k7
       obtain ⟨ao7, ca7, hv7⟩ := s7.slice
       rw [List.length_append, List.length_singleton] at hv7
       subst hv7
       have H7 := Lib.hid (And.intro z1 (And.intro z2 o7))
       clear s7 k7 o7 z1 z2))
  all_goals (
    obtain ⟨y1, y2, y3⟩ := H7.out
    have HR : Hid (AddAns G (flush L t ++ [.mk q s kids]) sv w (.returned (.tuple #[])) _) := Lib.hid ⟨rfl, _, y1, by
      rcases y3 with e | ⟨n, e, hn⟩
      · rw [e]; exact O9.out
      · exact Or.inr ⟨n, e, Nat.le_trans K9.out.size hn⟩, keep_chain K9.out y2 (fun j hj hs ⟨e1, e2⟩ => by
        rcases e2 with e2 | e2
        · rcases O9.out with o | ⟨n, o, hn⟩
          · exact hs ⟨e1, Or.inl (by rw [← o]; exact e2)⟩
          · rw [o] at e2; simp at e2; omega
        · exact hs ⟨e1, Or.inr (fun h3 => e2 ((SpB.same (K9.out.block j hj hs)).2 h3))⟩)⟩
    clear y1 y2 y3
    go_simp
    go_wp2_with fail
    go_end0
    exact HR.out)
end Go.Proofs.YtjgmfgnfdaeelaaGreatDoor.Sp
