/-
  CONTRACT of common's iterator (package lcs).
-/
import Derived.Test.YtbfclmhcoelplaaLpSpares
import Derived.Test.YtbfclmhcoelplaaLpFor
import Derived.Test.YtbfclmhcoelplaaCmSlice
import Derived.Test.YtbfclmhcoelplaaLcRef
import Derived.Shelf.RegionOpen
import Derived.OwnWalkIn
import Derived.TacticsInMore
import Derived.BigRegion
import Derived.Deep.RegionHeld3
namespace Go.Proofs.Ytbfclmhcoelplaa.Lp
open Go.RowKit Go.Proofs.Ytbfclmhcoelplaa.Cm Go.Proofs.Ytbfclmhcoelplaa.Lc Go.Proofs.Ytbfclmhcoelplaa.Lcx
set_option linter.unusedVariables false
attribute [local go_sem] Oper.semAt_some

/-- A pair as yield is handed it. -/
def encY (p : Nat × Nat) : Array Value := #[.agg #[.int .i64 p.1, .int .i64 p.2]]
theorem Bo.new (w : World) (v : Value) (T : TypeId) (h1 : mineT T = false) (h2 : walkT T = false) : Bo (w.alloc (Obj.cells #[v] T (0, 0))) w.heap.size v := ⟨T, alloc_new w _, h1, h2⟩
theorem ItS.none {K : TypeId → Bool} {n0 : Nat} {A B : World} (h : Keep (fun _ => False) A B) (hn : n0 ≤ A.heap.size) : ItS K n0 A B := ItS.of_keep h hn (fun _ h => h.elim) (fun _ h => h.elim)
theorem Bo.lt {w : World} {b : Nat} {v : Value} (h : Bo w b v) : b < w.heap.size := by obtain ⟨T, h1, _⟩ := h; exact lt_of_at h1
theorem Bo.kept {w w' : World} {b : Nat} {v : Value} (h : Bo w b v) (k : Keep (fun _ => False) w w') : Bo w' b v := h.keep k (fun g hg => hg.elim)
theorem Col.keepW {S : Nat → Prop} {w w' : World} {C : Nat} {v : Value} {W B t : Nat} {X : Nat → Nat} (h : Col w C v W B X t) (k : Keep S w w') (hC : ¬ S C) (hB : 0 < W → ¬ S B) : Col w' C v W B X t := by
  refine ⟨k.at h.1 hC, ?_, h.2.2⟩
  rcases h.2.1 with h | ⟨h0, cap, cur, h1, h2, h3, h4, h5⟩
  · exact .inl h
  · exact .inr ⟨h0, cap, cur, h1, h2, k.at h3 (hB h0), h4, h5⟩
/-- A round leaves the walk as it was. -/
theorem Ws.rds {w0 : World} {a b : List Int} {Wb : Nat} {vb : Value} {Mb wd Kt Tt C B : Nat} {vc : Value} {j : Nat} {vct vft : Value} {t : Nat} {w w' : World}
    (h : Ws w0 a b Wb vb Mb wd Kt Tt C B vc j vct vft t w) (k : RdS mineT w0.heap.size w w') : Ws w0 a b Wb vb Mb wd Kt Tt C B vc j vct vft t w' := by
  have kk := k.keep
  have no : ∀ (g : Nat) (us : Array Value) (T : TypeId) (fr : Nat × Nat), w.heap[g]? = some (Obj.cells us T fr) → mineT T = false → ¬ (∀ (us : Array Value) (t : TypeId) (fr : Nat × Nat), w.heap[g]? = some (Obj.cells us t fr) → mineT t = true) := fun g us T fr hg hT hs => by
    have := hs _ _ _ hg
    rw [hT] at this
    cases this
  refine ⟨kk.at h.wk (no _ _ _ _ h.wk (by decide)), h.col.keepW kk (no _ _ _ _ h.col.1 (by decide)) (fun h0 => ?_), h.tab.keep kk (fun g hg => ?_), h.bel.trans k.1, h.ord, h.vcB, h.vfB⟩
  · rcases h.col.2.1 with ⟨h1, _⟩ | ⟨_, cap, cur, _, _, h3, _⟩
    · omega
    · exact no _ _ _ _ h3 (by decide)
  · rcases hg with rfl | hg | hg
    · exact no _ _ _ _ h.tab.1 (by decide)
    · obtain ⟨cur, hc⟩ := own_obj h.tab.2.1 hg
      exact no _ _ _ _ hc (by decide)
    · obtain ⟨cur, hc⟩ := own_obj h.tab.2.2 hg
      exact no _ _ _ _ hc (by decide)
theorem Cx.rds {a b : List Int} {EA EB WB HB AB BB Wb : Nat} {va vb : Value} {w w' : World} {n0 : Nat} (h : Cx a b EA EB WB HB AB BB Wb va vb w) (k : RdS mineT n0 w w') : Cx a b EA EB WB HB AB BB Wb va vb w' :=
  h.keep k.keep (fun g hs us t fr hg => .inl (hs us t fr hg))
/-- What the walk's blocks are. -/
theorem Ws.son {w0 : World} {a b : List Int} {Wb : Nat} {vb : Value} {Mb wd Kt Tt C B : Nat} {vc : Value} {j : Nat} {vct vft : Value} {t : Nat} {w : World}
    (h : Ws w0 a b Wb vb Mb wd Kt Tt C B vc j vct vft t w) : ∀ g, Son Wb Tt C B ((a.length + 63) / 64) g → w0.heap.size ≤ g ∧ ∃ (us : Array Value) (T : TypeId) (fr : Nat × Nat), w.heap[g]? = some (Obj.cells us T fr) ∧ mineT T = false ∧ walkT T = true := by
  obtain ⟨o1, o2, o3, o4, _⟩ := h.ord
  rintro g (rfl | rfl | rfl | ⟨h0, rfl⟩)
  · exact ⟨o3, _, _, _, h.wk, by decide, by decide⟩
  · exact ⟨o4, _, _, _, h.tab.1, by decide, by decide⟩
  · exact ⟨o1, _, _, _, h.col.1, by decide, by decide⟩
  · rcases h.col.2.1 with ⟨h1, _⟩ | ⟨_, cap, cur, _, _, h3, _⟩
    · omega
    · exact ⟨o2, _, _, _, h3, by decide, by decide⟩
theorem Ws.its {w0 : World} {a b : List Int} {Wb : Nat} {vb : Value} {Mb wd Kt Tt C B : Nat} {vc : Value} {j : Nat} {vct vft : Value} {t : Nat} {w w' : World}
    (h : Ws w0 a b Wb vb Mb wd Kt Tt C B vc j vct vft t w) (k : Keep (Son Wb Tt C B ((a.length + 63) / 64)) w w') : ItS mineT w0.heap.size w w' :=
  ItS.of_keep k h.bel.size (fun g hg => (h.son g hg).1) (fun g hg => by obtain ⟨us, T, fr, e1, e2, e3⟩ := (h.son g hg).2; exact ⟨us, T, fr, e1, e2⟩)
theorem Ws.cx {w0 : World} {a b : List Int} {Wb : Nat} {vb : Value} {Mb wd Kt Tt C B : Nat} {vc : Value} {j : Nat} {vct vft : Value} {t : Nat} {w w' : World} {x y : List Int} {EA EB WB HB AB BB Wb' : Nat} {va' vb' : Value}
    (h : Ws w0 a b Wb vb Mb wd Kt Tt C B vc j vct vft t w) (k : Keep (Son Wb Tt C B ((a.length + 63) / 64)) w w') (c : Cx x y EA EB WB HB AB BB Wb' va' vb' w) : Cx x y EA EB WB HB AB BB Wb' va' vb' w' :=
  c.keep k (fun g hg us T fr hw => by
    obtain ⟨us', T', fr', e1, e2, e3⟩ := (h.son g hg).2
    rw [e1] at hw
    cases hw
    exact .inr e3)
theorem Ws.from' {w0 w1 : World} {a b : List Int} {Wb : Nat} {vb : Value} {Mb wd Kt Tt C B : Nat} {vc : Value} {j : Nat} {vct vft : Value} {t : Nat} {w : World}
    (h : Ws w1 a b Wb vb Mb wd Kt Tt C B vc j vct vft t w) (hb : Below w0.heap.size w0 w1) : Ws w0 a b Wb vb Mb wd Kt Tt C B vc j vct vft t w := by
  obtain ⟨o1, o2, o3, o4, o5⟩ := h.ord
  have := hb.size
  exact ⟨h.wk, h.col, h.tab, hb.trans (h.bel.mono hb.size), ⟨by omega, by omega, by omega, by omega, o5⟩, h.vcB, h.vfB⟩

def othT (T : TypeId) : Bool := !(walkT T) && T != 89 && T != 3
theorem Ws.oth {w0 : World} {a b : List Int} {Wb : Nat} {vb : Value} {Mb wd Kt Tt C B : Nat} {vc : Value} {j : Nat} {vct vft : Value} {t : Nat} {w w' : World} {S : Nat → Prop}
    (h : Ws w0 a b Wb vb Mb wd Kt Tt C B vc j vct vft t w) (kk : Keep S w w') (hb : ∀ g, S g → w0.heap.size ≤ g) (hS : ∀ g, S g → ∃ (us : Array Value) (T : TypeId) (fr : Nat × Nat), w.heap[g]? = some (Obj.cells us T fr) ∧ othT T = true) : Ws w0 a b Wb vb Mb wd Kt Tt C B vc j vct vft t w' := by
  have no : ∀ (g : Nat) (us : Array Value) (T : TypeId) (fr : Nat × Nat), w.heap[g]? = some (Obj.cells us T fr) → othT T = false → ¬ S g := fun g us T fr hg hT hs => by
    obtain ⟨us', T', fr', e, h'⟩ := hS g hs
    rw [hg] at e
    cases e
    rw [hT] at h'
    cases h'
  refine ⟨kk.at h.wk (no _ _ _ _ h.wk (by decide)), h.col.keepW kk (no _ _ _ _ h.col.1 (by decide)) (fun h0 => ?_), h.tab.keep kk (fun g hg => ?_), h.bel.trans (kk.below hb h.bel.size), h.ord, h.vcB, h.vfB⟩
  · rcases h.col.2.1 with ⟨h1, _⟩ | ⟨_, cap, cur, _, _, h3, _⟩
    · omega
    · exact no _ _ _ _ h3 (by decide)
  · rcases hg with rfl | hg | hg
    · exact no _ _ _ _ h.tab.1 (by decide)
    · obtain ⟨cur, hc⟩ := own_obj h.tab.2.1 hg
      exact no _ _ _ _ hc (by decide)
    · obtain ⟨cur, hc⟩ := own_obj h.tab.2.2 hg
      exact no _ _ _ _ hc (by decide)
/-- Where the walk stands. -/
def Ph (a b : List Int) (i j q : Nat) : Prop := q ≤ j - hd a b ∧ ((i = j ∧ i < hd a b) ∨ (hd a b ≤ i ∧ hd a b ≤ j))

set_option maxHeartbeats 6400000 in
set_option maxRecDepth 100000 in
theorem iter_goes (w00 : World) (va vb : Value) (a b : List Int) (AB BB OB : Nat) (w0 : World) (ha : Rz w00 va a) (hb : Rz w00 vb b) (hB : Below w00.heap.size w00 w0) (bA : Bo w0 AB va) (bB : Bo w0 BB vb) (bW : Bo w0 OB (.int .i64 1048576)) (hla : a.length ≤ 8000) (hlb : b.length ≤ 8000) :
    Goes mineT Try.prog 41 #[.pointer (some ⟨AB, 0, none⟩), .pointer (some ⟨BB, 0, none⟩), .pointer (some ⟨OB, 0, none⟩)] encY w00.heap.size (pairs a b) w0 := by
  intro l J w hbw hJ hY h0
  have kw : Keep (fun _ => False) w0 w := Keep.of_below hbw
  have bA := bA.kept kw
  have bB := bB.kept kw
  have bW := bW.kept kw
  have hB := hB.trans (hbw.mono hB.size)
  obtain ⟨h1, h2, h3, h4⟩ := ends_le a b
  have HE := Lib.hid (ends_any va vb a b w (ha.below hB) (hb.below hB) (by omega) (by omega))
  have RA := Lib.hid ha
  have RB := Lib.hid hb
  obtain ⟨aoa, ca, rfl⟩ := ha.len
  obtain ⟨aob, cb, rfl⟩ := hb.len
  have cA := bA.cell
  have cB := bB.cell
  have cW := bW.cell
  have HBW := Lib.hid hB
  have HBW0 : Hid (w00.heap.size ≤ w.heap.size) := Lib.hid hB.size
  have BA := Lib.hid bA
  have BB' := Lib.hid bB
  have BW := Lib.hid bW
  have HJ := Lib.hid hJ
  have HY := Lib.hid hY
  have H0 := Lib.hid h0
  obtain ⟨x, hx⟩ : ∃ x, a.length - tl a b = x := ⟨_, rfl⟩
  obtain ⟨y, hy⟩ : ∃ y, b.length - tl a b = y := ⟨_, rfl⟩
  have ex : IntKind.i64.wrap ((a.length : Int) - (tl a b : Int)) = (x : Int) := by rw [IntKind.wrap_i64]; omega
  have ey : IntKind.i64.wrap ((b.length : Int) - (tl a b : Int)) = (y : Int) := by rw [IntKind.wrap_i64]; omega
  obtain ⟨v1, r1, s1⟩ := slice_run ha (hd a b) x (by omega) (by omega) (by omega)
  obtain ⟨v2, r2, s2⟩ := slice_run hb (hd a b) y (by omega) (by omega) (by omega)
  have l1 : (mdl a (hd a b) (tl a b)).length ≤ 8000 := by rw [mdl_len h3]; omega
  have l2 : (mdl b (hd a b) (tl a b)).length ≤ 8000 := by rw [mdl_len h4]; omega
  have e1 : (a.drop (hd a b)).take (x - hd a b) = mdl a (hd a b) (tl a b) := by rw [← hx]; rfl
  have e2 : (b.drop (hd a b)).take (y - hd a b) = mdl b (hd a b) (tl a b) := by rw [← hy]; rfl
  rw [e1] at s1
  rw [e2] at s2
  have HNW := Lib.hid (fun w' (h : Below w00.heap.size w00 w') => newWalk_any w' v1 v2 (mdl a (hd a b) (tl a b)) (mdl b (hd a b) (tl a b)) w' (s1 w' h) (s2 w' h) (Below.refl _ _) l1 l2)
  have HXY := Lib.hid (And.intro hx hy)
  have H2 := Lib.hid (s2 w00 (Below.refl _ _))
  clear ha hb hB hbw kw bA bB bW hJ hY h0 s1 s2 e1 e2 l1 l2 hx hy h1 h2 h3 h4
  go_enter Try.func41, Try.ntmps41
  go_wp2_with fail
  refine HE.out.mono ?_
  rintro e w1 ⟨rfl, n1, hw1⟩
  have hk1 : Keep (fun _ => False) w w1 := by rw [hw1]; exact (Keep.refl _ w).drewN n1
  replace BA := Lib.hid (BA.out.kept hk1)
  replace BB' := Lib.hid (BB'.out.kept hk1)
  replace BW := Lib.hid (BW.out.kept hk1)
  replace cA := BA.out.cell
  replace cB := BB'.out.cell
  replace cW := BW.out.cell
  replace HBW := Lib.hid (HBW.out.trans (hk1.below (fun _ h => h.elim) HBW.out.size))
  have HK1 := Lib.hid hk1
  clear hk1 hw1
  go_upto_region 1 with fail
  have hk2 := keep_alloc w1 (Obj.cells #[Value.int IntKind.i64 (hd a b : Int)] 3)
  have BHt : Bo (w1.alloc (Obj.cells #[Value.int IntKind.i64 (hd a b : Int)] 3)) w1.heap.size (.int .i64 (hd a b)) := Bo.new _ _ _ (by decide) (by decide)
  have BH := Lib.hid BHt
  generalize w1.heap.size = HB at *
  generalize w1.alloc (Obj.cells #[Value.int IntKind.i64 (hd a b : Int)] 3) = w2 at *
  replace BA := Lib.hid (BA.out.kept hk2)
  replace BB' := Lib.hid (BB'.out.kept hk2)
  replace BW := Lib.hid (BW.out.kept hk2)
  replace cA := BA.out.cell
  replace cB := BB'.out.cell
  replace cW := BW.out.cell
  have cH := BH.out.cell
  replace HBW := Lib.hid (HBW.out.trans (hk2.below (fun _ h => h.elim) HBW.out.size))
  have HK2 := Lib.hid (HK1.out.trans hk2)
  clear hk2 HK1 BHt
  go_cut [7, 8] from 13 to 76 (fun s7 s8 wx => ∃ EA EB : Nat, s7 = .pointer (some ⟨EA, 0, none⟩) ∧ s8 = .pointer (some ⟨EB, 0, none⟩) ∧ Hid (Bo wx EA (.int .i64 x)) ∧ Hid (Bo wx EB (.int .i64 y)) ∧ Hid (Keep (fun _ => False) w2 wx))
  case first =>
    have lA : AB < w2.heap.size := BA.out.lt
    have lB : BB < w2.heap.size := BB'.out.lt
    have K12 : ∀ o1 o2 : Obj, Keep (fun _ => False) w2 ((w2.alloc o1).alloc o2).drew := fun o1 o2 => (((Keep.refl _ w2).alloc o1).alloc o2).drew
    have KD : ∀ (wd : World), Keep (fun _ => False) wd wd.drew := fun wd => (Keep.refl _ wd).drew
    have K1 : ∀ (o1 o2 : Obj), Keep (fun _ => False) (w2.alloc o1) ((w2.alloc o1).alloc o2).drew := fun o1 o2 => ((Keep.refl _ (w2.alloc o1)).alloc o2).drew
    have BN : ∀ (wd : World) (z : Nat), Bo (wd.alloc (Obj.cells #[Value.int IntKind.i64 (z : Int)] 3)) wd.heap.size (.int .i64 z) := fun wd z => Bo.new _ _ _ (by decide) (by decide)
    have KK := Lib.hid K12
    have KK1 := Lib.hid K1
    have KKD := Lib.hid KD
    have BN := Lib.hid BN
    clear K12 KD K1
    go_wp2_with fail
    go_region
    · go_wp2_with fail
      go_meet
      exact ⟨_, _, rfl, rfl, Lib.hid (((BN.out w2 x)).kept (KK1.out _ _)), Lib.hid (by have := (BN.out (w2.alloc (Obj.cells #[Value.int IntKind.i64 (x : Int)] 3)) y).kept (KKD.out _); rwa [World.size_alloc] at this), Lib.hid (KK.out _ _)⟩
    · go_wp2_with fail
      go_meet
      exact ⟨_, _, rfl, rfl, Lib.hid (by have := (BN.out (w2.alloc (Obj.cells #[Value.int IntKind.i64 (y : Int)] 3)) x).kept (KKD.out _); rwa [World.size_alloc] at this), Lib.hid (((BN.out w2 y)).kept (KK1.out _ _)), Lib.hid (KK.out _ _)⟩
  case rest =>
    obtain ⟨EA, EB, rfl, rfl, BEA, BEB, K3⟩ := hcut
    obtain ⟨w3, rfl⟩ : ∃ w3, w3 = wc := ⟨_, rfl⟩
    go_upto_region 2 with fail
    replace BA := Lib.hid (BA.out.kept K3.out)
    replace BB' := Lib.hid (BB'.out.kept K3.out)
    replace BW := Lib.hid (BW.out.kept K3.out)
    replace BH := Lib.hid (BH.out.kept K3.out)
    replace HBW := Lib.hid (HBW.out.trans (K3.out.below (fun _ h => h.elim) HBW.out.size))
    replace HK2 := Lib.hid (HK2.out.trans K3.out)
    clear cA cB cW cH K3
    have cA := BA.out.cell
    have cB := BB'.out.cell
    have cW := BW.out.cell
    have cH := BH.out.cell
    have cEA := BEA.out.cell
    have cEB := BEB.out.cell
    go_cut [9] from 13 to 76 (fun s9 wx => ∃ (WB Wb Mb wd Kt Tt C B : Nat) (vc vct vft : Value) (t : Nat), s9 = .pointer (some ⟨WB, 0, none⟩) ∧ Hid (Bo wx WB (.pointer (some ⟨Wb, 0, none⟩))) ∧ Hid (Ws w00 (mdl a (hd a b) (tl a b)) (mdl b (hd a b) (tl a b)) Wb v2 Mb wd Kt Tt C B vc 0 vct vft t wx) ∧ Hid (Keep (fun _ => False) w3 wx) ∧ Hid ((mdl b (hd a b) (tl a b)).length ≤ wd ∧ wd ≤ 8589934592))
    case first =>
      have lA : AB < w3.heap.size := BA.out.lt
      have lB : BB < w3.heap.size := BB'.out.lt
      have lW : OB < w3.heap.size := BW.out.lt
      have lH : HB < w3.heap.size := BH.out.lt
      have lEA : EA < w3.heap.size := BEA.out.lt
      have lEB : EB < w3.heap.size := BEB.out.lt
      have HNK := Lib.hid (fun w' (h : Keep (fun _ => False) w3 w') => HNW.out w' (HBW.out.trans (h.below (fun _ h => h.elim) HBW.out.size)))
      have S6 : ∀ w', Keep (fun _ => False) w3 w' → w'.cell? ⟨AB, 0, none⟩ = some (.slice aoa a.length ca) ∧ w'.cell? ⟨BB, 0, none⟩ = some (.slice aob b.length cb) ∧ w'.cell? ⟨OB, 0, none⟩ = some (.int .i64 1048576) ∧ w'.cell? ⟨HB, 0, none⟩ = some (.int .i64 (hd a b)) ∧ w'.cell? ⟨EA, 0, none⟩ = some (.int .i64 x) ∧ w'.cell? ⟨EB, 0, none⟩ = some (.int .i64 y) := fun w' h =>
        ⟨(BA.out.kept h).cell, (BB'.out.kept h).cell, (BW.out.kept h).cell, (BH.out.kept h).cell, (BEA.out.kept h).cell, (BEB.out.kept h).cell⟩
      have HS6 := Lib.hid S6
      clear S6
      go_wp2_with fail
      go_region_held3 (fun w' => w'.cell? ⟨AB, 0, none⟩ = some (.slice aoa a.length ca) ∧ w'.cell? ⟨BB, 0, none⟩ = some (.slice aob b.length cb) ∧ w'.cell? ⟨OB, 0, none⟩ = some (.int .i64 1048576) ∧ w'.cell? ⟨HB, 0, none⟩ = some (.int .i64 (hd a b)) ∧ w'.cell? ⟨EA, 0, none⟩ = some (.int .i64 x) ∧ w'.cell? ⟨EB, 0, none⟩ = some (.int .i64 y))
        (first
          | (exact ⟨cA, cB, cW, cH, cEA, cEB⟩)
          | (exact HS6.out _ (Keep.refl _ _))
          | (exact HS6.out _ (Keep.refl _ _).drew)
          | (exact HS6.out _ ((Keep.refl _ _).alloc _))
          | (exact HS6.out _ ((Keep.refl _ _).alloc _).drew)
          | (exact HS6.out _ ((Keep.refl _ _).drew.alloc _))
          | (exact HS6.out _ HK5.out)
          | (exact HS6.out _ HK5.out.drew)
          | (exact HS6.out _ (HK5.out.alloc _))
          | (exact HS6.out _ (HK5.out.alloc _).drew)
          | (exact HS6.out _ (HK5.out.setCell (Or.inr (by first | exact Nat.le_refl _ | exact HK5.out.size)) _))
          | (exact HS6.out _ ((HK5.out.alloc _).setCell (Or.inr (by first | exact Nat.le_refl _ | exact HK5.out.size)) _)))
        (first
        | (go_at_call 43
           refine calls_at (args := #[v1, v2, .int .i64 1048576]) rfl (HNK.out _ (by first | exact (Keep.refl _ _) | exact (Keep.refl _ _).drew | exact ((Keep.refl _ _).alloc _) | exact ((Keep.refl _ _).alloc _).drew | exact ((Keep.refl _ _).drew.alloc _))) ?_
           rintro e w5 ⟨Wb, Mb, wd, Kt, Tt, C, B, vc, vct, vft, t, rfl, hws, hwd1, hwd2⟩
           first
           | (have k0 : Keep (fun _ => False) (w3.alloc (Obj.cells #[.pointer none] 78)).drew w5 := Keep.of_below hws.bel
              have hN : w5.heap[w3.heap.size]? = some (Obj.cells #[.pointer none] 78 (0, 0)) := k0.at (k := w3.heap.size) (alloc_new w3 _) (fun h => h)
              have cN : w5.cell? ⟨w3.heap.size, 0, none⟩ = some (.pointer none) := cell_at hN 0
              have fN : w5.frozen? ⟨w3.heap.size, 0, none⟩ = false := frozen_at hN 0
              have lN := lt_of_at hN
              have HN5 := Lib.hid hN
              have hK5 : Keep (fun _ => False) w3 w5 := ((Keep.refl _ w3).alloc _).drew.trans k0
              have HK5 := Lib.hid hK5
              clear hN hK5 k0)
           | (have k0 : Keep (fun _ => False) w3.drew w5 := Keep.of_below hws.bel
              have hK5 : Keep (fun _ => False) w3 w5 := (Keep.refl _ w3).drew.trans k0
              have HK5 := Lib.hid hK5
              clear hK5 k0)
           have HWS := Lib.hid hws
           have HWD := Lib.hid (And.intro hwd1 hwd2)
           clear hws hwd1 hwd2))
      · go_wp2_with fail
        go_meet
        have W2 := (HWS.out.from' (w0 := w00) (HBW.out.trans ((Keep.refl (fun _ => False) w3).drew.below (fun _ h => h.elim) HBW.out.size)))
        exact ⟨_, _, _, _, _, _, _, _, _, _, _, _, rfl, Lib.hid (Bo.new _ _ _ (by decide) (by decide)), Lib.hid (W2.oth ((Keep.refl (fun _ => False) w5).alloc _) (fun _ h => h.elim) (fun _ h => h.elim)), Lib.hid (HK5.out.alloc _), HWD⟩
      · go_wp2_with fail
        go_meet
        have W2 := (HWS.out.from' (w0 := w00) (HBW.out.trans (((Keep.refl (fun _ => False) w3).alloc _).drew.below (fun _ h => h.elim) HBW.out.size)))
        have KS : Keep (fun g => g = w3.heap.size) w5 (w5.setCell ⟨w3.heap.size, 0, none⟩ (.pointer (some ⟨Wb, 0, none⟩))) := (Keep.refl (fun g => g = w3.heap.size) w5).setCell (p := ⟨w3.heap.size, 0, none⟩) (Or.inl rfl) _
        exact ⟨_, _, _, _, _, _, _, _, _, _, _, _, rfl, Lib.hid ⟨78, set_at (w := w5) HN5.out 0 _, by decide, by decide⟩, Lib.hid (W2.oth KS (fun g hg => by rw [hg]; exact HBW.out.size) (fun g hg => by subst hg; exact ⟨_, _, _, HN5.out, by decide⟩)), Lib.hid (HK5.out.setCell (Or.inr (Nat.le_refl _)) _), HWD⟩
    case rest =>
      obtain ⟨WB, Wb, Mb, wd, Kt, Tt, C, B, vc, vct, vft, t, rfl, BWB, HWS, K4, HWD⟩ := hcut
      obtain ⟨aob2, cb2, rfl⟩ := H2.out.len
      have HCX : Hid (Cx a b EA EB WB HB AB BB Wb (.slice aoa a.length ca) (.slice aob b.length cb) wc) := Lib.hid ⟨by have := BEA.out.kept K4.out; rwa [← HXY.out.1] at this, by have := BEB.out.kept K4.out; rwa [← HXY.out.2] at this, BWB.out, BH.out.kept K4.out, BA.out.kept K4.out, BB'.out.kept K4.out⟩
      have HJ1 := Lib.hid (HJ.out [] w wc H0.out (ItS.of_keep (HK2.out.trans K4.out) HBW0.out (fun _ h => h.elim) (fun _ h => h.elim)))
      have HPP : Hid (Pp a b 0 0 []) := Lib.hid (by unfold Pp; rw [List.drop_zero, List.drop_zero, List.nil_append]; rfl)
      have HPH : Hid (Ph a b 0 0 0) := Lib.hid (by unfold Ph; omega)
      clear BEA BEB BWB BH BA BB' BW K4 HK2 H0 HNW HE H2 HBW ex ey r1 r2 hB bW bA bB
      go_wp2_with fail
      go_loopw [11, 12] (fun s11 s12 wr => ∃ (i j q : Nat) (o : List (Nat × Nat)) (vct vft : Value) (t : Nat), s11 = .int .i64 i ∧ s12 = .int .i64 j ∧ i ≤ a.length ∧ j ≤ b.length ∧ Hid (Ph a b i j q) ∧ Hid (Pp a b i j o) ∧ Hid (J o wr) ∧
        Hid (Ws w00 (mdl a (hd a b) (tl a b)) (mdl b (hd a b) (tl a b)) Wb (.slice aob2 (mdl b (hd a b) (tl a b)).length cb2) Mb wd Kt Tt C B vc q vct vft t wr) ∧ Hid (Cx a b EA EB WB HB AB BB Wb (.slice aoa a.length ca) (.slice aob b.length cb) wr)) (fun s11 s12 _ => (a.length - (intOf s11).toNat) + (b.length - (intOf s12).toNat))
      case atStart => exact ⟨0, 0, 0, [], vct, vft, t, rfl, rfl, by omega, by omega, HPH, HPP, HJ1, HWS, HCX⟩
      case round =>
        clear HPH HPP HJ1 HWS HCX
        obtain ⟨i, j, q, o, vct, vft, t, rfl, rfl, hia, hjb, HPH, HPP, HJ1, HWS, HCX⟩ := hrel
        have cA := HCX.out.ab.cell
        have cB := HCX.out.bb.cell
        by_cases hi : i < a.length
        · by_cases hj : j < b.length
          · have di : ((i : Int) < (a.length : Int)) := by omega
            have dj : ((j : Int) < (b.length : Int)) := by omega
            obtain ⟨b1, o1, hao, hlt1, c1⟩ := (RA.out.below HWS.out.bel).at i hi
            obtain ⟨b2, o2, hbo, hlt2, c2⟩ := (RB.out.below HWS.out.bel).at j hj
            subst hao
            subst hbo
            by_cases he : a[i] = b[j]
            · have HPN : Hid (Pp a b (i + 1) (j + 1) (o ++ [(i, j)])) := Lib.hid (by have := HPP.out; unfold Pp at this ⊢; rw [this, pp_at_yes hi hj he, List.append_assoc]; rfl)
              rw [← he] at c2
              obtain ⟨xa, hxa⟩ : ∃ xa, a[i] = xa := ⟨_, rfl⟩
              rw [hxa] at c1 c2
              clear he hxa
              go_wp2_with fail
              go_quiet (fail)
              have KQ : Keep (fun _ => False) wr (wr.drewN nq) := (Keep.refl _ wr).drewN nq
              replace HJ1 := Lib.hid (HJ.out _ _ _ HJ1.out (ItS.none KQ HWS.out.bel.size))
              replace HWS := Lib.hid (HWS.out.oth KQ (fun _ h => h.elim) (fun _ h => h.elim))
              replace HCX := Lib.hid (HCX.out.keep KQ (fun _ h => h.elim))
              clear KQ c1 c2 cA cB
              generalize wr.drewN nq = wq at *
              obtain ⟨fn, tmps, assign, body, hy, hR⟩ := HY.out o (i, j) wq HJ1.out (by have := HPN.out; unfold Pp at this; rw [this]; simp only [List.length_append, List.length_singleton]; omega)
              simp only [encY] at hy
              go_upto_region 8 with fail
              refine (wpIn_wide (n := 4)).1 ?_
              gi_wp2
              refine hR.mono ?_
              rintro e w5 ⟨rfl, hj5, hk5⟩
              have HJ5 := Lib.hid hj5
              have HWS5 := Lib.hid (HWS.out.rds hk5)
              have HCX5 := Lib.hid (HCX.out.rds hk5)
              have HPH5 : Hid (Ph a b (i + 1) (j + 1) q) := Lib.hid (by have := HPH.out; unfold Ph at this ⊢; omega)
              clear hj5 hk5 hy hR
              gi_wp2
              go_wp2_with fail
              go_roundw
              case rel => exact ⟨i + 1, j + 1, q, _, _, _, _, by go_num, by go_num, by omega, by omega, HPH5, HPN, HJ5, HWS5, HCX5⟩
              case measure => simp [intOf] <;> omega
            · have hph : hd a b ≤ i ∧ hd a b ≤ j ∧ q ≤ j - hd a b := by
                have h := HPH.out
                unfold Ph at h
                rcases h with ⟨h0, ⟨h1, h2⟩ | h1⟩
                · subst h1
                  have := hd_same a b i h2
                  rw [List.getElem?_eq_getElem hi, List.getElem?_eq_getElem hj] at this
                  exact absurd (Option.some.inj this) he
                · exact ⟨h1.1, h1.2, h0⟩
              have HIFF := Lib.hid (sp_iff hi hj hph.1 hph.2.1 he)
              have HE := Lib.hid he
              obtain ⟨xa, hxa⟩ : ∃ xa, a[i] = xa := ⟨_, rfl⟩
              obtain ⟨xb, hxb⟩ : ∃ xb, b[j] = xb := ⟨_, rfl⟩
              rw [hxa] at c1
              rw [hxb] at c2
              have hne : (xa == xb) = false := by rw [beq_eq_false_iff_ne, ← hxa, ← hxb]; exact he
              have hne2 : ¬ xa = xb := by rw [← hxa, ← hxb]; exact he
              have HPL : Hid (sp a b i j = true → Pp a b (i + 1) j o) := Lib.hid (fun h => by have := HPP.out; unfold Pp at this ⊢; rw [this, pp_at_left hi hj he (HIFF.out.1 h)])
              have HPR : Hid (sp a b i j = false → Pp a b i (j + 1) o) := Lib.hid (fun h => by have := HPP.out; unfold Pp at this ⊢; rw [this, pp_at_right hi hj he (fun h' => by rw [HIFF.out.2 h'] at h; cases h)])
              have HPHs := Lib.hid hph
              clear he hxa hxb hph HIFF HE
              go_wp2_with fail
              go_quiet (fail)
              have KQ : Keep (fun _ => False) wr (wr.drewN nq) := (Keep.refl _ wr).drewN nq
              replace HJ1 := Lib.hid (HJ.out _ _ _ HJ1.out (ItS.none KQ HWS.out.bel.size))
              replace HWS := Lib.hid (HWS.out.oth KQ (fun _ h => h.elim) (fun _ h => h.elim))
              replace HCX := Lib.hid (HCX.out.keep KQ (fun _ h => h.elim))
              clear KQ c1 c2 cA cB
              generalize wr.drewN nq = wq at *
              have HSPA := Lib.hid (spares_any w00 a b EA EB WB HB AB BB Wb Mb wd Kt Tt C B q t i j cb2 ca cb aob2 _ _ vc vct vft wq HWS.out HCX.out HPHs.out.2.2 hi hj HPHs.out.1 HPHs.out.2.1 HWD.out.1 HWD.out.2 hla hlb)
              obtain ⟨sv, hsv⟩ : ∃ sv, sp a b i j = sv := ⟨_, rfl⟩
              rw [hsv] at HSPA HPL HPR
              clear hsv
              rcases sv with _ | _
              · go_wp2_with fail
                refine HSPA.out.mono ?_
                rintro e w5 ⟨rfl, ⟨q', vct', vft', t', hq', hws5⟩, hk5⟩
                have HJ5 := Lib.hid (HJ.out _ _ _ HJ1.out (HWS.out.its hk5))
                have HCX5 := Lib.hid (HWS.out.cx hk5 HCX.out)
                have HWS5 := Lib.hid hws5
                have HPH5 : Hid (Ph a b i (j + 1) q') := Lib.hid (by have := HPHs.out; unfold Ph; omega)
                have HPN := Lib.hid (HPR.out (by simp))
                clear hk5 hws5
                go_wp2_with fail
                go_roundw
                case rel => exact ⟨i, j + 1, q', _, _, _, _, by go_num, by go_num, by omega, by omega, HPH5, HPN, HJ5, HWS5, HCX5⟩
                case measure => simp [intOf] <;> omega
              · go_wp2_with fail
                refine HSPA.out.mono ?_
                rintro e w5 ⟨rfl, ⟨q', vct', vft', t', hq', hws5⟩, hk5⟩
                have HJ5 := Lib.hid (HJ.out _ _ _ HJ1.out (HWS.out.its hk5))
                have HCX5 := Lib.hid (HWS.out.cx hk5 HCX.out)
                have HWS5 := Lib.hid hws5
                have HPH5 : Hid (Ph a b (i + 1) j q') := Lib.hid (by have := HPHs.out; unfold Ph; omega)
                have HPN := Lib.hid (HPL.out (by simp))
                clear hk5 hws5
                go_wp2_with fail
                go_roundw
                case rel => exact ⟨i + 1, j, q', _, _, _, _, by go_num, by go_num, by omega, by omega, HPH5, HPN, HJ5, HWS5, HCX5⟩
                case measure => simp [intOf] <;> omega
          · have di : ((i : Int) < (a.length : Int)) := by omega
            have dj : ¬ ((j : Int) < (b.length : Int)) := by omega
            have HEND : Hid (J (pairs a b) wr) := Lib.hid (by
              have := HPP.out
              unfold Pp at this
              rw [pp_end (Or.inr (by omega)), List.append_nil] at this
              rw [this]; exact HJ1.out)
            go_wp2_with fail
            go_end0
            exact ⟨⟨_, rfl⟩, HEND.out⟩
        · have di : ¬ ((i : Int) < (a.length : Int)) := by omega
          have HEND : Hid (J (pairs a b) wr) := Lib.hid (by
            have := HPP.out
            unfold Pp at this
            rw [pp_end (Or.inl (by omega)), List.append_nil] at this
            rw [this]; exact HJ1.out)
          go_wp2_with fail
          go_end0
          exact ⟨⟨_, rfl⟩, HEND.out⟩
end Go.Proofs.Ytbfclmhcoelplaa.Lp
