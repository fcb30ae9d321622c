/-
  CONTRACTS of on and counts (package lcs): the walk goes to the next column.
-/
import Derived.Test.YtbfclmhcoelplaaLpReck
namespace Go.Proofs.Ytbfclmhcoelplaa.Lp
open Go.RowKit Go.Proofs.Ytbfclmhcoelplaa.Cm Go.Proofs.Ytbfclmhcoelplaa.Lc Go.Proofs.Ytbfclmhcoelplaa.Lcx
set_option linter.unusedVariables false

/-- The walk stands at place j of b. -/
structure Ws (w0 : World) (a b : List Int) (Wb : Nat) (vb : Value) (Mb wd Kt Tt C B : Nat) (vc : Value) (j : Nat) (vct vft : Value) (t : Nat) (w : World) : Prop where
  wk : WkAt w Wb vb a.length Mb wd Kt Tt (.pointer (some ⟨C, 0, none⟩)) j
  col : Col w C vc ((a.length + 63) / 64) B (Xc a (b.drop j)) t
  tab : TabW w Tt vct vft (rws a ((a.length + 63) / 64) (b.drop j)).reverse
  bel : Below w0.heap.size w0 w
  ord : w0.heap.size ≤ C ∧ w0.heap.size ≤ B ∧ w0.heap.size ≤ Wb ∧ w0.heap.size ≤ Tt ∧ B ≠ C ∧ Wb ≠ B ∧ Tt ≠ B
  vcB : ∀ g, vct.ownBlock = some g → g ≠ B
  vfB : ∀ g, vft.ownBlock = some g → g ≠ B
/-- What a step of the walk changes. -/
def Son (Wb Tt C B W : Nat) : Nat → Prop := fun k => k = Wb ∨ k = Tt ∨ k = C ∨ (0 < W ∧ k = B)

/-- Where the loop of on stands: so many words are put back. -/
structure Oc (w : World) (a b : List Int) (Wb : Nat) (vb : Value) (Mb wd Kt Tt C B : Nat) (vc : Value) (j : Nat) (v vct vft : Value) (r : List (Nat × Nat)) (k t : Nat) (wr : World) : Prop where
  wk : WkAt wr Wb vb a.length Mb wd Kt Tt (.pointer (some ⟨C, 0, none⟩)) j
  col : Col wr C vc ((a.length + 63) / 64) B (back (Xc a (b.drop j)) (r.take k)) t
  tab : TabW wr Tt vct vft (rws a ((a.length + 63) / 64) (b.drop (j + 1))).reverse
  row : Pl (fun g => g = Wb ∨ g = Tt ∨ g = C ∨ g = B) wr v r
  keep : Keep (Son Wb Tt C B ((a.length + 63) / 64)) w wr

set_option maxHeartbeats 6400000 in
set_option maxRecDepth 100000 in
theorem on_any (w0 : World) (a b : List Int) (Wb Mb wd Kt Tt C B j t cb : Nat) (aob : Option Addr) (vc vct vft : Value) (w : World) (h : Ws w0 a b Wb (.slice aob b.length cb) Mb wd Kt Tt C B vc j vct vft t w) (hj : j < b.length) (hwd : b.length ≤ wd) (hwd2 : wd ≤ 8589934592) (hla : a.length ≤ 100000) (hlb : b.length ≤ 100000) :
    Calls Try.prog 54 #[.pointer (some ⟨Wb, 0, none⟩)] w fun e w' => (∃ x, e = .returned x) ∧ (∃ vct' vft' t', Ws w0 a b Wb (.slice aob b.length cb) Mb wd Kt Tt C B vc (j + 1) vct' vft' t' w') ∧ Keep (Son Wb Tt C B ((a.length + 63) / 64)) w w' := by
  obtain ⟨o1, o2, o3, o4, o5, o6, o7⟩ := h.ord
  have hW : (a.length + 63) / 64 ≤ 100000 := by omega
  have e1 : Wb ≠ C := ne_of_types h.wk h.col.1 (by decide)
  have e3 : Tt ≠ C := ne_of_types h.tab.1 h.col.1 (by decide)
  have e5 : Wb ≠ Tt := ne_of_types h.wk h.tab.1 (by decide)
  have hbd := List.drop_eq_getElem_cons hj
  have htab := h.tab
  rw [hbd] at htab
  have htab2 : TabW w Tt vct vft ((rws a ((a.length + 63) / 64) (b.drop (j + 1))).reverse ++ [chg (Xc a (b.drop (j + 1))) (msk (pls a b[j])) ((a.length + 63) / 64)]) := by
    have : (rws a ((a.length + 63) / 64) (b[j] :: b.drop (j + 1))).reverse = (rws a ((a.length + 63) / 64) (b.drop (j + 1))).reverse ++ [chg (Xc a (b.drop (j + 1))) (msk (pls a b[j])) ((a.length + 63) / 64)] := by
      show (_ :: rws a _ (b.drop (j + 1))).reverse = _
      rw [List.reverse_cons]
    rw [this] at htab; exact htab
  have hrl : (chg (Xc a (b.drop (j + 1))) (msk (pls a b[j])) ((a.length + 63) / 64)).length ≤ 100000 := by
    have := chg_len (Xc a (b.drop (j + 1))) (msk (pls a b[j])) ((a.length + 63) / 64); omega
  have hfl := rws_flat a ((a.length + 63) / 64) (b.drop (j + 1))
  have hfl2 : (b.drop (j + 1)).length * ((a.length + 63) / 64) ≤ 100000 * 1600 := Nat.mul_le_mul (by rw [List.length_drop]; omega) (by omega)
  have hrl2 : (rws a ((a.length + 63) / 64) (b.drop (j + 1))).reverse.length ≤ 1000000 := by rw [List.length_reverse, rws_len, List.length_drop]; omega
  have HTK := Lib.hid (takeW_any (fun g => g = Wb ∨ g = Tt ∨ g = C ∨ g = B) Tt vct vft _ _ w htab2 hrl2 (by omega) (fun g hg hs => by
    rcases hs with e | e | e | e
    · subst e; exact own_ne_at h.tab.2.1 hg h.wk (by decide)
    · subst e; exact own_ne_at h.tab.2.1 hg h.tab.1 (by decide)
    · subst e; exact own_ne_at h.tab.2.1 hg h.col.1 (by decide)
    · exact h.vcB g hg e) (fun g hg => Or.inr (Or.inl hg)))
  have hin := chg_in (Xc a (b.drop (j + 1))) (msk (pls a b[j])) ((a.length + 63) / 64)
  have hbk : back (Xc a (b.drop j)) (chg (Xc a (b.drop (j + 1))) (msk (pls a b[j])) ((a.length + 63) / 64)) = Xc a (b.drop (j + 1)) := by
    rw [hbd]
    refine back_all (fun q hq => ?_)
    have z1 := Xc_zero a (b[j] :: b.drop (j + 1)) q hq
    have z2 := Xc_zero a (b.drop (j + 1)) q hq
    rw [z2]; exact z1
  have c5 : w.cell? ⟨Wb, 5, none⟩ = some (.pointer (some ⟨Tt, 0, none⟩)) := cell_at h.wk 5
  have hlw := lt_of_at h.wk
  have HIN := Lib.hid hin
  have HBK := Lib.hid hbk
  have HS := Lib.hid h
  have hW0 : (a.length + 63) / 64 = 0 → (chg (Xc a (b.drop (j + 1))) (msk (pls a b[j])) ((a.length + 63) / 64)) = [] := fun e => by rw [e]; rfl
  have HW0 := Lib.hid hW0
  clear htab htab2 hfl hfl2 hrl2 hbd h hin hbk hW0
  generalize chg (Xc a (b.drop (j + 1))) (msk (pls a b[j])) ((a.length + 63) / 64) = r at *
  go_enter Try.func54, Try.ntmps54
  go_wp2_with fail
  refine HTK.out.mono ?_
  rintro e w1 ⟨v, vct', vft', rfl, hpl, htab, hc', hf', hk1⟩
  have HC' := Lib.hid hc'
  have HF' := Lib.hid hf'
  have HO : Hid (Oc w a b Wb (.slice aob b.length cb) Mb wd Kt Tt C B vc j v vct' vft' r 0 t w1) := Lib.hid
    ⟨hk1.at HS.out.wk e5, by rw [List.take_zero]; exact HS.out.col.keep hk1 (fun e => e3 e.symm) (fun e => o7 e.symm), htab, hpl, hk1.mono (fun g _ hg => Or.inr (Or.inl hg))⟩
  obtain ⟨av, cv, hv, _⟩ := hpl
  subst hv
  clear htab hc' hf' hk1 HTK c5
  go_wp2_with fail
  go_loopw [3, 10] (fun u s wr => ∃ k t, k ≤ r.length ∧ s = .int .i64 k ∧ Hid (Oc w a b Wb (.slice aob b.length cb) Mb wd Kt Tt C B vc j (.slice av r.length cv) vct' vft' r k t wr)) (fun _ s _ => r.length - (intOf s).toNat)
  case atStart => exact ⟨0, t, Nat.zero_le _, rfl, HO⟩
  case round =>
    clear HO
    obtain ⟨k, t2, hk, rfl, HO⟩ := hrel
    by_cases hkr : k < r.length
    · obtain ⟨ao2, cap2, hv2, hc2, hx2⟩ := HO.out.row
      simp only [Value.slice.injEq, true_and] at hv2
      obtain ⟨rfl, rfl⟩ := hv2
      rcases hx2 with hx2 | ⟨g, o, rfl, hg, hsg, hcell⟩
      · rw [hx2] at hkr; exact absurd hkr (Nat.not_lt_zero _)
      obtain ⟨k1, k2⟩ := hcell k r[k] (List.getElem?_eq_getElem hkr)
      have hpW := (HIN.out r[k] (List.getElem_mem hkr)).1
      have hTK : r.take (k + 1) = r.take k ++ [r[k]] := by rw [List.take_add_one, List.getElem?_eq_getElem hkr]; rfl
      have HCB := Lib.hid (back_snoc (Xc a (b.drop j)) (r.take k) r[k])
      rw [← hTK] at HCB
      have tk : (k : Int) < (r.length : Int) := by omega
      have c6 : wr.cell? ⟨Wb, 6, none⟩ = some (.pointer (some ⟨C, 0, none⟩)) := cell_at HO.out.wk 6
      have hlwr := lt_of_at HO.out.wk
      have W0p : 0 < (a.length + 63) / 64 := by omega
      clear hcell hTK hc2
      generalize r[k].1 = pa at *
      generalize r[k].2 = pb at *
      go_upto_region 3 with fail
      have hn := Lib.hid (alloc_new wr (.cells #[.int .i64 pa, .int .u64 pb] 89))
      have hka := Lib.hid (keep_alloc wr (.cells #[.int .i64 pa, .int .u64 pb] 89))
      have d6 := cell_at (hka.out.at HO.out.wk (fun h => h)) 6
      have d6 : (wr.alloc (.cells #[.int .i64 pa, .int .u64 pb] 89)).cell? ⟨Wb, 6, none⟩ = some (.pointer (some ⟨C, 0, none⟩)) := d6
      generalize wr.alloc (.cells #[.int .i64 pa, .int .u64 pb] 89) = w2 at *
      generalize wr.heap.size = N at *
      have d0 : w2.cell? ⟨N, 0, none⟩ = some (.int .i64 pa) := cell_at hn.out 0
      have d1 : w2.cell? ⟨N, 1, none⟩ = some (.int .u64 pb) := cell_at hn.out 1
      have hc2 : Col w2 C vc ((a.length + 63) / 64) B (back (Xc a (b.drop j)) (r.take k)) t2 := HO.out.col.keep hka.out (fun h => h) (fun h => h)
      have HP := Lib.hid (put_any C B ((a.length + 63) / 64) t2 pa pb vc (back (Xc a (b.drop j)) (r.take k)) w2.drew hc2 hpW (by omega) o5)
      have l0 := lit_cell d0
      have l1 := lit_cell d1
      have l6 := lit_cell d6
      clear k1 k2 c6 hn hc2
      go_wp2_with fail
      go_still_tail 5, (by kernel_rfl)
      change wpList _ _ _ _ _ w2.drew
      go_wp2_with fail
      refine HP.out.mono ?_
      rintro e w5 ⟨⟨x5, rfl⟩, hcol, hkeep⟩
      have hk5 : Keep (fun g => g = C ∨ g = B) wr w5 := ((hka.out.mono (fun _ _ h => h.elim)).trans (Keep.refl _ w2).drew).trans hkeep
      have HOn : Hid (Oc w a b Wb (.slice aob b.length cb) Mb wd Kt Tt C B vc j (.slice (some ⟨g, o, none⟩) r.length cv) vct' vft' r (k + 1) (max t2 (pa + 1)) w5) := Lib.hid
        ⟨hk5.at HO.out.wk (fun h => h.elim e1 o6), by rw [HCB.out]; exact hcol, HO.out.tab.keep hk5 (fun g' hg' hs => by
          rcases hg' with e | e | e
          · subst e; exact hs.elim e3 o7
          · rcases hs with h | h
            · subst h; exact own_ne_at HO.out.tab.2.1 e HO.out.col.1 (by decide)
            · rw [HC'.out] at e; exact HS.out.vcB g' e h
          · rcases hs with h | h
            · subst h; exact own_ne_at HO.out.tab.2.2 e HO.out.col.1 (by decide)
            · rw [HF'.out] at e; exact HS.out.vfB g' e h), HO.out.row.keep (hk5.mono (fun g' _ h => Or.inr (Or.inr h))),
          HO.out.keep.trans (hk5.mono (fun g' _ h => Or.inr (Or.inr (h.elim Or.inl (fun h => Or.inr ⟨W0p, h⟩)))))⟩
      clear hcol hkeep hk5 HP hka d0 d1 d6 l0 l1 l6
      go_wp2_with fail
      go_roundw
      case rel => exact ⟨k + 1, _, by omega, by go_num, HOn⟩
      case measure => simp [intOf] <;> omega
    · obtain rfl : k = r.length := by omega
      have hcol := HO.out.col
      rw [List.take_of_length_le (Nat.le_refl _), HBK.out] at hcol
      have c7 : wr.cell? ⟨Wb, 7, none⟩ = some (.int .i64 j) := cell_at HO.out.wk 7
      have f7 := frozen_at HO.out.wk 7
      have hlwr := lt_of_at HO.out.wk
      obtain ⟨j1, hj1⟩ : ∃ j1, j + 1 = j1 := ⟨_, rfl⟩
      have ej : IntKind.i64.wrap ((j : Int) + 1) = (j1 : Int) := by rw [IntKind.wrap_i64]; omega
      have hcol' : Col wr C vc ((a.length + 63) / 64) B (Xc a (b.drop j1)) t2 := by rw [← hj1]; exact hcol
      have htab' : TabW wr Tt vct' vft' (rws a ((a.length + 63) / 64) (b.drop j1)).reverse := by rw [← hj1]; exact HO.out.tab
      have wk2 := set_at HO.out.wk 7 (.int .i64 (j1 : Int))
      have hk2 : Keep (fun g => g = Wb) wr (wr.setCell ⟨Wb, 7, none⟩ (.int .i64 (j1 : Int))) := (Keep.refl (fun g => g = Wb) wr).setCell (p := ⟨Wb, 7, none⟩) (Or.inl rfl) _
      have HWS : Hid (Ws w0 a b Wb (.slice aob b.length cb) Mb wd Kt Tt C B vc j1 vct' vft' t2 (wr.setCell ⟨Wb, 7, none⟩ (.int .i64 (j1 : Int)))) := Lib.hid
        ⟨wk2, hcol'.keep hk2 (fun e => e1 e.symm) (fun e => o6 e.symm), by
          exact htab'.keep hk2 (fun g' hg' hs => by
            subst hs
            rcases hg' with e | e | e
            · exact e5 e
            · exact own_ne_at HO.out.tab.2.1 e HO.out.wk (by decide)
            · exact own_ne_at HO.out.tab.2.2 e HO.out.wk (by decide)),
          HS.out.bel.trans ((HO.out.keep.trans (hk2.mono (fun g' _ h => Or.inl h))).below (fun g' hg' => by
            rcases hg' with h | h | h | ⟨_, h⟩ <;> omega) HS.out.bel.size), ⟨o1, o2, o3, o4, o5, o6, o7⟩, fun g' hg' => HS.out.vcB g' (by rw [← HC'.out]; exact hg'), fun g' hg' => HS.out.vfB g' (by rw [← HF'.out]; exact hg')⟩
      have HKE : Hid (Keep (Son Wb Tt C B ((a.length + 63) / 64)) w (wr.setCell ⟨Wb, 7, none⟩ (.int .i64 (j1 : Int)))) := Lib.hid (HO.out.keep.trans (hk2.mono (fun g' _ h => Or.inl h)))
      have HJ1 := Lib.hid hj1
      have hj1b : j1 ≤ b.length := by omega
      have hj1p : 0 < j1 := by omega
      clear hcol hcol' htab' wk2 hk2 HO hj1 HC' HF' HIN HBK HW0 HS
      go_upto_region 6 with fail
      generalize wr.setCell ⟨Wb, 7, none⟩ (.int .i64 (j1 : Int)) = w5 at *
      have d0 : w5.cell? ⟨Wb, 0, none⟩ = some (.slice aob b.length cb) := cell_at HWS.out.wk 0
      have d3 : w5.cell? ⟨Wb, 3, none⟩ = some (.int .i64 wd) := cell_at HWS.out.wk 3
      have d7 : w5.cell? ⟨Wb, 7, none⟩ = some (.int .i64 j1) := cell_at HWS.out.wk 7
      obtain ⟨m, hm⟩ : ∃ m, j1 % wd = m := ⟨_, rfl⟩
      have em : (j1 : Int) % (wd : Int) = (m : Int) := by rw [← hm]; exact (Int.natCast_emod _ _).symm
      have etm : (j1 : Int).tmod (wd : Int) = (m : Int) := by rw [Int.tmod_eq_emod_of_nonneg (by omega)]; exact em
      have hwdn : ((wd : Int) == 0) = false := by rw [beq_eq_false_iff_ne]; omega
      have hm64 : m ≤ 100000 := by rw [← hm]; exact Nat.le_trans (Nat.mod_le _ _) (by omega)
      have ewm : IntKind.i64.wrap (m : Int) = (m : Int) := by rw [IntKind.wrap_i64]; omega
      by_cases hm0 : m = 0
      · have e0 : ((m : Int) == 0) = true := by rw [beq_iff_eq]; omega
        have hge : wd ≤ j1 := by
          rcases Nat.lt_or_ge j1 wd with h | h
          · rw [Nat.mod_eq_of_lt h] at hm; omega
          · exact h
        have d : decide ((j1 : Int) < (b.length : Int)) = false := decide_eq_false (by omega)
        have d' : decide (j1 < b.length) = false := decide_eq_false (by omega)
        clear hm hm0
        go_wp2_with fail
        go_quiet (fail)
        go_wp2_with fail
        go_end0
        exact ⟨⟨_, rfl⟩, ⟨_, _, _, by rw [HJ1.out]; exact ⟨HWS.out.wk, HWS.out.col, HWS.out.tab, below_drewN HWS.out.bel _, HWS.out.ord, HWS.out.vcB, HWS.out.vfB⟩⟩, HKE.out.drewN _⟩
      · have e0 : ((m : Int) == 0) = false := by rw [beq_eq_false_iff_ne]; omega
        clear hm hm0
        go_wp2_with fail
        go_quiet (fail)
        go_wp2_with fail
        go_end0
        exact ⟨⟨_, rfl⟩, ⟨_, _, _, by rw [HJ1.out]; exact ⟨HWS.out.wk, HWS.out.col, HWS.out.tab, below_drewN HWS.out.bel _, HWS.out.ord, HWS.out.vcB, HWS.out.vfB⟩⟩, HKE.out.drewN _⟩
end Go.Proofs.Ytbfclmhcoelplaa.Lp
