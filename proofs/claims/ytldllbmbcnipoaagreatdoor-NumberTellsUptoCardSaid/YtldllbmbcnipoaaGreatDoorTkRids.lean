/-
  CONTRACT of the document's Ids (emendationref03): the numbers of a list's texts, beside another list.
-/
import Derived.Test.YtldllbmbcnipoaaGreatDoorTkRefPut
namespace Go.Proofs.YtldllbmbcnipoaaGreatDoor.Tk
open Go.RowKit
set_option linter.unusedVariables false

theorem newsI1 {wr : World} {x : Int} {t : TypeId} : ∀ (j : Nat) (u : Value), [Value.int .i64 x][j]? = some u → (wr.alloc (.cells #[.int .i64 x] t)).cell? (Addr.add ⟨wr.heap.size, 0, none⟩ j) = some u := by
  intro j u hj
  match j, hj with
  | 0, hj => simp at hj; subst hj; simp [Addr.add]
theorem newsI2 {x : Int} : ∀ u ∈ [Value.int .i64 x], u.oneCell' = true := by
  intro u hu; simp at hu; subst hu; rfl
theorem own_pushI {B : Nat} {w wr w1 : World} {v v' : Value} {o : List Int} {y : Int} {ob : Obj} (hown : wr.ownsRow B 3 1 v o.length (o.map (Value.int .i64))) (hb : Below B w wr) (hB : B ≤ wr.heap.size)
    (hown' : w1.ownsRow B 3 1 v' (o.length + 1) (o.map (Value.int .i64) ++ [.int .i64 y])) (hgrow : (wr.alloc ob).grownBy w1 v.ownBlock) :
    w1.ownsRow B 3 1 v' (o ++ [y]).length ((o ++ [y]).map (Value.int .i64)) ∧ Below B w w1 := by
  refine ⟨?_, (hb.alloc hB ob).grown hgrow (by simp; omega) (fun j hj => (hown.lt j hj).1)⟩
  rw [List.length_append, List.map_append]
  exact hown'
theorem RdI.of_own {w : World} {B : Nat} {v : Value} {xs : List Int} (h : w.ownsRow B 3 1 v xs.length (xs.map (Value.int .i64))) : RdI 0 w v xs := by
  rcases h.2 with ⟨hv, hn⟩ | ⟨g, cap, cur, hv, hB, hg, hn, hm, hsz, ht⟩
  · exact ⟨none, 0, by rw [hv, hn], by omega, Or.inl (List.eq_nil_of_length_eq_zero hn)⟩
  · refine ⟨_, cap, hv, hn, Or.inr ⟨g, rfl, Nat.zero_le _, (Array.getElem?_eq_some_iff.1 hg).1, fun j x hj => ?_⟩⟩
    have hjl := (List.getElem?_eq_some_iff.1 hj).1
    subst hv
    rw [h.cellAt j (by omega), List.getElem?_map, hj]
    rfl
theorem take_snoc {a : List Tx} {k : Nat} (h : k < a.length) : a.take (k + 1) = a.take k ++ [a[k]] := by rw [List.take_add_one, get_lt h]; rfl
theorem puts_take (l a : List Tx) {k : Nat} (h : k < a.length) : puts l (a.take (k + 1)) = put (puts l (a.take k)) a[k] := by rw [take_snoc h, puts_snoc]
theorem puts_len : ∀ (xs l : List Tx), (puts l xs).length ≤ l.length + xs.length
  | [], l => Nat.le_refl _
  | x :: xs, l => by
    have h1 := puts_len xs (put l x)
    have h2 := put_len l x
    show (puts (put l x) xs).length ≤ _
    rw [List.length_cons]
    omega
theorem rk_ids (a b : List Tx) : (a.map fun x => (at_ (puts (puts [] a) b) x : Int)) = rk (a ++ b) a := by
  have h := ids_rank a b
  unfold ids at h
  have h2 := congrArg (List.map fun n : Nat => (n : Int)) h
  rw [List.map_map, List.map_map] at h2
  exact h2

set_option maxHeartbeats 1600000 in
theorem rids_any (va vb : Value) (a b : List Tx) (w : World) (ha : Rd w va a) (hb : Rd w vb b) (hla : a.length ≤ 1000) (hlb : b.length ≤ 1000) :
    Calls Tryz.prog 9 #[va, vb] w fun e w' => ∃ v, e = .returned v ∧ RdI 0 w' v (rk (a ++ b) a) ∧ Below w.heap.size w w' := by
  obtain ⟨i0, hi, hz0, hz1, hz2⟩ := info_parts infoI
  have HEa : Hid (∀ k (hk : k < a.length), ∃ b1 o1 ca, va = .slice (some ⟨b1, o1, none⟩) a.length ca ∧ b1 < w.heap.size ∧ w.cell? ⟨b1, o1 + k, none⟩ = some (.string (S a[k]))) := Lib.hid (fun k hk => by
    obtain ⟨ao, ca, hv, _, hx⟩ := ha
    rcases hx with hx | ⟨b1, o1, rfl, hlt, hcell⟩
    · rw [hx] at hk; exact absurd hk (Nat.not_lt_zero _)
    · exact ⟨b1, o1, ca, hv, hlt, hcell k _ (get_lt hk)⟩)
  have HEb : Hid (∀ k (hk : k < b.length), ∃ b1 o1 ca, vb = .slice (some ⟨b1, o1, none⟩) b.length ca ∧ b1 < w.heap.size ∧ w.cell? ⟨b1, o1 + k, none⟩ = some (.string (S b[k]))) := Lib.hid (fun k hk => by
    obtain ⟨ao, ca, hv, _, hx⟩ := hb
    rcases hx with hx | ⟨b1, o1, rfl, hlt, hcell⟩
    · rw [hx] at hk; exact absurd hk (Nat.not_lt_zero _)
    · exact ⟨b1, o1, ca, hv, hlt, hcell k _ (get_lt hk)⟩)
  obtain ⟨aoa, caa, rfl⟩ := ha.len
  obtain ⟨aob, cab, rfl⟩ := hb.len
  clear ha hb
  have H0 : Hid (Rd w (.slice none 0 0) (puts [] (a.take 0))) := Lib.hid ⟨none, 0, rfl, Nat.le_refl _, Or.inl rfl⟩
  go_enter Tryz.func9, Tryz.ntmps9
  go_wp2_with fail
  go_loopw [5, 12] (fun v i wr => ∃ k : Nat, k ≤ a.length ∧ i = .int .i64 k ∧ Hid (Rd wr v (puts [] (a.take k))) ∧ Hid (Below w.heap.size w wr)) (fun _ i _ => a.length - (intOf i).toNat)
  case atStart => exact ⟨0, Nat.zero_le _, rfl, H0, Lib.hid (Below.refl _ _)⟩
  case round =>
    clear H0
    obtain ⟨k, hk, rfl, HR, HB⟩ := hrel
    by_cases hlt : k < a.length
    · obtain ⟨b1, o1, ca, hv, hbl, hc⟩ := HEa.out k hlt
      simp only [Value.slice.injEq, true_and] at hv
      obtain ⟨rfl, rfl⟩ := hv
      have k1 : wr.cell? ⟨b1, o1 + k, none⟩ = some (.string (S a[k])) := (HB.out.cell (by exact hbl)).trans hc
      have hll := puts_len (a.take k) []
      have hp := rput_any u5 (puts [] (a.take k)) a[k] wr HR.out (by rw [List.length_take] at hll; simp at hll; omega)
      rw [← puts_take [] a hlt] at hp
      have HP := Lib.hid hp
      clear hp hll hc HR
      generalize S a[k] = y at *
      go_wp2_with fail
      refine HP.out.mono ?_
      rintro e w1 ⟨v1, rfl, hrd, hb1⟩
      have R1 := Lib.hid hrd
      have B1 := Lib.hid (HB.out.trans (hb1.mono HB.out.size))
      clear hrd hb1 HP
      go_wp2_with fail
      go_roundw
      case rel => exact ⟨k + 1, by omega, by go_num, R1, B1⟩
      case measure => simp [intOf]; omega
    · have hx : a.take k = a := List.take_of_length_le (by omega)
      rw [hx] at HR
      have HR0 : Hid (Rd wr u5 (puts (puts [] a) (b.take 0))) := Lib.hid HR.out
      obtain rfl : k = a.length := by omega
      clear hlt hx HR
      go_wp2_with fail
      go_loopw [5, 24] (fun v i wr => ∃ k : Nat, k ≤ b.length ∧ i = .int .i64 k ∧ Hid (Rd wr v (puts (puts [] a) (b.take k))) ∧ Hid (Below w.heap.size w wr)) (fun _ i _ => b.length - (intOf i).toNat)
      case atStart => exact ⟨0, Nat.zero_le _, rfl, HR0, HB⟩
      case round =>
        clear HR0 HB
        obtain ⟨k, hk, rfl, HR, HB⟩ := hrel
        have hll := puts_len (b.take k) (puts [] a)
        have hl2 := puts_len a []
        by_cases hlt : k < b.length
        · obtain ⟨b1, o1, ca, hv, hbl, hc⟩ := HEb.out k hlt
          simp only [Value.slice.injEq, true_and] at hv
          obtain ⟨rfl, rfl⟩ := hv
          have k1 : wr.cell? ⟨b1, o1 + k, none⟩ = some (.string (S b[k])) := (HB.out.cell (by exact hbl)).trans hc
          have hp := rput_any u5 (puts (puts [] a) (b.take k)) b[k] wr HR.out (by rw [List.length_take] at hll; simp at hl2; omega)
          rw [← puts_take _ b hlt] at hp
          have HP := Lib.hid hp
          clear hp hll hl2 hc HR
          generalize S b[k] = y at *
          go_wp2_with fail
          refine HP.out.mono ?_
          rintro e w1 ⟨v1, rfl, hrd, hb1⟩
          have R1 := Lib.hid hrd
          have B1 := Lib.hid (HB.out.trans (hb1.mono HB.out.size))
          clear hrd hb1 HP
          go_wp2_with fail
          go_roundw
          case rel => exact ⟨k + 1, by omega, by go_num, R1, B1⟩
          case measure => simp [intOf]; omega
        · have hx : b.take k = b := List.take_of_length_le (by omega)
          rw [hx] at HR hll
          have hal : (puts (puts [] a) b).length ≤ 2000 := by simp at hl2; omega
          obtain rfl : k = b.length := by omega
          have HK := Lib.hid (rk_ids a b)
          clear hlt hx hll hl2
          generalize puts (puts [] a) b = all at *
          generalize hw3 : wr = w3 at *
          clear hw3
          go_wp2_with fail
          go_loopw [8, 36] (fun v i wr => ∃ k : Nat, k ≤ a.length ∧ i = .int .i64 k ∧ wr.ownsRow w3.heap.size 3 1 v ((a.take k).map fun x => (at_ all x : Int)).length (((a.take k).map fun x => (at_ all x : Int)).map (Value.int .i64)) ∧ Hid (Below w3.heap.size w3 wr)) (fun _ i _ => a.length - (intOf i).toNat)
          case atStart => exact ⟨0, Nat.zero_le _, rfl, World.ownsRow_nil _ _ _ _, Lib.hid (Below.refl _ _)⟩
          case round =>
            obtain ⟨k, hk, rfl, hown, HB3⟩ := hrel
            have hB := HB3.out.size
            by_cases hlt : k < a.length
            · obtain ⟨b1, o1, ca, hv, hbl, hc⟩ := HEa.out k hlt
              simp only [Value.slice.injEq, true_and] at hv
              obtain ⟨rfl, rfl⟩ := hv
              have k1 : wr.cell? ⟨b1, o1 + k, none⟩ = some (.string (S a[k])) := ((HB.out.trans (HB3.out.mono HB.out.size)).cell (by exact hbl)).trans hc
              have hp := rat_any u5 all a[k] wr (HR.out.below HB3.out) (by omega)
              have HP := Lib.hid hp
              have hle := at_le all a[k]
              have hlo : ((a.take k).map fun x => (at_ all x : Int)).length = k := by rw [List.length_map, List.length_take]; omega
              have HN : Hid (((a.take (k + 1)).map fun x => (at_ all x : Int)) = ((a.take k).map fun x => (at_ all x : Int)) ++ [(at_ all a[k] : Int)]) := Lib.hid (by rw [take_snoc hlt, List.map_append]; rfl)
              clear hp hc
              generalize ((a.take k).map fun x => (at_ all x : Int)) = os at *
              have HLO := Lib.hid hlo
              clear hlo
              generalize S a[k] = y at *
              generalize at_ all a[k] = q at *
              go_wp2_with fail
              refine HP.out.mono ?_
              rintro e w1 ⟨rfl, rfl⟩
              go_wp2_with (at_builtin; refine wpList_append_own _ rfl _ _ 30 rfl w3.heap.size 3 i0 (.int .i64 0) 1 8 Tryz.underlying30 hi hz0 hz1 hz2 rfl (by decide) _ _ _ rfl (hown.alloc _) ⟨wr.heap.size, 0, none⟩ 1 1 [.int .i64 (q : Int)] rfl rfl newsI1 newsI2 (by unfold maxLen; have := HLO.out; omega) (by have := HLO.out; omega) (by simp; omega) ?_)
              intro v' w4 hown' hgrow _
              have R := own_pushI hown HB3.out hB hown' hgrow
              rw [← HN.out] at R
              have R1 := Lib.hid R.1
              have R2 := Lib.hid R.2
              clear R hown' hgrow hown
              go_wp2_with fail
              go_roundw
              case rel => exact ⟨k + 1, by omega, by go_num, R1.out, R2⟩
              case measure => simp [intOf]; omega
            · have hx : a.take k = a := List.take_of_length_le (by omega)
              rw [hx, HK.out] at hown
              have HI := Lib.hid (RdI.of_own hown)
              have B3 := Lib.hid (HB.out.trans (HB3.out.mono HB.out.size))
              obtain rfl : k = a.length := by omega
              clear hlt hx hown
              go_wp2_with fail
              go_ret
              exact ⟨_, rfl, HI.out, B3.out⟩

end Go.Proofs.YtldllbmbcnipoaaGreatDoor.Tk
