import Derived.Test.YthpnbialpkkpgaaGreatDoorWrSmall
import Derived.Test.YthpnbialpkkpgaaGreatDoorBtParts
import Derived.Test.YthpnbialpkkpgaaGreatDoorPkAG
namespace Go.Proofs.YthpnbialpkkpgaaGreatDoor.Wr
open Go.RowKit
open Go.Proofs.YthpnbialpkkpgaaGreatDoor.Tk (S S_list S_size S_toList Rd)
open Go.Proofs.YthpnbialpkkpgaaGreatDoor.Sp (ret_bool OkAns)
open Go.Proofs.YthpnbialpkkpgaaGreatDoor.Bt (TrB fitAll ttAll ttOne rgB oneB rrightB_any fit47 sliceB one_rg)
open Go.Proofs.YthpnbialpkkpgaaGreatDoor.Bk (Bk Tx wl kindOf)
open Go.Proofs.YthpnbialpkkpgaaGreatDoor.Kd (E0 told11 NumK)
set_option linter.unusedVariables false
theorem kind_in {x : Bk} (h : oneB false x = true) : (x.kind = 1 ∧ kdN x.kind = 8) ∨ (x.kind = 2 ∧ kdN x.kind = 2) ∨ (x.kind = 3 ∧ kdN x.kind = 3) ∨ (x.kind = 4 ∧ kdN x.kind = 4) ∨ (x.kind = 5 ∧ kdN x.kind = 5) ∨ (x.kind = 6 ∧ kdN x.kind = 6) ∨ (x.kind = 8 ∧ kdN x.kind = 7) := by
  have h1 := ok1_of false x h
  obtain ⟨k, lv, i, ls, ss, l⟩ := x
  rw [Bk.ok1] at h1
  rcases h1 with ⟨hf, _⟩ | ⟨_, h1⟩
  · cases hf
  · rcases h1 with ⟨rfl, _⟩ | ⟨rfl, _⟩ | ⟨rfl, _⟩ | ⟨rfl, _⟩ | ⟨rfl, _⟩ | ⟨rfl, _⟩ | ⟨rfl, _⟩
    · exact Or.inl ⟨rfl, rfl⟩
    · exact Or.inr (Or.inl ⟨rfl, rfl⟩)
    · exact Or.inr (Or.inr (Or.inl ⟨rfl, rfl⟩))
    · exact Or.inr (Or.inr (Or.inr (Or.inl ⟨rfl, rfl⟩)))
    · exact Or.inr (Or.inr (Or.inr (Or.inr (Or.inl ⟨rfl, rfl⟩))))
    · exact Or.inr (Or.inr (Or.inr (Or.inr (Or.inr (Or.inl ⟨rfl, rfl⟩)))))
    · exact Or.inr (Or.inr (Or.inr (Or.inr (Or.inr (Or.inr ⟨rfl, rfl⟩)))))
theorem fitAll_one {R : Nat} {l : List Bk} {x : Bk} (h : fitAll R l) (hx : x ∈ l) : fitAll R [x] := by
  unfold fitAll
  exact ⟨Bt.fitAll_at h x hx, by unfold fitAll; trivial⟩
theorem tt_one {l : List Bk} {x : Bk} (hx : x ∈ l) : ttAll [x] ≤ ttAll l := by
  have := Bt.ttAll_mem hx
  rw [Bt.ttAll_cons, Bt.ttAll]
  omega
theorem lines_one {l : List Bk} (hr : rgB l = true) (hf : fitAll 1048576 l) (ht : ttAll l ≤ 20000) {x : Bk} (hx : x ∈ l) (v : Value) (w : World) (hv : TrB w v [x]) : Calls Tryz.prog 13 #[v] w fun e w' => ∃ u, e = .returned (.tuple #[u, .int .i64 0]) ∧ (∃ B, w.heap.size ≤ B ∧ Pa.OutS B w' u (Bk.one x)) ∧ Below w.heap.size w w' := by
  have h1 := one_rg hr hx
  have h := linesW_any v [x] w hv (fitAll_one hf hx) (Nat.le_trans (tt_one hx) ht)
  unfold WrLns wrE wrL at h
  rw [if_pos h1, if_pos h1, Bk.wl_one] at h
  exact h
set_option maxHeartbeats 6400000 in
set_option maxRecDepth 100000 in
theorem writeKinds_walk (w : World) (va : Value) (a : List Bk) (ra : TrB w va a) (fa : fitAll reachBytes a) (ta : ttAll a ≤ 1048576) :
    Calls Tryz.prog 10 #[va] w (OkAns w true) := by
  obtain ⟨aa, ca, rfl⟩ := ra.len
  have HA := Lib.hid awake13_any
  have FA := Lib.hid (fun w' (h : Below w.heap.size w w') => small_any a _ w' (ra.below h) fa)
  have fs := Bt.fitAll_tt a fa ta
  cases hs : smallB a with
  | false =>
    rw [hs] at FA
    clear ra fs fa ta hs
    go_enter Tryz.func10, Tryz.ntmps10
    go_wp2_with fail
    refine (HA.out _).mono ?_
    rintro e w2 ⟨rfl, b2⟩
    have H2 := Lib.hid b2
    clear b2
    go_wp2_with fail
    refine (FA.out _ H2.out).mono ?_
    rintro e w3 ⟨rfl, b3⟩
    have H3 := Lib.hid (H2.out.trans (b3.mono H2.out.size))
    clear FA b3
    go_wp2_with fail
    refine (HA.out _).mono ?_
    rintro e w4 ⟨rfl, b4⟩
    have H4 := Lib.hid (H3.out.trans (b4.mono H3.out.size))
    clear b4
    go_wp2_with fail
    go_ret
    exact ⟨rfl, H4.out⟩
  | true =>
    rw [hs] at FA
    have htt := small_tt hs ta
    have HR := Lib.hid (fun w' (h : Below w.heap.size w w') => rrightB_any a _ w' (fit47 fa) (by omega) (ra.below h))
    cases hr : rgB a with
    | false =>
      rw [hr] at HR
      clear ra fs fa ta hs htt hr
      go_enter Tryz.func10, Tryz.ntmps10
      go_wp2_with fail
      refine (HA.out _).mono ?_
      rintro e w2 ⟨rfl, b2⟩
      have H2 := Lib.hid b2
      clear b2
      go_wp2_with fail
      refine (FA.out _ H2.out).mono ?_
      rintro e w3 ⟨rfl, b3⟩
      have H3 := Lib.hid (H2.out.trans (b3.mono H2.out.size))
      clear FA b3
      go_wp2_with fail
      refine (HR.out _ H3.out).mono ?_
      rintro e w5 ⟨rfl, b5⟩
      have H5 := Lib.hid (H3.out.trans (b5.mono H3.out.size))
      clear HR b5
      go_wp2_with fail
      refine (HA.out _).mono ?_
      rintro e w4 ⟨rfl, b4⟩
      have H4 := Lib.hid (H5.out.trans (b4.mono H5.out.size))
      clear b4
      go_wp2_with fail
      go_ret
      exact ⟨rfl, H4.out⟩
    | true =>
      rw [hr] at HR
      have RA := Lib.hid (fun w' (h : Below w.heap.size w w') => ra.below h)
      have hlen := ra.short
      have HX : Hid (∀ j (hj : j < a.length), (∀ v w', TrB w' v [a[j]] → Calls Tryz.prog 13 #[v] w' fun e w'' => ∃ u, e = .returned (.tuple #[u, .int .i64 0]) ∧ (∃ B, w'.heap.size ≤ B ∧ Pa.OutS B w'' u (Bk.one a[j])) ∧ Below w'.heap.size w' w'') ∧
          ∃ s r, Bk.one a[j] = s :: r ∧ (∀ w', Calls Tryz.prog 25 #[.string (S s)] w' (NumK w' (kdN a[j].kind))) ∧
            ((a[j].kind = 1 ∧ kdN a[j].kind = 8) ∨ (a[j].kind = 2 ∧ kdN a[j].kind = 2) ∨ (a[j].kind = 3 ∧ kdN a[j].kind = 3) ∨ (a[j].kind = 4 ∧ kdN a[j].kind = 4) ∨ (a[j].kind = 5 ∧ kdN a[j].kind = 5) ∨ (a[j].kind = 6 ∧ kdN a[j].kind = 6) ∨ (a[j].kind = 8 ∧ kdN a[j].kind = 7))) := Lib.hid (fun j hj => by
        have hx := List.getElem_mem hj
        have h1 := all_mem (Bt.rg_parts hr).1 _ hx
        refine ⟨fun v w' hv => lines_one hr fs (by omega) hx v w' hv, ?_⟩
        obtain ⟨s, r, e, hk, _⟩ := first_kind _ (ok1_of false _ h1)
        have hz := one_sz false a[j] _ h1 (Nat.le_refl _)
        have hd := Bt.d1N_tt a[j]
        have ht := Bt.ttAll_mem hx
        have h3 : (12 + 6 * Bt.d1N a[j]) * ttOne a[j] ≤ 4300 * 700 := Nat.mul_le_mul (by omega) (by omega)
        have hrg := Bt.one_rg hr hx
        have hsz := rg_sz hrg (by have := tt_one hx; omega)
        have htt1 := tt_one hx
        have hs : s.length ≤ 260000 := by
          have h4 := Pa.tot_mem (wl [a[j]]) s (by rw [Bk.wl_one, e]; exact List.mem_cons_self ..)
          omega
        refine ⟨s, r, e, fun w' => ?_, kind_in h1⟩
        have h5 := told11.of (S s) w' (by rw [S_size]; exact hs)
        rw [S_list, hk] at h5
        exact h5)
      unfold NumK at HX
      clear ra fs fa ta hs htt hr
      go_enter Tryz.func10, Tryz.ntmps10
      go_wp2_with fail
      refine (HA.out _).mono ?_
      rintro e w2 ⟨rfl, b2⟩
      have H2 := Lib.hid b2
      clear b2
      go_wp2_with fail
      refine (FA.out _ H2.out).mono ?_
      rintro e w3 ⟨rfl, b3⟩
      have H3 := Lib.hid (H2.out.trans (b3.mono H2.out.size))
      clear FA b3
      go_wp2_with fail
      refine (HR.out _ H3.out).mono ?_
      rintro e w5 ⟨rfl, b5⟩
      have H5 := Lib.hid (H3.out.trans (b5.mono H3.out.size))
      clear HR b5 HA
      go_wp2_with fail
      go_loopw [22] (fun iv wr => ∃ j : Nat, j ≤ a.length ∧ iv = .int .i64 j ∧ Hid (Below w.heap.size w wr)) (fun iv _ => a.length - (intOf iv).toNat)
      case atStart => exact ⟨0, Nat.zero_le _, rfl, H5⟩
      case round =>
        clear H5
        obtain ⟨j, hj, rfl, HB⟩ := hrel
        by_cases hlt : j < a.length
        · have hi1 : (j : Int) < (a.length : Int) := by omega
          have hT := RA.out wr HB.out
          obtain ⟨bk, ok, vl, vs, ak, ck, rfl, hbk, hC⟩ := hT.at j hlt
          obtain ⟨hS, hcap⟩ := sliceB hT j hlt
          have hs1 : (j : Int) + 1 ≤ (ca : Int) := by omega
          have hs2 : IntKind.i64.wrap ((j : Int) + 1) = (j : Int) + 1 := by rw [IntKind.wrap_i64]; omega
          have hkc : j < ca := by omega
          obtain ⟨hLn, s, r, hone, hOf, hq⟩ := HX.out j hlt
          have HLn := Lib.hid (hLn _ wr hS)
          have HOf := Lib.hid hOf
          have HQ := Lib.hid hq
          have c0 := hC.kind
          rw [hone] at HLn
          have HK : Hid (∀ w', Below wr.heap.size wr w' → w'.cell? ⟨bk, ok + j * 6, none⟩ = some (.int .i64 a[j].kind)) := Lib.hid (fun w' h => (h.cell (p := ⟨bk, ok + j * 6, none⟩) hbk).trans c0)
          clear hT hS hC c0 hLn hOf hq HX hone
          generalize kdN a[j].kind = kn at *
          generalize a[j].kind = q at *
          go_wp2_with fail
          refine HLn.out.mono ?_
          rintro e w7 ⟨u, rfl, ⟨B0, _, ho⟩, b7⟩
          have hu := Pa.OutS.rd ho
          clear ho
          have H7 := Lib.hid (HB.out.trans (b7.mono HB.out.size))
          obtain ⟨ao, co, hv⟩ := hu.len
          subst hv
          obtain ⟨b1, o1, rfl, c1⟩ := Bt.Rd.at hu 0 (by simp)
          rw [Nat.add_zero, List.getElem_cons_zero] at c1
          have c0 := HK.out w7 b7
          obtain ⟨N, hN⟩ : ∃ N, (s :: r).length = N := ⟨_, rfl⟩
          have hN0 : 0 < N := by rw [← hN]; simp
          have hNi : (0 : Int) < (N : Int) := by omega
          have eN : ((N : Int) == 0) = false := by rw [beq_eq_false_iff_ne]; omega
          rw [hN]
          clear hN hu b7 HLn HK
          generalize S s = ss at *
          rcases HQ.out with ⟨rfl, rfl⟩ | ⟨rfl, rfl⟩ | ⟨rfl, rfl⟩ | ⟨rfl, rfl⟩ | ⟨rfl, rfl⟩ | ⟨rfl, rfl⟩ | ⟨rfl, rfl⟩
          all_goals
            clear HQ
            go_wp2_with fail
            refine (HOf.out _).mono ?_
            rintro e w8 ⟨rfl, b8⟩
            have H8 := Lib.hid (H7.out.trans (b8.mono H7.out.size))
            clear b8 HOf
            go_wp2_with fail
            go_roundw
            case rel => exact ⟨j + 1, by omega, by go_num, H8⟩
            case measure => simp [intOf] <;> omega
        · have hi1 : ¬ (j : Int) < (a.length : Int) := by omega
          clear hlt HX
          go_wp2_with fail
          go_ret
          exact ⟨rfl, HB.out⟩
end Go.Proofs.YthpnbialpkkpgaaGreatDoor.Wr
