/-
  THE WALK of WeaveFar, on what is asked of the program's Chunks, Clean, Merge.
-/
import Derived.Test.YtbfclmhcoelplaaWvAwake
import Derived.Test.YtbfclmhcoelplaaWvPut
import Derived.Test.YtbfclmhcoelplaaCmFour
import Derived.Test.YtbfclmhcoelplaaCmBytes
namespace Go.Proofs.Ytbfclmhcoelplaa.Wv
open Go.RowKit Go.Proofs.Ytbfclmhcoelplaa.Cm Go.Proofs.Ytbfclmhcoelplaa.Lc
set_option linter.unusedVariables false

theorem bytes_at {w : World} {ao : Option Addr} {n c : Nat} {xs : List Int} (h : RdB w (.slice ao n c) xs) : n = xs.length ∧ ∀ i (hi : i < xs.length), ∃ b o, ao = some ⟨b, o, none⟩ ∧ b < w.heap.size ∧ w.cell? ⟨b, o + i, none⟩ = some (.int .u8 xs[i]) ∧ 0 ≤ xs[i] ∧ xs[i] ≤ 255 := by
  obtain ⟨ao', c', hv, hm, hr, hx⟩ := h
  simp only [Value.slice.injEq] at hv
  obtain ⟨rfl, rfl, rfl⟩ := hv
  refine ⟨rfl, fun i hi => ?_⟩
  rcases hx with hx | ⟨b, o, rfl, hlt, hcell⟩
  · rw [hx] at hi; exact absurd hi (Nat.not_lt_zero _)
  · exact ⟨b, o, rfl, hlt, hcell i _ (geti hi), hr _ (List.getElem_mem hi)⟩
theorem new_a (w : World) (o1 o2 : Obj) : ((w.alloc o1).alloc o2).drew.heap[w.heap.size]? = some o1 := alloc_at (alloc_new w o1) o2
theorem new_b (w : World) (o1 o2 : Obj) : ((w.alloc o1).alloc o2).drew.heap[w.heap.size + 1]? = some o2 := by
  have := alloc_new (w.alloc o1) o2
  rwa [World.size_alloc] at this
theorem four_out {w0 w : World} {v1 v2 v3 v4 : Value} {l1 l2 l3 l4 : List Int} (h : Four w0 w v1 v2 v3 v4 l1 l2 l3 l4) : Rz w v1 l1 ∧ Rz w v2 l2 ∧ Rz w v3 l3 ∧ Rz w v4 l4 := ⟨Rz.of_own h.o1, Rz.of_own h.o2, Rz.of_own h.o3, Rz.of_own h.o4⟩

set_option maxHeartbeats 6400000 in
set_option maxRecDepth 100000 in
theorem weaveFar_walk (K : Told) (w : World) (a0 a1 a2 : UInt8) (a3 : Value) (x3 : List Int) (w3 : RdB w a3 x3) (a4 : Value) (x4 : List Int) (w4 : RdB w a4 x4) :
    Calls Try.prog 7 #[.int .u8 a0.toNat, .int .u8 a1.toNat, .int .u8 a2.toNat, a3, a4] w fun e w' => e = .returned (.bool true) ∧ Below w.heap.size w w' := by
  obtain ⟨ao3, c3, hv3⟩ : ∃ ao c, a3 = .slice ao x3.length c := by obtain ⟨ao, c, hv, _⟩ := w3; exact ⟨ao, c, hv⟩
  obtain ⟨ao4, c4, hv4⟩ : ∃ ao c, a4 = .slice ao x4.length c := by obtain ⟨ao, c, hv, _⟩ := w4; exact ⟨ao, c, hv⟩
  subst hv3
  subst hv4
  have F3 := Lib.hid (bytes_at w3).2
  have F4 := Lib.hid (bytes_at w4).2
  clear w3 w4
  have m0 := a0.toNat_lt
  have m1 := a1.toNat_lt
  have m2 := a2.toNat_lt
  generalize a0.toNat = n0 at *
  generalize a1.toNat = n1 at *
  generalize a2.toNat = n2 at *
  by_cases l3 : x3.length ≤ 9
  case neg =>
    have d3 : decide ((9 : Int) < (x3.length : Int)) = true := decide_eq_true (by omega)
    have e3 : decide (9 < x3.length) = true := decide_eq_true (by omega)
    go_enter Try.func7, Try.ntmps7
    go_wp2_with fail
    refine (awake5_any K _).mono ?_
    rintro e w1 ⟨rfl, hb⟩
    go_wp2_with fail
    refine (awake5_any K _).mono ?_
    rintro e w2 ⟨rfl, hb2⟩
    go_wp2_with fail
    go_ret
    exact ⟨rfl, hb.trans (hb2.mono hb.size)⟩
  have d3 : decide ((9 : Int) < (x3.length : Int)) = false := decide_eq_false (by omega)
  have e3 : decide (9 < x3.length) = false := decide_eq_false (by omega)
  by_cases l4 : x4.length ≤ 9
  case neg =>
    have d4 : decide ((9 : Int) < (x4.length : Int)) = true := decide_eq_true (by omega)
    have e4 : decide (9 < x4.length) = true := decide_eq_true (by omega)
    go_enter Try.func7, Try.ntmps7
    go_wp2_with fail
    refine (awake5_any K _).mono ?_
    rintro e w1 ⟨rfl, hb⟩
    go_wp2_with fail
    refine (awake5_any K _).mono ?_
    rintro e w2 ⟨rfl, hb2⟩
    go_wp2_with fail
    go_ret
    exact ⟨rfl, hb.trans (hb2.mono hb.size)⟩
  have d4 : decide ((9 : Int) < (x4.length : Int)) = false := decide_eq_false (by omega)
  have e4 : decide (9 < x4.length) = false := decide_eq_false (by omega)
  obtain ⟨r, hr⟩ : ∃ r, n0 % 30 = r := ⟨_, rfl⟩
  obtain ⟨n, hn⟩ : ∃ n, 3 + r = n := ⟨_, rfl⟩
  have hr30 : r < 30 := by omega
  obtain ⟨x, hx⟩ : ∃ x, n1 % n = x := ⟨_, rfl⟩
  obtain ⟨y, hy⟩ : ∃ y, n2 % n = y := ⟨_, rfl⟩
  have hxn : x < n := by rw [← hx]; exact Nat.mod_lt _ (by omega)
  have hyn : y < n := by rw [← hy]; exact Nat.mod_lt _ (by omega)
  have t1 : (n0 : Int).tmod 30 = (r : Int) := by rw [Int.tmod_eq_emod_of_nonneg (by omega)]; omega
  have t2 : (n0 : Int) % 30 = (r : Int) := by omega
  have t3 : IntKind.i64.wrap ((3 : Int) + (r : Int)) = (n : Int) := by rw [IntKind.wrap_i64]; omega
  have t4 : (3 : Int) + (r : Int) = (n : Int) := by omega
  have u1 : (n1 : Int) % (n : Int) = (x : Int) := by rw [← hx]; rfl
  have u2 : (n2 : Int) % (n : Int) = (y : Int) := by rw [← hy]; rfl
  have u3 : (n1 : Int).tmod (n : Int) = (x : Int) := by rw [Int.tmod_eq_emod_of_nonneg (by omega)]; exact u1
  have u4 : (n2 : Int).tmod (n : Int) = (y : Int) := by rw [Int.tmod_eq_emod_of_nonneg (by omega)]; exact u2
  have z1 : ((n : Int) == 0) = false := by rw [beq_eq_false_iff_ne]; omega
  have z2 : IntKind.i64.wrap ((y : Int) - 2) = (y : Int) - 2 := by rw [IntKind.wrap_i64]; omega
  have z3 : IntKind.i64.wrap (n : Int) = (n : Int) := by rw [IntKind.wrap_i64]; omega
  have z4 : IntKind.i64.wrap (x : Int) = (x : Int) := by rw [IntKind.wrap_i64]; omega
  have z5 : IntKind.i64.wrap (y : Int) = (y : Int) := by rw [IntKind.wrap_i64]; omega
  have z6 : IntKind.i64.wrap (r : Int) = (r : Int) := by rw [IntKind.wrap_i64]; omega
  have hn33 : n ≤ 33 := by omega
  have hn3 : 3 ≤ n := by omega
  clear hr hn hx hy
  go_enter Try.func7, Try.ntmps7
  go_wp2_with fail
  refine (awake5_any K _).mono ?_
  rintro e w1 ⟨rfl, hb⟩
  have B1 := Lib.hid hb
  clear hb
  go_upto_region 4 with fail
  go_quiet (fail)
  have B2 := Lib.hid (below_drewN B1.out nq)
  generalize w1.drewN nq = w2 at *
  by_cases hfar : x + 2 ≤ y
  case neg =>
    have f1 : decide ((y : Int) - 2 < (x : Int)) = true := decide_eq_true (by omega)
    go_wp2_with fail
    go_ret
    exact ⟨rfl, B2.out⟩
  have f1 : decide ((y : Int) - 2 < (x : Int)) = false := decide_eq_false (by omega)
  go_wp2_with fail
  obtain ⟨U, hU⟩ : ∃ U, x3.map (fun v => 1000 + v) = U := ⟨_, rfl⟩
  obtain ⟨V, hV⟩ : ∃ V, x4.map (fun v => 2000 + v) = V := ⟨_, rfl⟩
  have lU : U.length = x3.length := by rw [← hU, List.length_map]
  have lV : V.length = x4.length := by rw [← hV, List.length_map]
  have HU : Hid (∀ k (hk : k < x3.length), U.take (k + 1) = U.take k ++ [1000 + x3[k]]) := Lib.hid (fun k hk => by rw [← hU, ← List.map_take, ← List.map_take, List.take_add_one, geti hk, List.map_append]; rfl)
  have HV : Hid (∀ k (hk : k < x4.length), V.take (k + 1) = V.take k ++ [2000 + x4[k]]) := Lib.hid (fun k hk => by rw [← hV, ← List.map_take, ← List.map_take, List.take_add_one, geti hk, List.map_append]; rfl)
  have HUn : Hid (∀ u ∈ U, (n : Int) ≤ u) := Lib.hid (fun u hu => by
    rw [← hU] at hu
    obtain ⟨v, hv, rfl⟩ := List.mem_map.1 hu
    obtain ⟨i, hi, rfl⟩ := List.mem_iff_getElem.1 hv
    obtain ⟨_, _, _, _, _, h0, _⟩ := F3.out i hi
    omega)
  have HVn : Hid (∀ u ∈ V, (n : Int) ≤ u) := Lib.hid (fun u hu => by
    rw [← hV] at hu
    obtain ⟨v, hv, rfl⟩ := List.mem_map.1 hu
    obtain ⟨i, hi, rfl⟩ := List.mem_iff_getElem.1 hv
    obtain ⟨_, _, _, _, _, h0, _⟩ := F4.out i hi
    omega)
  clear hU hV
  go_loopw [14, 15, 16, 17, 53] (fun s14 s15 s16 s17 s wr => ∃ i : Nat, i ≤ n ∧ s = .int .i64 i ∧ Hid (Four w2 wr s14 s15 s16 s17 (base i) (put x U i) (put y V i) (both x y U V i)) ∧ Hid ((both x y U V i).length ≤ 10 * i)) (fun _ _ _ _ s _ => n - (intOf s).toNat)
  case atStart => exact ⟨0, Nat.zero_le _, rfl, Lib.hid (Four.start _), Lib.hid (Nat.zero_le _)⟩
  case round =>
    obtain ⟨i, hin, rfl, HQ, HBL⟩ := hrel
    by_cases hlt : i < n
    · have pl1 := put_len x U i
      have pl2 := put_len y V i
      have pl3 := put_len x U (i + 1)
      have pl4 := put_len y V (i + 1)
      have bl := base_len i
      have hbl := HBL.out
      obtain ⟨v1, wA, q1, H1, _⟩ := (HQ.out.alloc (.cells #[.int .i64 (i : Int)] 3)).push (Four.news (alloc_new wr (.cells #[.int .i64 (i : Int)] 3))) (by omega)
      rw [← base_succ] at H1
      have HQ1 := Lib.hid H1
      have bl1 := base_len (i + 1)
      obtain ⟨ao1, cp1, hv1⟩ := own_len HQ1.out.o1
      rw [bl1] at hv1
      subst hv1
      clear H1 HQ
      go_upto_if 62 with (at_builtin; refine Lib.wpList_append_run _ rfl (.tmp 56) (.tmp 58) _ _ rfl _ _ rfl rfl _ _ (q1 _) ?_)
      clear q1
      go_cut [15, 17, 19, 53] from 54 to 134 (fun s15 s17 s19 s53 wx => s53 = .int .i64 i ∧ Hid (Four w2 wx (.slice ao1 (i + 1) cp1) s15 u16 s17 (base (i + 1)) (put x U (i + 1)) (put y V i) (both x y U V i ++ (if i = x then U else []))))
      case first =>
        by_cases hix : i = x
        · have g0 : ((i : Int) == (x : Int)) = true := by rw [beq_iff_eq]; omega
          have HP : Hid (put x U (i + 1) = put x U i ++ U ∧ (if i = x then U else []) = U) := Lib.hid ⟨by rw [put_succ, if_pos hix], by rw [if_pos hix]⟩
          clear hix
          rw [g0]
          go_wp2_with fail
          go_loopw [15, 17, 65] (fun sa s17 sc wy => ∃ k : Nat, k ≤ x3.length ∧ sc = .int .i64 k ∧ Hid (Four w2 wy (.slice ao1 (i + 1) cp1) sa u16 s17 (base (i + 1)) (put x U i ++ U.take k) (put y V i) (both x y U V i ++ U.take k))) (fun _ _ sc _ => x3.length - (intOf sc).toNat)
          case atStart => exact ⟨0, Nat.zero_le _, rfl, Lib.hid (by rw [List.take_zero, List.append_nil, List.append_nil]; exact HQ1.out)⟩
          case round =>
            obtain ⟨k, hk, rfl, HY⟩ := hrel
            by_cases hlk : k < x3.length
            · obtain ⟨b3, o3, rfl, hb3, cc3, p1, p2⟩ := F3.out k hlk
              have hB2 := B2.out.trans (HY.out.bel.mono B2.out.size)
              have c3' := (hB2.cell (by exact hb3)).trans cc3
              have hb3' : b3 < wr.heap.size := Nat.lt_of_lt_of_le hb3 hB2.size
              have hk1 : (k : Int) < (x3.length : Int) := by omega
              have ew : IntKind.i64.wrap (1000 + x3[k]) = 1000 + x3[k] := by rw [IntKind.wrap_i64]; omega
              have ew2 : IntKind.i64.wrap (x3[k]) = x3[k] := by rw [IntKind.wrap_i64]; omega
              have HC3 := Lib.hid (fun w' (h : Below w2.heap.size w2 w') => And.intro (((B2.out.trans (h.mono B2.out.size)).cell (by exact hb3)).trans cc3) (Nat.lt_of_lt_of_le hb3 (B2.out.trans (h.mono B2.out.size)).size))
              have HT := Lib.hid (HU.out k hlk)
              clear cc3 hB2
              generalize x3[k] = v at *
              have HL2 : Hid (put x U i ++ U.take (k + 1) = (put x U i ++ U.take k) ++ [1000 + v]) := Lib.hid (by rw [HT.out, List.append_assoc])
              have HL4 : Hid (both x y U V i ++ U.take (k + 1) = (both x y U V i ++ U.take k) ++ [1000 + v]) := Lib.hid (by rw [HT.out, List.append_assoc])
              have hl2 : (put x U i ++ U.take k).length ≤ 1000 := by rw [List.length_append, List.length_take]; omega
              have hl4 : (both x y U V i ++ U.take k).length ≤ 1000 := by rw [List.length_append, List.length_take]; omega
              generalize put x U i ++ U.take k = L2 at *
              generalize both x y U V i ++ U.take k = L4 at *
              go_upto_block 3 with fail
              go_cut [15, 17, 19, 65] from 66 to 86 (fun sa s17 sk sc wx => sc = .int .i64 k ∧ Hid (Four w2 wx (.slice ao1 (i + 1) cp1) sa u16 s17 (base (i + 1)) (L2 ++ [1000 + v]) (put y V i) (L4 ++ [1000 + v])))
              case first =>
                go_upto_region 16 with fail
                go_region_law (first
                  | (refine Four.step2 rfl rfl (.tmp 68) (.tmp 75) rfl rfl rfl (by first | exact HD | exact HD.alloc _ | exact HD.drew | exact (HD.alloc _).drew | exact HY.out.alloc _ | exact (HY.out.alloc _).drew | exact HY.out.drew.alloc _ | exact (HY.out.alloc _).alloc _ | exact ((HY.out.alloc _).alloc _).drew | exact (HY.out.drew.alloc _).alloc _) (by first | exact Four.news (alloc_new _ _) | exact Four.news (alloc_at (alloc_new _ _) _) | exact Four.news (new_a _ _ _) | exact Four.news (new_b _ _ _) | exact Four.news ((kD (wr.heap.size + 1) (by simp) (fun e => by have := (HY.out.o4.lt _ e).2; omega)).trans (new_b wr _ _)) | exact Four.news ((kD wr.heap.size (by simp; omega) (fun e => by have := (HY.out.o4.lt _ e).2; omega)).trans (new_a wr _ _)) | exact Four.news ((kD wr.heap.size (by simp) (fun e => by have := (HY.out.o4.lt _ e).2; omega)).trans (alloc_new wr _))) hl2 ?_
                     intro vA wB HA kA
                     obtain ⟨cA, lA⟩ := HC3.out wB HA.bel)
                  | (refine Four.step4 rfl rfl (.tmp 77) (.tmp 84) rfl rfl rfl (by first | exact HA | exact HA.alloc _ | exact HA.drew | exact (HA.alloc _).drew | exact HY.out.alloc _ | exact (HY.out.alloc _).drew | exact HY.out.drew.alloc _ | exact (HY.out.alloc _).alloc _ | exact ((HY.out.alloc _).alloc _).drew | exact (HY.out.drew.alloc _).alloc _) (by first | exact Four.news (alloc_new _ _) | exact Four.news (alloc_at (alloc_new _ _) _) | exact Four.news (new_a _ _ _) | exact Four.news (new_b _ _ _) | exact Four.news ((kA (wr.heap.size + 1) (by simp) (fun e => by have := (HY.out.o2.lt _ e).2; omega)).trans (new_b wr _ _)) | exact Four.news ((kA wr.heap.size (by simp; omega) (fun e => by have := (HY.out.o2.lt _ e).2; omega)).trans (new_a wr _ _)) | exact Four.news ((kA wr.heap.size (by simp) (fun e => by have := (HY.out.o2.lt _ e).2; omega)).trans (alloc_new wr _))) hl4 ?_
                     intro vD wE HD kD
                     obtain ⟨cD, lD⟩ := HC3.out wE HD.bel))
                all_goals (
                  have HF : Hid (_) := Lib.hid HD
                  clear HA HD kA kD cA lA cD lD
                  go_simp
                  go_wp2_with fail
                  go_meet
                  exact ⟨rfl, HF⟩)
              case rest =>
                obtain ⟨rfl, HF⟩ := hcut
                go_wp2_with fail
                go_roundw
                case rel => exact ⟨k + 1, by omega, by go_num, Lib.hid (by rw [HL2.out, HL4.out]; exact HF.out)⟩
                case measure => simp [intOf] <;> omega
            · obtain rfl : k = x3.length := by omega
              have HF := Lib.hid HY.out
              have HTk : Hid (U.take x3.length = U) := Lib.hid (List.take_of_length_le (by omega))
              clear HY hlk
              go_wp2_with fail
              go_meet
              exact ⟨rfl, Lib.hid (by rw [HP.out.1, HP.out.2]; have := HF.out; rwa [HTk.out] at this)⟩
        · have g0 : ((i : Int) == (x : Int)) = false := by rw [beq_eq_false_iff_ne]; omega
          have HP : Hid (put x U (i + 1) = put x U i ++ [(i : Int)] ∧ (if i = x then U else []) = []) := Lib.hid ⟨by rw [put_succ, if_neg hix], by rw [if_neg hix]⟩
          clear hix
          obtain ⟨v2, wB, q2, H2, _⟩ := (HQ1.out.alloc (.cells #[.int .i64 (i : Int)] 3)).s12.push (Four.news (alloc_new wA (.cells #[.int .i64 (i : Int)] 3))) (by omega)
          have HQ2 := Lib.hid H2.s12
          clear H2
          go_wp2_with (at_builtin; refine Lib.wpList_append_run _ rfl (.tmp 87) (.tmp 89) _ _ rfl _ _ rfl rfl _ _ (q2 _) ?_)
          go_meet
          exact ⟨rfl, Lib.hid (by rw [HP.out.1, HP.out.2, List.append_nil]; exact HQ2.out)⟩
      case rest =>
        obtain ⟨rfl, HQ1⟩ := hcut
        have hbl2 : (both x y U V i ++ (if i = x then U else [])).length ≤ 10 * i + 9 := by rw [List.length_append]; split <;> first | omega | (simp; omega)
        have HL4a : Hid (both x y U V (i + 1) = (both x y U V i ++ (if i = x then U else [])) ++ (if i = y then V else []) ++ (if i ≠ x ∧ i ≠ y then [(i : Int)] else [])) := Lib.hid (by
          rw [both_succ]
          by_cases h1 : i = x
          · rw [if_pos h1, if_pos h1, if_neg (by omega), if_neg (by omega)]; simp
          · by_cases h2 : i = y
            · rw [if_neg h1, if_pos h2, if_neg h1, if_pos h2, if_neg (by omega)]; simp
            · rw [if_neg h1, if_neg h2, if_neg h1, if_neg h2, if_pos ⟨h1, h2⟩]; simp)
        have HBL2 : Hid ((both x y U V (i + 1)).length ≤ 10 * (i + 1)) := Lib.hid (by
          rw [both_succ, List.length_append]
          split
          · omega
          · split
            · omega
            · simp; omega)
        generalize both x y U V i ++ (if i = x then U else []) = M4 at *
        go_upto_if 93 with fail
        go_cut [16, 17, 20, 53] from 54 to 134 (fun s16 s17 s20 s53 wx => s53 = .int .i64 i ∧ Hid (Four w2 wx (.slice ao1 (i + 1) cp1) u15 s16 s17 (base (i + 1)) (put x U (i + 1)) (put y V (i + 1)) (M4 ++ (if i = y then V else []))))
        case first =>
          by_cases hiy : i = y
          · have g0 : ((i : Int) == (y : Int)) = true := by rw [beq_iff_eq]; omega
            have HP : Hid (put y V (i + 1) = put y V i ++ V ∧ (if i = y then V else []) = V) := Lib.hid ⟨by rw [put_succ, if_pos hiy], by rw [if_pos hiy]⟩
            clear hiy
            rw [g0]
            go_wp2_with fail
            go_loopw [16, 17, 96] (fun sa s17 sc wy => ∃ k : Nat, k ≤ x4.length ∧ sc = .int .i64 k ∧ Hid (Four w2 wy (.slice ao1 (i + 1) cp1) u15 sa s17 (base (i + 1)) (put x U (i + 1)) (put y V i ++ V.take k) (M4 ++ V.take k))) (fun _ _ sc _ => x4.length - (intOf sc).toNat)
            case atStart => exact ⟨0, Nat.zero_le _, rfl, Lib.hid (by rw [List.take_zero, List.append_nil, List.append_nil]; exact HQ1.out)⟩
            case round =>
              obtain ⟨k, hk, rfl, HY⟩ := hrel
              by_cases hlk : k < x4.length
              · obtain ⟨b3, o3, rfl, hb3, cc3, p1, p2⟩ := F4.out k hlk
                have hB2 := B2.out.trans (HY.out.bel.mono B2.out.size)
                have c3' := (hB2.cell (by exact hb3)).trans cc3
                have hb3' : b3 < wr.heap.size := Nat.lt_of_lt_of_le hb3 hB2.size
                have hk1 : (k : Int) < (x4.length : Int) := by omega
                have ew : IntKind.i64.wrap (2000 + x4[k]) = 2000 + x4[k] := by rw [IntKind.wrap_i64]; omega
                have ew2 : IntKind.i64.wrap (x4[k]) = x4[k] := by rw [IntKind.wrap_i64]; omega
                have HC3 := Lib.hid (fun w' (h : Below w2.heap.size w2 w') => And.intro (((B2.out.trans (h.mono B2.out.size)).cell (by exact hb3)).trans cc3) (Nat.lt_of_lt_of_le hb3 (B2.out.trans (h.mono B2.out.size)).size))
                have HT := Lib.hid (HV.out k hlk)
                clear cc3 hB2
                generalize x4[k] = v at *
                have HL2 : Hid (put y V i ++ V.take (k + 1) = (put y V i ++ V.take k) ++ [2000 + v]) := Lib.hid (by rw [HT.out, List.append_assoc])
                have HL4 : Hid (M4 ++ V.take (k + 1) = (M4 ++ V.take k) ++ [2000 + v]) := Lib.hid (by rw [HT.out, List.append_assoc])
                have hl2 : (put y V i ++ V.take k).length ≤ 1000 := by rw [List.length_append, List.length_take]; omega
                have hl4 : (M4 ++ V.take k).length ≤ 1000 := by rw [List.length_append, List.length_take]; omega
                generalize put y V i ++ V.take k = L2 at *
                generalize M4 ++ V.take k = L4 at *
                go_upto_block 5 with fail
                go_cut [16, 17, 20, 96] from 97 to 117 (fun sa s17 sk sc wx => sc = .int .i64 k ∧ Hid (Four w2 wx (.slice ao1 (i + 1) cp1) u15 sa s17 (base (i + 1)) (put x U (i + 1)) (L2 ++ [2000 + v]) (L4 ++ [2000 + v])))
                case first =>
                  go_upto_region 23 with fail
                  go_region_law (first
                    | (refine Four.step3 rfl rfl (.tmp 99) (.tmp 106) rfl rfl rfl (by first | exact HD | exact HD.alloc _ | exact HD.drew | exact (HD.alloc _).drew | exact HY.out.alloc _ | exact (HY.out.alloc _).drew | exact HY.out.drew.alloc _ | exact (HY.out.alloc _).alloc _ | exact ((HY.out.alloc _).alloc _).drew | exact (HY.out.drew.alloc _).alloc _) (by first | exact Four.news (alloc_new _ _) | exact Four.news (alloc_at (alloc_new _ _) _) | exact Four.news (new_a _ _ _) | exact Four.news (new_b _ _ _) | exact Four.news ((kD (wr.heap.size + 1) (by simp) (fun e => by have := (HY.out.o4.lt _ e).2; omega)).trans (new_b wr _ _)) | exact Four.news ((kD wr.heap.size (by simp; omega) (fun e => by have := (HY.out.o4.lt _ e).2; omega)).trans (new_a wr _ _)) | exact Four.news ((kD wr.heap.size (by simp) (fun e => by have := (HY.out.o4.lt _ e).2; omega)).trans (alloc_new wr _))) hl2 ?_
                       intro vA wB HA kA
                       obtain ⟨cA, lA⟩ := HC3.out wB HA.bel)
                    | (refine Four.step4 rfl rfl (.tmp 108) (.tmp 115) rfl rfl rfl (by first | exact HA | exact HA.alloc _ | exact HA.drew | exact (HA.alloc _).drew | exact HY.out.alloc _ | exact (HY.out.alloc _).drew | exact HY.out.drew.alloc _ | exact (HY.out.alloc _).alloc _ | exact ((HY.out.alloc _).alloc _).drew | exact (HY.out.drew.alloc _).alloc _) (by first | exact Four.news (alloc_new _ _) | exact Four.news (alloc_at (alloc_new _ _) _) | exact Four.news (new_a _ _ _) | exact Four.news (new_b _ _ _) | exact Four.news ((kA (wr.heap.size + 1) (by simp) (fun e => by have := (HY.out.o3.lt _ e).2; omega)).trans (new_b wr _ _)) | exact Four.news ((kA wr.heap.size (by simp; omega) (fun e => by have := (HY.out.o3.lt _ e).2; omega)).trans (new_a wr _ _)) | exact Four.news ((kA wr.heap.size (by simp) (fun e => by have := (HY.out.o3.lt _ e).2; omega)).trans (alloc_new wr _))) hl4 ?_
                       intro vD wE HD kD
                       obtain ⟨cD, lD⟩ := HC3.out wE HD.bel))
                  all_goals (
                    have HF : Hid (_) := Lib.hid HD
                    clear HA HD kA kD cA lA cD lD
                    go_simp
                    go_wp2_with fail
                    go_meet
                    exact ⟨rfl, HF⟩)
                case rest =>
                  obtain ⟨rfl, HF⟩ := hcut
                  go_wp2_with fail
                  go_roundw
                  case rel => exact ⟨k + 1, by omega, by go_num, Lib.hid (by rw [HL2.out, HL4.out]; exact HF.out)⟩
                  case measure => simp [intOf] <;> omega
              · obtain rfl : k = x4.length := by omega
                have HF := Lib.hid HY.out
                have HTk : Hid (V.take x4.length = V) := Lib.hid (List.take_of_length_le (by omega))
                clear HY hlk
                go_wp2_with fail
                go_meet
                exact ⟨rfl, Lib.hid (by rw [HP.out.1, HP.out.2]; have := HF.out; rwa [HTk.out] at this)⟩
          · have g0 : ((i : Int) == (y : Int)) = false := by rw [beq_eq_false_iff_ne]; omega
            have HP : Hid (put y V (i + 1) = put y V i ++ [(i : Int)] ∧ (if i = y then V else []) = []) := Lib.hid ⟨by rw [put_succ, if_neg hiy], by rw [if_neg hiy]⟩
            clear hiy
            obtain ⟨v2, wB, q2, H2, _⟩ := (HQ1.out.alloc (.cells #[.int .i64 (i : Int)] 3)).s13.push (Four.news (alloc_new wc (.cells #[.int .i64 (i : Int)] 3))) (by omega)
            have HQ2 := Lib.hid H2.s13
            clear H2
            go_wp2_with (at_builtin; refine Lib.wpList_append_run _ rfl (.tmp 118) (.tmp 120) _ _ rfl _ _ rfl rfl _ _ (q2 _) ?_)
            go_meet
            exact ⟨rfl, Lib.hid (by rw [HP.out.1, HP.out.2, List.append_nil]; exact HQ2.out)⟩
        case rest =>
          obtain ⟨rfl, HQ3⟩ := hcut
          have hbl3 : (M4 ++ (if i = y then V else [])).length ≤ 1000 := by rw [List.length_append]; split <;> first | omega | (simp; omega)
          by_cases hx1 : i = x
          · have g0 : ((i : Int) != (x : Int)) = false := by simp [hx1]
            have HP : Hid ((if i ≠ x ∧ i ≠ y then [(i : Int)] else []) = []) := Lib.hid (if_neg (by omega))
            clear hx1
            go_wp2_with fail
            go_roundw
            case rel => exact ⟨i + 1, by omega, by go_num, Lib.hid (by rw [HL4a.out, HP.out, List.append_nil]; exact HQ3.out), HBL2⟩
            case measure => simp [intOf] <;> omega
          · by_cases hy1 : i = y
            · have g0 : ((i : Int) != (x : Int)) = true := by rw [bne_iff_ne]; omega
              have g1 : ((i : Int) != (y : Int)) = false := by simp [hy1]
              have HP : Hid ((if i ≠ x ∧ i ≠ y then [(i : Int)] else []) = []) := Lib.hid (if_neg (by omega))
              clear hx1 hy1
              go_wp2_with fail
              go_roundw
              case rel => exact ⟨i + 1, by omega, by go_num, Lib.hid (by rw [HL4a.out, HP.out, List.append_nil]; exact HQ3.out), HBL2⟩
              case measure => simp [intOf] <;> omega
            · have g0 : ((i : Int) != (x : Int)) = true := by rw [bne_iff_ne]; omega
              have g1 : ((i : Int) != (y : Int)) = true := by rw [bne_iff_ne]; omega
              have HP : Hid ((if i ≠ x ∧ i ≠ y then [(i : Int)] else []) = [(i : Int)]) := Lib.hid (if_pos ⟨hx1, hy1⟩)
              clear hx1 hy1
              obtain ⟨v2, wB, q2, H2, _⟩ := (HQ3.out.alloc (.cells #[.int .i64 (i : Int)] 3)).s14.push (Four.news (alloc_new wc (.cells #[.int .i64 (i : Int)] 3))) hbl3
              have HQ4 := Lib.hid H2.s14
              clear H2
              go_wp2_with (at_builtin; refine Lib.wpList_append_run _ rfl (.tmp 130) (.tmp 132) _ _ rfl _ _ rfl rfl _ _ (q2 _) ?_)
              go_roundw
              case rel => exact ⟨i + 1, by omega, by go_num, Lib.hid (by rw [HL4a.out, HP.out]; exact HQ4.out), HBL2⟩
              case measure => simp [intOf] <;> omega
    · obtain rfl : i = n := by omega
      obtain ⟨r1, r2, r3, r4⟩ := four_out HQ.out
      have pl1 := put_len x U i
      have pl2 := put_len y V i
      have bl := base_len i
      have hbl := HBL.out
      have hm := K.merge _ _ _ (base i) (put x U i) (put y V i) wr r1 r2 r3 (by omega) (by omega) (by omega)
      unfold MergeOk at hm
      rw [far_puts hfar hyn HUn.out HVn.out] at hm
      have HM := Lib.hid hm
      have R4 := Lib.hid r4
      have B3 := Lib.hid (B2.out.trans (HQ.out.bel.mono B2.out.size))
      clear hm r1 r2 r3 r4 HQ F3 F4 HU HV
      go_wp2_with fail
      refine HM.out.mono ?_
      rintro e w5 ⟨v5, rfl, r5, hb⟩
      have B5 := Lib.hid (B3.out.trans (hb.mono B3.out.size))
      have hs := rsame3_any v5 u17 (both x y U V i) (both x y U V i) w5 r5 (R4.out.below hb) (by omega) (by omega)
      rw [decide_eq_true rfl] at hs
      have HS := Lib.hid hs
      clear hs r5 hb HM R4
      go_wp2_with fail
      refine HS.out.mono ?_
      rintro e w6 ⟨rfl, n6, rfl⟩
      have B6 := Lib.hid (below_drewN B5.out n6)
      go_wp2_with fail
      go_ret
      exact ⟨rfl, B6.out⟩

end Go.Proofs.Ytbfclmhcoelplaa.Wv
