/-
  CONTRACTS of markerOf (what a line is a marker of) and of marks.Size.
-/
import Derived.Test.YtipgofglidmffaaMkRun
import Derived.Test.YtipgofglidmffaaTkPlaces
import Derived.Test.YtipgofglidmffaaTkConcat
namespace Go.Proofs.Ytipgofglidmffaa.Mk
open Go.RowKit Go.Proofs.Ytipgofglidmffaa.Tk
open Go.Proofs.Ytipgofglidmffaa.Ln (run run_yes run_no run_le)
set_option linter.unusedVariables false

theorem run_pos {c : UInt8} {r : Tx} : 0 < run c (c :: r) := by rw [run_yes rfl]; omega
theorem run_hd_no {c d : UInt8} (h : d ≠ c) (r : Tx) : run c (d :: r) = 0 := run_no h r
theorem isMk_hd_no {c d : UInt8} {h : Nat} (hd : d ≠ c) (hh : 0 < h) (r : Tx) : isMk h c (d :: r) = false := by
  unfold isMk
  rw [run_hd_no hd]
  have : ¬ (0 = h) := by omega
  simp [this]
theorem hd_nil : hd [] = -1 := rfl
theorem hd_lit {c : UInt8} (h : c = 60 ∨ c = 124 ∨ c = 61 ∨ c = 62) (r : Tx) : hd (c :: r) ≠ -1 := by
  unfold hd
  rcases h with rfl | rfl | rfl | rfl <;> simp
theorem mark_none {h : Nat} (hh : 0 < h) {s : Tx} (e : hd s = -1) : mark h s = 0 := by
  cases s with
  | nil =>
    have : ¬ (0 = h) := by omega
    have no : ∀ c, isMk h c [] = false := fun c => by
      unfold isMk
      have : run c [] = 0 := rfl
      rw [this]
      simp [‹¬ (0 = h)›]
    unfold mark
    simp [no]
  | cons c r =>
    have h1 : c ≠ 60 := fun g => by subst g; exact hd_lit (by simp) r e
    have h2 : c ≠ 124 := fun g => by subst g; exact hd_lit (by simp) r e
    have h3 : c ≠ 61 := fun g => by subst g; exact hd_lit (by simp) r e
    have h4 : c ≠ 62 := fun g => by subst g; exact hd_lit (by simp) r e
    unfold mark
    rw [isMk_hd_no h1 hh, isMk_hd_no h2 hh, isMk_hd_no h3 hh, isMk_hd_no h4 hh]
    rfl
theorem mark_some {h : Nat} (hh : 0 < h) {c : UInt8} {r : Tx} (e : hd (c :: r) ≠ -1) : (mark h (c :: r) : Int) - 1 = if isMk h c (c :: r) then hd (c :: r) else -1 := by
  have : c = 60 ∨ c = 124 ∨ c = 61 ∨ c = 62 := by
    unfold hd at e
    simp only at e
    by_cases h1 : c = 60
    · exact Or.inl h1
    · by_cases h2 : c = 124
      · exact Or.inr (Or.inl h2)
      · by_cases h3 : c = 61
        · exact Or.inr (Or.inr (Or.inl h3))
        · by_cases h4 : c = 62
          · exact Or.inr (Or.inr (Or.inr h4))
          · rw [if_neg h1, if_neg h2, if_neg h3, if_neg h4] at e
            exact absurd rfl e
  unfold mark
  rcases this with rfl | rfl | rfl | rfl
  · cases isMk h 60 (60 :: r)
    · rw [isMk_hd_no (by decide) hh, isMk_hd_no (by decide) hh, isMk_hd_no (by decide) hh]; rfl
    · rfl
  · rw [isMk_hd_no (c := 60) (by decide) hh]
    cases isMk h 124 (124 :: r)
    · rw [isMk_hd_no (by decide) hh, isMk_hd_no (by decide) hh]; rfl
    · rfl
  · rw [isMk_hd_no (c := 60) (by decide) hh, isMk_hd_no (c := 124) (by decide) hh]
    cases isMk h 61 (61 :: r)
    · rw [isMk_hd_no (by decide) hh]; rfl
    · rfl
  · rw [isMk_hd_no (c := 60) (by decide) hh, isMk_hd_no (c := 124) (by decide) hh, isMk_hd_no (c := 61) (by decide) hh]
    cases isMk h 62 (62 :: r) <;> rfl

theorem ret_mk {x y : Int} (h : x = y) : Ending.returned (.int .i64 x) = Ending.returned (.int .i64 y) := by rw [h]
theorem hd_lo (s : Tx) : -1 ≤ hd s ∧ hd s ≤ 3 := by
  unfold hd
  split
  · omega
  · split
    · omega
    · split
      · omega
      · split
        · omega
        · split <;> omega

set_option maxHeartbeats 800000 in
theorem markerOf_any (s : ByteArray) (hs : s.size ≤ 1000000) (h : Nat) (hh : 0 < h) (h2 : h ≤ 1000) (w : World) :
    Calls Try.prog 21 #[.string s, .int .i64 h] w fun e w' => e = .returned (.int .i64 ((mark h s.data.toList : Int) - 1)) ∧ w = w' := by
  have HH := Lib.hid (headOf_any s w)
  by_cases e0 : hd s.data.toList = -1
  · have HR := Lib.hid (mark_none hh e0)
    rw [e0] at HH
    clear e0
    go_enter Try.func21, Try.ntmps21
    go_wp2_with fail
    refine HH.out.mono ?_
    rintro e w1 ⟨rfl, rfl⟩
    clear HH
    go_wp2_with fail
    go_ret
    exact ⟨ret_mk (by rw [HR.out]; rfl), rfl⟩
  · have hp : 0 < s.size := by
      rcases Nat.eq_zero_or_pos s.size with g | g
      · have : s.data.toList = [] := List.eq_nil_of_length_eq_zero (by rw [len_data]; exact g)
        rw [this] at e0
        exact absurd rfl e0
      · exact g
    have hc := at_data s 0 hp
    rw [List.drop_zero] at hc
    have HM := Lib.hid (by rw [hc] at e0; have := mark_some hh e0; rw [← hc] at this; exact this)
    have HRun := Lib.hid (run_any s (by omega) s[0] w)
    have hrl : run s[0] s.data.toList ≤ s.size := by
      have := run_le s[0] s.data.toList
      rwa [len_data] at this
    have HI := Lib.hid (show isMk h s[0] s.data.toList = (run s[0] s.data.toList == h && (s.size == h || s.data.toList[h]? == some 32)) by unfold isMk; rw [len_data])
    have b1 : (hd s.data.toList == -1) = false := by rw [beq_eq_false_iff_ne]; exact e0
    have b2 := hd_lo s.data.toList
    clear hc
    generalize hd s.data.toList = k at *
    generalize run s[0] s.data.toList = n at *
    by_cases en : n = h
    · subst en
      have b3 : ((n : Int) != (n : Int)) = false := by simp
      by_cases hl : n < s.size
      · have hln : ((s.size : Int) > (n : Int)) := by omega
        have hx : s.data.toList[n]? = some s[n] := by
          rw [List.getElem?_eq_getElem (by rw [len_data]; exact hl)]
          rfl
        by_cases e3 : s[n] = 32
        · have b4 : ((s[n].toNat : Int) != 32) = false := by rw [e3]; rfl
          have HQ : Hid ((mark n s.data.toList : Int) - 1 = k) := Lib.hid (by
            rw [HM.out, HI.out, hx, e3]; simp)
          clear HM HI e3 hx e0
          go_enter Try.func21, Try.ntmps21
          go_wp2_with fail
          refine HH.out.mono ?_
          rintro e w1 ⟨rfl, rfl⟩
          clear HH
          go_wp2_with fail
          refine HRun.out.mono ?_
          rintro e w1 ⟨rfl, rfl⟩
          clear HRun
          go_wp2_with fail
          go_ret
          exact ⟨ret_mk (by rw [HQ.out]), rfl⟩
        · have b4 : ((s[n].toNat : Int) != 32) = true := by
            rw [bne_iff_ne]
            intro e
            exact e3 (UInt8.toNat_inj.1 (by show s[n].toNat = 32; omega))
          have HQ : Hid ((mark n s.data.toList : Int) - 1 = -1) := Lib.hid (by
            rw [HM.out, HI.out, hx]
            have : (s.size == n) = false := by rw [beq_eq_false_iff_ne]; omega
            simp [this, e3])
          clear HM HI e3 hx e0
          go_enter Try.func21, Try.ntmps21
          go_wp2_with fail
          refine HH.out.mono ?_
          rintro e w1 ⟨rfl, rfl⟩
          clear HH
          go_wp2_with fail
          refine HRun.out.mono ?_
          rintro e w1 ⟨rfl, rfl⟩
          clear HRun
          go_wp2_with fail
          go_ret
          exact ⟨ret_mk (by rw [HQ.out]), rfl⟩
      · obtain hle : s.size = n := by omega
        have HQ : Hid ((mark n s.data.toList : Int) - 1 = k) := Lib.hid (by
          rw [HM.out, HI.out, hle]; simp)
        clear HM HI e0
        go_enter Try.func21, Try.ntmps21
        go_wp2_with fail
        refine HH.out.mono ?_
        rintro e w1 ⟨rfl, rfl⟩
        clear HH
        go_wp2_with fail
        refine HRun.out.mono ?_
        rintro e w1 ⟨rfl, rfl⟩
        clear HRun
        go_wp2_with fail
        go_ret
        exact ⟨ret_mk (by rw [HQ.out]), rfl⟩
    · have b3 : ((n : Int) != (h : Int)) = true := by rw [bne_iff_ne]; omega
      have HQ : Hid ((mark h s.data.toList : Int) - 1 = -1) := Lib.hid (by
        rw [HM.out, HI.out]; simp [en])
      clear HM HI e0
      go_enter Try.func21, Try.ntmps21
      go_wp2_with fail
      refine HH.out.mono ?_
      rintro e w1 ⟨rfl, rfl⟩
      clear HH
      go_wp2_with fail
      refine HRun.out.mono ?_
      rintro e w1 ⟨rfl, rfl⟩
      clear HRun
      go_wp2_with fail
      go_ret
      exact ⟨ret_mk (by rw [HQ.out]), rfl⟩

theorem max2 (w : World) (x y : Int) : (Builtin.max_ #[3, 3] 3 #[.int .i64 x, .int .i64 y]).run Try.prog w = .ok (.int .i64 (max x y)) w := by
  have e : ∀ x y : Int, (if y > x then y else x) = max x y := fun x y => by
    rw [Int.max_def]
    split <;> split <;> omega
  simp [Builtin.max_, Builtin.max2, e]

/-- What a line asks of a size. -/
theorem runs4_no {s : Tx} (e : hd s = -1) : runs4 s = 0 := by
  unfold runs4
  cases s with
  | nil => rfl
  | cons c r =>
    have h1 : c ≠ 60 := fun g => by subst g; exact hd_lit (by simp) r e
    have h2 : c ≠ 124 := fun g => by subst g; exact hd_lit (by simp) r e
    have h3 : c ≠ 61 := fun g => by subst g; exact hd_lit (by simp) r e
    have h4 : c ≠ 62 := fun g => by subst g; exact hd_lit (by simp) r e
    rw [run_hd_no h1, run_hd_no h2, run_hd_no h3, run_hd_no h4]
    rfl
theorem runs4_yes {c : UInt8} {r : Tx} (e : hd (c :: r) ≠ -1) : runs4 (c :: r) = run c (c :: r) := by
  unfold runs4
  by_cases h1 : c = 60
  · subst h1
    rw [run_hd_no (c := 124) (by decide), run_hd_no (c := 61) (by decide), run_hd_no (c := 62) (by decide)]
    omega
  · rw [run_hd_no (c := 60) h1]
    by_cases h2 : c = 124
    · subst h2
      rw [run_hd_no (c := 61) (by decide), run_hd_no (c := 62) (by decide)]
      omega
    · rw [run_hd_no (c := 124) h2]
      by_cases h3 : c = 61
      · subst h3
        rw [run_hd_no (c := 62) (by decide)]
        omega
      · rw [run_hd_no (c := 61) h3]
        by_cases h4 : c = 62
        · subst h4; omega
        · exact absurd (by unfold hd; simp only; rw [if_neg h1, if_neg h2, if_neg h3, if_neg h4]) e
def sz (least : Int) (l : List Tx) : Int := max (max 7 least) (need l)
theorem need_snoc (l : List Tx) (x : Tx) : need (l ++ [x]) = max (need l) (runs4 x + 1) := by
  rw [need_app]
  show max _ (max (runs4 x + 1) 0) = _
  omega
theorem sz_snoc (least : Int) (l : List Tx) (x : Tx) : sz least (l ++ [x]) = max (sz least l) ((runs4 x : Int) + 1) := by
  unfold sz
  rw [need_snoc]
  omega
theorem sz_lo (least : Int) (l : List Tx) : 7 ≤ sz least l := by unfold sz; omega
theorem size_sz (least : Int) (l : List Tx) : size least l = min (sz least l) 1000 := rfl
/-- The lines ahead of place k of list j. -/
def upTo (ls : List (List Tx)) (j k : Nat) : List Tx := (ls.take j).flatten ++ (ls[j]?.getD []).take k
theorem upTo_zero (ls : List (List Tx)) (j : Nat) : upTo ls j 0 = (ls.take j).flatten := by unfold upTo; simp
theorem upTo_next (ls : List (List Tx)) (j k : Nat) (hj : j < ls.length) (hk : k < ls[j].length) : upTo ls j (k + 1) = upTo ls j k ++ [ls[j][k]] := by
  unfold upTo
  rw [List.getElem?_eq_getElem hj, Option.getD_some, List.take_succ_eq_append_getElem hk, List.append_assoc]
theorem upTo_end (ls : List (List Tx)) (j : Nat) (hj : j < ls.length) : upTo ls j ls[j].length = (ls.take (j + 1)).flatten := by
  unfold upTo
  rw [List.getElem?_eq_getElem hj, Option.getD_some, List.take_length, take_flatL hj]

set_option maxHeartbeats 1600000 in
theorem size_any (least : Int) (v : Value) (ls : List (List Tx)) (w : World) (h : RdL w v ls) (hl : ls.length ≤ 1000000) (hn : ∀ l ∈ ls, l.length ≤ 1000000 ∧ ∀ x ∈ l, x.length ≤ 1000000) :
    Calls Try.prog 9 #[.int .i64 least, v] w fun e w' => e = .returned (.int .i64 (size least ls.flatten)) ∧ w = w' := by
  have HRow : Hid (∀ j (hj : j < ls.length), ∃ b o ao' ca', v = .slice (some ⟨b, o, none⟩) ls.length (match v with | .slice _ _ c => c | _ => 0) ∧ w.cell? ⟨b, o + j, none⟩ = some (.slice ao' ls[j].length ca') ∧ (∀ k (hk : k < ls[j].length), ∃ b' o', ao' = some ⟨b', o', none⟩ ∧ w.cell? ⟨b', o' + k, none⟩ = some (.string (S ls[j][k])))) := Lib.hid (by
    obtain ⟨ao, ca, rfl, hx⟩ := h
    intro j hj
    rcases hx with hx | ⟨b, o, rfl, hb, hcell⟩
    · rw [hx] at hj; exact absurd hj (Nat.not_lt_zero _)
    · obtain ⟨u, h1, h2⟩ := hcell j _ (List.getElem?_eq_getElem hj)
      obtain ⟨ao', ca', rfl, hc', hx'⟩ := h2
      refine ⟨b, o, ao', ca', rfl, h1, fun k hk => ?_⟩
      rcases hx' with hx' | ⟨b', o', rfl, hb', hcell'⟩
      · rw [hx'] at hk; exact absurd hk (Nat.not_lt_zero _)
      · exact ⟨b', o', rfl, hcell' k _ (List.getElem?_eq_getElem hk)⟩)
  obtain ⟨ao, ca, rfl⟩ : ∃ ao ca, v = .slice ao ls.length ca := by obtain ⟨ao, ca, hv, _⟩ := h; exact ⟨ao, ca, hv⟩
  clear h
  have H0 : Hid (max 7 least = sz least (upTo ls 0 0)) := Lib.hid (by rw [upTo_zero]; unfold sz; show _ = max _ ((0 : Nat) : Int); omega)
  go_enter Try.func9, Try.ntmps9
  go_wp2_with fail
  go_loop [5, 14] (fun s i => ∃ j : Nat, j ≤ ls.length ∧ i = .int .i64 j ∧ s = .int .i64 (sz least (upTo ls j 0))) (fun _ i => ls.length - (intOf i).toNat)
  case atStart => exact ⟨0, Nat.zero_le _, rfl, by rw [H0.out]⟩
  case round =>
    clear H0
    obtain ⟨j, hj, rfl, rfl⟩ := hrel
    by_cases hlt : j < ls.length
    · obtain ⟨b, o, ao', ca', hv, c1, HL⟩ := HRow.out j hlt
      obtain ⟨rfl⟩ : ao = some ⟨b, o, none⟩ := by simp only [Value.slice.injEq] at hv; exact hv.1
      have HL' := Lib.hid HL
      have HN := Lib.hid (hn _ (List.getElem_mem hlt))
      have hnl := HN.out.1
      have hi1 : (j : Int) < (ls.length : Int) := by omega
      have HSJ : Hid (ls[j]? = some ls[j]) := Lib.hid (List.getElem?_eq_getElem hlt)
      have HNext := Lib.hid (fun k hk => upTo_next ls j k hlt hk)
      have HEnd := Lib.hid (upTo_end ls j hlt)
      clear hv HL
      generalize ls[j] = l at *
      go_wp2_with fail
      go_loop [5, 20] (fun s i => ∃ k : Nat, k ≤ l.length ∧ i = .int .i64 k ∧ s = .int .i64 (sz least (upTo ls j k))) (fun _ i => l.length - (intOf i).toNat)
      case atStart => exact ⟨0, Nat.zero_le _, rfl, rfl⟩
      case round =>
        obtain ⟨k, hk, rfl, rfl⟩ := hrel
        by_cases hlk : k < l.length
        · obtain ⟨b', o', rfl, c2⟩ := HL'.out k hlk
          have hx := HN.out.2 _ (List.getElem_mem hlk)
          have HE : Hid (sz least (upTo ls j (k + 1)) = max (sz least (upTo ls j k)) ((runs4 l[k] : Int) + 1)) := Lib.hid (by rw [HNext.out k hlk, sz_snoc])
          have hi2 : (k : Int) < (l.length : Int) := by omega
          have hlo := sz_lo least (upTo ls j k)
          generalize l[k] = x at *
          have HH := Lib.hid (headOf_any (S x) w)
          rw [S_list] at HH
          generalize hz : sz least (upTo ls j k) = z at *
          by_cases e0 : hd x = -1
          · have HM : Hid (sz least (upTo ls j (k + 1)) = z) := Lib.hid (by rw [HE.out, runs4_no e0]; omega)
            rw [e0] at HH
            clear HE e0 hz
            go_wp2_with fail
            refine HH.out.mono ?_
            rintro e w1 ⟨rfl, rfl⟩
            clear HH
            go_wp2_with fail
            go_round
            case rel => exact ⟨k + 1, by omega, by go_num, by rw [HM.out]⟩
            case measure => simp [intOf]; omega
          · have hp : 0 < (S x).size := by
              rw [S_size]
              cases x with
              | nil => exact absurd rfl e0
              | cons c r => simp
            have hc := at_data (S x) 0 hp
            rw [List.drop_zero, S_list] at hc
            have HM : Hid (sz least (upTo ls j (k + 1)) = max z (((run (S x)[0] x : Nat) : Int) + 1)) := Lib.hid (by
              rw [HE.out]
              have := e0
              rw [hc] at this
              have := runs4_yes this
              rw [← hc] at this
              rw [this])
            have HRun := Lib.hid (run_any (S x) (by rw [S_size]; omega) (S x)[0] w)
            rw [S_list] at HRun
            have hrl := run_le (S x)[0] x
            have b1 : (hd x != -1) = true := by rw [bne_iff_ne]; exact e0
            have b2 := hd_lo x
            have hsx : (S x).size ≤ 1000000 := by rw [S_size]; omega
            clear HE hc e0 hz
            generalize hd x = q at *
            generalize run (S x)[0] x = n at *
            have hmx := fun w => max2 w z ((n : Int) + 1)
            go_wp2_with fail
            refine HH.out.mono ?_
            rintro e w1 ⟨rfl, rfl⟩
            clear HH
            go_wp2_with fail
            refine HRun.out.mono ?_
            rintro e w1 ⟨rfl, rfl⟩
            clear HRun
            go_wp2_with fail
            go_round
            case rel => exact ⟨k + 1, by omega, by go_num, by rw [HM.out]⟩
            case measure => simp [intOf]; omega
        · obtain rfl : k = l.length := by omega
          have HE2 : Hid (upTo ls j l.length = upTo ls (j + 1) 0) := Lib.hid (by rw [HEnd.out, upTo_zero])
          go_wp2_with fail
          go_round
          case rel => exact ⟨j + 1, by omega, by go_num, by rw [HE2.out]⟩
          case measure => simp [intOf]; omega
    · obtain rfl : j = ls.length := by omega
      have HF : Hid (size least ls.flatten = min (sz least (upTo ls ls.length 0)) 1000) := Lib.hid (by rw [upTo_zero, List.take_length]; rfl)
      have hlo := sz_lo least (upTo ls ls.length 0)
      clear hlt
      generalize sz least (upTo ls ls.length 0) = z at *
      go_wp2_with fail
      go_ret
      exact ⟨ret_mk (by rw [HF.out]), rfl⟩

end Go.Proofs.Ytipgofglidmffaa.Mk
