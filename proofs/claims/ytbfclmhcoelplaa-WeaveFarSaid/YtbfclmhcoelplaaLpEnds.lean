/-
  CONTRACT of alikeEnds: what two lists have in common at their beginnings, and behind that at their ends.
-/
import Derived.Test.YtbfclmhcoelplaaCmInt
import Derived.Test.YtbfclmhcoelplaaLcPlain
namespace Go.Proofs.Ytbfclmhcoelplaa.Lp
open Go.RowKit Go.Proofs.Ytbfclmhcoelplaa.Cm Go.Proofs.Ytbfclmhcoelplaa.Lc
set_option linter.unusedVariables false

def hd : List Int → List Int → Nat
  | x :: a, y :: b => if x = y then hd a b + 1 else 0
  | _, _ => 0
theorem hd_le : ∀ a b : List Int, hd a b ≤ min a.length b.length
  | [], b => by simp [hd]
  | x :: a, [] => by simp [hd]
  | x :: a, y :: b => by
    have := hd_le a b
    simp only [hd, List.length_cons]
    split <;> omega
theorem hd_same : ∀ (a b : List Int) (k : Nat), k < hd a b → a[k]? = b[k]?
  | [], b, k, h => by simp [hd] at h
  | x :: a, [], k, h => by simp [hd] at h
  | x :: a, y :: b, k, h => by
    simp only [hd] at h
    split at h
    · rename_i e
      subst e
      cases k with
      | zero => rfl
      | succ k => simpa using hd_same a b k (by omega)
    · omega
theorem hd_stop : ∀ (a b : List Int), hd a b < a.length → hd a b < b.length → a[hd a b]? ≠ b[hd a b]?
  | [], b, h, _ => by simp [hd] at h
  | x :: a, [], _, h => by simp [hd] at h
  | x :: a, y :: b, h, k => by
    simp only [hd] at h k ⊢
    split
    · rename_i e
      rw [if_pos e] at h k
      simp only [List.length_cons] at h k
      simpa using hd_stop a b (by omega) (by omega)
    · rename_i e
      simpa using e
def tl (a b : List Int) : Nat := min (hd a.reverse b.reverse) (min a.length b.length - hd a b)
theorem rev_at {a : List Int} {k : Nat} (h : k < a.length) : a.reverse[k]? = some (a[a.length - 1 - k]'(by omega)) := by
  rw [List.getElem?_eq_getElem (by simpa using h), List.getElem_reverse]

theorem drew_cell {w wr : World} {n : Nat} {p : Addr} {v : Value} (h : wr = w.drewN n) (c : w.cell? p = some v) : wr.cell? p = some v := by rw [h]; exact c

theorem min2 (w : World) (x y : Int) : (Builtin.min_ #[3, 3] 3 #[.int .i64 x, .int .i64 y]).run Try.prog w = .ok (.int .i64 (min x y)) w := by
  have e : ∀ x y : Int, (if y < x then y else x) = min x y := fun x y => by
    rw [Int.min_def]
    split <;> split <;> omega
  simp [Builtin.min_, Builtin.min2, e]

set_option maxHeartbeats 3200000 in
theorem ends_any (va vb : Value) (a b : List Int) (w : World) (ha : Rz w va a) (hb : Rz w vb b) (hla : a.length ≤ 100000) (hlb : b.length ≤ 100000) :
    Calls Try.prog 42 #[va, vb] w fun e w' => e = .returned (.tuple #[.int .i64 (hd a b), .int .i64 (tl a b)]) ∧ ∃ n, w' = w.drewN n := by
  obtain ⟨ao, ca, rfl⟩ := ha.len
  obtain ⟨bo, cb, rfl⟩ := hb.len
  have FA := Lib.hid ha.at
  have FB := Lib.hid hb.at
  clear ha hb
  have hle := hd_le a b
  have HS := Lib.hid (hd_same a b)
  have HX := Lib.hid (hd_stop a b)
  have HS2 := Lib.hid (hd_same a.reverse b.reverse)
  have HX2 := Lib.hid (hd_stop a.reverse b.reverse)
  have HL2 := Lib.hid (hd_le a.reverse b.reverse)
  have HT : Hid (tl a b = min (hd a.reverse b.reverse) (min a.length b.length - hd a b)) := Lib.hid rfl
  obtain ⟨L, hL⟩ : ∃ L, min a.length b.length = L := ⟨_, rfl⟩
  have HLL : Hid (L ≤ a.length ∧ L ≤ b.length ∧ (L = a.length ∨ L = b.length)) := Lib.hid (by omega)
  have eL : min (a.length : Int) (b.length : Int) = (L : Int) := by omega
  rw [hL] at hle HT
  generalize hd a b = h at *
  generalize tl a b = t at *
  generalize hd a.reverse b.reverse = r at *
  clear hL
  have m2 := min2
  go_enter Try.func42, Try.ntmps42
  go_wp2_with fail
  go_loopw [4] (fun s wr => ∃ k n : Nat, k ≤ h ∧ s = .int .i64 k ∧ wr = w.drewN n) (fun s _ => h - (intOf s).toNat)
  case atStart => exact ⟨0, 0, Nat.zero_le _, rfl, rfl⟩
  case round =>
    obtain ⟨k, n, hk, rfl, hwr⟩ := hrel
    have HW := Lib.hid hwr
    by_cases hkh : k < h
    · have hka : k < a.length := by have := HLL.out; omega
      have hkb : k < b.length := by have := HLL.out; omega
      obtain ⟨b1, o1, rfl, hb1, c1⟩ := FA.out k hka
      obtain ⟨b2, o2, rfl, hb2, c2⟩ := FB.out k hkb
      have e3 : a[k] = b[k] := by have := HS.out k hkh; rw [geti hka, geti hkb] at this; exact Option.some.inj this
      have k1 : wr.cell? ⟨b1, o1 + k, none⟩ = some (.int .i64 a[k]) := by rw [hwr]; exact c1
      have k2 : wr.cell? ⟨b2, o2 + k, none⟩ = some (.int .i64 b[k]) := by rw [hwr]; exact c2
      have d0 : decide (k < L) = true := decide_eq_true (by omega)
      have d1 : decide ((k : Int) < (L : Int)) = true := decide_eq_true (by omega)
      have t1 : (k : Int) < (a.length : Int) := by omega
      have t2 : (k : Int) < (b.length : Int) := by omega
      rw [← e3] at k2
      clear c1 c2 e3 hwr
      generalize a[k] = av at *
      go_wp2_with fail
      go_quiet (fail)
      go_wp2_with fail
      go_roundw
      case rel => exact ⟨k + 1, n + nq, by omega, by go_num, by rw [HW.out, World.drewN_drewN]⟩
      case measure => simp [intOf] <;> omega
    · obtain rfl : k = h := by omega
      clear hwr
      by_cases hkl : k < L
      · have hka : k < a.length := by have := HLL.out; omega
        have hkb : k < b.length := by have := HLL.out; omega
        obtain ⟨b1, o1, rfl, hb1, c1⟩ := FA.out k hka
        obtain ⟨b2, o2, rfl, hb2, c2⟩ := FB.out k hkb
        have e3 : (a[k] == b[k]) = false := by
          have := HX.out hka hkb; rw [geti hka, geti hkb] at this; rw [beq_eq_false_iff_ne]; intro h'; exact this (by rw [h'])
        have k1 : wr.cell? ⟨b1, o1 + k, none⟩ = some (.int .i64 a[k]) := by rw [HW.out]; exact c1
        have k2 : wr.cell? ⟨b2, o2 + k, none⟩ = some (.int .i64 b[k]) := by rw [HW.out]; exact c2
        have d0 : decide (k < L) = true := decide_eq_true (by omega)
        have d1 : decide ((k : Int) < (L : Int)) = true := decide_eq_true (by omega)
        have t1 : (k : Int) < (a.length : Int) := by omega
        have t2 : (k : Int) < (b.length : Int) := by omega
        clear c1 c2
        generalize a[k] = av at *
        generalize b[k] = bv at *
        go_wp2_with fail
        go_quiet (fail)
        clear k1 k2 e3 d0 d1 t1 t2 hka hkb
        have HW2 : Hid (wr.drewN nq = w.drewN (n + nq)) := Lib.hid (by rw [HW.out, World.drewN_drewN])
        generalize wr.drewN nq = wq at *
        generalize n + nq = n2 at *
        clear HW hkh
        obtain ⟨m, hm⟩ : ∃ m, L - k = m := ⟨_, rfl⟩
        have em : IntKind.i64.wrap ((L : Int) - (k : Int)) = (m : Int) := by rw [IntKind.wrap_i64]; omega
        have em2 : (L : Int) - (k : Int) = (m : Int) := by omega
        have hkL : m ≤ L := by omega
        rw [hm] at HT
        have HT2 : Hid (t = min r m) := HT
        have HW2' : wq = w.drewN n2 := HW2.out
        subst HW2'
        clear HW2 HT
        go_wp2_with fail
        go_loopw [5] (fun s wr => ∃ k n : Nat, k ≤ t ∧ s = .int .i64 k ∧ wr = w.drewN n) (fun s _ => t - (intOf s).toNat)
        case atStart => exact ⟨0, _, Nat.zero_le _, rfl, rfl⟩
        case round =>
          obtain ⟨q, nn, hq, rfl, hwr⟩ := hrel
          have HW := Lib.hid hwr
          have htm : t ≤ m := by have := HT2.out; omega
          by_cases hqt : q < t
          · have hqa : q < a.length := by have := HLL.out; omega
            have hqb : q < b.length := by have := HLL.out; omega
            obtain ⟨ia, hia⟩ : ∃ ia, a.length - 1 - q = ia := ⟨_, rfl⟩
            obtain ⟨ib, hib⟩ : ∃ ib, b.length - 1 - q = ib := ⟨_, rfl⟩
            have hial : ia < a.length := by omega
            have hibl : ib < b.length := by omega
            have e3 : a[ia] = b[ib] := by
              have := HS2.out q (by have := HT2.out; omega)
              rw [rev_at hqa, rev_at hqb] at this
              simpa only [hia, hib] using Option.some.inj this
            obtain ⟨b3, o3, hao, hb3, c1⟩ := FA.out ia hial
            obtain ⟨b4, o4, hbo, hb4, c2⟩ := FB.out ib hibl
            have k1 := drew_cell hwr c1
            have k2 := drew_cell hwr c2
            cases hao
            cases hbo
            have d0 : decide (q < m) = true := decide_eq_true (by omega)
            have d1 : decide ((q : Int) < (m : Int)) = true := decide_eq_true (by omega)
            have t1 : (ia : Int) < (a.length : Int) := by omega
            have t2 : (ib : Int) < (b.length : Int) := by omega
            obtain ⟨a1, ha1⟩ : ∃ a1 : Nat, a.length - 1 = a1 := ⟨_, rfl⟩
            obtain ⟨b1', hb1'⟩ : ∃ b1 : Nat, b.length - 1 = b1 := ⟨_, rfl⟩
            have s1 : IntKind.i64.wrap ((a.length : Int) - 1) = (a1 : Int) := by rw [IntKind.wrap_i64]; omega
            have s2 : IntKind.i64.wrap ((b.length : Int) - 1) = (b1' : Int) := by rw [IntKind.wrap_i64]; omega
            have s3 : IntKind.i64.wrap ((a1 : Int) - (q : Int)) = (ia : Int) := by rw [IntKind.wrap_i64]; omega
            have s4 : IntKind.i64.wrap ((b1' : Int) - (q : Int)) = (ib : Int) := by rw [IntKind.wrap_i64]; omega
            rw [← e3] at k2
            clear c1 c2 e3 hwr hia hib ha1 hb1'
            generalize a[ia] = av at *
            go_wp2_with fail
            go_quiet (fail)
            go_wp2_with fail
            go_roundw
            case rel => exact ⟨q + 1, nn + nq, by omega, by go_num, by rw [HW.out, World.drewN_drewN]⟩
            case measure => simp [intOf] <;> omega
          · obtain rfl : q = t := by omega
            clear hwr
            by_cases hqm : q < m
            · have hqa : q < a.length := by have := HLL.out; omega
              have hqb : q < b.length := by have := HLL.out; omega
              obtain ⟨ia, hia⟩ : ∃ ia, a.length - 1 - q = ia := ⟨_, rfl⟩
              obtain ⟨ib, hib⟩ : ∃ ib, b.length - 1 - q = ib := ⟨_, rfl⟩
              have hial : ia < a.length := by omega
              have hibl : ib < b.length := by omega
              have hqr : q = r := by have := HT2.out; omega
              have e3 : (a[ia] == b[ib]) = false := by
                have := HX2.out (by rw [List.length_reverse, ← hqr]; exact hqa) (by rw [List.length_reverse, ← hqr]; exact hqb)
                rw [← hqr, rev_at hqa, rev_at hqb] at this
                rw [beq_eq_false_iff_ne]
                intro h'
                simp only [hia, hib] at this
                exact this (by rw [h'])
              obtain ⟨b3, o3, hao, hb3, c1⟩ := FA.out ia hial
              obtain ⟨b4, o4, hbo, hb4, c2⟩ := FB.out ib hibl
              have k1 := drew_cell HW.out c1
              have k2 := drew_cell HW.out c2
              cases hao
              cases hbo
              have d0 : decide (q < m) = true := decide_eq_true (by omega)
              have d1 : decide ((q : Int) < (m : Int)) = true := decide_eq_true (by omega)
              have t1 : (ia : Int) < (a.length : Int) := by omega
              have t2 : (ib : Int) < (b.length : Int) := by omega
              obtain ⟨a1, ha1⟩ : ∃ a1 : Nat, a.length - 1 = a1 := ⟨_, rfl⟩
              obtain ⟨b1', hb1'⟩ : ∃ b1 : Nat, b.length - 1 = b1 := ⟨_, rfl⟩
              have s1 : IntKind.i64.wrap ((a.length : Int) - 1) = (a1 : Int) := by rw [IntKind.wrap_i64]; omega
              have s2 : IntKind.i64.wrap ((b.length : Int) - 1) = (b1' : Int) := by rw [IntKind.wrap_i64]; omega
              have s3 : IntKind.i64.wrap ((a1 : Int) - (q : Int)) = (ia : Int) := by rw [IntKind.wrap_i64]; omega
              have s4 : IntKind.i64.wrap ((b1' : Int) - (q : Int)) = (ib : Int) := by rw [IntKind.wrap_i64]; omega
              clear c1 c2 hia hib ha1 hb1' hqr HX2
              generalize a[ia] = av at *
              generalize b[ib] = bv at *
              go_wp2_with fail
              go_quiet (fail)
              go_wp2_with fail
              go_ret2
              exact ⟨rfl, nn + nq, by rw [HW.out, World.drewN_drewN]⟩
            · have d0 : decide (q < m) = false := decide_eq_false (by omega)
              have d1 : decide ((q : Int) < (m : Int)) = false := decide_eq_false (by omega)
              go_wp2_with fail
              go_quiet (fail)
              go_wp2_with fail
              go_ret2
              exact ⟨rfl, nn + nq, by rw [HW.out, World.drewN_drewN]⟩
      · have d0 : decide (k < L) = false := decide_eq_false (by omega)
        have d1 : decide ((k : Int) < (L : Int)) = false := decide_eq_false (by omega)
        go_wp2_with fail
        go_quiet (fail)
        clear d0 d1
        have HW2 : Hid (wr.drewN nq = w.drewN (n + nq)) := Lib.hid (by rw [HW.out, World.drewN_drewN])
        generalize wr.drewN nq = wq at *
        generalize n + nq = n2 at *
        clear HW hkh
        obtain ⟨m, hm⟩ : ∃ m, L - k = m := ⟨_, rfl⟩
        have em : IntKind.i64.wrap ((L : Int) - (k : Int)) = (m : Int) := by rw [IntKind.wrap_i64]; omega
        have em2 : (L : Int) - (k : Int) = (m : Int) := by omega
        have hkL : m ≤ L := by omega
        rw [hm] at HT
        have HT2 : Hid (t = min r m) := HT
        have HW2' : wq = w.drewN n2 := HW2.out
        subst HW2'
        clear HW2 HT
        go_wp2_with fail
        go_loopw [5] (fun s wr => ∃ k n : Nat, k ≤ t ∧ s = .int .i64 k ∧ wr = w.drewN n) (fun s _ => t - (intOf s).toNat)
        case atStart => exact ⟨0, _, Nat.zero_le _, rfl, rfl⟩
        case round =>
          obtain ⟨q, nn, hq, rfl, hwr⟩ := hrel
          have HW := Lib.hid hwr
          have htm : t ≤ m := by have := HT2.out; omega
          by_cases hqt : q < t
          · have hqa : q < a.length := by have := HLL.out; omega
            have hqb : q < b.length := by have := HLL.out; omega
            obtain ⟨ia, hia⟩ : ∃ ia, a.length - 1 - q = ia := ⟨_, rfl⟩
            obtain ⟨ib, hib⟩ : ∃ ib, b.length - 1 - q = ib := ⟨_, rfl⟩
            have hial : ia < a.length := by omega
            have hibl : ib < b.length := by omega
            have e3 : a[ia] = b[ib] := by
              have := HS2.out q (by have := HT2.out; omega)
              rw [rev_at hqa, rev_at hqb] at this
              simpa only [hia, hib] using Option.some.inj this
            obtain ⟨b3, o3, hao, hb3, c1⟩ := FA.out ia hial
            obtain ⟨b4, o4, hbo, hb4, c2⟩ := FB.out ib hibl
            have k1 := drew_cell hwr c1
            have k2 := drew_cell hwr c2
            cases hao
            cases hbo
            have d0 : decide (q < m) = true := decide_eq_true (by omega)
            have d1 : decide ((q : Int) < (m : Int)) = true := decide_eq_true (by omega)
            have t1 : (ia : Int) < (a.length : Int) := by omega
            have t2 : (ib : Int) < (b.length : Int) := by omega
            obtain ⟨a1, ha1⟩ : ∃ a1 : Nat, a.length - 1 = a1 := ⟨_, rfl⟩
            obtain ⟨b1', hb1'⟩ : ∃ b1 : Nat, b.length - 1 = b1 := ⟨_, rfl⟩
            have s1 : IntKind.i64.wrap ((a.length : Int) - 1) = (a1 : Int) := by rw [IntKind.wrap_i64]; omega
            have s2 : IntKind.i64.wrap ((b.length : Int) - 1) = (b1' : Int) := by rw [IntKind.wrap_i64]; omega
            have s3 : IntKind.i64.wrap ((a1 : Int) - (q : Int)) = (ia : Int) := by rw [IntKind.wrap_i64]; omega
            have s4 : IntKind.i64.wrap ((b1' : Int) - (q : Int)) = (ib : Int) := by rw [IntKind.wrap_i64]; omega
            rw [← e3] at k2
            clear c1 c2 e3 hwr hia hib ha1 hb1'
            generalize a[ia] = av at *
            go_wp2_with fail
            go_quiet (fail)
            go_wp2_with fail
            go_roundw
            case rel => exact ⟨q + 1, nn + nq, by omega, by go_num, by rw [HW.out, World.drewN_drewN]⟩
            case measure => simp [intOf] <;> omega
          · obtain rfl : q = t := by omega
            clear hwr
            by_cases hqm : q < m
            · have hqa : q < a.length := by have := HLL.out; omega
              have hqb : q < b.length := by have := HLL.out; omega
              obtain ⟨ia, hia⟩ : ∃ ia, a.length - 1 - q = ia := ⟨_, rfl⟩
              obtain ⟨ib, hib⟩ : ∃ ib, b.length - 1 - q = ib := ⟨_, rfl⟩
              have hial : ia < a.length := by omega
              have hibl : ib < b.length := by omega
              have hqr : q = r := by have := HT2.out; omega
              have e3 : (a[ia] == b[ib]) = false := by
                have := HX2.out (by rw [List.length_reverse, ← hqr]; exact hqa) (by rw [List.length_reverse, ← hqr]; exact hqb)
                rw [← hqr, rev_at hqa, rev_at hqb] at this
                rw [beq_eq_false_iff_ne]
                intro h'
                simp only [hia, hib] at this
                exact this (by rw [h'])
              obtain ⟨b3, o3, hao, hb3, c1⟩ := FA.out ia hial
              obtain ⟨b4, o4, hbo, hb4, c2⟩ := FB.out ib hibl
              have k1 := drew_cell HW.out c1
              have k2 := drew_cell HW.out c2
              cases hao
              cases hbo
              have d0 : decide (q < m) = true := decide_eq_true (by omega)
              have d1 : decide ((q : Int) < (m : Int)) = true := decide_eq_true (by omega)
              have t1 : (ia : Int) < (a.length : Int) := by omega
              have t2 : (ib : Int) < (b.length : Int) := by omega
              obtain ⟨a1, ha1⟩ : ∃ a1 : Nat, a.length - 1 = a1 := ⟨_, rfl⟩
              obtain ⟨b1', hb1'⟩ : ∃ b1 : Nat, b.length - 1 = b1 := ⟨_, rfl⟩
              have s1 : IntKind.i64.wrap ((a.length : Int) - 1) = (a1 : Int) := by rw [IntKind.wrap_i64]; omega
              have s2 : IntKind.i64.wrap ((b.length : Int) - 1) = (b1' : Int) := by rw [IntKind.wrap_i64]; omega
              have s3 : IntKind.i64.wrap ((a1 : Int) - (q : Int)) = (ia : Int) := by rw [IntKind.wrap_i64]; omega
              have s4 : IntKind.i64.wrap ((b1' : Int) - (q : Int)) = (ib : Int) := by rw [IntKind.wrap_i64]; omega
              clear c1 c2 hia hib ha1 hb1' hqr HX2
              generalize a[ia] = av at *
              generalize b[ib] = bv at *
              go_wp2_with fail
              go_quiet (fail)
              go_wp2_with fail
              go_ret2
              exact ⟨rfl, nn + nq, by rw [HW.out, World.drewN_drewN]⟩
            · have d0 : decide (q < m) = false := decide_eq_false (by omega)
              have d1 : decide ((q : Int) < (m : Int)) = false := decide_eq_false (by omega)
              go_wp2_with fail
              go_quiet (fail)
              go_wp2_with fail
              go_ret2
              exact ⟨rfl, nn + nq, by rw [HW.out, World.drewN_drewN]⟩

end Go.Proofs.Ytbfclmhcoelplaa.Lp
