/-
  CONTRACT of placesOf (package lcs): where each number stands in a list, as words.
-/
import Derived.Test.YtldllbmbcnipoaaDoorLcPlain
import Derived.Laws.BitsAllLaws
import Derived.Test.YtldllbmbcnipoaaDoorPkNB
import Derived.Deep.Cut
import Derived.Test.YtldllbmbcnipoaaDoorPkNN
import Derived.Test.YtldllbmbcnipoaaDoorPkNC
import Derived.Laws.Externs
import Derived.Deep.CutRange
import Derived.Maps.AppendAt
import Derived.Maps.Own
import Derived.Outline
namespace Go.Proofs.YtldllbmbcnipoaaDoor.Lcx
set_option linter.unusedVariables false

def m64 : Nat := 18446744073709551616
/-- The borrow into bit k. -/
def cr (x m : Nat) (c : Bool) : Nat → Bool
  | 0 => c
  | k + 1 => !x.testBit k && (m.testBit k || cr x m c k)
/-- One word of the new column, and what is borrowed of the next. -/
def offW (x m : Nat) : Nat := m &&& (18446744073709551615 - x)
def lessW (x m : Nat) (c : Bool) : Nat := (x + 18446744073709551616 - offW x m - c.toNat) % 18446744073709551616
def newW (x m : Nat) (c : Bool) : Nat := (x ||| m) &&& lessW x m c
def outW (x m : Nat) (c : Bool) : Bool := decide (x < offW x m + c.toNat)

theorem mod_succ (x k : Nat) : x % 2 ^ (k + 1) = x % 2 ^ k + 2 ^ k * (x.testBit k).toNat := by
  rw [Nat.pow_succ, Nat.mod_mul, Nat.testBit_eq_decide_div_mod_eq]
  rcases Nat.mod_two_eq_zero_or_one (x / 2 ^ k) with h | h <;> rw [h] <;> simp
theorem off_bit {x : Nat} (m : Nat) (hx : x < 2 ^ 64) (k : Nat) (hk : k < 64) : (offW x m).testBit k = (m.testBit k && !x.testBit k) := by
  unfold offW
  rw [Nat.testBit_and, show 18446744073709551615 - x = 2 ^ 64 - (x + 1) by omega, Nat.testBit_two_pow_sub_succ hx]
  simp [hk]
theorem off_lt (x m : Nat) (hm : m < 2 ^ 64) : offW x m < 2 ^ 64 := Nat.lt_of_le_of_lt Nat.and_le_left hm

/-- Subtraction with a borrow, bit by bit. -/
theorem sub_bits (x y : Nat) (c : Bool) (b : Nat → Bool) (h0 : b 0 = c) (hb : ∀ k, k < 64 → b (k + 1) = ((!x.testBit k && y.testBit k) || ((x.testBit k == y.testBit k) && b k))) :
    ∀ k, k ≤ 64 → b k = decide (x % 2 ^ k < y % 2 ^ k + c.toNat)
  | 0, _ => by rw [h0]; cases c <;> simp [Nat.mod_one]
  | k + 1, hk => by
    have ih := sub_bits x y c b h0 hb k (by omega)
    rw [hb k (by omega), ih, mod_succ, mod_succ]
    have hp : 0 < 2 ^ k := Nat.two_pow_pos k
    have l1 := Nat.mod_lt x hp
    have l2 := Nat.mod_lt y hp
    generalize 2 ^ k = p at *
    generalize x % p = xr at *
    generalize y % p = yr at *
    cases x.testBit k <;> cases y.testBit k <;> cases c <;> simp <;> omega
theorem sub_low (x y : Nat) (c : Bool) (hx : x < 2 ^ 64) (hy : y < 2 ^ 64) (k : Nat) (hk : k ≤ 64) :
    (x + 2 ^ 64 - y - c.toNat) % 2 ^ 64 % 2 ^ k + y % 2 ^ k + c.toNat = x % 2 ^ k + 2 ^ k * (decide (x % 2 ^ k < y % 2 ^ k + c.toNat)).toNat := by
  have hp : 0 < 2 ^ k := Nat.two_pow_pos k
  rw [Nat.mod_mod_of_dvd _ (Nat.pow_dvd_pow 2 hk)]
  have e64 : (2 : Nat) ^ 64 = 2 ^ k * 2 ^ (64 - k) := by rw [← Nat.pow_add]; congr 1; omega
  have ex := Nat.div_add_mod x (2 ^ k)
  have ey := Nat.div_add_mod y (2 ^ k)
  have l1 := Nat.mod_lt x hp
  have l2 := Nat.mod_lt y hp
  have hc : c.toNat ≤ 1 := Bool.toNat_le c
  generalize (2 : Nat) ^ (64 - k) = N at *
  generalize 2 ^ 64 = T at *
  generalize 2 ^ k = p at *
  generalize x % p = xr at *
  generalize y % p = yr at *
  generalize x / p = q at *
  generalize y / p = s at *
  generalize c.toNat = d at *
  subst e64
  subst ex
  subst ey
  have hs : s < N := by
    apply Nat.lt_of_mul_lt_mul_left (a := p); omega
  by_cases h : xr < yr + d
  · rw [decide_eq_true h]
    have hN : p * (q + N - s - 1) + p * s + p = p * q + p * N := by
      rw [← Nat.mul_add, ← Nat.mul_succ, ← Nat.mul_add]; congr 1; omega
    rw [show p * q + xr + p * N - (p * s + yr) - d = p * (q + N - s - 1) + (xr + p - yr - d) by omega, Nat.mul_add_mod, Nat.mod_eq_of_lt (by omega)]
    simp; omega
  · rw [decide_eq_false h]
    have hN : p * (q + N - s) + p * s = p * q + p * N := by
      rw [← Nat.mul_add, ← Nat.mul_add]; congr 1; omega
    rw [show p * q + xr + p * N - (p * s + yr) - d = p * (q + N - s) + (xr - yr - d) by omega, Nat.mul_add_mod, Nat.mod_eq_of_lt (by omega)]
    simp; omega
theorem sub_bit (x y : Nat) (c : Bool) (hx : x < 2 ^ 64) (hy : y < 2 ^ 64) (b : Nat → Bool) (h0 : b 0 = c) (hb : ∀ k, k < 64 → b (k + 1) = ((!x.testBit k && y.testBit k) || ((x.testBit k == y.testBit k) && b k))) (k : Nat) (hk : k < 64) :
    ((x + 2 ^ 64 - y - c.toNat) % 2 ^ 64).testBit k = ((x.testBit k ^^ y.testBit k) ^^ b k) := by
  have h1 := sub_low x y c hx hy k (by omega)
  have h2 := sub_low x y c hx hy (k + 1) (by omega)
  rw [← sub_bits x y c b h0 hb k (by omega)] at h1
  rw [← sub_bits x y c b h0 hb (k + 1) (by omega), hb k hk] at h2
  obtain ⟨d, hd⟩ : ∃ d, (x + 2 ^ 64 - y - c.toNat) % 2 ^ 64 = d := ⟨_, rfl⟩
  rw [hd] at h1 h2 ⊢
  rw [mod_succ d k, mod_succ x k, mod_succ y k, Nat.pow_succ] at h2
  have hp : 0 < 2 ^ k := Nat.two_pow_pos k
  clear hd
  generalize 2 ^ k = p at *
  generalize x % p = xr at *
  generalize y % p = yr at *
  generalize d % p = dr at *
  generalize d.testBit k = t1 at *
  generalize x.testBit k = t2 at *
  generalize y.testBit k = t3 at *
  generalize b k = t4 at *
  cases t1 <;> cases t2 <;> cases t3 <;> cases t4 <;> simp at h1 h2 ⊢ <;> omega
theorem cr_step (x m : Nat) (hx : x < 2 ^ 64) (c : Bool) (k : Nat) (hk : k < 64) : cr x m c (k + 1) = ((!x.testBit k && (offW x m).testBit k) || ((x.testBit k == (offW x m).testBit k) && cr x m c k)) := by
  rw [off_bit m hx k hk]
  show (!x.testBit k && (m.testBit k || cr x m c k)) = _
  cases x.testBit k <;> cases m.testBit k <;> cases cr x m c k <;> rfl
theorem out_eq (x m : Nat) (hx : x < 2 ^ 64) (hm : m < 2 ^ 64) (c : Bool) : outW x m c = cr x m c 64 := by
  rw [sub_bits x (offW x m) c (cr x m c) rfl (cr_step x m hx c) 64 (Nat.le_refl _), Nat.mod_eq_of_lt hx, Nat.mod_eq_of_lt (off_lt x m hm)]
  rfl
theorem new_bit (x m : Nat) (hx : x < 2 ^ 64) (hm : m < 2 ^ 64) (c : Bool) (k : Nat) (hk : k < 64) : (newW x m c).testBit k = ((x.testBit k || m.testBit k) && !cr x m c k) := by
  have := sub_bit x (offW x m) c hx (off_lt x m hm) (cr x m c) rfl (cr_step x m hx c) k hk
  unfold newW lessW
  rw [Nat.testBit_and, Nat.testBit_or]
  rw [show (18446744073709551616 : Nat) = 2 ^ 64 from rfl, this, off_bit m hx k hk]
  cases x.testBit k <;> cases m.testBit k <;> cases cr x m c k <;> rfl
theorem new_lt (x m : Nat) (c : Bool) : newW x m c < 2 ^ 64 :=
  Nat.lt_of_le_of_lt Nat.and_le_right (Nat.mod_lt _ (by decide))
theorem new_idle (x : Nat) (hx : x < 2 ^ 64) : newW x 0 false = x := by
  unfold newW lessW offW
  rw [Nat.or_zero, Nat.zero_and]
  simp only [Bool.toNat_false, Nat.sub_zero]
  rw [Nat.add_mod_right, Nat.mod_eq_of_lt (by omega), Nat.and_self]
theorem out_idle (x : Nat) : outW x 0 false = false := by
  unfold outW offW; rw [Nat.zero_and]; simp
theorem new_none (c : Bool) : newW 0 0 c = 0 := by unfold newW; simp
theorem out_none (c : Bool) : outW 0 0 c = c := by
  unfold outW offW; cases c <;> simp


/-! ### Many words -/
/-- The borrow into word q. -/
def cw (X M : Nat → Nat) : Nat → Bool
  | 0 => false
  | q + 1 => outW (X q) (M q) (cw X M q)
def nw (X M : Nat → Nat) (q : Nat) : Nat := newW (X q) (M q) (cw X M q)
def wb (X : Nat → Nat) (p : Nat) : Bool := (X (p / 64)).testBit (p % 64)
/-- The borrow into bit p of all. -/
def gc (x m : Nat → Bool) : Nat → Bool
  | 0 => false
  | p + 1 => !x p && (m p || gc x m p)
theorem gc_word (X M : Nat → Nat) (hX : ∀ q, X q < 2 ^ 64) (hM : ∀ q, M q < 2 ^ 64) : ∀ (q k : Nat), k ≤ 64 → cw X M q = gc (wb X) (wb M) (64 * q) → gc (wb X) (wb M) (64 * q + k) = cr (X q) (M q) (cw X M q) k
  | q, 0, _, h => h.symm
  | q, k + 1, hk, h => by
    have ih := gc_word X M hX hM q k (by omega) h
    rw [← Nat.add_assoc]
    show (!wb X (64 * q + k) && (wb M (64 * q + k) || gc (wb X) (wb M) (64 * q + k))) = (!(X q).testBit k && ((M q).testBit k || cr (X q) (M q) (cw X M q) k))
    rw [ih]
    unfold wb
    rw [show (64 * q + k) / 64 = q by omega, show (64 * q + k) % 64 = k by omega]
theorem gc_at (X M : Nat → Nat) (hX : ∀ q, X q < 2 ^ 64) (hM : ∀ q, M q < 2 ^ 64) : ∀ q, cw X M q = gc (wb X) (wb M) (64 * q)
  | 0 => rfl
  | q + 1 => by
    have ih := gc_at X M hX hM q
    show outW (X q) (M q) (cw X M q) = _
    rw [out_eq _ _ (hX q) (hM q), ← gc_word X M hX hM q 64 (Nat.le_refl _) ih, Nat.mul_succ]
/-- The new column, bit by bit. -/
theorem nw_bit (X M : Nat → Nat) (hX : ∀ q, X q < 2 ^ 64) (hM : ∀ q, M q < 2 ^ 64) (p : Nat) : wb (nw X M) p = ((wb X p || wb M p) && !gc (wb X) (wb M) p) := by
  have h := gc_word X M hX hM (p / 64) (p % 64) (by omega) (gc_at X M hX hM _)
  rw [show 64 * (p / 64) + p % 64 = p by omega] at h
  rw [h]
  exact new_bit _ _ (hX _) (hM _) _ _ (by omega)
theorem nw_lt (X M : Nat → Nat) (q : Nat) : nw X M q < 2 ^ 64 := new_lt _ _ _
/-- Words that are passed over. -/
theorem pass_idle {X M : Nat → Nat} (hX : ∀ q, X q < 2 ^ 64) {k : Nat} (h0 : cw X M k = false) : ∀ k', k ≤ k' → (∀ q, k ≤ q → q < k' → M q = 0) → cw X M k' = false ∧ ∀ q, k ≤ q → q < k' → nw X M q = X q
  | k', hk, hM => by
    induction k' with
    | zero => exact ⟨rfl, fun q _ h => absurd h (Nat.not_lt_zero _)⟩
    | succ k' ih =>
      by_cases e : k = k' + 1
      · subst e; exact ⟨h0, fun q h1 h2 => by omega⟩
      · obtain ⟨i1, i2⟩ := ih (by omega) (fun q h1 h2 => hM q h1 (by omega))
        have hz := hM k' (by omega) (by omega)
        refine ⟨?_, fun q h1 h2 => ?_⟩
        · show outW (X k') (M k') (cw X M k') = false
          rw [hz, i1, out_idle]
        · by_cases eq : q = k'
          · subst eq
            show newW (X q) (M q) (cw X M q) = X q
            rw [hz, i1, new_idle _ (hX q)]
          · exact i2 q h1 (by omega)
theorem pass_none {X M : Nat → Nat} {k : Nat} {c : Bool} (h0 : cw X M k = c) : ∀ k', k ≤ k' → (∀ q, k ≤ q → q < k' → M q = 0 ∧ X q = 0) → cw X M k' = c ∧ ∀ q, k ≤ q → q < k' → nw X M q = X q
  | k', hk, hM => by
    induction k' with
    | zero =>
      have : k = 0 := by omega
      subst this
      exact ⟨h0, fun q _ h => absurd h (Nat.not_lt_zero _)⟩
    | succ k' ih =>
      by_cases e : k = k' + 1
      · subst e; exact ⟨h0, fun q h1 h2 => by omega⟩
      · obtain ⟨i1, i2⟩ := ih (by omega) (fun q h1 h2 => hM q h1 (by omega))
        obtain ⟨hz, hx⟩ := hM k' (by omega) (by omega)
        refine ⟨?_, fun q h1 h2 => ?_⟩
        · show outW (X k') (M k') (cw X M k') = c
          rw [hz, hx, out_none, i1]
        · by_cases eq : q = k'
          · subst eq
            show newW (X q) (M q) (cw X M q) = X q
            rw [hz, hx, new_none]
          · exact i2 q h1 (by omega)

/-! ### What the bits say -/
open Go.Proofs.YtldllbmbcnipoaaDoor.Lc
theorem lcs_cons_le (x : Int) (a b : List Int) : lcs (x :: a) b ≤ lcs a b + 1 := by
  have := lcs_more a.reverse b.reverse x
  rw [lcs_rev] at this
  rw [← lcs_rev (x :: a) b, List.reverse_cons]
  exact this
theorem tb_down (a b : List Int) (i k : Nat) : tb a b (i + 1) k ≤ tb a b i k ∧ tb a b i k ≤ tb a b (i + 1) k + 1 := by
  unfold tb
  by_cases hi : i < a.length
  · rw [List.drop_eq_getElem_cons hi]
    exact ⟨lcs_mono (List.sublist_cons_self _ _) (List.Sublist.refl _), lcs_cons_le _ _ _⟩
  · rw [List.drop_eq_nil_of_le (show a.length ≤ i by omega), List.drop_eq_nil_of_le (show a.length ≤ i + 1 by omega)]
    exact ⟨Nat.le_refl _, by omega⟩
theorem tb_right (a b : List Int) (i k : Nat) : tb a b i (k + 1) ≤ tb a b i k ∧ tb a b i k ≤ tb a b i (k + 1) + 1 := by
  have := tb_down b a k i
  unfold tb at *
  rw [lcs_comm (a.drop i), lcs_comm (a.drop i)]
  exact this
/-- The column at place j of b, bit by bit. -/
def Dc (a b : List Int) (j p : Nat) : Bool := decide (p < a.length) && decide (tb a b (a.length - 1 - p) j = tb a b (a.length - p) j + 1)
/-- Where a number stands in a, bit by bit. -/
def Mc (a : List Int) (x : Int) (p : Nat) : Bool := decide (a.reverse[p]? = some x)
theorem mc_at {a : List Int} {x : Int} {p i : Nat} (hp : p < a.length) (e : a.length - 1 - p = i) (hi : i < a.length) : Mc a x p = decide (a[i] = x) := by
  subst e
  unfold Mc
  rw [List.getElem?_eq_getElem (by simpa using hp), List.getElem_reverse]
  simp
theorem dc_end (a b : List Int) (j p : Nat) (hj : b.length ≤ j) : Dc a b j p = false := by
  unfold Dc
  rw [tb_end2 a b _ j hj, tb_end2 a b _ j hj]; simp
theorem gc_dc {a b : List Int} {j : Nat} (hj : j < b.length) : ∀ p, p ≤ a.length → gc (Dc a b (j + 1)) (Mc a b[j]) p = decide (tb a b (a.length - p) j = tb a b (a.length - p) (j + 1) + 1)
  | 0, _ => by
    rw [Nat.sub_zero, tb_end a b _ j (Nat.le_refl _), tb_end a b _ (j + 1) (Nat.le_refl _)]; rfl
  | p + 1, hp => by
    have ih := gc_dc (a := a) hj p (by omega)
    obtain ⟨i, e0⟩ : ∃ i, a.length - (p + 1) = i := ⟨_, rfl⟩
    have hi : i < a.length := by omega
    show (!Dc a b (j + 1) p && (Mc a b[j] p || gc (Dc a b (j + 1)) (Mc a b[j]) p)) = _
    have e1 : a.length - 1 - p = i := by omega
    have e2 : a.length - p = i + 1 := by omega
    rw [ih, mc_at (by omega) e1 hi]
    unfold Dc
    rw [decide_eq_true (show p < a.length by omega), e2, e1, e0]
    have h1 := tb_down a b i j
    have h2 := tb_down a b i (j + 1)
    have h3 := tb_right a b i j
    have h4 := tb_right a b (i + 1) j
    by_cases e : a[i] = b[j]
    · have h5 := tb_yes hi hj e
      rw [decide_eq_true e]
      simp
      rw [← decide_not, decide_eq_decide]; omega
    · have h5 := tb_no hi hj e
      rw [decide_eq_false e]
      simp
      rw [← decide_not, ← Bool.decide_and, decide_eq_decide]; omega
theorem step_dc {a b : List Int} {j : Nat} (hj : j < b.length) (p : Nat) : ((Dc a b (j + 1) p || Mc a b[j] p) && !gc (Dc a b (j + 1)) (Mc a b[j]) p) = Dc a b j p := by
  by_cases hp : p < a.length
  · obtain ⟨i, e1⟩ : ∃ i, a.length - 1 - p = i := ⟨_, rfl⟩
    have hi : i < a.length := by omega
    rw [gc_dc hj p (by omega), mc_at hp e1 hi]
    unfold Dc
    have e2 : a.length - p = i + 1 := by omega
    rw [decide_eq_true hp, e2, e1]
    have h1 := tb_down a b i j
    have h2 := tb_down a b i (j + 1)
    have h3 := tb_right a b i j
    have h4 := tb_right a b (i + 1) j
    by_cases e : a[i] = b[j]
    · have h5 := tb_yes hi hj e
      rw [decide_eq_true e]
      simp
      rw [← decide_not, decide_eq_decide]; omega
    · have h5 := tb_no hi hj e
      rw [decide_eq_false e]
      simp
      rw [← decide_not, ← Bool.decide_and, decide_eq_decide]; omega
  · have e1 : Mc a b[j] p = false := by
      unfold Mc; rw [List.getElem?_eq_none (show a.reverse.length ≤ p by rw [List.length_reverse]; omega)]; simp
    unfold Dc
    rw [decide_eq_false hp, e1]; rfl

/-! ### Counting -/
def bsum (f : Nat → Bool) : Nat → Nat
  | 0 => 0
  | k + 1 => bsum f k + (f k).toNat
theorem bsum_dc (a b : List Int) (j : Nat) : ∀ p, p ≤ a.length → bsum (Dc a b j) p = tb a b (a.length - p) j
  | 0, _ => by rw [Nat.sub_zero, tb_end a b _ j (Nat.le_refl _)]; rfl
  | p + 1, hp => by
    show bsum (Dc a b j) p + _ = _
    rw [bsum_dc a b j p (by omega)]
    have e2 : a.length - p = a.length - (p + 1) + 1 := by omega
    have h1 := tb_down a b (a.length - (p + 1)) j
    unfold Dc
    rw [decide_eq_true (show p < a.length by omega), show a.length - 1 - p = a.length - (p + 1) by omega, e2]
    by_cases e : tb a b (a.length - (p + 1)) j = tb a b (a.length - (p + 1) + 1) j + 1
    · rw [decide_eq_true e]; simp; omega
    · rw [decide_eq_false e]; simp; omega
theorem bsum_over (f : Nat → Bool) (n : Nat) (h : ∀ p, n ≤ p → f p = false) : ∀ m, n ≤ m → bsum f m = bsum f n
  | 0, hm => by rw [show n = 0 by omega]
  | m + 1, hm => by
    by_cases e : n = m + 1
    · rw [e]
    · show bsum f m + _ = _
      rw [bsum_over f n h m (by omega), h m (by omega)]; rfl
theorem bsum_all (a b : List Int) (j m : Nat) (hm : a.length ≤ m) : bsum (Dc a b j) m = tb a b 0 j := by
  rw [bsum_over _ a.length (fun p hp => by unfold Dc; rw [decide_eq_false (by omega)]; rfl) m hm, bsum_dc a b j _ (Nat.le_refl _), Nat.sub_self]
theorem bsum_add (f : Nat → Bool) (n : Nat) : ∀ k, bsum f (n + k) = bsum f n + bsum (fun i => f (n + i)) k
  | 0 => rfl
  | k + 1 => by
    show bsum f (n + k) + _ = _
    rw [bsum_add f n k]
    show _ = bsum f n + (bsum (fun i => f (n + i)) k + (f (n + k)).toNat)
    rw [Nat.add_assoc]; rfl
theorem bsum_congr {f g : Nat → Bool} : ∀ k, (∀ i, i < k → f i = g i) → bsum f k = bsum g k
  | 0, _ => rfl
  | k + 1, h => by
    show bsum f k + _ = bsum g k + _
    rw [bsum_congr k (fun i hi => h i (by omega)), h k (by omega)]
def pc (x : Nat) : Nat := bsum x.testBit 64
/-- All words' ones. -/
def wsum (X : Nat → Nat) : Nat → Nat
  | 0 => 0
  | q + 1 => wsum X q + pc (X q)
theorem wsum_bits (X : Nat → Nat) : ∀ W, wsum X W = bsum (wb X) (64 * W)
  | 0 => rfl
  | W + 1 => by
    show wsum X W + pc (X W) = _
    rw [wsum_bits X W, Nat.mul_succ, bsum_add]
    congr 1
    refine bsum_congr 64 (fun i hi => ?_)
    unfold wb
    rw [show (64 * W + i) / 64 = W by omega, show (64 * W + i) % 64 = i by omega]
theorem bsum_le (f : Nat → Bool) : ∀ k, bsum f k ≤ k
  | 0 => Nat.le_refl _
  | k + 1 => by
    show bsum f k + _ ≤ _
    have := bsum_le f k
    have := Bool.toNat_le (f k)
    omega

/-! ### Ones of a word, as the library counts them -/
theorem and_split {u v m l : Nat} (hv : v < 256) (hl : l < 256) : (256 * u + v) &&& (256 * m + l) = 256 * (u &&& m) + (v &&& l) := by
  have hvl : v &&& l < 2 ^ 8 := Nat.lt_of_le_of_lt Nat.and_le_left hv
  apply Nat.eq_of_testBit_eq
  intro i
  rw [show (256 : Nat) = 2 ^ 8 from rfl, Nat.testBit_and, Nat.testBit_two_pow_mul_add _ hv, Nat.testBit_two_pow_mul_add _ hl, Nat.testBit_two_pow_mul_add _ hvl]
  split <;> rw [Nat.testBit_and]
def msk8 (c : Nat) : Nat → Nat
  | 0 => 0
  | k + 1 => 256 * msk8 c k + c
def s1 (k x : Nat) : Nat := (x / 2 &&& msk8 85 k) + (x &&& msk8 85 k)
def s2 (k x : Nat) : Nat := (x / 4 &&& msk8 51 k) + (x &&& msk8 51 k)
def s3 (k x : Nat) : Nat := (x / 16 + x) &&& msk8 15 k
def v1 (r : Nat) : Nat := (r / 2 &&& 85) + (r &&& 85)
def v2 (r : Nat) : Nat := (r / 4 &&& 51) + (r &&& 51)
def v3 (r : Nat) : Nat := (r / 16 + r) &&& 15
theorem t1 : ∀ r, r < 256 → v1 r < 171 ∧ (128 * 0 + r / 2) &&& 85 = r / 2 &&& 85 ∧ (128 * 1 + r / 2) &&& 85 = r / 2 &&& 85 := by decide +kernel
theorem t2 : ∀ r, r < 256 → v2 r < 103 ∧ ∀ e, e < 4 → (64 * e + r / 4) &&& 51 = r / 4 &&& 51 := by decide +kernel
theorem t3 : ∀ r, r < 256 → v2 (v1 r) % 16 ≤ 4 ∧ v2 (v1 r) / 16 ≤ 4 ∧ v3 (v2 (v1 r)) = bsum r.testBit 8 := by decide +kernel
theorem s1_step (k u v : Nat) (hv : v < 256) : s1 (k + 1) (256 * u + v) = 256 * s1 k u + v1 v := by
  obtain ⟨_, h0, h1⟩ := t1 v hv
  unfold s1
  show ((256 * u + v) / 2 &&& (256 * msk8 85 k + 85)) + ((256 * u + v) &&& (256 * msk8 85 k + 85)) = _
  rw [show (256 * u + v) / 2 = 256 * (u / 2) + (128 * (u % 2) + v / 2) by omega, and_split (by omega) (by omega), and_split hv (by omega)]
  have : (128 * (u % 2) + v / 2) &&& 85 = v / 2 &&& 85 := by
    rcases Nat.mod_two_eq_zero_or_one u with e | e <;> rw [e] <;> assumption
  rw [this]
  unfold v1; omega
theorem s2_step (k u v : Nat) (hv : v < 256) : s2 (k + 1) (256 * u + v) = 256 * s2 k u + v2 v := by
  obtain ⟨_, h1⟩ := t2 v hv
  unfold s2
  show ((256 * u + v) / 4 &&& (256 * msk8 51 k + 51)) + ((256 * u + v) &&& (256 * msk8 51 k + 51)) = _
  rw [show (256 * u + v) / 4 = 256 * (u / 4) + (64 * (u % 4) + v / 4) by omega, and_split (by omega) (by omega), and_split hv (by omega), h1 (u % 4) (by omega)]
  unfold v2; omega
theorem s3_step (k u v : Nat) (hv1 : v % 16 ≤ 4) (hv2 : v / 16 ≤ 4) (hu : u % 16 ≤ 4) : s3 (k + 1) (256 * u + v) = 256 * s3 k u + v3 v := by
  unfold s3 v3
  show ((256 * u + v) / 16 + (256 * u + v)) &&& (256 * msk8 15 k + 15) = _
  rw [show (256 * u + v) / 16 + (256 * u + v) = 256 * (u / 16 + u) + (16 * (u % 16) + v / 16 + v) by omega, and_split (by omega) (by omega)]
  have e : ∀ x : Nat, x &&& 15 = x % 16 := fun x => Nat.and_two_pow_sub_one_eq_mod x 4
  rw [e (16 * (u % 16) + v / 16 + v), e (v / 16 + v)]
  omega
def by8 : Nat → Nat → Nat
  | 0, _ => 0
  | k + 1, x => 256 * by8 k (x / 256) + bsum (x % 256).testBit 8
theorem s_by8 : ∀ k x, x < 256 ^ k → s3 k (s2 k (s1 k x)) = by8 k x ∧ s2 k (s1 k x) % 16 ≤ 4
  | 0, x, h => by
    have : x = 0 := by simpa using h
    subst this
    exact ⟨by decide, by decide⟩
  | k + 1, x, h => by
    have hd : x / 256 < 256 ^ k := by
      rw [Nat.pow_succ] at h
      exact Nat.div_lt_of_lt_mul (by rw [Nat.mul_comm]; exact h)
    obtain ⟨i1, i2⟩ := s_by8 k (x / 256) hd
    have hm : x % 256 < 256 := Nat.mod_lt _ (by decide)
    obtain ⟨k1, k2, k3⟩ := t3 _ hm
    have e : x = 256 * (x / 256) + x % 256 := by omega
    have hv : v1 (x % 256) < 256 := by have := (t1 _ hm).1; omega
    have e2 : s2 (k + 1) (s1 (k + 1) x) = 256 * s2 k (s1 k (x / 256)) + v2 (v1 (x % 256)) := by
      conv => lhs; rw [e]
      rw [s1_step _ _ _ hm, s2_step _ _ _ hv]
    rw [e2]
    refine ⟨?_, by omega⟩
    rw [s3_step _ _ _ k1 k2 i2, i1, k3]
    rfl
/-- The digits' sum. -/
def dsum : Nat → Nat → Nat
  | 0, _ => 0
  | k + 1, x => dsum k (x / 256) + bsum (x % 256).testBit 8
theorem dsum_bits : ∀ k x, dsum k x = bsum x.testBit (8 * k)
  | 0, _ => rfl
  | k + 1, x => by
    show dsum k (x / 256) + _ = _
    rw [dsum_bits k (x / 256), Nat.mul_succ, Nat.add_comm (8 * k) 8, bsum_add, Nat.add_comm]
    congr 1
    · refine bsum_congr 8 (fun i hi => ?_)
      rw [show (256 : Nat) = 2 ^ 8 from rfl, Nat.testBit_mod_two_pow]
      simp [hi]
    · refine bsum_congr _ (fun i hi => ?_)
      rw [show (256 : Nat) = 2 ^ 8 from rfl, Nat.testBit_div_two_pow, Nat.add_comm]
def ones (x : Nat) : Nat :=
  let y := s3 8 (s2 8 (s1 8 x))
  let a := y + y / 256
  let b := a + a / 65536
  (b + b / 4294967296) % 128
theorem ones_sum (y1 y2 y3 y4 y5 y6 y7 y8 : Nat) (l1 : y1 ≤ 8) (l2 : y2 ≤ 8) (l3 : y3 ≤ 8) (l4 : y4 ≤ 8) (l5 : y5 ≤ 8) (l6 : y6 ≤ 8) (l7 : y7 ≤ 8) (l8 : y8 ≤ 8) :
    let y := 256 * (256 * (256 * (256 * (256 * (256 * (256 * (256 * 0 + y8) + y7) + y6) + y5) + y4) + y3) + y2) + y1
    let a := y + y / 256
    let b := a + a / 65536
    (b + b / 4294967296) % 128 = 0 + y8 + y7 + y6 + y5 + y4 + y3 + y2 + y1 := by
  intro y a b
  obtain ⟨p7, h7⟩ : ∃ p7, 256 * 0 + y8 = p7 := ⟨_, rfl⟩
  obtain ⟨p6, h6⟩ : ∃ p6, 256 * p7 + y7 = p6 := ⟨_, rfl⟩
  obtain ⟨p5, h5⟩ : ∃ p5, 256 * p6 + y6 = p5 := ⟨_, rfl⟩
  obtain ⟨p4, h4⟩ : ∃ p4, 256 * p5 + y5 = p4 := ⟨_, rfl⟩
  obtain ⟨p3, h3⟩ : ∃ p3, 256 * p4 + y4 = p3 := ⟨_, rfl⟩
  obtain ⟨p2, h2⟩ : ∃ p2, 256 * p3 + y3 = p2 := ⟨_, rfl⟩
  obtain ⟨p1, h1⟩ : ∃ p1, 256 * p2 + y2 = p1 := ⟨_, rfl⟩
  have hy : y = 256 * p1 + y1 := by show 256 * (256 * (256 * (256 * (256 * (256 * (256 * (256 * 0 + y8) + y7) + y6) + y5) + y4) + y3) + y2) + y1 = _; rw [h7, h6, h5, h4, h3, h2, h1]
  have da : y / 256 = p1 := by rw [hy]; clear h1 h2 h3 h4 h5 h6 h7 hy; omega
  have ha : a = 65536 * (p2 + p3) + (256 * (y2 + y3) + (y1 + y2)) := by
    show y + y / 256 = _
    rw [da, hy, ← h1, ← h2]; clear h1 h2 h3 h4 h5 h6 h7 hy da; omega
  have db : a / 65536 = p2 + p3 := by rw [ha]; clear h1 h2 h3 h4 h5 h6 h7 hy ha da; omega
  have hq : p2 + p3 = 65536 * (p4 + p5) + (256 * (y4 + y5) + (y3 + y4)) := by rw [← h2, ← h3, ← h4]; clear h1 h2 h3 h4 h5 h6 h7 hy ha da db; omega
  have hq2 : p4 + p5 = 65536 * (p6 + p7) + (256 * (y6 + y7) + (y5 + y6)) := by rw [← h4, ← h5, ← h6]; clear h1 h2 h3 h4 h5 h6 h7 hy ha da db hq; omega
  have hb : b = 65536 * (p2 + p3) + (256 * (y2 + y3) + (y1 + y2)) + (p2 + p3) := by show a + a / 65536 = _; rw [db, ha]
  have dc : b / 4294967296 = (p4 + p5) + (p6 + p7) := by
    rw [hb, hq, hq2]; clear h1 h2 h3 h4 h5 h6 h7 hy ha da db hq hq2 hb
    generalize p6 + p7 = r; omega
  have hr : p6 + p7 = 256 * y8 + (y7 + y8) := by rw [← h6, ← h7]; clear h1 h2 h3 h4 h5 h6 h7 hy ha da db hq hq2 hb dc; omega
  rw [dc, hb, hq, hq2, hr]
  clear h1 h2 h3 h4 h5 h6 h7 hy ha da db hq hq2 hb dc hr
  omega
theorem ones_eq (x : Nat) (hx : x < 2 ^ 64) : ones x = pc x := by
  have h := (s_by8 8 x (by rw [show (256 : Nat) ^ 8 = 2 ^ 64 from by decide]; exact hx)).1
  unfold ones pc
  rw [show (64 : Nat) = 8 * 8 from rfl, ← dsum_bits]
  rw [h]
  simp only [by8, dsum]
  have l1 := bsum_le (x % 256).testBit 8
  have l2 := bsum_le (x / 256 % 256).testBit 8
  have l3 := bsum_le (x / 256 / 256 % 256).testBit 8
  have l4 := bsum_le (x / 256 / 256 / 256 % 256).testBit 8
  have l5 := bsum_le (x / 256 / 256 / 256 / 256 % 256).testBit 8
  have l6 := bsum_le (x / 256 / 256 / 256 / 256 / 256 % 256).testBit 8
  have l7 := bsum_le (x / 256 / 256 / 256 / 256 / 256 / 256 % 256).testBit 8
  have l8 := bsum_le (x / 256 / 256 / 256 / 256 / 256 / 256 / 256 % 256).testBit 8
  generalize bsum (x % 256).testBit 8 = y1 at *
  generalize bsum (x / 256 % 256).testBit 8 = y2 at *
  generalize bsum (x / 256 / 256 % 256).testBit 8 = y3 at *
  generalize bsum (x / 256 / 256 / 256 % 256).testBit 8 = y4 at *
  generalize bsum (x / 256 / 256 / 256 / 256 % 256).testBit 8 = y5 at *
  generalize bsum (x / 256 / 256 / 256 / 256 / 256 % 256).testBit 8 = y6 at *
  generalize bsum (x / 256 / 256 / 256 / 256 / 256 / 256 % 256).testBit 8 = y7 at *
  generalize bsum (x / 256 / 256 / 256 / 256 / 256 / 256 / 256 % 256).testBit 8 = y8 at *
  clear h hx
  refine ones_sum y1 y2 y3 y4 y5 y6 y7 y8 l1 l2 l3 l4 l5 l6 l7 l8

/-! ### Where a number stands, as words -/
def addw (l : List (Nat × Nat)) (k : Nat) : List (Nat × Nat) :=
  match l with
  | [] => [(k / 64, 2 ^ (k % 64))]
  | (q, b) :: t => if q = k / 64 then (q, b ||| 2 ^ (k % 64)) :: t else (k / 64, 2 ^ (k % 64)) :: (q, b) :: t
def rpl (f : Nat → Bool) : Nat → List (Nat × Nat)
  | 0 => []
  | k + 1 => if f k then addw (rpl f k) k else rpl f k
def msk : List (Nat × Nat) → Nat → Nat
  | [], _ => 0
  | (a, b) :: t, q => if a = q then b else msk t q
theorem msk_none {l : List (Nat × Nat)} {q : Nat} (h : ∀ p ∈ l, p.1 ≠ q) : msk l q = 0 := by
  induction l with
  | nil => rfl
  | cons p t ih =>
    obtain ⟨a, b⟩ := p
    show (if a = q then b else msk t q) = 0
    rw [if_neg (h (a, b) (List.mem_cons_self ..)), ih (fun p hp => h p (List.mem_cons_of_mem _ hp))]
theorem msk_append {d r : List (Nat × Nat)} {q : Nat} (h : ∀ p ∈ d, p.1 ≠ q) : msk (d ++ r) q = msk r q := by
  induction d with
  | nil => rfl
  | cons p t ih =>
    obtain ⟨a, b⟩ := p
    show (if a = q then b else msk (t ++ r) q) = _
    rw [if_neg (h (a, b) (List.mem_cons_self ..)), ih (fun p hp => h p (List.mem_cons_of_mem _ hp))]
theorem msk_append2 {d r : List (Nat × Nat)} {q : Nat} (h : ∀ p ∈ r, p.1 ≠ q) : msk (d ++ r) q = msk d q := by
  induction d with
  | nil => exact msk_none h
  | cons p t ih =>
    obtain ⟨a, b⟩ := p
    show (if a = q then b else msk (t ++ r) q) = if a = q then b else msk t q
    rw [ih]
theorem msk_reverse {l : List (Nat × Nat)} (h : l.Pairwise (fun p q => q.1 < p.1)) (q : Nat) : msk l.reverse q = msk l q := by
  induction l with
  | nil => rfl
  | cons p t ih =>
    obtain ⟨a, b⟩ := p
    rw [List.pairwise_cons] at h
    rw [List.reverse_cons]
    show _ = if a = q then b else msk t q
    by_cases e : a = q
    · rw [if_pos e, msk_append (fun p hp => by have := h.1 p (List.mem_reverse.1 hp); simp at this; omega)]
      show (if a = q then b else 0) = b
      rw [if_pos e]
    · rw [if_neg e, msk_append2 (fun p hp => by simp at hp; subst hp; exact e), ih h.2]
theorem msk_mem {l : List (Nat × Nat)} {q : Nat} (h : msk l q ≠ 0) : (q, msk l q) ∈ l := by
  induction l with
  | nil => exact absurd rfl h
  | cons p t ih =>
    obtain ⟨a, b⟩ := p
    by_cases e : a = q
    · subst e
      rw [show msk ((a, b) :: t) a = b from if_pos rfl]; exact List.mem_cons_self ..
    · rw [show msk ((a, b) :: t) q = msk t q from if_neg e] at h ⊢
      exact List.mem_cons_of_mem _ (ih h)
theorem msk_lt {l : List (Nat × Nat)} (h : ∀ p ∈ l, p.2 < 2 ^ 64) (q : Nat) : msk l q < 2 ^ 64 := by
  by_cases e : msk l q = 0
  · rw [e]; decide
  · exact h _ (msk_mem e)
theorem rpl_ok (f : Nat → Bool) : ∀ k, (rpl f k).Pairwise (fun p q => q.1 < p.1) ∧ (∀ p ∈ rpl f k, 64 * p.1 < k ∧ p.2 < 2 ^ 64) ∧ ∀ p, wb (msk (rpl f k)) p = (decide (p < k) && f p)
  | 0 => ⟨List.Pairwise.nil, ⟨fun p (hp : p ∈ []) => absurd hp List.not_mem_nil, fun p => by simp [rpl, wb, msk]⟩⟩
  | k + 1 => by
    obtain ⟨h1, h2, h3⟩ := rpl_ok f k
    show (if f k then addw (rpl f k) k else rpl f k).Pairwise _ ∧ (∀ p ∈ (if f k then addw (rpl f k) k else rpl f k), _) ∧ ∀ p, wb (msk (if f k then addw (rpl f k) k else rpl f k)) p = _
    by_cases hf : f k = true
    · rw [if_pos hf]
      have hb : (2 : Nat) ^ (k % 64) < 2 ^ 64 := Nat.pow_lt_pow_right (by decide) (Nat.mod_lt _ (by decide))
      have key : ∀ p : Nat, p ≠ k → p / 64 = k / 64 → (2 ^ (k % 64)).testBit (p % 64) = false := fun p hp he => by
        rw [Nat.testBit_two_pow]; simp; omega
      have self : (2 ^ (k % 64)).testBit (k % 64) = true := by rw [Nat.testBit_two_pow]; simp
      generalize rpl f k = l at *
      match l, h1, h2, h3 with
      | [], h1, h2, h3 =>
        refine ⟨by simp [addw], fun p hp => ?_, fun p => ?_⟩
        · simp [addw] at hp; subst hp; exact ⟨by show 64 * (k / 64) < _; omega, hb⟩
        · have h4 := h3 p
          unfold wb at h4 ⊢
          show (if k / 64 = p / 64 then 2 ^ (k % 64) else 0 : Nat).testBit _ = _
          by_cases e : p = k
          · subst e; rw [if_pos rfl, self, hf]; simp
          · by_cases e2 : k / 64 = p / 64
            · rw [if_pos e2, key p e e2.symm]
              simp [msk] at h4
              by_cases e3 : p < k
              · simp [e3] at h4; simp [h4]
              · simp; intro; omega
            · rw [if_neg e2]
              simp [msk] at h4
              simp
              by_cases e3 : p < k
              · intro; exact h4 e3
              · intro; omega
      | (q, b) :: t, h1, h2, h3 =>
        rw [List.pairwise_cons] at h1
        have hq := h2 (q, b) (List.mem_cons_self ..)
        simp only at hq
        by_cases e : q = k / 64
        · rw [show addw ((q, b) :: t) k = (q, b ||| 2 ^ (k % 64)) :: t from if_pos e]
          refine ⟨List.pairwise_cons.2 ⟨h1.1, h1.2⟩, fun p hp => ?_, fun p => ?_⟩
          · rcases List.mem_cons.1 hp with rfl | hp
            · exact ⟨by show 64 * q < _; omega, Nat.or_lt_two_pow hq.2 hb⟩
            · have := h2 p (List.mem_cons_of_mem _ hp); exact ⟨by omega, this.2⟩
          · have h4 := h3 p
            unfold wb at h4 ⊢
            rw [show msk ((q, b) :: t) (p / 64) = if q = p / 64 then b else msk t (p / 64) from rfl] at h4
            rw [show msk ((q, b ||| 2 ^ (k % 64)) :: t) (p / 64) = if q = p / 64 then b ||| 2 ^ (k % 64) else msk t (p / 64) from rfl]
            by_cases e2 : q = p / 64
            · rw [if_pos e2] at h4 ⊢
              rw [Nat.testBit_or, h4]
              by_cases e3 : p = k
              · subst e3; rw [self, hf]; simp
              · rw [key p e3 (by omega), Bool.or_false]
                by_cases e4 : p < k
                · rw [decide_eq_true e4, decide_eq_true (show p < k + 1 by omega)]
                · rw [decide_eq_false e4, decide_eq_false (show ¬ p < k + 1 by omega)]
            · rw [if_neg e2] at h4 ⊢
              rw [h4]
              have : p ≠ k := fun h => by subst h; exact e2 e
              by_cases e4 : p < k
              · rw [decide_eq_true e4, decide_eq_true (show p < k + 1 by omega)]
              · rw [decide_eq_false e4, decide_eq_false (show ¬ p < k + 1 by omega)]
        · rw [show addw ((q, b) :: t) k = (k / 64, 2 ^ (k % 64)) :: (q, b) :: t from if_neg e]
          have hlt : q < k / 64 := by omega
          refine ⟨List.pairwise_cons.2 ⟨fun p hp => ?_, List.pairwise_cons.2 h1⟩, fun p hp => ?_, fun p => ?_⟩
          · rcases List.mem_cons.1 hp with rfl | hp
            · exact hlt
            · have := h1.1 p hp; simp only at this ⊢; omega
          · rcases List.mem_cons.1 hp with rfl | hp
            · exact ⟨by show 64 * (k / 64) < _; omega, hb⟩
            · have := h2 p hp; exact ⟨by omega, this.2⟩
          · have h4 := h3 p
            unfold wb at h4 ⊢
            rw [show msk ((k / 64, 2 ^ (k % 64)) :: (q, b) :: t) (p / 64) = if k / 64 = p / 64 then 2 ^ (k % 64) else msk ((q, b) :: t) (p / 64) from rfl]
            by_cases e3 : p = k
            · subst e3; rw [if_pos rfl, self, hf]; simp
            · by_cases e2 : k / 64 = p / 64
              · rw [if_pos e2, key p e3 e2.symm]
                have hz : msk ((q, b) :: t) (p / 64) = 0 := msk_none (fun x hx => by
                  rcases List.mem_cons.1 hx with rfl | hx
                  · show q ≠ _; omega
                  · have := h1.1 x hx; simp only at this; omega)
                rw [hz, Nat.zero_testBit] at h4
                by_cases e4 : p < k
                · rw [decide_eq_true e4] at h4
                  rw [decide_eq_true (show p < k + 1 by omega)]; exact h4
                · rw [decide_eq_false (show ¬ p < k + 1 by omega)]; rfl
              · rw [if_neg e2, h4]
                by_cases e4 : p < k
                · rw [decide_eq_true e4, decide_eq_true (show p < k + 1 by omega)]
                · rw [decide_eq_false e4, decide_eq_false (show ¬ p < k + 1 by omega)]
    · have hf' : f k = false := by simpa using hf
      rw [if_neg hf]
      refine ⟨h1, fun p hp => ⟨by have := (h2 p hp).1; omega, (h2 p hp).2⟩, fun p => ?_⟩
      rw [h3 p]
      by_cases e : p = k
      · subst e; rw [hf']; simp
      · by_cases e4 : p < k
        · rw [decide_eq_true e4, decide_eq_true (show p < k + 1 by omega)]
        · rw [decide_eq_false e4, decide_eq_false (show ¬ p < k + 1 by omega)]
/-- Where x stands in a, the words in order. -/
def pls (a : List Int) (x : Int) : List (Nat × Nat) := (rpl (Mc a x) a.length).reverse
theorem pls_rise (a : List Int) (x : Int) : (pls a x).Pairwise (fun p q => p.1 < q.1) := List.pairwise_reverse.2 (rpl_ok _ _).1
theorem pls_in (a : List Int) (x : Int) : ∀ p ∈ pls a x, p.1 < (a.length + 63) / 64 ∧ p.2 < 2 ^ 64 := fun p hp => by
  have := (rpl_ok (Mc a x) a.length).2.1 p (List.mem_reverse.1 hp)
  exact ⟨by omega, this.2⟩
theorem pls_bits (a : List Int) (x : Int) (p : Nat) : wb (msk (pls a x)) p = Mc a x p := by
  have h := (rpl_ok (Mc a x) a.length).2.2 p
  have e : msk (pls a x) = msk (rpl (Mc a x) a.length) := funext (fun q => msk_reverse (rpl_ok _ _).1 q)
  rw [e, h]
  by_cases hp : p < a.length
  · rw [decide_eq_true hp]; rfl
  · rw [decide_eq_false hp]
    unfold Mc; rw [List.getElem?_eq_none (show a.reverse.length ≤ p by rw [List.length_reverse]; omega)]; simp
/-- A column, in words. -/
structure IsCol (a b : List Int) (j : Nat) (X : Nat → Nat) : Prop where
  lt : ∀ q, X q < 2 ^ 64
  bit : ∀ p, wb X p = Dc a b j p
theorem isCol_end (a b : List Int) : IsCol a b b.length (fun _ => 0) := ⟨fun _ => by decide, fun p => by rw [dc_end a b _ p (Nat.le_refl _)]; simp [wb]⟩
theorem IsCol.step {a b : List Int} {j : Nat} {X : Nat → Nat} (h : IsCol a b (j + 1) X) (hj : j < b.length) : IsCol a b j (nw X (msk (pls a b[j]))) := by
  have hM : ∀ q, msk (pls a b[j]) q < 2 ^ 64 := msk_lt (fun p hp => (pls_in a _ p hp).2)
  refine ⟨nw_lt _ _, fun p => ?_⟩
  rw [nw_bit X _ h.lt hM]
  have e1 : wb X = Dc a b (j + 1) := funext h.bit
  have e2 : wb (msk (pls a b[j])) = Mc a b[j] := funext (pls_bits a _)
  rw [e1, e2]
  exact step_dc hj p
theorem IsCol.count {a b : List Int} {j : Nat} {X : Nat → Nat} (h : IsCol a b j X) : wsum X ((a.length + 63) / 64) = tb a b 0 j := by
  rw [wsum_bits, show wb X = Dc a b j from funext h.bit, bsum_all a b j _ (by omega)]
theorem IsCol.has {a b : List Int} {j : Nat} {X : Nat → Nat} (h : IsCol a b j X) {i : Nat} (hi : i < a.length) : (X ((a.length - 1 - i) / 64)).testBit ((a.length - 1 - i) % 64) = decide (tb a b i j = tb a b (i + 1) j + 1) := by
  have := h.bit (a.length - 1 - i)
  unfold wb Dc at this
  rw [this, decide_eq_true (show a.length - 1 - i < a.length by omega), show a.length - 1 - (a.length - 1 - i) = i by omega, show a.length - (a.length - 1 - i) = i + 1 by omega]
  rfl
theorem IsCol.zero {a b : List Int} {j : Nat} {X : Nat → Nat} (h : IsCol a b j X) {q : Nat} (hq : (a.length + 63) / 64 ≤ q) : X q = 0 := by
  apply Nat.eq_of_testBit_eq
  intro i
  rw [Nat.zero_testBit]
  by_cases hi : i < 64
  · have := h.bit (64 * q + i)
    unfold wb Dc at this
    rw [show (64 * q + i) / 64 = q by omega, show (64 * q + i) % 64 = i by omega, decide_eq_false (by omega)] at this
    exact this
  · exact Nat.testBit_lt_two_pow (Nat.lt_of_lt_of_le (h.lt q) (Nat.pow_le_pow_right (by decide) (by omega)))
end Go.Proofs.YtldllbmbcnipoaaDoor.Lcx

namespace Go.Proofs.YtldllbmbcnipoaaDoor.Lp
open Go.RowKit Go.Proofs.YtldllbmbcnipoaaDoor.Cm Go.Proofs.YtldllbmbcnipoaaDoor.Lc Go.Proofs.YtldllbmbcnipoaaDoor.Lcx
set_option linter.unusedVariables false

/-- What lay there lies there still, but for some blocks. -/
structure Keep (S : Nat → Prop) (w w' : World) : Prop where
  os : w'.os = w.os
  tape : w'.tape = w.tape
  output : w'.output = w.output
  size : w.heap.size ≤ w'.heap.size
  block : ∀ k, k < w.heap.size → ¬ S k → w'.heap[k]? = w.heap[k]?
theorem Keep.refl (S : Nat → Prop) (w : World) : Keep S w w := ⟨rfl, rfl, rfl, Nat.le_refl _, fun _ _ _ => rfl⟩
theorem Keep.trans {S : Nat → Prop} {a b c : World} (h : Keep S a b) (k : Keep S b c) : Keep S a c :=
  ⟨k.os.trans h.os, k.tape.trans h.tape, k.output.trans h.output, Nat.le_trans h.size k.size, fun i hi hs => (k.block i (Nat.lt_of_lt_of_le hi h.size) hs).trans (h.block i hi hs)⟩
theorem Keep.mono {S T : Nat → Prop} {a b : World} (h : Keep S a b) (hST : ∀ k, k < a.heap.size → S k → T k) : Keep T a b :=
  ⟨h.os, h.tape, h.output, h.size, fun i hi ht => h.block i hi (fun hs => ht (hST i hi hs))⟩
theorem Keep.below {S : Nat → Prop} {a b : World} {B : Nat} (h : Keep S a b) (hS : ∀ k, S k → B ≤ k) (hB : B ≤ a.heap.size) : Below B a b :=
  ⟨h.os, h.tape, h.output, h.size, fun k hk => h.block k (by omega) (fun hs => by have := hS k hs; omega)⟩
theorem Keep.of_below {S : Nat → Prop} {a b : World} (h : Below a.heap.size a b) : Keep S a b :=
  ⟨h.os, h.tape, h.output, h.size, fun k hk _ => h.block k hk⟩
theorem Keep.alloc {S : Nat → Prop} {a w : World} (h : Keep S a w) (o : Obj) : Keep S a (w.alloc o) :=
  h.trans ⟨rfl, rfl, rfl, by simp, fun k hk _ => Below.heap_alloc _ _ _ hk⟩
theorem Keep.setCell {S : Nat → Prop} {a w : World} (h : Keep S a w) {p : Addr} (hp : S p.block ∨ a.heap.size ≤ p.block) (u : Value) : Keep S a (w.setCell p u) :=
  ⟨h.os, h.tape, h.output, by simpa [World.setCell] using h.size, fun k hk hs => (Below.heap_setCell _ _ _ _ (fun e => by
    subst e; rcases hp with hp | hp
    · exact hs hp
    · omega)).trans (h.block k hk hs)⟩
theorem Keep.drew {S : Nat → Prop} {a w : World} (h : Keep S a w) : Keep S a w.drew := ⟨h.os, h.tape, h.output, h.size, h.block⟩
theorem Keep.drewN {S : Nat → Prop} {a w : World} (h : Keep S a w) (n : Nat) : Keep S a (w.drewN n) := ⟨h.os, h.tape, h.output, h.size, h.block⟩
theorem Keep.grown {S : Nat → Prop} {a w w' : World} {row : Option Nat} (h : Keep S a w) (hg : w.grownBy w' row) (hr : ∀ k, row = some k → S k ∨ a.heap.size ≤ k) : Keep S a w' :=
  ⟨hg.os.trans h.os, hg.tape.trans h.tape, hg.output.trans h.output, Nat.le_trans h.size hg.size, fun k hk hs => (hg.block k (Nat.lt_of_lt_of_le hk h.size) (fun e => by
    rcases hr k e.symm with h1 | h1
    · exact hs h1
    · omega)).trans (h.block k hk hs)⟩
theorem Keep.at {S : Nat → Prop} {a b : World} (h : Keep S a b) {k : Nat} {o : Obj} (hk : a.heap[k]? = some o) (hs : ¬ S k) : b.heap[k]? = some o :=
  (h.block k (Array.getElem?_eq_some_iff.1 hk).1 hs).trans hk
theorem lt_of_at {w : World} {k : Nat} {o : Obj} (hk : w.heap[k]? = some o) : k < w.heap.size := (Array.getElem?_eq_some_iff.1 hk).1
theorem cell_at {w : World} {b : Nat} {c : Array Value} {t : TypeId} {f : Nat × Nat} (h : w.heap[b]? = some (.cells c t f)) (i : Nat) : w.cell? ⟨b, i, none⟩ = c[i]? := by simp [World.cell?, h]
theorem frozen_at {w : World} {b : Nat} {c : Array Value} {t : TypeId} (h : w.heap[b]? = some (.cells c t (0, 0))) (i : Nat) : w.frozen? ⟨b, i, none⟩ = false := by simp [World.frozen?, h]
theorem set_at {w : World} {b : Nat} {c : Array Value} {t : TypeId} {f : Nat × Nat} (h : w.heap[b]? = some (.cells c t f)) (i : Nat) (v : Value) : (w.setCell ⟨b, i, none⟩ v).heap[b]? = some (.cells (c.setIfInBounds i v) t f) := by
  simp [World.setCell, Array.getElem?_modify, h]
theorem set_other {w : World} {b b' : Nat} {o : Obj} (h : w.heap[b]? = some o) {i : Nat} {v : Value} (hne : b ≠ b') : (w.setCell ⟨b', i, none⟩ v).heap[b]? = some o :=
  (Below.heap_setCell _ _ _ _ hne).trans h
theorem alloc_at {w : World} {b : Nat} {o : Obj} (h : w.heap[b]? = some o) (o' : Obj) : (w.alloc o').heap[b]? = some o :=
  (Below.heap_alloc _ _ _ (lt_of_at h)).trans h

theorem alloc_new (w : World) (o : Obj) : (w.alloc o).heap[w.heap.size]? = some o := by
  show (w.heap.push o)[w.heap.size]? = _
  simp

/-- The words of a column: the slice v, of W words, in block B. -/
def Wd (w : World) (v : Value) (W B : Nat) (X : Nat → Nat) : Prop :=
  (W = 0 ∧ ∃ ao c, v = .slice ao 0 c) ∨
  (0 < W ∧ ∃ cap cur, v = .slice (some ⟨B, 0, none⟩) W cap ∧ W ≤ cap ∧ w.heap[B]? = some (.cells cur 104 (0, 0)) ∧ W ≤ cur.size ∧ ∀ q, q < W → cur[q]? = some (.int .u64 (X q)))
/-- A column. -/
def Col (w : World) (C : Nat) (v : Value) (W B : Nat) (X : Nat → Nat) (t : Nat) : Prop :=
  w.heap[C]? = some (.cells #[v, .int .i64 t] 114 (0, 0)) ∧ Wd w v W B X ∧ t ≤ W ∧ ∀ q, t ≤ q → X q = 0
theorem Wd.len {w : World} {v : Value} {W B : Nat} {X : Nat → Nat} (h : Wd w v W B X) : ∃ ao c, v = .slice ao W c := by
  rcases h with ⟨rfl, ao, c, rfl⟩ | ⟨_, cap, cur, rfl, _⟩
  · exact ⟨_, _, rfl⟩
  · exact ⟨_, _, rfl⟩
theorem Wd.keep {S : Nat → Prop} {w w' : World} {v : Value} {W B : Nat} {X : Nat → Nat} (h : Wd w v W B X) (k : Keep S w w') (hB : ¬ S B) : Wd w' v W B X := by
  rcases h with h | ⟨h0, cap, cur, h1, h2, h3, h4, h5⟩
  · exact .inl h
  · exact .inr ⟨h0, cap, cur, h1, h2, k.at h3 hB, h4, h5⟩
theorem Col.keep {S : Nat → Prop} {w w' : World} {C : Nat} {v : Value} {W B t : Nat} {X : Nat → Nat} (h : Col w C v W B X t) (k : Keep S w w') (hC : ¬ S C) (hB : ¬ S B) : Col w' C v W B X t :=
  ⟨k.at h.1 hC, h.2.1.keep k hB, h.2.2⟩
theorem keep_alloc (w : World) (o : Obj) : Keep (fun _ => False) w (w.alloc o) := (Keep.refl _ w).alloc o

/-! ### wordOf -/
theorem shl_one (s : Nat) (hs : s < 64) : IntKind.u64.wrap ((2 : Int) ^ s) = ((2 ^ s : Nat) : Int) := by
  have : (2 : Nat) ^ s < 2 ^ 64 := Nat.pow_lt_pow_right (by decide) hs
  have e : ((2 : Int) ^ s) = ((2 ^ s : Nat) : Int) := by simp
  rw [IntKind.wrap_u64, e]
  generalize 2 ^ s = y at *
  omega
set_option maxHeartbeats 800000 in
theorem wordOf_any (place len : Nat) (w : World) (h : place < len) (hl : len ≤ 1000000) :
    Calls Tryd.prog 81 #[.int .i64 place, .int .i64 len] w fun e w' => e = .returned (.agg #[.int .i64 ((len - 1 - place) / 64 : Nat), .int .u64 (2 ^ ((len - 1 - place) % 64) : Nat)]) ∧ Below w.heap.size w w' := by
  obtain ⟨l1, h1⟩ : ∃ l1, len - 1 = l1 := ⟨_, rfl⟩
  obtain ⟨p, hp⟩ : ∃ p, l1 - place = p := ⟨_, rfl⟩
  have e1 : IntKind.i64.wrap ((len : Int) - 1) = (l1 : Int) := by rw [IntKind.wrap_i64]; omega
  have e2 : IntKind.i64.wrap ((l1 : Int) - (place : Int)) = (p : Int) := by rw [IntKind.wrap_i64]; omega
  have e1' : (len : Int) - 1 = (l1 : Int) := by omega
  have e2' : (l1 : Int) - (place : Int) = (p : Int) := by omega
  have hpb : p ≤ 1000000 := by omega
  rw [h1, hp]
  clear h1 hp
  go_enter Tryd.func81, Tryd.ntmps81
  go_wp2_with fail
  rw [shl_one (p % 64) (by omega)]
  exact bodyPost_ret (v := .agg #[.int .i64 ((p : Int) / 64), .int .u64 ((2 ^ (p % 64) : Nat) : Int)]) (by simp [results, Tryd.results81, go_sem]) rfl ⟨by simp, (Below.refl _ w).alloc (Nat.le_refl _) _⟩

/-! ### columnOf, lastColumn -/
theorem columnOf_any (v : Value) (W B : Nat) (X : Nat → Nat) (w : World) (h : Wd w v W B X) (h0 : ∀ q, W ≤ q → X q = 0) (hW : W ≤ 1000000) :
    Calls Tryd.prog 82 #[v] w fun e w' => e = .returned (.pointer (some ⟨w.heap.size, 0, none⟩)) ∧ Col w' w.heap.size v W B X W ∧ Keep (fun _ => False) w w' := by
  obtain ⟨ao, c, rfl⟩ := h.len
  have H := Lib.hid h
  have H0 := Lib.hid h0
  clear h h0
  go_enter Tryd.func82, Tryd.ntmps82
  go_wp2_with fail
  go_ret
  have K := keep_alloc w (.cells #[.slice ao W c, .int .i64 W] 114)
  exact ⟨rfl, ⟨alloc_new w _, H.out.keep K (fun h => h), Nat.le_refl _, H0.out⟩, K⟩
theorem infoU : (Tryd.prog.info? 104).map (fun i => (i.zero, i.size, i.bytes)) = some (some (.int .u64 0), 1, 8) := by kernel_rfl
set_option maxHeartbeats 800000 in
theorem lastColumn_any (va : Value) (a : List Int) (w : World) (ha : Rz w va a) (hla : a.length ≤ 1000000) :
    Calls Tryd.prog 70 #[va] w fun e w' => ∃ C v B, e = .returned (.pointer (some ⟨C, 0, none⟩)) ∧ Col w' C v ((a.length + 63) / 64) B (fun _ => 0) ((a.length + 63) / 64) ∧ w.heap.size ≤ B ∧ w.heap.size ≤ C ∧ B ≠ C ∧ B < w'.heap.size ∧ Below w.heap.size w w' := by
  obtain ⟨ao, c, rfl⟩ := ha.len
  obtain ⟨i0, hi, hz0, hz1, hz2⟩ := info_parts infoU
  clear ha
  obtain ⟨n, hn⟩ : ∃ n, a.length + 63 = n := ⟨_, rfl⟩
  obtain ⟨W, hW⟩ : ∃ W, n / 64 = W := ⟨_, rfl⟩
  have e1 : IntKind.i64.wrap ((a.length : Int) + 63) = (n : Int) := by rw [IntKind.wrap_i64]; omega
  have e1' : (a.length : Int) + 63 = (n : Int) := by omega
  have e2 : (n : Int) / 64 = (W : Int) := by omega
  rw [hn, hW]
  have hWb : W ≤ 1000000 := by omega
  clear hn hW
  go_enter Tryd.func70, Tryd.ntmps70
  go_wp2_with (at_make; refine wpList_make_full _ rfl _ _ 112 rfl w.heap.size 104 i0 (.int .u64 0) 1 Tryd.underlying112 hi hz0 hz1 _ _ _ _ W rfl rfl rfl rfl (by rw [hz2]; omega) (by unfold maxLen; omega) (Nat.le_refl _) ?_)
  intro w2 hown hgrow
  have hB := (hown.lt _ rfl).2
  have hw : Wd w2 (.slice (some ⟨w.heap.size, 0, none⟩) W W) W w.heap.size (fun _ => 0) := by
    by_cases h0 : W = 0
    · exact .inl ⟨h0, _, _, by rw [h0]⟩
    · rcases hown.2 with ⟨h1, _⟩ | ⟨g, cap, cur, h1, _, h2, h3, _, h4, h5⟩
      · cases h1
      · simp only [Value.slice.injEq, Option.some.injEq, Addr.mk.injEq, and_true, true_and] at h1
        obtain ⟨rfl, rfl⟩ := h1
        refine .inr ⟨by omega, _, cur, rfl, Nat.le_refl _, h2, by omega, fun q hq => ?_⟩
        have h6 := hown.cellAt q (by omega)
        rw [cell_at h2 q] at h6
        rw [h6, toList_madeCells_one, List.getElem?_replicate, if_pos hq]
        rfl
  have HC := Lib.hid (columnOf_any _ W _ _ w2 hw (fun _ _ => rfl) hWb)
  have hbel : Below w.heap.size w w2 := (Below.refl _ w).grown hgrow (Nat.le_refl _) (fun k h => by cases h)
  have HB := Lib.hid hbel
  clear hw hown hgrow hbel
  go_wp2_with fail
  refine HC.out.mono ?_
  rintro e w3 ⟨rfl, hc, hk⟩
  have R1 := Lib.hid hc
  have R2 := Lib.hid (HB.out.trans (hk.below (B := w.heap.size) (fun _ h => h.elim) HB.out.size))
  have R3 := Lib.hid HB.out.size
  have R4 : Hid (w.heap.size < w3.heap.size) := Lib.hid (by have := hk.size; omega)
  clear hc hk
  go_wp2_with fail
  go_ret
  exact ⟨_, _, _, rfl, R1.out, Nat.le_refl _, R3.out, by omega, R4.out, R2.out⟩

/-! ### put -/
theorem lit_cell {w : World} {p : Addr} {v : Value} (h : w.cell? p = some v) : ({ heap := w.heap, tape := w.tape, drawn := w.drawn + 1, os := w.os, output := w.output } : World).cell? p = some v := h
theorem lit_froz {w : World} {p : Addr} (h : w.frozen? p = false) : ({ heap := w.heap, tape := w.tape, drawn := w.drawn + 1, os := w.os, output := w.output } : World).frozen? p = false := h
def up (X : Nat → Nat) (q x : Nat) : Nat → Nat := fun i => if i = q then x else X i
theorem Wd.put {w : World} {v : Value} {W B q x : Nat} {X : Nat → Nat} (h : Wd w v W B X) (hq : q < W) : Wd (w.setCell ⟨B, q, none⟩ (.int .u64 x)) v W B (up X q x) := by
  rcases h with ⟨h0, _⟩ | ⟨h0, cap, cur, h1, h2, h3, h4, h5⟩
  · omega
  refine .inr ⟨h0, cap, _, h1, h2, set_at h3 q _, by simpa using h4, fun i hi => ?_⟩
  rw [Array.getElem?_setIfInBounds]
  unfold up
  by_cases e : q = i
  · subst e; rw [if_pos rfl, if_pos (by omega), if_pos rfl]
  · rw [if_neg e, if_neg (fun h => e h.symm)]; exact h5 i hi
set_option maxRecDepth 100000 in
set_option maxHeartbeats 1600000 in
theorem put_any (C B W t q x : Nat) (v : Value) (X : Nat → Nat) (w : World) (h : Col w C v W B X t) (hq : q < W) (hW : W ≤ 1000000) (hBC : B ≠ C) :
    Calls Tryd.prog 84 #[.pointer (some ⟨C, 0, none⟩), .agg #[.int .i64 q, .int .u64 x]] w fun e w' => (∃ r, e = .returned r) ∧ Col w' C v W B (up X q x) (max t (q + 1)) ∧ Keep (fun k => k = C ∨ k = B) w w' := by
  have H := Lib.hid h
  obtain ⟨h1, h2, h3, h4⟩ := h
  rcases h2 with ⟨h0, _⟩ | ⟨h0, cap, cur, rfl, k1, k2, k3, k4⟩
  · omega
  have lC := lt_of_at h1
  have lB := lt_of_at k2
  obtain ⟨q1, hq1⟩ : ∃ q1, q + 1 = q1 := ⟨_, rfl⟩
  have e1 : IntKind.i64.wrap ((q : Int) + 1) = (q1 : Int) := by rw [IntKind.wrap_i64]; omega
  obtain ⟨t1, ht1⟩ : ∃ t1, max t q1 = t1 := ⟨_, rfl⟩
  have m2 : ∀ w, (Builtin.max_ #[3, 3] 3 #[.int .i64 (t : Int), .int .i64 (q1 : Int)]).run Tryd.prog w = .ok (.int .i64 (t1 : Int)) w := fun w => by rw [max2, ← ht1]; congr 2; omega
  have hqW : (q : Int) < (W : Int) := by omega
  have HC2 := Lib.hid (cell_at k2 q)
  have HF2 := Lib.hid (frozen_at k2 q)
  have HK4 := Lib.hid (k4 q hq)
  rw [hq1, ht1]
  have HQ := Lib.hid hq1
  have HT := Lib.hid ht1
  have HC := Lib.hid h1
  clear h1 k2 k3 k4 h4 hq1 ht1 h3
  go_enter Tryd.func84, Tryd.ntmps84
  go_upto_region 1 with fail
  have hn := Lib.hid (alloc_new w (.cells #[.int .i64 q, .int .u64 x] 125))
  have hk := Lib.hid (keep_alloc w (.cells #[.int .i64 q, .int .u64 x] 125))
  generalize w.alloc (.cells #[.int .i64 q, .int .u64 x] 125) = w1 at *
  generalize hs : w.heap.size = N at *
  have c0 := cell_at (hk.out.at HC.out (fun h => h)) 0
  have c1 := cell_at hn.out 0
  have c2 := cell_at hn.out 1
  have c3 : w1.cell? ⟨B, q, none⟩ = some (.int .u64 (X q)) := by rw [show w1.cell? ⟨B, q, none⟩ = w.cell? ⟨B, q, none⟩ from World.cell?_of_block (hk.out.block B (by omega) (fun h => h)), HC2.out, HK4.out]
  have f3 : w1.frozen? ⟨B, q, none⟩ = false := by rw [show w1.frozen? ⟨B, q, none⟩ = w.frozen? ⟨B, q, none⟩ from World.frozen?_of_block (hk.out.block B (by omega) (fun h => h)), HF2.out]
  have c0 : w1.cell? ⟨C, 0, none⟩ = some (.slice (some ⟨B, 0, none⟩) W cap) := c0
  have c1 : w1.cell? ⟨N, 0, none⟩ = some (.int .i64 q) := c1
  have c2 : w1.cell? ⟨N, 1, none⟩ = some (.int .u64 x) := c2
  have d0 := lit_cell c0
  have d1 := lit_cell c1
  have d2 := lit_cell c2
  have HN := Lib.hid hs
  clear hs
  go_wp2_with fail
  go_still_tail 9, (by kernel_rfl)
  change wpList _ _ _ _ _ w1.drew
  clear d0 d1 d2 c0 c1 c2
  have c4 : w1.drew.cell? ⟨B, q, none⟩ = some (.int .u64 (X q)) := c3
  have f4 : w1.drew.frozen? ⟨B, q, none⟩ = false := f3
  have hn2 : Hid (w1.drew.heap[N]? = _) := hn
  have hk2 : Hid (Keep (fun _ => False) w w1.drew) := Lib.hid hk.out.drew
  clear c3 f3 hn hk
  generalize w1.drew = w2 at *
  go_upto_region 2 with fail
  have hn3 := Lib.hid (set_other hn2.out (show N ≠ B by have := HN.out; omega) (i := q) (v := .int .u64 x))
  have hC3 := Lib.hid (set_other (hk2.out.at HC.out (fun h => h)) (Ne.symm hBC) (i := q) (v := .int .u64 x))
  have hW3 := Lib.hid ((H.out.2.1.keep hk2.out (fun h => h)).put (x := x) hq)
  have hk3 : Hid (Keep (fun k => k = C ∨ k = B) w (w2.setCell ⟨B, q, none⟩ (.int .u64 x))) := Lib.hid ((hk2.out.mono (fun _ _ h => h.elim)).setCell (Or.inl (Or.inr rfl)) _)
  clear hn2 hk2 c4 f4
  generalize w2.setCell ⟨B, q, none⟩ (.int .u64 x) = w3 at *
  have c0 := cell_at hC3.out 1
  have f0 := frozen_at hC3.out 1
  have c1 := cell_at hn3.out 0
  have c0 : w3.cell? ⟨C, 1, none⟩ = some (.int .i64 t) := c0
  have c1 : w3.cell? ⟨N, 0, none⟩ = some (.int .i64 q) := c1
  have d0 := lit_cell c0
  have d1 := lit_cell c1
  go_wp2_with fail
  go_still_tail 11, (by kernel_rfl)
  change wpList _ _ _ _ _ w3.drew
  have c4 : w3.drew.cell? ⟨C, 1, none⟩ = some (.int .i64 t) := c0
  have f4 : w3.drew.frozen? ⟨C, 1, none⟩ = false := f0
  have hC4 : Hid (w3.drew.heap[C]? = _) := hC3
  have hW4 : Hid (Wd w3.drew _ W B (up X q x)) := Lib.hid (hW3.out.keep ((Keep.refl (fun _ => False) w3).drew) (fun h => h))
  have hk4 : Hid (Keep _ w w3.drew) := Lib.hid hk3.out.drew
  clear hC3 hW3 hk3 c0 c1 d0 d1 f0 hn3
  generalize w3.drew = w4 at *
  go_wp2_with fail
  go_end0
  refine ⟨⟨_, rfl⟩, ⟨?_, ?_, ?_, ?_⟩, hk4.out.setCell (Or.inl (Or.inl rfl)) _⟩
  · exact set_at hC4.out 1 _
  · exact hW4.out.keep (S := fun k => k = C) ((Keep.refl (fun k => k = C) w4).setCell (p := ⟨C, 1, none⟩) (Or.inl rfl) _) hBC
  · have := HT.out; have := HQ.out; have := H.out.2.2.1; omega
  · intro i hi
    have := HT.out
    have := HQ.out
    unfold up
    rw [if_neg (by omega)]
    exact H.out.2.2.2 i (by omega)
end Go.Proofs.YtldllbmbcnipoaaDoor.Lp

namespace Go.Proofs.YtldllbmbcnipoaaDoor.Lp
open Go.RowKit Go.Proofs.YtldllbmbcnipoaaDoor.Cm Go.Proofs.YtldllbmbcnipoaaDoor.Lc Go.Proofs.YtldllbmbcnipoaaDoor.Lcx
set_option linter.unusedVariables false

theorem and_u (a b : Nat) (ha : a < 2 ^ 64) (hb : b < 2 ^ 64) : bits .and .u64 (a : Int) (b : Int) = ((a &&& b : Nat) : Int) := u64_and_nat a b ha hb
theorem add_u (a b : Nat) (h : a + b < 2 ^ 64) : IntKind.u64.wrap ((a : Int) + (b : Int)) = ((a + b : Nat) : Int) := by
  rw [IntKind.wrap_u64]; omega
/-- The numbers on the way. -/
structure Way (x y a b z : Nat) (x1 a1 a2 a3 a4 a5 : Nat) : Prop where
  e1 : bits .and .u64 ((x : Int) / 2) 6148914691236517205 = (a1 : Int)
  e2 : bits .and .u64 (x : Int) 6148914691236517205 = (a2 : Int)
  e3 : IntKind.u64.wrap ((a1 : Int) + (a2 : Int)) = (x1 : Int)
  e4 : bits .and .u64 ((x1 : Int) / 4) 3689348814741910323 = (a3 : Int)
  e5 : bits .and .u64 (x1 : Int) 3689348814741910323 = (a4 : Int)
  e6 : IntKind.u64.wrap ((a3 : Int) + (a4 : Int)) = (y : Int)
  e7 : IntKind.u64.wrap ((y : Int) / 16 + (y : Int)) = (a5 : Int)
  e8 : bits .and .u64 (a5 : Int) 1085102592571150095 = (a : Int)
  e9 : IntKind.u64.wrap ((a : Int) + (a : Int) / 256) = (b : Int)
  e10 : IntKind.u64.wrap ((b : Int) + (b : Int) / 65536) = (z : Int)
theorem way (x : Nat) (hx : x < 2 ^ 64) : ∃ y a b z x1 a1 a2 a3 a4 a5 : Nat, Way x y a b z x1 a1 a2 a3 a4 a5 ∧ z < 3000000000000000000 ∧ (z + z / 4294967296) % 128 = pc x := by
  have h1 : x / 2 &&& 6148914691236517205 ≤ 6148914691236517205 := Nat.and_le_right
  have h2 : x &&& 6148914691236517205 ≤ 6148914691236517205 := Nat.and_le_right
  obtain ⟨a1, ha1⟩ : ∃ a1, x / 2 &&& 6148914691236517205 = a1 := ⟨_, rfl⟩
  obtain ⟨a2, ha2⟩ : ∃ a2, x &&& 6148914691236517205 = a2 := ⟨_, rfl⟩
  have l1 : a1 + a2 < 2 ^ 64 := by omega
  have h3 : (a1 + a2) / 4 &&& 3689348814741910323 ≤ 3689348814741910323 := Nat.and_le_right
  have h4 : (a1 + a2) &&& 3689348814741910323 ≤ 3689348814741910323 := Nat.and_le_right
  obtain ⟨a3, ha3⟩ : ∃ a3, (a1 + a2) / 4 &&& 3689348814741910323 = a3 := ⟨_, rfl⟩
  obtain ⟨a4, ha4⟩ : ∃ a4, (a1 + a2) &&& 3689348814741910323 = a4 := ⟨_, rfl⟩
  have l2 : a3 + a4 < 8000000000000000000 := by omega
  have l3 : (a3 + a4) / 16 + (a3 + a4) < 2 ^ 64 := by omega
  have h5 : ((a3 + a4) / 16 + (a3 + a4)) &&& 1085102592571150095 ≤ 1085102592571150095 := Nat.and_le_right
  obtain ⟨a, ha⟩ : ∃ a, ((a3 + a4) / 16 + (a3 + a4)) &&& 1085102592571150095 = a := ⟨_, rfl⟩
  have l4 : a + a / 256 < 1100000000000000000 := by omega
  have l5 : a + a / 256 + (a + a / 256) / 65536 < 1200000000000000000 := by omega
  have hs := ones_eq x hx
  have m1 : msk8 85 8 = 6148914691236517205 := by decide
  have m2 : msk8 51 8 = 3689348814741910323 := by decide
  have m3 : msk8 15 8 = 1085102592571150095 := by decide
  unfold ones at hs
  have s_1 : s1 8 x = a1 + a2 := by unfold s1; rw [m1, ha1, ha2]
  have s_2 : s2 8 (a1 + a2) = a3 + a4 := by unfold s2; rw [m2, ha3, ha4]
  have s_3 : s3 8 (a3 + a4) = a := by unfold s3; rw [m3, ha]
  rw [s_1, s_2, s_3] at hs
  refine ⟨a3 + a4, a, a + a / 256, a + a / 256 + (a + a / 256) / 65536, a1 + a2, a1, a2, a3, a4, (a3 + a4) / 16 + (a3 + a4), ⟨?_, ?_, add_u _ _ l1, ?_, ?_, add_u _ _ (by omega), ?_, ?_, ?_, ?_⟩, by omega, hs⟩
  · rw [← ha1]; exact and_u (x / 2) 6148914691236517205 (by omega) (by decide)
  · rw [← ha2]; exact and_u x 6148914691236517205 hx (by decide)
  · rw [← ha3]; exact and_u ((a1 + a2) / 4) 3689348814741910323 (by omega) (by decide)
  · rw [← ha4]; exact and_u (a1 + a2) 3689348814741910323 l1 (by decide)
  · exact add_u ((a3 + a4) / 16) (a3 + a4) l3
  · rw [← ha]; exact and_u _ 1085102592571150095 l3 (by decide)
  · exact add_u a (a / 256) (by omega)
  · exact add_u (a + a / 256) ((a + a / 256) / 65536) (by omega)
set_option maxHeartbeats 800000 in
theorem ones_any (x : Nat) (w : World) (hx : x < 2 ^ 64) :
    Calls Tryd.prog 72 #[.int .u64 x] w fun e w' => e = .returned (.int .i64 (pc x)) ∧ w = w' := by
  obtain ⟨y, a, b, z, x1, a1, a2, a3, a4, a5, W, hz, hp⟩ := way x hx
  obtain ⟨e1, e2, e3, e4, e5, e6, e7, e8, e9, e10⟩ := W
  obtain ⟨u, hu⟩ : ∃ u, z + z / 4294967296 = u := ⟨_, rfl⟩
  have e11 : IntKind.u64.wrap ((z : Int) + (z : Int) / 4294967296) = (u : Int) := by rw [← hu]; exact add_u z (z / 4294967296) (by omega)
  have e12 : IntKind.i64.wrap (u : Int) = (u : Int) := by rw [IntKind.wrap_i64]; omega
  have e13 : bits .and .i64 (u : Int) 127 = ((u % 128 : Nat) : Int) := (i64_and127 _).trans (by omega)
  rw [hu] at hp
  have HP := Lib.hid hp
  generalize pc x = px at *
  clear hx hu hz hp
  go_enter Tryd.func72, Tryd.ntmps72
  go_wp2_with fail
  go_ret
  exact ⟨ret_int (by have := HP.out; omega), rfl⟩

theorem wsum_le (X : Nat → Nat) : ∀ W, wsum X W ≤ 64 * W
  | 0 => Nat.le_refl _
  | W + 1 => by
    show wsum X W + pc (X W) ≤ _
    have := wsum_le X W
    have := bsum_le (X W).testBit 64
    unfold pc; omega
set_option maxHeartbeats 800000 in
theorem count_any (C B W t : Nat) (v : Value) (X : Nat → Nat) (w : World) (h : Col w C v W B X t) (hX : ∀ q, X q < 2 ^ 64) (hW : W ≤ 1000000) :
    Calls Tryd.prog 52 #[.pointer (some ⟨C, 0, none⟩)] w fun e w' => e = .returned (.int .i64 (wsum X W)) ∧ w = w' := by
  obtain ⟨h1, h2, h3, h4⟩ := h
  obtain ⟨ao, c, rfl⟩ := h2.len
  have c0 : w.cell? ⟨C, 0, none⟩ = some (.slice ao W c) := cell_at h1 0
  have H := Lib.hid h2
  have HX := Lib.hid hX
  clear h1 h2 h3 h4 hX
  go_enter Tryd.func52, Tryd.ntmps52
  go_wp2_with fail
  go_loop [3, 5, 11] (fun n x i => ∃ k : Nat, k ≤ W ∧ i = .int .i64 k ∧ n = .int .i64 (wsum X k)) (fun _ _ i => W - (intOf i).toNat)
  case atStart => exact ⟨0, Nat.zero_le _, rfl, rfl⟩
  case round =>
    obtain ⟨k, hk, rfl, rfl⟩ := hrel
    have hle := wsum_le X k
    by_cases hlt : k < W
    · have HS : Hid (wsum X (k + 1) = wsum X k + pc (X k)) := Lib.hid rfl
      have hpc : pc (X k) ≤ 64 := bsum_le _ 64
      have hc : ∃ B' o', ao = some ⟨B', o', none⟩ ∧ w.cell? ⟨B', o' + k, none⟩ = some (.int .u64 (X k)) := by
        rcases H.out with ⟨h0, _⟩ | ⟨h0, cap, cur, hv, k1, k2, k3, k4⟩
        · omega
        · simp only [Value.slice.injEq] at hv
          obtain ⟨rfl, _, _⟩ := hv
          exact ⟨B, 0, rfl, by rw [Nat.zero_add]; exact (cell_at k2 k).trans (k4 k hlt)⟩
      obtain ⟨B', o', rfl, kc⟩ := hc
      have HO := Lib.hid (ones_any (X k) w (HX.out k))
      have ht : (k : Int) < (W : Int) := by omega
      generalize hs : wsum X k = s at *
      generalize hy : pc (X k) = y at *
      generalize X k = x at *
      clear hs hy
      go_wp2_with fail
      refine HO.out.mono ?_
      rintro e w1 ⟨rfl, rfl⟩
      go_wp2_with fail
      go_round
      case rel => exact ⟨k + 1, by omega, by go_num, by rw [HS.out]; go_num⟩
      case measure => simp [intOf] <;> omega
    · obtain rfl : k = W := by omega
      go_wp2_with fail
      go_ret
      exact ⟨rfl, rfl⟩

theorem bit_of (x k : Nat) : (x &&& 2 ^ k == 0) = !x.testBit k := by
  cases h : x.testBit k
  · have : x &&& 2 ^ k = 0 := by
      apply Nat.eq_of_testBit_eq
      intro i
      rw [Nat.testBit_and, Nat.testBit_two_pow, Nat.zero_testBit]
      by_cases e : k = i
      · subst e; rw [h]; rfl
      · simp [e]
    rw [this]; rfl
  · have : x &&& 2 ^ k ≠ 0 := by
      intro e
      have h2 := congrArg (fun y => y.testBit k) e
      simp only [Nat.testBit_and, Nat.testBit_two_pow, Nat.zero_testBit, h] at h2
      simp at h2
    simp [this]
end Go.Proofs.YtldllbmbcnipoaaDoor.Lp

namespace Go.Proofs.YtldllbmbcnipoaaDoor.Lp
open Go.RowKit Go.Proofs.YtldllbmbcnipoaaDoor.Cm Go.Proofs.YtldllbmbcnipoaaDoor.Lc Go.Proofs.YtldllbmbcnipoaaDoor.Lcx
set_option linter.unusedVariables false

/-! ### Plain: what has been changed so far -/
def chg (X M : Nat → Nat) : Nat → List (Nat × Nat)
  | 0 => []
  | k + 1 => chg X M k ++ (if nw X M k = X k then [] else [(k, X k)])
theorem chg_same {X M : Nat → Nat} {k : Nat} : ∀ k', k ≤ k' → (∀ q, k ≤ q → q < k' → nw X M q = X q) → chg X M k' = chg X M k
  | 0, h, _ => by rw [show k = 0 by omega]
  | k' + 1, h, hs => by
    by_cases e : k = k' + 1
    · rw [e]
    · show chg X M k' ++ _ = _
      rw [if_pos (hs k' (by omega) (by omega)), List.append_nil, chg_same k' (by omega) (fun q h1 h2 => hs q h1 (by omega))]
theorem chg_len (X M : Nat → Nat) : ∀ k, (chg X M k).length ≤ k
  | 0 => Nat.le_refl _
  | k + 1 => by
    show (chg X M k ++ _).length ≤ _
    have := chg_len X M k
    rw [List.length_append]
    split <;> simp <;> omega
theorem chg_in (X M : Nat → Nat) : ∀ k, ∀ p ∈ chg X M k, p.1 < k ∧ p.2 = X p.1
  | 0, p, h => absurd h List.not_mem_nil
  | k + 1, p, h => by
    rcases List.mem_append.1 h with h | h
    · have := chg_in X M k p h; exact ⟨by omega, this.2⟩
    · split at h
      · cases h
      · simp at h; subst h; exact ⟨by show k < k + 1; omega, rfl⟩
/-- The column so far. -/
def mid (X M : Nat → Nat) (k : Nat) : Nat → Nat := fun q => if q < k then nw X M q else X q
theorem mid_zero (X M : Nat → Nat) : mid X M 0 = X := funext (fun q => if_neg (by omega))
theorem mid_pass {X M : Nat → Nat} {k k' : Nat} (h : k ≤ k') (hs : ∀ q, k ≤ q → q < k' → nw X M q = X q) : mid X M k' = mid X M k := funext (fun q => by
  unfold mid
  by_cases h1 : q < k
  · rw [if_pos h1, if_pos (by omega)]
  · rw [if_neg h1]
    by_cases h2 : q < k'
    · rw [if_pos h2, hs q (by omega) h2]
    · rw [if_neg h2])
theorem mid_up {X M : Nat → Nat} {k : Nat} : up (mid X M k) k (nw X M k) = mid X M (k + 1) := funext (fun q => by
  unfold up mid
  by_cases h1 : q = k
  · subst h1; rw [if_pos rfl, if_pos (by omega)]
  · rw [if_neg h1]
    by_cases h2 : q < k
    · rw [if_pos h2, if_pos (by omega)]
    · rw [if_neg h2, if_neg (by omega)])
theorem mid_end {X M : Nat → Nat} {k : Nat} (hs : ∀ q, k ≤ q → nw X M q = X q) : mid X M k = nw X M := funext (fun q => by
  unfold mid
  by_cases h1 : q < k
  · rw [if_pos h1]
  · rw [if_neg h1, hs q (by omega)])

/-! ### Lists of words in memory -/
def encW (p : Nat × Nat) : List Value := [.int .i64 p.1, .int .u64 p.2]
theorem encW_len (p : Nat × Nat) : (encW p).length = 2 := rfl
theorem encW_one (p : Nat × Nat) : ∀ u ∈ encW p, u.oneCell' = true := by
  intro u hu
  simp [encW] at hu
  rcases hu with rfl | rfl <;> rfl
theorem infoW : (Tryd.prog.info? 125).map (fun i => (i.zero, i.size, i.bytes)) = some (some (.agg #[.int .i64 0, .int .u64 0]), 2, 16) := by kernel_rfl
/-- A slice that reads as these words; its block isn't one of S. -/
def Pl (S : Nat → Prop) (w : World) (v : Value) (l : List (Nat × Nat)) : Prop :=
  ∃ ao cap, v = .slice ao l.length cap ∧ l.length ≤ cap ∧ (l = [] ∨ ∃ b o, ao = some ⟨b, o, none⟩ ∧ b < w.heap.size ∧ ¬ S b ∧ ∀ j p, l[j]? = some p → w.cell? ⟨b, o + j * 2, none⟩ = some (.int .i64 p.1) ∧ w.cell? ⟨b, o + j * 2 + 1, none⟩ = some (.int .u64 p.2))
theorem Pl.keep {S : Nat → Prop} {w w' : World} {v : Value} {l : List (Nat × Nat)} (h : Pl S w v l) (k : Keep S w w') : Pl S w' v l := by
  obtain ⟨ao, cap, h1, h2, h3⟩ := h
  refine ⟨ao, cap, h1, h2, ?_⟩
  rcases h3 with h3 | ⟨b, o, h4, h5, h6, h7⟩
  · exact .inl h3
  · have e : ∀ i, w'.cell? ⟨b, i, none⟩ = w.cell? ⟨b, i, none⟩ := fun i => World.cell?_of_block (k.block b h5 h6)
    exact .inr ⟨b, o, h4, Nat.lt_of_lt_of_le h5 k.size, h6, fun j p hj => by rw [e, e]; exact h7 j p hj⟩

theorem run_subW (x m : Nat) (c : Bool) (z : Int) (hz : z = (c.toNat : Int)) (w : World) :
    (callFunc 83 #[.int .u64 x, .int .u64 (offW x m : Nat), .int .u64 z]).run Tryd.prog w = .ok (.value (.tuple #[.int .u64 (lessW x m c : Nat), .int .u64 ((outW x m c).toNat : Nat)])) w := by
  subst hz
  rw [run_callFunc_extern Tryd.func83 (by kernel_rfl) (by kernel_rfl) (by kernel_rfl) (e := fun args => do
    let (x, y, b) ← Extern.MathBitsCarry.three "Sub64" args
    pure (Extern.MathBitsCarry.pair ((x + Extern.MathBitsCarry.m64 - y - b) % Extern.MathBitsCarry.m64) (if x < y + b then 1 else 0))) (by kernel_rfl)]
  have e : (outW x m c).toNat = if x < offW x m + c.toNat then 1 else 0 := by
    unfold outW
    by_cases h : x < offW x m + c.toNat
    · rw [decide_eq_true h, if_pos h]; rfl
    · rw [decide_eq_false h, if_neg h]; rfl
  rw [e]
  unfold lessW
  generalize offW x m = y
  cases c <;> rfl

/-- 'places[1:]'. -/
theorem slice_rest {S : Nat → Prop} {w0 : World} {ao : Option Addr} {c : Nat} {p : Nat × Nat} {r : List (Nat × Nat)} (h : Pl S w0 (.slice ao (r.length + 1) c) (p :: r)) (hl : r.length ≤ 1000000) :
    ∃ v, (∀ w, (Instr.slice 110 (.slice ao (r.length + 1) c) (some (.int .i64 1)) none none).run Tryd.prog w = .ok v w) ∧ Pl S w0 v r := by
  have u := Tryd.underlying110
  have hz : Tryd.prog.cellsOf 125 = 2 := by kernel_rfl
  obtain ⟨ao', c', hv, hc, hx⟩ := h
  simp only [Value.slice.injEq, true_and, List.length_cons] at hv hc
  obtain ⟨rfl, _, rfl⟩ := hv
  rcases hx with hx | ⟨b, o, rfl, hb, hs, hcell⟩
  · cases hx
  by_cases hic : 1 < c
  · refine ⟨.slice (some ⟨b, o + 2, none⟩) r.length (c - 1), fun w => ?_, _, c - 1, rfl, by omega, Or.inr ⟨b, o + 2, rfl, hb, hs, fun q x hq => ?_⟩⟩
    · have hicn : ¬ c ≤ 1 := by omega
      have hn : ¬ c - 1 = 0 := by omega
      go_simp
      rw [if_pos (by omega), if_neg (by omega)]
    · have := hcell (q + 1) x (by simpa using hq)
      rw [show o + (q + 1) * 2 = o + 2 + q * 2 by omega] at this
      exact this
  · obtain rfl : c = 1 := by omega
    have hr : r = [] := List.eq_nil_of_length_eq_zero (by omega)
    subst hr
    refine ⟨.slice (some ⟨b, o, none⟩) 0 0, fun w => ?_, _, 0, rfl, Nat.le_refl _, Or.inl rfl⟩
    go_simp
/-- 'were[:0]'. -/
theorem slice_none {w0 : World} {v : Value} {n : Nat} {xs : List Value} (h : w0.ownsRow 0 125 2 v n xs) (hl : n ≤ 1000000) :
    ∃ v', (∀ w, (Instr.slice 110 v none (some (.int .i64 0)) none).run Tryd.prog w = .ok v' w) ∧ w0.ownsRow 0 125 2 v' 0 [] ∧ v'.ownBlock = v.ownBlock := by
  have u := Tryd.underlying110
  have hz : Tryd.prog.cellsOf 125 = 2 := by kernel_rfl
  rcases h.2 with ⟨rfl, rfl⟩ | ⟨g, cap, cur, rfl, hb, hg, h1, h2, h3, h4⟩
  · refine ⟨.slice none 0 0, fun w => ?_, World.ownsRow_nil _ _ _ _, rfl⟩
    go_simp
  · refine ⟨.slice (some ⟨g, 0, none⟩) 0 cap, fun w => ?_, ⟨rfl, .inr ⟨g, cap, cur, rfl, Nat.zero_le _, hg, Nat.zero_le _, h2, h3, by simp⟩⟩, rfl⟩
    go_simp
end Go.Proofs.YtldllbmbcnipoaaDoor.Lp

namespace Go.Proofs.YtldllbmbcnipoaaDoor.Lp
open Go.RowKit Go.Proofs.YtldllbmbcnipoaaDoor.Cm
open Go.ChangeMaps (setBlock modify_eq_set)
set_option linter.unusedVariables false

def kz : Value → Option Int
  | .int .i64 x => some x
  | _ => none
def look : List MapEntry → Int → Option Value
  | [], _ => none
  | e :: l, z => if kz e.key = some z then some e.val else look l z
theorem kz_int {v : Value} {x : Int} (h : kz v = some x) : v = .int .i64 x := by
  unfold kz at h
  split at h
  · cases h; rfl
  · cases h
theorem find_at (z : Int) : ∀ (l : List MapEntry) (i : Nat), (∀ e ∈ l, ∃ x, kz e.key = some x) →
    (Instr.findNow (.int .i64) (.int .i64 z) l i = some none ∧ look l z = none) ∨
    ∃ j e, l[j]? = some e ∧ kz e.key = some z ∧ Instr.findNow (.int .i64) (.int .i64 z) l i = some (some (i + j, e.val)) ∧ look l z = some e.val ∧
      ∀ (v : Value) (z' : Int), look (l.set j { e with key := .int .i64 z, val := v }) z' = if z' = z then some v else look l z'
  | [], i, _ => Or.inl ⟨rfl, rfl⟩
  | e :: l, i, h => by
    obtain ⟨x, hx⟩ := h e (List.mem_cons_self ..)
    have hk := kz_int hx
    by_cases hxz : x = z
    · subst hxz
      refine Or.inr ⟨0, e, rfl, hx, ?_, ?_, fun v z' => ?_⟩
      · simp [Instr.findNow, Instr.sameNow, hk]
      · simp [look, hx]
      · rw [List.set_cons_zero]
        show (if kz (Value.int .i64 x) = some z' then some v else look l z') = _
        show (if some x = some z' then some v else look l z') = _
        by_cases e1 : z' = x
        · subst e1; simp
        · rw [if_neg (by simpa using fun h => e1 h.symm), if_neg e1]
          show _ = if kz e.key = some z' then some e.val else look l z'
          rw [hx, if_neg (by simpa using fun h => e1 h.symm)]
    · have hne : kz e.key ≠ some z := by rw [hx]; simpa using hxz
      have hstep : Instr.findNow (.int .i64) (.int .i64 z) (e :: l) i = Instr.findNow (.int .i64) (.int .i64 z) l (i + 1) := by
        have : (z == x) = false := by rw [beq_eq_false_iff_ne]; exact fun h => hxz h.symm
        simp [Instr.findNow, Instr.sameNow, hk, this]
      have hl : ∀ z', look (e :: l) z' = if kz e.key = some z' then some e.val else look l z' := fun _ => rfl
      rcases find_at z l (i + 1) (fun e' he' => h e' (List.mem_cons_of_mem _ he')) with ⟨h1, h2⟩ | ⟨j, e0, h1, h2, h3, h4, h5⟩
      · exact Or.inl ⟨hstep.trans h1, by rw [hl, if_neg hne, h2]⟩
      · refine Or.inr ⟨j + 1, e0, by simpa using h1, h2, by rw [hstep, h3]; congr 3; omega, by rw [hl, if_neg hne, h4], fun v z' => ?_⟩
        rw [List.set_cons_succ]
        show (if kz e.key = some z' then some e.val else look (l.set j _) z') = _
        rw [h5, hl]
        by_cases e1 : z' = z
        · subst e1; rw [if_neg hne, if_pos rfl, if_pos rfl]
        · rw [if_neg e1, if_neg e1]
theorem look_push (z : Int) (v : Value) (c : Nat) : ∀ (l : List MapEntry), look l z = none → ∀ z', look (l ++ [⟨.int .i64 z, v, c⟩]) z' = if z' = z then some v else look l z'
  | [], _, z' => by
    show (if some z = some z' then some v else none) = _
    by_cases e1 : z' = z
    · subst e1; simp
    · rw [if_neg (by simpa using fun h => e1 h.symm), if_neg e1]; rfl
  | e :: l, h, z' => by
    have h' : (if kz e.key = some z then some e.val else look l z) = none := h
    show (if kz e.key = some z' then some e.val else look (l ++ [_]) z') = if z' = z then some v else if kz e.key = some z' then some e.val else look l z'
    split at h'
    · cases h'
    · rename_i hne
      rw [look_push z v c l h' z']
      by_cases e1 : z' = z
      · subst e1; rw [if_neg hne, if_pos rfl, if_pos rfl]
      · rw [if_neg e1, if_neg e1]

/-- Block b is a map of at most n entries; at each key stands what f says. -/
def Mp (w : World) (b : Nat) (f : Int → Option Value) (n : Nat) : Prop :=
  ∃ es clock, w.heap[b]? = some (.map es clock) ∧ es.size ≤ n ∧ (∀ e ∈ es.toList, ∃ x, kz e.key = some x) ∧ ∀ z, look es.toList z = f z
theorem Mp.keep {S : Nat → Prop} {w w' : World} {b n : Nat} {f : Int → Option Value} (h : Mp w b f n) (k : Keep S w w') (hb : ¬ S b) : Mp w' b f n := by
  obtain ⟨es, c, h1, h2⟩ := h
  exact ⟨es, c, k.at h1 hb, h2⟩
theorem Mp.lt {w : World} {b n : Nat} {f : Int → Option Value} (h : Mp w b f n) : b < w.heap.size := by
  obtain ⟨es, c, h1, h2⟩ := h
  exact lt_of_at h1
theorem mp_made (w : World) : Mp (w.alloc (.map #[] 0)) w.heap.size (fun _ => none) 0 :=
  ⟨#[], 0, alloc_new w _, Nat.le_refl _, by simp, fun _ => rfl⟩
theorem run_check (em : Bool) (z : Int) (w : World) : (Instr.checkKey em 10000 3 (.int .i64 z)).run Tryd.prog w = .ok () w := by
  exact MapKept.run_checkKey Tryd.underlying3 (by simp [MapKept.IsKey]) em 9999
theorem Mp.lookup {w : World} {b n : Nat} {f : Int → Option Value} (h : Mp w b f n) (z : Int) :
    (Instr.lookup 107 (.map (some b)) (.int .i64 z) false).run Tryd.prog w = .ok ((f z).getD (.slice none 0 0)) w := by
  obtain ⟨es, c, h1, h2, h3, h4⟩ := h
  have hz : (zeroValue 110).run Tryd.prog w = .ok (.slice none 0 0) w := by kernel_rfl
  rcases find_at z es.toList 0 h3 with ⟨k1, k2⟩ | ⟨j, e, k1, k2, k3, k4, _⟩
  · have hf := MapKept.run_findKey (P := Tryd.prog) (w := w) Tryd.underlying3 k1
    rw [← h4 z, k2]
    simp [Instr.lookup, run_underlying Tryd.underlying107, MapKept.run_getObj_map h1, run_check, hf, hz, Result.andThen]
  · have hf := MapKept.run_findKey (P := Tryd.prog) (w := w) Tryd.underlying3 k3
    rw [← h4 z, k4]
    simp [Instr.lookup, run_underlying Tryd.underlying107, MapKept.run_getObj_map h1, run_check, hf, Result.andThen]
theorem Mp.update {w : World} {b n : Nat} {f : Int → Option Value} (h : Mp w b f n) (z : Int) (v : Value) :
    ∃ w', (Instr.mapUpdate 107 (.map (some b)) (.int .i64 z) v).run Tryd.prog w = .ok () w' ∧ Mp w' b (fun z' => if z' = z then some v else f z') (n + 1) ∧ w.grownBy w' (some b) := by
  obtain ⟨es, c, h1, h2, h3, h4⟩ := h
  have hg : ∀ o, w.grownBy (setBlock w b o) (some b) := fun o => ⟨rfl, rfl, rfl, by simp [setBlock], fun i _ hi => (MapKept.heap_set h1).2 i (fun e => hi (by rw [e]))⟩
  have hst : (Instr.keyThatStays (.int .i64 z) (.int .i64 z)).run Tryd.prog w = .ok (.int .i64 z) w := by simp [Instr.keyThatStays, Instr.sameBits]
  rcases find_at z es.toList 0 h3 with ⟨k1, k2⟩ | ⟨j, e, k1, k2, k3, k4, k5⟩
  · have hf := MapKept.run_findKey (P := Tryd.prog) (w := w) Tryd.underlying3 k1
    refine ⟨setBlock w b (.map (es.push ⟨.int .i64 z, v, c⟩) (c + 1)), ?_, ⟨_, _, (MapKept.heap_set h1).1, by simp; omega, ?_, fun z' => ?_⟩, hg _⟩
    · simp [Instr.mapUpdate, run_underlying Tryd.underlying107, MapKept.run_getObj_map h1, run_check, hf, MapKept.run_setObj_map _ h1, Result.andThen, setBlock]
    · intro x hx
      simp only [Array.toList_push, List.mem_append, List.mem_singleton] at hx
      rcases hx with hx | rfl
      · exact h3 x hx
      · exact ⟨z, rfl⟩
    · rw [Array.toList_push, look_push z v c _ k2 z', h4]
  · have hf := MapKept.run_findKey (P := Tryd.prog) (w := w) Tryd.underlying3 k3
    have hj : es[j]? = some e := by simpa using k1
    have hke := kz_int k2
    have hlist : (es.modify j (fun e' => { e' with key := .int .i64 z, val := v })).toList = es.toList.set j { e with key := .int .i64 z, val := v } := by
      rw [Array.toList_modify, modify_eq_set _ _ _ _ k1]
    refine ⟨setBlock w b (.map (es.modify j (fun e' => { e' with key := .int .i64 z, val := v })) c), ?_, ⟨_, _, (MapKept.heap_set h1).1, by simp; omega, ?_, fun z' => ?_⟩, hg _⟩
    · simp [Instr.mapUpdate, run_underlying Tryd.underlying107, MapKept.run_getObj_map h1, run_check, hf, hj, hke, hst, MapKept.run_setObj_map _ h1, Result.andThen, setBlock]
    · intro x hx
      rw [hlist] at hx
      rcases List.mem_or_eq_of_mem_set hx with hx | rfl
      · exact h3 x hx
      · exact ⟨z, rfl⟩
    · rw [hlist, k5 v z', h4]
end Go.Proofs.YtldllbmbcnipoaaDoor.Lp

namespace Go.Proofs.YtldllbmbcnipoaaDoor.Lp
open Go.RowKit Go.Proofs.YtldllbmbcnipoaaDoor.Cm Go.Proofs.YtldllbmbcnipoaaDoor.Lc Go.Proofs.YtldllbmbcnipoaaDoor.Lcx
set_option linter.unusedVariables false

theorem Keep.grownOne (w : World) (b i : Nat) (v : Value) : w.grownBy (w.setCell ⟨b, i, none⟩ v) (some b) :=
  ⟨rfl, rfl, rfl, by simp [World.setCell], fun k hk hne => Below.heap_setCell _ _ _ _ (fun e => hne (by rw [e]))⟩
def Sb (C B : Nat) (v : Value) : Nat → Prop := fun b => b = C ∨ b = B ∨ v.ownBlock = some b
theorem Pl.more {S T : Nat → Prop} {w : World} {v : Value} {l : List (Nat × Nat)} (h : Pl S w v l) (hT : ∀ b, b < w.heap.size → T b → S b) : Pl T w v l := by
  obtain ⟨ao, cap, h1, h2, h3⟩ := h
  refine ⟨ao, cap, h1, h2, ?_⟩
  rcases h3 with h3 | ⟨b, o, h4, h5, h6, h7⟩
  · exact .inl h3
  · exact .inr ⟨b, o, h4, h5, fun ht => h6 (hT b h5 ht), h7⟩
/-- .. and whatever is new. -/
def Sn (w0 : World) (C B : Nat) (v : Value) : Nat → Prop := fun b => Sb C B v b ∨ w0.heap.size ≤ b
theorem Sn.old {w0 w : World} {C B : Nat} {v : Value} (h : Keep (Sn w0 C B v) w0 w) : Keep (Sb C B v) w0 w := h.mono (fun k hk hs => hs.resolve_right (by omega))
theorem own_keep {S : Nat → Prop} {w w' : World} {B e z n : Nat} {v : Value} {xs : List Value} (h : w.ownsRow B e z v n xs) (k : Keep S w w') (hv : ∀ g, v.ownBlock = some g → ¬ S g) : w'.ownsRow B e z v n xs := by
  refine ⟨h.1, ?_⟩
  rcases h.2 with hn | ⟨g, cap, cur, rfl, hb, hgg, rest⟩
  · exact .inl hn
  · exact .inr ⟨g, cap, cur, rfl, hb, k.at hgg (hv g rfl), rest⟩
def Aft (w0 : World) (C B : Nat) (v0 : Value) (W : Nat) (M : Nat → Nat) (k : Nat) (rest : List (Nat × Nat)) (vp : Value) (wr : World) : Prop :=
  Pl (Sn w0 C B v0) wr vp rest ∧ (∀ p ∈ rest, k ≤ p.1 ∧ p.1 < W) ∧ (∀ q, k ≤ q → M q = msk rest q) ∧ rest.Pairwise (fun p q => p.1 < q.1)
structure Bk (w0 : World) (C B W : Nat) (vc : Value) (X M : Nat → Nat) (v0 : Value) (ws : List (Nat × Nat)) (k : Nat) (rest : List (Nat × Nat)) (vp vw : Value) (z : Int) (t : Nat) (wr : World) : Prop where
  col : Col wr C vc W B (mid X M k) t
  pl : Pl (Sn w0 C B v0) wr vp rest
  row : wr.ownsRow 0 125 2 vw (ws ++ chg X M k).length ((ws ++ chg X M k).flatMap encW)
  loc : vw.ownBlock = v0.ownBlock ∨ ∃ g, vw.ownBlock = some g ∧ w0.heap.size ≤ g
  keep : Keep (Sn w0 C B v0) w0 wr
  bor : z = ((cw X M k).toNat : Int)
  ge : ∀ p ∈ rest, k ≤ p.1 ∧ p.1 < W
  mq : ∀ q, k ≤ q → M q = msk rest q
  rise : rest.Pairwise (fun p q => p.1 < q.1)
def BackPost (w0 : World) (C B W : Nat) (vc : Value) (X M : Nat → Nat) (v0 : Value) (ws : List (Nat × Nat)) (e : Ending) (w' : World) : Prop :=
  ∃ v' t', e = .returned v' ∧ Col w' C vc W B (nw X M) t' ∧ w'.ownsRow 0 125 2 v' (ws ++ chg X M W).length ((ws ++ chg X M W).flatMap encW) ∧
    (v'.ownBlock = v0.ownBlock ∨ ∃ g, v'.ownBlock = some g ∧ w0.heap.size ≤ g) ∧ Keep (Sb C B v0) w0 w'

theorem BackPost.intro {w0 : World} {C B W t' : Nat} {vc v0 v' : Value} {X M : Nat → Nat} {ws : List (Nat × Nat)} {w' : World} (h1 : Col w' C vc W B (nw X M) t')
    (h2 : w'.ownsRow 0 125 2 v' (ws ++ chg X M W).length ((ws ++ chg X M W).flatMap encW)) (h3 : v'.ownBlock = v0.ownBlock ∨ ∃ g, v'.ownBlock = some g ∧ w0.heap.size ≤ g) (h4 : Keep (Sb C B v0) w0 w') :
    BackPost w0 C B W vc X M v0 ws (.returned v') w' := ⟨v', t', rfl, h1, h2, h3, h4⟩
/-- The loop's end: nothing more is to be done. -/
theorem Bk.fin {w0 : World} {C B W : Nat} {vc : Value} {X M : Nat → Nat} {v0 : Value} {ws : List (Nat × Nat)} {k : Nat} {vp vw : Value} {z : Int} {t : Nat} {wr : World} (h : Bk w0 C B W vc X M v0 ws k [] vp vw z t wr) (hX : ∀ q, X q < 2 ^ 64) (hk : k ≤ W)
    (hj : (decide (z = 0) || decide (t ≤ k)) = true) : mid X M k = nw X M ∧ chg X M W = chg X M k := by
  have hM : ∀ q, k ≤ q → M q = 0 := fun q hq => h.mq q hq
  have hs : ∀ q, k ≤ q → nw X M q = X q := by
    intro q hq
    by_cases hz : z = 0
    · have hc : cw X M k = false := by
        have := h.bor
        cases hcw : cw X M k
        · rfl
        · rw [hcw, hz] at this; simp at this
      exact (pass_idle hX hc (q + 1) (by omega) (fun i h1 _ => hM i h1)).2 q hq (by omega)
    · have ht : t ≤ k := by simpa [hz] using hj
      refine (pass_none (c := cw X M k) rfl (q + 1) (by omega) (fun i h1 _ => ⟨hM i h1, ?_⟩)).2 q hq (by omega)
      have := h.col.2.2.2 i (by omega)
      unfold mid at this
      rwa [if_neg (by omega)] at this
  exact ⟨mid_end hs, chg_same W hk (fun q h1 _ => hs q h1)⟩
def Jmp (X M : Nat → Nat) (W k k' : Nat) (rest : List (Nat × Nat)) : Prop := k ≤ k' ∧ k' < W ∧ (∀ x ∈ rest, k' ≤ x.1) ∧ (∀ q, k ≤ q → q < k' → nw X M q = X q) ∧ cw X M k' = cw X M k
/-- Words are passed over. -/
theorem Bk.jump {w0 : World} {C B W : Nat} {vc : Value} {X M : Nat → Nat} {v0 : Value} {ws : List (Nat × Nat)} {k : Nat} {rest : List (Nat × Nat)} {p : Nat × Nat} {vp vw : Value} {z : Int} {t : Nat} {wr : World} (h : Bk w0 C B W vc X M v0 ws k (p :: rest) vp vw z t wr) (hX : ∀ q, X q < 2 ^ 64)
    (hj : (decide (z = 0) || decide (t ≤ k)) = true) : k ≤ p.1 ∧ p.1 < W ∧ (∀ x ∈ p :: rest, p.1 ≤ x.1) ∧ (∀ q, k ≤ q → q < p.1 → nw X M q = X q) ∧ cw X M p.1 = cw X M k := by
  have hp := h.ge p (List.mem_cons_self ..)
  have hr := h.rise
  rw [List.pairwise_cons] at hr
  have hge : ∀ x ∈ p :: rest, p.1 ≤ x.1 := fun x hx => by
    rcases List.mem_cons.1 hx with rfl | hx
    · exact Nat.le_refl _
    · exact Nat.le_of_lt (hr.1 x hx)
  have hM : ∀ q, k ≤ q → q < p.1 → M q = 0 := fun q h1 h2 => by
    rw [h.mq q h1]
    exact msk_none (fun x hx => by have := hge x hx; omega)
  by_cases hz : z = 0
  · have hc : cw X M k = false := by
      have := h.bor
      cases hcw : cw X M k
      · rfl
      · rw [hcw, hz] at this; simp at this
    obtain ⟨h1, h2⟩ := pass_idle hX hc p.1 hp.1 hM
    exact ⟨hp.1, hp.2, hge, h2, by rw [h1, hc]⟩
  · have ht : t ≤ k := by simpa [hz] using hj
    obtain ⟨h1, h2⟩ := pass_none (c := cw X M k) rfl p.1 hp.1 (fun i h1 h2 => ⟨hM i h1 h2, by
      have := h.col.2.2.2 i (by omega)
      unfold mid at this
      rwa [if_neg (by omega)] at this⟩)
    exact ⟨hp.1, hp.2, hge, h2, h1⟩

set_option maxHeartbeats 6400000 in
set_option maxRecDepth 100000 in
theorem back_any (C B W t : Nat) (vc vp v0 : Value) (X M : Nat → Nat) (pl ws : List (Nat × Nat)) (w : World) (h : Col w C vc W B X t) (hX : ∀ q, X q < 2 ^ 64) (hM : ∀ q, M q = msk pl q)
    (hp : Pl (Sb C B v0) w vp pl) (hpl : ∀ p ∈ pl, p.1 < W ∧ p.2 < 2 ^ 64) (hrise : pl.Pairwise (fun p q => p.1 < q.1))
    (hr : w.ownsRow 0 125 2 v0 ws.length (ws.flatMap encW)) (hCv : v0.ownBlock ≠ some C) (hBv : v0.ownBlock ≠ some B) (hBC : B ≠ C) (hW : W ≤ 100000) (hws : ws.length ≤ 100000) (hpn : pl.length ≤ 100000) (hB : B < w.heap.size) :
    Calls Tryd.prog 71 #[.pointer (some ⟨C, 0, none⟩), vp, v0] w (BackPost w C B W vc X M v0 ws) := by
  obtain ⟨i0, hi, hz0, hz1, hz2⟩ := info_parts infoW
  have hlC := lt_of_at h.1
  have HX := Lib.hid hX
  have HM64 : Hid (∀ q, M q < 2 ^ 64) := Lib.hid (fun q => by rw [hM]; exact msk_lt (fun p hp => (hpl p hp).2) q)
  have H0 : Hid (Bk w C B W vc X M v0 ws 0 pl vp v0 0 t w) := Lib.hid ⟨by rw [mid_zero]; exact h, hp.more (fun b hb hs => hs.resolve_right (by omega)), by simpa [chg] using hr, Or.inl rfl, Keep.refl _ _, rfl, fun p hp => ⟨Nat.zero_le _, (hpl p hp).1⟩, fun q _ => hM q, hrise⟩
  have HCv := Lib.hid hCv
  have HBv := Lib.hid hBv
  clear h hX hM hp hpl hrise hr hCv hBv
  go_enter Tryd.func71, Tryd.ntmps71
  go_wp2_with fail
  go_loopw [1, 2, 7, 8] (fun vp vw bz s wr => ∃ (k : Nat) (rest : List (Nat × Nat)) (z : Int) (t : Nat), k ≤ W ∧ rest.length ≤ 100000 ∧ bz = .int .u64 z ∧ s = .int .i64 k ∧ Hid (Bk w C B W vc X M v0 ws k rest vp vw z t wr)) (fun _ _ _ s _ => W - (intOf s).toNat)
  case atStart => exact ⟨0, pl, 0, t, Nat.zero_le _, hpn, rfl, rfl, H0⟩
  case round =>
    clear H0
    obtain ⟨k, rest, z, t', hk, hrl, rfl, rfl, HB⟩ := hrel
    have hlC' : C < wr.heap.size := lt_of_at HB.out.col.1
    have c1 : wr.cell? ⟨C, 1, none⟩ = some (.int .i64 t') := cell_at HB.out.col.1 1
    obtain ⟨j, hj⟩ : ∃ j : Bool, (decide (z = 0) || decide (t' ≤ k)) = j := ⟨_, rfl⟩
    have HJ := Lib.hid hj
    clear hj
    go_upto_region 4 with fail
    go_cut [24] from 13 to 83 (fun s wx => s = .bool j ∧ wr = wx)
    case first =>
      by_cases hz : z = 0
      · have ez : (z == 0) = true := by simp [hz]
        have Hz := Lib.hid hz
        clear hz
        go_wp2_with fail
        go_meet
        exact ⟨by rw [← HJ.out, Hz.out]; simp, rfl⟩
      · have ez : (z == 0) = false := by simp [hz]
        obtain ⟨d, hd⟩ : ∃ d, decide (t' ≤ k) = d := ⟨_, rfl⟩
        have hd2 : decide ((t' : Int) ≤ (k : Int)) = d := by rw [← hd]; simp
        have Hd := Lib.hid hd
        have Hz := Lib.hid hz
        clear hz
        go_wp2_with fail
        go_meet
        exact ⟨by rw [← HJ.out, Hd.out, decide_eq_false Hz.out]; simp, rfl⟩
    case rest =>
      obtain ⟨rfl, rfl⟩ := hcut
      by_cases hbr : j = true ∧ rest = []
      · obtain ⟨rfl, rfl⟩ := hbr
        obtain ⟨ao, cap, hvp, hcap, _⟩ := HB.out.pl
        simp only [List.length_nil] at hvp
        subst hvp
        obtain ⟨hm1, hm2⟩ := HB.out.fin HX.out hk HJ.out
        have HF : Hid (∃ t, Col wr C vc W B (nw X M) t ∧ wr.ownsRow 0 125 2 u2 (ws ++ chg X M W).length ((ws ++ chg X M W).flatMap encW) ∧ Keep (Sb C B v0) w wr) :=
          Lib.hid ⟨t', by rw [← hm1]; exact HB.out.col, by rw [hm2]; exact HB.out.row, Sn.old HB.out.keep⟩
        have HL := Lib.hid HB.out.loc
        clear hm1 hm2 HB HJ c1
        go_wp2_with fail
        go_loopw [] (fun wr => ∃ t, Hid (Col wr C vc W B (nw X M) t ∧ wr.ownsRow 0 125 2 u2 (ws ++ chg X M W).length ((ws ++ chg X M W).flatMap encW) ∧ Keep (Sb C B v0) w wr)) (fun wr => (intOf ((wr.cell? ⟨C, 1, none⟩).getD undef)).toNat)
        case atStart => exact HF.out
        case round =>
          clear HF
          obtain ⟨t2, HF⟩ := hrel
          have lC := lt_of_at HF.out.1.1
          have c0 : wr.cell? ⟨C, 0, none⟩ = some vc := cell_at HF.out.1.1 0
          have c1 : wr.cell? ⟨C, 1, none⟩ = some (.int .i64 t2) := cell_at HF.out.1.1 1
          have f1 := frozen_at HF.out.1.1 1
          rcases t2 with _ | t2
          · go_wp2_with fail
            go_quiet (fail)
            go_wp2_with fail
            go_ret
            exact BackPost.intro HF.out.1 HF.out.2.1 HL.out (HF.out.2.2.drewN _)
          · have htW : t2 + 1 ≤ W := HF.out.1.2.2.1
            have e1 : IntKind.i64.wrap (((t2 + 1 : Nat) : Int) - 1) = (t2 : Int) := by rw [IntKind.wrap_i64]; omega
            rcases HF.out.1.2.1 with ⟨h0, _⟩ | ⟨h0, cap2, cur, hvc, k1, k2, k3, k4⟩
            · omega
            have c2 : wr.cell? ⟨B, t2, none⟩ = some (.int .u64 (nw X M t2)) := (cell_at k2 t2).trans (k4 t2 (by omega))
            have lB := lt_of_at k2
            have ht2 : (t2 : Int) < (W : Int) := by omega
            obtain ⟨t3, ht3⟩ : ∃ t3, t2 + 1 = t3 := ⟨_, rfl⟩
            rw [ht3] at c1 e1
            have ht3p : 0 < t3 := by omega
            have d0 : decide ((0 : Int) < (t3 : Int)) = true := decide_eq_true (by omega)
            have d1 : decide (0 < t3) = true := decide_eq_true (by omega)
            have HT := Lib.hid ht3
            have HM : Hid ((intOf ((wr.cell? ⟨C, 1, none⟩).getD undef)).toNat = t3) := Lib.hid (by rw [c1]; simp [intOf])
            have e1' : (t3 : Int) - 1 = (t2 : Int) := by omega
            rw [hvc] at c0
            clear k1 k2 k3 k4 ht3 hvc
            by_cases hz : nw X M t2 = 0
            · have ez : (((nw X M t2 : Nat) : Int) == 0) = true := by rw [hz]; rfl
              have Hz := Lib.hid hz
              clear hz
              go_wp2_with fail
              go_quiet (fail)
              have HF1 : Hid (Col (wr.drewN nq) C vc W B (nw X M) t3 ∧ (wr.drewN nq).ownsRow 0 125 2 u2 (ws ++ chg X M W).length ((ws ++ chg X M W).flatMap encW) ∧ Keep (Sb C B v0) w (wr.drewN nq)) :=
                Lib.hid (by rw [← HT.out]; exact ⟨HF.out.1, HF.out.2.1, HF.out.2.2.drewN _⟩)
              have c1' : (wr.drewN nq).cell? ⟨C, 1, none⟩ = some (.int .i64 t3) := c1
              have f1' : (wr.drewN nq).frozen? ⟨C, 1, none⟩ = false := f1
              clear HF c0 c1 c2 f1 lC lB
              generalize wr.drewN nq = w2 at *
              go_wp2_with fail
              have HF2 : Hid (Col (w2.setCell ⟨C, 1, none⟩ (.int .i64 t2)) C vc W B (nw X M) t2 ∧ (w2.setCell ⟨C, 1, none⟩ (.int .i64 t2)).ownsRow 0 125 2 u2 (ws ++ chg X M W).length ((ws ++ chg X M W).flatMap encW) ∧ Keep (Sb C B v0) w (w2.setCell ⟨C, 1, none⟩ (.int .i64 t2))) := Lib.hid ⟨
                ⟨set_at HF1.out.1.1 1 _, HF1.out.1.2.1.keep (S := fun k => k = C) ((Keep.refl (fun k => k = C) w2).setCell (p := ⟨C, 1, none⟩) (Or.inl rfl) _) hBC, by omega, fun q hq => by
                  by_cases e : q = t2
                  · rw [e]; exact Hz.out
                  · exact HF1.out.1.2.2.2 q (by have := HT.out; omega)⟩,
                by
                  refine HF1.out.2.1.kept (row := some C) (Keep.grownOne w2 C 1 _) ?_
                  rcases HL.out with h | ⟨g, h, hg⟩
                  · right; rw [h]; exact HCv.out
                  · right; rw [h]; intro e; simp at e; omega,
                HF1.out.2.2.setCell (p := ⟨C, 1, none⟩) (Or.inl (Or.inl rfl)) _⟩
              have M1 : Hid ((intOf (((w2.setCell ⟨C, 1, none⟩ (.int .i64 t2)).cell? ⟨C, 1, none⟩).getD undef)).toNat = t2) := Lib.hid (by rw [cell_at HF2.out.1.1 1]; rfl)
              have M2 : Hid ((intOf ((wr.cell? ⟨C, 1, none⟩).getD undef)).toNat = t3) := HM
              go_roundw
              case rel => exact ⟨t2, HF2⟩
              case measure => rw [M1.out, M2.out]; have := HT.out; omega
            · have ez : (((nw X M t2 : Nat) : Int) == 0) = false := by rw [beq_eq_false_iff_ne]; omega
              clear hz
              go_wp2_with fail
              go_quiet (fail)
              go_wp2_with fail
              go_ret
              exact BackPost.intro HF.out.1 HF.out.2.1 HL.out (HF.out.2.2.drewN _)
      · have HBR := Lib.hid hbr
        clear hbr
        have hlW : t' ≤ W := HB.out.col.2.2.1
        go_upto_if 24 with fail
        go_cut [8] from 13 to 83 (fun s wx => wr = wx ∧ ∃ k' : Nat, s = .int .i64 k' ∧ Jmp X M W k k' rest)
        case first =>
          rcases j with _ | _
          · have HK : Jmp X M W k k rest := ⟨Nat.le_refl _, by
                have := HJ.out
                simp at this
                omega, fun x hx => (HB.out.ge x hx).1, fun q h1 h2 => by omega, rfl⟩
            clear HB HJ HBR c1
            go_wp2_with fail
            go_meet
            exact ⟨rfl, k, rfl, HK⟩
          · rcases rest with _ | ⟨p, rest⟩
            · exact absurd ⟨rfl, rfl⟩ HBR.out
            · have HK : Jmp X M W k p.1 (p :: rest) := HB.out.jump HX.out HJ.out
              obtain ⟨ao, cap, hvp, hcap, hx⟩ := HB.out.pl
              rcases hx with hx | ⟨b, o, rfl, hb, hsb, hcell⟩
              · cases hx
              have cp := (hcell 0 p rfl).1
              simp only [Nat.zero_mul, Nat.add_zero] at cp
              subst hvp
              simp only [List.length_cons] at hrl hcap ⊢
              have e0 : (((rest.length + 1 : Nat) : Int) == 0) = false := by rw [beq_eq_false_iff_ne]; omega
              have e1 : (rest.length + 1 == 0) = false := by simp
              have e2 : ((rest.length : Int) + 1 == 0) = false := by rw [beq_eq_false_iff_ne]; omega
              have t1 : 0 < rest.length + 1 := by omega
              clear HB HJ HBR c1 hcell
              go_wp2_with fail
              go_meet
              exact ⟨rfl, p.1, rfl, HK⟩
        case rest =>
          obtain ⟨rfl, k', rfl, HK⟩ := hcut
          have hk' : k' < W := HK.2.1
          have hkk : k ≤ k' := HK.1
          clear HJ HBR
          obtain ⟨b2, hb2⟩ : ∃ b2 : Bool, (match rest with | [] => false | p :: _ => decide (p.1 = k')) = b2 := ⟨_, rfl⟩
          have HB2 := Lib.hid hb2
          clear hb2
          go_upto_region 8 with fail
          go_cut [42] from 13 to 83 (fun s wx => wr = wx ∧ s = .bool b2)
          case first =>
            rcases rest with _ | ⟨p, rest⟩
            · obtain ⟨ao, cap, hvp, hcap, hx⟩ := HB.out.pl
              simp only [List.length_nil] at hvp
              subst hvp
              have hb2 : false = b2 := HB2.out
              subst hb2
              clear HB2 HB HK c1
              go_wp2_with fail
              go_meet
              exact ⟨rfl, rfl⟩
            · obtain ⟨ao, cap, hvp, hcap, hx⟩ := HB.out.pl
              rcases hx with hx | ⟨b, o, rfl, hb, hsb, hcell⟩
              · cases hx
              have cp := (hcell 0 p rfl).1
              simp only [Nat.zero_mul, Nat.add_zero] at cp
              subst hvp
              simp only [List.length_cons] at hrl hcap ⊢
              have e0 : decide ((0 : Int) < ((rest.length + 1 : Nat) : Int)) = true := decide_eq_true (by omega)
              have e1 : decide (0 < rest.length + 1) = true := decide_eq_true (by omega)
              have e2 : decide ((0 : Int) < (rest.length : Int) + 1) = true := decide_eq_true (by omega)
              have t1 : 0 < rest.length + 1 := by omega
              have e3 : ((p.1 : Int) == (k' : Int)) = b2 := by
                have h : decide (p.1 = k') = b2 := HB2.out
                rw [← h]
                by_cases e : p.1 = k'
                · rw [decide_eq_true e, e]; simp
                · rw [decide_eq_false e, beq_eq_false_iff_ne]; omega
              clear HB HK c1 hcell HB2
              generalize p.1 = pa at *
              go_wp2_with fail
              go_meet
              exact ⟨rfl, rfl⟩
          case rest =>
            obtain ⟨rfl, rfl⟩ := hcut
            go_upto_if 42 with fail
            go_cut [1, 9] from 13 to 83 (fun vp' hh wx => ∃ (rest2 : List (Nat × Nat)) (n : Nat), wx = wr.drewN n ∧ rest2.length ≤ 100000 ∧ hh = .int .u64 ((M k' : Nat) : Int) ∧ Aft w C B v0 W M (k' + 1) rest2 vp' wr)
            case first =>
              have hge : ∀ x ∈ rest, k' ≤ x.1 := HK.2.2.1
              rcases b2 with _ | _
              · have hne : ∀ x ∈ rest, k' + 1 ≤ x.1 := by
                  rcases rest with _ | ⟨p, rest⟩
                  · intro x hx; cases hx
                  · have h1 : decide (p.1 = k') = false := HB2.out
                    have h2 := HB.out.rise
                    rw [List.pairwise_cons] at h2
                    have h3 := hge p (List.mem_cons_self ..)
                    have h4 : p.1 ≠ k' := by simpa using h1
                    intro x hx
                    rcases List.mem_cons.1 hx with rfl | hx
                    · omega
                    · have := h2.1 x hx; omega
                have HA : Aft w C B v0 W M (k' + 1) rest u1 wr := ⟨HB.out.pl, fun x hx => ⟨hne x hx, (HB.out.ge x hx).2⟩, fun q hq => HB.out.mq q (by omega), HB.out.rise⟩
                have HM0 : Hid (M k' = 0) := Lib.hid (by rw [HB.out.mq k' hkk]; exact msk_none (fun x hx => by have := hne x hx; omega))
                clear HB HK hge hne HB2
                go_wp2_with fail
                go_meet
                exact ⟨rest, 0, rfl, hrl, by rw [HM0.out]; rfl, HA⟩
              · rcases rest with _ | ⟨p, rest⟩
                · exact absurd HB2.out (by simp)
                · have h1 : p.1 = k' := by have : decide (p.1 = k') = true := HB2.out; simpa using this
                  have h2 := HB.out.rise
                  rw [List.pairwise_cons] at h2
                  have hmp : M k' = p.2 := by rw [HB.out.mq k' hkk]; exact if_pos h1
                  have HPL := HB.out.pl
                  obtain ⟨ao, cap, hvp, hcap, hx⟩ := HB.out.pl
                  rcases hx with hx | ⟨b, o, rfl, hb, hsb, hcell⟩
                  · cases hx
                  have cp := (hcell 0 p rfl).2
                  simp only [Nat.zero_mul, Nat.add_zero] at cp
                  subst hvp
                  simp only [List.length_cons] at hrl hcap HPL ⊢
                  obtain ⟨v9, hrun, hpl9⟩ := slice_rest HPL (by omega)
                  have HA : Aft w C B v0 W M (k' + 1) rest v9 wr := ⟨hpl9, fun x hx => ⟨by have := h2.1 x hx; omega, (HB.out.ge x (List.mem_cons_of_mem _ hx)).2⟩, fun q hq => by
                    rw [HB.out.mq q (by omega)]
                    exact if_neg (by omega), h2.2⟩
                  have t1 : 0 < rest.length + 1 := by omega
                  have HMP := Lib.hid hmp
                  have HRL : Hid (rest.length ≤ 100000) := Lib.hid (by omega)
                  clear HB HK hge HB2 h1 h2 hmp HPL hcell hpl9 hcap
                  generalize p.2 = pb at *
                  go_wp2_with fail
                  go_quiet (fail)
                  go_wp2_with fail
                  go_meet
                  exact ⟨rest, nq, rfl, HRL.out, by rw [HMP.out], HA⟩
            case rest =>
              obtain ⟨rest2, n2, rfl, hrl2, rfl, HA⟩ := hcut
              obtain ⟨c, hc⟩ : ∃ c, cw X M k' = c := ⟨_, rfl⟩
              have hzc : z = (c.toNat : Int) := by rw [HB.out.bor, ← HK.2.2.2.2, hc]
              have hmidk : mid X M k = mid X M k' := (mid_pass hkk HK.2.2.2.1).symm
              have hchg : chg X M k' = chg X M k := chg_same k' hkk HK.2.2.2.1
              have HC : Hid (Col (wr.drewN n2) C vc W B (mid X M k') t') := Lib.hid (by rw [← hmidk]; exact HB.out.col)
              have HR : Hid ((wr.drewN n2).ownsRow 0 125 2 u2 (ws ++ chg X M k').length ((ws ++ chg X M k').flatMap encW)) := Lib.hid (by rw [hchg]; exact HB.out.row)
              have HL := Lib.hid HB.out.loc
              have HKp : Hid (Keep (Sn w C B v0) w (wr.drewN n2)) := Lib.hid (HB.out.keep.drewN _)
              have HAf : Aft w C B v0 W M (k' + 1) rest2 u1 (wr.drewN n2) := HA
              have hbc : cw X M (k' + 1) = outW (X k') (M k') c := by rw [← hc]; rfl
              have hnw : nw X M k' = newW (X k') (M k') c := by rw [← hc]; rfl
              have HLN : Hid ((ws ++ chg X M k').length ≤ 300000) := Lib.hid (by rw [List.length_append]; have := chg_len X M k'; omega)
              clear HB2 HB HK HA hmidk hchg c1
              generalize hwq : wr.drewN n2 = wq at *
              clear hwq
              have hxl := HX.out k'
              have hml := HM64.out k'
              have hmid : mid X M k' k' = X k' := if_neg (by omega)
              rcases HC.out.2.1 with ⟨h0, _⟩ | ⟨h0, cap2, cur, hvc, k1, k2, k3, k4⟩
              · omega
              have c0 : wq.cell? ⟨C, 0, none⟩ = some vc := cell_at HC.out.1 0
              have c2 : wq.cell? ⟨B, k', none⟩ = some (.int .u64 (X k')) := by rw [cell_at k2 k', k4 k' hk', hmid]
              have lC := lt_of_at HC.out.1
              have lB := lt_of_at k2
              rw [hvc] at c0
              clear k1 k2 k3 k4 hmid
              have eo : bits .andNot .u64 (M k' : Int) (X k' : Int) = ((offW (X k') (M k') : Nat) : Int) := u64_andNot_nat (M k') (X k') hml hxl
              have es := run_subW (X k') (M k') c z hzc
              have eor : bits .or .u64 (X k' : Int) (M k' : Int) = ((X k' ||| M k' : Nat) : Int) := u64_or_nat (X k') (M k') hxl hml
              have ean : bits .and .u64 ((X k' ||| M k' : Nat) : Int) (lessW (X k') (M k') c : Int) = ((nw X M k' : Nat) : Int) := by
                rw [hnw]; exact u64_and_nat _ _ (Nat.or_lt_two_pow hxl hml) (Nat.mod_lt _ (by decide))
              have tk : (k' : Int) < (W : Int) := by omega
              have HBC2 := Lib.hid hbc
              have HVC := Lib.hid hvc
              clear hbc hnw hzc hxl hml hc hvc
              generalize lessW (X k') (M k') c = lw at *
              generalize offW (X k') (M k') = ow at *
              generalize X k' ||| M k' = om at *
              obtain ⟨zo, hzo⟩ : ∃ zo, (outW (X k') (M k') c).toNat = zo := ⟨_, rfl⟩
              rw [hzo] at es
              have HZO : Hid ((zo : Int) = ((cw X M (k' + 1)).toNat : Int)) := Lib.hid (by rw [HBC2.out, hzo])
              clear hzo HBC2
              have hkw : k' + 1 ≤ W := by omega
              by_cases hyx : nw X M k' = X k'
              · have e1 : (((nw X M k' : Nat) : Int) != ((X k' : Nat) : Int)) = false := by rw [hyx]; simp
                have HBn : Hid (Bk w C B W vc X M v0 ws (k' + 1) rest2 u1 u2 zo t' wq) := Lib.hid (by
                  have hs : ∀ q, k' ≤ q → q < k' + 1 → nw X M q = X q := fun q h1 h2 => by rw [show q = k' by omega]; exact hyx
                  refine ⟨?_, HAf.1, ?_, HL.out, HKp.out, HZO.out, HAf.2.1, HAf.2.2.1, HAf.2.2.2⟩
                  · rw [mid_pass (Nat.le_succ k') hs]; exact HC.out
                  · rw [chg_same (k' + 1) (Nat.le_succ k') hs]; exact HR.out)
                clear hyx
                generalize nw X M k' = y at *
                generalize X k' = x at *
                generalize M k' = m at *
                clear HAf
                go_wp2_with fail
                go_roundw
                case rel => exact ⟨k' + 1, rest2, zo, t', hkw, hrl2, rfl, by go_num, HBn⟩
                case measure => simp [intOf] <;> omega
              · have e1 : (((nw X M k' : Nat) : Int) != ((X k' : Nat) : Int)) = true := by rw [bne_iff_ne]; omega
                have HYX : Hid (¬ nw X M k' = X k') := Lib.hid hyx
                have hvC : u2.ownBlock ≠ some C := by
                  rcases HL.out with h | ⟨g, h, hg⟩
                  · rw [h]; exact HCv.out
                  · rw [h]; intro e; simp at e; omega
                have hvB : u2.ownBlock ≠ some B := by
                  rcases HL.out with h | ⟨g, h, hg⟩
                  · rw [h]; exact HBv.out
                  · rw [h]; intro e; simp at e; omega
                have HvC := Lib.hid hvC
                have HvB := Lib.hid hvB
                have hsz : w.heap.size ≤ wq.heap.size := HKp.out.size
                have HEN : Hid (encW (k', X k') = [.int .i64 (k' : Int), .int .u64 (X k' : Int)]) := Lib.hid rfl
                clear hyx hvC hvB
                go_wp2_with (at_builtin; refine wpList_append_own_at _ rfl _ _ 110 rfl 0 125 i0 (.agg #[.int .i64 0, .int .u64 0]) 2 16 Tryd.underlying110 hi hz0 hz1 hz2 rfl (by decide) _ _ _ rfl (HR.out.alloc _) ⟨wq.heap.size, 0, none⟩ 1 1 (encW (k', X k')) rfl rfl newsK (encW_one _) (by unfold maxLen; have := HLN.out; omega) (by have := HLN.out; omega) (Nat.zero_le _) ?_)
                intro v' w2 hown' hgrow _ hloc
                have hech : chg X M (k' + 1) = chg X M k' ++ [(k', X k')] := by
                  show chg X M k' ++ _ = _
                  rw [if_neg HYX.out]
                have HR2 : Hid (w2.ownsRow 0 125 2 v' (ws ++ chg X M (k' + 1)).length ((ws ++ chg X M (k' + 1)).flatMap encW)) := Lib.hid (by
                  rw [hech]
                  have e1 : (ws ++ (chg X M k' ++ [(k', X k')])).length = ws.length + (chg X M k').length + 1 := by simp [Nat.add_assoc]
                  have e2 : (ws ++ (chg X M k' ++ [(k', X k')])).flatMap encW = List.flatMap encW ws ++ (List.flatMap encW (chg X M k') ++ encW (k', X k')) := by simp [List.flatMap_append]
                  rw [e1, e2]
                  exact hown')
                have hrow : ∀ g, u2.ownBlock = some g → Sn w C B v0 g := fun g hg => by
                  rcases HL.out with h | ⟨g', h, hg'⟩
                  · exact Or.inl (Or.inr (Or.inr (by rw [← h]; exact hg)))
                  · rw [h] at hg; cases hg; exact Or.inr hg'
                have HK2 : Hid (Keep (Sn w C B v0) w w2) := Lib.hid ((HKp.out.alloc _).grown hgrow (fun g hg => Or.inl (hrow g hg)))
                have HC2 : Hid (Col w2 C vc W B (mid X M k') t') := Lib.hid (HC.out.keep (S := fun b => u2.ownBlock = some b) (((Keep.refl _ wq).alloc _).grown hgrow (fun g hg => Or.inl hg)) HvC.out HvB.out)
                have HA2 : Hid (Pl (Sn w C B v0) w2 u1 rest2) := Lib.hid (HAf.1.keep (((Keep.refl _ wq).alloc _).grown hgrow (fun g hg => Or.inl (hrow g hg))))
                have HL2 : Hid (v'.ownBlock = v0.ownBlock ∨ ∃ g, v'.ownBlock = some g ∧ w.heap.size ≤ g) := Lib.hid (by
                  rcases hloc with h | h
                  · rw [h]; exact HL.out
                  · exact Or.inr ⟨_, h, by have := HKp.out.size; simp; omega⟩)
                have HP := Lib.hid (put_any C B W t' k' (nw X M k') vc (mid X M k') w2 HC2.out hk' (by omega) hBC)
                have HAt : Hid ((∀ p ∈ rest2, k' + 1 ≤ p.1 ∧ p.1 < W) ∧ (∀ q, k' + 1 ≤ q → M q = msk rest2 q) ∧ rest2.Pairwise (fun p q => p.1 < q.1)) := Lib.hid HAf.2
                clear hown' hgrow hloc hech hrow HAf HC HR c0 c2 lC lB
                go_wp2_with fail
                refine HP.out.mono ?_
                rintro e w3 ⟨⟨r, rfl⟩, hcol, hkeep⟩
                rw [mid_up] at hcol
                have hk3 : Keep (Sn w C B v0) w2 w3 := hkeep.mono (fun g _ hg => Or.inl (hg.elim Or.inl (fun h => Or.inr (Or.inl h))))
                have HBn : Hid (Bk w C B W vc X M v0 ws (k' + 1) rest2 u1 v' zo (max t' (k' + 1)) w3) := Lib.hid
                  ⟨hcol, HA2.out.keep hk3, own_keep HR2.out hkeep (fun g hg hs => by
                    rcases HL2.out with h | ⟨g', h, hg'⟩
                    · rw [h] at hg
                      rcases hs with hs | hs
                      · exact HCv.out (by rw [hg, hs])
                      · exact HBv.out (by rw [hg, hs])
                    · rw [h] at hg; cases hg
                      rcases hs with hs | hs <;> omega), HL2.out, HK2.out.trans hk3, HZO.out, HAt.out.1, HAt.out.2.1, HAt.out.2.2⟩
                clear hcol hkeep hk3 HP
                go_wp2_with fail
                go_roundw
                case rel => exact ⟨k' + 1, rest2, zo, _, hkw, hrl2, rfl, by go_num, HBn⟩
                case measure => simp [intOf] <;> omega
end Go.Proofs.YtldllbmbcnipoaaDoor.Lp

namespace Go.Proofs.YtldllbmbcnipoaaDoor.Lp
open Go.RowKit Go.Proofs.YtldllbmbcnipoaaDoor.Cm Go.Proofs.YtldllbmbcnipoaaDoor.Lc Go.Proofs.YtldllbmbcnipoaaDoor.Lcx
set_option linter.unusedVariables false

/-- The map so far: the k places from the end on. -/
def PM (H : Nat) (w : World) (Mb : Nat) (a : List Int) (k : Nat) : Prop :=
  ∃ f, Mp w Mb f k ∧ H ≤ Mb ∧ ∀ z, (f z = none ∧ rpl (Mc a z) k = []) ∨ ∃ v g, f z = some v ∧ v.ownBlock = some g ∧ H ≤ g ∧
    w.ownsRow 0 125 2 v (rpl (Mc a z) k).reverse.length ((rpl (Mc a z) k).reverse.flatMap encW) ∧ ∀ z' v', f z' = some v' → v'.ownBlock = some g → z' = z
theorem own_obj {w : World} {B e z n g : Nat} {v : Value} {xs : List Value} (h : w.ownsRow B e z v n xs) (hg : v.ownBlock = some g) : ∃ cur, w.heap[g]? = some (.cells cur e (0, 0)) := by
  rcases h.2 with ⟨rfl, _⟩ | ⟨g', cap, cur, rfl, _, h3, _⟩
  · simp [Value.ownBlock] at hg
  · simp [Value.ownBlock] at hg; subst hg; exact ⟨cur, h3⟩
theorem PM.keep {S : Nat → Prop} {H : Nat} {w w' : World} {Mb : Nat} {a : List Int} {k : Nat} (h : PM H w Mb a k) (K : Keep S w w') (hS : ∀ b, H ≤ b → b < w.heap.size → ¬ S b) : PM H w' Mb a k := by
  obtain ⟨f, h1, h2, h3⟩ := h
  refine ⟨f, h1.keep K (hS _ h2 h1.lt), h2, fun z => ?_⟩
  rcases h3 z with h4 | ⟨v, g, k1, k2, k3, k4, k5⟩
  · exact .inl h4
  · obtain ⟨cur, hc⟩ := own_obj k4 k2
    exact .inr ⟨v, g, k1, k2, k3, own_keep k4 K (fun g' hg' => by rw [k2] at hg'; cases hg'; exact hS g k3 (lt_of_at hc)), k5⟩
/-- What is known of the map's rows. -/
def Rows3 (H : Nat) (w : World) (a : List Int) (k : Nat) (f : Int → Option Value) : Prop :=
  ∀ (z : Int), f z = none ∧ rpl (Mc a z) k = [] ∨ ∃ v g, f z = some v ∧ v.ownBlock = some g ∧ H ≤ g ∧
    w.ownsRow 0 125 2 v (rpl (Mc a z) k).reverse.length ((rpl (Mc a z) k).reverse.flatMap encW) ∧ ∀ (z' : Int) (v' : Value), f z' = some v' → v'.ownBlock = some g → z' = z
theorem Mp.mono {w : World} {b n m : Nat} {f : Int → Option Value} (h : Mp w b f n) (hm : n ≤ m) : Mp w b f m := by
  obtain ⟨es, c, h1, h2, h3⟩ := h
  exact ⟨es, c, h1, Nat.le_trans h2 hm, h3⟩
theorem Mp.not_cells {w : World} {b n : Nat} {f : Int → Option Value} (h : Mp w b f n) {cur : Array Value} {t : TypeId} {fr : Nat × Nat} {g : Nat} (hg : w.heap[g]? = some (.cells cur t fr)) : g ≠ b := by
  obtain ⟨es, c, h1, _⟩ := h
  intro e
  subst e
  rw [h1] at hg
  cases hg
/-- One row is another one now; the map is as it was. -/
theorem Rows3.change {H : Nat} {w w' : World} {a : List Int} {k : Nat} {f : Int → Option Value} {Mb n : Nat} {x : Int} {v : Value} {g : Nat} {L : List (Nat × Nat)} (hf : Rows3 H w a k f) (hm : Mp w Mb f n) (hH : H ≤ Mb) (hn : n ≤ k + 1)
    (h1 : f x = some v) (h2 : v.ownBlock = some g) (hnx : ∀ z, rpl (Mc a z) (k + 1) = if z = x then L else rpl (Mc a z) k) (K : Keep (fun b => b = g) w w') (hr : w'.ownsRow 0 125 2 v L.reverse.length (L.reverse.flatMap encW)) : PM H w' Mb a (k + 1) := by
  rcases hf x with ⟨k1, _⟩ | ⟨v0, g0, k1, k2, k3, k4, k5⟩
  · rw [k1] at h1; cases h1
  rw [h1] at k1
  obtain rfl := Option.some.inj k1
  rw [h2] at k2
  obtain rfl := Option.some.inj k2
  obtain ⟨cur, hc⟩ := own_obj k4 h2
  have hgm := hm.not_cells hc
  refine ⟨f, (hm.keep K (fun e => hgm e.symm)).mono hn, hH, fun z => ?_⟩
  rw [hnx z]
  by_cases e : z = x
  · subst e
    rw [if_pos rfl]
    exact .inr ⟨v, g, h1, h2, k3, hr, k5⟩
  · rw [if_neg e]
    rcases hf z with h | ⟨v2, g2, j1, j2, j3, j4, j5⟩
    · exact .inl h
    · exact .inr ⟨v2, g2, j1, j2, j3, own_keep j4 K (fun g3 hg3 e3 => by rw [j2] at hg3; cases hg3; subst e3; exact e (k5 z v2 j1 j2)), j5⟩
/-- A new element stands at a key. -/
theorem Rows3.insert {H : Nat} {w w6 w7 : World} {a : List Int} {k : Nat} {f : Int → Option Value} {Mb : Nat} {x : Int} {vl v' : Value} {gN : Nat} {L : List (Nat × Nat)} (hf : Rows3 H w a k f) (hm : Mp w Mb f k) (hH : H ≤ Mb) (hHw : H ≤ w.heap.size)
    (hvl : (f x).getD (.slice none 0 0) = vl) (hnx : ∀ z, rpl (Mc a z) (k + 1) = if z = x then L else rpl (Mc a z) k)
    (K : Keep (fun b => vl.ownBlock = some b) w w6) (hr : w6.ownsRow 0 125 2 v' L.reverse.length (L.reverse.flatMap encW)) (hL : L ≠ []) (hloc : v'.ownBlock = vl.ownBlock ∨ v'.ownBlock = some gN) (hgN : w.heap.size ≤ gN)
    (hm7 : Mp w7 Mb (fun z => if z = x then some v' else f z) (k + 1)) (hg7 : w6.grownBy w7 (some Mb)) : PM H w7 Mb a (k + 1) := by
  have hm6 : Mp w6 Mb f k := by
    refine hm.keep K (fun e => ?_)
    rcases hf x with ⟨k1, _⟩ | ⟨v0, g0, k1, k2, k3, k4, k5⟩
    · rw [k1] at hvl; rw [← hvl] at e; simp [Value.ownBlock] at e
    · rw [k1] at hvl
      have hvl : v0 = vl := hvl
      rw [← hvl, k2] at e
      obtain ⟨cur, hc⟩ := own_obj k4 k2
      cases e
      exact hm.not_cells hc rfl
  have K7 : Keep (fun b => b = Mb) w6 w7 := (Keep.refl _ w6).grown hg7 (fun b hb => by cases hb; exact Or.inl rfl)
  have hlen : 0 < L.reverse.length := by
    rw [List.length_reverse]; exact List.length_pos_iff.2 hL
  obtain ⟨g', hg'⟩ : ∃ g', v'.ownBlock = some g' := by
    rcases hr.2 with ⟨_, h0⟩ | ⟨g, cap, cur, rfl, _⟩
    · omega
    · exact ⟨g, rfl⟩
  obtain ⟨cur', hc'⟩ := own_obj hr hg'
  have hnm := hm6.not_cells hc'
  have hr7 := own_keep hr K7 (fun g hg e => by rw [hg'] at hg; cases hg; exact hnm e)
  -- who else lies in that block
  have huniq : ∀ z v2, f z = some v2 → v2.ownBlock = some g' → z = x := fun z v2 hz hg2 => by
    rcases hf z with ⟨k1, _⟩ | ⟨v0, g0, k1, k2, k3, k4, k5⟩
    · rw [k1] at hz; cases hz
    rw [hz] at k1
    obtain rfl := Option.some.inj k1
    rw [hg2] at k2
    obtain rfl := Option.some.inj k2
    obtain ⟨cur, hc⟩ := own_obj k4 hg2
    have hlt := lt_of_at hc
    rcases hloc with h | h
    · rw [hg'] at h
      rcases hf x with ⟨j1, _⟩ | ⟨v1, g1, j1, j2, j3, j4, j5⟩
      · rw [j1] at hvl; rw [← hvl] at h; simp [Value.ownBlock] at h
      · rw [j1] at hvl
        have hvl : v1 = vl := hvl
        rw [← hvl, j2] at h
        cases h
        exact j5 z v2 hz hg2
    · rw [hg'] at h; cases h; omega
  have hge : H ≤ g' := by
    rcases hloc with h | h
    · rw [hg'] at h
      rcases hf x with ⟨j1, _⟩ | ⟨v1, g1, j1, j2, j3, j4, j5⟩
      · rw [j1] at hvl; rw [← hvl] at h; simp [Value.ownBlock] at h
      · rw [j1] at hvl
        have hvl : v1 = vl := hvl
        rw [← hvl, j2] at h
        cases h
        exact j3
    · rw [hg'] at h; cases h; omega
  refine ⟨_, hm7, hH, fun z => ?_⟩
  by_cases e : z = x
  · subst e
    refine .inr ⟨v', g', if_pos rfl, hg', hge, by rw [hnx z, if_pos rfl]; exact hr7, fun z' v2 hz hg2 => ?_⟩
    by_cases e2 : z' = z
    · exact e2
    · rw [if_neg e2] at hz
      exact huniq z' v2 hz hg2
  · rw [if_neg e]
    rcases hf z with ⟨k1, k2⟩ | ⟨v2, g2, j1, j2, j3, j4, j5⟩
    · exact .inl ⟨k1, by rw [hnx z, if_neg e]; exact k2⟩
    · have hne : vl.ownBlock ≠ some g2 := fun h => by
        rcases hf x with ⟨i1, _⟩ | ⟨v1, g1, i1, i2, i3, i4, i5⟩
        · rw [i1] at hvl; rw [← hvl] at h; simp [Value.ownBlock] at h
        · rw [i1] at hvl
          have hvl : v1 = vl := hvl
          rw [← hvl, i2] at h
          cases h
          exact e (i5 z v2 j1 j2)
      have j6 := own_keep j4 K (fun g hg h => by rw [j2] at hg; cases hg; exact hne h)
      obtain ⟨c6, hc6⟩ := own_obj j6 j2
      refine .inr ⟨v2, g2, j1, j2, j3, by rw [hnx z, if_neg e]; exact own_keep j6 K7 (fun g hg h => by rw [j2] at hg; cases hg; exact hm6.not_cells hc6 h), fun z' v3 hz hg3 => ?_⟩
      by_cases e2 : z' = x
      · rw [if_pos e2] at hz
        obtain rfl := Option.some.inj hz
        rw [hg'] at hg3
        cases hg3
        exact absurd (huniq z v2 j1 j2) e
      · rw [if_neg e2] at hz
        exact j5 z' v3 hz hg3
/-- The map, as it is read: its blocks lie between H and H2. -/
def Pls (w : World) (Mb H H2 : Nat) (a : List Int) : Prop :=
  H ≤ Mb ∧ Mb < H2 ∧ ∃ f n, Mp w Mb f n ∧ ∀ z, Pl (fun b => b < H ∨ H2 ≤ b) w ((f z).getD (.slice none 0 0)) (pls a z)
theorem Pl.of_own {S : Nat → Prop} {w : World} {v : Value} {l : List (Nat × Nat)} (h : w.ownsRow 0 125 2 v l.length (l.flatMap encW)) (hS : ∀ g, v.ownBlock = some g → ¬ S g) : Pl S w v l := by
  have hr : Rk 2 encW w v l := Rk.of_own encW_len h
  rcases h.2 with ⟨rfl, h0⟩ | ⟨g, cap, cur, rfl, _, h3, h4, h5, h6, h7⟩
  · exact ⟨none, 0, by simp [h0], by omega, .inl (List.eq_nil_of_length_eq_zero h0)⟩
  · refine ⟨_, cap, rfl, h4, .inr ⟨g, 0, rfl, lt_of_at h3, hS g rfl, fun j p hj => ?_⟩⟩
    have hjl := (List.getElem?_eq_some_iff.1 hj).1
    obtain ⟨b, o, hb, _, hc⟩ := hr.at j hjl
    simp only [Option.some.injEq, Addr.mk.injEq, and_true] at hb
    obtain ⟨rfl, rfl⟩ := hb
    have hp : l[j] = p := by rw [List.getElem?_eq_getElem hjl] at hj; exact Option.some.inj hj
    rw [hp] at hc
    exact ⟨hc 0 _ rfl, hc 1 _ rfl⟩
theorem Pls.keep {S : Nat → Prop} {w w' : World} {Mb H H2 : Nat} {a : List Int} (h : Pls w Mb H H2 a) (K : Keep S w w') (hS : ∀ b, H ≤ b → b < H2 → ¬ S b) : Pls w' Mb H H2 a := by
  obtain ⟨h1, h2, f, n, h3, h4⟩ := h
  refine ⟨h1, h2, f, n, h3.keep K (hS _ h1 h2), fun z => ?_⟩
  exact (h4 z).keep (K.mono (fun b _ hb => by
    by_cases e : b < H
    · exact Or.inl e
    · by_cases e2 : H2 ≤ b
      · exact Or.inr e2
      · exact absurd hb (hS b (by omega) (by omega))))
theorem PM.pls {H : Nat} {w : World} {Mb : Nat} {a : List Int} (h : PM H w Mb a a.length) : Pls w Mb H w.heap.size a := by
  obtain ⟨f, h1, h2, h3⟩ := h
  refine ⟨h2, h1.lt, f, _, h1, fun z => ?_⟩
  rcases h3 z with ⟨k1, k2⟩ | ⟨v, g, k1, k2, k3, k4, k5⟩
  · rw [k1]
    unfold Lcx.pls
    rw [k2]
    exact ⟨none, 0, rfl, Nat.le_refl _, .inl rfl⟩
  · rw [k1]
    obtain ⟨cur, hc⟩ := own_obj k4 k2
    exact Pl.of_own k4 (fun g' hg' => by have hg' : v.ownBlock = some g' := hg'; rw [k2] at hg'; cases hg'; have := lt_of_at hc; omega)
/-- 'm[k] = v' whose run is known, as one step of a region that draws. -/
theorem step_update_run {P : Program} {ops : Array Oper} {o : Oper} {a : Act} {w : World} {K : Act → World → Prop} {Q : Exit → Act → World → Prop} {E : Prop}
    (hg : o.guard = none) (m x v : Operand) (t : TypeId) (hop : o.op = Op.mapUpdate t m x v)
    (vm vx vv : Value) (hm : a.eval m = vm) (hx : a.eval x = vx) (hv : a.eval v = vv) (w' : World) (hr : (Instr.mapUpdate t vm vx vv).run P w = .ok () w') (hK : K (a.put o.dst undef) w') :
    if Region.wanted o (yielded ops a.tmps) = true then Oper.wp P o a w K Q else E := by
  have hw : Region.wanted o (yielded ops a.tmps) = true := by simp [Region.wanted, hg]
  rw [if_pos hw]
  unfold Oper.wp
  simp [execOp, hop, hm, hx, hv, hr, Result.andThen]
  exact hK

theorem addw_len (l : List (Nat × Nat)) (k : Nat) : (addw l k).length ≤ l.length + 1 := by
  match l with
  | [] => simp [addw]
  | (q, b) :: t =>
    show (if q = k / 64 then (q, b ||| 2 ^ (k % 64)) :: t else (k / 64, 2 ^ (k % 64)) :: (q, b) :: t).length ≤ _
    split <;> simp
theorem rpl_len (f : Nat → Bool) : ∀ k, (rpl f k).length ≤ k
  | 0 => Nat.le_refl _
  | k + 1 => by
    show (if f k then addw (rpl f k) k else rpl f k).length ≤ _
    have := rpl_len f k
    have := addw_len (rpl f k) k
    split <;> omega
theorem set_bits (t : List (Nat × Nat)) (p : Nat × Nat) (b : Nat) : ((t.reverse ++ [p]).flatMap encW).set (t.length * 2 + 1) (.int .u64 (b : Int)) = (t.reverse ++ [(p.1, b)]).flatMap encW := by
  have hl : ∀ l : List (Nat × Nat), (l.flatMap encW).length = l.length * 2 := fun l => by
    induction l with
    | nil => rfl
    | cons x l ih => rw [List.flatMap_cons, List.length_append, ih, encW_len, List.length_cons]; omega
  rw [List.flatMap_append, List.flatMap_append, List.set_append_right _ _ (by rw [hl, List.length_reverse]; omega), hl, List.length_reverse, show t.length * 2 + 1 - t.length * 2 = 1 by omega]
  rfl
def hdAt : List (Nat × Nat) → Nat → Bool
  | [], _ => false
  | p :: _, q => decide (p.1 = q)
theorem rpl_next {a : List Int} {k : Nat} {x : Int} (hk : k < a.length) (hx : a.reverse[k]? = some x) (z : Int) : rpl (Mc a z) (k + 1) = if z = x then addw (rpl (Mc a x) k) k else rpl (Mc a z) k := by
  show (if Mc a z k then addw (rpl (Mc a z) k) k else rpl (Mc a z) k) = _
  unfold Mc
  rw [hx]
  by_cases e : z = x
  · subst e; simp
  · rw [if_neg (by simpa using fun h => e h.symm), if_neg e]

set_option maxHeartbeats 6400000 in
set_option maxRecDepth 100000 in
theorem placesOf_any (va : Value) (a : List Int) (w : World) (ha : Rz w va a) (hla : a.length ≤ 100000) :
    Calls Tryd.prog 69 #[va] w fun e w' => ∃ Mb, e = .returned (.map (some Mb)) ∧ Pls w' Mb w.heap.size w'.heap.size a ∧ Below w.heap.size w w' := by
  obtain ⟨ao, ca, rfl⟩ := ha.len
  obtain ⟨i0, hi, hz0, hz1, hz2⟩ := info_parts infoW
  have hmm := @run_makeMap Tryd.prog
  have FA := Lib.hid ha.at
  clear ha
  have HM0 : Hid (PM w.heap.size (w.alloc (.map #[] 0)) w.heap.size a 0) := Lib.hid ⟨_, mp_made w, Nat.le_refl _, fun z => .inl ⟨rfl, rfl⟩⟩
  have HB0 : Hid (Below w.heap.size w (w.alloc (.map #[] 0))) := Lib.hid ((Below.refl _ w).alloc (Nat.le_refl _) _)
  go_enter Tryd.func69, Tryd.ntmps69
  go_wp2_with fail
  go_loopw [4] (fun s wr => ∃ r : Nat, r ≤ a.length ∧ s = .int .i64 ((r : Int) - 1) ∧ Hid (PM w.heap.size wr w.heap.size a (a.length - r)) ∧ Hid (Below w.heap.size w wr)) (fun s _ => (intOf s + 1).toNat)
  case atStart => exact ⟨a.length, Nat.le_refl _, by go_num, by rw [Nat.sub_self]; exact HM0, HB0⟩
  case round =>
    clear HM0 HB0
    obtain ⟨r, hr, rfl, HM, HB⟩ := hrel
    rcases r with _ | i
    · have hneg : ((0 : Nat) : Int) - 1 = -1 := by omega
      rw [hneg]
      rw [Nat.sub_zero] at HM
      have R1 := Lib.hid HM.out.pls
      clear HM
      go_wp2_with fail
      go_ret
      exact ⟨_, rfl, R1.out, HB.out⟩
    · have hia : i < a.length := by omega
      rw [show ((i + 1 : Nat) : Int) - 1 = (i : Int) by omega]
      obtain ⟨ba, oa, rfl, hba, ca0⟩ := FA.out i hia
      have hW := Lib.hid (wordOf_any i a.length wr hia (by omega))
      obtain ⟨k, hk⟩ : ∃ k, a.length - 1 - i = k := ⟨_, rfl⟩
      rw [hk] at hW
      obtain ⟨q0, hq0⟩ : ∃ q0, k / 64 = q0 := ⟨_, rfl⟩
      obtain ⟨b0, hb0⟩ : ∃ b0, 2 ^ (k % 64) = b0 := ⟨_, rfl⟩
      rw [hq0, hb0] at hW
      have HQ0 := Lib.hid hq0
      have HB0 := Lib.hid hb0
      have hb064 : b0 < 2 ^ 64 := by rw [← hb0]; exact Nat.pow_lt_pow_right (by decide) (Nat.mod_lt _ (by decide))
      clear hq0 hb0
      rw [show a.length - (i + 1) = k by omega] at HM
      have hrev : a.reverse[k]? = some a[i] := by
        rw [List.getElem?_eq_getElem (by rw [List.length_reverse]; omega), List.getElem_reverse]
        congr 2; omega
      have HNX := Lib.hid (rpl_next (by omega) hrev)
      have hkn : a.length - i = k + 1 := by omega
      clear hrev hk
      generalize a[i] = x at *
      go_wp2_with fail
      refine hW.out.mono ?_
      rintro e w1 ⟨rfl, hb1⟩
      have hM1 := Lib.hid (HM.out.keep (Keep.of_below (S := fun _ => False) hb1) (fun _ _ _ h => h))
      have hB1 := Lib.hid (HB.out.trans (hb1.mono HB.out.size))
      clear hb1 HM HB hW
      go_upto_region 6 with fail
      have hn := Lib.hid (alloc_new w1 (.cells #[.int .i64 q0, .int .u64 b0] 125))
      have hM2 := Lib.hid (hM1.out.keep (keep_alloc w1 (.cells #[.int .i64 q0, .int .u64 b0] 125)) (fun _ _ _ h => h))
      have hB2 := Lib.hid (hB1.out.alloc hB1.out.size (.cells #[.int .i64 q0, .int .u64 b0] 125))
      have hNw : w.heap.size ≤ w1.heap.size := hB1.out.size
      clear hM1 hB1
      generalize w1.alloc (.cells #[.int .i64 q0, .int .u64 b0] 125) = w2 at *
      generalize w1.heap.size = N at *
      obtain ⟨f, hmp, hH, hf⟩ := hM2.out
      have hlk := hmp.lookup x
      obtain ⟨R, hR⟩ : ∃ R, rpl (Mc a x) k = R := ⟨_, rfl⟩
      obtain ⟨nR, hnR⟩ : ∃ nR, R.reverse.length = nR := ⟨_, rfl⟩
      have hnRle : nR ≤ 100000 := by
        rw [← hnR, ← hR, List.length_reverse]
        have := rpl_len (Mc a x) k
        omega
      obtain ⟨vl, hvl⟩ : ∃ vl, (f x).getD (.slice none 0 0) = vl := ⟨_, rfl⟩
      have hrow : w2.ownsRow 0 125 2 vl nR (R.reverse.flatMap encW) := by
        rw [← hvl, ← hnR, ← hR]
        rcases hf x with ⟨k1, k2⟩ | ⟨v, g, k1, k2, k3, k4, k5⟩
        · rw [k1, k2]; exact World.ownsRow_nil _ _ _ _
        · rw [k1]; exact k4
      rw [hvl] at hlk
      obtain ⟨al, cl, rfl⟩ := own_len hrow
      have ca2 : w2.cell? ⟨ba, oa + i, none⟩ = some (.int .i64 x) := (hB2.out.cell (by exact hba)).trans ca0
      have cn0 : w2.cell? ⟨N, 0, none⟩ = some (.int .i64 q0) := cell_at hn.out 0
      have cn1 : w2.cell? ⟨N, 1, none⟩ = some (.int .u64 b0) := cell_at hn.out 1
      obtain ⟨bb, hbb⟩ : ∃ bb : Bool, hdAt R q0 = bb := ⟨_, rfl⟩
      have HF := Lib.hid (And.intro hmp (And.intro hH (And.intro hf hvl)))
      have HR := Lib.hid hR
      have HNR := Lib.hid hnR
      have HROW := Lib.hid hrow
      have HBB := Lib.hid hbb
      have hia2 : (i : Int) < (a.length : Int) := by omega
      clear hmp hH hf hvl hR hnR hrow hbb ca0
      go_upto_region 8 with fail
      go_cut [40] from 12 to 60 (fun s wx => s = .bool bb ∧ ∃ n : Nat, wx = w2.drewN n)
      case first =>
        rcases R with _ | ⟨p, t⟩
        · obtain rfl : nR = 0 := by have := HNR.out; simpa using this.symm
          have hbb : false = bb := HBB.out
          subst hbb
          clear HBB HF HR HROW HNX
          go_wp2_with fail
          go_quiet (fail)
          go_wp2_with fail
          go_meet
          exact ⟨rfl, nq, rfl⟩
        · have hm : t.length + 1 = nR := by have := HNR.out; simpa using this
          have hRk : Rk 2 encW w2 (.slice al nR cl) (p :: t).reverse := Rk.of_own encW_len (by have h1 := HNR.out; rw [h1]; exact HROW.out)
          rw [← HNR.out] at hRk
          obtain ⟨b, o, rfl, hbl, hc⟩ := hRk.at t.length (by simp)
          have hl : (p :: t).reverse[t.length]'(by simp) = p := by simp
          rw [hl] at hc
          have c3 : w2.cell? ⟨b, o + t.length * 2, none⟩ = some (.int .i64 p.1) := hc 0 _ rfl
          have e1 : IntKind.i64.wrap ((nR : Int) - 1) = (t.length : Int) := by rw [IntKind.wrap_i64]; omega
          have e1' : (nR : Int) - 1 = (t.length : Int) := by omega
          have d0 : decide ((0 : Int) < (nR : Int)) = true := decide_eq_true (by omega)
          have d1 : decide (0 < nR) = true := decide_eq_true (by omega)
          have t1 : (t.length : Int) < (nR : Int) := by omega
          have e3 : ((p.1 : Int) == (q0 : Int)) = bb := by
            have h : decide (p.1 = q0) = bb := HBB.out
            rw [← h]
            by_cases e : p.1 = q0
            · rw [decide_eq_true e, e]; simp
            · rw [decide_eq_false e, beq_eq_false_iff_ne]; omega
          clear HBB HF HR HROW HNX hc hl hRk hm HNR
          generalize p.1 = pa at *
          generalize t.length = m at *
          go_wp2_with fail
          go_quiet (fail)
          go_wp2_with fail
          go_meet
          exact ⟨rfl, nq, rfl⟩
      case rest =>
        obtain ⟨rfl, n8, rfl⟩ := hcut
        have HF3 : Hid (Mp (w2.drewN n8) w.heap.size f k ∧ ∀ (z : Int), f z = none ∧ rpl (Mc a z) k = [] ∨ ∃ v g, f z = some v ∧ v.ownBlock = some g ∧ w.heap.size ≤ g ∧
            (w2.drewN n8).ownsRow 0 125 2 v (rpl (Mc a z) k).reverse.length ((rpl (Mc a z) k).reverse.flatMap encW) ∧ ∀ (z' : Int) (v' : Value), f z' = some v' → v'.ownBlock = some g → z' = z) := Lib.hid ⟨HF.out.1, HF.out.2.2.1⟩
        have HVL := Lib.hid HF.out.2.2.2
        have HROW3 : Hid ((w2.drewN n8).ownsRow 0 125 2 (.slice al nR cl) nR (R.reverse.flatMap encW)) := HROW
        have hB3 : Hid (Below w.heap.size w (w2.drewN n8)) := Lib.hid (below_drewN hB2.out _)
        have hn3 : Hid ((w2.drewN n8).heap[N]? = _) := hn
        have ca3 : (w2.drewN n8).cell? ⟨ba, oa + i, none⟩ = some (.int .i64 x) := ca2
        have cn03 : (w2.drewN n8).cell? ⟨N, 0, none⟩ = some (.int .i64 q0) := cn0
        have cn13 : (w2.drewN n8).cell? ⟨N, 1, none⟩ = some (.int .u64 b0) := cn1
        clear HF HROW hB2 hn ca2 cn0 cn1 hM2 hlk
        generalize w2.drewN n8 = w3 at *
        rcases bb with _ | _
        · -- a new word
          have hadd : Hid (addw R k = (q0, b0) :: R) := Lib.hid (by
            have h1 := HBB.out
            rcases R with _ | ⟨⟨q, b⟩, t⟩
            · show [(k / 64, 2 ^ (k % 64))] = _
              rw [HQ0.out, HB0.out]
            · have h2 : q ≠ q0 := by simpa [hdAt] using h1
              show (if q = k / 64 then _ else (k / 64, 2 ^ (k % 64)) :: (q, b) :: t) = _
              rw [HQ0.out, HB0.out, if_neg h2])
          have hB3s : w.heap.size ≤ w3.heap.size := hB3.out.size
          have HR3 : Hid (Rows3 w.heap.size w3 a k f) := Lib.hid HF3.out.2
          have hvls : ∀ g, (Value.slice al nR cl).ownBlock = some g → w.heap.size ≤ g := fun g hg => by
            rcases HF3.out.2 x with ⟨k1, _⟩ | ⟨v, g', k1, k2, k3, k4, k5⟩
            · have := HVL.out; rw [k1] at this; have this : Value.slice none 0 0 = .slice al nR cl := this
              rw [← this] at hg; simp [Value.ownBlock] at hg
            · have := HVL.out; rw [k1] at this; have this : v = .slice al nR cl := this
              rw [← this, k2] at hg; cases hg; exact k3
          have oA : ((w3.alloc (.cells #[.int .i64 q0, .int .u64 b0] 125)).drew).ownsRow 0 125 2 (.slice al nR cl) nR (R.reverse.flatMap encW) := HROW3.out.alloc _
          obtain ⟨v', w6, q1, hown6, hgrow6, _, hloc6⟩ := run_append_own_at (P := Tryd.prog) ((w3.alloc (.cells #[.int .i64 q0, .int .u64 b0] 125)).drew) 0 110 0 125 i0 (.agg #[.int .i64 0, .int .u64 0]) 2 16 Tryd.underlying110 hi hz0 hz1 hz2 rfl (by decide) _ nR _ oA ⟨w3.heap.size, 0, none⟩ 1 1 (encW (q0, b0)) rfl (newsK (wr := w3) (us := encW (q0, b0)) (t := 125)) (encW_one _) (by unfold maxLen; omega) (by omega) (Nat.zero_le _)
          have K6 : Hid (Keep (fun b => (Value.slice al nR cl).ownBlock = some b) w3 w6) := Lib.hid ((((Keep.refl _ w3).alloc _).drew).grown hgrow6 (fun b hb => Or.inl hb))
          have hm6 : Mp w6 w.heap.size f k := by
            refine HF3.out.1.keep K6.out (fun e => ?_)
            rcases HF3.out.2 x with ⟨k1, _⟩ | ⟨v, g', k1, k2, k3, k4, k5⟩
            · have := HVL.out; rw [k1] at this; have this : Value.slice none 0 0 = .slice al nR cl := this
              rw [← this] at e; simp [Value.ownBlock] at e
            · have := HVL.out; rw [k1] at this; have this : v = .slice al nR cl := this
              rw [← this, k2] at e
              obtain ⟨cur, hc⟩ := own_obj k4 k2
              cases e
              exact HF3.out.1.not_cells hc rfl
          obtain ⟨w7, q2, hm7, hg7⟩ := hm6.update x v'
          have hB6 : Below w.heap.size w w6 := ((hB3.out.alloc hB3s _).drew).grown hgrow6 (by show _ ≤ (w3.alloc _).heap.size; simp; omega) hvls
          have ca6 : w6.cell? ⟨ba, oa + i, none⟩ = some (.int .i64 x) := ((hB6.cell (by exact hba)).trans ((hB3.out.cell (by exact hba)).symm)).trans ca3
          have hB7 : Hid (Below w.heap.size w w7) := Lib.hid (hB6.grown hg7 hB6.size (fun b hb => by cases hb; exact Nat.le_refl _))
          have HPM : Hid (PM w.heap.size w7 w.heap.size a (k + 1)) := Lib.hid (HR3.out.insert HF3.out.1 (Nat.le_refl _) hB3s HVL.out (L := (q0, b0) :: R) (by
            intro z; rw [HNX.out z, HR.out, hadd.out]) K6.out (by
            have e1 : ((q0, b0) :: R).reverse.length = nR + 1 := by rw [List.reverse_cons, List.length_append, HNR.out]; rfl
            have e2 : ((q0, b0) :: R).reverse.flatMap encW = R.reverse.flatMap encW ++ encW (q0, b0) := by rw [List.reverse_cons, List.flatMap_append]; simp
            rw [e1, e2]; exact hown6) (by simp) hloc6 (by show _ ≤ (w3.alloc _).heap.size; simp) hm7 hg7)
          have ca3' : (w3.alloc (.cells #[.int .i64 q0, .int .u64 b0] 125)).cell? ⟨ba, oa + i, none⟩ = some (.int .i64 x) := (hB3.out.alloc hB3s _ |>.cell (by exact hba)).trans ((hB3.out.cell (by exact hba)).symm.trans ca3)
          clear hown6 hgrow6 hloc6 hm6 hm7 hg7 hB6 oA hvls HBB hn3
          go_wp2_with fail
          go_region_law (first
            | (refine step_append_run rfl (.tmp 57) (.tmp 59) _ _ rfl _ _ rfl rfl _ _ (fun ty => q1) ?_))
          clear q1 q2 ca3' ca6 cn03 cn13 ca3
          all_goals
            go_wp2_with fail
            go_roundw
            case rel => exact ⟨i, by omega, by go_num, by rw [hkn]; exact HPM, hB7⟩
            case measure => simp [intOf] <;> omega
        · -- one more bit of the last word
          rcases R with _ | ⟨p, t⟩
          · exact absurd HBB.out (by simp [hdAt])
          have hpq : p.1 = q0 := by have := HBB.out; simpa [hdAt] using this
          have hadd : Hid (addw (p :: t) k = (p.1, p.2 ||| b0) :: t) := Lib.hid (by
            obtain ⟨q, b⟩ := p
            show (if q = k / 64 then (q, b ||| 2 ^ (k % 64)) :: t else _) = _
            rw [HQ0.out, HB0.out, if_pos hpq])
          have hm : t.length + 1 = nR := by have := HNR.out; simpa using this
          have hbits : p.2 < 2 ^ 64 := by
            have h1 := (rpl_ok (Mc a x) k).2.1 p (by rw [HR.out]; exact List.mem_cons_self ..)
            exact h1.2
          rcases HF3.out.2 x with ⟨k1, k2⟩ | ⟨v, g, k1, k2, k3, k4, k5⟩
          · rw [HR.out] at k2; cases k2
          have hv : v = .slice al nR cl := by have := HVL.out; rw [k1] at this; exact this
          subst hv
          rcases HROW3.out.2 with ⟨h1, _⟩ | ⟨g', cap', cur, h1, _, h3, h4, h5, h6, h7⟩
          · simp at h1; omega
          simp only [Value.slice.injEq] at h1
          obtain ⟨rfl, _, rfl⟩ := h1
          have hg' : g' = g := by simpa [Value.ownBlock] using k2
          subst hg'
          have hst := HROW3.out.stored (t.length * 2 + 1) (.int .u64 ((p.2 ||| b0 : Nat) : Int))
          rw [List.reverse_cons, set_bits] at hst
          have cv : w3.cell? ⟨g', t.length * 2 + 1, none⟩ = some (.int .u64 p.2) := by
            have h8 := HROW3.out.cellAt (t.length * 2 + 1) (by omega)
            rw [h8, List.reverse_cons, List.flatMap_append]
            have hl : (t.reverse.flatMap encW).length = t.length * 2 := by
              have := k4.1
              rw [HR.out, List.reverse_cons, List.flatMap_append, List.length_append, List.length_append, List.length_reverse] at this
              simp [encW] at this ⊢
              try omega
            rw [List.getElem?_append_right (by rw [hl]; omega), hl, show t.length * 2 + 1 - t.length * 2 = 1 by omega]
            rfl
          have HPM : Hid (PM w.heap.size (w3.drew.setCell ⟨g', t.length * 2 + 1, none⟩ (.int .u64 ((p.2 ||| b0 : Nat) : Int))) w.heap.size a (k + 1)) := Lib.hid (Rows3.change (w := w3) HF3.out.2 HF3.out.1 (Nat.le_refl _) (by omega) k1 k2 (L := (p.1, p.2 ||| b0) :: t) (by
            intro z; rw [HNX.out z, HR.out, hadd.out]) ((Keep.refl (fun b => b = g') w3).drew.setCell (p := ⟨g', _, none⟩) (Or.inl rfl) _) (by
            rw [List.reverse_cons, List.length_append, List.length_reverse, List.length_singleton, hm]
            exact hst.1))
          have HB4 : Hid (Below w.heap.size w (w3.drew.setCell ⟨g', t.length * 2 + 1, none⟩ (.int .u64 ((p.2 ||| b0 : Nat) : Int)))) := Lib.hid (hB3.out.drew.setCell (by exact k3) _)
          have eor : bits .or .u64 (p.2 : Int) (b0 : Int) = ((p.2 ||| b0 : Nat) : Int) := u64_or_nat _ _ hbits hb064
          have fv : w3.frozen? ⟨g', t.length * 2 + 1, none⟩ = false := frozen_at h3 _
          have lg : g' < w3.heap.size := lt_of_at h3
          have e1 : IntKind.i64.wrap ((nR : Int) - 1) = (t.length : Int) := by rw [IntKind.wrap_i64]; omega
          have e1' : IntKind.i64.wrap (t.length : Int) = (t.length : Int) := by rw [IntKind.wrap_i64]; omega
          have t1 : (t.length : Int) < (nR : Int) := by omega
          clear hst k4 k5 h3 h4 h5 h6 h7 HF3 HVL HROW3 HBB hadd HR HNX hpq hbits hn3 hm HNR k1 k2
          generalize t.length = m at *
          generalize p.2 ||| b0 = po at *
          generalize p.2 = pb at *
          have d1 := lit_cell cn13
          have d2 := lit_cell cv
          go_wp2_with fail
          go_still_tail 11, (by kernel_rfl)
          change wpList _ _ _ _ _ w3.drew
          have cv4 : w3.drew.cell? ⟨g', m * 2 + 1, none⟩ = some (.int .u64 pb) := cv
          have fv4 : w3.drew.frozen? ⟨g', m * 2 + 1, none⟩ = false := fv
          clear d1 d2 cv fv cn03 cn13 ca3
          generalize w3.drew = w4 at *
          go_wp2_with fail
          go_roundw
          case rel => exact ⟨i, by omega, by go_num, by rw [hkn]; exact HPM, HB4⟩
          case measure => simp [intOf] <;> omega
end Go.Proofs.YtldllbmbcnipoaaDoor.Lp
