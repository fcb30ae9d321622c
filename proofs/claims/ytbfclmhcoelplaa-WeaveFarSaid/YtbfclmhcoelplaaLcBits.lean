/-
  A COLUMN OF THE TABLE IN BITS: 64 places a word, a subtraction with a borrow through all words, ones counted as the library counts them, where a number stands as words. Plain; no program.
-/
import Derived.Test.YtbfclmhcoelplaaLcPlain
import Derived.Laws.BitsAllLaws
namespace Go.Proofs.Ytbfclmhcoelplaa.Lcx
set_option linter.unusedVariables false

def m64 : Nat := 18446744073709551616
/-- The borrow into bit k. -/
def cr (x m : Nat) (c : Bool) : Nat → Bool
  | 0 => c
  | k + 1 => !x.testBit k && (m.testBit k || cr x m c k)
/-- One word of the new column, and what is borrowed of the next. -/
def offW (x m : Nat) : Nat := m &&& (18446744073709551615 - x)
def lessW (x m : Nat) (c : Bool) : Nat := (x + 18446744073709551616 - offW x m - c.toNat) % 18446744073709551616
def newW (x m : Nat) (c : Bool) : Nat := (x ||| m) &&& lessW x m c
def outW (x m : Nat) (c : Bool) : Bool := decide (x < offW x m + c.toNat)

theorem mod_succ (x k : Nat) : x % 2 ^ (k + 1) = x % 2 ^ k + 2 ^ k * (x.testBit k).toNat := by
  rw [Nat.pow_succ, Nat.mod_mul, Nat.testBit_eq_decide_div_mod_eq]
  rcases Nat.mod_two_eq_zero_or_one (x / 2 ^ k) with h | h <;> rw [h] <;> simp
theorem off_bit {x : Nat} (m : Nat) (hx : x < 2 ^ 64) (k : Nat) (hk : k < 64) : (offW x m).testBit k = (m.testBit k && !x.testBit k) := by
  unfold offW
  rw [Nat.testBit_and, show 18446744073709551615 - x = 2 ^ 64 - (x + 1) by omega, Nat.testBit_two_pow_sub_succ hx]
  simp [hk]
theorem off_lt (x m : Nat) (hm : m < 2 ^ 64) : offW x m < 2 ^ 64 := Nat.lt_of_le_of_lt Nat.and_le_left hm

/-- Subtraction with a borrow, bit by bit. -/
theorem sub_bits (x y : Nat) (c : Bool) (b : Nat → Bool) (h0 : b 0 = c) (hb : ∀ k, k < 64 → b (k + 1) = ((!x.testBit k && y.testBit k) || ((x.testBit k == y.testBit k) && b k))) :
    ∀ k, k ≤ 64 → b k = decide (x % 2 ^ k < y % 2 ^ k + c.toNat)
  | 0, _ => by rw [h0]; cases c <;> simp [Nat.mod_one]
  | k + 1, hk => by
    have ih := sub_bits x y c b h0 hb k (by omega)
    rw [hb k (by omega), ih, mod_succ, mod_succ]
    have hp : 0 < 2 ^ k := Nat.two_pow_pos k
    have l1 := Nat.mod_lt x hp
    have l2 := Nat.mod_lt y hp
    generalize 2 ^ k = p at *
    generalize x % p = xr at *
    generalize y % p = yr at *
    cases x.testBit k <;> cases y.testBit k <;> cases c <;> simp <;> omega
theorem sub_low (x y : Nat) (c : Bool) (hx : x < 2 ^ 64) (hy : y < 2 ^ 64) (k : Nat) (hk : k ≤ 64) :
    (x + 2 ^ 64 - y - c.toNat) % 2 ^ 64 % 2 ^ k + y % 2 ^ k + c.toNat = x % 2 ^ k + 2 ^ k * (decide (x % 2 ^ k < y % 2 ^ k + c.toNat)).toNat := by
  have hp : 0 < 2 ^ k := Nat.two_pow_pos k
  rw [Nat.mod_mod_of_dvd _ (Nat.pow_dvd_pow 2 hk)]
  have e64 : (2 : Nat) ^ 64 = 2 ^ k * 2 ^ (64 - k) := by rw [← Nat.pow_add]; congr 1; omega
  have ex := Nat.div_add_mod x (2 ^ k)
  have ey := Nat.div_add_mod y (2 ^ k)
  have l1 := Nat.mod_lt x hp
  have l2 := Nat.mod_lt y hp
  have hc : c.toNat ≤ 1 := Bool.toNat_le c
  generalize (2 : Nat) ^ (64 - k) = N at *
  generalize 2 ^ 64 = T at *
  generalize 2 ^ k = p at *
  generalize x % p = xr at *
  generalize y % p = yr at *
  generalize x / p = q at *
  generalize y / p = s at *
  generalize c.toNat = d at *
  subst e64
  subst ex
  subst ey
  have hs : s < N := by
    apply Nat.lt_of_mul_lt_mul_left (a := p); omega
  by_cases h : xr < yr + d
  · rw [decide_eq_true h]
    have hN : p * (q + N - s - 1) + p * s + p = p * q + p * N := by
      rw [← Nat.mul_add, ← Nat.mul_succ, ← Nat.mul_add]; congr 1; omega
    rw [show p * q + xr + p * N - (p * s + yr) - d = p * (q + N - s - 1) + (xr + p - yr - d) by omega, Nat.mul_add_mod, Nat.mod_eq_of_lt (by omega)]
    simp; omega
  · rw [decide_eq_false h]
    have hN : p * (q + N - s) + p * s = p * q + p * N := by
      rw [← Nat.mul_add, ← Nat.mul_add]; congr 1; omega
    rw [show p * q + xr + p * N - (p * s + yr) - d = p * (q + N - s) + (xr - yr - d) by omega, Nat.mul_add_mod, Nat.mod_eq_of_lt (by omega)]
    simp; omega
theorem sub_bit (x y : Nat) (c : Bool) (hx : x < 2 ^ 64) (hy : y < 2 ^ 64) (b : Nat → Bool) (h0 : b 0 = c) (hb : ∀ k, k < 64 → b (k + 1) = ((!x.testBit k && y.testBit k) || ((x.testBit k == y.testBit k) && b k))) (k : Nat) (hk : k < 64) :
    ((x + 2 ^ 64 - y - c.toNat) % 2 ^ 64).testBit k = ((x.testBit k ^^ y.testBit k) ^^ b k) := by
  have h1 := sub_low x y c hx hy k (by omega)
  have h2 := sub_low x y c hx hy (k + 1) (by omega)
  rw [← sub_bits x y c b h0 hb k (by omega)] at h1
  rw [← sub_bits x y c b h0 hb (k + 1) (by omega), hb k hk] at h2
  obtain ⟨d, hd⟩ : ∃ d, (x + 2 ^ 64 - y - c.toNat) % 2 ^ 64 = d := ⟨_, rfl⟩
  rw [hd] at h1 h2 ⊢
  rw [mod_succ d k, mod_succ x k, mod_succ y k, Nat.pow_succ] at h2
  have hp : 0 < 2 ^ k := Nat.two_pow_pos k
  clear hd
  generalize 2 ^ k = p at *
  generalize x % p = xr at *
  generalize y % p = yr at *
  generalize d % p = dr at *
  generalize d.testBit k = t1 at *
  generalize x.testBit k = t2 at *
  generalize y.testBit k = t3 at *
  generalize b k = t4 at *
  cases t1 <;> cases t2 <;> cases t3 <;> cases t4 <;> simp at h1 h2 ⊢ <;> omega
theorem cr_step (x m : Nat) (hx : x < 2 ^ 64) (c : Bool) (k : Nat) (hk : k < 64) : cr x m c (k + 1) = ((!x.testBit k && (offW x m).testBit k) || ((x.testBit k == (offW x m).testBit k) && cr x m c k)) := by
  rw [off_bit m hx k hk]
  show (!x.testBit k && (m.testBit k || cr x m c k)) = _
  cases x.testBit k <;> cases m.testBit k <;> cases cr x m c k <;> rfl
theorem out_eq (x m : Nat) (hx : x < 2 ^ 64) (hm : m < 2 ^ 64) (c : Bool) : outW x m c = cr x m c 64 := by
  rw [sub_bits x (offW x m) c (cr x m c) rfl (cr_step x m hx c) 64 (Nat.le_refl _), Nat.mod_eq_of_lt hx, Nat.mod_eq_of_lt (off_lt x m hm)]
  rfl
theorem new_bit (x m : Nat) (hx : x < 2 ^ 64) (hm : m < 2 ^ 64) (c : Bool) (k : Nat) (hk : k < 64) : (newW x m c).testBit k = ((x.testBit k || m.testBit k) && !cr x m c k) := by
  have := sub_bit x (offW x m) c hx (off_lt x m hm) (cr x m c) rfl (cr_step x m hx c) k hk
  unfold newW lessW
  rw [Nat.testBit_and, Nat.testBit_or]
  rw [show (18446744073709551616 : Nat) = 2 ^ 64 from rfl, this, off_bit m hx k hk]
  cases x.testBit k <;> cases m.testBit k <;> cases cr x m c k <;> rfl
theorem new_lt (x m : Nat) (c : Bool) : newW x m c < 2 ^ 64 :=
  Nat.lt_of_le_of_lt Nat.and_le_right (Nat.mod_lt _ (by decide))
theorem new_idle (x : Nat) (hx : x < 2 ^ 64) : newW x 0 false = x := by
  unfold newW lessW offW
  rw [Nat.or_zero, Nat.zero_and]
  simp only [Bool.toNat_false, Nat.sub_zero]
  rw [Nat.add_mod_right, Nat.mod_eq_of_lt (by omega), Nat.and_self]
theorem out_idle (x : Nat) : outW x 0 false = false := by
  unfold outW offW; rw [Nat.zero_and]; simp
theorem new_none (c : Bool) : newW 0 0 c = 0 := by unfold newW; simp
theorem out_none (c : Bool) : outW 0 0 c = c := by
  unfold outW offW; cases c <;> simp


/-! ### Many words -/
/-- The borrow into word q. -/
def cw (X M : Nat → Nat) : Nat → Bool
  | 0 => false
  | q + 1 => outW (X q) (M q) (cw X M q)
def nw (X M : Nat → Nat) (q : Nat) : Nat := newW (X q) (M q) (cw X M q)
def wb (X : Nat → Nat) (p : Nat) : Bool := (X (p / 64)).testBit (p % 64)
/-- The borrow into bit p of all. -/
def gc (x m : Nat → Bool) : Nat → Bool
  | 0 => false
  | p + 1 => !x p && (m p || gc x m p)
theorem gc_word (X M : Nat → Nat) (hX : ∀ q, X q < 2 ^ 64) (hM : ∀ q, M q < 2 ^ 64) : ∀ (q k : Nat), k ≤ 64 → cw X M q = gc (wb X) (wb M) (64 * q) → gc (wb X) (wb M) (64 * q + k) = cr (X q) (M q) (cw X M q) k
  | q, 0, _, h => h.symm
  | q, k + 1, hk, h => by
    have ih := gc_word X M hX hM q k (by omega) h
    rw [← Nat.add_assoc]
    show (!wb X (64 * q + k) && (wb M (64 * q + k) || gc (wb X) (wb M) (64 * q + k))) = (!(X q).testBit k && ((M q).testBit k || cr (X q) (M q) (cw X M q) k))
    rw [ih]
    unfold wb
    rw [show (64 * q + k) / 64 = q by omega, show (64 * q + k) % 64 = k by omega]
theorem gc_at (X M : Nat → Nat) (hX : ∀ q, X q < 2 ^ 64) (hM : ∀ q, M q < 2 ^ 64) : ∀ q, cw X M q = gc (wb X) (wb M) (64 * q)
  | 0 => rfl
  | q + 1 => by
    have ih := gc_at X M hX hM q
    show outW (X q) (M q) (cw X M q) = _
    rw [out_eq _ _ (hX q) (hM q), ← gc_word X M hX hM q 64 (Nat.le_refl _) ih, Nat.mul_succ]
/-- The new column, bit by bit. -/
theorem nw_bit (X M : Nat → Nat) (hX : ∀ q, X q < 2 ^ 64) (hM : ∀ q, M q < 2 ^ 64) (p : Nat) : wb (nw X M) p = ((wb X p || wb M p) && !gc (wb X) (wb M) p) := by
  have h := gc_word X M hX hM (p / 64) (p % 64) (by omega) (gc_at X M hX hM _)
  rw [show 64 * (p / 64) + p % 64 = p by omega] at h
  rw [h]
  exact new_bit _ _ (hX _) (hM _) _ _ (by omega)
theorem nw_lt (X M : Nat → Nat) (q : Nat) : nw X M q < 2 ^ 64 := new_lt _ _ _
/-- Words that are passed over. -/
theorem pass_idle {X M : Nat → Nat} (hX : ∀ q, X q < 2 ^ 64) {k : Nat} (h0 : cw X M k = false) : ∀ k', k ≤ k' → (∀ q, k ≤ q → q < k' → M q = 0) → cw X M k' = false ∧ ∀ q, k ≤ q → q < k' → nw X M q = X q
  | k', hk, hM => by
    induction k' with
    | zero => exact ⟨rfl, fun q _ h => absurd h (Nat.not_lt_zero _)⟩
    | succ k' ih =>
      by_cases e : k = k' + 1
      · subst e; exact ⟨h0, fun q h1 h2 => by omega⟩
      · obtain ⟨i1, i2⟩ := ih (by omega) (fun q h1 h2 => hM q h1 (by omega))
        have hz := hM k' (by omega) (by omega)
        refine ⟨?_, fun q h1 h2 => ?_⟩
        · show outW (X k') (M k') (cw X M k') = false
          rw [hz, i1, out_idle]
        · by_cases eq : q = k'
          · subst eq
            show newW (X q) (M q) (cw X M q) = X q
            rw [hz, i1, new_idle _ (hX q)]
          · exact i2 q h1 (by omega)
theorem pass_none {X M : Nat → Nat} {k : Nat} {c : Bool} (h0 : cw X M k = c) : ∀ k', k ≤ k' → (∀ q, k ≤ q → q < k' → M q = 0 ∧ X q = 0) → cw X M k' = c ∧ ∀ q, k ≤ q → q < k' → nw X M q = X q
  | k', hk, hM => by
    induction k' with
    | zero =>
      have : k = 0 := by omega
      subst this
      exact ⟨h0, fun q _ h => absurd h (Nat.not_lt_zero _)⟩
    | succ k' ih =>
      by_cases e : k = k' + 1
      · subst e; exact ⟨h0, fun q h1 h2 => by omega⟩
      · obtain ⟨i1, i2⟩ := ih (by omega) (fun q h1 h2 => hM q h1 (by omega))
        obtain ⟨hz, hx⟩ := hM k' (by omega) (by omega)
        refine ⟨?_, fun q h1 h2 => ?_⟩
        · show outW (X k') (M k') (cw X M k') = c
          rw [hz, hx, out_none, i1]
        · by_cases eq : q = k'
          · subst eq
            show newW (X q) (M q) (cw X M q) = X q
            rw [hz, hx, new_none]
          · exact i2 q h1 (by omega)

/-! ### What the bits say -/
open Go.Proofs.Ytbfclmhcoelplaa.Lc
theorem lcs_cons_le (x : Int) (a b : List Int) : lcs (x :: a) b ≤ lcs a b + 1 := by
  have := lcs_more a.reverse b.reverse x
  rw [lcs_rev] at this
  rw [← lcs_rev (x :: a) b, List.reverse_cons]
  exact this
theorem tb_down (a b : List Int) (i k : Nat) : tb a b (i + 1) k ≤ tb a b i k ∧ tb a b i k ≤ tb a b (i + 1) k + 1 := by
  unfold tb
  by_cases hi : i < a.length
  · rw [List.drop_eq_getElem_cons hi]
    exact ⟨lcs_mono (List.sublist_cons_self _ _) (List.Sublist.refl _), lcs_cons_le _ _ _⟩
  · rw [List.drop_eq_nil_of_le (show a.length ≤ i by omega), List.drop_eq_nil_of_le (show a.length ≤ i + 1 by omega)]
    exact ⟨Nat.le_refl _, by omega⟩
theorem tb_right (a b : List Int) (i k : Nat) : tb a b i (k + 1) ≤ tb a b i k ∧ tb a b i k ≤ tb a b i (k + 1) + 1 := by
  have := tb_down b a k i
  unfold tb at *
  rw [lcs_comm (a.drop i), lcs_comm (a.drop i)]
  exact this
/-- The column at place j of b, bit by bit. -/
def Dc (a b : List Int) (j p : Nat) : Bool := decide (p < a.length) && decide (tb a b (a.length - 1 - p) j = tb a b (a.length - p) j + 1)
/-- Where a number stands in a, bit by bit. -/
def Mc (a : List Int) (x : Int) (p : Nat) : Bool := decide (a.reverse[p]? = some x)
theorem mc_at {a : List Int} {x : Int} {p i : Nat} (hp : p < a.length) (e : a.length - 1 - p = i) (hi : i < a.length) : Mc a x p = decide (a[i] = x) := by
  subst e
  unfold Mc
  rw [List.getElem?_eq_getElem (by simpa using hp), List.getElem_reverse]
  simp
theorem dc_end (a b : List Int) (j p : Nat) (hj : b.length ≤ j) : Dc a b j p = false := by
  unfold Dc
  rw [tb_end2 a b _ j hj, tb_end2 a b _ j hj]; simp
theorem gc_dc {a b : List Int} {j : Nat} (hj : j < b.length) : ∀ p, p ≤ a.length → gc (Dc a b (j + 1)) (Mc a b[j]) p = decide (tb a b (a.length - p) j = tb a b (a.length - p) (j + 1) + 1)
  | 0, _ => by
    rw [Nat.sub_zero, tb_end a b _ j (Nat.le_refl _), tb_end a b _ (j + 1) (Nat.le_refl _)]; rfl
  | p + 1, hp => by
    have ih := gc_dc (a := a) hj p (by omega)
    obtain ⟨i, e0⟩ : ∃ i, a.length - (p + 1) = i := ⟨_, rfl⟩
    have hi : i < a.length := by omega
    show (!Dc a b (j + 1) p && (Mc a b[j] p || gc (Dc a b (j + 1)) (Mc a b[j]) p)) = _
    have e1 : a.length - 1 - p = i := by omega
    have e2 : a.length - p = i + 1 := by omega
    rw [ih, mc_at (by omega) e1 hi]
    unfold Dc
    rw [decide_eq_true (show p < a.length by omega), e2, e1, e0]
    have h1 := tb_down a b i j
    have h2 := tb_down a b i (j + 1)
    have h3 := tb_right a b i j
    have h4 := tb_right a b (i + 1) j
    by_cases e : a[i] = b[j]
    · have h5 := tb_yes hi hj e
      rw [decide_eq_true e]
      simp
      rw [← decide_not, decide_eq_decide]; omega
    · have h5 := tb_no hi hj e
      rw [decide_eq_false e]
      simp
      rw [← decide_not, ← Bool.decide_and, decide_eq_decide]; omega
theorem step_dc {a b : List Int} {j : Nat} (hj : j < b.length) (p : Nat) : ((Dc a b (j + 1) p || Mc a b[j] p) && !gc (Dc a b (j + 1)) (Mc a b[j]) p) = Dc a b j p := by
  by_cases hp : p < a.length
  · obtain ⟨i, e1⟩ : ∃ i, a.length - 1 - p = i := ⟨_, rfl⟩
    have hi : i < a.length := by omega
    rw [gc_dc hj p (by omega), mc_at hp e1 hi]
    unfold Dc
    have e2 : a.length - p = i + 1 := by omega
    rw [decide_eq_true hp, e2, e1]
    have h1 := tb_down a b i j
    have h2 := tb_down a b i (j + 1)
    have h3 := tb_right a b i j
    have h4 := tb_right a b (i + 1) j
    by_cases e : a[i] = b[j]
    · have h5 := tb_yes hi hj e
      rw [decide_eq_true e]
      simp
      rw [← decide_not, decide_eq_decide]; omega
    · have h5 := tb_no hi hj e
      rw [decide_eq_false e]
      simp
      rw [← decide_not, ← Bool.decide_and, decide_eq_decide]; omega
  · have e1 : Mc a b[j] p = false := by
      unfold Mc; rw [List.getElem?_eq_none (show a.reverse.length ≤ p by rw [List.length_reverse]; omega)]; simp
    unfold Dc
    rw [decide_eq_false hp, e1]; rfl

/-! ### Counting -/
def bsum (f : Nat → Bool) : Nat → Nat
  | 0 => 0
  | k + 1 => bsum f k + (f k).toNat
theorem bsum_dc (a b : List Int) (j : Nat) : ∀ p, p ≤ a.length → bsum (Dc a b j) p = tb a b (a.length - p) j
  | 0, _ => by rw [Nat.sub_zero, tb_end a b _ j (Nat.le_refl _)]; rfl
  | p + 1, hp => by
    show bsum (Dc a b j) p + _ = _
    rw [bsum_dc a b j p (by omega)]
    have e2 : a.length - p = a.length - (p + 1) + 1 := by omega
    have h1 := tb_down a b (a.length - (p + 1)) j
    unfold Dc
    rw [decide_eq_true (show p < a.length by omega), show a.length - 1 - p = a.length - (p + 1) by omega, e2]
    by_cases e : tb a b (a.length - (p + 1)) j = tb a b (a.length - (p + 1) + 1) j + 1
    · rw [decide_eq_true e]; simp; omega
    · rw [decide_eq_false e]; simp; omega
theorem bsum_over (f : Nat → Bool) (n : Nat) (h : ∀ p, n ≤ p → f p = false) : ∀ m, n ≤ m → bsum f m = bsum f n
  | 0, hm => by rw [show n = 0 by omega]
  | m + 1, hm => by
    by_cases e : n = m + 1
    · rw [e]
    · show bsum f m + _ = _
      rw [bsum_over f n h m (by omega), h m (by omega)]; rfl
theorem bsum_all (a b : List Int) (j m : Nat) (hm : a.length ≤ m) : bsum (Dc a b j) m = tb a b 0 j := by
  rw [bsum_over _ a.length (fun p hp => by unfold Dc; rw [decide_eq_false (by omega)]; rfl) m hm, bsum_dc a b j _ (Nat.le_refl _), Nat.sub_self]
theorem bsum_add (f : Nat → Bool) (n : Nat) : ∀ k, bsum f (n + k) = bsum f n + bsum (fun i => f (n + i)) k
  | 0 => rfl
  | k + 1 => by
    show bsum f (n + k) + _ = _
    rw [bsum_add f n k]
    show _ = bsum f n + (bsum (fun i => f (n + i)) k + (f (n + k)).toNat)
    rw [Nat.add_assoc]; rfl
theorem bsum_congr {f g : Nat → Bool} : ∀ k, (∀ i, i < k → f i = g i) → bsum f k = bsum g k
  | 0, _ => rfl
  | k + 1, h => by
    show bsum f k + _ = bsum g k + _
    rw [bsum_congr k (fun i hi => h i (by omega)), h k (by omega)]
def pc (x : Nat) : Nat := bsum x.testBit 64
/-- All words' ones. -/
def wsum (X : Nat → Nat) : Nat → Nat
  | 0 => 0
  | q + 1 => wsum X q + pc (X q)
theorem wsum_bits (X : Nat → Nat) : ∀ W, wsum X W = bsum (wb X) (64 * W)
  | 0 => rfl
  | W + 1 => by
    show wsum X W + pc (X W) = _
    rw [wsum_bits X W, Nat.mul_succ, bsum_add]
    congr 1
    refine bsum_congr 64 (fun i hi => ?_)
    unfold wb
    rw [show (64 * W + i) / 64 = W by omega, show (64 * W + i) % 64 = i by omega]
theorem bsum_le (f : Nat → Bool) : ∀ k, bsum f k ≤ k
  | 0 => Nat.le_refl _
  | k + 1 => by
    show bsum f k + _ ≤ _
    have := bsum_le f k
    have := Bool.toNat_le (f k)
    omega

/-! ### Ones of a word, as the library counts them -/
theorem and_split {u v m l : Nat} (hv : v < 256) (hl : l < 256) : (256 * u + v) &&& (256 * m + l) = 256 * (u &&& m) + (v &&& l) := by
  have hvl : v &&& l < 2 ^ 8 := Nat.lt_of_le_of_lt Nat.and_le_left hv
  apply Nat.eq_of_testBit_eq
  intro i
  rw [show (256 : Nat) = 2 ^ 8 from rfl, Nat.testBit_and, Nat.testBit_two_pow_mul_add _ hv, Nat.testBit_two_pow_mul_add _ hl, Nat.testBit_two_pow_mul_add _ hvl]
  split <;> rw [Nat.testBit_and]
def msk8 (c : Nat) : Nat → Nat
  | 0 => 0
  | k + 1 => 256 * msk8 c k + c
def s1 (k x : Nat) : Nat := (x / 2 &&& msk8 85 k) + (x &&& msk8 85 k)
def s2 (k x : Nat) : Nat := (x / 4 &&& msk8 51 k) + (x &&& msk8 51 k)
def s3 (k x : Nat) : Nat := (x / 16 + x) &&& msk8 15 k
def v1 (r : Nat) : Nat := (r / 2 &&& 85) + (r &&& 85)
def v2 (r : Nat) : Nat := (r / 4 &&& 51) + (r &&& 51)
def v3 (r : Nat) : Nat := (r / 16 + r) &&& 15
theorem t1 : ∀ r, r < 256 → v1 r < 171 ∧ (128 * 0 + r / 2) &&& 85 = r / 2 &&& 85 ∧ (128 * 1 + r / 2) &&& 85 = r / 2 &&& 85 := by decide +kernel
theorem t2 : ∀ r, r < 256 → v2 r < 103 ∧ ∀ e, e < 4 → (64 * e + r / 4) &&& 51 = r / 4 &&& 51 := by decide +kernel
theorem t3 : ∀ r, r < 256 → v2 (v1 r) % 16 ≤ 4 ∧ v2 (v1 r) / 16 ≤ 4 ∧ v3 (v2 (v1 r)) = bsum r.testBit 8 := by decide +kernel
theorem s1_step (k u v : Nat) (hv : v < 256) : s1 (k + 1) (256 * u + v) = 256 * s1 k u + v1 v := by
  obtain ⟨_, h0, h1⟩ := t1 v hv
  unfold s1
  show ((256 * u + v) / 2 &&& (256 * msk8 85 k + 85)) + ((256 * u + v) &&& (256 * msk8 85 k + 85)) = _
  rw [show (256 * u + v) / 2 = 256 * (u / 2) + (128 * (u % 2) + v / 2) by omega, and_split (by omega) (by omega), and_split hv (by omega)]
  have : (128 * (u % 2) + v / 2) &&& 85 = v / 2 &&& 85 := by
    rcases Nat.mod_two_eq_zero_or_one u with e | e <;> rw [e] <;> assumption
  rw [this]
  unfold v1; omega
theorem s2_step (k u v : Nat) (hv : v < 256) : s2 (k + 1) (256 * u + v) = 256 * s2 k u + v2 v := by
  obtain ⟨_, h1⟩ := t2 v hv
  unfold s2
  show ((256 * u + v) / 4 &&& (256 * msk8 51 k + 51)) + ((256 * u + v) &&& (256 * msk8 51 k + 51)) = _
  rw [show (256 * u + v) / 4 = 256 * (u / 4) + (64 * (u % 4) + v / 4) by omega, and_split (by omega) (by omega), and_split hv (by omega), h1 (u % 4) (by omega)]
  unfold v2; omega
theorem s3_step (k u v : Nat) (hv1 : v % 16 ≤ 4) (hv2 : v / 16 ≤ 4) (hu : u % 16 ≤ 4) : s3 (k + 1) (256 * u + v) = 256 * s3 k u + v3 v := by
  unfold s3 v3
  show ((256 * u + v) / 16 + (256 * u + v)) &&& (256 * msk8 15 k + 15) = _
  rw [show (256 * u + v) / 16 + (256 * u + v) = 256 * (u / 16 + u) + (16 * (u % 16) + v / 16 + v) by omega, and_split (by omega) (by omega)]
  have e : ∀ x : Nat, x &&& 15 = x % 16 := fun x => Nat.and_two_pow_sub_one_eq_mod x 4
  rw [e (16 * (u % 16) + v / 16 + v), e (v / 16 + v)]
  omega
def by8 : Nat → Nat → Nat
  | 0, _ => 0
  | k + 1, x => 256 * by8 k (x / 256) + bsum (x % 256).testBit 8
theorem s_by8 : ∀ k x, x < 256 ^ k → s3 k (s2 k (s1 k x)) = by8 k x ∧ s2 k (s1 k x) % 16 ≤ 4
  | 0, x, h => by
    have : x = 0 := by simpa using h
    subst this
    exact ⟨by decide, by decide⟩
  | k + 1, x, h => by
    have hd : x / 256 < 256 ^ k := by
      rw [Nat.pow_succ] at h
      exact Nat.div_lt_of_lt_mul (by rw [Nat.mul_comm]; exact h)
    obtain ⟨i1, i2⟩ := s_by8 k (x / 256) hd
    have hm : x % 256 < 256 := Nat.mod_lt _ (by decide)
    obtain ⟨k1, k2, k3⟩ := t3 _ hm
    have e : x = 256 * (x / 256) + x % 256 := by omega
    have hv : v1 (x % 256) < 256 := by have := (t1 _ hm).1; omega
    have e2 : s2 (k + 1) (s1 (k + 1) x) = 256 * s2 k (s1 k (x / 256)) + v2 (v1 (x % 256)) := by
      conv => lhs; rw [e]
      rw [s1_step _ _ _ hm, s2_step _ _ _ hv]
    rw [e2]
    refine ⟨?_, by omega⟩
    rw [s3_step _ _ _ k1 k2 i2, i1, k3]
    rfl
/-- The digits' sum. -/
def dsum : Nat → Nat → Nat
  | 0, _ => 0
  | k + 1, x => dsum k (x / 256) + bsum (x % 256).testBit 8
theorem dsum_bits : ∀ k x, dsum k x = bsum x.testBit (8 * k)
  | 0, _ => rfl
  | k + 1, x => by
    show dsum k (x / 256) + _ = _
    rw [dsum_bits k (x / 256), Nat.mul_succ, Nat.add_comm (8 * k) 8, bsum_add, Nat.add_comm]
    congr 1
    · refine bsum_congr 8 (fun i hi => ?_)
      rw [show (256 : Nat) = 2 ^ 8 from rfl, Nat.testBit_mod_two_pow]
      simp [hi]
    · refine bsum_congr _ (fun i hi => ?_)
      rw [show (256 : Nat) = 2 ^ 8 from rfl, Nat.testBit_div_two_pow, Nat.add_comm]
def ones (x : Nat) : Nat :=
  let y := s3 8 (s2 8 (s1 8 x))
  let a := y + y / 256
  let b := a + a / 65536
  (b + b / 4294967296) % 128
theorem ones_sum (y1 y2 y3 y4 y5 y6 y7 y8 : Nat) (l1 : y1 ≤ 8) (l2 : y2 ≤ 8) (l3 : y3 ≤ 8) (l4 : y4 ≤ 8) (l5 : y5 ≤ 8) (l6 : y6 ≤ 8) (l7 : y7 ≤ 8) (l8 : y8 ≤ 8) :
    let y := 256 * (256 * (256 * (256 * (256 * (256 * (256 * (256 * 0 + y8) + y7) + y6) + y5) + y4) + y3) + y2) + y1
    let a := y + y / 256
    let b := a + a / 65536
    (b + b / 4294967296) % 128 = 0 + y8 + y7 + y6 + y5 + y4 + y3 + y2 + y1 := by
  intro y a b
  obtain ⟨p7, h7⟩ : ∃ p7, 256 * 0 + y8 = p7 := ⟨_, rfl⟩
  obtain ⟨p6, h6⟩ : ∃ p6, 256 * p7 + y7 = p6 := ⟨_, rfl⟩
  obtain ⟨p5, h5⟩ : ∃ p5, 256 * p6 + y6 = p5 := ⟨_, rfl⟩
  obtain ⟨p4, h4⟩ : ∃ p4, 256 * p5 + y5 = p4 := ⟨_, rfl⟩
  obtain ⟨p3, h3⟩ : ∃ p3, 256 * p4 + y4 = p3 := ⟨_, rfl⟩
  obtain ⟨p2, h2⟩ : ∃ p2, 256 * p3 + y3 = p2 := ⟨_, rfl⟩
  obtain ⟨p1, h1⟩ : ∃ p1, 256 * p2 + y2 = p1 := ⟨_, rfl⟩
  have hy : y = 256 * p1 + y1 := by show 256 * (256 * (256 * (256 * (256 * (256 * (256 * (256 * 0 + y8) + y7) + y6) + y5) + y4) + y3) + y2) + y1 = _; rw [h7, h6, h5, h4, h3, h2, h1]
  have da : y / 256 = p1 := by rw [hy]; clear h1 h2 h3 h4 h5 h6 h7 hy; omega
  have ha : a = 65536 * (p2 + p3) + (256 * (y2 + y3) + (y1 + y2)) := by
    show y + y / 256 = _
    rw [da, hy, ← h1, ← h2]; clear h1 h2 h3 h4 h5 h6 h7 hy da; omega
  have db : a / 65536 = p2 + p3 := by rw [ha]; clear h1 h2 h3 h4 h5 h6 h7 hy ha da; omega
  have hq : p2 + p3 = 65536 * (p4 + p5) + (256 * (y4 + y5) + (y3 + y4)) := by rw [← h2, ← h3, ← h4]; clear h1 h2 h3 h4 h5 h6 h7 hy ha da db; omega
  have hq2 : p4 + p5 = 65536 * (p6 + p7) + (256 * (y6 + y7) + (y5 + y6)) := by rw [← h4, ← h5, ← h6]; clear h1 h2 h3 h4 h5 h6 h7 hy ha da db hq; omega
  have hb : b = 65536 * (p2 + p3) + (256 * (y2 + y3) + (y1 + y2)) + (p2 + p3) := by show a + a / 65536 = _; rw [db, ha]
  have dc : b / 4294967296 = (p4 + p5) + (p6 + p7) := by
    rw [hb, hq, hq2]; clear h1 h2 h3 h4 h5 h6 h7 hy ha da db hq hq2 hb
    generalize p6 + p7 = r; omega
  have hr : p6 + p7 = 256 * y8 + (y7 + y8) := by rw [← h6, ← h7]; clear h1 h2 h3 h4 h5 h6 h7 hy ha da db hq hq2 hb dc; omega
  rw [dc, hb, hq, hq2, hr]
  clear h1 h2 h3 h4 h5 h6 h7 hy ha da db hq hq2 hb dc hr
  omega
theorem ones_eq (x : Nat) (hx : x < 2 ^ 64) : ones x = pc x := by
  have h := (s_by8 8 x (by rw [show (256 : Nat) ^ 8 = 2 ^ 64 from by decide]; exact hx)).1
  unfold ones pc
  rw [show (64 : Nat) = 8 * 8 from rfl, ← dsum_bits]
  rw [h]
  simp only [by8, dsum]
  have l1 := bsum_le (x % 256).testBit 8
  have l2 := bsum_le (x / 256 % 256).testBit 8
  have l3 := bsum_le (x / 256 / 256 % 256).testBit 8
  have l4 := bsum_le (x / 256 / 256 / 256 % 256).testBit 8
  have l5 := bsum_le (x / 256 / 256 / 256 / 256 % 256).testBit 8
  have l6 := bsum_le (x / 256 / 256 / 256 / 256 / 256 % 256).testBit 8
  have l7 := bsum_le (x / 256 / 256 / 256 / 256 / 256 / 256 % 256).testBit 8
  have l8 := bsum_le (x / 256 / 256 / 256 / 256 / 256 / 256 / 256 % 256).testBit 8
  generalize bsum (x % 256).testBit 8 = y1 at *
  generalize bsum (x / 256 % 256).testBit 8 = y2 at *
  generalize bsum (x / 256 / 256 % 256).testBit 8 = y3 at *
  generalize bsum (x / 256 / 256 / 256 % 256).testBit 8 = y4 at *
  generalize bsum (x / 256 / 256 / 256 / 256 % 256).testBit 8 = y5 at *
  generalize bsum (x / 256 / 256 / 256 / 256 / 256 % 256).testBit 8 = y6 at *
  generalize bsum (x / 256 / 256 / 256 / 256 / 256 / 256 % 256).testBit 8 = y7 at *
  generalize bsum (x / 256 / 256 / 256 / 256 / 256 / 256 / 256 % 256).testBit 8 = y8 at *
  clear h hx
  refine ones_sum y1 y2 y3 y4 y5 y6 y7 y8 l1 l2 l3 l4 l5 l6 l7 l8

/-! ### Where a number stands, as words -/
def addw (l : List (Nat × Nat)) (k : Nat) : List (Nat × Nat) :=
  match l with
  | [] => [(k / 64, 2 ^ (k % 64))]
  | (q, b) :: t => if q = k / 64 then (q, b ||| 2 ^ (k % 64)) :: t else (k / 64, 2 ^ (k % 64)) :: (q, b) :: t
def rpl (f : Nat → Bool) : Nat → List (Nat × Nat)
  | 0 => []
  | k + 1 => if f k then addw (rpl f k) k else rpl f k
def msk : List (Nat × Nat) → Nat → Nat
  | [], _ => 0
  | (a, b) :: t, q => if a = q then b else msk t q
theorem msk_none {l : List (Nat × Nat)} {q : Nat} (h : ∀ p ∈ l, p.1 ≠ q) : msk l q = 0 := by
  induction l with
  | nil => rfl
  | cons p t ih =>
    obtain ⟨a, b⟩ := p
    show (if a = q then b else msk t q) = 0
    rw [if_neg (h (a, b) (List.mem_cons_self ..)), ih (fun p hp => h p (List.mem_cons_of_mem _ hp))]
theorem msk_append {d r : List (Nat × Nat)} {q : Nat} (h : ∀ p ∈ d, p.1 ≠ q) : msk (d ++ r) q = msk r q := by
  induction d with
  | nil => rfl
  | cons p t ih =>
    obtain ⟨a, b⟩ := p
    show (if a = q then b else msk (t ++ r) q) = _
    rw [if_neg (h (a, b) (List.mem_cons_self ..)), ih (fun p hp => h p (List.mem_cons_of_mem _ hp))]
theorem msk_append2 {d r : List (Nat × Nat)} {q : Nat} (h : ∀ p ∈ r, p.1 ≠ q) : msk (d ++ r) q = msk d q := by
  induction d with
  | nil => exact msk_none h
  | cons p t ih =>
    obtain ⟨a, b⟩ := p
    show (if a = q then b else msk (t ++ r) q) = if a = q then b else msk t q
    rw [ih]
theorem msk_reverse {l : List (Nat × Nat)} (h : l.Pairwise (fun p q => q.1 < p.1)) (q : Nat) : msk l.reverse q = msk l q := by
  induction l with
  | nil => rfl
  | cons p t ih =>
    obtain ⟨a, b⟩ := p
    rw [List.pairwise_cons] at h
    rw [List.reverse_cons]
    show _ = if a = q then b else msk t q
    by_cases e : a = q
    · rw [if_pos e, msk_append (fun p hp => by have := h.1 p (List.mem_reverse.1 hp); simp at this; omega)]
      show (if a = q then b else 0) = b
      rw [if_pos e]
    · rw [if_neg e, msk_append2 (fun p hp => by simp at hp; subst hp; exact e), ih h.2]
theorem msk_mem {l : List (Nat × Nat)} {q : Nat} (h : msk l q ≠ 0) : (q, msk l q) ∈ l := by
  induction l with
  | nil => exact absurd rfl h
  | cons p t ih =>
    obtain ⟨a, b⟩ := p
    by_cases e : a = q
    · subst e
      rw [show msk ((a, b) :: t) a = b from if_pos rfl]; exact List.mem_cons_self ..
    · rw [show msk ((a, b) :: t) q = msk t q from if_neg e] at h ⊢
      exact List.mem_cons_of_mem _ (ih h)
theorem msk_lt {l : List (Nat × Nat)} (h : ∀ p ∈ l, p.2 < 2 ^ 64) (q : Nat) : msk l q < 2 ^ 64 := by
  by_cases e : msk l q = 0
  · rw [e]; decide
  · exact h _ (msk_mem e)
theorem rpl_ok (f : Nat → Bool) : ∀ k, (rpl f k).Pairwise (fun p q => q.1 < p.1) ∧ (∀ p ∈ rpl f k, 64 * p.1 < k ∧ p.2 < 2 ^ 64) ∧ ∀ p, wb (msk (rpl f k)) p = (decide (p < k) && f p)
  | 0 => ⟨List.Pairwise.nil, ⟨fun p (hp : p ∈ []) => absurd hp List.not_mem_nil, fun p => by simp [rpl, wb, msk]⟩⟩
  | k + 1 => by
    obtain ⟨h1, h2, h3⟩ := rpl_ok f k
    show (if f k then addw (rpl f k) k else rpl f k).Pairwise _ ∧ (∀ p ∈ (if f k then addw (rpl f k) k else rpl f k), _) ∧ ∀ p, wb (msk (if f k then addw (rpl f k) k else rpl f k)) p = _
    by_cases hf : f k = true
    · rw [if_pos hf]
      have hb : (2 : Nat) ^ (k % 64) < 2 ^ 64 := Nat.pow_lt_pow_right (by decide) (Nat.mod_lt _ (by decide))
      have key : ∀ p : Nat, p ≠ k → p / 64 = k / 64 → (2 ^ (k % 64)).testBit (p % 64) = false := fun p hp he => by
        rw [Nat.testBit_two_pow]; simp; omega
      have self : (2 ^ (k % 64)).testBit (k % 64) = true := by rw [Nat.testBit_two_pow]; simp
      generalize rpl f k = l at *
      match l, h1, h2, h3 with
      | [], h1, h2, h3 =>
        refine ⟨by simp [addw], fun p hp => ?_, fun p => ?_⟩
        · simp [addw] at hp; subst hp; exact ⟨by show 64 * (k / 64) < _; omega, hb⟩
        · have h4 := h3 p
          unfold wb at h4 ⊢
          show (if k / 64 = p / 64 then 2 ^ (k % 64) else 0 : Nat).testBit _ = _
          by_cases e : p = k
          · subst e; rw [if_pos rfl, self, hf]; simp
          · by_cases e2 : k / 64 = p / 64
            · rw [if_pos e2, key p e e2.symm]
              simp [msk] at h4
              by_cases e3 : p < k
              · simp [e3] at h4; simp [h4]
              · simp; intro; omega
            · rw [if_neg e2]
              simp [msk] at h4
              simp
              by_cases e3 : p < k
              · intro; exact h4 e3
              · intro; omega
      | (q, b) :: t, h1, h2, h3 =>
        rw [List.pairwise_cons] at h1
        have hq := h2 (q, b) (List.mem_cons_self ..)
        simp only at hq
        by_cases e : q = k / 64
        · rw [show addw ((q, b) :: t) k = (q, b ||| 2 ^ (k % 64)) :: t from if_pos e]
          refine ⟨List.pairwise_cons.2 ⟨h1.1, h1.2⟩, fun p hp => ?_, fun p => ?_⟩
          · rcases List.mem_cons.1 hp with rfl | hp
            · exact ⟨by show 64 * q < _; omega, Nat.or_lt_two_pow hq.2 hb⟩
            · have := h2 p (List.mem_cons_of_mem _ hp); exact ⟨by omega, this.2⟩
          · have h4 := h3 p
            unfold wb at h4 ⊢
            rw [show msk ((q, b) :: t) (p / 64) = if q = p / 64 then b else msk t (p / 64) from rfl] at h4
            rw [show msk ((q, b ||| 2 ^ (k % 64)) :: t) (p / 64) = if q = p / 64 then b ||| 2 ^ (k % 64) else msk t (p / 64) from rfl]
            by_cases e2 : q = p / 64
            · rw [if_pos e2] at h4 ⊢
              rw [Nat.testBit_or, h4]
              by_cases e3 : p = k
              · subst e3; rw [self, hf]; simp
              · rw [key p e3 (by omega), Bool.or_false]
                by_cases e4 : p < k
                · rw [decide_eq_true e4, decide_eq_true (show p < k + 1 by omega)]
                · rw [decide_eq_false e4, decide_eq_false (show ¬ p < k + 1 by omega)]
            · rw [if_neg e2] at h4 ⊢
              rw [h4]
              have : p ≠ k := fun h => by subst h; exact e2 e
              by_cases e4 : p < k
              · rw [decide_eq_true e4, decide_eq_true (show p < k + 1 by omega)]
              · rw [decide_eq_false e4, decide_eq_false (show ¬ p < k + 1 by omega)]
        · rw [show addw ((q, b) :: t) k = (k / 64, 2 ^ (k % 64)) :: (q, b) :: t from if_neg e]
          have hlt : q < k / 64 := by omega
          refine ⟨List.pairwise_cons.2 ⟨fun p hp => ?_, List.pairwise_cons.2 h1⟩, fun p hp => ?_, fun p => ?_⟩
          · rcases List.mem_cons.1 hp with rfl | hp
            · exact hlt
            · have := h1.1 p hp; simp only at this ⊢; omega
          · rcases List.mem_cons.1 hp with rfl | hp
            · exact ⟨by show 64 * (k / 64) < _; omega, hb⟩
            · have := h2 p hp; exact ⟨by omega, this.2⟩
          · have h4 := h3 p
            unfold wb at h4 ⊢
            rw [show msk ((k / 64, 2 ^ (k % 64)) :: (q, b) :: t) (p / 64) = if k / 64 = p / 64 then 2 ^ (k % 64) else msk ((q, b) :: t) (p / 64) from rfl]
            by_cases e3 : p = k
            · subst e3; rw [if_pos rfl, self, hf]; simp
            · by_cases e2 : k / 64 = p / 64
              · rw [if_pos e2, key p e3 e2.symm]
                have hz : msk ((q, b) :: t) (p / 64) = 0 := msk_none (fun x hx => by
                  rcases List.mem_cons.1 hx with rfl | hx
                  · show q ≠ _; omega
                  · have := h1.1 x hx; simp only at this; omega)
                rw [hz, Nat.zero_testBit] at h4
                by_cases e4 : p < k
                · rw [decide_eq_true e4] at h4
                  rw [decide_eq_true (show p < k + 1 by omega)]; exact h4
                · rw [decide_eq_false (show ¬ p < k + 1 by omega)]; rfl
              · rw [if_neg e2, h4]
                by_cases e4 : p < k
                · rw [decide_eq_true e4, decide_eq_true (show p < k + 1 by omega)]
                · rw [decide_eq_false e4, decide_eq_false (show ¬ p < k + 1 by omega)]
    · have hf' : f k = false := by simpa using hf
      rw [if_neg hf]
      refine ⟨h1, fun p hp => ⟨by have := (h2 p hp).1; omega, (h2 p hp).2⟩, fun p => ?_⟩
      rw [h3 p]
      by_cases e : p = k
      · subst e; rw [hf']; simp
      · by_cases e4 : p < k
        · rw [decide_eq_true e4, decide_eq_true (show p < k + 1 by omega)]
        · rw [decide_eq_false e4, decide_eq_false (show ¬ p < k + 1 by omega)]
/-- Where x stands in a, the words in order. -/
def pls (a : List Int) (x : Int) : List (Nat × Nat) := (rpl (Mc a x) a.length).reverse
theorem pls_rise (a : List Int) (x : Int) : (pls a x).Pairwise (fun p q => p.1 < q.1) := List.pairwise_reverse.2 (rpl_ok _ _).1
theorem pls_in (a : List Int) (x : Int) : ∀ p ∈ pls a x, p.1 < (a.length + 63) / 64 ∧ p.2 < 2 ^ 64 := fun p hp => by
  have := (rpl_ok (Mc a x) a.length).2.1 p (List.mem_reverse.1 hp)
  exact ⟨by omega, this.2⟩
theorem pls_bits (a : List Int) (x : Int) (p : Nat) : wb (msk (pls a x)) p = Mc a x p := by
  have h := (rpl_ok (Mc a x) a.length).2.2 p
  have e : msk (pls a x) = msk (rpl (Mc a x) a.length) := funext (fun q => msk_reverse (rpl_ok _ _).1 q)
  rw [e, h]
  by_cases hp : p < a.length
  · rw [decide_eq_true hp]; rfl
  · rw [decide_eq_false hp]
    unfold Mc; rw [List.getElem?_eq_none (show a.reverse.length ≤ p by rw [List.length_reverse]; omega)]; simp
/-- A column, in words. -/
structure IsCol (a b : List Int) (j : Nat) (X : Nat → Nat) : Prop where
  lt : ∀ q, X q < 2 ^ 64
  bit : ∀ p, wb X p = Dc a b j p
theorem isCol_end (a b : List Int) : IsCol a b b.length (fun _ => 0) := ⟨fun _ => by decide, fun p => by rw [dc_end a b _ p (Nat.le_refl _)]; simp [wb]⟩
theorem IsCol.step {a b : List Int} {j : Nat} {X : Nat → Nat} (h : IsCol a b (j + 1) X) (hj : j < b.length) : IsCol a b j (nw X (msk (pls a b[j]))) := by
  have hM : ∀ q, msk (pls a b[j]) q < 2 ^ 64 := msk_lt (fun p hp => (pls_in a _ p hp).2)
  refine ⟨nw_lt _ _, fun p => ?_⟩
  rw [nw_bit X _ h.lt hM]
  have e1 : wb X = Dc a b (j + 1) := funext h.bit
  have e2 : wb (msk (pls a b[j])) = Mc a b[j] := funext (pls_bits a _)
  rw [e1, e2]
  exact step_dc hj p
theorem IsCol.count {a b : List Int} {j : Nat} {X : Nat → Nat} (h : IsCol a b j X) : wsum X ((a.length + 63) / 64) = tb a b 0 j := by
  rw [wsum_bits, show wb X = Dc a b j from funext h.bit, bsum_all a b j _ (by omega)]
theorem IsCol.has {a b : List Int} {j : Nat} {X : Nat → Nat} (h : IsCol a b j X) {i : Nat} (hi : i < a.length) : (X ((a.length - 1 - i) / 64)).testBit ((a.length - 1 - i) % 64) = decide (tb a b i j = tb a b (i + 1) j + 1) := by
  have := h.bit (a.length - 1 - i)
  unfold wb Dc at this
  rw [this, decide_eq_true (show a.length - 1 - i < a.length by omega), show a.length - 1 - (a.length - 1 - i) = i by omega, show a.length - (a.length - 1 - i) = i + 1 by omega]
  rfl
theorem IsCol.zero {a b : List Int} {j : Nat} {X : Nat → Nat} (h : IsCol a b j X) {q : Nat} (hq : (a.length + 63) / 64 ≤ q) : X q = 0 := by
  apply Nat.eq_of_testBit_eq
  intro i
  rw [Nat.zero_testBit]
  by_cases hi : i < 64
  · have := h.bit (64 * q + i)
    unfold wb Dc at this
    rw [show (64 * q + i) / 64 = q by omega, show (64 * q + i) % 64 = i by omega, decide_eq_false (by omega)] at this
    exact this
  · exact Nat.testBit_lt_two_pow (Nat.lt_of_lt_of_le (h.lt q) (Nat.pow_le_pow_right (by decide) (by omega)))
end Go.Proofs.Ytbfclmhcoelplaa.Lcx
