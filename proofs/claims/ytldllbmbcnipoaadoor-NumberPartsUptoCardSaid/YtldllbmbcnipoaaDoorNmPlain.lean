/-
  A BLOCK's KEY, in plain words; that unlike blocks have unlike keys; its parts; how alike two are. No program.
-/
import Derived.Test.YtldllbmbcnipoaaDoorBtSame
import Derived.Test.YtldllbmbcnipoaaDoorTkPlain
import Derived.Test.YtldllbmbcnipoaaDoorLcPlain
namespace Go.Proofs.YtldllbmbcnipoaaDoor.Nm
open Go.Proofs.YtldllbmbcnipoaaDoor.Sp (Sp plAll)
open Go.Proofs.YtldllbmbcnipoaaDoor.Bk (Bk Tx)
open Go.Proofs.YtldllbmbcnipoaaDoor.Bt (smB smB_iff)
set_option linter.unusedVariables false

/-! Digits. -/
def dgB (n : Nat) : UInt8 := (48 + n).toUInt8
def dgN (n : Nat) : Tx := if h : n < 10 then [dgB n] else dgN (n / 10) ++ [dgB (n % 10)]
termination_by n
decreasing_by omega
def dgI (n : Int) : Tx := if n < 0 then 45 :: dgN n.natAbs else dgN n.natAbs
theorem dgN_small {n : Nat} (h : n < 10) : dgN n = [dgB n] := by rw [dgN, dif_pos h]
theorem dgN_big {n : Nat} (h : ¬ n < 10) : dgN n = dgN (n / 10) ++ [dgB (n % 10)] := by rw [dgN, dif_neg h]
def val (l : Tx) : Nat := l.foldl (fun a c => 10 * a + (c.toNat - 48)) 0
theorem dgB_val {n : Nat} (h : n < 10) : (dgB n).toNat = 48 + n := by
  unfold dgB
  rw [Nat.toUInt8, UInt8.toNat_ofNat']
  omega
theorem val_dgN (n : Nat) : val (dgN n) = n := by
  induction n using Nat.strongRecOn with
  | ind n ih =>
    by_cases h : n < 10
    · rw [dgN_small h]
      show 10 * 0 + ((dgB n).toNat - 48) = n
      rw [dgB_val h]
      omega
    · rw [dgN_big h]
      unfold val
      rw [List.foldl_append]
      show 10 * val (dgN (n / 10)) + ((dgB (n % 10)).toNat - 48) = n
      rw [ih (n / 10) (by omega), dgB_val (by omega)]
      omega
theorem dgN_inj {m n : Nat} (h : dgN m = dgN n) : m = n := by rw [← val_dgN m, ← val_dgN n, h]
theorem dgN_digit (n : Nat) : ∀ c ∈ dgN n, 48 ≤ c.toNat ∧ c.toNat ≤ 57 := by
  induction n using Nat.strongRecOn with
  | ind n ih =>
    intro c hc
    by_cases h : n < 10
    · rw [dgN_small h, List.mem_singleton] at hc
      rw [hc, dgB_val h]
      omega
    · rw [dgN_big h] at hc
      rcases List.mem_append.1 hc with hc | hc
      · exact ih (n / 10) (by omega) c hc
      · rw [List.mem_singleton] at hc
        rw [hc, dgB_val (by omega)]
        omega
theorem dgN_no (n : Nat) (c : UInt8) (h : c = 58 ∨ c = 59 ∨ c = 45) : c ∉ dgN n := fun hc => by
  have := dgN_digit n c hc
  rcases h with rfl | rfl | rfl
  · have e : (58 : UInt8).toNat = 58 := rfl
    omega
  · have e : (59 : UInt8).toNat = 59 := rfl
    omega
  · have e : (45 : UInt8).toNat = 45 := rfl
    omega
theorem dgN_ne (n : Nat) : dgN n ≠ [] := by
  by_cases h : n < 10
  · rw [dgN_small h]; simp
  · rw [dgN_big h]; simp
theorem dgI_inj {m n : Int} (h : dgI m = dgI n) : m = n := by
  unfold dgI at h
  by_cases hm : m < 0
  · rw [if_pos hm] at h
    by_cases hn : n < 0
    · rw [if_pos hn] at h
      have := dgN_inj (List.cons.inj h).2
      omega
    · rw [if_neg hn] at h
      exact absurd (by rw [← h]; exact List.mem_cons_self ..) (dgN_no n.natAbs 45 (Or.inr (Or.inr rfl)))
  · rw [if_neg hm] at h
    by_cases hn : n < 0
    · rw [if_pos hn] at h
      exact absurd (by rw [h]; exact List.mem_cons_self ..) (dgN_no m.natAbs 45 (Or.inr (Or.inr rfl)))
    · rw [if_neg hn] at h
      have := dgN_inj h
      omega
theorem dgI_no (n : Int) : (59 : UInt8) ∉ dgI n := by
  unfold dgI
  split
  · intro h
    rcases List.mem_cons.1 h with h | h
    · exact absurd h (by decide)
    · exact dgN_no _ _ (Or.inr (Or.inl rfl)) h
  · exact dgN_no _ _ (Or.inr (Or.inl rfl))
theorem dgN_len (n : Nat) : ∀ d, n < 10 ^ (d + 1) → (dgN n).length ≤ d + 1 := by
  induction n using Nat.strongRecOn with
  | ind n ih =>
    intro d hd
    by_cases h : n < 10
    · rw [dgN_small h]; simp
    · rw [dgN_big h, List.length_append]
      cases d with
      | zero => omega
      | succ d =>
        have := ih (n / 10) (by omega) d (by rw [Nat.pow_succ] at hd; omega)
        simp only [List.length_cons, List.length_nil]
        omega
theorem dgN_20 {n : Nat} (h : n ≤ 9223372036854775808) : (dgN n).length ≤ 19 := dgN_len n 18 (by omega)
theorem dgI_21 {n : Int} (h : -9223372036854775808 ≤ n ∧ n ≤ 9223372036854775807) : (dgI n).length ≤ 20 := by
  have := dgN_20 (n := n.natAbs) (by omega)
  unfold dgI
  split
  · rw [List.length_cons]; omega
  · omega
/-- Two lists ahead of a byte that neither has. -/
theorem cut_eq {c : UInt8} : ∀ {p q r s : Tx}, c ∉ p → c ∉ q → p ++ c :: r = q ++ c :: s → p = q ∧ r = s
  | [], [], r, s, _, _, h => ⟨rfl, (List.cons.inj h).2⟩
  | [], b :: q, r, s, _, hq, h => absurd (by rw [(List.cons.inj h).1]; exact List.mem_cons_self ..) hq
  | a :: p, [], r, s, hp, _, h => absurd (by rw [← (List.cons.inj h).1]; exact List.mem_cons_self ..) hp
  | a :: p, b :: q, r, s, hp, hq, h => by
    obtain ⟨h1, h2⟩ := List.cons.inj h
    obtain ⟨h3, h4⟩ := cut_eq (fun hm => hp (List.mem_cons_of_mem _ hm)) (fun hm => hq (List.mem_cons_of_mem _ hm)) h2
    exact ⟨by rw [h1, h3], h4⟩

/-! Keys. -/
def tx (s : Tx) : Tx := dgN s.length ++ 58 :: s
theorem app_eq {p q r s : Tx} (hl : p.length = q.length) (h : p ++ r = q ++ s) : p = q ∧ r = s := List.append_inj h hl
theorem tx_inj {s t r u : Tx} (h : tx s ++ r = tx t ++ u) : s = t ∧ r = u := by
  unfold tx at h
  rw [List.append_assoc, List.append_assoc, List.cons_append, List.cons_append] at h
  obtain ⟨h1, h2⟩ := cut_eq (dgN_no _ _ (Or.inl rfl)) (dgN_no _ _ (Or.inl rfl)) h
  exact app_eq (dgN_inj h1) h2
theorem num_inj {m n : Nat} {r s : Tx} (h : dgN m ++ 59 :: r = dgN n ++ 59 :: s) : m = n ∧ r = s := by
  obtain ⟨h1, h2⟩ := cut_eq (dgN_no _ _ (Or.inr (Or.inl rfl))) (dgN_no _ _ (Or.inr (Or.inl rfl))) h
  exact ⟨dgN_inj h1, h2⟩
theorem int_inj {m n : Int} {r s : Tx} (h : dgI m ++ 59 :: r = dgI n ++ 59 :: s) : m = n ∧ r = s := by
  obtain ⟨h1, h2⟩ := cut_eq (dgI_no _) (dgI_no _) h
  exact ⟨dgI_inj h1, h2⟩
def txs : List Tx → Tx
  | [] => []
  | s :: r => tx s ++ txs r
theorem txs_inj : ∀ {a b : List Tx} {r s : Tx}, a.length = b.length → txs a ++ r = txs b ++ s → a = b ∧ r = s
  | [], [], r, s, _, h => ⟨rfl, h⟩
  | [], _ :: _, _, _, hl, _ => by simp at hl
  | _ :: _, [], _, _, hl, _ => by simp at hl
  | x :: a, y :: b, r, s, hl, h => by
    rw [txs, txs, List.append_assoc, List.append_assoc] at h
    obtain ⟨h1, h2⟩ := tx_inj h
    obtain ⟨h3, h4⟩ := txs_inj (by simpa using hl) h2
    exact ⟨by rw [h1, h3], h4⟩
mutual
def sp1 : Sp → Tx
  | .mk k s l => dgI k ++ 59 :: (tx s ++ (dgN l.length ++ 59 :: spR l))
def spR : List Sp → Tx
  | [] => []
  | x :: r => sp1 x ++ spR r
end
def spK (l : List Sp) : Tx := dgN l.length ++ 59 :: spR l
mutual
theorem sp1_inj : ∀ (x y : Sp) (r s : Tx), sp1 x ++ r = sp1 y ++ s → x = y ∧ r = s
  | .mk k s l, .mk k' s' l', r, u, h => by
    rw [sp1, sp1] at h
    simp only [List.append_assoc, List.cons_append] at h
    obtain ⟨h1, h2⟩ := int_inj h
    obtain ⟨h3, h4⟩ := tx_inj h2
    obtain ⟨h5, h6⟩ := num_inj h4
    obtain ⟨h7, h8⟩ := spR_inj l l' r u h5 h6
    exact ⟨by rw [h1, h3, h7], h8⟩
theorem spR_inj : ∀ (a b : List Sp) (r s : Tx), a.length = b.length → spR a ++ r = spR b ++ s → a = b ∧ r = s
  | [], [], r, s, _, h => ⟨rfl, by simpa [spR] using h⟩
  | [], _ :: _, _, _, hl, _ => by simp at hl
  | _ :: _, [], _, _, hl, _ => by simp at hl
  | x :: a, y :: b, r, s, hl, h => by
    rw [spR, spR, List.append_assoc, List.append_assoc] at h
    obtain ⟨h1, h2⟩ := sp1_inj x y _ _ h
    obtain ⟨h3, h4⟩ := spR_inj a b r s (by simpa using hl) h2
    exact ⟨by rw [h1, h3], h4⟩
end
mutual
def bk1 : Bk → Tx
  | .mk k lv i ls ss l => dgI k ++ 59 :: (dgI lv ++ 59 :: (tx i ++ (dgN ls.length ++ 59 :: (txs ls ++ (spK ss ++ (dgN l.length ++ 59 :: bkR l))))))
def bkR : List Bk → Tx
  | [] => []
  | x :: r => bk1 x ++ bkR r
end
mutual
theorem bk1_inj : ∀ (x y : Bk) (r s : Tx), bk1 x ++ r = bk1 y ++ s → x = y ∧ r = s
  | .mk k lv i ls ss l, .mk k' lv' i' ls' ss' l', r, u, h => by
    rw [bk1, bk1] at h
    simp only [List.append_assoc, List.cons_append, spK] at h
    obtain ⟨h1, h2⟩ := int_inj h
    obtain ⟨h3, h4⟩ := int_inj h2
    obtain ⟨h5, h6⟩ := tx_inj h4
    obtain ⟨h7, h8⟩ := num_inj h6
    obtain ⟨h9, h10⟩ := txs_inj h7 h8
    obtain ⟨h11, h12⟩ := num_inj h10
    obtain ⟨h13, h14⟩ := spR_inj ss ss' _ _ h11 h12
    obtain ⟨h15, h16⟩ := num_inj h14
    obtain ⟨h17, h18⟩ := bkR_inj l l' r u h15 h16
    exact ⟨by rw [h1, h3, h5, h9, h13, h17], h18⟩
theorem bkR_inj : ∀ (a b : List Bk) (r s : Tx), a.length = b.length → bkR a ++ r = bkR b ++ s → a = b ∧ r = s
  | [], [], r, s, _, h => ⟨rfl, by simpa [bkR] using h⟩
  | [], _ :: _, _, _, hl, _ => by simp at hl
  | _ :: _, [], _, _, hl, _ => by simp at hl
  | x :: a, y :: b, r, s, hl, h => by
    rw [bkR, bkR, List.append_assoc, List.append_assoc] at h
    obtain ⟨h1, h2⟩ := bk1_inj x y _ _ h
    obtain ⟨h3, h4⟩ := bkR_inj a b r s (by simpa using hl) h2
    exact ⟨by rw [h1, h3], h4⟩
end
theorem key_inj {x y : Bk} (h : bk1 x = bk1 y) : x = y := (bk1_inj x y [] [] (by rw [h])).1
def keys (l : List Bk) : List Tx := l.map bk1

/-! Parts, and how alike. -/
def pt (b : Bk) : List Tx :=
  if b.kind = 1 ∨ b.kind = 2 then Tk.toks (plAll b.spans) else if b.kind = 4 then b.lines else if b.kind = 5 ∨ b.kind = 6 ∨ b.kind = 7 then keys b.kids else if b.kind = 8 then b.info :: b.lines else []
def rkI (all l : List Tx) : List Int := l.map (fun x => (Tk.rank all x : Int))
def al (a b : Bk) : Nat :=
  if smB [a] [b] = true then 1000 else if a.kind ≠ b.kind then 0 else min 999 (Lc.dice (rkI (pt a ++ pt b) (pt a)) (rkI (pt b ++ pt a) (pt b)))
end Go.Proofs.YtldllbmbcnipoaaDoor.Nm
