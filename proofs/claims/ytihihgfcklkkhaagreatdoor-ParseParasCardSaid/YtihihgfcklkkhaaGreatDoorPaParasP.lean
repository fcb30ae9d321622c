import Derived.Test.YtihihgfcklkkhaaGreatDoorPkAP
import Derived.Test.YtihihgfcklkkhaaGreatDoorPkAJ
import Derived.Test.YtihihgfcklkkhaaGreatDoorPkG
import Derived.Test.YtihihgfcklkkhaaGreatDoorSiRead
import Derived.Test.YtihihgfcklkkhaaGreatDoorPaBlock
namespace Go.Proofs.YtihihgfcklkkhaaGreatDoor.Pa
open Go.Proofs.YtihihgfcklkkhaaGreatDoor.Bk (Tx Bk Env fenceL spanK itemL dropBlank listL items kindOf closes unquote unitem inner define parse joinLF)
open Go.Proofs.YtihihgfcklkkhaaGreatDoor.Sp (spcB oneT Rdr_noSp parseB Sp)
open Go.Proofs.YtihihgfcklkkhaaGreatDoor.Tk (S S_list)
open Go.Proofs.YtihihgfcklkkhaaGreatDoor.Ln (run mx trim run_no)
open Go.Proofs.YtihihgfcklkkhaaGreatDoor.Kd (E0)
set_option linter.unusedVariables false
def pl (b : UInt8) : Tx := if 26 ≤ b.toNat % 30 then (if b.toNat % 30 % 3 % 2 = 1 then [32] else []) else [UInt8.ofNat (97 + b.toNat % 30)]
def mny : Bool → List UInt8 → Nat
  | _, [] => 0
  | o, b :: r => if 26 ≤ b.toNat % 30 then mny false r else (if o then 0 else 1) + mny true r
theorem pl_blank {b : UInt8} (h : 26 ≤ b.toNat % 30) : kindOf E0 (pl b) = 1 := by
  unfold pl
  rw [if_pos h]
  split <;> decide
theorem pl_low {b : UInt8} (h : ¬ 26 ≤ b.toNat % 30) : ∃ c, pl b = [c] ∧ lowB c = true := by
  refine ⟨UInt8.ofNat (97 + b.toNat % 30), by unfold pl; rw [if_neg h], ?_⟩
  unfold lowB
  have : (UInt8.ofNat (97 + b.toNat % 30)).toNat = 97 + b.toNat % 30 := by
    rw [UInt8.toNat_ofNat']
    omega
  rw [this]
  exact decide_eq_true (by omega)
theorem low_spc {c : UInt8} (h : lowB c = true) : spcB c = false := by
  unfold spcB
  simp only [Bool.or_eq_false_iff, decide_eq_false_iff_not]
  exact ⟨⟨⟨⟨low_ne h _ (by decide), low_ne h _ (by decide)⟩, low_ne h _ (by decide)⟩, low_ne h _ (by decide)⟩, low_ne h _ (by decide)⟩
theorem trim_low {c : UInt8} (h : lowB c = true) : trim [c] = [c] := by
  have hg := low_gap h
  unfold trim Ln.dl Ln.dr
  simp [hg]
theorem pls_trim : ∀ l : List UInt8, (∀ b ∈ l, ¬ 26 ≤ b.toNat % 30) → (l.map pl).map trim = l.map pl
  | [], _ => rfl
  | b :: r, h => by
    obtain ⟨c, hc, hl⟩ := pl_low (h b (List.mem_cons_self ..))
    rw [List.map_cons, List.map_cons, pls_trim r (fun x hx => h x (List.mem_cons_of_mem _ hx)), hc, trim_low hl]
theorem pls_join : ∀ l : List UInt8, (∀ b ∈ l, ¬ 26 ≤ b.toNat % 30) → ∀ c ∈ joinLF (l.map pl), spcB c = false
  | [], _, c, hc => by cases hc
  | [b], h, c, hc => by
    obtain ⟨d, hd, hl⟩ := pl_low (h b (List.mem_cons_self ..))
    rw [List.map_cons, List.map_nil, hd] at hc
    have : c = d := by simpa [joinLF] using hc
    rw [this]
    exact low_spc hl
  | b :: b' :: r, h, c, hc => by
    obtain ⟨d, hd, hl⟩ := pl_low (h b (List.mem_cons_self ..))
    have ih := pls_join (b' :: r) (fun x hx => h x (List.mem_cons_of_mem _ hx)) c
    rw [List.map_cons] at ih
    rw [List.map_cons, List.map_cons, joinLF, hd] at hc
    simp only [List.cons_append, List.nil_append, List.mem_cons] at hc
    rcases hc with rfl | rfl | hc
    · exact low_spc hl
    · decide
    · exact ih hc
theorem parse_words {t : Tx} (h : ∀ c ∈ t, spcB c = false) (hne : t ≠ []) : parse t = [.mk 1 t []] := by
  rw [← parse_eq]
  unfold parseB
  rw [S_list, Rdr_noSp _ _ t h, oneT, if_neg hne]
theorem span_pls : ∀ l : List UInt8, ∃ a r, l = a ++ r ∧ (∀ b ∈ a, ¬ 26 ≤ b.toNat % 30) ∧ spanK E0 8 (l.map pl) = (a.map pl, r.map pl) ∧ mny true l = mny false r
  | [] => ⟨[], [], rfl, (fun b h => by cases h), rfl, rfl⟩
  | b :: l => by
    by_cases hb : 26 ≤ b.toNat % 30
    · refine ⟨[], b :: l, rfl, (fun b h => by cases h), ?_, ?_⟩
      · rw [List.map_cons, spanK, if_neg (by rw [pl_blank hb]; decide)]
        rfl
      · rw [mny, mny, if_pos hb, if_pos hb]
    · obtain ⟨a, r, h1, h2, h3, h4⟩ := span_pls l
      obtain ⟨c, hc, hl⟩ := pl_low hb
      refine ⟨b :: a, r, by rw [h1]; rfl, fun x hx => ?_, ?_, ?_⟩
      · rcases List.mem_cons.1 hx with rfl | hx
        · exact hb
        · exact h2 x hx
      · rw [List.map_cons, spanK, if_pos (by rw [hc]; exact kind_low hl []), h3]
        rfl
      · rw [mny, if_neg hb, if_pos rfl, h4, Nat.zero_add]
def oneP (b : Bk) : Prop := b.kind = 1 ∧ ∃ t, b.spans = [.mk 1 t []]
theorem pls_all : ∀ (n : Nat) (l : List UInt8), l.length ≤ n → ∃ bs, allE 0 (l.map pl) = some bs ∧ bs.length = mny false l ∧ ∀ b ∈ bs, oneP b
  | _, [], _ => ⟨[], allE_nil (by omega), rfl, (fun b h => by cases h)⟩
  | 0, _ :: _, h => absurd h (by simp)
  | n + 1, b :: l, h => by
    simp only [List.length_cons] at h
    by_cases hb : 26 ≤ b.toNat % 30
    · obtain ⟨bs, h1, h2, h3⟩ := pls_all n l (by omega)
      refine ⟨bs, ?_, ?_, h3⟩
      · rw [List.map_cons, allE_blank (pl_blank hb), h1]
      · rw [mny, if_pos hb, h2]
    · obtain ⟨a, r, e1, e2, e3, e4⟩ := span_pls l
      obtain ⟨c, hc, hl⟩ := pl_low hb
      have hk : kindOf E0 (pl b) = 8 := by rw [hc]; exact kind_low hl []
      have hlen := congrArg List.length e1
      rw [List.length_append] at hlen
      obtain ⟨bs, h1, h2, h3⟩ := pls_all n r (by omega)
      have hsp : spanK E0 8 (pl b :: l.map pl) = ((b :: a).map pl, r.map pl) := by
        rw [spanK, if_pos hk, e3]
        rfl
      have hall : ∀ x ∈ b :: a, ¬ 26 ≤ x.toNat % 30 := fun x hx => by
        rcases List.mem_cons.1 hx with rfl | hx
        · exact hb
        · exact e2 x hx
      have hpar : paraL (pl b) (l.map pl) = (b :: a).map pl := by
        unfold paraL
        rw [hsp]
        exact pls_trim _ hall
      have hne : joinLF ((b :: a).map pl) ≠ [] := by
        rw [List.map_cons, hc]
        cases a with
        | nil => simp [joinLF]
        | cons x a => simp [joinLF]
      refine ⟨.mk 1 0 [] [] [.mk 1 (joinLF ((b :: a).map pl)) []] [] :: bs, ?_, ?_, ?_⟩
      · rw [List.map_cons, allE_block (by omega) (by rw [hk]; decide), val8 hk, rest8 hk, hsp, hpar, parse_words (pls_join _ hall) hne]
        simp only
        rw [h1]
        rfl
      · rw [mny, if_neg hb, e4, List.length_cons, h2]
        simp
        omega
      · intro x hx
        rcases List.mem_cons.1 hx with rfl | hx
        · exact ⟨rfl, _, rfl⟩
        · exact h3 x hx
theorem pls_spread (l : List UInt8) : (sprB (l.map pl)).length = mny false l := by
  obtain ⟨bs, h1, h2, _⟩ := pls_all l.length l (Nat.le_refl _)
  rw [each_len (sprB_each h1), h2]
theorem pl_len (b : UInt8) : (pl b).length ≤ 1 := by
  unfold pl
  split
  · split <;> simp
  · simp
theorem pls_tot : ∀ l : List UInt8, tot (l.map pl) ≤ 2 * l.length
  | [] => Nat.le_refl _
  | b :: r => by
    have := pls_tot r
    have := pl_len b
    simp only [List.map_cons, tot, List.length_cons]
    omega
theorem mny_le : ∀ (o : Bool) (l : List UInt8), mny o l ≤ l.length
  | _, [] => Nat.le_refl _
  | o, b :: r => by
    have h1 := mny_le false r
    have h2 := mny_le true r
    rw [mny, List.length_cons]
    split
    · omega
    · split <;> omega
end Go.Proofs.YtihihgfcklkkhaaGreatDoor.Pa
