import Derived.Test.YthpnbialpkkpgaaGreatDoorPkQ
import Derived.Test.YthpnbialpkkpgaaGreatDoorPkG
import Derived.Test.YthpnbialpkkpgaaGreatDoorPkU
import Derived.Test.YthpnbialpkkpgaaGreatDoorPkX
import Derived.Test.YthpnbialpkkpgaaGreatDoorPkV
import Derived.Test.YthpnbialpkkpgaaGreatDoorPkAC
namespace Go.Proofs.YthpnbialpkkpgaaGreatDoor.Sp
open Go.Proofs.YthpnbialpkkpgaaGreatDoor.Tk (S S_of S_list S_size S_toList S_app cls at_data len_data)
open Go.Proofs.YthpnbialpkkpgaaGreatDoor.Utf (chk chk_zero_iff zeroB)
set_option linter.unusedVariables false
end Go.Proofs.YthpnbialpkkpgaaGreatDoor.Sp
namespace Go.Proofs.YthpnbialpkkpgaaGreatDoor.Pa
open Go.Proofs.YthpnbialpkkpgaaGreatDoor.Bk (Tx Bk Env fenceL spanK itemL dropBlank listL items kindOf closes unquote unitem inner define parse joinLF)
open Go.Proofs.YthpnbialpkkpgaaGreatDoor.Ln (run mx trim)
open Go.Proofs.YthpnbialpkkpgaaGreatDoor.Kd (E0)
set_option linter.unusedVariables false
end Go.Proofs.YthpnbialpkkpgaaGreatDoor.Pa
namespace Go.Proofs.YthpnbialpkkpgaaGreatDoor.Pa
open Go.Proofs.YthpnbialpkkpgaaGreatDoor.Tk (S S_list S_size)
open Go.Proofs.YthpnbialpkkpgaaGreatDoor.Sp (Sp Rdr)
open Go.Proofs.YthpnbialpkkpgaaGreatDoor.Bt (fitAll fitOne fitOne_eq ttAll ttOne ttOne_eq ttAll_cons lnTot)
open Go.Proofs.YthpnbialpkkpgaaGreatDoor.Bk (Tx Bk Env fenceL spanK itemL dropBlank listL items kindOf closes unquote unitem inner define parse joinLF)
open Go.Proofs.YthpnbialpkkpgaaGreatDoor.Ln (run mx trim)
open Go.Proofs.YthpnbialpkkpgaaGreatDoor.Kd (E0)
set_option linter.unusedVariables false
end Go.Proofs.YthpnbialpkkpgaaGreatDoor.Pa
namespace Go.Proofs.YthpnbialpkkpgaaGreatDoor.Bt
open Go.Proofs.YthpnbialpkkpgaaGreatDoor.Sp (Sp)
open Go.Proofs.YthpnbialpkkpgaaGreatDoor.Bk (Bk)
set_option linter.unusedVariables false
mutual
theorem dpOne_ge (n : Int) : ∀ x : Bk, n ≤ dpOne n x
  | .mk k lv i ls ss l => by
    rw [dpOne]
    split <;> omega
theorem dpAll_ge (n : Int) : ∀ l : List Bk, n ≤ dpAll n l
  | [] => by rw [dpAll]; omega
  | x :: r => by
    rw [dpAll]
    have h1 := dpOne_ge n x
    have h2 := dpAll_ge (dpOne n x) r
    omega
end
theorem dp_ge (l : List Bk) : 0 ≤ dp l := dpAll_ge 0 l
theorem rg_parts {l : List Bk} (h : rgB l = true) : allB false 0 l = true ∧ dp l ≤ 16 := by
  unfold rgB at h
  rw [Bool.and_eq_true, decide_eq_true_iff] at h
  exact h
theorem ttAll_app : ∀ a b : List Bk, ttAll (a ++ b) = ttAll a + ttAll b
  | [], b => by rw [List.nil_append, ttAll]; omega
  | x :: a, b => by rw [List.cons_append, ttAll_cons, ttAll_cons, ttAll_app a b]; omega
mutual
theorem sz1_tt : ∀ x : Bk, szOne x ≤ ttOne x
  | .mk k lv i ls ss l => by
    have := sz_tt l
    rw [szOne, ttOne]
    omega
theorem sz_tt : ∀ l : List Bk, szAll l ≤ ttAll l
  | [] => by rw [szAll]; omega
  | x :: r => by
    have h1 := sz1_tt x
    have h2 := sz_tt r
    rw [szAll, ttAll]
    omega
end
theorem dpAll_app : ∀ (a b : List Bk) (n : Int), dpAll n (a ++ b) = dpAll (dpAll n a) b
  | [], b, n => by rw [List.nil_append, dpAll.eq_1]
  | x :: a, b, n => by rw [List.cons_append, dpAll_cons, dpAll_cons, dpAll_app a b]
theorem dpAll_max : ∀ (l : List Bk) (n m : Int), dpAll (max n m) l = max n (dpAll m l)
  | [], n, m => by rw [dpAll, dpAll]
  | x :: r, n, m => by
    rw [dpAll_cons, dpAll_cons]
    split
    · rw [show max (max n m) (IntKind.i64.wrap (1 + dp x.kids)) = max n (max m (IntKind.i64.wrap (1 + dp x.kids))) by omega, dpAll_max r]
    · rw [show max (max n m) (dp x.kids) = max n (max m (dp x.kids)) by omega, dpAll_max r]
theorem dp_app (a b : List Bk) : dp (a ++ b) = max (dp a) (dp b) := by
  have h0 := dp_ge a
  unfold dp
  rw [dpAll_app]
  have := dpAll_max b (dpAll 0 a) 0
  rw [show max (dpAll 0 a) 0 = dpAll 0 a by have : 0 ≤ dpAll 0 a := h0; omega] at this
  exact this
end Go.Proofs.YthpnbialpkkpgaaGreatDoor.Bt
namespace Go.Proofs.YthpnbialpkkpgaaGreatDoor.Pa
open Go.Proofs.YthpnbialpkkpgaaGreatDoor.Tk (S S_list S_size)
open Go.Proofs.YthpnbialpkkpgaaGreatDoor.Sp (Sp Rdr Wt Wt_app Wt_tail Wt_nil rtB txB edB spB hsB plAll)
open Go.Proofs.YthpnbialpkkpgaaGreatDoor.Bt (allB oneB rgB lineB labB infB ckB tgB dp dpAll dpOne boxB dpAll_cons allB_cons)
open Go.Proofs.YthpnbialpkkpgaaGreatDoor.Bk (Tx Bk Env fenceL spanK itemL dropBlank listL items kindOf closes unquote unitem inner define parse joinLF)
open Go.Proofs.YthpnbialpkkpgaaGreatDoor.Ln (run mx trim dl dr gapB)
open Go.Proofs.YthpnbialpkkpgaaGreatDoor.Kd (E0)
set_option linter.unusedVariables false
def Lt (s : Tx) : Prop := Wt s ∧ (10 : UInt8) ∉ s
structure Tr1 (s : Tx) : Prop where
  lt : Lt s
  ne : s ≠ []
  hd : ∀ b, s.head? = some b → gapB b = false
  la : ∀ b, s.getLast? = some b → gapB b = false
structure Jn (z : Tx) : Prop where
  wt : Wt z
  tx : txB z = true
  ne : z ≠ []
  hd : ∀ b, z.head? = some b → gapB b = false ∧ b ≠ 10
  la : ∀ b, z.getLast? = some b → gapB b = false ∧ b ≠ 10
end Go.Proofs.YthpnbialpkkpgaaGreatDoor.Pa
namespace Go.Proofs.YthpnbialpkkpgaaGreatDoor.Pa
open Go.Proofs.YthpnbialpkkpgaaGreatDoor.Tk (S S_list S_size)
open Go.Proofs.YthpnbialpkkpgaaGreatDoor.Sp (Sp rtB hsB dsB plAll)
open Go.Proofs.YthpnbialpkkpgaaGreatDoor.Bt (allB oneB rgB lineB labB infB ckB tgB dp dpAll dpOne boxB dpAll_cons allB_cons)
open Go.Proofs.YthpnbialpkkpgaaGreatDoor.Bk (Tx Bk Env fenceL spanK itemL dropBlank listL items kindOf closes unquote unitem inner define parse joinLF)
open Go.Proofs.YthpnbialpkkpgaaGreatDoor.Ln (run mx trim)
open Go.Proofs.YthpnbialpkkpgaaGreatDoor.Kd (E0)
set_option linter.unusedVariables false
end Go.Proofs.YthpnbialpkkpgaaGreatDoor.Pa
namespace Go.Proofs.YthpnbialpkkpgaaGreatDoor.Pa
open Go.Proofs.YthpnbialpkkpgaaGreatDoor.Tk (S S_list S_size)
open Go.Proofs.YthpnbialpkkpgaaGreatDoor.Sp (Sp V V_cut Wt)
open Go.Proofs.YthpnbialpkkpgaaGreatDoor.Bt (fitAll fitOne fitOne_eq)
open Go.Proofs.YthpnbialpkkpgaaGreatDoor.Bk (Tx Bk fenceL spanK items kindOf define parse joinLF)
open Go.Proofs.YthpnbialpkkpgaaGreatDoor.Ln (run trim)
open Go.Proofs.YthpnbialpkkpgaaGreatDoor.Kd (E0)
open Go.Proofs.YthpnbialpkkpgaaGreatDoor.Utf (chk)
set_option linter.unusedVariables false
theorem strip_lt {cur : Tx} (hv : V cur) (h0 : (0 : UInt8) ∉ cur) (h10 : (10 : UInt8) ∉ cur) (h13 : (13 : UInt8) ∉ cur ∨ ∃ c, cur = c ++ [13] ∧ (13 : UInt8) ∉ c) : Lt (Ln.strip cur) := by
  rcases h13 with h | ⟨c, rfl, h⟩
  · rw [Ln.strip_id cur h]
    exact ⟨⟨hv, h0, h⟩, h10⟩
  · rw [Ln.strip_snoc]
    exact ⟨⟨(V_cut (c := 13) (by decide) c.length c [] (Nat.le_refl _) hv).1, fun hm => h0 (List.mem_append_left _ hm), h⟩, fun hm => h10 (List.mem_append_left _ hm)⟩
theorem ls_lt : ∀ (r cur : Tx), V (cur ++ r) → (0 : UInt8) ∉ cur ++ r → (10 : UInt8) ∉ cur → ((13 : UInt8) ∉ cur ∨ ∃ c, cur = c ++ [13] ∧ (13 : UInt8) ∉ c ∧ r.head? = some 10) → ∀ x ∈ (Ln.ls cur r).1, Lt x
  | [], cur, hv, h0, h10, h13, x, hx => by
    have h : (13 : UInt8) ∉ cur := by
      rcases h13 with h | ⟨c, _, _, h⟩
      · exact h
      · cases h
    rw [List.append_nil] at hv h0
    unfold Ln.ls at hx
    split at hx
    · cases hx
    · rw [List.mem_singleton] at hx
      subst hx
      exact ⟨⟨hv, h0, h⟩, h10⟩
  | b :: r, cur, hv, h0, h10, h13, x, hx => by
    by_cases hb : b = 10
    · subst hb
      obtain ⟨v1, v2⟩ := V_cut (c := 10) (by decide) cur.length cur r (Nat.le_refl _) hv
      rw [Ln.ls_lf] at hx
      rcases List.mem_cons.1 hx with rfl | hx
      · exact strip_lt v1 (fun hm => h0 (List.mem_append_left _ hm)) h10 (h13.imp id (fun ⟨c, e, h, _⟩ => ⟨c, e, h⟩))
      · exact ls_lt r [] (by simpa using v2) (fun hm => h0 (List.mem_append_right _ (List.mem_cons_of_mem _ (by simpa using hm)))) (by simp) (Or.inl (by simp)) x hx
    · have h13' : (13 : UInt8) ∉ cur := by
        rcases h13 with h | ⟨c, _, _, h⟩
        · exact h
        · exact absurd (by simpa using h) hb
      by_cases hc : b = 13 ∧ r.head? ≠ some 10
      · obtain ⟨rfl, hc⟩ := hc
        obtain ⟨v1, v2⟩ := V_cut (c := 13) (by decide) cur.length cur r (Nat.le_refl _) hv
        rw [Ln.ls_cr _ _ hc] at hx
        rcases List.mem_cons.1 hx with rfl | hx
        · exact ⟨⟨v1, fun hm => h0 (List.mem_append_left _ hm), h13'⟩, h10⟩
        · exact ls_lt r [] (by simpa using v2) (fun hm => h0 (List.mem_append_right _ (List.mem_cons_of_mem _ (by simpa using hm)))) (by simp) (Or.inl (by simp)) x hx
      · have he : Ln.ls cur (b :: r) = Ln.ls (cur ++ [b]) r := by rw [Ln.ls, if_neg hb, if_neg hc]
        rw [he] at hx
        have happ : cur ++ [b] ++ r = cur ++ b :: r := by rw [List.append_assoc]; rfl
        refine ls_lt r (cur ++ [b]) (by rw [happ]; exact hv) (by rw [happ]; exact h0) (fun hm => ?_) ?_ x hx
        · rcases List.mem_append.1 hm with hm | hm
          · exact h10 hm
          · rw [List.mem_singleton] at hm; exact hb hm.symm
        · by_cases hb13 : b = 13
          · subst hb13
            exact Or.inr ⟨cur, rfl, h13', by
              by_cases h : r.head? = some 10
              · exact h
              · exact absurd ⟨rfl, h⟩ hc⟩
          · exact Or.inl (fun hm => by
              rcases List.mem_append.1 hm with hm | hm
              · exact h13' hm
              · rw [List.mem_singleton] at hm; exact hb13 hm.symm)
end Go.Proofs.YthpnbialpkkpgaaGreatDoor.Pa
