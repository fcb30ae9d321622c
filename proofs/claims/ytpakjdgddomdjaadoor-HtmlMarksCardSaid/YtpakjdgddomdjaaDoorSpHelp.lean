/-
  CONTRACTS of the statements' own kind, and of the document's Plain and Same (emendationref07).
-/
import Derived.Test.YtpakjdgddomdjaaDoorSpFew
namespace Go.Proofs.YtpakjdgddomdjaaDoor.Sp
open Go.RowKit
open Go.Proofs.YtpakjdgddomdjaaDoor.Tk (S S_of S_list S_size S_toList S_app ret_int)
open Go.Proofs.YtpakjdgddomdjaaDoor.Cm (calls_at)
set_option linter.unusedVariables false

theorem ret_bool {x y : Bool} (h : x = y) : Ending.returned (.bool x) = Ending.returned (.bool y) := by rw [h]
mutual
/-- Is there a span of a kind, however deep? -/
def kdOne (k : Int) : Sp → Bool
  | .mk q _ l => decide (q = k) || kdAll k l
def kdAll (k : Int) : List Sp → Bool
  | [] => false
  | x :: r => kdOne k x || kdAll k r
end
theorem kdOne_eq (k : Int) (x : Sp) : kdOne k x = (decide (x.kind = k) || kdAll k x.kids) := by obtain ⟨q, s, l⟩ := x; unfold kdOne; rfl
theorem kdAll_cons (k : Int) (x : Sp) (r : List Sp) : kdAll k (x :: r) = (kdOne k x || kdAll k r) := by rw [kdAll]

mutual
/-- What spans read. -/
def plOne : Sp → List UInt8
  | .mk q s l => (if q = 1 ∨ q = 2 then s else []) ++ plAll l
def plAll : List Sp → List UInt8
  | [] => []
  | x :: r => plOne x ++ plAll r
end
theorem plOne_eq (x : Sp) : plOne x = (if x.kind = 1 ∨ x.kind = 2 then x.s else []) ++ plAll x.kids := by obtain ⟨q, s, l⟩ := x; unfold plOne; rfl
theorem plAll_cons (x : Sp) (r : List Sp) : plAll (x :: r) = plOne x ++ plAll r := by rw [plAll]
theorem plAll_app : ∀ l m : List Sp, plAll (l ++ m) = plAll l ++ plAll m
  | [], m => by rw [List.nil_append]; rfl
  | x :: r, m => by rw [List.cons_append, plAll_cons, plAll_cons, plAll_app r m, List.append_assoc]
mutual
theorem plOne_len : ∀ x : Sp, (plOne x).length ≤ totOne x
  | .mk q s l => by
    have := plAll_len l
    unfold plOne totOne
    rw [List.length_append]
    split <;> simp <;> omega
theorem plAll_len : ∀ l : List Sp, (plAll l).length ≤ totAll l
  | [] => by unfold plAll totAll; simp
  | x :: r => by
    have h1 := plOne_len x
    have h2 := plAll_len r
    rw [plAll_cons, totAll_cons, List.length_append]
    omega
end
theorem ret_str {x y : ByteArray} (h : x = y) : Ending.returned (.string x) = Ending.returned (.string y) := by rw [h]

set_option maxHeartbeats 1600000 in
theorem rplain_any (m : Nat) : ∀ (l : List Sp) (v : Value) (w : World), totAll l ≤ m → m ≤ 9000000 → Tr w v l →
    Calls Tryd.prog 17 #[v] w fun e w' => e = .returned (.string (S (plAll l))) ∧ w = w' := by
  induction m using Nat.strongRecOn with
  | ind m ih =>
    intro l v w hm hM ht
    obtain ⟨ao, ca, rfl⟩ := ht.len
    have F := Lib.hid ht.at
    have hlen := ht.short
    have HIH : Hid (∀ k (hk : k < l.length) (v' : Value) (w' : World), Tr w' v' l[k].kids → Calls Tryd.prog 17 #[v'] w' fun e w'' => e = .returned (.string (S (plAll l[k].kids))) ∧ w' = w'') := Lib.hid (fun k hk v' w' ht' => by
      have h := totAll_kids (List.getElem_mem hk)
      exact ih (totAll l[k].kids) (Nat.lt_of_lt_of_le h hm) l[k].kids v' w' (Nat.le_refl _) (by omega) ht')
    have hpl : (plAll l).length ≤ 9000000 := Nat.le_trans (plAll_len l) (Nat.le_trans hm hM)
    have H0 : Hid (plAll l = [] ++ plAll (l.drop 0)) := Lib.hid (by rw [List.drop_zero]; rfl)
    obtain ⟨X, hX⟩ : ∃ X, plAll l = X := ⟨_, rfl⟩
    rw [hX] at H0 hpl
    rw [hX]
    clear ih ht hm hX
    go_enter Tryd.func17, Tryd.ntmps17
    go_wp2_with fail
    go_loop [3, 7] (fun s i => ∃ (k : Nat) (p : List UInt8), k ≤ l.length ∧ i = .int .i64 k ∧ s = .string (S p) ∧ Hid (X = p ++ plAll (l.drop k))) (fun _ i => l.length - (intOf i).toNat)
    case atStart => exact ⟨0, [], Nat.zero_le _, rfl, rfl, H0⟩
    case round =>
      clear H0
      obtain ⟨k, p, hk, rfl, rfl, HN⟩ := hrel
      by_cases hlt : k < l.length
      · have hnx := HN.out
        rw [drop_cons l k hlt, plAll_cons, plOne_eq] at hnx
        have hi1 : (k : Int) < (l.length : Int) := by omega
        obtain ⟨b, o, ak, ck, rfl, hb, hC⟩ := F.out k hlt
        have c0 := hC.kind
        have c1 := hC.s
        have c2 := hC.kids
        have HC := Lib.hid (HIH.out k hlt _ w hC.tr)
        have HQ := Lib.hid hnx
        have hall := congrArg List.length hnx
        simp only [List.length_append] at hall
        clear hnx HN hC
        generalize l[k].kids.length = kn at *
        generalize plAll l[k].kids = y at *
        generalize l[k].kind = z at *
        generalize l[k].s = s at *
        have z1 : (S p).size = p.length := S_size _
        have z2 : (S s).size = s.length := S_size _
        have z3 : (S y).size = y.length := S_size _
        have hap := Lib.hid (S_app p s)
        by_cases hz : z = 1 ∨ z = 2
        · rw [if_pos hz] at hall
          have HQ2 : Hid (X = ((p ++ s) ++ y) ++ plAll (l.drop (k + 1))) := Lib.hid (by rw [HQ.out, if_pos hz]; simp)
          have g1 : ¬ 9223372036854775807 < (S p).size + (S s).size := by omega
          have g2 : ¬ 9223372036854775807 < (S p).size + (S s).size + (S y).size := by omega
          have hap2 := Lib.hid (S_app (p ++ s) y)
          clear HQ hall
          rcases hz with hz | hz
          · have e1 : (z == 1) = true := by rw [hz]; rfl
            clear hz
            go_wp2_with fail
            refine HC.out.mono ?_
            rintro e w1 ⟨rfl, rfl⟩
            clear HC
            go_wp2_with fail
            go_round
            case rel => exact ⟨k + 1, (p ++ s) ++ y, by omega, by go_num, by rw [hap.out, hap2.out], HQ2⟩
            case measure => simp [intOf]; omega
          · have e1 : (z == 1) = false := by rw [hz]; rfl
            have e2 : (z == 2) = true := by rw [hz]; rfl
            clear hz
            go_wp2_with fail
            refine HC.out.mono ?_
            rintro e w1 ⟨rfl, rfl⟩
            clear HC
            go_wp2_with fail
            go_round
            case rel => exact ⟨k + 1, (p ++ s) ++ y, by omega, by go_num, by rw [hap.out, hap2.out], HQ2⟩
            case measure => simp [intOf]; omega
        · rw [if_neg hz] at hall
          have HQ2 : Hid (X = (p ++ y) ++ plAll (l.drop (k + 1))) := Lib.hid (by rw [HQ.out, if_neg hz]; simp)
          have e1 : (z == 1) = false := by rw [beq_eq_false_iff_ne]; omega
          have e2 : (z == 2) = false := by rw [beq_eq_false_iff_ne]; omega
          have g1 : ¬ 9223372036854775807 < (S p).size + (S y).size := by omega
          have hap2 := Lib.hid (S_app p y)
          clear HQ hall hz
          go_wp2_with fail
          refine HC.out.mono ?_
          rintro e w1 ⟨rfl, rfl⟩
          clear HC
          go_wp2_with fail
          go_round
          case rel => exact ⟨k + 1, p ++ y, by omega, by go_num, by rw [hap2.out], HQ2⟩
          case measure => simp [intOf]; omega
      · obtain rfl : k = l.length := by omega
        have hnx := HN.out
        rw [List.drop_length] at hnx
        have HQ : Hid (X = p) := Lib.hid (by rw [hnx]; unfold plAll; simp)
        clear hnx HN hlt
        go_wp2_with fail
        go_ret
        exact ⟨ret_str (by rw [HQ.out]), rfl⟩

end Go.Proofs.YtpakjdgddomdjaaDoor.Sp
