/-
  CONTRACT of the document's Deep (emendationref10).
-/
import Derived.Test.YtpenjdnbnacebaaDoorBtCount
namespace Go.Proofs.YtpenjdnbnacebaaDoor.Bt
open Go.RowKit
open Go.Proofs.YtpenjdnbnacebaaDoor.Tk (S S_of S_list S_size ret_int)
open Go.Proofs.YtpenjdnbnacebaaDoor.Cm (calls_at)
open Go.Proofs.YtpenjdnbnacebaaDoor.Bk (Bk)
set_option linter.unusedVariables false

/-- Is it a container? -/
def boxB (k : Int) : Bool := decide (k = 5) || decide (k = 6) || decide (k = 7)
mutual
/-- As the machine counts. -/
def dpOne (n : Int) : Bk → Int
  | .mk k _ _ _ _ l => if boxB k = true then max n (IntKind.i64.wrap (1 + dpAll 0 l)) else max n (dpAll 0 l)
def dpAll (n : Int) : List Bk → Int
  | [] => n
  | x :: r => dpAll (dpOne n x) r
end
def dp (l : List Bk) : Int := dpAll 0 l
theorem dpAll_cons (n : Int) (x : Bk) (r : List Bk) : dpAll n (x :: r) = dpAll (if boxB x.kind = true then max n (IntKind.i64.wrap (1 + dp x.kids)) else max n (dp x.kids)) r := by
  obtain ⟨k, lv, i, ls, ss, l⟩ := x
  rw [dpAll, dpOne]
  rfl

set_option maxHeartbeats 3200000 in
set_option maxRecDepth 100000 in
theorem rdeep_any (m : Nat) : ∀ (l : List Bk) (v : Value) (w : World), szAll l ≤ m → TrB w v l →
    Calls Tryd.prog 46 #[v] w fun e w' => e = .returned (.int .i64 (dp l)) ∧ w = w' := by
  induction m using Nat.strongRecOn with
  | ind m ih =>
    intro l v w hm ht
    obtain ⟨ao, ca, rfl⟩ := ht.len
    have F := Lib.hid ht.at
    have hlen := ht.short
    have HIH : Hid (∀ k (hk : k < l.length) (v' : Value) (w' : World), TrB w' v' l[k].kids →
        Calls Tryd.prog 46 #[v'] w' fun e w'' => e = .returned (.int .i64 (dp l[k].kids)) ∧ w' = w'') := Lib.hid (fun k hk v' w' ht' =>
      ih (szAll l[k].kids) (Nat.lt_of_lt_of_le (szAll_kids (List.getElem_mem hk)) hm) l[k].kids v' w' (Nat.le_refl _) ht')
    have H0 : Hid (dp l = dpAll 0 (l.drop 0)) := Lib.hid (by rw [List.drop_zero]; rfl)
    obtain ⟨X, hX⟩ : ∃ X, dp l = X := ⟨_, rfl⟩
    rw [hX] at H0
    rw [hX]
    clear ih ht hm hX
    go_enter Tryd.func46, Tryd.ntmps46
    go_wp2_with fail
    go_loop [3, 8] (fun s i => ∃ (k : Nat) (n : Int), k ≤ l.length ∧ i = .int .i64 k ∧ s = .int .i64 n ∧ Hid (X = dpAll n (l.drop k))) (fun _ i => l.length - (intOf i).toNat)
    case atStart => exact ⟨0, 0, Nat.zero_le _, rfl, rfl, H0⟩
    case round =>
      clear H0
      obtain ⟨k, n, hk, rfl, rfl, HN⟩ := hrel
      by_cases hlt : k < l.length
      · have hnx := HN.out
        rw [drop_cons l k hlt, dpAll_cons] at hnx
        have hi1 : (k : Int) < (l.length : Int) := by omega
        obtain ⟨b, o, vl, vs, ak, ck, rfl, hb, hC⟩ := F.out k hlt
        have c0 := hC.kind
        have c5 := hC.kids
        have HC := Lib.hid (HIH.out k hlt _ w hC.tr)
        have HQ := Lib.hid hnx
        clear hnx HN hC
        generalize dp l[k].kids = z at *
        generalize l[k].kids.length = kn at *
        generalize l[k].kind = q at *
        obtain ⟨z1, hz1⟩ : ∃ z1, IntKind.i64.wrap (1 + z) = z1 := ⟨_, rfl⟩
        rw [hz1] at HQ
        by_cases q5 : q = 5
        · have f5 : (q == 5) = true := by rw [q5]; rfl
          have HR : Hid (X = dpAll (max n z1) (l.drop (k + 1))) := Lib.hid (by rw [HQ.out, show boxB q = true by rw [q5]; rfl, if_pos rfl])
          clear HQ q5
          go_wp2_with fail
          refine HC.out.mono ?_
          rintro e w1 ⟨rfl, rfl⟩
          clear HC
          go_wp2_with fail
          go_round
          case rel => exact ⟨k + 1, max n z1, by omega, by go_num, rfl, HR⟩
          case measure => simp [intOf]; omega
        · have f5 : (q == 5) = false := beq_eq_false_iff_ne.2 q5
          by_cases q6 : q = 6
          · have f6 : (q == 6) = true := by rw [q6]; rfl
            have HR : Hid (X = dpAll (max n z1) (l.drop (k + 1))) := Lib.hid (by rw [HQ.out, show boxB q = true by rw [q6]; rfl, if_pos rfl])
            clear HQ q5 q6
            go_wp2_with fail
            refine HC.out.mono ?_
            rintro e w1 ⟨rfl, rfl⟩
            clear HC
            go_wp2_with fail
            go_round
            case rel => exact ⟨k + 1, max n z1, by omega, by go_num, rfl, HR⟩
            case measure => simp [intOf]; omega
          · have f6 : (q == 6) = false := beq_eq_false_iff_ne.2 q6
            by_cases q7 : q = 7
            · have f7 : (q == 7) = true := by rw [q7]; rfl
              have HR : Hid (X = dpAll (max n z1) (l.drop (k + 1))) := Lib.hid (by rw [HQ.out, show boxB q = true by rw [q7]; rfl, if_pos rfl])
              clear HQ q5 q6 q7
              go_wp2_with fail
              refine HC.out.mono ?_
              rintro e w1 ⟨rfl, rfl⟩
              clear HC
              go_wp2_with fail
              go_round
              case rel => exact ⟨k + 1, max n z1, by omega, by go_num, rfl, HR⟩
              case measure => simp [intOf]; omega
            · have f7 : (q == 7) = false := beq_eq_false_iff_ne.2 q7
              have HR : Hid (X = dpAll (max n z) (l.drop (k + 1))) := Lib.hid (by rw [HQ.out, show boxB q = false by unfold boxB; rw [decide_eq_false q5, decide_eq_false q6, decide_eq_false q7]; rfl, if_neg (by decide)])
              clear HQ q5 q6 q7
              go_wp2_with fail
              refine HC.out.mono ?_
              rintro e w1 ⟨rfl, rfl⟩
              clear HC
              go_wp2_with fail
              go_round
              case rel => exact ⟨k + 1, max n z, by omega, by go_num, rfl, HR⟩
              case measure => simp [intOf]; omega
      · obtain rfl : k = l.length := by omega
        have hnx := HN.out
        rw [List.drop_length] at hnx
        have HQ : Hid (X = n) := Lib.hid (by rw [hnx]; unfold dpAll; rfl)
        clear hnx HN hlt
        go_wp2_with fail
        go_ret
        exact ⟨ret_int (by rw [HQ.out]), rfl⟩

end Go.Proofs.YtpenjdnbnacebaaDoor.Bt
