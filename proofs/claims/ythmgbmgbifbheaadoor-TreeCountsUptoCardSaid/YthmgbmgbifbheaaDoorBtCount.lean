/-
  CONTRACTS of the document's Count and Deep (emendationref10).
-/
import Derived.Test.YthmgbmgbifbheaaDoorBtTree
import Derived.Test.YthmgbmgbifbheaaDoorPkB
namespace Go.Proofs.YthmgbmgbifbheaaDoor.Bt
open Go.RowKit
open Go.Proofs.YthmgbmgbifbheaaDoor.Tk (S S_of S_list S_size ret_int)
open Go.Proofs.YthmgbmgbifbheaaDoor.Cm (calls_at)
open Go.Proofs.YthmgbmgbifbheaaDoor.Bk (Bk)
set_option linter.unusedVariables false

mutual
/-- How much there is: for inductions alone. -/
def szOne : Bk → Nat
  | .mk _ _ _ _ _ l => 1 + szAll l
def szAll : List Bk → Nat
  | [] => 0
  | x :: r => szOne x + szAll r
end
theorem szOne_eq (x : Bk) : szOne x = 1 + szAll x.kids := by obtain ⟨k, lv, i, ls, ss, l⟩ := x; rw [szOne]; rfl
theorem szAll_cons (x : Bk) (r : List Bk) : szAll (x :: r) = szOne x + szAll r := by rw [szAll]
theorem szAll_mem : ∀ {l : List Bk} {x : Bk}, x ∈ l → szOne x ≤ szAll l
  | [], x, h => by cases h
  | y :: r, x, h => by
    rw [szAll_cons]
    rcases List.mem_cons.1 h with rfl | h
    · omega
    · have := szAll_mem h; omega
theorem szAll_kids {l : List Bk} {x : Bk} (h : x ∈ l) : szAll x.kids < szAll l := by
  have h1 := szAll_mem h
  rw [szOne_eq] at h1
  omega
theorem szAll_app : ∀ l m : List Bk, szAll (l ++ m) = szAll l + szAll m
  | [], m => by rw [List.nil_append, szAll]; omega
  | x :: r, m => by rw [List.cons_append, szAll_cons, szAll_cons, szAll_app r m]; omega
theorem szAll_len : ∀ l : List Bk, l.length ≤ szAll l
  | [] => Nat.zero_le _
  | x :: r => by
    have := szAll_len r
    rw [szAll_cons, szOne_eq, List.length_cons]
    omega
theorem drop_cons (l : List Bk) (k : Nat) (h : k < l.length) : l.drop k = l[k] :: l.drop (k + 1) := List.drop_eq_getElem_cons h

/-! All blocks. -/
mutual
/-- As the machine counts. -/
def cntAll (n : Int) : List Bk → Int
  | [] => n
  | x :: r => cntAll (cntOne n x) r
def cntOne (n : Int) : Bk → Int
  | .mk _ _ _ _ _ l => IntKind.i64.wrap (n + cntAll (l.length : Int) l)
end
def cnt (l : List Bk) : Int := cntAll (l.length : Int) l
theorem cntAll_cons (n : Int) (x : Bk) (r : List Bk) : cntAll n (x :: r) = cntAll (IntKind.i64.wrap (n + cnt x.kids)) r := by
  obtain ⟨k, lv, i, ls, ss, l⟩ := x
  rw [cntAll, cntOne]
  rfl

set_option maxHeartbeats 3200000 in
set_option maxRecDepth 100000 in
theorem rcount_any (m : Nat) : ∀ (l : List Bk) (v : Value) (w : World), szAll l ≤ m → TrB w v l →
    Calls Tryd.prog 16 #[v] w fun e w' => e = .returned (.int .i64 (cnt l)) ∧ w = w' := by
  induction m using Nat.strongRecOn with
  | ind m ih =>
    intro l v w hm ht
    obtain ⟨ao, ca, rfl⟩ := ht.len
    have F := Lib.hid ht.at
    have hlen := ht.short
    have HIH : Hid (∀ k (hk : k < l.length) (v' : Value) (w' : World), TrB w' v' l[k].kids →
        Calls Tryd.prog 16 #[v'] w' fun e w'' => e = .returned (.int .i64 (cnt l[k].kids)) ∧ w' = w'') := Lib.hid (fun k hk v' w' ht' =>
      ih (szAll l[k].kids) (Nat.lt_of_lt_of_le (szAll_kids (List.getElem_mem hk)) hm) l[k].kids v' w' (Nat.le_refl _) ht')
    have H0 : Hid (cnt l = cntAll (l.length : Int) (l.drop 0)) := Lib.hid (by rw [List.drop_zero]; rfl)
    obtain ⟨X, hX⟩ : ∃ X, cnt l = X := ⟨_, rfl⟩
    rw [hX] at H0
    rw [hX]
    clear ih ht hm hX
    go_enter Tryd.func16, Tryd.ntmps16
    go_wp2_with fail
    go_loop [3, 9] (fun s i => ∃ (k : Nat) (n : Int), k ≤ l.length ∧ i = .int .i64 k ∧ s = .int .i64 n ∧ Hid (X = cntAll n (l.drop k))) (fun _ i => l.length - (intOf i).toNat)
    case atStart => exact ⟨0, l.length, Nat.zero_le _, rfl, rfl, H0⟩
    case round =>
      clear H0
      obtain ⟨k, n, hk, rfl, rfl, HN⟩ := hrel
      by_cases hlt : k < l.length
      · have hnx := HN.out
        rw [drop_cons l k hlt, cntAll_cons] at hnx
        have hi1 : (k : Int) < (l.length : Int) := by omega
        obtain ⟨b, o, vl, vs, ak, ck, rfl, hb, hC⟩ := F.out k hlt
        have c5 := hC.kids
        have HC := Lib.hid (HIH.out k hlt _ w hC.tr)
        have HQ := Lib.hid hnx
        clear hnx HN hC
        generalize cnt l[k].kids = z at *
        generalize l[k].kids.length = kn at *
        obtain ⟨nz, hnz⟩ : ∃ nz, IntKind.i64.wrap (n + z) = nz := ⟨_, rfl⟩
        rw [hnz] at HQ
        go_wp2_with fail
        refine HC.out.mono ?_
        rintro e w1 ⟨rfl, rfl⟩
        clear HC
        go_wp2_with fail
        go_round
        case rel => exact ⟨k + 1, nz, by omega, by go_num, rfl, HQ⟩
        case measure => simp [intOf]; omega
      · obtain rfl : k = l.length := by omega
        have hnx := HN.out
        rw [List.drop_length] at hnx
        have HQ : Hid (X = n) := Lib.hid (by rw [hnx]; unfold cntAll; rfl)
        clear hnx HN hlt
        go_wp2_with fail
        go_ret
        exact ⟨ret_int (by rw [HQ.out]), rfl⟩

end Go.Proofs.YthmgbmgbifbheaaDoor.Bt
