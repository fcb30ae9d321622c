import Derived.Test.YtihihgfcklkkhaaGreatDoorPkV
import Derived.Test.YtihihgfcklkkhaaGreatDoorPkB
namespace Go.Proofs.YtihihgfcklkkhaaGreatDoor.Bt
open Go.RowKit
open Go.Proofs.YtihihgfcklkkhaaGreatDoor.Tk (S S_of S_list S_size ret_int)
open Go.Proofs.YtihihgfcklkkhaaGreatDoor.Cm (calls_at alloc_new cell_at)
open Go.Proofs.YtihihgfcklkkhaaGreatDoor.Sp (ret_bool)
open Go.Proofs.YtihihgfcklkkhaaGreatDoor.Bk (Bk)
set_option linter.unusedVariables false
def NumP (w : World) (n : Int) (e : Ending) (w' : World) : Prop := e = .returned (.int .i64 n) ∧ Below w.heap.size w w'
theorem containsP_any (q : Int) (w : World) :
    Calls Tryz.prog 43 #[.int .i64 q] w fun e w' => e = .returned (.bool (boxB q)) ∧ w = w' := by
  have HX : Hid (boxB q = (decide (q = 5) || decide (q = 6) || decide (q = 7))) := Lib.hid rfl
  generalize boxB q = X at *
  by_cases q5 : q = 5
  · have f5 : (q == 5) = true := by rw [q5]; rfl
    have HR : Hid (X = true) := Lib.hid (by rw [HX.out, decide_eq_true q5]; rfl)
    clear HX q5
    go_enter Tryz.func43, Tryz.ntmps43
    go_wp2_with fail
    go_ret
    exact ⟨ret_bool HR.out.symm, rfl⟩
  · have f5 : (q == 5) = false := beq_eq_false_iff_ne.2 q5
    by_cases q6 : q = 6
    · have f6 : (q == 6) = true := by rw [q6]; rfl
      have HR : Hid (X = true) := Lib.hid (by rw [HX.out, decide_eq_true q6]; simp)
      clear HX q5 q6
      go_enter Tryz.func43, Tryz.ntmps43
      go_wp2_with fail
      go_ret
      exact ⟨ret_bool HR.out.symm, rfl⟩
    · have f6 : (q == 6) = false := beq_eq_false_iff_ne.2 q6
      obtain ⟨y, hy⟩ : ∃ y, decide (q = 7) = y := ⟨_, rfl⟩
      have f7 : (q == 7) = y := by rw [← hy]; rfl
      have HR : Hid (X = y) := Lib.hid (by rw [HX.out, decide_eq_false q5, decide_eq_false q6, hy]; rfl)
      clear HX q5 q6 hy
      go_enter Tryz.func43, Tryz.ntmps43
      go_wp2_with fail
      go_ret
      exact ⟨ret_bool HR.out.symm, rfl⟩
set_option maxHeartbeats 3200000 in
set_option maxRecDepth 100000 in
theorem countP_any (m : Nat) : ∀ (l : List Bk) (v : Value) (w : World), szAll l ≤ m → TrB w v l →
    Calls Tryz.prog 23 #[v] w (NumP w (cnt l)) := by
  induction m using Nat.strongRecOn with
  | ind m ih =>
    intro l v w hm ht
    obtain ⟨ao, ca, rfl⟩ := ht.len
    have HT := Lib.hid ht
    have hlen := ht.short
    have HIH : Hid (∀ k (hk : k < l.length) (v' : Value) (w' : World), TrB w' v' l[k].kids →
        Calls Tryz.prog 23 #[v'] w' (NumP w' (cnt l[k].kids))) := Lib.hid (fun k hk v' w' ht' =>
      ih (szAll l[k].kids) (Nat.lt_of_lt_of_le (szAll_kids (List.getElem_mem hk)) hm) l[k].kids v' w' (Nat.le_refl _) ht')
    have H0 : Hid (cnt l = cntAll (l.length : Int) (l.drop 0)) := Lib.hid (by rw [List.drop_zero]; rfl)
    obtain ⟨X, hX⟩ : ∃ X, cnt l = X := ⟨_, rfl⟩
    rw [hX] at H0
    rw [hX]
    clear ih ht hm hX
    go_enter Tryz.func23, Tryz.ntmps23
    go_wp2_with fail
    go_loopw [3, 10] (fun s i wr => ∃ (k : Nat) (n : Int), k ≤ l.length ∧ i = .int .i64 k ∧ s = .int .i64 n ∧ Hid (Below w.heap.size w wr) ∧ Hid (X = cntAll n (l.drop k))) (fun _ i _ => l.length - (intOf i).toNat)
    case atStart => exact ⟨0, l.length, Nat.zero_le _, rfl, rfl, Lib.hid (Below.refl _ _), H0⟩
    case round =>
      clear H0
      obtain ⟨k, n, hk, rfl, rfl, HB, HN⟩ := hrel
      by_cases hlt : k < l.length
      · have hnx := HN.out
        rw [drop_cons l k hlt, cntAll_cons] at hnx
        have hi1 : (k : Int) < (l.length : Int) := by omega
        obtain ⟨b, o, vl, vs, ak, ck, rfl, hb, hC⟩ := (HT.out.below HB.out).at k hlt
        obtain ⟨al, cl, rfl⟩ := hC.rd.len
        obtain ⟨as', cs, rfl⟩ := hC.sp.len
        have c0 := hC.kind
        have c1 := hC.level
        have c2 := hC.info
        have c3 := hC.lines
        have c4 := hC.spans
        have c5 := hC.kids
        have HC := Lib.hid (fun w' (h : Below wr.heap.size wr w') => HIH.out k hlt _ w' (hC.tr.below h))
        have HQ := Lib.hid hnx
        clear hnx HN hC
        generalize cnt l[k].kids = z at *
        generalize l[k].kids.length = kn at *
        generalize l[k].lines.length = ln at *
        generalize l[k].spans.length = sn at *
        generalize l[k].kind = q at *
        generalize l[k].level = lv at *
        generalize S l[k].info = si at *
        obtain ⟨nz, hnz⟩ : ∃ nz, IntKind.i64.wrap (n + z) = nz := ⟨_, rfl⟩
        rw [hnz] at HQ
        have B1 : Below wr.heap.size wr (wr.alloc (.cells #[.int .i64 q, .int .i64 lv, .string si, .slice al ln cl, .slice as' sn cs, .slice ak kn ck] 42)) := (Below.refl _ _).alloc (Nat.le_refl _) _
        have HC1 := Lib.hid (HC.out _ B1)
        have HB1 := Lib.hid (HB.out.trans (B1.mono HB.out.size))
        clear HC B1
        go_wp2_with fail
        refine HC1.out.mono ?_
        rintro e w1 ⟨rfl, b1⟩
        have HB2 := Lib.hid (HB1.out.trans (b1.mono HB1.out.size))
        clear HC1 b1
        go_wp2_with fail
        go_roundw
        case rel => exact ⟨k + 1, nz, by omega, by go_num, rfl, HB2, HQ⟩
        case measure => simp [intOf] <;> omega
      · obtain rfl : k = l.length := by omega
        have hnx := HN.out
        rw [List.drop_length] at hnx
        have HQ : Hid (X = n) := Lib.hid (by rw [hnx]; unfold cntAll; rfl)
        clear hnx HN hlt
        go_wp2_with fail
        go_ret
        exact ⟨ret_int (by rw [HQ.out]), HB.out⟩
set_option maxHeartbeats 3200000 in
set_option maxRecDepth 100000 in
theorem deepP_any (m : Nat) : ∀ (l : List Bk) (v : Value) (w : World), szAll l ≤ m → TrB w v l →
    Calls Tryz.prog 22 #[v] w (NumP w (dp l)) := by
  induction m using Nat.strongRecOn with
  | ind m ih =>
    intro l v w hm ht
    obtain ⟨ao, ca, rfl⟩ := ht.len
    have HT := Lib.hid ht
    have hlen := ht.short
    have HIH : Hid (∀ k (hk : k < l.length) (v' : Value) (w' : World), TrB w' v' l[k].kids →
        Calls Tryz.prog 22 #[v'] w' (NumP w' (dp l[k].kids))) := Lib.hid (fun k hk v' w' ht' =>
      ih (szAll l[k].kids) (Nat.lt_of_lt_of_le (szAll_kids (List.getElem_mem hk)) hm) l[k].kids v' w' (Nat.le_refl _) ht')
    have H0 : Hid (dp l = dpAll 0 (l.drop 0)) := Lib.hid (by rw [List.drop_zero]; rfl)
    have HCt := Lib.hid containsP_any
    obtain ⟨X, hX⟩ : ∃ X, dp l = X := ⟨_, rfl⟩
    rw [hX] at H0
    rw [hX]
    clear ih ht hm hX
    go_enter Tryz.func22, Tryz.ntmps22
    go_wp2_with fail
    go_loopw [3, 9] (fun s i wr => ∃ (k : Nat) (n : Int), k ≤ l.length ∧ i = .int .i64 k ∧ s = .int .i64 n ∧ Hid (Below w.heap.size w wr) ∧ Hid (X = dpAll n (l.drop k))) (fun _ i _ => l.length - (intOf i).toNat)
    case atStart => exact ⟨0, 0, Nat.zero_le _, rfl, rfl, Lib.hid (Below.refl _ _), H0⟩
    case round =>
      clear H0
      obtain ⟨k, n, hk, rfl, rfl, HB, HN⟩ := hrel
      by_cases hlt : k < l.length
      · have hnx := HN.out
        rw [drop_cons l k hlt, dpAll_cons] at hnx
        have hi1 : (k : Int) < (l.length : Int) := by omega
        obtain ⟨b, o, vl, vs, ak, ck, rfl, hb, hC⟩ := (HT.out.below HB.out).at k hlt
        obtain ⟨al, cl, rfl⟩ := hC.rd.len
        obtain ⟨as', cs, rfl⟩ := hC.sp.len
        have c0 := hC.kind
        have c1 := hC.level
        have c2 := hC.info
        have c3 := hC.lines
        have c4 := hC.spans
        have c5 := hC.kids
        have HC := Lib.hid (fun w' (h : Below wr.heap.size wr w') => HIH.out k hlt _ w' (hC.tr.below h))
        have HQ := Lib.hid hnx
        clear hnx HN hC
        generalize dp l[k].kids = z at *
        generalize l[k].kids.length = kn at *
        generalize l[k].lines.length = ln at *
        generalize l[k].spans.length = sn at *
        generalize l[k].kind = q at *
        generalize l[k].level = lv at *
        generalize S l[k].info = si at *
        obtain ⟨z1, hz1⟩ : ∃ z1, IntKind.i64.wrap (z + 1) = z1 := ⟨_, rfl⟩
        have hz1' : IntKind.i64.wrap (1 + z) = z1 := by rw [Int.add_comm]; exact hz1
        rw [hz1'] at HQ
        clear hz1'
        have B1 : Below wr.heap.size wr (wr.alloc (.cells #[.int .i64 q, .int .i64 lv, .string si, .slice al ln cl, .slice as' sn cs, .slice ak kn ck] 42)) := (Below.refl _ _).alloc (Nat.le_refl _) _
        have HC1 := Lib.hid (HC.out _ B1)
        have HB1 := Lib.hid (HB.out.trans (B1.mono HB.out.size))
        have HA1 := Lib.hid (alloc_new wr (.cells #[.int .i64 q, .int .i64 lv, .string si, .slice al ln cl, .slice as' sn cs, .slice ak kn ck] 42))
        have hlt1 : wr.heap.size < (wr.alloc (.cells #[.int .i64 q, .int .i64 lv, .string si, .slice al ln cl, .slice as' sn cs, .slice ak kn ck] 42)).heap.size := by simp
        clear HC B1
        go_upto_region 5 with fail
        generalize wr.alloc (.cells #[.int .i64 q, .int .i64 lv, .string si, .slice al ln cl, .slice as' sn cs, .slice ak kn ck] 42) = w1 at *
        have a0 : w1.cell? ⟨wr.heap.size, 0, none⟩ = some (.int .i64 q) := cell_at HA1.out 0
        have a5 : w1.cell? ⟨wr.heap.size, 5, none⟩ = some (.slice ak kn ck) := cell_at HA1.out 5
        clear HA1 c0 c1 c2 c3 c4 c5
        go_wp2_with fail
        refine HC1.out.mono ?_
        rintro e w2 ⟨rfl, b2⟩
        have k0 : w2.cell? ⟨wr.heap.size, 0, none⟩ = some (.int .i64 q) := (b2.cell (p := ⟨wr.heap.size, 0, none⟩) (by exact hlt1)).trans a0
        have HB2 := Lib.hid (HB1.out.trans (b2.mono HB1.out.size))
        have HQ2 := Lib.hid (HCt.out q w2)
        clear HC1 b2
        go_wp2_with fail
        refine HQ2.out.mono ?_
        rintro e w3 ⟨rfl, rfl⟩
        clear HQ2
        cases hbx : boxB q with
        | true =>
          rw [hbx, if_pos rfl] at HQ
          clear hbx
          go_wp2_with fail
          go_roundw
          case rel => exact ⟨k + 1, max n z1, by omega, by go_num, rfl, HB2, HQ⟩
          case measure => simp [intOf] <;> omega
        | false =>
          rw [hbx, if_neg (by decide)] at HQ
          clear hbx
          go_wp2_with fail
          go_roundw
          case rel => exact ⟨k + 1, max n z, by omega, by go_num, rfl, HB2, HQ⟩
          case measure => simp [intOf] <;> omega
      · obtain rfl : k = l.length := by omega
        have hnx := HN.out
        rw [List.drop_length] at hnx
        have HQ : Hid (X = n) := Lib.hid (by rw [hnx]; unfold dpAll; rfl)
        clear hnx HN hlt
        go_wp2_with fail
        go_ret
        exact ⟨ret_int (by rw [HQ.out]), HB.out⟩
end Go.Proofs.YtihihgfcklkkhaaGreatDoor.Bt
