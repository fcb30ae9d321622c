/-
  CONTRACTS of a page's line, container and fence (html); written by gen_blk.py.
-/
import Derived.Test.YtpakjdgddomdjaaDoorHtSpans
import Derived.Test.YtpakjdgddomdjaaDoorHtLeaf
import Derived.Test.YtpakjdgddomdjaaDoorBtFew
namespace Go.Proofs.YtpakjdgddomdjaaDoor.Ht
open Go.RowKit
open Go.Proofs.YtpakjdgddomdjaaDoor.Tk (S S_of S_list S_size S_toList S_app len_data Rd)
open Go.Proofs.YtpakjdgddomdjaaDoor.Cm (calls_at cell_at alloc_new alloc_at)
open Go.Proofs.YtpakjdgddomdjaaDoor.Sp (Sp Tr totAll)
open Go.Proofs.YtpakjdgddomdjaaDoor.Bk (Bk Tx)
set_option linter.unusedVariables false

/-- A call that shows what v reads as. -/
def CtF (f : FuncId) (w : World) (v : Value) (b : Nat) (y : Tx) : Prop := ∀ (w' : World) (t : Tx), Below w.heap.size w w' → Pg w.heap.size b t w' → t.length + y.length ≤ 140737488355328 → Calls Tryd.prog f #[.pointer (some ⟨b, 0, none⟩), v] w' fun e w'' => e = .returned (.tuple #[]) ∧ PgAns w.heap.size b (t ++ y) w' w''

set_option maxHeartbeats 1600000 in
theorem lineP_any (n y t : Tx) (ao : Option Addr) (vn vc b : Nat) (w0 w : World) (hw : Below w0.heap.size w0 w) (h : Pg w0.heap.size b t w) (hn : n.length ≤ 100) (hlen : t.length + (lnT n y).length ≤ 140737488355328)
    (hy : CtF 23 w0 (.slice ao vn vc) b y) :
    Calls Tryd.prog 31 #[.pointer (some ⟨b, 0, none⟩), .string (S n), .slice ao vn vc] w fun e w' => e = .returned (.tuple #[]) ∧ PgAns w0.heap.size b (t ++ lnT n y) w w' := by
  have hdl : (lnT n y).length = y.length + 2 * n.length + 6 := lnT_len n y
  have zn : (S n).size = n.length := S_size _
  have zA : (⟨#[60]⟩ ++ S n : ByteArray).size = 1 + n.length := by rw [ByteArray.size_append, zn]; rfl
  have zB : (⟨#[60, 47]⟩ ++ S n : ByteArray).size = 2 + n.length := by rw [ByteArray.size_append, zn]; rfl
  have z1 : (⟨#[60]⟩ : ByteArray).size = 1 := rfl
  have z2 : (⟨#[60, 47]⟩ : ByteArray).size = 2 := rfl
  have g1 : ¬ 9223372036854775807 < (⟨#[60]⟩ : ByteArray).size + (S n).size := by omega
  have g2 : ¬ 9223372036854775807 < (⟨#[60, 47]⟩ : ByteArray).size + (S n).size := by omega
  have g3 : ¬ 9223372036854775807 < 1 + (S n).size := by omega
  have g4 : ¬ 9223372036854775807 < 2 + (S n).size := by omega
  have g5 : ¬ 9223372036854775807 < (⟨#[60]⟩ ++ S n : ByteArray).size + 1 := by omega
  have g6 : ¬ 9223372036854775807 < (⟨#[60, 47]⟩ ++ S n : ByteArray).size + 2 := by omega
  have g7 : ¬ 9223372036854775807 < 1 + (S n).size + 1 := by omega
  have g8 : ¬ 9223372036854775807 < 2 + (S n).size + 2 := by omega
  have eA : (⟨#[60]⟩ ++ S n ++ ⟨#[62]⟩ : ByteArray) = S (60 :: (n ++ [62])) := by
    rw [show (⟨#[60]⟩ : ByteArray) = S [60] from rfl, show (⟨#[62]⟩ : ByteArray) = S [62] from rfl, S_app, S_app]
    rfl
  have eB : (⟨#[60, 47]⟩ ++ S n ++ ⟨#[62, 10]⟩ : ByteArray) = S (60 :: 47 :: (n ++ [62, 10])) := by
    rw [show (⟨#[60, 47]⟩ : ByteArray) = S [60, 47] from rfl, show (⟨#[62, 10]⟩ : ByteArray) = S [62, 10] from rfl, S_app, S_app]
    rfl
  have HP1 := Lib.hid (putP_any w0.heap.size b t (⟨#[60]⟩ ++ S n ++ ⟨#[62]⟩) w h (by rw [eA, S_size]; simp only [List.length_cons, List.length_append, List.length_nil]; omega) hw.size)
  have HP2 := Lib.hid (fun w' (h2 : Pg w0.heap.size b (t ++ (60 :: (n ++ [62])) ++ y) w') (h3 : w0.heap.size ≤ w'.heap.size) => putP_any w0.heap.size b (t ++ (60 :: (n ++ [62])) ++ y) (⟨#[60, 47]⟩ ++ S n ++ ⟨#[62, 10]⟩) w' h2 (by rw [eB, S_size]; simp only [List.length_cons, List.length_append, List.length_nil]; omega) h3)
  have lA : (⟨#[60]⟩ ++ S n ++ ⟨#[62]⟩ : ByteArray).data.toList = 60 :: (n ++ [62]) := by rw [eA, S_list]
  have lB : (⟨#[60, 47]⟩ ++ S n ++ ⟨#[62, 10]⟩ : ByteArray).data.toList = 60 :: 47 :: (n ++ [62, 10]) := by rw [eB, S_list]
  rw [lA] at HP1
  rw [lB] at HP2
  have HY := Lib.hid (fun w' (h1 : Below w0.heap.size w0 w') (h2 : Pg w0.heap.size b (t ++ (60 :: (n ++ [62]))) w') => hy w' _ h1 h2 (by simp only [List.length_cons, List.length_append, List.length_nil]; omega))
  have HX : Hid (∀ w', PgAns w0.heap.size b (t ++ (60 :: (n ++ [62])) ++ y ++ (60 :: 47 :: (n ++ [62, 10]))) w w' → PgAns w0.heap.size b (t ++ lnT n y) w w') := Lib.hid (fun w' hh => by unfold lnT; simpa using hh)
  have HW := Lib.hid hw
  clear eA eB lA lB h hw hy hlen hdl
  go_enter Tryd.func31, Tryd.ntmps31
  go_wp2_with fail
  refine HP1.out.mono ?_
  rintro e w2 ⟨rfl, b2⟩
  have HG2 := Lib.hid b2
  have HYw := Lib.hid (HY.out w2 (HW.out.trans b2.bel) b2.pg)
  clear b2 HP1 HY
  go_wp2_with fail
  refine HYw.out.mono ?_
  rintro e w3 ⟨rfl, b3⟩
  have HG3 := Lib.hid (HG2.out.trans b3)
  have HP3 := Lib.hid (HP2.out w3 b3.pg (HG3.out.size HW.out.size))
  clear b3 HYw HG2 HP2
  go_wp2_with fail
  refine HP3.out.mono ?_
  rintro e w4 ⟨rfl, b4⟩
  have HR := Lib.hid (HX.out w4 (HG3.out.trans b4))
  clear b4 HP3 HG3 HX
  go_wp2_with fail
  go_end0
  exact ⟨rfl, HR.out⟩

set_option maxHeartbeats 1600000 in
theorem containerP_any (n y t : Tx) (ao : Option Addr) (vn vc b : Nat) (w0 w : World) (hw : Below w0.heap.size w0 w) (h : Pg w0.heap.size b t w) (hn : n.length ≤ 100) (hlen : t.length + (ctT n y).length ≤ 140737488355328)
    (hy : CtF 20 w0 (.slice ao vn vc) b y) :
    Calls Tryd.prog 34 #[.pointer (some ⟨b, 0, none⟩), .string (S n), .slice ao vn vc] w fun e w' => e = .returned (.tuple #[]) ∧ PgAns w0.heap.size b (t ++ ctT n y) w w' := by
  have hdl : (ctT n y).length = y.length + 2 * n.length + 7 := ctT_len n y
  have zn : (S n).size = n.length := S_size _
  have zA : (⟨#[60]⟩ ++ S n : ByteArray).size = 1 + n.length := by rw [ByteArray.size_append, zn]; rfl
  have zB : (⟨#[60, 47]⟩ ++ S n : ByteArray).size = 2 + n.length := by rw [ByteArray.size_append, zn]; rfl
  have z1 : (⟨#[60]⟩ : ByteArray).size = 1 := rfl
  have z2 : (⟨#[60, 47]⟩ : ByteArray).size = 2 := rfl
  have g1 : ¬ 9223372036854775807 < (⟨#[60]⟩ : ByteArray).size + (S n).size := by omega
  have g2 : ¬ 9223372036854775807 < (⟨#[60, 47]⟩ : ByteArray).size + (S n).size := by omega
  have g3 : ¬ 9223372036854775807 < 1 + (S n).size := by omega
  have g4 : ¬ 9223372036854775807 < 2 + (S n).size := by omega
  have g5 : ¬ 9223372036854775807 < (⟨#[60]⟩ ++ S n : ByteArray).size + 2 := by omega
  have g6 : ¬ 9223372036854775807 < (⟨#[60, 47]⟩ ++ S n : ByteArray).size + 2 := by omega
  have g7 : ¬ 9223372036854775807 < 1 + (S n).size + 2 := by omega
  have g8 : ¬ 9223372036854775807 < 2 + (S n).size + 2 := by omega
  have eA : (⟨#[60]⟩ ++ S n ++ ⟨#[62, 10]⟩ : ByteArray) = S (60 :: (n ++ [62, 10])) := by
    rw [show (⟨#[60]⟩ : ByteArray) = S [60] from rfl, show (⟨#[62, 10]⟩ : ByteArray) = S [62, 10] from rfl, S_app, S_app]
    rfl
  have eB : (⟨#[60, 47]⟩ ++ S n ++ ⟨#[62, 10]⟩ : ByteArray) = S (60 :: 47 :: (n ++ [62, 10])) := by
    rw [show (⟨#[60, 47]⟩ : ByteArray) = S [60, 47] from rfl, show (⟨#[62, 10]⟩ : ByteArray) = S [62, 10] from rfl, S_app, S_app]
    rfl
  have HP1 := Lib.hid (putP_any w0.heap.size b t (⟨#[60]⟩ ++ S n ++ ⟨#[62, 10]⟩) w h (by rw [eA, S_size]; simp only [List.length_cons, List.length_append, List.length_nil]; omega) hw.size)
  have HP2 := Lib.hid (fun w' (h2 : Pg w0.heap.size b (t ++ (60 :: (n ++ [62, 10])) ++ y) w') (h3 : w0.heap.size ≤ w'.heap.size) => putP_any w0.heap.size b (t ++ (60 :: (n ++ [62, 10])) ++ y) (⟨#[60, 47]⟩ ++ S n ++ ⟨#[62, 10]⟩) w' h2 (by rw [eB, S_size]; simp only [List.length_cons, List.length_append, List.length_nil]; omega) h3)
  have lA : (⟨#[60]⟩ ++ S n ++ ⟨#[62, 10]⟩ : ByteArray).data.toList = 60 :: (n ++ [62, 10]) := by rw [eA, S_list]
  have lB : (⟨#[60, 47]⟩ ++ S n ++ ⟨#[62, 10]⟩ : ByteArray).data.toList = 60 :: 47 :: (n ++ [62, 10]) := by rw [eB, S_list]
  rw [lA] at HP1
  rw [lB] at HP2
  have HY := Lib.hid (fun w' (h1 : Below w0.heap.size w0 w') (h2 : Pg w0.heap.size b (t ++ (60 :: (n ++ [62, 10]))) w') => hy w' _ h1 h2 (by simp only [List.length_cons, List.length_append, List.length_nil]; omega))
  have HX : Hid (∀ w', PgAns w0.heap.size b (t ++ (60 :: (n ++ [62, 10])) ++ y ++ (60 :: 47 :: (n ++ [62, 10]))) w w' → PgAns w0.heap.size b (t ++ ctT n y) w w') := Lib.hid (fun w' hh => by unfold ctT; simpa using hh)
  have HW := Lib.hid hw
  clear eA eB lA lB h hw hy hlen hdl
  go_enter Tryd.func34, Tryd.ntmps34
  go_wp2_with fail
  refine HP1.out.mono ?_
  rintro e w2 ⟨rfl, b2⟩
  have HG2 := Lib.hid b2
  have HYw := Lib.hid (HY.out w2 (HW.out.trans b2.bel) b2.pg)
  clear b2 HP1 HY
  go_wp2_with fail
  refine HYw.out.mono ?_
  rintro e w3 ⟨rfl, b3⟩
  have HG3 := Lib.hid (HG2.out.trans b3)
  have HP3 := Lib.hid (HP2.out w3 b3.pg (HG3.out.size HW.out.size))
  clear b3 HYw HG2 HP2
  go_wp2_with fail
  refine HP3.out.mono ?_
  rintro e w4 ⟨rfl, b4⟩
  have HR := Lib.hid (HX.out w4 (HG3.out.trans b4))
  clear b4 HP3 HG3 HX
  go_wp2_with fail
  go_end0
  exact ⟨rfl, HR.out⟩

/-! A Fence. -/
theorem hl_step (ls : List Tx) (k : Nat) (h : k < ls.length) (p q : Tx) : p ++ hl (ls.drop k) = (p ++ he ls[k] ++ [10]) ++ hl (ls.drop (k + 1)) := by
  rw [List.drop_eq_getElem_cons h, hl]
  simp
theorem feT_eq (i : Tx) (ls : List Tx) (t : Tx) : t ++ feT i ls = t ++ [60, 112, 114, 101, 62, 60, 99, 111, 100, 101] ++ lang i ++ [62] ++ hl ls ++ [60, 47, 99, 111, 100, 101, 62, 60, 47, 112, 114, 101, 62, 10] := by
  unfold feT
  simp
set_option maxHeartbeats 1600000 in
theorem fenceP_any (i : Tx) (ls : List Tx) (t : Tx) (v : Value) (b : Nat) (w0 w : World) (hw : Below w0.heap.size w0 w) (h : Pg w0.heap.size b t w) (hi : i.length ≤ 140737488355328) (hls : ls.length ≤ 9223372036854775807) (hr : Rd w0 v ls) (hlen : t.length + (feT i ls).length ≤ 140737488355328) :
    Calls Tryd.prog 33 #[.pointer (some ⟨b, 0, none⟩), .string (S i), v] w fun e w' => e = .returned (.tuple #[]) ∧ PgAns w0.heap.size b (t ++ feT i ls) w w' := by
  obtain ⟨ao, ca, rfl⟩ := hr.len
  have HRd := Lib.hid hr
  have hfl := congrArg List.length (feT_eq i ls t)
  rw [List.length_append] at hfl
  rw [feT_eq]
  have HW := Lib.hid hw
  simp only [List.length_append, List.length_cons, List.length_nil] at hfl
  have HP0 := Lib.hid (putP_any w0.heap.size b t ⟨#[60, 112, 114, 101, 62, 60, 99, 111, 100, 101]⟩ w h (by show _ + 10 ≤ _; omega) hw.size)
  have hB0 := hw.size
  obtain ⟨T1, hT1⟩ : ∃ T1, t ++ [60, 112, 114, 101, 62, 60, 99, 111, 100, 101] ++ lang i ++ [62] = T1 := ⟨_, rfl⟩
  have HT1 := Lib.hid hT1
  have lT1 : T1.length + (hl ls).length + 14 ≤ 140737488355328 := by rw [← hT1]; simp only [List.length_append, List.length_cons, List.length_nil]; omega
  have lT2 : t.length + 10 + (lang i).length + 1 ≤ 140737488355328 := by omega
  rw [hT1]
  have H0 : Hid (hl ls = [] ++ hl (ls.drop 0)) := Lib.hid (by rw [List.drop_zero]; rfl)
  obtain ⟨X, hX⟩ : ∃ X, hl ls = X := ⟨_, rfl⟩
  rw [hX] at H0 lT1
  rw [hX]
  clear h hw hr hlen hfl hT1 hX
  by_cases h0 : i = []
  · subst h0
    have e0 : (S ([] : Tx)).toList.isEmpty = true := by rw [S_toList]; rfl
    have HTa : Hid (t ++ [60, 112, 114, 101, 62, 60, 99, 111, 100, 101] ++ [62] = T1) := Lib.hid (by have h := HT1.out; unfold lang at h; rw [if_pos rfl, List.append_nil] at h; exact h)
    have lT3 : t.length + 10 + 1 ≤ 140737488355328 := by omega
    clear HT1 lT2
    have eS : S ([] : Tx) = ⟨#[]⟩ := rfl
    rw [eS] at e0 ⊢
    clear eS
    go_enter Tryd.func33, Tryd.ntmps33
    go_wp2_with fail
    refine HP0.out.mono ?_
    rintro e w2 ⟨rfl, b2⟩
    have HG2 := Lib.hid b2
    have HPb := Lib.hid (putP_any w0.heap.size b _ ⟨#[62]⟩ w2 b2.pg (by simp only [List.length_append, List.length_cons, List.length_nil]; show _ + 1 ≤ _; omega) (b2.size hB0))
    clear b2 HP0
    go_wp2_with fail
    refine HPb.out.mono ?_
    rintro e w8 ⟨rfl, b8⟩
    have HG8 : Hid (PgAns w0.heap.size b (T1 ++ []) w w8 ∧ X = [] ++ hl (ls.drop 0)) := Lib.hid ⟨by rw [List.append_nil, ← HTa.out]; exact HG2.out.trans b8, H0.out⟩
    clear b8 HPb HG2 HTa H0
    go_wp2_with fail
    go_loopw [32] (fun iv wr => ∃ (k : Nat) (p : Tx), k ≤ ls.length ∧ iv = .int .i64 k ∧ Hid (PgAns w0.heap.size b (T1 ++ p) w wr ∧ X = p ++ hl (ls.drop k))) (fun iv _ => ls.length - (intOf iv).toNat)
    case atStart => exact ⟨0, [], Nat.zero_le _, rfl, HG8⟩
    case round =>
      clear HG8
      obtain ⟨k, p, hk, rfl, HN⟩ := hrel
      by_cases hlt : k < ls.length
      · have hi1 : (k : Int) < (ls.length : Int) := by omega
        have hnx := HN.out.2
        rw [hl_step ls k hlt p []] at hnx
        obtain ⟨bb, o, rfl, c0⟩ := Bt.Rd.at (HRd.out.below (HW.out.trans HN.out.1.bel)) k hlt
        have hxl := congrArg List.length hnx
        simp only [List.length_append, List.length_cons, List.length_nil] at hxl
        have hsz := HN.out.1.size hB0
        have HTt := Lib.hid (textP_any w0.heap.size b (T1 ++ p) (S ls[k]) wr HN.out.1.pg (by rw [S_list, List.length_append]; omega) hsz)
        rw [S_list] at HTt
        have HPn := Lib.hid (fun w' (h2 : Pg w0.heap.size b (T1 ++ p ++ he ls[k]) w') (h3 : w0.heap.size ≤ w'.heap.size) => putP_any w0.heap.size b (T1 ++ p ++ he ls[k]) ⟨#[10]⟩ w' h2 (by simp only [List.length_append]; show _ + 1 ≤ _; omega) h3)
        have HZ : Hid (∀ w', PgAns w0.heap.size b (T1 ++ p ++ he ls[k] ++ [10]) w w' → (PgAns w0.heap.size b (T1 ++ (p ++ he ls[k] ++ [10])) w w' ∧ X = (p ++ he ls[k] ++ [10]) ++ hl (ls.drop (k + 1)))) := Lib.hid (fun w' h => ⟨by simpa only [List.append_assoc] using h, hnx⟩)
        have HG := Lib.hid HN.out.1
        clear hnx HN hxl
        generalize p ++ he ls[k] ++ [10] = p2 at *
        generalize S ls[k] = sk at *
        go_wp2_with fail
        refine HTt.out.mono ?_
        rintro e w9 ⟨rfl, b9⟩
        have HPw := Lib.hid (HPn.out w9 b9.pg (b9.size hsz))
        have HG9 := Lib.hid (HG.out.trans b9)
        clear b9 HTt HPn HG
        go_wp2_with fail
        refine HPw.out.mono ?_
        rintro e w10 ⟨rfl, b10⟩
        have HR := Lib.hid (HZ.out w10 (HG9.out.trans b10))
        clear b10 HPw HG9 HZ
        go_wp2_with fail
        go_roundw
        case rel => exact ⟨k + 1, p2, by omega, by go_num, HR⟩
        case measure => simp [intOf] <;> omega
      · obtain rfl : k = ls.length := by omega
        have hnx := HN.out.2
        rw [List.drop_length] at hnx
        have hxp : X = p := by rw [hnx]; simp [hl]
        subst hxp
        have HPe := Lib.hid (putP_any w0.heap.size b (T1 ++ X) ⟨#[60, 47, 99, 111, 100, 101, 62, 60, 47, 112, 114, 101, 62, 10]⟩ wr HN.out.1.pg (by rw [List.length_append]; show _ + 14 ≤ _; omega) (HN.out.1.size hB0))
        have HG := Lib.hid HN.out.1
        clear hnx HN hlt
        go_wp2_with fail
        refine HPe.out.mono ?_
        rintro e w9 ⟨rfl, b9⟩
        have HR := Lib.hid (HG.out.trans b9)
        clear b9 HPe HG
        go_wp2_with fail
        go_end0
        exact ⟨rfl, HR.out⟩
  · have e0 : (S i).toList.isEmpty = false := by rw [S_toList, List.isEmpty_eq_false_iff]; exact h0
    have hlg : lang i = [32, 99, 108, 97, 115, 115, 61, 34, 108, 97, 110, 103, 117, 97, 103, 101, 45] ++ (he (wd i) ++ [34]) := by unfold lang; rw [if_neg h0]
    have HTa : Hid (t ++ [60, 112, 114, 101, 62, 60, 99, 111, 100, 101] ++ [32, 99, 108, 97, 115, 115, 61, 34, 108, 97, 110, 103, 117, 97, 103, 101, 45] ++ he (wd i) ++ [34] ++ [62] = T1) := Lib.hid (by rw [← HT1.out, hlg]; simp)
    rw [hlg] at lT2
    simp only [List.length_append, List.length_cons, List.length_nil] at lT2
    have HCu := Lib.hid (cut1_any (S i) (by rw [S_size]; exact hi))
    unfold CutAns at HCu
    rw [S_list] at HCu
    have hwd := cuS_wd i
    generalize cuS i = cu at *
    obtain ⟨q1, q2, q3⟩ := cu
    simp only at hwd HCu
    subst hwd
    clear HT1 hlg h0
    generalize wd i = q1 at *
    generalize S i = si at *
    go_enter Tryd.func33, Tryd.ntmps33
    go_wp2_with fail
    refine HP0.out.mono ?_
    rintro e w2 ⟨rfl, b2⟩
    have HG2 := Lib.hid b2
    clear b2 HP0
    go_wp2_with fail
    refine (HCu.out _).mono ?_
    rintro e w3 ⟨rfl, qn, rfl⟩
    have HG3 := Lib.hid (HG2.out.more (HG2.out.size hB0) (below_drewN (Below.refl _ _) qn))
    clear HG2 HCu
    generalize w2.drewN qn = w3 at *
    have HPc := Lib.hid (putP_any w0.heap.size b _ ⟨#[32, 99, 108, 97, 115, 115, 61, 34, 108, 97, 110, 103, 117, 97, 103, 101, 45]⟩ w3 HG3.out.pg (by simp only [List.length_append, List.length_cons, List.length_nil]; show _ + 17 ≤ _; omega) (HG3.out.size hB0))
    go_wp2_with fail
    refine HPc.out.mono ?_
    rintro e w4 ⟨rfl, b4⟩
    have HG4 := Lib.hid (HG3.out.trans b4)
    have HTx := Lib.hid (textP_any w0.heap.size b _ (S q1) w4 b4.pg (by rw [S_list]; simp only [List.length_append, List.length_cons, List.length_nil]; omega) (HG4.out.size hB0))
    rw [S_list] at HTx
    clear b4 HG3 HPc
    go_wp2_with fail
    refine HTx.out.mono ?_
    rintro e w5 ⟨rfl, b5⟩
    have HG5 := Lib.hid (HG4.out.trans b5)
    have HPd := Lib.hid (putP_any w0.heap.size b _ ⟨#[34]⟩ w5 b5.pg (by simp only [List.length_append, List.length_cons, List.length_nil]; show _ + 1 ≤ _; omega) (HG5.out.size hB0))
    clear b5 HG4 HTx
    go_wp2_with fail
    refine HPd.out.mono ?_
    rintro e w6 ⟨rfl, b6⟩
    have HG2 := Lib.hid (HG5.out.trans b6)
    have HPb := Lib.hid (putP_any w0.heap.size b _ ⟨#[62]⟩ w6 b6.pg (by simp only [List.length_append, List.length_cons, List.length_nil]; show _ + 1 ≤ _; omega) (HG2.out.size hB0))
    clear b6 HG5 HPd
    go_wp2_with fail
    refine HPb.out.mono ?_
    rintro e w8 ⟨rfl, b8⟩
    have HG8 : Hid (PgAns w0.heap.size b (T1 ++ []) w w8 ∧ X = [] ++ hl (ls.drop 0)) := Lib.hid ⟨by rw [List.append_nil, ← HTa.out]; exact HG2.out.trans b8, H0.out⟩
    clear b8 HPb HG2 HTa H0
    go_wp2_with fail
    go_loopw [32] (fun iv wr => ∃ (k : Nat) (p : Tx), k ≤ ls.length ∧ iv = .int .i64 k ∧ Hid (PgAns w0.heap.size b (T1 ++ p) w wr ∧ X = p ++ hl (ls.drop k))) (fun iv _ => ls.length - (intOf iv).toNat)
    case atStart => exact ⟨0, [], Nat.zero_le _, rfl, HG8⟩
    case round =>
      clear HG8
      obtain ⟨k, p, hk, rfl, HN⟩ := hrel
      by_cases hlt : k < ls.length
      · have hi1 : (k : Int) < (ls.length : Int) := by omega
        have hnx := HN.out.2
        rw [hl_step ls k hlt p []] at hnx
        obtain ⟨bb, o, rfl, c0⟩ := Bt.Rd.at (HRd.out.below (HW.out.trans HN.out.1.bel)) k hlt
        have hxl := congrArg List.length hnx
        simp only [List.length_append, List.length_cons, List.length_nil] at hxl
        have hsz := HN.out.1.size hB0
        have HTt := Lib.hid (textP_any w0.heap.size b (T1 ++ p) (S ls[k]) wr HN.out.1.pg (by rw [S_list, List.length_append]; omega) hsz)
        rw [S_list] at HTt
        have HPn := Lib.hid (fun w' (h2 : Pg w0.heap.size b (T1 ++ p ++ he ls[k]) w') (h3 : w0.heap.size ≤ w'.heap.size) => putP_any w0.heap.size b (T1 ++ p ++ he ls[k]) ⟨#[10]⟩ w' h2 (by simp only [List.length_append]; show _ + 1 ≤ _; omega) h3)
        have HZ : Hid (∀ w', PgAns w0.heap.size b (T1 ++ p ++ he ls[k] ++ [10]) w w' → (PgAns w0.heap.size b (T1 ++ (p ++ he ls[k] ++ [10])) w w' ∧ X = (p ++ he ls[k] ++ [10]) ++ hl (ls.drop (k + 1)))) := Lib.hid (fun w' h => ⟨by simpa only [List.append_assoc] using h, hnx⟩)
        have HG := Lib.hid HN.out.1
        clear hnx HN hxl
        generalize p ++ he ls[k] ++ [10] = p2 at *
        generalize S ls[k] = sk at *
        go_wp2_with fail
        refine HTt.out.mono ?_
        rintro e w9 ⟨rfl, b9⟩
        have HPw := Lib.hid (HPn.out w9 b9.pg (b9.size hsz))
        have HG9 := Lib.hid (HG.out.trans b9)
        clear b9 HTt HPn HG
        go_wp2_with fail
        refine HPw.out.mono ?_
        rintro e w10 ⟨rfl, b10⟩
        have HR := Lib.hid (HZ.out w10 (HG9.out.trans b10))
        clear b10 HPw HG9 HZ
        go_wp2_with fail
        go_roundw
        case rel => exact ⟨k + 1, p2, by omega, by go_num, HR⟩
        case measure => simp [intOf] <;> omega
      · obtain rfl : k = ls.length := by omega
        have hnx := HN.out.2
        rw [List.drop_length] at hnx
        have hxp : X = p := by rw [hnx]; simp [hl]
        subst hxp
        have HPe := Lib.hid (putP_any w0.heap.size b (T1 ++ X) ⟨#[60, 47, 99, 111, 100, 101, 62, 60, 47, 112, 114, 101, 62, 10]⟩ wr HN.out.1.pg (by rw [List.length_append]; show _ + 14 ≤ _; omega) (HN.out.1.size hB0))
        have HG := Lib.hid HN.out.1
        clear hnx HN hlt
        go_wp2_with fail
        refine HPe.out.mono ?_
        rintro e w9 ⟨rfl, b9⟩
        have HR := Lib.hid (HG.out.trans b9)
        clear b9 HPe HG
        go_wp2_with fail
        go_end0
        exact ⟨rfl, HR.out⟩
end Go.Proofs.YtpakjdgddomdjaaDoor.Ht
