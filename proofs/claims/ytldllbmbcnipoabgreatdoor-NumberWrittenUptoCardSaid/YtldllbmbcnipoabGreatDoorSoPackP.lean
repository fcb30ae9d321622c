import Derived.Test.YtldllbmbcnipoabGreatDoorPkWQ
import Derived.Test.YtldllbmbcnipoabGreatDoorPkWP
import Derived.Laws.OwnMore
import Derived.Test.YtldllbmbcnipoabGreatDoorPkWN
import Derived.Test.YtldllbmbcnipoabGreatDoorPkWA
import Derived.Test.YtldllbmbcnipoabGreatDoorPkWB
import Derived.Test.YtldllbmbcnipoabGreatDoorShelf
import Derived.Test.YtldllbmbcnipoabGreatDoorPkWR
namespace Go.Proofs.YtldllbmbcnipoabGreatDoor.Sp
open Go.RowKit
open Go.Proofs.YtldllbmbcnipoabGreatDoor.Tk (S S_of S_list S_size S_toList S_app ret_int eq8 ne8 at_data len_data drop_all)
set_option linter.unusedVariables false
theorem run_ticks : ∀ l : List UInt8, Ln.run 96 l = ticks l
  | [] => rfl
  | b :: r => by
    have ih := run_ticks r
    show (if b = 96 then Ln.run 96 r + 1 else 0) = if b = 96 then ticks r + 1 else 0
    rw [ih]
theorem hrAt_end (l : List UInt8) (k n : Nat) (h : l.length ≤ k) : hrAt l k n = false := by
  unfold hrAt
  rw [List.drop_eq_nil_of_le h]
  exact hasRun_nil _ _
theorem ticks_behind0 : ∀ l : List UInt8, (l.drop (ticks l)).head? ≠ some 96
  | [] => by simp
  | b :: r => by
    have ih := ticks_behind0 r
    show ((b :: r).drop (if b = 96 then ticks r + 1 else 0)).head? ≠ some 96
    split
    · rw [List.drop_succ_cons]; exact ih
    · rename_i h
      rw [List.drop_zero, List.head?_cons]
      intro e
      exact h (Option.some.inj e)
theorem ticks_head {l : List UInt8} (h : l.head? ≠ some 96) : ticks l = 0 := by
  cases l with
  | nil => rfl
  | cons b r =>
    show (if b = 96 then ticks r + 1 else 0) = 0
    rw [if_neg]
    intro e
    exact h (by rw [e]; rfl)
theorem hrAt_run (s : ByteArray) (n k : Nat) (hn : 0 < n) (hk : k < s.size) :
    hrAt s.data.toList k n = (decide (ticks (s.data.toList.drop k) = n) || hrAt s.data.toList (k + ticks (s.data.toList.drop k) + 1) n) := by
  have h1 := hrAt_step s n k hk
  have h2 := ticks_behind0 (s.data.toList.drop k)
  rw [List.drop_drop] at h2
  have h3 := ticks_head h2
  generalize ticks (s.data.toList.drop k) = q at *
  rw [h1]
  by_cases e : q = n
  · rw [if_pos e, decide_eq_true e, Bool.true_or]
  · rw [if_neg e, decide_eq_false e, Bool.false_or]
    by_cases q0 : q = 0
    · subst q0
      rfl
    · rw [show max q 1 = q by omega]
      by_cases hl : k + q < s.size
      · rw [hrAt_step s n (k + q) hl, h3, if_neg (by omega)]
        rfl
      · rw [hrAt_end _ _ _ (by rw [len_data]; omega), hrAt_end _ _ _ (by rw [len_data]; omega)]
theorem mx_drop (c : UInt8) : ∀ (l : List UInt8) (k : Nat), Ln.mx c (l.drop k) ≤ Ln.mx c l
  | l, 0 => Nat.le_refl _
  | [], k + 1 => by simp
  | b :: r, k + 1 => by
    have := mx_drop c r k
    show Ln.mx c (r.drop k) ≤ max (Ln.run c (b :: r)) (Ln.mx c r)
    omega
theorem ticks_mx (l : List UInt8) (k : Nat) : ticks (l.drop k) ≤ Ln.mx 96 l := by
  have h1 := Ln.run_le_mx 96 (l.drop k)
  have h2 := mx_drop 96 l k
  rw [run_ticks] at h1
  omega
theorem hasRun_mx (n : Nat) (hn : 0 < n) : ∀ (f : Nat) (l : List UInt8), hasRun n f l = true → n ≤ Ln.mx 96 l
  | 0, l, h => by cases h
  | f + 1, [], h => by rw [hasRun_nil] at h; cases h
  | f + 1, b :: r, h => by
    rw [hasRun_cons] at h
    split at h
    · rename_i e
      have := ticks_mx (b :: r) 0
      rw [List.drop_zero] at this
      omega
    · have h1 := hasRun_mx n hn f _ h
      have h2 := mx_drop 96 (b :: r) (max (ticks (b :: r)) 1)
      omega
theorem fence_step (s : List UInt8) (f n : Nat) : fence s (f + 1) n = if hasRun n s.length s = true then fence s f (n + 1) else n := rfl
def Met (s : ByteArray) (M k : Nat) (T : Nat → Bool) : Prop := ∀ n, 0 < n → n < M + 2 → (hasRun n s.data.toList.length s.data.toList = (T n || hrAt s.data.toList k n))
theorem Met.begin (s : ByteArray) (M : Nat) : Met s M 0 (fun _ => false) := fun n _ _ => by
  unfold hrAt
  rw [List.drop_zero, Bool.false_or]
theorem Met.step {s : ByteArray} {M k : Nat} {T : Nat → Bool} (h : Met s M k T) (hk : k < s.size) : Met s M (k + ticks (s.data.toList.drop k) + 1) (fun n => if n = ticks (s.data.toList.drop k) then true else T n) := fun n h0 h1 => by
  rw [h n h0 h1, hrAt_run s n k h0 hk]
  generalize ticks (s.data.toList.drop k) = q at *
  by_cases e : n = q
  · subst e
    simp
  · have e' : ¬ q = n := fun h => e h.symm
    simp [e, e']
theorem Met.done {s : ByteArray} {M k : Nat} {T : Nat → Bool} (h : Met s M k T) (hk : s.size ≤ k) : ∀ n, 0 < n → n < M + 2 → hasRun n s.data.toList.length s.data.toList = T n := fun n h0 h1 => by
  rw [h n h0 h1, hrAt_end _ _ _ (by rw [len_data]; exact hk), Bool.or_false]
theorem fence_next {s : ByteArray} {T : Nat → Bool} (hT : ∀ n, 0 < n → n < Ln.mx 96 s.data.toList + 2 → hasRun n s.data.toList.length s.data.toList = T n) {n f : Nat} (h0 : 0 < n) (hn : n < Ln.mx 96 s.data.toList + 2) (hf : n + f = s.data.toList.length + 2) :
    (T n = true → n + 1 < Ln.mx 96 s.data.toList + 2 ∧ fence s.data.toList f n = fence s.data.toList (f - 1) (n + 1)) ∧ (T n = false → fence s.data.toList f n = n) := by
  have hm := Ln.mx_le 96 s.data.toList
  obtain ⟨g, rfl⟩ : ∃ g, f = g + 1 := ⟨f - 1, by omega⟩
  rw [fence_step, hT n h0 hn]
  refine ⟨fun h => ?_, fun h => ?_⟩
  · rw [h, if_pos rfl]
    refine ⟨?_, rfl⟩
    have := hasRun_mx n h0 _ _ ((hT n h0 hn).trans h)
    omega
  · rw [h, if_neg (by simp)]
end Go.Proofs.YtldllbmbcnipoabGreatDoor.Sp
namespace Go.Proofs.YtldllbmbcnipoabGreatDoor.Sp
open Go.RowKit
open Go.Proofs.YtldllbmbcnipoabGreatDoor.Tk (S S_of S_list S_size S_toList S_app ret_int eq8 ne8 at_data len_data drop_all)
set_option linter.unusedVariables false
theorem infoBo : (Tryz.prog.info? 4).map (fun i => (i.zero, i.size, i.bytes)) = some (some (.bool false), 1, 1) := by kernel_rfl
def Marked (w0 : World) (L : Nat) (T : Nat → Bool) (wr : World) : Prop :=
  ∃ xs : List Value, wr.ownsRow w0.heap.size 4 1 (.slice (some ⟨w0.heap.size, 0, none⟩) L L) L xs ∧ (∀ j, j < L → xs[j]? = some (.bool (T j))) ∧ Below w0.heap.size w0 wr
theorem Marked.begin {w0 wr : World} {L : Nat} (h : wr.ownsRow w0.heap.size 4 1 (.slice (some ⟨w0.heap.size, 0, none⟩) L L) L (madeCells #[.bool false] L).toList) (hg : w0.grownBy wr none) : Marked w0 L (fun _ => false) wr :=
  ⟨_, h, fun j hj => by rw [toList_madeCells_one, List.getElem?_replicate, if_pos hj], (Below.refl _ _).grown hg (Nat.le_refl _) (fun k h => by cases h)⟩
theorem Marked.set {w0 wr : World} {L k : Nat} {T : Nat → Bool} (h : Marked w0 L T wr) (hk : k < L) : Marked w0 L (fun n => if n = k then true else T n) (wr.setCell ⟨w0.heap.size, k, none⟩ (.bool true)) := by
  obtain ⟨xs, h1, h2, h3⟩ := h
  obtain ⟨g1, g2⟩ := h1.stored k (.bool true)
  refine ⟨_, g1, fun j hj => ?_, h3.setCell (Nat.le_refl _) _⟩
  have hl : xs.length = L * 1 := h1.1
  by_cases e : j = k
  · subst e
    rw [List.getElem?_set_self (by omega)]
    simp
  · rw [List.getElem?_set_ne (by omega), h2 j hj]
    simp [e]
theorem Marked.cell {w0 wr : World} {L j : Nat} {T : Nat → Bool} (h : Marked w0 L T wr) (hj : j < L) : wr.cell? ⟨w0.heap.size, j, none⟩ = some (.bool (T j)) ∧ wr.frozen? ⟨w0.heap.size, j, none⟩ = false := by
  obtain ⟨xs, h1, h2, h3⟩ := h
  exact ⟨(h1.cellAt j (by omega)).trans (h2 j hj), h1.frozenAt j⟩
theorem Marked.below {w0 wr : World} {L : Nat} {T : Nat → Bool} (h : Marked w0 L T wr) : Below w0.heap.size w0 wr := by
  obtain ⟨_, _, _, h3⟩ := h
  exact h3
theorem ext_from9 (s : ByteArray) (k : Nat) : (s.extract k s.size).data.toList = s.data.toList.drop k := by
  rw [ByteArray.data_extract]
  simp only [Array.toList_extract, List.extract_eq_take_drop]
  exact List.take_of_length_le (by simp)
set_option maxHeartbeats 1600000 in
theorem fenceP_any (s : ByteArray) (hs : s.size ≤ 1000000) (w : World) :
    Calls Tryz.prog 177 #[.string s] w fun e w' => e = .returned (.int .i64 (ticksOf s.data.toList : Nat)) ∧ Below w.heap.size w w' := by
  obtain ⟨i0, hi, hz0, hz1, hz2⟩ := info_parts infoBo
  have hm := Ln.mx_le 96 s.data.toList
  rw [len_data] at hm
  have e96 : (((96 : UInt8).toNat : Nat) : Int) = 96 := rfl
  have hL := Ln.longest_any s (by omega) 96 w
  rw [e96] at hL
  have HL := Lib.hid hL
  have HT := Lib.hid (fun (k : Nat) (wr : World) => Ln.run_any (s.extract k s.size) (by rw [ByteArray.size_extract]; omega) 96 wr)
  simp only [ext_from9, run_ticks, e96] at HT
  have HMx := Lib.hid (ticks_mx s.data.toList)
  have HTl : Hid (∀ k, k < s.size → k + ticks (s.data.toList.drop k) ≤ s.size) := Lib.hid (fun k hk => by
    have := ticks_le (s.data.toList.drop k)
    rw [List.length_drop, len_data] at this
    omega)
  have HB := Lib.hid (Met.begin s (Ln.mx 96 s.data.toList))
  have HSt := Lib.hid (fun (k : Nat) (T : Nat → Bool) (h : Met s (Ln.mx 96 s.data.toList) k T) (hk : k < s.size) => h.step hk)
  have HDn := Lib.hid (fun (k : Nat) (T : Nat → Bool) (h : Met s (Ln.mx 96 s.data.toList) k T) (hk : s.size ≤ k) => h.done hk)
  have HFn := Lib.hid (fun (T : Nat → Bool) (hT : ∀ n, 0 < n → n < Ln.mx 96 s.data.toList + 2 → hasRun n s.data.toList.length s.data.toList = T n) (n f : Nat) => @fence_next s T hT n f)
  have hfd : Hid (ticksOf s.data.toList = fence s.data.toList (s.size + 1) 1) := Lib.hid (by unfold ticksOf; rw [len_data])
  rw [len_data] at HFn
  generalize Ln.mx 96 s.data.toList = M at *
  generalize ticksOf s.data.toList = X at *
  clear hL e96
  obtain ⟨NN, hNN⟩ : ∃ NN, M + 2 = NN := ⟨_, rfl⟩
  rw [hNN] at HFn HDn
  have gN : (M : Int) + 2 = (NN : Int) := by omega
  have HNN := Lib.hid hNN
  clear hNN
  go_enter Tryz.func177, Tryz.ntmps177
  go_wp2_with fail
  refine HL.out.mono ?_
  rintro e w1 ⟨rfl, rfl⟩
  clear HL
  go_wp2_with (at_make; refine wpList_make_full _ rfl _ _ 202 rfl w.heap.size 4 i0 (.bool false) 1 Tryz.underlying202 hi hz0 hz1 _ _ _ _ NN rfl rfl (by first | rfl | exact gN) (by first | rfl | exact gN) (by rw [hz2]; have := HNN.out; omega) (by have := HNN.out; unfold maxLen; omega) (Nat.le_refl _) ?_)
  intro W2 hown hgrow
  have HF : Hid (Marked w NN (fun _ => false) W2 ∧ Met s M 0 (fun _ => false)) := Lib.hid ⟨Marked.begin hown hgrow, HB.out⟩
  clear hown hgrow hi hz0 hz1 hz2 HB
  go_wp2_with fail
  go_loopw [5] (fun i wr => ∃ (k : Nat) (T : Nat → Bool), k ≤ s.size + 1 ∧ i = .int .i64 k ∧ Hid (Marked w NN T wr ∧ Met s M k T)) (fun i _ => s.size + 1 - (intOf i).toNat)
  case atStart => exact ⟨0, _, Nat.zero_le _, rfl, HF⟩
  case round =>
    clear HF
    obtain ⟨k, T, hk, rfl, HF⟩ := hrel
    by_cases hlt : k < s.size
    · have hi1 : (k : Int) < (s.size : Int) := by omega
      have hq := HMx.out k
      have hq2 := HTl.out k hlt
      have hst := HF.out.1.set (k := ticks (s.data.toList.drop k)) (show _ < NN by have := HNN.out; omega)
      obtain ⟨c1, f1⟩ := HF.out.1.cell (j := ticks (s.data.toList.drop k)) (show _ < NN by have := HNN.out; omega)
      have HN := Lib.hid (And.intro hst (HSt.out k T HF.out.2 hlt))
      have HTk := Lib.hid (HT.out k wr)
      have g1 : ¬ (s.size : Int) ≤ (k : Int) := by omega
      clear hst HF HSt HDn HFn HMx HTl HT
      generalize ticks (s.data.toList.drop k) = q at *
      have g2 : (q : Int) < (NN : Int) := by have := HNN.out; omega
      go_wp2_with fail
      refine HTk.out.mono ?_
      rintro e w' ⟨rfl, rfl⟩
      clear HTk
      go_wp2_with fail
      go_roundw
      case rel => exact ⟨k + q + 1, _, by omega, by go_num, HN⟩
      case measure => simp [intOf] <;> omega
    · have hi1 : ¬ (k : Int) < (s.size : Int) := by omega
      have HD := Lib.hid (HDn.out k T HF.out.2 (by omega))
      have HN := Lib.hid (HFn.out T HD.out)
      have HR := Lib.hid HF.out.1
      clear HF HSt HDn HFn HMx HTl HT HD
      go_wp2_with fail
      go_loop [7] (fun i => ∃ n f : Nat, 0 < n ∧ n < NN ∧ n + f = s.size + 2 ∧ i = .int .i64 n ∧ Hid (X = fence s.data.toList f n)) (fun i => NN - (intOf i).toNat)
      case atStart => exact ⟨1, s.size + 1, by omega, (by have := HNN.out; omega), by omega, rfl, hfd⟩
      case round =>
        clear hfd
        obtain ⟨n, f, hn0, hn, hnf, rfl, HX⟩ := hrel
        obtain ⟨c1, f1⟩ := HR.out.cell hn
        have hnx := HN.out n f hn0 hn hnf
        have g2 : (n : Int) < (NN : Int) := by have := HNN.out; omega
        cases hT : T n with
        | true =>
          rw [hT] at c1
          obtain ⟨hlt2, he⟩ := hnx.1 hT
          have HX2 : Hid (X = fence s.data.toList (f - 1) (n + 1)) := Lib.hid (HX.out.trans he)
          clear hnx he HX HN HR hT
          go_wp2_with fail
          go_round
          case rel => exact ⟨n + 1, f - 1, by omega, by omega, by omega, by go_num, HX2⟩
          case measure => simp [intOf] <;> omega
        | false =>
          rw [hT] at c1
          have he := hnx.2 hT
          have HX2 : Hid (X = n) := Lib.hid (HX.out.trans he)
          have HBe := Lib.hid HR.out.below
          clear hnx he HX HN HR hT
          go_wp2_with fail
          go_ret
          exact ⟨ret_int (by rw [HX2.out]), HBe.out⟩
end Go.Proofs.YtldllbmbcnipoabGreatDoor.Sp
namespace Go.Proofs.YtldllbmbcnipoabGreatDoor.Sp
open Go.RowKit
open Go.Proofs.YtldllbmbcnipoabGreatDoor.Tk (S S_of S_list S_size S_toList S_app ret_int eq8 ne8 at_data len_data drop_all)
open Go.Proofs.YtldllbmbcnipoabGreatDoor.Cm (Keep own_keep cell_at)
set_option linter.unusedVariables false
def Bd (B b : Nat) (t : List UInt8) (w : World) : Prop := Lib.IsBuilder 42 5 B b (Lib.byteCells t) w
theorem Bd.begin (w : World) : Bd w.heap.size w.heap.size [] (w.alloc (.cells #[.pointer none, .slice none 0 0] 42)) := Lib.fresh_isBuilder 42 5 w
theorem Bd.below {B b : Nat} {t : List UInt8} {w w' : World} (h : Bd B b t w) (hb : Below w.heap.size w w') : Bd B b t w' := by
  have k : Keep (fun _ => False) w w' := Keep.of_below hb
  rcases h with h | h
  · obtain ⟨hB, v, hb, hown, hne⟩ := h
    exact Or.inl ⟨hB, v, k.at hb (fun h => h), own_keep hown k (fun _ _ h => h), hne⟩
  · obtain ⟨hB, v, hb, hown, hne⟩ := h
    exact Or.inr ⟨hB, v, k.at hb (fun h => h), own_keep hown k (fun _ _ h => h), hne⟩
theorem oth_below {b : Nat} {w w' : World} (hb : Below w.heap.size w w') : Lib.OthersKept 5 (some b) w w' := fun k o hk _ _ => (Keep.of_below (S := fun _ => False) hb).at hk (fun h => h)
structure BdAns (B b : Nat) (t : List UInt8) (w w' : World) : Prop where
  bd : Bd B b t w'
  bel : Below B w w'
  oth : Lib.OthersKept 5 (some b) w w'
theorem BdAns.trans {B b : Nat} {t t' : List UInt8} {w w' w'' : World} (h : BdAns B b t w w') (k : BdAns B b t' w' w'') : BdAns B b t' w w'' := ⟨k.bd, h.bel.trans k.bel, h.oth.trans k.oth⟩
theorem BdAns.refl {B b : Nat} {t : List UInt8} {w : World} (h : Bd B b t w) : BdAns B b t w w := ⟨h, Below.refl _ _, Lib.OthersKept.refl _ _ _⟩
theorem BdAns.more {B b : Nat} {t : List UInt8} {w w' w'' : World} (h : BdAns B b t w w') (hB : B ≤ w'.heap.size) (k : Below w'.heap.size w' w'') : BdAns B b t w w'' := ⟨h.bd.below k, h.bel.trans (k.mono hB), h.oth.trans (oth_below k)⟩
theorem BdAns.size {B b : Nat} {t : List UInt8} {w w' : World} (h : BdAns B b t w w') (hB : B ≤ w.heap.size) : B ≤ w'.heap.size := Nat.le_trans hB h.bel.size
theorem BdAns.span {B b : Nat} {t : List UInt8} {w w' : World} (h : BdAns B b t w w') {k : Nat} {c : Array Value} (hb : b ≠ k) (hk : w.heap[k]? = some (Obj.cells c 81 (0, 0))) : w'.heap[k]? = some (Obj.cells c 81 (0, 0)) :=
  h.oth k _ hk (fun e => hb (Option.some.inj e).symm) (fun c' fz e => by simp at e)
set_option maxHeartbeats 1000000 in
set_option maxRecDepth 100000 in
theorem byteW_any (B b : Nat) (t : List UInt8) (c : UInt8) (n : Int) (hn : n = c.toNat) (w : World) (h : Bd B b t w) (hlen : t.length ≤ 100000000) (hBw : B ≤ w.heap.size) :
    Calls Tryz.prog 41 #[.pointer (some ⟨b, 0, none⟩), .int .u8 n] w fun e w' => e = .returned .nilIface ∧ BdAns B b (t ++ [c]) w w' := by
  have hbc : Lib.byteCells (t ++ [c]) = Lib.byteCells t ++ [.int .u8 n] := by rw [Lib.byteCells_append, hn]; rfl
  have hbl : (Lib.byteCells t).length = t.length := Lib.byteCells_length t
  unfold Bd at h
  have HO : Hid (∀ w', Lib.IsBuilder 42 5 B b (Lib.byteCells t ++ [.int .u8 n]) w' → Below B w w' → Lib.OthersKept 5 (some b) w w' → BdAns B b (t ++ [c]) w w') := Lib.hid (fun w' h1 h2 h3 => ⟨by unfold Bd; rw [hbc]; exact h1, h2, h3⟩)
  clear hbc hn
  rw [← hbl] at hlen
  clear hbl
  generalize Lib.byteCells t = bs at *
  obtain ⟨i0, hi, hz0, hz1, hz2⟩ := info_parts infoB
  go_enter Tryz.func41, Tryz.ntmps41
  go_wp2_with fail
  refine (checkK_any B b bs w h).mono ?_
  rintro e w1 ⟨rfl, h1, hb1, hk1⟩
  obtain ⟨hB, v, hbk, hown, hne⟩ := h1
  have c0 : w1.cell? ⟨b, 0, none⟩ = some (.pointer (some ⟨b, 0, none⟩)) := by rw [Lib.cell_of_heap hbk]; rfl
  have c1 : w1.cell? ⟨b, 1, none⟩ = some v := by rw [Lib.cell_of_heap hbk]; rfl
  go_wp2_with (at_builtin; refine wpList_append_own _ rfl _ _ 40 rfl B 5 i0 (.int .u8 0) 1 1 Tryz.underlying40 hi hz0 hz1 hz2 rfl (by decide) _ _ _ rfl (hown.alloc _) ⟨w1.heap.size, 0, none⟩ 1 1 [.int .u8 n] rfl rfl ?c1 ?c2 ?c3 ?c4 ?c5 ?_)
  case c1 =>
    intro j u hj
    match j, hj with
    | 0, hj => simp at hj; subst hj; simp [Addr.add]
  case c2 => intro u hu; simp at hu; subst hu; rfl
  case c3 => unfold maxLen; omega
  case c4 => omega
  case c5 => have := hb1.size; simp; omega
  intro v' w2 hown' hgrow _
  have hlt : b < w1.heap.size := by
    rcases Nat.lt_or_ge b w1.heap.size with h' | h'
    · exact h'
    · simp [Array.getElem?_eq_none h'] at hbk
  have hb2 : w2.heap[b]? = some (.cells #[.pointer (some ⟨b, 0, none⟩), v] 42 (0, 0)) := by
    rw [hgrow.block b (by simp; omega) (fun e => hne e.symm), Lib.alloc_old w1 _ b hlt]
    exact hbk
  have d0 : w2.cell? ⟨b, 0, none⟩ = some (.pointer (some ⟨b, 0, none⟩)) := by rw [Lib.cell_of_heap hb2]; rfl
  have d1 : w2.cell? ⟨b, 1, none⟩ = some v := by rw [Lib.cell_of_heap hb2]; rfl
  have f1 : w2.frozen? ⟨b, 1, none⟩ = false := Lib.frozen_of_heap hb2 1
  obtain ⟨g, cap, rfl⟩ : ∃ g cap, v' = .slice (some ⟨g, 0, none⟩) (bs.length + 1) cap := by
    rcases hown'.2 with ⟨_, h0⟩ | ⟨g, cap, cur, hv, _⟩
    · omega
    · exact ⟨g, cap, hv⟩
  go_wp2
  go_ret
  refine ⟨rfl, HO.out _ (Or.inr ?_) ?_ ?_⟩
  · exact Lib.BuilderAt.put (T := 42) (e := 5) hB hb2 (bs' := bs ++ [.int .u8 n]) (by simpa using hown') (by decide)
  · exact ((hb1.alloc (by have := hb1.size; omega) _).grown hgrow (by have := hb1.size; simp; omega) (fun k hk => (hown.lt k hk).1)).setCell (p := ⟨b, 1, none⟩) hB _
  · exact ((hk1.alloc _).grown hgrow (ownsRow_kind (hown.alloc _))).setCell ⟨b, 1, none⟩ rfl _
theorem textW_any (B b : Nat) (t : List UInt8) (s : ByteArray) (w : World) (h : Bd B b t w) (hlen : t.length + s.size ≤ 100000000) (hBw : B ≤ w.heap.size) :
    Calls Tryz.prog 39 #[.pointer (some ⟨b, 0, none⟩), .string s] w fun e w' => e = .returned (.tuple #[.int .i64 s.size, .nilIface]) ∧ BdAns B b (t ++ s.data.toList) w w' := by
  refine (writeS_any B b (Lib.byteCells t) s w h (by rw [Lib.byteCells_length]; omega) hBw).mono ?_
  rintro e w' ⟨rfl, h1, h2, h3⟩
  refine ⟨rfl, ?_, h2, h3⟩
  unfold Bd
  rw [Lib.byteCells_append, ← Lib.strCells_eq]
  exact Or.inr h1
theorem stringW_any (B b : Nat) (t : List UInt8) (w : World) (h : Bd B b t w) (hBw : B ≤ w.heap.size) :
    Calls Tryz.prog 13 #[.pointer (some ⟨b, 0, none⟩)] w fun e w' => e = .returned (.string (S t)) ∧ Below B w w' :=
  Tryz.Builder_String_any B b t w h hBw
end Go.Proofs.YtldllbmbcnipoabGreatDoor.Sp
namespace Go.Proofs.YtldllbmbcnipoabGreatDoor.Sp
open Go.RowKit
open Go.Proofs.YtldllbmbcnipoabGreatDoor.Tk (S S_of S_list S_size S_toList S_app ret_int eq8 ne8 at_data len_data drop_all)
set_option linter.unusedVariables false
theorem marked_find (c : UInt8) : decide (0 ≤ Lib.indexByte [92, 42, 91, 93, 35, 62, 45, 96] c) = marked c := by
  rw [← Lib.contains_iff_indexByte]
  rfl
theorem u8_back9 (c : UInt8) : ((c.toNat : Int)).toNat.toUInt8 = c := by simp
set_option maxHeartbeats 1600000 in
theorem writeTextP_any (B b : Nat) (t : List UInt8) (s : ByteArray) (w : World) (h : Bd B b t w) (hlen : t.length + 2 * s.size ≤ 10000000) (hBw : B ≤ w.heap.size) :
    Calls Tryz.prog 160 #[.pointer (some ⟨b, 0, none⟩), .string s] w fun e w' => e = .returned (.tuple #[]) ∧ BdAns B b (t ++ esc s.data.toList) w w' := by
  have H0 : Hid (BdAns B b (t ++ []) w w ∧ esc s.data.toList = [] ++ esc (s.data.toList.drop 0)) := Lib.hid ⟨by rw [List.append_nil]; exact BdAns.refl h, by rw [List.drop_zero]; rfl⟩
  have HAt := Lib.hid (at_data s)
  obtain ⟨X, hX⟩ : ∃ X, esc s.data.toList = X := ⟨_, rfl⟩
  rw [hX] at H0
  rw [hX]
  clear hX h
  go_enter Tryz.func160, Tryz.ntmps160
  go_wp2_with fail
  go_loopw [7] (fun i wr => ∃ (k : Nat) (p : List UInt8), k ≤ s.size ∧ p.length ≤ 2 * k ∧ i = .int .i64 k ∧ Hid (BdAns B b (t ++ p) w wr ∧ X = p ++ esc (s.data.toList.drop k))) (fun i _ => s.size - (intOf i).toNat)
  case atStart => exact ⟨0, [], Nat.zero_le _, Nat.zero_le _, rfl, H0⟩
  case round =>
    clear H0
    obtain ⟨k, p, hk, hp, rfl, HN⟩ := hrel
    have hsz := HN.out.1.bel.size
    by_cases hlt : k < s.size
    · have hi1 : (k : Int) < (s.size : Int) := by omega
      have hnx := HN.out.2
      rw [HAt.out k hlt, esc_cons] at hnx
      have HI := Lib.hid (fun w => Tryz.strings_IndexByte ⟨#[92, 42, 91, 93, 35, 62, 45, 96]⟩ (s[k].toNat : Int) w)
      rw [u8_back9] at HI
      have HM : Hid (decide (0 ≤ Lib.indexByte (⟨#[92, 42, 91, 93, 35, 62, 45, 96]⟩ : ByteArray).data.toList s[k]) = marked s[k]) := Lib.hid (marked_find s[k])
      have hlp : (t ++ p).length ≤ 10000000 := by rw [List.length_append]; omega
      generalize Lib.indexByte (⟨#[92, 42, 91, 93, 35, 62, 45, 96]⟩ : ByteArray).data.toList s[k] = ix at *
      cases hm : marked s[k] with
      | true =>
        rw [hm, if_pos rfl] at hnx
        have e1 : (0 : Int) ≤ ix := of_decide_eq_true (HM.out.trans hm)
        have HW := Lib.hid (byteW_any B b (t ++ p) 92 92 rfl wr HN.out.1.bd (by omega) (by omega))
        have HN2 := Lib.hid (fun w2 (h : Bd B b (t ++ p ++ [92]) w2) (hs : B ≤ w2.heap.size) => byteW_any B b (t ++ p ++ [92]) s[k] _ rfl w2 h (by rw [List.length_append, List.length_cons, List.length_nil]; omega) hs)
        have HX := Lib.hid hnx
        have HB := Lib.hid HN.out.1
        clear hnx HN HM hm HAt
        go_wp2_with fail
        refine (HI.out _).mono ?_
        rintro e w2 ⟨rfl, rfl⟩
        clear HI
        go_wp2_with fail
        refine HW.out.mono ?_
        rintro e w3 ⟨rfl, b3⟩
        have HW2 := Lib.hid (HN2.out w3 b3.bd (Nat.le_trans (Nat.le_trans hBw hsz) b3.bel.size))
        have HB3 := Lib.hid (HB.out.trans b3)
        clear b3 HW HN2 HB
        go_wp2_with fail
        refine HW2.out.mono ?_
        rintro e w4 ⟨rfl, b4⟩
        have HN4 : Hid (BdAns B b (t ++ (p ++ [92, s[k]])) w w4 ∧ X = (p ++ [92, s[k]]) ++ esc (s.data.toList.drop (k + 1))) := Lib.hid ⟨by simpa using HB3.out.trans b4, by rw [HX.out, List.append_assoc]⟩
        clear b4 HW2 HB3 HX
        go_wp2_with fail
        go_roundw
        case rel => exact ⟨k + 1, p ++ [92, s[k]], by omega, by rw [List.length_append, List.length_cons, List.length_cons, List.length_nil]; omega, by go_num, HN4⟩
        case measure => simp [intOf] <;> omega
      | false =>
        rw [hm, if_neg (by simp)] at hnx
        have e1 : ¬ (0 : Int) ≤ ix := of_decide_eq_false (HM.out.trans hm)
        have HW2 := Lib.hid (byteW_any B b (t ++ p) s[k] _ rfl wr HN.out.1.bd (by omega) (by omega))
        have HX := Lib.hid hnx
        have HB3 := Lib.hid HN.out.1
        clear hnx HN HM hm HAt
        go_wp2_with fail
        refine (HI.out _).mono ?_
        rintro e w2 ⟨rfl, rfl⟩
        clear HI
        go_wp2_with fail
        refine HW2.out.mono ?_
        rintro e w4 ⟨rfl, b4⟩
        have HN4 : Hid (BdAns B b (t ++ (p ++ [s[k]])) w w4 ∧ X = (p ++ [s[k]]) ++ esc (s.data.toList.drop (k + 1))) := Lib.hid ⟨by simpa using HB3.out.trans b4, by rw [HX.out, List.append_assoc]⟩
        clear b4 HW2 HB3 HX
        go_wp2_with fail
        go_roundw
        case rel => exact ⟨k + 1, p ++ [s[k]], by omega, by rw [List.length_append, List.length_cons, List.length_nil]; omega, by go_num, HN4⟩
        case measure => simp [intOf] <;> omega
    · have hi1 : ¬ (k : Int) < (s.size : Int) := by omega
      have hx := HN.out.2
      rw [drop_all s _ hlt] at hx
      have HR : Hid (BdAns B b (t ++ X) w wr) := Lib.hid (by rw [hx]; simpa [esc] using HN.out.1)
      clear HN HAt hx
      go_wp2_with fail
      go_end0
      exact ⟨rfl, HR.out⟩
end Go.Proofs.YtldllbmbcnipoabGreatDoor.Sp
namespace Go.Proofs.YtldllbmbcnipoabGreatDoor.Sp
open Go.RowKit
open Go.Proofs.YtldllbmbcnipoabGreatDoor.Tk (S S_of S_list S_size S_toList S_app ret_int eq8 ne8 at_data len_data drop_all)
set_option linter.unusedVariables false
def padB (s : List UInt8) : Bool := decide (s.head? = some 96) || decide (s.getLast? = some 96) || (decide (s.head? = some 32) && decide (s.getLast? = some 32) && !onlySp s)
theorem padded_yes9 {s : List UInt8} (h : padB s = true) : padded s = 32 :: (s ++ [32]) := by
  unfold padB at h
  refine if_pos ?_
  simp only [Bool.or_eq_true, Bool.and_eq_true, decide_eq_true_eq, Bool.not_eq_true'] at h
  rcases h with (h | h) | ⟨⟨h1, h2⟩, h3⟩
  · exact Or.inl h
  · exact Or.inr (Or.inl h)
  · exact Or.inr (Or.inr ⟨h3, h1, h2⟩)
theorem padded_no9 {s : List UInt8} (h : padB s = false) : padded s = s := by
  unfold padB at h
  refine if_neg ?_
  intro h'
  simp only [Bool.or_eq_false_iff, Bool.and_eq_false_iff, decide_eq_false_iff_not, Bool.not_eq_false'] at h
  obtain ⟨⟨h1, h2⟩, h3⟩ := h
  rcases h' with h' | h' | ⟨g1, g2, g3⟩
  · exact h1 h'
  · exact h2 h'
  · rcases h3 with (h3 | h3) | h3
    · exact h3 g2
    · exact h3 g3
    · rw [g1] at h3; cases h3
set_option maxHeartbeats 1600000 in
theorem padP_any (s : ByteArray) (hs : s.size ≤ 1000000) (w : World) :
    Calls Tryz.prog 178 #[.string s] w fun e w' => e = .returned (.bool (padB s.data.toList)) ∧ ∃ n, w' = w.drewN n := by
  have HP1 := Lib.hid (fun w => prefix_any s 96 (by omega) w)
  have HQ1 := Lib.hid (fun w => suffix_any s 96 (by omega) w)
  have HP2 := Lib.hid (fun w => prefix_any s 32 (by omega) w)
  have HQ2 := Lib.hid (fun w => suffix_any s 32 (by omega) w)
  have HT := Lib.hid (fun w => Tryz.strings_Trim_one s 32 (by decide) w (by omega))
  have HB := Lib.hid (trim_bne s)
  rw [show (oneS 96) = (⟨#[96]⟩ : ByteArray) from rfl] at HP1 HQ1
  rw [show (oneS 32) = (⟨#[32]⟩ : ByteArray) from rfl] at HP2 HQ2
  unfold padB
  generalize decide (s.data.toList.head? = some 96) = p1 at *
  generalize decide (s.data.toList.getLast? = some 96) = q1 at *
  generalize decide (s.data.toList.head? = some 32) = p2 at *
  generalize decide (s.data.toList.getLast? = some 32) = q2 at *
  generalize onlySp s.data.toList = o at *
  generalize (⟨(Lib.trimB s.data.toList 32).toArray⟩ : ByteArray) = t at *
  cases p1 with
  | true =>
    clear HQ1 HP2 HQ2 HT HB
    go_enter Tryz.func178, Tryz.ntmps178
    go_wp2_with fail
    refine (HP1.out _).mono ?_
    rintro e w2 ⟨rfl, rfl⟩
    go_wp2_with fail
    go_ret
    exact ⟨rfl, 0, rfl⟩
  | false =>
    cases q1 with
    | true =>
      clear HP2 HQ2 HT HB
      go_enter Tryz.func178, Tryz.ntmps178
      go_wp2_with fail
      refine (HP1.out _).mono ?_
      rintro e w2 ⟨rfl, rfl⟩
      go_wp2_with fail
      refine (HQ1.out _).mono ?_
      rintro e w2 ⟨rfl, rfl⟩
      go_wp2_with fail
      go_ret
      exact ⟨rfl, 0, rfl⟩
    | false =>
      cases p2 with
      | false =>
        clear HQ2 HT HB
        go_enter Tryz.func178, Tryz.ntmps178
        go_wp2_with fail
        refine (HP1.out _).mono ?_
        rintro e w2 ⟨rfl, rfl⟩
        go_wp2_with fail
        refine (HQ1.out _).mono ?_
        rintro e w2 ⟨rfl, rfl⟩
        go_wp2_with fail
        refine (HP2.out _).mono ?_
        rintro e w2 ⟨rfl, rfl⟩
        go_wp2_with fail
        go_ret
        exact ⟨rfl, 0, rfl⟩
      | true =>
        cases q2 with
        | false =>
          clear HT HB
          go_enter Tryz.func178, Tryz.ntmps178
          go_wp2_with fail
          refine (HP1.out _).mono ?_
          rintro e w2 ⟨rfl, rfl⟩
          go_wp2_with fail
          refine (HQ1.out _).mono ?_
          rintro e w2 ⟨rfl, rfl⟩
          go_wp2_with fail
          refine (HP2.out _).mono ?_
          rintro e w2 ⟨rfl, rfl⟩
          go_wp2_with fail
          refine (HQ2.out _).mono ?_
          rintro e w2 ⟨rfl, rfl⟩
          go_wp2_with fail
          go_ret
          exact ⟨rfl, 0, rfl⟩
        | true =>
          have hb' := HB.out
          have hb2 : (t.toList == ([] : List UInt8)) = o := by
            rw [bne] at hb'
            cases h : (t.toList == ([] : List UInt8)) <;> cases o <;> simp_all
          clear HB
          cases o
          · go_enter Tryz.func178, Tryz.ntmps178
            go_wp2_with fail
            refine (HP1.out _).mono ?_
            rintro e w2 ⟨rfl, rfl⟩
            go_wp2_with fail
            refine (HQ1.out _).mono ?_
            rintro e w2 ⟨rfl, rfl⟩
            go_wp2_with fail
            refine (HP2.out _).mono ?_
            rintro e w2 ⟨rfl, rfl⟩
            go_wp2_with fail
            refine (HQ2.out _).mono ?_
            rintro e w2 ⟨rfl, rfl⟩
            go_wp2_with fail
            refine (HT.out _).mono ?_
            rintro e w2 ⟨rfl, hw⟩
            have HW : Hid (∃ n, w2 = w.drewN n) := Lib.hid (by rcases hw with rfl | rfl; exact ⟨0, rfl⟩; exact ⟨1, rfl⟩)
            clear hw
            go_wp2_with fail
            go_ret
            exact ⟨rfl, HW.out⟩
          · go_enter Tryz.func178, Tryz.ntmps178
            go_wp2_with fail
            refine (HP1.out _).mono ?_
            rintro e w2 ⟨rfl, rfl⟩
            go_wp2_with fail
            refine (HQ1.out _).mono ?_
            rintro e w2 ⟨rfl, rfl⟩
            go_wp2_with fail
            refine (HP2.out _).mono ?_
            rintro e w2 ⟨rfl, rfl⟩
            go_wp2_with fail
            refine (HQ2.out _).mono ?_
            rintro e w2 ⟨rfl, rfl⟩
            go_wp2_with fail
            refine (HT.out _).mono ?_
            rintro e w2 ⟨rfl, hw⟩
            have HW : Hid (∃ n, w2 = w.drewN n) := Lib.hid (by rcases hw with rfl | rfl; exact ⟨0, rfl⟩; exact ⟨1, rfl⟩)
            clear hw
            go_wp2_with fail
            go_ret
            exact ⟨rfl, HW.out⟩
theorem repeat_rep9 (c : UInt8) : ∀ h, Lib.repeatL [c] h = List.replicate h c
  | 0 => rfl
  | h + 1 => by
    show [c] ++ Lib.repeatL [c] h = _
    rw [repeat_rep9 c h, List.replicate_succ]
    rfl
set_option maxHeartbeats 1600000 in
theorem writeCodeP_any (B b : Nat) (t s : List UInt8) (w : World) (h : Bd B b t w) (hlen : t.length + 3 * s.length + 20 ≤ 10000000) (hs : s.length ≤ 1000000) (hBw : B ≤ w.heap.size) :
    Calls Tryz.prog 161 #[.pointer (some ⟨b, 0, none⟩), .string (S s)] w fun e w' => e = .returned (.tuple #[]) ∧ BdAns B b (t ++ (List.replicate (ticksOf s) 96 ++ (padded s ++ List.replicate (ticksOf s) 96))) w w' := by
  have hF := fenceP_any (S s) (by rw [S_size]; exact hs) w
  have hP := fun w => padP_any (S s) (by rw [S_size]; exact hs) w
  have htk := ticksOf_le s
  have hpl := padded_le s
  have HR := Lib.hid (fun w => Tryz.strings_Repeat (S [96]) (ticksOf s) w (by omega) (by rw [S_size]; show 1 * _ ≤ _; omega))
  rw [S_list, repeat_rep9] at HR
  have HR2 : Hid (∀ w, Calls Tryz.prog 92 #[.string ⟨#[96]⟩, .int .i64 (ticksOf s : Nat)] w fun e w' => e = .returned (.string (S (List.replicate (ticksOf s) 96))) ∧ Below w.heap.size w w') := HR
  rw [S_list] at hF hP
  have HY : Hid (padB s = true → padded s = 32 :: (s ++ [32])) := Lib.hid padded_yes9
  have HN : Hid (padB s = false → padded s = s) := Lib.hid padded_no9
  have HF := Lib.hid hF
  have HP := Lib.hid hP
  have H0 := Lib.hid (BdAns.refl h)
  have hfl : (List.replicate (ticksOf s) (96 : UInt8)).length = ticksOf s := List.length_replicate
  clear HR hF hP h
  generalize List.replicate (ticksOf s) (96 : UInt8) = f at *
  generalize ticksOf s = tk at *
  have HW1 := Lib.hid (fun (w' : World) (h : BdAns B b t w w') => textW_any B b t (S f) w' h.bd (by rw [S_size]; omega) (h.size hBw))
  have HW2 := Lib.hid (fun (w' : World) (x : List UInt8) (h : BdAns B b (t ++ f) w w') (hx : x.length ≤ s.length + 2) => textW_any B b (t ++ f) (S x) w' h.bd (by rw [S_size, List.length_append]; omega) (h.size hBw))
  have HW3 := Lib.hid (fun (w' : World) (x : List UInt8) (h : BdAns B b ((t ++ f) ++ x) w w') (hx : x.length ≤ s.length + 2) => textW_any B b ((t ++ f) ++ x) (S f) w' h.bd (by rw [S_size, List.length_append, List.length_append]; omega) (h.size hBw))
  simp only [S_list] at HW1 HW2 HW3
  have zs : (S s).size = s.length := S_size _
  have z32 : (⟨#[32]⟩ : ByteArray).size = 1 := rfl
  have y1 : ((⟨#[32]⟩ : ByteArray) ++ S s).size = 1 + s.length := by rw [ByteArray.size_append, z32, zs]
  have gg1 : ¬ 9223372036854775807 < (⟨#[32]⟩ : ByteArray).size + (S s).size := by omega
  have gg2 : ¬ 9223372036854775807 < ((⟨#[32]⟩ : ByteArray) ++ S s).size + (⟨#[32]⟩ : ByteArray).size := by omega
  have hap : Hid (((⟨#[32]⟩ : ByteArray) ++ S s) ++ (⟨#[32]⟩ : ByteArray) = S (32 :: (s ++ [32]))) := Lib.hid (by
    rw [show (⟨#[32]⟩ : ByteArray) = S [32] from rfl, S_app, S_app]
    rfl)
  have HlF := Lib.hid hlen
  clear hlen htk
  go_enter Tryz.func161, Tryz.ntmps161
  go_wp2_with fail
  refine HF.out.mono ?_
  rintro e w1 ⟨rfl, b1⟩
  have H1 := Lib.hid (H0.out.more (H0.out.size hBw) b1)
  clear b1 HF H0
  go_wp2_with fail
  refine (HR2.out _).mono ?_
  rintro e w2 ⟨rfl, b2⟩
  have H2 := Lib.hid (H1.out.more (H1.out.size hBw) b2)
  clear b2 HR2 H1
  go_wp2_with fail
  refine (HW1.out _ H2.out).mono ?_
  rintro e w3 ⟨rfl, b3⟩
  have H3 := Lib.hid (H2.out.trans b3)
  clear b3 HW1 H2
  go_wp2_with fail
  refine (HP.out _).mono ?_
  rintro e w4 ⟨rfl, hn4⟩
  have H4 : Hid (BdAns B b (t ++ f) w w4) := Lib.hid (by
    obtain ⟨n4, rfl⟩ := hn4
    exact H3.out.more (H3.out.size hBw) (below_drewN (Below.refl _ _) n4))
  clear hn4 HP H3
  cases hp : padB s with
  | true =>
    have hy := HY.out hp
    rw [hy] at hpl
    have HB2 := Lib.hid (HW2.out w4 (32 :: (s ++ [32])) H4.out hpl)
    rw [← hap.out] at HB2
    have HB3 := Lib.hid (fun (w' : World) (h : BdAns B b ((t ++ f) ++ (32 :: (s ++ [32]))) w w') => HW3.out w' _ h hpl)
    have HE : Hid (∀ w', BdAns B b (((t ++ f) ++ (32 :: (s ++ [32]))) ++ f) w w' → BdAns B b (t ++ (f ++ (padded s ++ f))) w w') := Lib.hid (fun w' h => by
      rw [hy]; simpa using h)
    clear hy HY HN hp HW2 HW3 hap hpl
    go_wp2_with fail
    refine HB2.out.mono ?_
    rintro e w5 ⟨rfl, b5⟩
    have H5 := Lib.hid (H4.out.trans b5)
    clear b5 HB2 H4
    go_wp2_with fail
    refine (HB3.out _ H5.out).mono ?_
    rintro e w6 ⟨rfl, b6⟩
    have H6 := Lib.hid (HE.out _ (H5.out.trans b6))
    clear b6 HB3 H5 HE
    go_wp2_with fail
    go_end0
    exact ⟨rfl, H6.out⟩
  | false =>
    have hy := HN.out hp
    have HB2 := Lib.hid (HW2.out w4 s H4.out (by omega))
    have HB3 := Lib.hid (fun (w' : World) (h : BdAns B b ((t ++ f) ++ s) w w') => HW3.out w' _ h (by omega))
    have HE : Hid (∀ w', BdAns B b (((t ++ f) ++ s) ++ f) w w' → BdAns B b (t ++ (f ++ (padded s ++ f))) w w') := Lib.hid (fun w' h => by
      rw [hy]; simpa using h)
    clear hy HY HN hp HW2 HW3 hap hpl
    go_wp2_with fail
    refine HB2.out.mono ?_
    rintro e w5 ⟨rfl, b5⟩
    have H5 := Lib.hid (H4.out.trans b5)
    clear b5 HB2 H4
    go_wp2_with fail
    refine (HB3.out _ H5.out).mono ?_
    rintro e w6 ⟨rfl, b6⟩
    have H6 := Lib.hid (HE.out _ (H5.out.trans b6))
    clear b6 HB3 H5 HE
    go_wp2_with fail
    go_end0
    exact ⟨rfl, H6.out⟩
end Go.Proofs.YtldllbmbcnipoabGreatDoor.Sp
namespace Go.Proofs.YtldllbmbcnipoabGreatDoor.Sp
open Go.RowKit
open Go.Proofs.YtldllbmbcnipoabGreatDoor.Tk (S S_of S_list S_size S_toList S_app ret_int eq8 ne8 at_data len_data drop_all)
open Go.Proofs.YtldllbmbcnipoabGreatDoor.Cm (Keep own_keep cell_at alloc_new alloc_at lt_of_at)
set_option linter.unusedVariables false
theorem Bd.lt {B b : Nat} {t : List UInt8} {w : World} (h : Bd B b t w) : b < w.heap.size := by
  rcases h with h | h
  · exact h.lt
  · exact h.lt
set_option maxHeartbeats 6400000 in
set_option maxRecDepth 100000 in
theorem writeAllP_any (w0 : World) (b m : Nat) : ∀ (l : List Sp) (v : Value) (t : List UInt8) (w : World), totAll l ≤ m → m ≤ 100000 → Tr w0 v l → Below w0.heap.size w0 w → Bd w0.heap.size b t w → t.length + (wrs l).length ≤ 1000000 →
    Calls Tryz.prog 138 #[.pointer (some ⟨b, 0, none⟩), v] w fun e w' => e = .returned (.tuple #[]) ∧ BdAns w0.heap.size b (t ++ wrs l) w w' := by
  induction m using Nat.strongRecOn with
  | ind m ih =>
    intro l v t w hm hM ht hbw hbd hlen
    obtain ⟨ao, ca, rfl⟩ := ht.len
    have HT := Lib.hid ht
    have hshort := ht.short
    have HBW := Lib.hid hbw
    have hBw : w0.heap.size ≤ w.heap.size := hbw.size
    have HIH : Hid (∀ k (hk : k < l.length) (v' : Value) (t' : List UInt8) (w' : World), Tr w0 v' l[k].kids → Below w0.heap.size w0 w' → Bd w0.heap.size b t' w' → t'.length + (wrs l[k].kids).length ≤ 1000000 → Calls Tryz.prog 138 #[.pointer (some ⟨b, 0, none⟩), v'] w' fun e w'' => e = .returned (.tuple #[]) ∧ BdAns w0.heap.size b (t' ++ wrs l[k].kids) w' w'') := Lib.hid (fun k hk v' t' w' ht' hb' hd' hl' => by
      have h := totAll_kids (List.getElem_mem hk)
      exact ih (totAll l[k].kids) (Nat.lt_of_lt_of_le h hm) l[k].kids v' t' w' (Nat.le_refl _) (by omega) ht' hb' hd' hl')
    have HSz : Hid (∀ k (hk : k < l.length), l[k].s.length ≤ 100000) := Lib.hid (fun k hk => by
      have h1 := totAll_mem (List.getElem_mem hk)
      rw [totOne_eq] at h1
      omega)
    have H0 : Hid (BdAns w0.heap.size b (t ++ []) w w ∧ wrs l = [] ++ wrs (l.drop 0)) := Lib.hid ⟨by rw [List.append_nil]; exact BdAns.refl hbd, by rw [List.drop_zero]; rfl⟩
    obtain ⟨X, hX⟩ : ∃ X, wrs l = X := ⟨_, rfl⟩
    rw [hX] at H0 hlen
    rw [hX]
    clear ih ht hm hX hM hbw hbd
    have HTk : Hid (∀ k (hk : k < l.length), ∃ bb o ak ck, ao = some ⟨bb, o, none⟩ ∧ ∀ W, Below w0.heap.size w0 W → W.cell? ⟨bb, o + k * 3, none⟩ = some (.int .i64 l[k].kind) ∧ W.cell? ⟨bb, o + k * 3 + 1, none⟩ = some (.string (S l[k].s)) ∧ W.cell? ⟨bb, o + k * 3 + 2, none⟩ = some (.slice ak l[k].kids.length ck) ∧ Tr w0 (.slice ak l[k].kids.length ck) l[k].kids) := Lib.hid (fun k hk => by
      obtain ⟨bb, o, ak, ck, hao, hbb, hC⟩ := HT.out.at k hk
      refine ⟨bb, o, ak, ck, hao, fun W hW => ⟨(hW.cell (by exact hbb)).trans hC.kind, (hW.cell (by exact hbb)).trans hC.s, (hW.cell (by exact hbb)).trans hC.kids, hC.tr⟩⟩)
    clear HT
    generalize hBB : w0.heap.size = B at *
    go_enter Tryz.func138, Tryz.ntmps138
    go_wp2_with fail
    go_loopw [8] (fun i wr => ∃ (k : Nat) (p : List UInt8), k ≤ l.length ∧ i = .int .i64 k ∧ Hid (BdAns B b (t ++ p) w wr ∧ X = p ++ wrs (l.drop k))) (fun i _ => l.length - (intOf i).toNat)
    case atStart => exact ⟨0, [], Nat.zero_le _, rfl, H0⟩
    case round =>
      clear H0
      obtain ⟨k, p, hk, rfl, HN⟩ := hrel
      by_cases hlt : k < l.length
      · have hnx := HN.out.2
        rw [drop_cons l k hlt, wrs_cons, wr1_eq] at hnx
        have hi1 : (k : Int) < (l.length : Int) := by omega
        have hBr : B ≤ wr.heap.size := HN.out.1.size hBw
        have hbr : Below B w0 wr := HBW.out.trans HN.out.1.bel
        obtain ⟨bb, o, ak, ck, rfl, hC⟩ := HTk.out k hlt
        obtain ⟨c0, c1, c2, htr⟩ := hC wr hbr
        have HTr := Lib.hid htr
        have HI2 := Lib.hid (HIH.out k hlt)
        have hs := HSz.out k hlt
        have hall := congrArg List.length hnx
        simp only [List.length_append] at hall
        have HQ := Lib.hid hnx
        have HA := Lib.hid HN.out.1
        clear hnx HN hC htr HTk HIH HSz
        generalize l[k].kids = kids at *
        generalize l[k].kind = z at *
        generalize l[k].s = s at *
        go_upto_region 3 with fail
        have HC1 := Lib.hid (alloc_new wr (.cells #[.int .i64 z, .string (S s), .slice ak kids.length ck] 81))
        have hb1 : Below wr.heap.size wr (wr.alloc (.cells #[.int .i64 z, .string (S s), .slice ak kids.length ck] 81)) := (Below.refl wr.heap.size wr).alloc (Nat.le_refl _) _
        have HA1 := Lib.hid (HA.out.more hBr hb1)
        have hb2 : Below B w0 (wr.alloc (.cells #[.int .i64 z, .string (S s), .slice ak kids.length ck] 81)) := hbr.trans (hb1.mono hBr)
        have hne : b ≠ wr.heap.size := by have := HA.out.bd.lt; omega
        have hB1 : B ≤ (wr.alloc (.cells #[.int .i64 z, .string (S s), .slice ak kids.length ck] 81)).heap.size := HA1.out.size hBw
        have HBE := Lib.hid hb2
        clear hb1 hb2 HA c0 c1 c2 hbr hBr
        generalize wr.alloc (.cells #[.int .i64 z, .string (S s), .slice ak kids.length ck] 81) = w1 at *
        generalize wr.heap.size = n at *
        have k0 : w1.cell? ⟨n, 0, none⟩ = some (.int .i64 z) := cell_at HC1.out 0
        have k1 : w1.cell? ⟨n, 1, none⟩ = some (.string (S s)) := cell_at HC1.out 1
        have k2 : w1.cell? ⟨n, 2, none⟩ = some (.slice ak kids.length ck) := cell_at HC1.out 2
        have zs : (S s).size = s.length := S_size _
        have hlp : (t ++ p).length = t.length + p.length := List.length_append
        by_cases q1 : z = 1
        · have f1 : (z == 1) = true := by rw [q1]; rfl
          rw [if_pos q1] at hall
          have HE := Lib.hid (writeTextP_any B b (t ++ p) (S s) w1 HA1.out.bd (by rw [zs]; omega) hB1)
          rw [S_list] at HE
          have HR : Hid (∀ w', BdAns B b ((t ++ p) ++ esc s) w1 w' → BdAns B b (t ++ (p ++ esc s)) w w' ∧ X = (p ++ esc s) ++ wrs (l.drop (k + 1))) := Lib.hid (fun w' h => ⟨by have := HA1.out.trans h; simpa using this, by rw [HQ.out, if_pos q1, List.append_assoc]⟩)
          generalize esc s = y at *
          clear HQ hall q1 HI2 HTr HC1 HA1 HBE HBW
          go_wp2_with fail
          refine HE.out.mono ?_
          rintro e w2 ⟨rfl, b2⟩
          have HR2 := Lib.hid (HR.out w2 b2)
          clear HE b2 HR k0 k1 k2
          go_wp2_with fail
          go_roundw
          case rel => exact ⟨k + 1, p ++ y, by omega, by go_num, HR2⟩
          case measure => simp [intOf] <;> omega
        · have f1 : (z == 1) = false := by rw [beq_eq_false_iff_ne]; exact q1
          rw [if_neg q1] at hall
          by_cases q2 : z = 2
          · have f2 : (z == 2) = true := by rw [q2]; rfl
            rw [if_pos q2] at hall
            have HE := Lib.hid (writeCodeP_any B b (t ++ p) s w1 HA1.out.bd (by omega) (by omega) hB1)
            have HR : Hid (∀ w', BdAns B b ((t ++ p) ++ (List.replicate (ticksOf s) 96 ++ (padded s ++ List.replicate (ticksOf s) 96))) w1 w' → BdAns B b (t ++ (p ++ (List.replicate (ticksOf s) 96 ++ (padded s ++ List.replicate (ticksOf s) 96)))) w w' ∧ X = (p ++ (List.replicate (ticksOf s) 96 ++ (padded s ++ List.replicate (ticksOf s) 96))) ++ wrs (l.drop (k + 1))) := Lib.hid (fun w' h => ⟨by have := HA1.out.trans h; simpa using this, by rw [HQ.out, if_neg q1, if_pos q2]; simp⟩)
            generalize List.replicate (ticksOf s) 96 ++ (padded s ++ List.replicate (ticksOf s) 96) = y at *
            clear HQ hall q1 q2 HI2 HTr HC1 HA1 HBE HBW
            go_wp2_with fail
            refine HE.out.mono ?_
            rintro e w2 ⟨rfl, b2⟩
            have HR2 := Lib.hid (HR.out w2 b2)
            clear HE b2 HR k0 k1 k2
            go_wp2_with fail
            go_roundw
            case rel => exact ⟨k + 1, p ++ y, by omega, by go_num, HR2⟩
            case measure => simp [intOf] <;> omega
          · have f2 : (z == 2) = false := by rw [beq_eq_false_iff_ne]; exact q2
            rw [if_neg q2] at hall
            by_cases q3 : z = 3
            · have f3 : (z == 3) = true := by rw [q3]; rfl
              rw [if_pos q3] at hall
              simp only [List.length_append, List.length_cons, List.length_nil] at hall
              have HE := Lib.hid (byteW_any B b (t ++ p) 42 42 rfl w1 HA1.out.bd (by omega) hB1)
              have HI3 := Lib.hid (fun (w2 : World) (h : BdAns B b ((t ++ p) ++ [42]) w1 w2) => HI2.out (.slice ak kids.length ck) ((t ++ p) ++ [42]) w2 HTr.out (HBE.out.trans h.bel) h.bd (by simp only [List.length_append, List.length_cons, List.length_nil]; omega))
              have HE2 := Lib.hid (fun (w3 : World) (h : BdAns B b (((t ++ p) ++ [42]) ++ wrs kids) w1 w3) => byteW_any B b (((t ++ p) ++ [42]) ++ wrs kids) 42 42 rfl w3 h.bd (by simp only [List.length_append, List.length_cons, List.length_nil]; omega) (h.size hB1))
              have HR : Hid (∀ w', BdAns B b ((((t ++ p) ++ [42]) ++ wrs kids) ++ [42]) w1 w' → BdAns B b (t ++ (p ++ (42 :: (wrs kids ++ [42])))) w w' ∧ X = (p ++ (42 :: (wrs kids ++ [42]))) ++ wrs (l.drop (k + 1))) := Lib.hid (fun w' h => ⟨by have := HA1.out.trans h; simpa using this, by rw [HQ.out, if_neg q1, if_neg q2, if_pos q3, List.append_assoc]⟩)
              clear HQ hall q1 q2 q3 HI2 HTr HA1 HBE HBW
              generalize wrs kids = y at *
              go_wp2_with fail
              refine HE.out.mono ?_
              rintro e w2 ⟨rfl, b2⟩
              have HI4 := Lib.hid (HI3.out w2 b2)
              have hc2 := b2.span hne HC1.out
              have k2' : w2.cell? ⟨n, 2, none⟩ = some (.slice ak kids.length ck) := cell_at hc2 2
              have B2 := Lib.hid b2
              clear HE b2 HI3 k0 k1 k2 hc2 HC1
              go_wp2_with fail
              refine HI4.out.mono ?_
              rintro e w3 ⟨rfl, b3⟩
              have B3 := Lib.hid (B2.out.trans b3)
              have HE3 := Lib.hid (HE2.out w3 B3.out)
              clear b3 HI4 HE2 B2 k2'
              go_wp2_with fail
              refine HE3.out.mono ?_
              rintro e w4 ⟨rfl, b4⟩
              have HR2 := Lib.hid (HR.out w4 (B3.out.trans b4))
              clear HE3 b4 HR B3
              go_wp2_with fail
              go_roundw
              case rel => exact ⟨k + 1, p ++ (42 :: (y ++ [42])), by omega, by go_num, HR2⟩
              case measure => simp [intOf] <;> omega
            · have f3 : (z == 3) = false := by rw [beq_eq_false_iff_ne]; exact q3
              rw [if_neg q3] at hall
              by_cases q4 : z = 4
              · have f4 : (z == 4) = true := by rw [q4]; rfl
                rw [if_pos q4] at hall
                simp only [List.length_append, List.length_cons, List.length_nil] at hall
                have HE := Lib.hid (byteW_any B b (t ++ p) 91 91 rfl w1 HA1.out.bd (by omega) hB1)
                have HI3 := Lib.hid (fun (w2 : World) (h : BdAns B b ((t ++ p) ++ [91]) w1 w2) => HI2.out (.slice ak kids.length ck) ((t ++ p) ++ [91]) w2 HTr.out (HBE.out.trans h.bel) h.bd (by simp only [List.length_append, List.length_cons, List.length_nil]; omega))
                have z93 : (⟨#[93, 40]⟩ : ByteArray).size = 2 := rfl
                have z41 : (⟨#[41]⟩ : ByteArray).size = 1 := rfl
                have y1 : ((⟨#[93, 40]⟩ : ByteArray) ++ S s).size = 2 + s.length := by rw [ByteArray.size_append, z93, zs]
                have gg1 : ¬ 9223372036854775807 < (⟨#[93, 40]⟩ : ByteArray).size + (S s).size := by omega
                have gg2 : ¬ 9223372036854775807 < ((⟨#[93, 40]⟩ : ByteArray) ++ S s).size + (⟨#[41]⟩ : ByteArray).size := by omega
                have hap : ((⟨#[93, 40]⟩ : ByteArray) ++ S s) ++ (⟨#[41]⟩ : ByteArray) = S (93 :: 40 :: (s ++ [41])) := by
                  rw [show (⟨#[93, 40]⟩ : ByteArray) = S [93, 40] from rfl, show (⟨#[41]⟩ : ByteArray) = S [41] from rfl, S_app, S_app]
                  simp
                have HE2 := Lib.hid (fun (w3 : World) (h : BdAns B b (((t ++ p) ++ [91]) ++ wrs kids) w1 w3) => textW_any B b (((t ++ p) ++ [91]) ++ wrs kids) (S (93 :: 40 :: (s ++ [41]))) w3 h.bd (by rw [S_size]; simp only [List.length_append, List.length_cons, List.length_nil]; omega) (h.size hB1))
                simp only [S_list] at HE2
                simp only [← hap] at HE2
                have HR : Hid (∀ w', BdAns B b ((((t ++ p) ++ [91]) ++ wrs kids) ++ (93 :: 40 :: (s ++ [41]))) w1 w' → BdAns B b (t ++ (p ++ (91 :: (wrs kids ++ (93 :: 40 :: (s ++ [41])))))) w w' ∧ X = (p ++ (91 :: (wrs kids ++ (93 :: 40 :: (s ++ [41]))))) ++ wrs (l.drop (k + 1))) := Lib.hid (fun w' h => ⟨by have := HA1.out.trans h; simpa using this, by rw [HQ.out, if_neg q1, if_neg q2, if_neg q3, if_pos q4, List.append_assoc]⟩)
                clear HQ hall q1 q2 q3 q4 HI2 HTr HA1 HBE HBW hap
                generalize wrs kids = y at *
                go_wp2_with fail
                refine HE.out.mono ?_
                rintro e w2 ⟨rfl, b2⟩
                have HI4 := Lib.hid (HI3.out w2 b2)
                have hc2 := b2.span hne HC1.out
                have k2' : w2.cell? ⟨n, 2, none⟩ = some (.slice ak kids.length ck) := cell_at hc2 2
                have B2 := Lib.hid b2
                clear HE b2 HI3 k0 k1 k2 hc2
                go_wp2_with fail
                refine HI4.out.mono ?_
                rintro e w3 ⟨rfl, b3⟩
                have B3 := Lib.hid (B2.out.trans b3)
                have HE3 := Lib.hid (HE2.out w3 B3.out)
                have k1' : w3.cell? ⟨n, 1, none⟩ = some (.string (S s)) := cell_at (B3.out.span hne HC1.out) 1
                clear b3 HI4 HE2 B2 k2' HC1
                go_wp2_with fail
                refine HE3.out.mono ?_
                rintro e w4 ⟨rfl, b4⟩
                have HR2 := Lib.hid (HR.out w4 (B3.out.trans b4))
                clear HE3 b4 HR B3 k1'
                go_wp2_with fail
                go_roundw
                case rel => exact ⟨k + 1, p ++ (91 :: (y ++ (93 :: 40 :: (s ++ [41])))), by omega, by go_num, HR2⟩
                case measure => simp [intOf] <;> omega
              · have f4 : (z == 4) = false := by rw [beq_eq_false_iff_ne]; exact q4
                have HR2 : Hid (BdAns B b (t ++ p) w w1 ∧ X = p ++ wrs (l.drop (k + 1))) := Lib.hid ⟨HA1.out, by rw [HQ.out, if_neg q1, if_neg q2, if_neg q3, if_neg q4]; rfl⟩
                clear HQ hall q1 q2 q3 q4 HI2 HTr HA1 HBE HBW HC1
                go_wp2_with fail
                go_roundw
                case rel => exact ⟨k + 1, p, by omega, by go_num, HR2⟩
                case measure => simp [intOf] <;> omega
      · have hi1 : ¬ (k : Int) < (l.length : Int) := by omega
        have hx := HN.out.2
        rw [List.drop_eq_nil_of_le (by omega)] at hx
        have HR : Hid (BdAns B b (t ++ X) w wr) := Lib.hid (by rw [hx]; simpa [wrs] using HN.out.1)
        clear HN hx HTk HIH HSz
        go_wp2_with fail
        go_end0
        exact ⟨rfl, HR.out⟩
end Go.Proofs.YtldllbmbcnipoabGreatDoor.Sp
