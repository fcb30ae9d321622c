import Derived.Test.YthpnbialpkkpgaaGreatDoorPkV
import Derived.Test.YthpnbialpkkpgaaGreatDoorPkL
import Derived.Test.YthpnbialpkkpgaaGreatDoorSoProgW
import Derived.Test.YthpnbialpkkpgaaGreatDoorPkT
import Derived.Lib.QuietBelow
import Derived.BigQuiet
namespace Go.Proofs.YthpnbialpkkpgaaGreatDoor.Wr
open Go.RowKit
open Go.Proofs.YthpnbialpkkpgaaGreatDoor.Tk (S S_of S_list S_size S_toList S_app ret_int len_data Rd)
open Go.Proofs.YthpnbialpkkpgaaGreatDoor.Cm (Keep own_keep own_obj cell_at frozen_at set_at alloc_new alloc_at lt_of_at)
open Go.Proofs.YthpnbialpkkpgaaGreatDoor.Sp (Sp Tr rtB wrs totAll fitAll TwoAns wrB erB writeP_any ret_str)
open Go.Proofs.YthpnbialpkkpgaaGreatDoor.Bk (Tx Bk ticksL)
open Go.Proofs.YthpnbialpkkpgaaGreatDoor.Pa (OutG OutS encX)
set_option linter.unusedVariables false
theorem grew {B : Nat} {w : World} {v : Value} {l : List Tx} (h : OutS B w v l) (x : Tx) (hl : l.length + 1 ≤ 1000000) {v' : Value} {w' : World}
    (h1 : ∀ ty, (Builtin.append_ #[23, 23] ty #[v, .slice (some ⟨w.heap.size, 0, none⟩) 1 1]).run Tryz.prog (w.alloc (.cells #[.string (S x)] 9)) = .ok v' w') : v'.ownBlock = v.ownBlock ∨ ∃ j, v'.ownBlock = some j ∧ w.heap.size ≤ j := by
  obtain ⟨i0, hi, hz0, hz1, hz2⟩ := info_parts Pa.infoX
  have hsz : (w.alloc (.cells #[.string (S x)] 9)).heap.size = w.heap.size + 1 := by simp
  have hown : (w.alloc (.cells #[.string (S x)] 9)).ownsRow B 9 1 v l.length (l.flatMap encX) := own_keep (OutG.own h) (S := fun j => j < B) ((Keep.refl _ _).alloc _) (fun g hg => by have := (OutG.block h g hg).1; omega)
  obtain ⟨v2, w2, g1, _, _, _, g5⟩ := run_append_own_at (P := Tryz.prog) (w := w.alloc (.cells #[.string (S x)] 9)) B 23 0 9 i0 (.string ⟨#[]⟩) 1 16 Tryz.underlying23 hi hz0 hz1 hz2 rfl (by decide) v l.length (l.flatMap encX) hown ⟨w.heap.size, 0, none⟩ 1 1 [.string (S x)] rfl (fun j u hj => Cm.newsK (us := [.string (S x)]) j u hj) (fun u hu => by rw [List.mem_singleton] at hu; subst hu; rfl) (by unfold maxLen; omega) (by omega) (by rw [hsz]; have := OutG.size h; omega)
  have e := (h1 0).symm.trans g1
  injection e with e1 e2
  subst e1
  rcases g5 with e | e
  · exact Or.inl e
  · exact Or.inr ⟨_, e, by rw [hsz]; omega⟩
structure Pg (B b : Nat) (g : Option Nat) (ls : List Tx) (w : World) : Prop where
  lo : B ≤ b
  row : ∃ v, w.heap[b]? = some (.cells #[v] 52 (0, 0)) ∧ v.ownBlock = g ∧ OutS B w v ls
theorem Pg.ne {B b : Nat} {g : Option Nat} {ls : List Tx} {w : World} (h : Pg B b g ls w) : ∀ j, g = some j → B ≤ j ∧ j < w.heap.size ∧ j ≠ b := by
  obtain ⟨_, v, hb, rfl, ho⟩ := h
  intro j hj
  have h1 := OutG.block ho j hj
  refine ⟨h1.1, h1.2, fun e => ?_⟩
  subst e
  obtain ⟨cur, hc⟩ := own_obj (OutG.own ho) hj
  rw [hb] at hc
  simp at hc
theorem Pg.lt {B b : Nat} {g : Option Nat} {ls : List Tx} {w : World} (h : Pg B b g ls w) : b < w.heap.size := by
  obtain ⟨_, v, hb, _⟩ := h
  exact lt_of_at hb
theorem Pg.size {B b : Nat} {g : Option Nat} {ls : List Tx} {w : World} (h : Pg B b g ls w) : B ≤ w.heap.size := Nat.le_trans h.lo (Nat.le_of_lt h.lt)
theorem Pg.keep {B b : Nat} {g : Option Nat} {ls : List Tx} {w w' : World} {S : Nat → Prop} (h : Pg B b g ls w) (k : Keep S w w') (hb : ¬ S b) (hg : ∀ j, g = some j → ¬ S j) : Pg B b g ls w' := by
  have hsz := h.size
  obtain ⟨hlo, v, hv, he, ho⟩ := h
  exact ⟨hlo, v, k.at hv hb, he, Nat.le_trans hsz k.size, own_keep (OutG.own ho) k (fun j hj => hg j (by rw [← he]; exact hj)), fun _ _ _ _ => trivial⟩
theorem Pg.below {B b : Nat} {g : Option Nat} {ls : List Tx} {w w' : World} (h : Pg B b g ls w) (hb : Below w.heap.size w w') : Pg B b g ls w' :=
  h.keep (Keep.of_below (S := fun _ => False) hb) (fun h => h) (fun _ _ h => h)
theorem Pg.begin (w : World) : Pg w.heap.size w.heap.size none [] (w.alloc (.cells #[.slice none 0 0] 52)) :=
  ⟨Nat.le_refl _, .slice none 0 0, alloc_new _ _, rfl, OutG.nil (by simp)⟩
structure Pt (B b : Nat) (g g' : Option Nat) (ls : List Tx) (w w' : World) : Prop where
  pg : Pg B b g' ls w'
  new : g' = g ∨ ∃ j, g' = some j ∧ w.heap.size ≤ j
  kp : Keep (fun j => j = b ∨ some j = g) w w'
theorem Pt.refl {B b : Nat} {g : Option Nat} {ls : List Tx} {w : World} (h : Pg B b g ls w) : Pt B b g g ls w w := ⟨h, Or.inl rfl, Keep.refl _ _⟩
theorem Pt.trans {B b : Nat} {g g' g'' : Option Nat} {ls ls' : List Tx} {w w' w'' : World} (h : Pt B b g g' ls w w') (k : Pt B b g' g'' ls' w' w'') : Pt B b g g'' ls' w w'' := by
  refine ⟨k.pg, ?_, ⟨k.kp.os.trans h.kp.os, k.kp.tape.trans h.kp.tape, k.kp.output.trans h.kp.output, Nat.le_trans h.kp.size k.kp.size, fun j hj hs => ?_⟩⟩
  · rcases k.new with e | ⟨j, e, hj⟩
    · rw [e]; exact h.new
    · exact Or.inr ⟨j, e, Nat.le_trans h.kp.size hj⟩
  · rw [← h.kp.block j hj hs]
    refine k.kp.block j (Nat.lt_of_lt_of_le hj h.kp.size) (fun hs' => ?_)
    rcases hs' with hs' | hs'
    · exact hs (Or.inl hs')
    · rcases h.new with e | ⟨i, e, hi⟩
      · exact hs (Or.inr (by rw [hs', e]))
      · rw [e] at hs'
        have := Option.some.inj hs'
        omega
theorem Pt.more {B b : Nat} {g g' : Option Nat} {ls : List Tx} {w w' w'' : World} (h : Pt B b g g' ls w w') (k : Below w'.heap.size w' w'') : Pt B b g g' ls w w'' :=
  h.trans ⟨h.pg.below k, Or.inl rfl, Keep.of_below k⟩
theorem Pt.ahead {B b : Nat} {g g' : Option Nat} {ls ls0 : List Tx} {w w' w'' : World} (h : Pg B b g ls0 w) (k : Below w.heap.size w w') (t : Pt B b g g' ls w' w'') : Pt B b g g' ls w w'' :=
  (Pt.refl h).more k |>.trans t
theorem Pt.bel {B b : Nat} {g g' : Option Nat} {ls ls0 : List Tx} {w w' : World} (h : Pg B b g ls0 w) (t : Pt B b g g' ls w w') : Below B w w' :=
  t.kp.below (fun k hk => by
    rcases hk with rfl | hk
    · exact h.lo
    · exact (h.ne k hk.symm).1) h.size
theorem Pt.rd {B b : Nat} {g g' : Option Nat} {ls ls0 : List Tx} {w0 w w' : World} {u : Value} {xs : List Tx} (h0 : Pg B b g ls0 w0) (h : OutS w0.heap.size w u xs) (t : Pt B b g g' ls w w') : Rd w' u xs := by
  have h1 : OutS w0.heap.size w' u xs := ⟨Nat.le_trans (OutG.size h) t.kp.size, own_keep (OutG.own h) t.kp (fun j hj hS => by
    have h2 := (OutG.block h j hj).1
    rcases hS with e | e
    · have := h0.lt; omega
    · have := (h0.ne j e.symm).2.1; omega), fun _ _ _ _ => trivial⟩
  exact Pa.OutS.rd h1
def PutAns (B b : Nat) (g : Option Nat) (ls : List Tx) (w : World) (e : Ending) (w' : World) : Prop := e = .returned (.tuple #[]) ∧ ∃ g', Pt B b g g' ls w w'
set_option maxHeartbeats 800000 in
theorem put_any {B b : Nat} {g : Option Nat} {ls : List Tx} {w : World} (h : Pg B b g ls w) (s : Tx) (hl : ls.length + 1 ≤ 1000000) :
    Calls Tryz.prog 53 #[.pointer (some ⟨b, 0, none⟩), .string (S s)] w (PutAns B b g (ls ++ [s]) w) := by
  have hne := h.ne
  obtain ⟨hlo, v, hb, he, ho⟩ := h
  obtain ⟨v', w2, h1, h2, h3⟩ := Pa.OutS.push ho s hl
  have c0 : (w.alloc (.cells #[.string (S s)] 9)).cell? ⟨b, 0, none⟩ = some v := cell_at (alloc_at hb _) 0
  have c0' : w.cell? ⟨b, 0, none⟩ = some v := cell_at hb 0
  have hb2 : w2.heap[b]? = some (.cells #[v] 52 (0, 0)) := h3.at hb (fun e => (hne b (by rw [← he, e])).2.2 rfl)
  have c2 : w2.cell? ⟨b, 0, none⟩ = some v := cell_at hb2 0
  have f2 : w2.frozen? ⟨b, 0, none⟩ = false := frozen_at hb2 0
  have hE : Hid (Pt B b g v'.ownBlock (ls ++ [s]) w (w2.setCell ⟨b, 0, none⟩ v')) := Lib.hid (by
    have hnb : ∀ j, v'.ownBlock = some j → j ≠ b := fun j hj e => by
      subst e
      obtain ⟨cur, hc⟩ := own_obj (OutG.own h2) hj
      rw [hb2] at hc
      simp at hc
    have kS : Keep (fun j => j = b) w2 (w2.setCell ⟨b, 0, none⟩ v') := (Keep.refl (fun j => j = b) w2).setCell (p := ⟨b, 0, none⟩) (Or.inl rfl) v'
    refine ⟨⟨hlo, v', ?_, rfl, Nat.le_trans (OutG.size h2) kS.size, own_keep (OutG.own h2) kS hnb, fun _ _ _ _ => trivial⟩, ?_, ?_⟩
    · have := set_at hb2 0 v'
      simpa using this
    · rcases grew ho s hl h1 with e | ⟨j, e, hj⟩
      · exact Or.inl (by rw [e, he])
      · exact Or.inr ⟨j, e, hj⟩
    · exact (h3.mono (T := fun j => j = b ∨ some j = g) (fun k _ hk => Or.inr (hk.trans he))).setCell (p := ⟨b, 0, none⟩) (Or.inl (Or.inl rfl)) v')
  obtain ⟨ao, ca, hv'⟩ := (Pa.OutS.rd h2).len
  generalize (ls ++ [s]).length = n at hv'
  subst hv'
  clear h2 h3 ho hne hb hb2
  go_enter Tryz.func53, Tryz.ntmps53
  go_wp2_with (at_builtin; refine Lib.wpList_append_run _ rfl _ _ _ _ rfl _ _ rfl rfl _ _ (h1 _) ?_)
  go_end0
  exact ⟨rfl, _, hE.out⟩
theorem behind_any (m a s : Tx) (w : World) (hm : m.length ≤ 100) (hs : s.length ≤ 10000000000) :
    Calls Tryz.prog 124 #[.string (S m), .string (S a), .string (S s)] w fun e w' => e = .returned (.string (S (if s = [] then a else m ++ s))) ∧ w = w' := by
  have hz : (S m).size + (S s).size ≤ 20000000000 := by rw [S_size, S_size]; omega
  have HA : Hid (S m ++ S s = S (m ++ s)) := Lib.hid (S_app m s)
  by_cases h0 : s = []
  · rw [if_pos h0]
    subst h0
    have e1 : (S []).toList == [] := by rw [S_toList]; rfl
    clear HA
    generalize S ([] : Tx) = t at *
    go_enter Tryz.func124, Tryz.ntmps124
    go_wp2_with fail
    go_ret
    exact ⟨rfl, rfl⟩
  · rw [if_neg h0]
    have e1 : ((S s).toList == []) = false := by rw [S_toList]; simpa using h0
    clear h0
    generalize S (m ++ s) = y at *
    generalize S s = t at *
    generalize S m = q at *
    go_enter Tryz.func124, Tryz.ntmps124
    go_wp2_with fail
    go_ret
    exact ⟨ret_str HA.out, rfl⟩
theorem written_any (v : Value) (l : List Sp) (w : World) (ht : Tr w v l) (hn : totAll l ≤ 20000) (hf : fitAll 140737488355328 l) (hr : rtB l = true) :
    Calls Tryz.prog 121 #[v] w fun e w' => e = .returned (.string (S (wrs l))) ∧ Below w.heap.size w w' := by
  have HW := Lib.hid (writeP_any v l w ht hn hf)
  unfold TwoAns wrB erB at HW
  rw [if_pos hr, if_pos hr] at HW
  clear ht hn hf hr
  generalize S (wrs l) = y at *
  go_enter Tryz.func121, Tryz.ntmps121
  go_wp2_with fail
  refine HW.out.mono ?_
  rintro e w1 ⟨rfl, b1⟩
  have B1 := Lib.hid b1
  clear b1 HW
  go_wp2_with fail
  go_ret
  exact ⟨rfl, B1.out⟩
def tkL (n : Nat) : List Tx → Nat
  | [] => n
  | s :: r => tkL (max n (Ln.mx 96 s + 1)) r
theorem tkL_eq : ∀ (l : List Tx) (n : Nat), 3 ≤ n → tkL n l = max n (ticksL l)
  | [], n, h => by show n = max n 3; omega
  | s :: r, n, h => by
    rw [tkL, tkL_eq r _ (by omega)]
    show _ = max n (max (Ln.mx 96 s + 1) (ticksL r))
    omega
theorem tkL_ticks (l : List Tx) : tkL 3 l = ticksL l := by
  have h : 3 ≤ ticksL l := by
    induction l with
    | nil => exact Nat.le_refl _
    | cons s r ih => show 3 ≤ max _ (ticksL r); omega
  rw [tkL_eq l 3 (Nat.le_refl _)]
  omega
set_option maxHeartbeats 800000 in
theorem ticks_any (v : Value) (xs : List Tx) (w : World) (hr : Rd w v xs) (hn : xs.length ≤ 1000000) (hx : ∀ x ∈ xs, x.length ≤ 1000000) :
    Calls Tryz.prog 15 #[v] w fun e w' => e = .returned (.int .i64 (ticksL xs : Nat)) ∧ w = w' := by
  obtain ⟨ao, ca, rfl⟩ := hr.len
  have e96 : (((96 : UInt8).toNat : Nat) : Int) = 96 := rfl
  have HL := Lib.hid (fun j (hj : j < xs.length) (w' : World) => Ln.longest_any (S xs[j]) (by rw [S_size]; have := hx xs[j] (List.getElem_mem hj); omega) 96 w')
  simp only [S_list, e96] at HL
  have HM : Hid (∀ j (hj : j < xs.length), Ln.mx 96 xs[j] ≤ 1000000) := Lib.hid (fun j hj => Nat.le_trans (Ln.mx_le 96 _) (hx xs[j] (List.getElem_mem hj)))
  have HRd := Lib.hid (Bt.Rd.at hr)
  have H0 : Hid (ticksL xs = tkL 3 (xs.drop 0)) := Lib.hid (by rw [List.drop_zero, tkL_ticks])
  generalize ticksL xs = X at *
  clear hr hx e96
  go_enter Tryz.func15, Tryz.ntmps15
  go_wp2_with fail
  go_loop [3, 8] (fun n i => ∃ j q : Nat, j ≤ xs.length ∧ i = .int .i64 j ∧ n = .int .i64 q ∧ q ≤ 1000001 ∧ Hid (X = tkL q (xs.drop j))) (fun _ i => xs.length - (intOf i).toNat)
  case atStart => exact ⟨0, 3, Nat.zero_le _, rfl, rfl, by omega, H0⟩
  case round =>
    clear H0
    obtain ⟨j, q, hj, rfl, rfl, hq, HN⟩ := hrel
    by_cases hlt : j < xs.length
    · have hi1 : (j : Int) < (xs.length : Int) := by omega
      obtain ⟨b, o, rfl, c0⟩ := HRd.out j hlt
      have HLj := Lib.hid (HL.out j hlt w)
      have hm := HM.out j hlt
      have hdr : xs.drop j = xs[j] :: xs.drop (j + 1) := List.drop_eq_getElem_cons hlt
      have HN2 : Hid (X = tkL (max q (Ln.mx 96 xs[j] + 1)) (xs.drop (j + 1))) := Lib.hid (by rw [HN.out, hdr]; rfl)
      clear HN hdr
      generalize Ln.mx 96 xs[j] = m at *
      generalize S xs[j] = sx at *
      go_wp2_with fail
      refine HLj.out.mono ?_
      rintro e w' ⟨rfl, rfl⟩
      clear HLj
      go_wp2_with fail
      go_round
      case rel => exact ⟨j + 1, max q (m + 1), by omega, by go_num, by go_num, by omega, HN2⟩
      case measure => simp [intOf] <;> omega
    · have hi1 : ¬ (j : Int) < (xs.length : Int) := by omega
      have HX : Hid (X = q) := Lib.hid (by rw [HN.out, List.drop_eq_nil_of_le (by omega)]; rfl)
      clear HN hlt
      go_wp2_with fail
      go_ret
      exact ⟨ret_int (by rw [HX.out]), rfl⟩
end Go.Proofs.YthpnbialpkkpgaaGreatDoor.Wr
namespace Go.Proofs.YthpnbialpkkpgaaGreatDoor.Wr
open Go.RowKit
open Go.Proofs.YthpnbialpkkpgaaGreatDoor.Tk (S S_of S_list S_size S_toList S_app ret_int len_data Rd)
open Go.Proofs.YthpnbialpkkpgaaGreatDoor.Cm (Keep own_keep)
open Go.Proofs.YthpnbialpkkpgaaGreatDoor.Sp (Sp Tr rtB wrs totAll fitAll wrs_le)
open Go.Proofs.YthpnbialpkkpgaaGreatDoor.Bk (Tx Bk ticksL)
open Go.Proofs.YthpnbialpkkpgaaGreatDoor.Pa (OutG OutS encX encX_map)
set_option linter.unusedVariables false
theorem out_of {B : Nat} {w : World} {u : Value} {xs : List Tx} (hB : B ≤ w.heap.size) (h : w.ownsRow B 9 1 u xs.length (xs.map encStr)) : OutS B w u xs :=
  ⟨hB, by rw [encX_map]; exact h, fun _ _ _ _ => trivial⟩
set_option maxHeartbeats 1600000 in
theorem wpara_any {B b : Nat} {g : Option Nat} {ls : List Tx} {w : World} (h : Pg B b g ls w) (v : Value) (l : List Sp) (ht : Tr w v l) (hn : totAll l ≤ 20000) (hf : fitAll 140737488355328 l) (hr : rtB l = true) (hl : ls.length + (Ln.split (wrs l)).1.length ≤ 1000000) :
    Calls Tryz.prog 79 #[.pointer (some ⟨b, 0, none⟩), v] w (PutAns B b g (ls ++ (Ln.split (wrs l)).1) w) := by
  have HW := Lib.hid (written_any v l w ht hn hf hr)
  have hwl := wrs_le l
  have HS := Lib.hid (fun w' => Ln.split_any (S (wrs l)) (by rw [S_size]; omega) w')
  simp only [S_list] at HS
  have HP := Lib.hid h
  have HPut := Lib.hid (fun (g' : Option Nat) (ls' : List Tx) (w' : World) (h' : Pg B b g' ls' w') (s : Tx) (hl' : ls'.length + 1 ≤ 1000000) => put_any h' s hl')
  clear ht hn hf hr hwl
  generalize (Ln.split (wrs l)).1 = xs at *
  generalize (Ln.split (wrs l)).2 = xe at *
  generalize S (wrs l) = y at *
  unfold PutAns at HPut
  go_enter Tryz.func79, Tryz.ntmps79
  go_wp2_with fail
  refine HW.out.mono ?_
  rintro e w1 ⟨rfl, b1⟩
  have P1 := Lib.hid (HP.out.below b1)
  have B1 := Lib.hid b1
  clear b1 HW
  go_wp2_with fail
  refine (HS.out _).mono ?_
  rintro e w2 ⟨u, rfl, hown, b2⟩
  have HO := Lib.hid (out_of b2.size hown)
  have P2 := Lib.hid (P1.out.below b2)
  have B2 := Lib.hid (B1.out.trans (b2.mono B1.out.size))
  obtain ⟨ao, ca, hu⟩ := (Rd.of_own hown).len
  subst hu
  clear hown b2 HS
  go_wp2_with fail
  go_loopw [16] (fun iv wr => ∃ j : Nat, j ≤ xs.length ∧ iv = .int .i64 j ∧ Hid (∃ g', Pt B b g g' (ls ++ xs.take j) w2 wr)) (fun iv _ => xs.length - (intOf iv).toNat)
  case atStart => exact ⟨0, Nat.zero_le _, rfl, Lib.hid ⟨g, by rw [List.take_zero, List.append_nil]; exact Pt.refl P2.out⟩⟩
  case round =>
    obtain ⟨j, hj, rfl, HT⟩ := hrel
    obtain ⟨g1, t1⟩ := HT.out
    have HT1 := Lib.hid t1
    clear t1 HT
    by_cases hlt : j < xs.length
    · have hi1 : (j : Int) < (xs.length : Int) := by omega
      obtain ⟨bb, o, rfl, c0⟩ := Bt.Rd.at (HT1.out.rd P1.out HO.out) j hlt
      have HPj := Lib.hid (HPut.out _ _ _ HT1.out.pg xs[j] (by rw [List.length_append, List.length_take]; omega))
      have HE : Hid (ls ++ xs.take j ++ [xs[j]] = ls ++ xs.take (j + 1)) := Lib.hid (by rw [List.append_assoc, List.take_succ_eq_append_getElem hlt])
      clear HPut
      generalize S xs[j] = sx at *
      go_wp2_with fail
      refine HPj.out.mono ?_
      rintro e w3 ⟨rfl, g2, t2⟩
      have HT2 : Hid (∃ g', Pt B b g g' (ls ++ xs.take (j + 1)) w2 w3) := Lib.hid ⟨g2, by rw [← HE.out]; exact HT1.out.trans t2⟩
      clear t2 HPj
      go_wp2_with fail
      go_roundw
      case rel => exact ⟨j + 1, by omega, by go_num, HT2⟩
      case measure => simp [intOf] <;> omega
    · have hi1 : ¬ (j : Int) < (xs.length : Int) := by omega
      have HX2 : Hid (Pt B b g g1 (ls ++ xs) w wr) := Lib.hid (by
        have h2 := HT1.out
        rw [List.take_of_length_le (by omega)] at h2
        exact Pt.ahead HP.out B2.out h2)
      clear HT1 hlt
      go_wp2_with fail
      go_end0
      exact ⟨rfl, _, HX2.out⟩
theorem reps (c : UInt8) (n : Nat) (hn : n ≤ 1000000) (w : World) : Calls Tryz.prog 122 #[.string (S [c]), .int .i64 (n : Nat)] w fun e w' => e = .returned (.string (S (List.replicate n c))) ∧ Below w.heap.size w w' := by
  have h := Tryz.strings_Repeat (S [c]) n w (by omega) (by rw [S_size]; show 1 * _ ≤ _; omega)
  rw [S_list, Sp.repeat_rep9 c] at h
  exact h
set_option maxHeartbeats 1600000 in
theorem wheading_any {B b : Nat} {g : Option Nat} {ls : List Tx} {w : World} (h : Pg B b g ls w) (lv : Nat) (hlv : lv ≤ 6) (v : Value) (l : List Sp) (ht : Tr w v l) (hn : totAll l ≤ 20000) (hf : fitAll 140737488355328 l) (hr : rtB l = true) (hl : ls.length + 1 ≤ 1000000) :
    Calls Tryz.prog 80 #[.pointer (some ⟨b, 0, none⟩), .int .i64 (lv : Nat), v] w (PutAns B b g (ls ++ [List.replicate lv 35 ++ (if l = [] then [] else 32 :: wrs l)]) w) := by
  have HR := Lib.hid (reps 35 lv (by omega) w)
  have HW := Lib.hid (fun w' (hb : Below w.heap.size w w') => written_any v l w' (ht.below hb) hn hf hr)
  have hwl := wrs_le l
  have HP := Lib.hid h
  have HPut := Lib.hid (fun (w' : World) (h' : Below w.heap.size w w') (s : Tx) (x : ByteArray) (hx : x = S s) => (show Calls Tryz.prog 53 #[.pointer (some ⟨b, 0, none⟩), .string x] w' (PutAns B b g (ls ++ [s]) w') by rw [hx]; exact put_any (h.below h') s hl))
  obtain ⟨ao, ca, rfl⟩ := ht.len
  have hz1 : (S (List.replicate lv (35 : UInt8))).size ≤ 6 := by rw [S_size, List.length_replicate]; exact hlv
  have hz2 : (S (wrs l)).size ≤ 200000 := by rw [S_size]; omega
  have h32 : S [35] = ⟨#[35]⟩ := rfl
  rw [h32] at HR
  clear ht hn hf hr hwl h32
  unfold PutAns at HPut
  by_cases h0 : l = []
  · rw [if_pos h0, List.append_nil]
    subst h0
    clear HW hz2
    generalize hy : S (List.replicate lv 35) = y at *
    have HY := Lib.hid hy
    clear hy
    go_enter Tryz.func80, Tryz.ntmps80
    go_wp2_with fail
    refine HR.out.mono ?_
    rintro e w1 ⟨rfl, b1⟩
    have HPj := Lib.hid (HPut.out w1 b1 _ _ HY.out.symm)
    have B1 := Lib.hid b1
    clear b1 HR HPut
    go_wp2_with fail
    refine HPj.out.mono ?_
    rintro e w2 ⟨rfl, g2, t2⟩
    have HT := Lib.hid (Pt.ahead HP.out B1.out t2)
    clear t2 HPj
    go_wp2_with fail
    go_end0
    exact ⟨rfl, _, HT.out⟩
  · rw [if_neg h0]
    have hpos : (0 : Int) < (l.length : Int) := by have := List.length_pos_iff.2 h0; omega
    have HA : Hid (S (List.replicate lv 35) ++ (⟨#[32]⟩ ++ S (wrs l)) = S (List.replicate lv 35 ++ 32 :: wrs l)) := Lib.hid (by rw [← S_app]; congr 1)
    have hz3 : (⟨#[32]⟩ ++ S (wrs l)).size ≤ 200001 := by rw [ByteArray.size_append]; show 1 + _ ≤ _; omega
    clear h0
    generalize S (wrs l) = z at *
    generalize S (List.replicate lv 35) = y at *
    go_enter Tryz.func80, Tryz.ntmps80
    go_wp2_with fail
    refine HR.out.mono ?_
    rintro e w1 ⟨rfl, b1⟩
    have HW1 := Lib.hid (HW.out w1 b1)
    have B1 := Lib.hid b1
    clear b1 HR HW
    go_wp2_with fail
    refine HW1.out.mono ?_
    rintro e w2 ⟨rfl, b2⟩
    have B2 := Lib.hid (B1.out.trans (b2.mono B1.out.size))
    have HPj := Lib.hid (HPut.out w2 B2.out _ _ HA.out)
    clear b2 HW1 HPut B1
    go_wp2_with fail
    refine HPj.out.mono ?_
    rintro e w3 ⟨rfl, g2, t2⟩
    have HT := Lib.hid (Pt.ahead HP.out B2.out t2)
    clear t2 HPj
    go_wp2_with fail
    go_end0
    exact ⟨rfl, _, HT.out⟩
set_option maxHeartbeats 1600000 in
theorem wfence_any {B b : Nat} {g : Option Nat} {ls : List Tx} {w : World} (h : Pg B b g ls w) (info : Tx) (v : Value) (xs : List Tx) (hr : ∀ w', Below B w w' → Rd w' v xs) (hi : info.length ≤ 1000000) (hn : xs.length ≤ 100000) (hx : ∀ x ∈ xs, x.length ≤ 100000) (hl : ls.length + xs.length + 2 ≤ 1000000) :
    Calls Tryz.prog 81 #[.pointer (some ⟨b, 0, none⟩), .string (S info), v] w (PutAns B b g (ls ++ ((List.replicate (ticksL xs) 96 ++ info) :: (xs ++ [List.replicate (ticksL xs) 96]))) w) := by
  have hr0 := hr w (Below.refl _ _)
  have HT := Lib.hid (ticks_any v xs w hr0 (by omega) (fun x hx' => by have := hx x hx'; omega))
  have hq : ticksL xs ≤ 1000000 := by
    rw [← tkL_ticks]
    have : ∀ (l : List Tx) (n : Nat), n ≤ 1000000 → (∀ x ∈ l, x.length ≤ 100000) → tkL n l ≤ 1000000 := by
      intro l
      induction l with
      | nil => exact fun n hn _ => hn
      | cons s r ih => exact fun n hn hx => ih _ (by have := hx s (List.mem_cons_self ..); have := Ln.mx_le 96 s; omega) (fun x hx' => hx x (List.mem_cons_of_mem _ hx'))
    exact this xs 3 (by omega) hx
  have HR := Lib.hid (fun w' => reps 96 (ticksL xs) hq w')
  obtain ⟨ao, ca, rfl⟩ := hr0.len
  have HRd := Lib.hid hr
  have HP := Lib.hid h
  have HPut := Lib.hid (fun (g' : Option Nat) (ls' : List Tx) (w' : World) (h' : Pg B b g' ls' w') (s : Tx) (x : ByteArray) (hx : x = S s) (hl' : ls'.length + 1 ≤ 1000000) => (show Calls Tryz.prog 53 #[.pointer (some ⟨b, 0, none⟩), .string x] w' (PutAns B b g' (ls' ++ [s]) w') by rw [hx]; exact put_any h' s hl'))
  have h96 : S [96] = ⟨#[96]⟩ := rfl
  rw [h96] at HR
  have hz : (S (List.replicate (ticksL xs) (96 : UInt8))).size + (S info).size ≤ 2000000 := by rw [S_size, S_size, List.length_replicate]; omega
  have HA : Hid (S (List.replicate (ticksL xs) 96) ++ S info = S (List.replicate (ticksL xs) 96 ++ info)) := Lib.hid (S_app _ _)
  generalize List.replicate (ticksL xs) (96 : UInt8) = tk at *
  generalize ticksL xs = tn at *
  unfold PutAns at HPut
  clear hr hr0 hx h96 hq
  generalize hy : S tk = y at *
  have HY := Lib.hid hy
  clear hy
  generalize S info = si at *
  go_enter Tryz.func81, Tryz.ntmps81
  go_wp2_with fail
  refine HT.out.mono ?_
  rintro e w0 ⟨rfl, rfl⟩
  clear HT
  go_wp2_with fail
  refine (HR.out _).mono ?_
  rintro e w1 ⟨rfl, b1⟩
  have P1 := Lib.hid (HP.out.below b1)
  have HP1 := Lib.hid (HPut.out _ _ _ P1.out _ _ HA.out (by omega))
  have B1 := Lib.hid b1
  clear b1 HR
  go_wp2_with fail
  refine HP1.out.mono ?_
  rintro e w2 ⟨rfl, g2, t2⟩
  have HT2 := Lib.hid (Pt.ahead HP.out B1.out t2)
  clear t2 HP1
  go_wp2_with fail
  go_loopw [19] (fun iv wr => ∃ j : Nat, j ≤ xs.length ∧ iv = .int .i64 j ∧ Hid (∃ g', Pt B b g g' (ls ++ [tk ++ info] ++ xs.take j) w wr)) (fun iv _ => xs.length - (intOf iv).toNat)
  case atStart => exact ⟨0, Nat.zero_le _, rfl, Lib.hid ⟨g2, by rw [List.take_zero, List.append_nil]; exact HT2.out⟩⟩
  case round =>
    clear HT2 P1 B1 HA
    obtain ⟨j, hj, rfl, HT⟩ := hrel
    obtain ⟨g1, t1⟩ := HT.out
    have HT1 := Lib.hid t1
    clear t1 HT
    by_cases hlt : j < xs.length
    · have hi1 : (j : Int) < (xs.length : Int) := by omega
      obtain ⟨bb, o, rfl, c0⟩ := Bt.Rd.at (HRd.out wr (HT1.out.bel HP.out)) j hlt
      have HPj := Lib.hid (HPut.out _ _ _ HT1.out.pg xs[j] _ rfl (by simp only [List.length_append, List.length_take, List.length_cons, List.length_nil]; omega))
      have HE : Hid (ls ++ [tk ++ info] ++ xs.take j ++ [xs[j]] = ls ++ [tk ++ info] ++ xs.take (j + 1)) := Lib.hid (by rw [List.append_assoc, List.take_succ_eq_append_getElem hlt])
      clear HPut
      generalize S xs[j] = sx at *
      go_wp2_with fail
      refine HPj.out.mono ?_
      rintro e w3 ⟨rfl, g3, t3⟩
      have HT2 : Hid (∃ g', Pt B b g g' (ls ++ [tk ++ info] ++ xs.take (j + 1)) w w3) := Lib.hid ⟨g3, by rw [← HE.out]; exact HT1.out.trans t3⟩
      clear t3 HPj
      go_wp2_with fail
      go_roundw
      case rel => exact ⟨j + 1, by omega, by go_num, HT2⟩
      case measure => simp [intOf] <;> omega
    · have hi1 : ¬ (j : Int) < (xs.length : Int) := by omega
      have HX2 : Hid (Pt B b g g1 (ls ++ [tk ++ info] ++ xs) w wr) := Lib.hid (by
        have h2 := HT1.out
        rwa [List.take_of_length_le (by omega)] at h2)
      have HPj := Lib.hid (HPut.out _ _ _ HX2.out.pg tk _ HY.out.symm (by simp only [List.length_append, List.length_cons, List.length_nil]; omega))
      clear HT1 hlt HPut
      go_wp2_with fail
      refine HPj.out.mono ?_
      rintro e w3 ⟨rfl, g3, t3⟩
      have HT3 := Lib.hid (HX2.out.trans t3)
      clear t3 HPj HX2
      go_wp2_with fail
      go_end0
      exact ⟨rfl, g3, by have h3 := HT3.out; rwa [List.append_assoc, List.append_assoc] at h3⟩
end Go.Proofs.YthpnbialpkkpgaaGreatDoor.Wr
