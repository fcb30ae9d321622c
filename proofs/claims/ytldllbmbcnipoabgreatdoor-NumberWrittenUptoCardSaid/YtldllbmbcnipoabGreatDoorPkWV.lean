/-
  Several texts in one:
  
  
-/
import Derived.Test.YtldllbmbcnipoabGreatDoorPkWH
import Derived.Test.YtldllbmbcnipoabGreatDoorPkWG
import Derived.Test.YtldllbmbcnipoabGreatDoorPkWQ
import Derived.Test.YtldllbmbcnipoabGreatDoorPkWU
import Derived.Lib.QuietBelow
import Derived.BigQuiet
namespace Go.Proofs.YtldllbmbcnipoabGreatDoor.Wr
open Go.RowKit
open Go.Proofs.YtldllbmbcnipoabGreatDoor.Tk (S S_of S_list S_size S_toList S_app ret_int len_data Rd)
open Go.Proofs.YtldllbmbcnipoabGreatDoor.Cm (Keep own_keep own_obj cell_at frozen_at set_at alloc_new alloc_at lt_of_at)
open Go.Proofs.YtldllbmbcnipoabGreatDoor.Sp (Sp Tr rtB wrs totAll fitAll TwoAns wrB erB writeP_any ret_str)
open Go.Proofs.YtldllbmbcnipoabGreatDoor.Bk (Tx Bk ticksL)
open Go.Proofs.YtldllbmbcnipoabGreatDoor.Pa (OutG OutS encX)
set_option linter.unusedVariables false
theorem grew {B : Nat} {w : World} {v : Value} {l : List Tx} (h : OutS B w v l) (x : Tx) (hl : l.length + 1 ≤ 1000000) {v' : Value} {w' : World}
    (h1 : ∀ ty, (Builtin.append_ #[29, 29] ty #[v, .slice (some ⟨w.heap.size, 0, none⟩) 1 1]).run Tryz.prog (w.alloc (.cells #[.string (S x)] 9)) = .ok v' w') : v'.ownBlock = v.ownBlock ∨ ∃ j, v'.ownBlock = some j ∧ w.heap.size ≤ j := by
  obtain ⟨i0, hi, hz0, hz1, hz2⟩ := info_parts Pa.infoX
  have hsz : (w.alloc (.cells #[.string (S x)] 9)).heap.size = w.heap.size + 1 := by simp
  have hown : (w.alloc (.cells #[.string (S x)] 9)).ownsRow B 9 1 v l.length (l.flatMap encX) := own_keep (OutG.own h) (S := fun j => j < B) ((Keep.refl _ _).alloc _) (fun g hg => by have := (OutG.block h g hg).1; omega)
  obtain ⟨v2, w2, g1, _, _, _, g5⟩ := run_append_own_at (P := Tryz.prog) (w := w.alloc (.cells #[.string (S x)] 9)) B 29 0 9 i0 (.string ⟨#[]⟩) 1 16 Tryz.underlying29 hi hz0 hz1 hz2 rfl (by decide) v l.length (l.flatMap encX) hown ⟨w.heap.size, 0, none⟩ 1 1 [.string (S x)] rfl (fun j u hj => Cm.newsK (us := [.string (S x)]) j u hj) (fun u hu => by rw [List.mem_singleton] at hu; subst hu; rfl) (by unfold maxLen; omega) (by omega) (by rw [hsz]; have := OutG.size h; omega)
  have e := (h1 0).symm.trans g1
  injection e with e1 e2
  subst e1
  rcases g5 with e | e
  · exact Or.inl e
  · exact Or.inr ⟨_, e, by rw [hsz]; omega⟩
structure Pg (B b : Nat) (g : Option Nat) (ls : List Tx) (w : World) : Prop where
  lo : B ≤ b
  row : ∃ v, w.heap[b]? = some (.cells #[v] 54 (0, 0)) ∧ v.ownBlock = g ∧ OutS B w v ls
theorem Pg.ne {B b : Nat} {g : Option Nat} {ls : List Tx} {w : World} (h : Pg B b g ls w) : ∀ j, g = some j → B ≤ j ∧ j < w.heap.size ∧ j ≠ b := by
  obtain ⟨_, v, hb, rfl, ho⟩ := h
  intro j hj
  have h1 := OutG.block ho j hj
  refine ⟨h1.1, h1.2, fun e => ?_⟩
  subst e
  obtain ⟨cur, hc⟩ := own_obj (OutG.own ho) hj
  rw [hb] at hc
  simp at hc
theorem Pg.lt {B b : Nat} {g : Option Nat} {ls : List Tx} {w : World} (h : Pg B b g ls w) : b < w.heap.size := by
  obtain ⟨_, v, hb, _⟩ := h
  exact lt_of_at hb
theorem Pg.size {B b : Nat} {g : Option Nat} {ls : List Tx} {w : World} (h : Pg B b g ls w) : B ≤ w.heap.size := Nat.le_trans h.lo (Nat.le_of_lt h.lt)
theorem Pg.keep {B b : Nat} {g : Option Nat} {ls : List Tx} {w w' : World} {S : Nat → Prop} (h : Pg B b g ls w) (k : Keep S w w') (hb : ¬ S b) (hg : ∀ j, g = some j → ¬ S j) : Pg B b g ls w' := by
  have hsz := h.size
  obtain ⟨hlo, v, hv, he, ho⟩ := h
  exact ⟨hlo, v, k.at hv hb, he, Nat.le_trans hsz k.size, own_keep (OutG.own ho) k (fun j hj => hg j (by rw [← he]; exact hj)), fun _ _ _ _ => trivial⟩
theorem Pg.below {B b : Nat} {g : Option Nat} {ls : List Tx} {w w' : World} (h : Pg B b g ls w) (hb : Below w.heap.size w w') : Pg B b g ls w' :=
  h.keep (Keep.of_below (S := fun _ => False) hb) (fun h => h) (fun _ _ h => h)
theorem Pg.begin (w : World) : Pg w.heap.size w.heap.size none [] (w.alloc (.cells #[.slice none 0 0] 54)) :=
  ⟨Nat.le_refl _, .slice none 0 0, alloc_new _ _, rfl, OutG.nil (by simp)⟩
structure Pt (B b : Nat) (g g' : Option Nat) (ls : List Tx) (w w' : World) : Prop where
  pg : Pg B b g' ls w'
  new : g' = g ∨ ∃ j, g' = some j ∧ w.heap.size ≤ j
  kp : Keep (fun j => j = b ∨ some j = g) w w'
theorem Pt.refl {B b : Nat} {g : Option Nat} {ls : List Tx} {w : World} (h : Pg B b g ls w) : Pt B b g g ls w w := ⟨h, Or.inl rfl, Keep.refl _ _⟩
theorem Pt.trans {B b : Nat} {g g' g'' : Option Nat} {ls ls' : List Tx} {w w' w'' : World} (h : Pt B b g g' ls w w') (k : Pt B b g' g'' ls' w' w'') : Pt B b g g'' ls' w w'' := by
  refine ⟨k.pg, ?_, ⟨k.kp.os.trans h.kp.os, k.kp.tape.trans h.kp.tape, k.kp.output.trans h.kp.output, Nat.le_trans h.kp.size k.kp.size, fun j hj hs => ?_⟩⟩
  · rcases k.new with e | ⟨j, e, hj⟩
    · rw [e]; exact h.new
    · exact Or.inr ⟨j, e, Nat.le_trans h.kp.size hj⟩
  · rw [← h.kp.block j hj hs]
    refine k.kp.block j (Nat.lt_of_lt_of_le hj h.kp.size) (fun hs' => ?_)
    rcases hs' with hs' | hs'
    · exact hs (Or.inl hs')
    · rcases h.new with e | ⟨i, e, hi⟩
      · exact hs (Or.inr (by rw [hs', e]))
      · rw [e] at hs'
        have := Option.some.inj hs'
        omega
theorem Pt.more {B b : Nat} {g g' : Option Nat} {ls : List Tx} {w w' w'' : World} (h : Pt B b g g' ls w w') (k : Below w'.heap.size w' w'') : Pt B b g g' ls w w'' :=
  h.trans ⟨h.pg.below k, Or.inl rfl, Keep.of_below k⟩
theorem Pt.ahead {B b : Nat} {g g' : Option Nat} {ls ls0 : List Tx} {w w' w'' : World} (h : Pg B b g ls0 w) (k : Below w.heap.size w w') (t : Pt B b g g' ls w' w'') : Pt B b g g' ls w w'' :=
  (Pt.refl h).more k |>.trans t
theorem Pt.bel {B b : Nat} {g g' : Option Nat} {ls ls0 : List Tx} {w w' : World} (h : Pg B b g ls0 w) (t : Pt B b g g' ls w w') : Below B w w' :=
  t.kp.below (fun k hk => by
    rcases hk with rfl | hk
    · exact h.lo
    · exact (h.ne k hk.symm).1) h.size
theorem Pt.rd {B b : Nat} {g g' : Option Nat} {ls ls0 : List Tx} {w0 w w' : World} {u : Value} {xs : List Tx} (h0 : Pg B b g ls0 w0) (h : OutS w0.heap.size w u xs) (t : Pt B b g g' ls w w') : Rd w' u xs := by
  have h1 : OutS w0.heap.size w' u xs := ⟨Nat.le_trans (OutG.size h) t.kp.size, own_keep (OutG.own h) t.kp (fun j hj hS => by
    have h2 := (OutG.block h j hj).1
    rcases hS with e | e
    · have := h0.lt; omega
    · have := (h0.ne j e.symm).2.1; omega), fun _ _ _ _ => trivial⟩
  exact Pa.OutS.rd h1
def PutAns (B b : Nat) (g : Option Nat) (ls : List Tx) (w : World) (e : Ending) (w' : World) : Prop := e = .returned (.tuple #[]) ∧ ∃ g', Pt B b g g' ls w w'
set_option maxHeartbeats 800000 in
theorem put_any {B b : Nat} {g : Option Nat} {ls : List Tx} {w : World} (h : Pg B b g ls w) (s : Tx) (hl : ls.length + 1 ≤ 1000000) :
    Calls Tryz.prog 36 #[.pointer (some ⟨b, 0, none⟩), .string (S s)] w (PutAns B b g (ls ++ [s]) w) := by
  have hne := h.ne
  obtain ⟨hlo, v, hb, he, ho⟩ := h
  obtain ⟨v', w2, h1, h2, h3⟩ := Pa.OutS.push ho s hl
  have c0 : (w.alloc (.cells #[.string (S s)] 9)).cell? ⟨b, 0, none⟩ = some v := cell_at (alloc_at hb _) 0
  have c0' : w.cell? ⟨b, 0, none⟩ = some v := cell_at hb 0
  have hb2 : w2.heap[b]? = some (.cells #[v] 54 (0, 0)) := h3.at hb (fun e => (hne b (by rw [← he, e])).2.2 rfl)
  have c2 : w2.cell? ⟨b, 0, none⟩ = some v := cell_at hb2 0
  have f2 : w2.frozen? ⟨b, 0, none⟩ = false := frozen_at hb2 0
  have hE : Hid (Pt B b g v'.ownBlock (ls ++ [s]) w (w2.setCell ⟨b, 0, none⟩ v')) := Lib.hid (by
    have hnb : ∀ j, v'.ownBlock = some j → j ≠ b := fun j hj e => by
      subst e
      obtain ⟨cur, hc⟩ := own_obj (OutG.own h2) hj
      rw [hb2] at hc
      simp at hc
    have kS : Keep (fun j => j = b) w2 (w2.setCell ⟨b, 0, none⟩ v') := (Keep.refl (fun j => j = b) w2).setCell (p := ⟨b, 0, none⟩) (Or.inl rfl) v'
    refine ⟨⟨hlo, v', ?_, rfl, Nat.le_trans (OutG.size h2) kS.size, own_keep (OutG.own h2) kS hnb, fun _ _ _ _ => trivial⟩, ?_, ?_⟩
    · have := set_at hb2 0 v'
      simpa using this
    · rcases grew ho s hl h1 with e | ⟨j, e, hj⟩
      · exact Or.inl (by rw [e, he])
      · exact Or.inr ⟨j, e, hj⟩
    · exact (h3.mono (T := fun j => j = b ∨ some j = g) (fun k _ hk => Or.inr (hk.trans he))).setCell (p := ⟨b, 0, none⟩) (Or.inl (Or.inl rfl)) v')
  obtain ⟨ao, ca, hv'⟩ := (Pa.OutS.rd h2).len
  generalize (ls ++ [s]).length = n at hv'
  subst hv'
  clear h2 h3 ho hne hb hb2
  go_enter Tryz.func36, Tryz.ntmps36
  go_wp2_with (at_builtin; refine Lib.wpList_append_run _ rfl _ _ _ _ rfl _ _ rfl rfl _ _ (h1 _) ?_)
  go_end0
  exact ⟨rfl, _, hE.out⟩
theorem behind_any (m a s : Tx) (w : World) (hm : m.length ≤ 100) (hs : s.length ≤ 10000000000) :
    Calls Tryz.prog 95 #[.string (S m), .string (S a), .string (S s)] w fun e w' => e = .returned (.string (S (if s = [] then a else m ++ s))) ∧ w = w' := by
  have hz : (S m).size + (S s).size ≤ 20000000000 := by rw [S_size, S_size]; omega
  have HA : Hid (S m ++ S s = S (m ++ s)) := Lib.hid (S_app m s)
  by_cases h0 : s = []
  · rw [if_pos h0]
    subst h0
    have e1 : (S []).toList == [] := by rw [S_toList]; rfl
    clear HA
    generalize S ([] : Tx) = t at *
    go_enter Tryz.func95, Tryz.ntmps95
    go_wp2_with fail
    go_ret
    exact ⟨rfl, rfl⟩
  · rw [if_neg h0]
    have e1 : ((S s).toList == []) = false := by rw [S_toList]; simpa using h0
    clear h0
    generalize S (m ++ s) = y at *
    generalize S s = t at *
    generalize S m = q at *
    go_enter Tryz.func95, Tryz.ntmps95
    go_wp2_with fail
    go_ret
    exact ⟨ret_str HA.out, rfl⟩
theorem written_any (v : Value) (l : List Sp) (w : World) (ht : Tr w v l) (hn : totAll l ≤ 20000) (hf : fitAll 140737488355328 l) (hr : rtB l = true) :
    Calls Tryz.prog 91 #[v] w fun e w' => e = .returned (.string (S (wrs l))) ∧ Below w.heap.size w w' := by
  have HW := Lib.hid (writeP_any v l w ht hn hf)
  unfold TwoAns wrB erB at HW
  rw [if_pos hr, if_pos hr] at HW
  clear ht hn hf hr
  generalize S (wrs l) = y at *
  go_enter Tryz.func91, Tryz.ntmps91
  go_wp2_with fail
  refine HW.out.mono ?_
  rintro e w1 ⟨rfl, b1⟩
  have B1 := Lib.hid b1
  clear b1 HW
  go_wp2_with fail
  go_ret
  exact ⟨rfl, B1.out⟩
def tkL (n : Nat) : List Tx → Nat
  | [] => n
  | s :: r => tkL (max n (Ln.mx 96 s + 1)) r
theorem tkL_eq : ∀ (l : List Tx) (n : Nat), 3 ≤ n → tkL n l = max n (ticksL l)
  | [], n, h => by show n = max n 3; omega
  | s :: r, n, h => by
    rw [tkL, tkL_eq r _ (by omega)]
    show _ = max n (max (Ln.mx 96 s + 1) (ticksL r))
    omega
theorem tkL_ticks (l : List Tx) : tkL 3 l = ticksL l := by
  have h : 3 ≤ ticksL l := by
    induction l with
    | nil => exact Nat.le_refl _
    | cons s r ih => show 3 ≤ max _ (ticksL r); omega
  rw [tkL_eq l 3 (Nat.le_refl _)]
  omega
set_option maxHeartbeats 800000 in
theorem ticks_any (v : Value) (xs : List Tx) (w : World) (hr : Rd w v xs) (hn : xs.length ≤ 1000000) (hx : ∀ x ∈ xs, x.length ≤ 1000000) :
    Calls Tryz.prog 93 #[v] w fun e w' => e = .returned (.int .i64 (ticksL xs : Nat)) ∧ w = w' := by
  obtain ⟨ao, ca, rfl⟩ := hr.len
  have e96 : (((96 : UInt8).toNat : Nat) : Int) = 96 := rfl
  have HL := Lib.hid (fun j (hj : j < xs.length) (w' : World) => Ln.longest_any (S xs[j]) (by rw [S_size]; have := hx xs[j] (List.getElem_mem hj); omega) 96 w')
  simp only [S_list, e96] at HL
  have HM : Hid (∀ j (hj : j < xs.length), Ln.mx 96 xs[j] ≤ 1000000) := Lib.hid (fun j hj => Nat.le_trans (Ln.mx_le 96 _) (hx xs[j] (List.getElem_mem hj)))
  have HRd := Lib.hid (Bt.Rd.at hr)
  have H0 : Hid (ticksL xs = tkL 3 (xs.drop 0)) := Lib.hid (by rw [List.drop_zero, tkL_ticks])
  generalize ticksL xs = X at *
  clear hr hx e96
  go_enter Tryz.func93, Tryz.ntmps93
  go_wp2_with fail
  go_loop [3, 8] (fun n i => ∃ j q : Nat, j ≤ xs.length ∧ i = .int .i64 j ∧ n = .int .i64 q ∧ q ≤ 1000001 ∧ Hid (X = tkL q (xs.drop j))) (fun _ i => xs.length - (intOf i).toNat)
  case atStart => exact ⟨0, 3, Nat.zero_le _, rfl, rfl, by omega, H0⟩
  case round =>
    clear H0
    obtain ⟨j, q, hj, rfl, rfl, hq, HN⟩ := hrel
    by_cases hlt : j < xs.length
    · have hi1 : (j : Int) < (xs.length : Int) := by omega
      obtain ⟨b, o, rfl, c0⟩ := HRd.out j hlt
      have HLj := Lib.hid (HL.out j hlt w)
      have hm := HM.out j hlt
      have hdr : xs.drop j = xs[j] :: xs.drop (j + 1) := List.drop_eq_getElem_cons hlt
      have HN2 : Hid (X = tkL (max q (Ln.mx 96 xs[j] + 1)) (xs.drop (j + 1))) := Lib.hid (by rw [HN.out, hdr]; rfl)
      clear HN hdr
      generalize Ln.mx 96 xs[j] = m at *
      generalize S xs[j] = sx at *
      go_wp2_with fail
      refine HLj.out.mono ?_
      rintro e w' ⟨rfl, rfl⟩
      clear HLj
      go_wp2_with fail
      go_round
      case rel => exact ⟨j + 1, max q (m + 1), by omega, by go_num, by go_num, by omega, HN2⟩
      case measure => simp [intOf] <;> omega
    · have hi1 : ¬ (j : Int) < (xs.length : Int) := by omega
      have HX : Hid (X = q) := Lib.hid (by rw [HN.out, List.drop_eq_nil_of_le (by omega)]; rfl)
      clear HN hlt
      go_wp2_with fail
      go_ret
      exact ⟨ret_int (by rw [HX.out]), rfl⟩
end Go.Proofs.YtldllbmbcnipoabGreatDoor.Wr

namespace Go.Proofs.YtldllbmbcnipoabGreatDoor.Ln
open Go.RowKit
set_option linter.unusedVariables false
theorem trim_any (s : ByteArray) (hs : s.size ≤ 9223372036854775806) (w : World) :
    Calls Tryz.prog 135 #[.string s] w fun e w' => e = .returned (.string (S (trim s.data.toList))) ∧ Below w.heap.size w w' := by
  have hc := Any.strings_Trim_laid Tryz.lays160 (by kernel_rfl) s (S [32, 9]) w (by omega) (by decide) (ascii_of_all (by decide))
  rw [S_list, trimS_eq] at hc
  have hc' : Calls Tryz.prog 154 #[.string s, .string ⟨#[32, 9]⟩] w fun e w' => e = .returned (.string (S (trim s.data.toList))) ∧ Below w.heap.size w w' := hc
  have Hc := Lib.hid hc'
  clear hc hc'
  go_enter Tryz.func135, Tryz.ntmps135
  go_wp2_with fail
  refine Hc.out.mono ?_
  rintro e w' ⟨rfl, hb⟩
  have Hb := Lib.hid hb
  clear hb
  go_wp2_with fail
  go_ret
  exact ⟨rfl, Hb.out⟩
end Go.Proofs.YtldllbmbcnipoabGreatDoor.Ln
