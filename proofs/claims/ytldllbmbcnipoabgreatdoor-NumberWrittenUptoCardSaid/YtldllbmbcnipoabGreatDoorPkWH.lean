/-
  Several texts in one:
  
  
  
  
  
  
-/
import Derived.Test.YtldllbmbcnipoabGreatDoorPkWG
import Derived.Test.YtldllbmbcnipoabGreatDoorPkWB
import Derived.Maps.AppendAt
import Derived.Test.YtldllbmbcnipoabGreatDoorPkWA
import Derived.WalkSpells
import Derived.WalkLawsBesides
import Derived.StillTailTactics
import Derived.Lib.AppendZeros
namespace Go.Proofs.YtldllbmbcnipoabGreatDoor.Pa
open Go.RowKit
open Go.Proofs.YtldllbmbcnipoabGreatDoor.Tk (S S_of S_list S_size S_toList S_app ret_int Rd)
open Go.Proofs.YtldllbmbcnipoabGreatDoor.Cm (Rk Rk.of_own flat_get Keep own_keep cell_at alloc_new alloc_at lt_of_at own_obj newsK)
open Go.Proofs.YtldllbmbcnipoabGreatDoor.Sp (Sp Tr)
open Go.Proofs.YtldllbmbcnipoabGreatDoor.Bk (Bk Tx)
open Go.Proofs.YtldllbmbcnipoabGreatDoor.Bt (TrB KB encT)
set_option linter.unusedVariables false
variable {α : Type} {k : Nat} {e : TypeId} {enc : α → List Value} {R : World → α → Prop}
structure OutG (k : Nat) (e : TypeId) (enc : α → List Value) (R : World → α → Prop) (B : Nat) (w : World) (v : Value) (ps : List α) : Prop where
  size : B ≤ w.heap.size
  own : w.ownsRow B e k v ps.length (ps.flatMap enc)
  kid : ∀ p ∈ ps, ∀ w', Keep (fun j => j < B ∨ some j = v.ownBlock) w w' → R w' p
theorem OutG.nil {B : Nat} {w : World} (h : B ≤ w.heap.size) : OutG k e enc R B w (.slice none 0 0) [] := ⟨h, World.ownsRow_nil _ _ _ _, fun p h => by cases h⟩
theorem OutG.block {B : Nat} {w : World} {v : Value} {ps : List α} (h : OutG k e enc R B w v ps) : ∀ j, v.ownBlock = some j → B ≤ j ∧ j < w.heap.size := h.own.lt
theorem OutG.push {ts : TypeId} {zero : Value} {bytes : Nat} (hu : Tryz.prog.underlying ts = some (.slice e)) (hinfo : (Tryz.prog.info? e).map (fun i => (i.zero, i.size, i.bytes)) = some (some zero, k, bytes)) (hz : zero.cells.size = k) (hk0 : 0 < k) (hby : bytes ≤ 200)
    (hk : ∀ x, (enc x).length = k) {B : Nat} {w : World} {v : Value} {ps : List α} (h : OutG k e enc R B w v ps) {x : α} (hx : ∀ w', Keep (fun j => j < B ∨ some j = v.ownBlock) w w' → R w' x) (h1 : ∀ u ∈ enc x, u.oneCell' = true) (hl : ps.length + 1 ≤ 1000000) :
    ∃ v' w', (∀ ty, (Builtin.append_ #[ts, ts] ty #[v, .slice (some ⟨w.heap.size, 0, none⟩) 1 1]).run Tryz.prog (w.alloc (.cells (enc x).toArray e)) = .ok v' w') ∧ OutG k e enc R B w' v' (ps ++ [x]) ∧ Keep (fun j => some j = v.ownBlock) w w' := by
  obtain ⟨i0, hi, hz0, hz1, hz2⟩ := info_parts hinfo
  have hsz : (w.alloc (.cells (enc x).toArray e)).heap.size = w.heap.size + 1 := by simp
  have kAl : Keep (fun j => some j = v.ownBlock) w (w.alloc (.cells (enc x).toArray e)) := (Keep.refl _ _).alloc _
  have hown : (w.alloc (.cells (enc x).toArray e)).ownsRow B e k v ps.length (ps.flatMap enc) := own_keep h.own (S := fun j => j < B) ((Keep.refl _ _).alloc _) (fun g hg => by have := (h.block g hg).1; omega)
  have hcells : ∀ j u, (enc x)[j]? = some u → (w.alloc (.cells (enc x).toArray e)).cell? (Addr.add ⟨w.heap.size, 0, none⟩ j) = some u := newsK
  have hb2 : (ps.length + 1) * bytes ≤ 140737488355328 := by
    have : (ps.length + 1) * bytes ≤ 1000000 * 200 := Nat.mul_le_mul hl hby
    omega
  obtain ⟨v', w', g1, g2, g3, _, g5⟩ := run_append_own_at (P := Tryz.prog) (w := w.alloc (.cells (enc x).toArray e)) B ts 0 e i0 zero k bytes hu hi hz0 hz1 hz2 hz hk0 v ps.length (ps.flatMap enc) hown ⟨w.heap.size, 0, none⟩ 1 1 (enc x) (by rw [hk, Nat.one_mul]) hcells h1 (by unfold maxLen; omega) hb2 (by rw [hsz]; have := h.size; omega)
  have kG : Keep (fun j => some j = v.ownBlock) w w' := kAl.grown g3 (fun j hj => Or.inl hj.symm)
  have hkeep : ∀ p : α, (∀ w', Keep (fun j => j < B ∨ some j = v.ownBlock) w w' → R w' p) → ∀ w'', Keep (fun j => j < B ∨ some j = v'.ownBlock) w' w'' → R w'' p := fun p hp w'' k2 => by
    refine hp w'' ⟨k2.os.trans kG.os, k2.tape.trans kG.tape, k2.output.trans kG.output, Nat.le_trans kG.size k2.size, fun j hj hS => ?_⟩
    rw [← kG.block j hj (fun h' => hS (Or.inr h'))]
    refine k2.block j (Nat.lt_of_lt_of_le hj kG.size) (fun hS' => ?_)
    rcases hS' with h' | h'
    · exact hS (Or.inl h')
    · rcases g5 with hg | hg
      · exact hS (Or.inr (by rw [h', hg]))
      · rw [hg] at h'
        simp only [Option.some.injEq] at h'
        rw [hsz] at h'
        omega
  refine ⟨v', w', fun ty => g1, ⟨Nat.le_trans h.size kG.size, ?_, fun p hp => ?_⟩, kG⟩
  · rw [List.length_append, List.flatMap_append]
    have : [x].flatMap enc = enc x := by simp [List.flatMap_cons]
    rw [this]
    exact g2
  · rcases List.mem_append.1 hp with hp | hp
    · exact hkeep p (h.kid p hp)
    · rw [List.mem_singleton] at hp
      subst hp
      exact hkeep p hx
def encX (x : Tx) : List Value := [.string (S x)]
theorem encX_map : ∀ l : List Tx, l.flatMap encX = l.map encStr
  | [] => rfl
  | x :: r => by rw [List.flatMap_cons, encX_map r]; rfl
def OutS (B : Nat) (w : World) (v : Value) (l : List Tx) : Prop := OutG 1 9 encX (fun _ _ => True) B w v l
theorem OutS.rd {B : Nat} {w : World} {v : Value} {l : List Tx} (h : OutS B w v l) : Rd w v l := by
  have := OutG.own h
  rw [encX_map] at this
  exact Rd.of_own this
theorem infoX : (Tryz.prog.info? 9).map (fun i => (i.zero, i.size, i.bytes)) = some (some (.string ⟨#[]⟩), 1, 16) := by kernel_rfl
theorem OutS.push {B : Nat} {w : World} {v : Value} {l : List Tx} (h : OutS B w v l) (x : Tx) (hl : l.length + 1 ≤ 1000000) :
    ∃ v' w', (∀ ty, (Builtin.append_ #[29, 29] ty #[v, .slice (some ⟨w.heap.size, 0, none⟩) 1 1]).run Tryz.prog (w.alloc (.cells #[.string (S x)] 9)) = .ok v' w') ∧ OutS B w' v' (l ++ [x]) ∧ Keep (fun j => some j = v.ownBlock) w w' :=
  OutG.push (ts := 29) Tryz.underlying29 infoX rfl (by decide) (by decide) (fun _ => rfl) h (fun _ _ => trivial) (fun u hu => by rw [encX, List.mem_singleton] at hu; subst hu; rfl) hl
end Go.Proofs.YtldllbmbcnipoabGreatDoor.Pa

namespace Go.Proofs.YtldllbmbcnipoabGreatDoor.Tk
open Go.RowKit
set_option linter.unusedVariables false
def clsI (c : Int) : Int :=
  if c = 10 ∨ c = 13 then 3 else if c = 9 ∨ c = 32 then 2
  else if (33 ≤ c ∧ c ≤ 47) ∨ (58 ≤ c ∧ c ≤ 64) ∨ (91 ≤ c ∧ c ≤ 96) ∨ (123 ≤ c ∧ c ≤ 126) then 4 else 1
theorem clsI3 (c : Int) (h : c = 10 ∨ c = 13) : clsI c = 3 := by unfold clsI; rw [if_pos h]
theorem clsI2 (c : Int) (h : c = 9 ∨ c = 32) : clsI c = 2 := by unfold clsI; rw [if_neg (by omega), if_pos h]
theorem clsI4 (c : Int) (h : (33 ≤ c ∧ c ≤ 47) ∨ (58 ≤ c ∧ c ≤ 64) ∨ (91 ≤ c ∧ c ≤ 96) ∨ (123 ≤ c ∧ c ≤ 126)) : clsI c = 4 := by
  unfold clsI; rw [if_neg (by omega), if_neg (by omega), if_pos h]
theorem clsI1 (c : Int) (h1 : ¬ (c = 10 ∨ c = 13)) (h2 : ¬ (c = 9 ∨ c = 32)) (h : ¬ ((33 ≤ c ∧ c ≤ 47) ∨ (58 ≤ c ∧ c ≤ 64) ∨ (91 ≤ c ∧ c ≤ 96) ∨ (123 ≤ c ∧ c ≤ 126))) : clsI c = 1 := by
  unfold clsI; rw [if_neg h1, if_neg h2, if_neg h]
theorem clsI_cases (c : Int) : (c = 10 ∨ c = 13) ∨ (c = 9 ∨ c = 32) ∨ (33 ≤ c ∧ c ≤ 47) ∨ (58 ≤ c ∧ c ≤ 64) ∨ (91 ≤ c ∧ c ≤ 96) ∨ (123 ≤ c ∧ c ≤ 126) ∨ (c < 9 ∨ (11 ≤ c ∧ c ≤ 12) ∨ (14 ≤ c ∧ c ≤ 31) ∨ (48 ≤ c ∧ c ≤ 57) ∨ (65 ≤ c ∧ c ≤ 90) ∨ (97 ≤ c ∧ c ≤ 122) ∨ 127 ≤ c) := by omega
set_option maxHeartbeats 2000000 in
theorem class_any (c : Int) (w : World) :
    Calls Tryz.prog 77 #[.int .i64 c] w fun e w' => e = .returned (.int .i64 (clsI c)) ∧ w = w' := by
  rcases clsI_cases c with (h | h) | (h | h) | h | h | h | h | (h | h | h | h | h | h | h)
  · subst h; have H := Lib.hid (clsI3 10 (Or.inl rfl))
    go_enter Tryz.func77, Tryz.ntmps77
    go_wp2
    all_goals go_ret
    all_goals exact ⟨ret_int H.out.symm, rfl⟩
  · subst h; have H := Lib.hid (clsI3 13 (Or.inr rfl))
    go_enter Tryz.func77, Tryz.ntmps77
    go_wp2
    all_goals go_ret
    all_goals exact ⟨ret_int H.out.symm, rfl⟩
  · subst h; have H := Lib.hid (clsI2 9 (Or.inl rfl))
    go_enter Tryz.func77, Tryz.ntmps77
    go_wp2
    all_goals go_ret
    all_goals exact ⟨ret_int H.out.symm, rfl⟩
  · subst h; have H := Lib.hid (clsI2 32 (Or.inr rfl))
    go_enter Tryz.func77, Tryz.ntmps77
    go_wp2
    all_goals go_ret
    all_goals exact ⟨ret_int H.out.symm, rfl⟩
  · have H := Lib.hid (clsI4 c (by omega))
    have e10 : (c == 10) = false := beq_eq_false_iff_ne.2 (by omega)
    have e13 : (c == 13) = false := beq_eq_false_iff_ne.2 (by omega)
    have e9 : (c == 9) = false := beq_eq_false_iff_ne.2 (by omega)
    have e32 : (c == 32) = false := beq_eq_false_iff_ne.2 (by omega)
    go_enter Tryz.func77, Tryz.ntmps77
    go_wp2
    all_goals go_ret
    all_goals exact ⟨ret_int H.out.symm, rfl⟩
  · have H := Lib.hid (clsI4 c (by omega))
    have e10 : (c == 10) = false := beq_eq_false_iff_ne.2 (by omega)
    have e13 : (c == 13) = false := beq_eq_false_iff_ne.2 (by omega)
    have e9 : (c == 9) = false := beq_eq_false_iff_ne.2 (by omega)
    have e32 : (c == 32) = false := beq_eq_false_iff_ne.2 (by omega)
    go_enter Tryz.func77, Tryz.ntmps77
    go_wp2
    all_goals go_ret
    all_goals exact ⟨ret_int H.out.symm, rfl⟩
  · have H := Lib.hid (clsI4 c (by omega))
    have e10 : (c == 10) = false := beq_eq_false_iff_ne.2 (by omega)
    have e13 : (c == 13) = false := beq_eq_false_iff_ne.2 (by omega)
    have e9 : (c == 9) = false := beq_eq_false_iff_ne.2 (by omega)
    have e32 : (c == 32) = false := beq_eq_false_iff_ne.2 (by omega)
    go_enter Tryz.func77, Tryz.ntmps77
    go_wp2
    all_goals go_ret
    all_goals exact ⟨ret_int H.out.symm, rfl⟩
  · have H := Lib.hid (clsI4 c (by omega))
    have e10 : (c == 10) = false := beq_eq_false_iff_ne.2 (by omega)
    have e13 : (c == 13) = false := beq_eq_false_iff_ne.2 (by omega)
    have e9 : (c == 9) = false := beq_eq_false_iff_ne.2 (by omega)
    have e32 : (c == 32) = false := beq_eq_false_iff_ne.2 (by omega)
    go_enter Tryz.func77, Tryz.ntmps77
    go_wp2
    all_goals go_ret
    all_goals exact ⟨ret_int H.out.symm, rfl⟩
  · have H := Lib.hid (clsI1 c (by omega) (by omega) (by omega))
    have e10 : (c == 10) = false := beq_eq_false_iff_ne.2 (by omega)
    have e13 : (c == 13) = false := beq_eq_false_iff_ne.2 (by omega)
    have e9 : (c == 9) = false := beq_eq_false_iff_ne.2 (by omega)
    have e32 : (c == 32) = false := beq_eq_false_iff_ne.2 (by omega)
    go_enter Tryz.func77, Tryz.ntmps77
    go_wp2
    all_goals go_ret
    all_goals exact ⟨ret_int H.out.symm, rfl⟩
  · have H := Lib.hid (clsI1 c (by omega) (by omega) (by omega))
    have e10 : (c == 10) = false := beq_eq_false_iff_ne.2 (by omega)
    have e13 : (c == 13) = false := beq_eq_false_iff_ne.2 (by omega)
    have e9 : (c == 9) = false := beq_eq_false_iff_ne.2 (by omega)
    have e32 : (c == 32) = false := beq_eq_false_iff_ne.2 (by omega)
    go_enter Tryz.func77, Tryz.ntmps77
    go_wp2
    all_goals go_ret
    all_goals exact ⟨ret_int H.out.symm, rfl⟩
  · have H := Lib.hid (clsI1 c (by omega) (by omega) (by omega))
    have e10 : (c == 10) = false := beq_eq_false_iff_ne.2 (by omega)
    have e13 : (c == 13) = false := beq_eq_false_iff_ne.2 (by omega)
    have e9 : (c == 9) = false := beq_eq_false_iff_ne.2 (by omega)
    have e32 : (c == 32) = false := beq_eq_false_iff_ne.2 (by omega)
    go_enter Tryz.func77, Tryz.ntmps77
    go_wp2
    all_goals go_ret
    all_goals exact ⟨ret_int H.out.symm, rfl⟩
  · have H := Lib.hid (clsI1 c (by omega) (by omega) (by omega))
    have e10 : (c == 10) = false := beq_eq_false_iff_ne.2 (by omega)
    have e13 : (c == 13) = false := beq_eq_false_iff_ne.2 (by omega)
    have e9 : (c == 9) = false := beq_eq_false_iff_ne.2 (by omega)
    have e32 : (c == 32) = false := beq_eq_false_iff_ne.2 (by omega)
    go_enter Tryz.func77, Tryz.ntmps77
    go_wp2
    all_goals go_ret
    all_goals exact ⟨ret_int H.out.symm, rfl⟩
  · have H := Lib.hid (clsI1 c (by omega) (by omega) (by omega))
    have e10 : (c == 10) = false := beq_eq_false_iff_ne.2 (by omega)
    have e13 : (c == 13) = false := beq_eq_false_iff_ne.2 (by omega)
    have e9 : (c == 9) = false := beq_eq_false_iff_ne.2 (by omega)
    have e32 : (c == 32) = false := beq_eq_false_iff_ne.2 (by omega)
    go_enter Tryz.func77, Tryz.ntmps77
    go_wp2
    all_goals go_ret
    all_goals exact ⟨ret_int H.out.symm, rfl⟩
  · have H := Lib.hid (clsI1 c (by omega) (by omega) (by omega))
    have e10 : (c == 10) = false := beq_eq_false_iff_ne.2 (by omega)
    have e13 : (c == 13) = false := beq_eq_false_iff_ne.2 (by omega)
    have e9 : (c == 9) = false := beq_eq_false_iff_ne.2 (by omega)
    have e32 : (c == 32) = false := beq_eq_false_iff_ne.2 (by omega)
    go_enter Tryz.func77, Tryz.ntmps77
    go_wp2
    all_goals go_ret
    all_goals exact ⟨ret_int H.out.symm, rfl⟩
  · have H := Lib.hid (clsI1 c (by omega) (by omega) (by omega))
    have e10 : (c == 10) = false := beq_eq_false_iff_ne.2 (by omega)
    have e13 : (c == 13) = false := beq_eq_false_iff_ne.2 (by omega)
    have e9 : (c == 9) = false := beq_eq_false_iff_ne.2 (by omega)
    have e32 : (c == 32) = false := beq_eq_false_iff_ne.2 (by omega)
    go_enter Tryz.func77, Tryz.ntmps77
    go_wp2
    all_goals go_ret
    all_goals exact ⟨ret_int H.out.symm, rfl⟩
theorem cls_nat (b : UInt8) : clsI b.toNat = (cls b : Int) := by
  have h : ∀ b : UInt8, clsI b.toNat = (cls b : Int) := by
    intro b
    unfold clsI cls
    have e : ∀ c : UInt8, (b = c ↔ (b.toNat : Int) = c.toNat) := fun c => ⟨fun h => by rw [h], fun h => UInt8.toNat_inj.1 (by omega)⟩
    have l : ∀ c : UInt8, (b ≤ c ↔ (b.toNat : Int) ≤ c.toNat) := fun c => by rw [UInt8.le_iff_toNat_le]; omega
    have g : ∀ c : UInt8, (c ≤ b ↔ (c.toNat : Int) ≤ b.toNat) := fun c => by rw [UInt8.le_iff_toNat_le]; omega
    simp only [e, l, g]
    generalize (b.toNat : Int) = x
    show (if x = 10 ∨ x = 13 then (3 : Int) else if x = 9 ∨ x = 32 then 2 else if (33 ≤ x ∧ x ≤ 47) ∨ (58 ≤ x ∧ x ≤ 64) ∨ (91 ≤ x ∧ x ≤ 96) ∨ (123 ≤ x ∧ x ≤ 126) then 4 else 1) = ((if x = 10 ∨ x = 13 then (3 : Nat) else if x = 9 ∨ x = 32 then 2 else if (33 ≤ x ∧ x ≤ 47) ∨ (58 ≤ x ∧ x ≤ 64) ∨ (91 ≤ x ∧ x ≤ 96) ∨ (123 ≤ x ∧ x ≤ 126) then 4 else 1 : Nat) : Int)
    split
    · rfl
    · split
      · rfl
      · split <;> rfl
  exact h b
theorem class8 (b : UInt8) (w : World) : Calls Tryz.prog 77 #[.int .i64 b.toNat] w fun e w' => e = .returned (.int .i64 (cls b)) ∧ w = w' := by
  have := class_any b.toNat w; rwa [cls_nat] at this
theorem joins_at (a b : UInt8) : joins a b = (((cls a : Int) == 1 || (cls a : Int) == 2) && ((cls b : Int) == (cls a : Int))) := by
  unfold joins
  have h : ∀ x : UInt8, cls x = 1 ∨ cls x = 2 ∨ cls x = 3 ∨ cls x = 4 := by
    intro x
    unfold cls
    split
    · simp
    · split
      · simp
      · split <;> simp
  rcases h a with e | e | e | e <;> rcases h b with f | f | f | f <;> rw [e, f] <;> decide
end Go.Proofs.YtldllbmbcnipoabGreatDoor.Tk

namespace Go.Proofs.YtldllbmbcnipoabGreatDoor.Tk
open Go.RowKit
set_option linter.unusedVariables false
theorem st_any (a b : UInt8) (w : World) :
    Calls Tryz.prog 49 #[.int .u8 a.toNat, .int .u8 b.toNat] w fun e w' => e = .returned (.bool (joins a b)) ∧ w = w' := by
  have H := Lib.hid (joins_at a b)
  have ha : a.toNat ≤ 255 := by have := a.toNat_lt; omega
  have hb : b.toNat ≤ 255 := by have := b.toNat_lt; omega
  have C := Lib.hid (class8 a)
  have D := Lib.hid (class8 b)
  generalize hx : (cls a : Int) = x at *
  generalize hy : (cls b : Int) = y at *
  clear hx hy
  cases e1 : (x == 1) with
  | true =>
    rw [e1] at H
    go_enter Tryz.func49, Tryz.ntmps49
    go_wp2_with fail
    refine (C.out _).mono ?_
    rintro e w' ⟨rfl, rfl⟩
    go_wp2_with fail
    refine (D.out _).mono ?_
    rintro e w' ⟨rfl, rfl⟩
    go_wp2_with fail
    go_ret
    exact ⟨by rw [H.out]; simp, rfl⟩
  | false =>
    rw [e1] at H
    cases e2 : (x == 2) with
    | true =>
      rw [e2] at H
      go_enter Tryz.func49, Tryz.ntmps49
      go_wp2_with fail
      refine (C.out _).mono ?_
      rintro e w' ⟨rfl, rfl⟩
      go_wp2_with fail
      refine (D.out _).mono ?_
      rintro e w' ⟨rfl, rfl⟩
      go_wp2_with fail
      go_ret
      exact ⟨by rw [H.out]; simp, rfl⟩
    | false =>
      rw [e2] at H
      go_enter Tryz.func49, Tryz.ntmps49
      go_wp2_with fail
      refine (C.out _).mono ?_
      rintro e w' ⟨rfl, rfl⟩
      go_wp2_with fail
      go_ret
      exact ⟨by rw [H.out]; simp, rfl⟩
end Go.Proofs.YtldllbmbcnipoabGreatDoor.Tk

namespace Go.Proofs.YtldllbmbcnipoabGreatDoor.Tk
open Go.RowKit
set_option linter.unusedVariables false
def Rel (s : ByteArray) (f k : Nat) (o : List (List UInt8)) : Prop :=
  toks s.data.toList = o ++ (if k < s.size then tc (cur s f (k + 1)) (s.data.toList.drop (k + 1)) else [])
theorem cur_one (s : ByteArray) (k : Nat) (hk : k < s.size) : cur s k (k + 1) = [s[k]] := by
  rw [cur_snoc s k k (Nat.le_refl _) hk, cur_same]; rfl
theorem Rel.start (s : ByteArray) : Rel s 0 0 [] := by
  unfold Rel
  by_cases h : 0 < s.size
  · rw [if_pos h, cur_one s 0 h, List.nil_append]
    conv => lhs; rw [← List.drop_zero (l := s.data.toList), at_data s 0 h]
    rfl
  · rw [if_neg h]
    have := drop_all s 0 h
    rw [List.drop_zero] at this
    rw [this]; rfl
theorem Rel.on {s : ByteArray} {f k : Nat} {o : List (List UInt8)} (h : Rel s f k o) (hf : f ≤ k) (hk : k + 1 < s.size) (hj : joins (s[k]'(by omega)) s[k + 1] = true) : Rel s f (k + 1) o := by
  unfold Rel at h ⊢
  rw [if_pos (by omega), at_data s (k + 1) hk, cur_snoc s f k hf (by omega), tc_on _ _ _ _ hj, ← cur_snoc s f k hf (by omega), ← cur_snoc s f (k + 1) (by omega) hk] at h
  rw [if_pos hk]
  exact h
theorem Rel.cut {s : ByteArray} {f k : Nat} {o : List (List UInt8)} (h : Rel s f k o) (hf : f ≤ k) (hk : k + 1 < s.size) (hj : joins (s[k]'(by omega)) s[k + 1] = false) : Rel s (k + 1) (k + 1) (o ++ [(s.extract f (k + 1)).data.toList]) := by
  unfold Rel at h ⊢
  rw [if_pos (by omega), at_data s (k + 1) hk, cur_snoc s f k hf (by omega), tc_cut _ _ _ _ hj, ← cur_snoc s f k hf (by omega)] at h
  rw [if_pos hk, cur_one s (k + 1) hk, h]
  simp [cur]
theorem Rel.last {s : ByteArray} {f k : Nat} {o : List (List UInt8)} (h : Rel s f k o) (hf : f ≤ k) (hk : k + 1 = s.size) : Rel s (k + 1) (k + 1) (o ++ [(s.extract f (k + 1)).data.toList]) := by
  unfold Rel at h ⊢
  rw [if_pos (by omega), drop_all s (k + 1) (by omega), tc_end _ (by rw [cur_snoc s f k hf (by omega)]; simp)] at h
  rw [if_neg (by omega), h]
  simp [cur]
theorem Rel.stop {s : ByteArray} {f k : Nat} {o : List (List UInt8)} (h : Rel s f k o) (hk : ¬ k < s.size) : toks s.data.toList = o := by
  unfold Rel at h
  rw [if_neg hk, List.append_nil] at h
  exact h
theorem Rel.on' {s : ByteArray} {f k q : Nat} {o : List (List UInt8)} (h : Rel s f k o) (hf : f ≤ k) (hq : k + 1 = q) (hk : q < s.size) (hj : joins (s[k]'(by omega)) s[q] = true) : Rel s f q o := by subst hq; exact h.on hf hk hj
theorem Rel.cut' {s : ByteArray} {f k q : Nat} {o : List (List UInt8)} (h : Rel s f k o) (hf : f ≤ k) (hq : k + 1 = q) (hk : q < s.size) (hj : joins (s[k]'(by omega)) s[q] = false) : Rel s q q (o ++ [(s.extract f q).data.toList]) := by subst hq; exact h.cut hf hk hj
theorem Rel.last' {s : ByteArray} {f k q : Nat} {o : List (List UInt8)} (h : Rel s f k o) (hf : f ≤ k) (hq : k + 1 = q) (hk : q = s.size) : Rel s q q (o ++ [(s.extract f q).data.toList]) := by subst hq; exact h.last hf hk
theorem sym_of {P : Program} {f : FuncId} {args : Array Value} {w : World} {v : Value} (h : Calls P f args w fun e w' => e = .returned v ∧ w = w') : Calls P f args w fun e w' => e = .returned v ∧ w' = w := h.mono fun _ _ ⟨a, b⟩ => ⟨a, b.symm⟩
theorem own_drewN {w : World} {B : Nat} {e : TypeId} {z n : Nat} {v : Value} {xs : List Value} (h : w.ownsRow B e z v n xs) (m : Nat) : (w.drewN m).ownsRow B e z v n xs := h
set_option maxHeartbeats 1600000 in
set_option maxRecDepth 100000 in
theorem cut_any (s : ByteArray) (hs : s.size ≤ 1000000) (w : World) :
    Calls Tryz.prog 30 #[.string s] w fun e w' => ∃ v, e = .returned v ∧
      w'.ownsRow w.heap.size 9 1 v (toks s.data.toList).length ((toks s.data.toList).map encStr) ∧ Below w.heap.size w w' := by
  obtain ⟨i0, hi, hz0, hz1, hz2⟩ := info_parts infoS
  have H0 := Lib.hid (Rel.start s)
  go_enter Tryz.func30, Tryz.ntmps30
  go_wp2_with fail
  go_loopw [3, 4, 8] (fun v f i wr => ∃ (k fr : Nat) (o : List (List UInt8)), fr ≤ k ∧ k ≤ s.size ∧ o.length ≤ k ∧ i = .int .i64 k ∧ f = .int .i64 fr ∧ wr.ownsRow w.heap.size 9 1 v o.length (o.map encStr) ∧ Below w.heap.size w wr ∧ Hid (Rel s fr k o)) (fun _ _ i _ => s.size - (intOf i).toNat)
  case atStart => exact ⟨0, 0, [], Nat.le_refl _, Nat.zero_le _, Nat.le_refl _, rfl, rfl, World.ownsRow_nil _ _ _ _, Below.refl _ _, H0⟩
  case round =>
    clear H0
    obtain ⟨k, f, o, hf, hk, ho, rfl, rfl, hown, hb, HR⟩ := hrel
    have hB := hb.size
    by_cases hlt : k < s.size
    · obtain ⟨q, hq⟩ : ∃ q, k + 1 = q := ⟨_, rfl⟩
      have hwr : IntKind.i64.wrap ((k : Int) + 1) = (q : Int) := by rw [IntKind.wrap_i64]; omega
      by_cases hk1 : q < s.size
      · have e0 : ((q : Int) == (s.size : Int)) = false := by rw [beq_eq_false_iff_ne]; omega
        have C := Lib.hid (fun w => sym_of (st_any s[k] s[q] w))
        cases hj : joins s[k] s[q] with
        | true =>
          rw [hj] at C
          have HR2 := Lib.hid (HR.out.on' hf hq hk1 hj)
          have Hb := Lib.hid hb
          have Ho := Lib.hid hown
          clear hj hb hown HR
          go_wp2_with fail
          go_quiet (first | (go_at_call 49; refine Calls.quiet_of_same (C.out _)))
          go_wp2_with fail
          go_roundw
          case rel => exact ⟨q, f, o, by omega, by omega, by omega, by go_num, rfl, own_drewN Ho.out _, below_drewN Hb.out _, HR2⟩
          case measure => simp [intOf]; omega
        | false =>
          rw [hj] at C
          have HR2 := Lib.hid (HR.out.cut' hf hq hk1 hj)
          have Hb := Lib.hid hb
          have Ho := Lib.hid hown
          clear hj hb hown HR
          go_wp2_with fail
          go_quiet (first | (go_at_call 49; refine Calls.quiet_of_same (C.out _)))
          go_wp2_with (at_builtin; refine wpList_append_own _ rfl _ _ 29 rfl w.heap.size 9 i0 (.string ⟨#[]⟩) 1 16 Tryz.underlying29 hi hz0 hz1 hz2 rfl (by decide) _ _ _ rfl ((own_drewN Ho.out _).alloc _) ⟨wr.heap.size, 0, none⟩ 1 1 [.string (s.extract f q)] rfl rfl news1 news2 (by unfold maxLen; omega) (by omega) (by simp; omega) ?_)
          intro v' w1 hown' hgrow _
          have R := own_push (own_drewN Ho.out _) (below_drewN Hb.out _) hB hown' hgrow
          have R1 := Lib.hid R.1
          have R2 := Lib.hid R.2
          clear R hown' hgrow
          go_wp2_with fail
          go_roundw
          case rel => exact ⟨q, q, _, by omega, by omega, by simp; omega, by go_num, by go_num, R1.out, R2.out, HR2⟩
          case measure => simp [intOf]; omega
      · have e0 : ((q : Int) == (s.size : Int)) = true := by rw [beq_iff_eq]; omega
        have HR2 := Lib.hid (HR.out.last' hf hq (by omega))
        have Hb := Lib.hid hb
        have Ho := Lib.hid hown
        clear hb hown HR
        go_wp2_with fail
        go_quiet (fail)
        go_wp2_with (at_builtin; refine wpList_append_own _ rfl _ _ 29 rfl w.heap.size 9 i0 (.string ⟨#[]⟩) 1 16 Tryz.underlying29 hi hz0 hz1 hz2 rfl (by decide) _ _ _ rfl ((own_drewN Ho.out _).alloc _) ⟨wr.heap.size, 0, none⟩ 1 1 [.string (s.extract f q)] rfl rfl news1 news2 (by unfold maxLen; omega) (by omega) (by simp; omega) ?_)
        intro v' w1 hown' hgrow _
        have R := own_push (own_drewN Ho.out _) (below_drewN Hb.out _) hB hown' hgrow
        have R1 := Lib.hid R.1
        have R2 := Lib.hid R.2
        clear R hown' hgrow
        go_wp2_with fail
        go_roundw
        case rel => exact ⟨q, q, _, by omega, by omega, by simp; omega, by go_num, by go_num, R1.out, R2.out, HR2⟩
        case measure => simp [intOf]; omega
    · have HS := Lib.hid (HR.out.stop hlt)
      have Hb := Lib.hid hb
      have Ho := Lib.hid hown
      clear hb hown HR
      go_wp2_with fail
      go_ret
      rw [HS.out]
      exact ⟨_, rfl, Ho.out, Hb.out⟩
end Go.Proofs.YtldllbmbcnipoabGreatDoor.Tk

namespace Go.Proofs.YtldllbmbcnipoabGreatDoor.Tk
open Go.RowKit
set_option linter.unusedVariables false
end Go.Proofs.YtldllbmbcnipoabGreatDoor.Tk

namespace Go.Proofs.YtldllbmbcnipoabGreatDoor.Nm
open Go.RowKit
open Go.Proofs.YtldllbmbcnipoabGreatDoor.Tk (S S_of S_list S_size S_toList S_app Rd)
open Go.Proofs.YtldllbmbcnipoabGreatDoor.Cm (cell_at alloc_new Keep Keep.of_below)
open Go.Proofs.YtldllbmbcnipoabGreatDoor.Sp (Sp Tr totAll plAll)
open Go.Proofs.YtldllbmbcnipoabGreatDoor.Bt (TrB ttAll ttOne lnTot szAll szOne ttAll_mem)
open Go.Proofs.YtldllbmbcnipoabGreatDoor.Bk (Bk Tx)
open Go.Proofs.YtldllbmbcnipoabGreatDoor.Pa (OutG OutS encX encX_map)
set_option linter.unusedVariables false
def RdA (w : World) (l : List Tx) (e : Ending) (w' : World) : Prop := ∃ v, e = .returned v ∧ Rd w' v l ∧ Below w.heap.size w w'
theorem plAll_tot : ∀ l : List Sp, (plAll l).length ≤ totAll l := Sp.plAll_len
end Go.Proofs.YtldllbmbcnipoabGreatDoor.Nm
