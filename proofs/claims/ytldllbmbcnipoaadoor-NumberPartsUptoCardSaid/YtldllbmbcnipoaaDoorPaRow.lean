/-
  ROWS THAT A CALL GATHERS, of elements of k cells each, whatever they refer to: append of one. What is gathered abides whatever becomes of what lies below B, and of the row's own block.
-/
import Derived.Test.YtldllbmbcnipoaaDoorBtRow
import Derived.Test.YtldllbmbcnipoaaDoorPkNC
import Derived.Maps.AppendAt
namespace Go.Proofs.YtldllbmbcnipoaaDoor.Pa
open Go.RowKit
open Go.Proofs.YtldllbmbcnipoaaDoor.Tk (S S_of S_list S_size S_toList S_app ret_int Rd)
open Go.Proofs.YtldllbmbcnipoaaDoor.Cm (Rk Rk.of_own flat_get Keep own_keep cell_at alloc_new alloc_at lt_of_at own_obj newsK)
open Go.Proofs.YtldllbmbcnipoaaDoor.Sp (Sp Tr)
open Go.Proofs.YtldllbmbcnipoaaDoor.Bk (Bk Tx)
open Go.Proofs.YtldllbmbcnipoaaDoor.Bt (TrB KB encT encT_len flat_len encT_one infoBk)
set_option linter.unusedVariables false
variable {α : Type} {k : Nat} {e : TypeId} {enc : α → List Value} {R : World → α → Prop}

structure OutG (k : Nat) (e : TypeId) (enc : α → List Value) (R : World → α → Prop) (B : Nat) (w : World) (v : Value) (ps : List α) : Prop where
  size : B ≤ w.heap.size
  own : w.ownsRow B e k v ps.length (ps.flatMap enc)
  kid : ∀ p ∈ ps, ∀ w', Keep (fun j => j < B ∨ some j = v.ownBlock) w w' → R w' p
theorem OutG.nil {B : Nat} {w : World} (h : B ≤ w.heap.size) : OutG k e enc R B w (.slice none 0 0) [] := ⟨h, World.ownsRow_nil _ _ _ _, fun p h => by cases h⟩
theorem OutG.block {B : Nat} {w : World} {v : Value} {ps : List α} (h : OutG k e enc R B w v ps) : ∀ j, v.ownBlock = some j → B ≤ j ∧ j < w.heap.size := h.own.lt
theorem OutG.go {B : Nat} {w w' : World} {v : Value} {ps : List α} (h : OutG k e enc R B w v ps) (hk : Keep (fun j => j < B) w w') : OutG k e enc R B w' v ps :=
  ⟨Nat.le_trans h.size hk.size, own_keep h.own hk (fun g hg => by have := (h.block g hg).1; omega), fun p hp w'' k2 => h.kid p hp w'' ((hk.mono (fun j _ hj => Or.inl hj)).trans k2)⟩
theorem OutG.at {B : Nat} {w : World} {v : Value} {ps : List α} (h : OutG k e enc R B w v ps) : ∀ p ∈ ps, R w p := fun p hp => h.kid p hp w (Keep.refl _ _)
theorem OutG.rk {B : Nat} {w : World} {v : Value} {ps : List α} (h : OutG k e enc R B w v ps) (hk : ∀ x, (enc x).length = k) : Rk k enc w v ps := Rk.of_own hk h.own
/-- What a call tells for good: it abides whatever becomes of what lies below B. -/
def Fr {β : Type} (Q : World → Value → β → Prop) (B : Nat) (w : World) (v : Value) (x : β) : Prop := ∀ w', Keep (fun j => j < B) w w' → Q w' v x
theorem Fr.now {β : Type} {Q : World → Value → β → Prop} {B : Nat} {w : World} {v : Value} {x : β} (h : Fr Q B w v x) : Q w v x := h w (Keep.refl _ _)
theorem Fr.go {β : Type} {Q : World → Value → β → Prop} {B : Nat} {w w' : World} {v : Value} {x : β} (h : Fr Q B w v x) (hk : Keep (fun j => j < B) w w') : Fr Q B w' v x := fun w'' k2 => h w'' (hk.trans k2)
theorem Fr.mono {β : Type} {Q : World → Value → β → Prop} {B B' : Nat} {w : World} {v : Value} {x : β} (h : Fr Q B' w v x) (hB : B ≤ B') : Fr Q B w v x := fun w' k2 => h w' (k2.mono (fun j _ hj => Nat.lt_of_lt_of_le hj hB))
/-- .. made by a call that began at a world of B' blocks, whose row's block g lies there. -/
theorem Fr.kid {β : Type} {Q : World → Value → β → Prop} {B B' : Nat} {w : World} {v : Value} {x : β} {g : Option Nat} (h : Fr Q B' w v x) (hB : B ≤ B') (hg : ∀ j, g = some j → j < B') : ∀ w', Keep (fun j => j < B ∨ some j = g) w w' → Q w' v x :=
  fun w' k2 => h w' (k2.mono (fun j _ hj => hj.elim (fun h => Nat.lt_of_lt_of_le h hB) (fun h => hg j h.symm)))
theorem flat_len' (hk : ∀ x, (enc x).length = k) : ∀ ps : List α, (ps.flatMap enc).length = ps.length * k
  | [] => by simp
  | p :: r => by rw [List.flatMap_cons, List.length_append, flat_len' hk r, hk, List.length_cons, Nat.succ_mul]; omega
/-- append(v, x): its run, and what it makes. -/
theorem OutG.push {ts : TypeId} {zero : Value} {bytes : Nat} (hu : Tryd.prog.underlying ts = some (.slice e)) (hinfo : (Tryd.prog.info? e).map (fun i => (i.zero, i.size, i.bytes)) = some (some zero, k, bytes)) (hz : zero.cells.size = k) (hk0 : 0 < k) (hby : bytes ≤ 200)
    (hk : ∀ x, (enc x).length = k) {B : Nat} {w : World} {v : Value} {ps : List α} (h : OutG k e enc R B w v ps) {x : α} (hx : ∀ w', Keep (fun j => j < B ∨ some j = v.ownBlock) w w' → R w' x) (h1 : ∀ u ∈ enc x, u.oneCell' = true) (hl : ps.length + 1 ≤ 1000000) :
    ∃ v' w', (∀ ty, (Builtin.append_ #[ts, ts] ty #[v, .slice (some ⟨w.heap.size, 0, none⟩) 1 1]).run Tryd.prog (w.alloc (.cells (enc x).toArray e)) = .ok v' w') ∧ OutG k e enc R B w' v' (ps ++ [x]) ∧ Keep (fun j => some j = v.ownBlock) w w' := by
  obtain ⟨i0, hi, hz0, hz1, hz2⟩ := info_parts hinfo
  have hsz : (w.alloc (.cells (enc x).toArray e)).heap.size = w.heap.size + 1 := by simp
  have kAl : Keep (fun j => some j = v.ownBlock) w (w.alloc (.cells (enc x).toArray e)) := (Keep.refl _ _).alloc _
  have hown : (w.alloc (.cells (enc x).toArray e)).ownsRow B e k v ps.length (ps.flatMap enc) := own_keep h.own (S := fun j => j < B) ((Keep.refl _ _).alloc _) (fun g hg => by have := (h.block g hg).1; omega)
  have hcells : ∀ j u, (enc x)[j]? = some u → (w.alloc (.cells (enc x).toArray e)).cell? (Addr.add ⟨w.heap.size, 0, none⟩ j) = some u := newsK
  have hb2 : (ps.length + 1) * bytes ≤ 140737488355328 := by
    have : (ps.length + 1) * bytes ≤ 1000000 * 200 := Nat.mul_le_mul hl hby
    omega
  obtain ⟨v', w', g1, g2, g3, _, g5⟩ := run_append_own_at (P := Tryd.prog) (w := w.alloc (.cells (enc x).toArray e)) B ts 0 e i0 zero k bytes hu hi hz0 hz1 hz2 hz hk0 v ps.length (ps.flatMap enc) hown ⟨w.heap.size, 0, none⟩ 1 1 (enc x) (by rw [hk, Nat.one_mul]) hcells h1 (by unfold maxLen; omega) hb2 (by rw [hsz]; have := h.size; omega)
  have kG : Keep (fun j => some j = v.ownBlock) w w' := kAl.grown g3 (fun j hj => Or.inl hj.symm)
  have hkeep : ∀ p : α, (∀ w', Keep (fun j => j < B ∨ some j = v.ownBlock) w w' → R w' p) → ∀ w'', Keep (fun j => j < B ∨ some j = v'.ownBlock) w' w'' → R w'' p := fun p hp w'' k2 => by
    refine hp w'' ⟨k2.os.trans kG.os, k2.tape.trans kG.tape, k2.output.trans kG.output, Nat.le_trans kG.size k2.size, fun j hj hS => ?_⟩
    rw [← kG.block j hj (fun h' => hS (Or.inr h'))]
    refine k2.block j (Nat.lt_of_lt_of_le hj kG.size) (fun hS' => ?_)
    rcases hS' with h' | h'
    · exact hS (Or.inl h')
    · rcases g5 with hg | hg
      · exact hS (Or.inr (by rw [h', hg]))
      · rw [hg] at h'
        simp only [Option.some.injEq] at h'
        rw [hsz] at h'
        omega
  refine ⟨v', w', fun ty => g1, ⟨Nat.le_trans h.size kG.size, ?_, fun p hp => ?_⟩, kG⟩
  · rw [List.length_append, List.flatMap_append]
    have : [x].flatMap enc = enc x := by simp [List.flatMap_cons]
    rw [this]
    exact g2
  · rcases List.mem_append.1 hp with hp | hp
    · exact hkeep p (h.kid p hp)
    · rw [List.mem_singleton] at hp
      subst hp
      exact hkeep p hx
theorem OutG.below {B : Nat} {w w' : World} {v : Value} {ps : List α} (h : OutG k e enc R B w v ps) (hk : Keep (fun j => some j = v.ownBlock) w w') : Below B w w' :=
  hk.below (fun j hj => (h.block j hj.symm).1) h.size

/-! Blocks, strings, slices of strings. -/
def OutB (B : Nat) (w : World) (v : Value) (ps : List (Bk × Value × Value × Value)) : Prop := OutG 6 33 encT KB B w v ps
theorem OutB.tr {B : Nat} {w : World} {v : Value} {ps : List (Bk × Value × Value × Value)} (h : OutB B w v ps) : TrB w v (ps.map (·.1)) := TrB.of_own (OutG.own h) (OutG.at h)
theorem OutB.fresh {B : Nat} {w : World} {v : Value} {ps : List (Bk × Value × Value × Value)} (h : OutB B w v ps) : Fr TrB B w v (ps.map (·.1)) := fun w' k2 => OutB.tr (OutG.go h k2)
theorem OutB.push {B : Nat} {w : World} {v : Value} {ps : List (Bk × Value × Value × Value)} (h : OutB B w v ps) {x : Bk × Value × Value × Value} (hx : ∀ w', Keep (fun j => j < B ∨ some j = v.ownBlock) w w' → KB w' x) (hl : ps.length + 1 ≤ 1000000) :
    ∃ v' w', (∀ ty, (Builtin.append_ #[22, 22] ty #[v, .slice (some ⟨w.heap.size, 0, none⟩) 1 1]).run Tryd.prog (w.alloc (.cells #[.int .i64 x.1.kind, .int .i64 x.1.level, .string (S x.1.info), x.2.1, x.2.2.1, x.2.2.2] 33)) = .ok v' w') ∧ OutB B w' v' (ps ++ [x]) ∧ Keep (fun j => some j = v.ownBlock) w w' :=
  OutG.push (ts := 22) Tryd.underlying22 infoBk rfl (by decide) (by decide) encT_len h hx (by
    have h2 := encT_one (w := w) (ps := [x]) (fun p hp => by rw [List.mem_singleton] at hp; subst hp; exact hx w (Keep.refl _ _))
    have : [x].flatMap encT = encT x := by simp [List.flatMap_cons]
    rwa [this] at h2) hl
def encX (x : Tx) : List Value := [.string (S x)]
theorem encX_map : ∀ l : List Tx, l.flatMap encX = l.map encStr
  | [] => rfl
  | x :: r => by rw [List.flatMap_cons, encX_map r]; rfl
def OutS (B : Nat) (w : World) (v : Value) (l : List Tx) : Prop := OutG 1 9 encX (fun _ _ => True) B w v l
theorem OutS.rd {B : Nat} {w : World} {v : Value} {l : List Tx} (h : OutS B w v l) : Rd w v l := by
  have := OutG.own h
  rw [encX_map] at this
  exact Rd.of_own this
theorem OutS.fresh {B : Nat} {w : World} {v : Value} {l : List Tx} (h : OutS B w v l) : Fr Rd B w v l := fun w' k2 => OutS.rd (OutG.go h k2)
theorem infoX : (Tryd.prog.info? 9).map (fun i => (i.zero, i.size, i.bytes)) = some (some (.string ⟨#[]⟩), 1, 16) := by kernel_rfl
theorem OutS.push {B : Nat} {w : World} {v : Value} {l : List Tx} (h : OutS B w v l) (x : Tx) (hl : l.length + 1 ≤ 1000000) :
    ∃ v' w', (∀ ty, (Builtin.append_ #[30, 30] ty #[v, .slice (some ⟨w.heap.size, 0, none⟩) 1 1]).run Tryd.prog (w.alloc (.cells #[.string (S x)] 9)) = .ok v' w') ∧ OutS B w' v' (l ++ [x]) ∧ Keep (fun j => some j = v.ownBlock) w w' :=
  OutG.push (ts := 30) Tryd.underlying30 infoX rfl (by decide) (by decide) (fun _ => rfl) h (fun _ _ => trivial) (fun u hu => by rw [encX, List.mem_singleton] at hu; subst hu; rfl) hl
/-- A text's list and the value that reads as it. -/
def encL (p : List Tx × Value) : List Value := [p.2]
def RL (w : World) (p : List Tx × Value) : Prop := Rd w p.2 p.1
def OutL (B : Nat) (w : World) (v : Value) (l : List (List Tx × Value)) : Prop := OutG 1 30 encL RL B w v l
theorem infoL : (Tryd.prog.info? 30).map (fun i => (i.zero, i.size, i.bytes)) = some (some (.slice none 0 0), 1, 24) := by kernel_rfl
theorem OutL.push {B : Nat} {w : World} {v : Value} {l : List (List Tx × Value)} (h : OutL B w v l) {x : List Tx × Value} (hx : ∀ w', Keep (fun j => j < B ∨ some j = v.ownBlock) w w' → RL w' x) (hl : l.length + 1 ≤ 1000000) :
    ∃ v' w', (∀ ty, (Builtin.append_ #[40, 40] ty #[v, .slice (some ⟨w.heap.size, 0, none⟩) 1 1]).run Tryd.prog (w.alloc (.cells #[x.2] 30)) = .ok v' w') ∧ OutL B w' v' (l ++ [x]) ∧ Keep (fun j => some j = v.ownBlock) w w' :=
  OutG.push (ts := 40) Tryd.underlying40 infoL rfl (by decide) (by decide) (fun _ => rfl) h hx (fun u hu => by
    rw [encL, List.mem_singleton] at hu
    subst hu
    obtain ⟨a, c, hv⟩ := (hx w (Keep.refl _ _)).len
    rw [hv]
    rfl) hl

end Go.Proofs.YtldllbmbcnipoaaDoor.Pa
