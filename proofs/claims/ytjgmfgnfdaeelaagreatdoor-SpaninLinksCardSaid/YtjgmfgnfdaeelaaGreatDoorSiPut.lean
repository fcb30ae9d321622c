/-
  READING SPANS, in plain words: a word in brackets with a place behind it; a word in stars. No program.
-/
import Derived.Test.YtjgmfgnfdaeelaaGreatDoorPkG
import Derived.Test.YtjgmfgnfdaeelaaGreatDoorPkD
namespace Go.Proofs.YtjgmfgnfdaeelaaGreatDoor.Sp
open Go.Proofs.YtjgmfgnfdaeelaaGreatDoor.Tk (cls at_data len_data)
set_option linter.unusedVariables false

theorem destOn_put : ∀ (T tw : List UInt8), (41 : UInt8) ∉ T → destOn tw (T ++ [41]) = if T.all dcB = true ∧ tw ++ T ≠ [] then some (tw ++ T, []) else none
  | [], tw, _ => by
    rw [List.nil_append, destOn_no tw 41 [] (by decide), if_pos rfl, List.append_nil]
    by_cases h : tw = []
    · rw [if_pos h, if_neg (fun x => x.2 h)]
    · rw [if_neg h, if_pos ⟨rfl, h⟩]
  | c :: T, tw, h => by
    rw [List.cons_append]
    cases hc : dcB c with
    | true =>
      rw [destOn_yes _ _ _ hc, destOn_put T (tw ++ [c]) (fun x => h (List.mem_cons_of_mem _ x)), List.append_assoc, List.all_cons, hc, Bool.true_and]
      rfl
    | false =>
      rw [destOn_no _ _ _ hc, if_neg (fun x => h (by rw [x]; exact List.mem_cons_self ..)), if_neg (by rw [List.all_cons, hc]; simp)]
theorem dest_put (T : List UInt8) (h : (41 : UInt8) ∉ T) : dest (40 :: (T ++ [41])) = if dsB T = true then some (T, []) else none := by
  rw [dest_on, destOn_put T [] h, List.nil_append]
  have e : (T.all dcB = true ∧ T ≠ []) ↔ dsB T = true := by
    unfold dsB
    rw [Bool.and_eq_true]
    constructor
    · rintro ⟨h1, h2⟩; exact ⟨h1, by cases T with | nil => exact absurd rfl h2 | cons a b => rfl⟩
    · rintro ⟨h1, h2⟩; exact ⟨h1, by rintro rfl; exact absurd h2 (by decide)⟩
  by_cases hd : dsB T = true
  · rw [if_pos hd, if_pos (e.2 hd)]
  · rw [if_neg hd, if_neg (fun x => hd (e.1 x))]

theorem Rdr_until (e l : Bool) (r : List UInt8) (hr : Rdr e l r = ([], r)) : ∀ t : List UInt8, (∀ c ∈ t, spcB c = false) → Rdr e l (t ++ r) = (oneT t, r)
  | [], _ => hr
  | c :: t, h => by
    rw [List.cons_append, Rdr_cons, stp_plain (h c (List.mem_cons_self ..))]
    show (consT [c] (Rdr e l (t ++ r)).1, (Rdr e l (t ++ r)).2) = _
    rw [Rdr_until e l r hr t (fun x hx => h x (List.mem_cons_of_mem _ hx)), oneT_cons]
theorem Rdr_thru (e l : Bool) : ∀ t : List UInt8, (∀ c ∈ t, ∀ r, stp e l c r = .text [c] r) → (Rdr e l t).1 = oneT t
  | [], _ => rfl
  | c :: r, h => by
    rw [Rdr_cons, h c (List.mem_cons_self ..)]
    show consT [c] (Rdr e l r).1 = _
    rw [Rdr_thru e l r (fun x hx => h x (List.mem_cons_of_mem _ hx)), oneT_cons]
theorem stp_93 (r : List UInt8) : stp false false 93 r = .text [93] r := by
  unfold stp stepOf
  rw [if_neg (by simp), if_neg (by simp), if_neg (by decide), if_neg (by decide), if_neg (by simp)]
theorem Rdr_close (e : Bool) (r : List UInt8) : Rdr e true (93 :: r) = ([], 93 :: r) := by
  rw [Rdr_cons]
  have : stp e true 93 r = .stop := by unfold stp stepOf; rw [if_pos (Or.inr ⟨rfl, rfl⟩)]
  rw [this]; rfl
theorem Rdr_star (l : Bool) (r : List UInt8) : Rdr true l (42 :: r) = ([], 42 :: r) := by
  rw [Rdr_cons]
  have : stp true l 42 r = .stop := by unfold stp stepOf; rw [if_pos (Or.inl ⟨rfl, rfl⟩)]
  rw [this]; rfl

def brk (W T : List UInt8) : List UInt8 := 91 :: (W ++ (93 :: 40 :: (T ++ [41])))
theorem Rdr_link (W T : List UInt8) (hW : ∀ c ∈ W, spcB c = false) (hT : ∀ c ∈ T, spcB c = false) (h41 : (41 : UInt8) ∉ T) :
    (Rdr false false (brk W T)).1 = if W ≠ [] ∧ dsB T = true then [.mk 4 T [.mk 1 W []]] else [.mk 1 (brk W T) []] := by
  have hr := Rdr_until false true (93 :: 40 :: (T ++ [41])) (Rdr_close false _) W hW
  have hd := dest_put T h41
  have hno : stp false false 91 (W ++ (93 :: 40 :: (T ++ [41]))) = .text [91] (W ++ (93 :: 40 :: (T ++ [41]))) →
      (Rdr false false (brk W T)).1 = [.mk 1 (brk W T) []] := by
    intro hs
    unfold brk
    rw [Rdr_cons, hs]
    show consT [91] (Rdr false false (W ++ (93 :: 40 :: (T ++ [41])))).1 = _
    rw [Rdr_thru false false _ (fun c hc r => by
      rcases List.mem_append.1 hc with hc | hc
      · exact stp_plain (hW c hc) r
      · rcases List.mem_cons.1 hc with rfl | hc
        · exact stp_93 r
        · rcases List.mem_cons.1 hc with rfl | hc
          · exact stp_plain (by decide) r
          · rcases List.mem_append.1 hc with hc | hc
            · exact stp_plain (hT c hc) r
            · rw [List.mem_singleton] at hc; subst hc; exact stp_plain (by decide) r), oneT_cons]
    rfl
  by_cases hw : W = []
  · rw [if_neg (fun h => h.1 hw)]
    apply hno
    subst hw
    unfold stp stepOf
    rw [if_neg (by simp), if_neg (by simp), if_neg (by decide), if_neg (by decide), if_pos ⟨rfl, rfl⟩, hr]
    rfl
  · have ho : oneT W = [.mk 1 W []] := if_neg hw
    by_cases hk : dsB T = true
    · rw [if_pos ⟨hw, hk⟩]
      rw [if_pos hk] at hd
      have hs : stp false false 91 (W ++ (93 :: 40 :: (T ++ [41]))) = .span (.mk 4 T [.mk 1 W []]) [] := by
        unfold stp stepOf
        rw [if_neg (by simp), if_neg (by simp), if_neg (by decide), if_neg (by decide), if_pos ⟨rfl, rfl⟩, hr, ho]
        show (match dest (40 :: (T ++ [41])) with | some (s, t'') => Stp.span (.mk 4 s [.mk 1 W []]) t'' | none => _) = _
        rw [hd]
      unfold brk
      rw [Rdr_cons, hs]
      rfl
    · rw [if_neg (fun h => hk h.2)]
      rw [if_neg hk] at hd
      apply hno
      unfold stp stepOf
      rw [if_neg (by simp), if_neg (by simp), if_neg (by decide), if_neg (by decide), if_pos ⟨rfl, rfl⟩, hr, ho]
      show (match dest (40 :: (T ++ [41])) with | some (s, t'') => Stp.span (.mk 4 s [.mk 1 W []]) t'' | none => _) = _
      rw [hd]
theorem Rdr_stars (W : List UInt8) (hW : ∀ c ∈ W, spcB c = false) :
    (Rdr false false (42 :: (W ++ [42]))).1 = if W ≠ [] then [.mk 3 [] [.mk 1 W []]] else [.mk 1 [42, 42] []] := by
  have hr := Rdr_until true false [42] (Rdr_star false _) W hW
  by_cases hw : W = []
  · rw [if_neg (fun h => h hw)]
    subst hw
    rfl
  · have ho : oneT W = [.mk 1 W []] := if_neg hw
    rw [if_pos hw, Rdr_cons]
    have hs : stp false false 42 (W ++ [42]) = .span (.mk 3 [] [.mk 1 W []]) [] := by
      unfold stp stepOf
      rw [if_neg (by simp), if_neg (by simp), if_neg (by decide), if_pos rfl, hr, ho]
      rfl
    rw [hs]
    rfl

end Go.Proofs.YtjgmfgnfdaeelaaGreatDoor.Sp
