/-
  CONTRACTS of Parse, Clean (spanin); all that is asked of spanin.
-/
import Derived.Test.YtjgmfgnfdaeelaaGreatDoorPkP
import Derived.Test.YtjgmfgnfdaeelaaGreatDoorSiAhead
import Derived.Test.YtjgmfgnfdaeelaaGreatDoorPkQ
import Derived.Test.YtjgmfgnfdaeelaaGreatDoorPkR
import Derived.Test.YtjgmfgnfdaeelaaGreatDoorSi8Told
namespace Go.Proofs.YtjgmfgnfdaeelaaGreatDoor.Sp
open Go.RowKit
open Go.Proofs.YtjgmfgnfdaeelaaGreatDoor.Tk (S S_of S_list S_size S_toList S_app ret_int)
open Go.Proofs.YtjgmfgnfdaeelaaGreatDoor.Cm (calls_at Rk Keep own_keep cell_at alloc_new alloc_at lt_of_at own_obj set_at set_other frozen_at flat_get)
set_option linter.unusedVariables false

/-- read, at a place in neither an emphasis nor a link: by the deeper places' contracts. -/
theorem readAll_any (r b cap : Nat) (ao : Option Addr) (A : List Pc) (hG : Good A) (hA : A.length ≤ 100000) (hraw : (raws A).length ≤ 100000) : RdC r b cap ao A false false := by
  have h11 : RdC r b cap ao A true true := readR_any r b cap ao A hG hA hraw true true (fun h => by cases h) (fun h => by cases h)
  have h10 : RdC r b cap ao A true false := readR_any r b cap ao A hG hA hraw true false (fun h => by cases h) (fun _ => h11)
  have h01 : RdC r b cap ao A false true := readR_any r b cap ao A hG hA hraw false true (fun _ => h11) (fun h => by cases h)
  exact readR_any r b cap ao A hG hA hraw false false (fun _ => h10) (fun _ => h01)

set_option maxHeartbeats 1600000 in
theorem parseP_any (s : ByteArray) (hs : s.size ≤ 100000) (w : World) :
    Calls Tryz.prog 15 #[.string s] w (TrAns w (parseB s)) := by
  have hc := cut_any lookAhead_any s.data.toList (by simpa using hs) w
  rw [S_of] at hc
  have HC := Lib.hid hc
  have HR := Lib.hid (fun (A : List Pc) (hG : CG s.data.toList A) (hA : A.length ≤ 100000) (r b cap : Nat) (ao : Option Addr) => readAll_any r b cap ao A hG.2.1 hA (by rw [hG.1]; simpa using hs))
  have HP : Hid (∀ A, CG s.data.toList A → (Rdr false false (raws (A.drop 0))).1 = parseB s) := Lib.hid (fun A hG => by rw [List.drop_zero, hG.1]; rfl)
  clear hc
  go_enter Tryz.func15, Tryz.ntmps15
  go_wp2_with fail
  refine HC.out.mono ?_
  rintro e w1 ⟨v, A, rfl, hG, hA, ⟨ao, cap, b, rfl, hb, hp⟩, b1⟩
  have hP := HP.out A hG
  have B1 := Lib.hid b1
  have hrd : RdW w1.heap.size (if A = [] then w1.heap.size else b) cap ao A 0 (w1.alloc (.cells #[.slice ao A.length cap, .int .i64 0] 41)) := by
    refine ⟨alloc_new w1 _, ?_, ?_⟩
    · rcases hb with hb | hb
      · exact Or.inl hb
      · by_cases hA0 : A = []
        · exact Or.inl hA0
        · rw [if_neg hA0]; exact Or.inr hb.1
    · rcases hp with hp | ⟨cur, hp, hc⟩
      · exact Or.inl hp
      · by_cases hA0 : A = []
        · exact Or.inl hA0
        · rw [if_neg hA0]; exact Or.inr ⟨cur, alloc_at hp _, hc⟩
  have HRd := Lib.hid (HR.out A hG hA w1.heap.size (if A = [] then w1.heap.size else b) cap ao 0 _ hrd (Nat.zero_le _))
  clear hrd HR HP HC hb hp b1 hG
  go_wp2_with fail
  refine HRd.out.mono ?_
  rintro e w2 ⟨v2, rfl, fr, rd, kp⟩
  have HT : Hid (Below w.heap.size w w2 ∧ Tr w2 v2 (parseB s)) := by
    rw [hP] at fr
    have hk : Below w1.heap.size (w1.alloc (.cells #[.slice ao A.length cap, .int .i64 0] 41)) w2 := kp.below (fun k hk => Nat.le_of_eq hk.symm) (by simp)
    exact Lib.hid ⟨B1.out.trans ((((Below.refl w1.heap.size w1).alloc (Nat.le_refl _) _).trans hk).mono B1.out.size), fr.tr⟩
  clear fr rd kp HRd B1
  go_wp2_with fail
  go_ret
  exact ⟨v2, rfl, HT.out.1, HT.out.2⟩

/-- A literal of one Text. -/
theorem tr_one1 (w : World) (q : Int) (s : List UInt8) (t : TypeId) :
    Tr (w.alloc (.cells #[.int .i64 q, .string (S s), .slice none 0 0] t)) (.slice (some ⟨w.heap.size, 0, none⟩) 1 1) [.mk q s []] := by
  refine ⟨_, 1, rfl, ⟨Nat.le_refl _, by omega⟩, Or.inr ⟨w.heap.size, 0, rfl, by simp, ?_⟩⟩
  unfold trAll
  refine ⟨trOne_of (ao := none) (cap := 0) ⟨?_, ?_, ?_, ⟨none, 0, rfl, ⟨Nat.le_refl _, by omega⟩, Or.inl rfl⟩⟩, by unfold trAll; trivial⟩
  · rw [World.cell?_alloc_new]; rfl
  · rw [World.cell?_alloc_new]; rfl
  · rw [World.cell?_alloc_new]; rfl

set_option maxHeartbeats 1600000 in
theorem cleanP_any (s : ByteArray) (hs : s.size ≤ 1000000) (w : World) :
    Calls Tryz.prog 17 #[.string s] w (OkAns w (clnB s)) := by
  have emS : (s.toList == ([] : List UInt8)) = decide (s.size = 0) := by
    rw [Lib.toList_data, Bool.eq_iff_iff, beq_iff_eq, decide_eq_true_iff, ← Tk.len_data]
    exact List.length_eq_zero_iff.symm
  by_cases h0 : s.size = 0
  · rw [decide_eq_true h0] at emS
    have hs0 : s = ⟨#[]⟩ := by
      rw [← S_of s, show s.data.toList = [] from List.eq_nil_of_length_eq_zero (by rw [Tk.len_data, h0])]
      rfl
    have HR : Hid (clnB s = true) := Lib.hid (by rw [hs0]; decide +kernel)
    rw [HR.out]
    clear hs0 h0
    go_enter Tryz.func17, Tryz.ntmps17
    go_wp2_with fail
    go_ret
    exact ⟨rfl, Below.refl _ _⟩
  · rw [decide_eq_false h0] at emS
    have hr := rightP_any [.mk 1 s.data.toList []] (.slice (some ⟨w.heap.size, 0, none⟩) 1 1) (w.alloc (.cells #[.int .i64 1, .string (S s.data.toList), .slice none 0 0] 31)) (tr_one1 w 1 s.data.toList _) (by
      refine fitAll_of (fun x hx => ?_)
      rw [List.mem_singleton.1 hx]
      unfold fitOne fitAll
      exact ⟨⟨by decide, by decide⟩, by rw [Tk.len_data]; omega, trivial⟩)
    rw [cln_right s h0, S_of] at hr
    have HR := Lib.hid hr
    have HB := Lib.hid ((Below.refl w.heap.size w).alloc (Nat.le_refl _) (.cells #[.int .i64 1, .string s, .slice none 0 0] 31))
    clear hr h0
    go_enter Tryz.func17, Tryz.ntmps17
    go_wp2_with fail
    refine HR.out.mono ?_
    rintro e w1 ⟨rfl, b1⟩
    have HB1 := Lib.hid (HB.out.trans (b1.mono HB.out.size))
    clear b1 HR HB
    go_wp2_with fail
    go_ret
    exact ⟨rfl, HB1.out⟩

theorem told8 : Told8 where
  parse := fun s w hs => parseP_any s (by omega) w
  clean := fun s w hs => cleanP_any s (by omega) w
  ticks := fun s at' w hs h0 h1 => (ticksP_any s at' (by omega) h0 h1 w).mono (fun e w' h => ⟨h.1, by rw [← h.2]; exact Below.refl _ _⟩)
  right := fun v l w ht hn hf => rightP_any l v w ht hf
end Go.Proofs.YtjgmfgnfdaeelaaGreatDoor.Sp
