/-
  append(append([]Block{}, x...), y...): the two runs, and how it reads.
-/
import Derived.Test.YtpakjdgddomdjaaDoorBtRow
namespace Go.Proofs.YtpakjdgddomdjaaDoor.Ht
open Go.RowKit
open Go.Proofs.YtpakjdgddomdjaaDoor.Bk (Bk)
set_option linter.unusedVariables false

theorem two_bk {wr : World} {va vb : Value} {a b : List Bk} (ha : Bt.TrB wr va a) (hb : Bt.TrB wr vb b) (la : a.length ≤ 2000000) (lb : b.length ≤ 2000000) :
    ∃ ao1 n1 c1 w1 ao2 n2 c2 w2, (∀ ty, (Builtin.append_ #[22, 22] ty #[.slice (some ⟨wr.heap.size, 0, none⟩) 0 0, va]).run Tryd.prog (wr.alloc (.cells #[] 35)) = .ok (.slice ao1 n1 c1) w1) ∧
      (∀ ty, (Builtin.append_ #[22, 22] ty #[.slice ao1 n1 c1, vb]).run Tryd.prog w1 = .ok (.slice ao2 n2 c2) w2) ∧
      Bt.TrB w2 (.slice ao2 n2 c2) (a ++ b) ∧ Below wr.heap.size wr w2 := by
  obtain ⟨pa, hpa, rka, kka⟩ := ha.pairs
  obtain ⟨pb, hpb, rkb, kkb⟩ := hb.pairs
  have lpa : pa.length = a.length := by rw [← hpa, List.length_map]
  have lpb : pb.length = b.length := by rw [← hpb, List.length_map]
  have hba : Below wr.heap.size wr (wr.alloc (.cells #[] 35)) := (Below.refl _ _).alloc (Nat.le_refl _) _
  have oA : (wr.alloc (.cells #[] 35)).ownsRow wr.heap.size 35 6 (.slice (some ⟨wr.heap.size, 0, none⟩) 0 0) ([] : List (Bk × Value × Value × Value)).length (([] : List (Bk × Value × Value × Value)).flatMap Bt.encT) := World.ownsRow_lit wr #[] 0 (Nat.le_refl _) (Nat.zero_le _) rfl
  obtain ⟨v5, w5, q5, o5, g5⟩ := Bt.run_append_bk oA (rka.below hba) (fun p hp => (kka p hp).below hba) (by simp) (by simp; omega)
  have hb5 := hba.grown g5 (by simp) (fun k hk => (oA.lt k hk).1)
  obtain ⟨v7, w7, q7, o7, g7⟩ := Bt.run_append_bk o5 (rkb.below hb5) (fun p hp => (kkb p hp).below hb5) hb5.size (by simp; omega)
  have hb7 := hb5.grown g7 hb5.size (fun k hk => (o5.lt k hk).1)
  have hT := Bt.TrB.of_own o7 (fun p hp => by
    rw [List.nil_append, List.mem_append] at hp
    rcases hp with hp | hp
    · exact (kka p hp).below hb7
    · exact (kkb p hp).below hb7)
  rw [List.nil_append, List.map_append, hpa, hpb] at hT
  obtain ⟨ao2, c2, rfl⟩ := hT.len
  obtain ⟨ao1, n1, c1, rfl⟩ : ∃ ao n c, v5 = .slice ao n c := by
    rcases o5.2 with ⟨hv, _⟩ | ⟨g, cap, cur, hv, _⟩
    · exact ⟨_, _, _, hv⟩
    · exact ⟨_, _, _, hv⟩
  exact ⟨ao1, n1, c1, w5, ao2, _, c2, w7, q5, q7, hT, hb7⟩
end Go.Proofs.YtpakjdgddomdjaaDoor.Ht
