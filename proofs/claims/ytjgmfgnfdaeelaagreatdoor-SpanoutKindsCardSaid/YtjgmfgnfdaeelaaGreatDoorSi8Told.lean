/-
  WHAT IS ASKED OF THE PROGRAM (spanin), over any world; the statements' own awake.
-/
import Derived.Test.YtjgmfgnfdaeelaaGreatDoorSiRead
import Derived.Test.YtjgmfgnfdaeelaaGreatDoorPkG
import Derived.Test.YtjgmfgnfdaeelaaGreatDoorPkE
namespace Go.Proofs.YtjgmfgnfdaeelaaGreatDoor.Sp
open Go.RowKit
open Go.Proofs.YtjgmfgnfdaeelaaGreatDoor.Tk (S S_of S_list S_size S_toList S_app ret_int eq8 ne8 at_data len_data)
open Go.Proofs.YtjgmfgnfdaeelaaGreatDoor.Cm (calls_at)
set_option linter.unusedVariables false

def TrAns (w : World) (L : List Sp) (e : Ending) (w' : World) : Prop := ∃ v, e = .returned v ∧ Below w.heap.size w w' ∧ Tr w' v L
theorem rparse_tr (s : ByteArray) (hs : s.size ≤ 100000) (w : World) : Calls Tryz.prog 16 #[.string s] w (TrAns w (parseB s)) :=
  (rparse_any s hs w).mono (fun e w' h => by
    obtain ⟨v, h1, h2⟩ := h
    exact ⟨v, h1, h2.bel, h2.tr⟩)
structure Told8 : Prop where
  parse : ∀ (s : ByteArray) (w : World), s.size ≤ 20000 → Calls Tryz.prog 15 #[.string s] w (TrAns w (parseB s))
  clean : ∀ (s : ByteArray) (w : World), s.size ≤ 20000 → Calls Tryz.prog 17 #[.string s] w (OkAns w (clnB s))
  ticks : ∀ (s : ByteArray) (at' : Int) (w : World), s.size ≤ 20000 → -9223372036854775808 ≤ at' → at' ≤ 9223372036854775807 → Calls Tryz.prog 19 #[.string s, .int .i64 at'] w (fun e w' => e = .returned (.int .i64 (ticksAt s.data.toList at' : Nat)) ∧ Below w.heap.size w w')
  right : ∀ (v : Value) (l : List Sp) (w : World), Tr w v l → totAll l ≤ 20000 → fitAll 140737488355328 l → Calls Tryz.prog 21 #[v] w (OkAns w (rtB l))

theorem parse_ab : parseB ⟨#[97, 32, 42, 98, 42]⟩ = [.mk 1 [97, 32] [], .mk 3 [] [.mk 1 [98] []]] := by
  rw [← smAll_iff]
  decide +kernel
theorem clean_a : clnB ⟨#[97]⟩ = true := by decide +kernel
theorem ticks_a : ticksAt (⟨#[97, 96, 96]⟩ : ByteArray).data.toList 1 = 2 := by decide +kernel

set_option maxHeartbeats 1600000 in
theorem awake8_any (K : Told8) (w : World) : Calls Tryz.prog 13 #[] w (OkAns w true) := by
  have HP := Lib.hid (K.parse ⟨#[97, 32, 42, 98, 42]⟩ w (by decide))
  have HC := Lib.hid (fun w => K.clean ⟨#[97]⟩ w (by decide))
  have HT := Lib.hid (fun w => K.ticks ⟨#[97, 96, 96]⟩ 1 w (by decide) (by decide) (by decide))
  rw [parse_ab] at HP
  rw [clean_a] at HC
  rw [ticks_a] at HT
  go_enter Tryz.func13, Tryz.ntmps13
  go_wp2_with fail
  refine HP.out.mono ?_
  rintro e w1 ⟨v, rfl, b1, t1⟩
  obtain ⟨b, o, ak, ck, hao, hb, hC0⟩ : ∃ b o ak ck, ∃ (_ : ∃ ca, v = .slice (some ⟨b, o, none⟩) 2 ca), b < w1.heap.size ∧ Cells w1 b o (.mk 1 [97, 32] []) ak ck := by
    obtain ⟨ao, ca, hv⟩ := t1.len
    subst hv
    obtain ⟨b, o, ak, ck, rfl, hb, h⟩ := t1.at 0 (by decide)
    exact ⟨b, o, ak, ck, ⟨ca, rfl⟩, hb, by simpa using h⟩
  obtain ⟨ca, rfl⟩ := hao
  obtain ⟨b', o', ak', ck', hao', _, hC1⟩ := t1.at 1 (by decide)
  simp only [Option.some.injEq, Addr.mk.injEq, and_true] at hao'
  obtain ⟨rfl, rfl⟩ := hao'
  have c1 : w1.cell? ⟨b, o + 1, none⟩ = some (.string ⟨#[97, 32]⟩) := hC0.s
  have d0 : w1.cell? ⟨b, o + 3, none⟩ = some (.int .i64 3) := by have := hC1.kind; simpa [Sp.kind] using this
  have H1 := Lib.hid b1
  clear b1 t1 hC0 hC1 HP
  go_wp2_with fail
  refine (HC.out _).mono ?_
  rintro e w2 ⟨rfl, b2⟩
  have H2 := Lib.hid (H1.out.trans (b2.mono H1.out.size))
  clear b2 HC
  go_wp2_with fail
  refine (HT.out _).mono ?_
  rintro e w3 ⟨rfl, b3⟩
  have H3 := Lib.hid (H2.out.trans (b3.mono H2.out.size))
  clear b3 HT
  go_wp2_with fail
  go_ret
  exact ⟨rfl, H3.out⟩

end Go.Proofs.YtjgmfgnfdaeelaaGreatDoor.Sp
