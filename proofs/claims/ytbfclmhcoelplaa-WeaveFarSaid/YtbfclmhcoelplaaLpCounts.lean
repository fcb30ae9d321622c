/-
  CONTRACT of counts (package lcs).
-/
import Derived.Test.YtbfclmhcoelplaaLpOn
namespace Go.Proofs.Ytbfclmhcoelplaa.Lp
open Go.RowKit Go.Proofs.Ytbfclmhcoelplaa.Cm Go.Proofs.Ytbfclmhcoelplaa.Lc Go.Proofs.Ytbfclmhcoelplaa.Lcx
set_option linter.unusedVariables false

theorem WkAt.keepF {w w' : World} {Wb : Nat} {vb : Value} {n Mb wd Kt Tt : Nat} {pn : Value} {at_ : Nat} (h : WkAt w Wb vb n Mb wd Kt Tt pn at_) (k : Keep (fun _ => False) w w') : WkAt w' Wb vb n Mb wd Kt Tt pn at_ := k.at h (fun h => h)
def Dt (a b : List Int) (i j : Nat) : Bool := decide (tb a b i j = tb a b (i + 1) j + 1)
set_option maxHeartbeats 6400000 in
set_option maxRecDepth 100000 in
theorem counts_any (w0 : World) (a b : List Int) (Wb Mb wd Kt Tt C B j q t cb i : Nat) (aob : Option Addr) (vc vct vft : Value) (w : World) (h : Ws w0 a b Wb (.slice aob b.length cb) Mb wd Kt Tt C B vc q vct vft t w) (hqj : q ≤ j) (hj : j < b.length) (hi : i < a.length) (hwd : b.length ≤ wd) (hwd2 : wd ≤ 8589934592) (hla : a.length ≤ 100000) (hlb : b.length ≤ 100000) :
    Calls Try.prog 45 #[.pointer (some ⟨Wb, 0, none⟩), .int .i64 i, .int .i64 j] w fun e w' => e = .returned (.bool (Dt a b i j)) ∧ (∃ vct' vft' t', Ws w0 a b Wb (.slice aob b.length cb) Mb wd Kt Tt C B vc j vct' vft' t' w') ∧ Keep (Son Wb Tt C B ((a.length + 63) / 64)) w w' := by
  have HS := Lib.hid h
  clear h
  go_enter Try.func45, Try.ntmps45
  go_wp2_with fail
  go_loopw [] (fun wr => ∃ (q : Nat) (vct vft : Value) (t : Nat), q ≤ j ∧ Hid (Ws w0 a b Wb (.slice aob b.length cb) Mb wd Kt Tt C B vc q vct vft t wr) ∧ Hid (Keep (Son Wb Tt C B ((a.length + 63) / 64)) w wr)) (fun wr => j - (intOf ((wr.cell? ⟨Wb, 7, none⟩).getD undef)).toNat)
  case atStart => exact ⟨q, vct, vft, t, hqj, HS, Lib.hid (Keep.refl _ w)⟩
  case round =>
    clear HS
    obtain ⟨q, vct, vft, t, hq, HS, HK⟩ := hrel
    have c7 : wr.cell? ⟨Wb, 7, none⟩ = some (.int .i64 q) := cell_at HS.out.wk 7
    have HM : Hid ((intOf ((wr.cell? ⟨Wb, 7, none⟩).getD undef)).toNat = q) := Lib.hid (by rw [c7]; simp [intOf])
    have hlw := lt_of_at HS.out.wk
    by_cases hqj2 : q < j
    · have HON := Lib.hid (on_any w0 a b Wb Mb wd Kt Tt C B q t cb aob vc vct vft wr HS.out (by omega) hwd hwd2 hla hlb)
      have tq : (q : Int) < (j : Int) := by omega
      go_wp2_with fail
      refine HON.out.mono ?_
      rintro e w5 ⟨⟨x5, rfl⟩, ⟨vct', vft', t', hws⟩, hk5⟩
      have H5 := Lib.hid hws
      have K5 := Lib.hid (HK.out.trans hk5)
      have M5 : Hid ((intOf ((w5.cell? ⟨Wb, 7, none⟩).getD undef)).toNat = q + 1) := Lib.hid (by
        have : w5.cell? ⟨Wb, 7, none⟩ = some (.int .i64 ((q + 1 : Nat) : Int)) := cell_at hws.wk 7
        rw [this]; simp [intOf])
      clear hws hk5 HON c7
      go_wp2_with fail
      go_roundw
      case rel => exact ⟨q + 1, vct', vft', t', by omega, H5, K5⟩
      case measure => rw [M5.out, HM.out]; omega
    · obtain rfl : q = j := by omega
      have k6 : wr.cell? ⟨Wb, 6, none⟩ = some (.pointer (some ⟨C, 0, none⟩)) := cell_at HS.out.wk 6
      have k1 : wr.cell? ⟨Wb, 1, none⟩ = some (.int .i64 a.length) := cell_at HS.out.wk 1
      have his := isCol_all (a := a) (B := b) (j := q) (by omega)
      have hbit : (Xc a (b.drop q) ((a.length - 1 - i) / 64)).testBit ((a.length - 1 - i) % 64) = Dt a b i q := his.has hi
      have HX := Lib.hid his.lt
      obtain ⟨q0, hq0⟩ : ∃ q0, (a.length - 1 - i) / 64 = q0 := ⟨_, rfl⟩
      obtain ⟨k0, hk0⟩ : ∃ k0, (a.length - 1 - i) % 64 = k0 := ⟨_, rfl⟩
      have hq0W : q0 < (a.length + 63) / 64 := by omega
      have hk064 : k0 < 64 := by omega
      have HWO := Lib.hid (fun w' => wordOf_any i a.length w' hi (by omega))
      rw [hq0, hk0] at hbit HWO
      have HBIT := Lib.hid hbit
      have HHAS := Lib.hid (fun w' (hc : Col w' C vc ((a.length + 63) / 64) B (Xc a (b.drop q)) t) => has_any C B ((a.length + 63) / 64) t q0 k0 vc (Xc a (b.drop q)) w' hc HX.out (by omega) hq0W hk064)
      obtain ⟨p0, hp0⟩ : ∃ p0, 2 ^ k0 = p0 := ⟨_, rfl⟩
      rw [hp0] at HWO HHAS
      clear his hbit hq0 hk0 hp0
      go_wp2_with fail
      go_region_held3 (fun w' => w'.cell? ⟨Wb, 6, none⟩ = some (.pointer (some ⟨C, 0, none⟩)) ∧ w'.cell? ⟨Wb, 1, none⟩ = some (.int .i64 a.length))
        (first | exact ⟨k6, k1⟩ | exact ⟨k65, k15⟩ | exact ⟨k66, k16⟩)
        (first
          | (go_at_call 56
             refine calls_at (args := #[.int .i64 i, .int .i64 a.length]) rfl (HWO.out _) ?_
             rintro e w5 ⟨rfl, hb5q⟩
             have hb5 := of_drew hb5q
             have k65 := (hb5.cell (by exact hlw)).trans k6
             have k15 := (hb5.cell (by exact hlw)).trans k1
             have K5 := Lib.hid (Keep.of_below (S := fun _ => False) hb5)
             have hlw5 : Wb < w5.heap.size := Nat.lt_of_lt_of_le hlw hb5.size
             clear hb5 hb5q)
          | (go_at_call 55
             refine calls_at (args := #[.pointer (some ⟨C, 0, none⟩), .agg #[.int .i64 q0, .int .u64 p0]]) rfl (HHAS.out _ (HS.out.col.keep K5.out (fun h => h) (fun h => h))) ?_
             rintro e w6 ⟨rfl, hk6⟩
             have K6 := Lib.hid (K5.out.trans hk6)
             have k66 := (World.cell?_of_block (hk6.block Wb hlw5 (fun h => h))).trans k65
             have k16 := (World.cell?_of_block (hk6.block Wb hlw5 (fun h => h))).trans k15
             clear hk6))
      rw [HBIT.out]
      go_wp2_with fail
      go_ret
      exact ⟨rfl, ⟨_, _, _, HS.out.wk.keepF K6.out, HS.out.col.keep K6.out (fun h => h) (fun h => h), HS.out.tab.keep K6.out (fun _ _ h => h), HS.out.bel.trans (K6.out.below (fun _ h => h.elim) HS.out.bel.size), HS.out.ord, HS.out.vcB, HS.out.vfB⟩, HK.out.trans (K6.out.mono (fun _ _ h => h.elim))⟩
end Go.Proofs.Ytbfclmhcoelplaa.Lp
