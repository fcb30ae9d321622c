/-
  The statement about UtfLong: for every input the law returns true, and each argument reads afterwards as it read before. No condition.
-/
import Derived.Test.YtlnagfpkhojcmaaRows
import Derived.Test.YtlnagfpkhojcmaaUtfCheck
import Derived.Test.YtlnagfpkhojcmaaUtfEnc
import Derived.WalkKit
import Derived.ProofKit
import Derived.OpenShut
import Derived.ShutString
import Derived.SizedLaws
namespace Go.Proofs.Ytlnagfpkhojcmaa.utfLong
open Go.ChangeShapes Go.WideShapes Go.ChangeAt Go.RowKit
open Go.ChangeMaps (open_string shut_string)
open Go.Proofs.Ytlnagfpkhojcmaa.Utf
set_option linter.unusedVariables false

theorem own : ownKnob Try.prog.godebug = none := by kernel_rfl

def rep (L : Nat) (c : UInt8) : ByteArray := ⟨Array.replicate L c⟩
theorem rep_size (L : Nat) (c : UInt8) : (rep L c).size = L := by simp [rep, ByteArray.size]
theorem rep_at (L : Nat) (c : UInt8) (k : Nat) (h : k < (rep L c).size) : (rep L c)[k] = c := by
  exact Array.getElem_replicate (by simpa [rep, ByteArray.size] using h)
theorem rep_bt (L : Nat) (c : UInt8) (k : Nat) (h : k < L) : bt (rep L c) k = c.toNat := by
  rw [bt_eq _ k (by rw [rep_size]; exact h), rep_at]
theorem rep_zero (L : Nat) (c : UInt8) (h : 0 < L) (hc : c.toNat = 0) : zeroB (rep L c) = true := by
  unfold zeroB
  apply decide_eq_true
  have : c = 0 := UInt8.toNat_inj.1 hc
  subst this
  simp [rep]; omega
theorem rep_nonzero (L : Nat) (c : UInt8) (hc : c.toNat ≠ 0) : zeroB (rep L c) = false := by
  unfold zeroB
  apply decide_eq_false
  intro h
  have h2 : c = 0 := by simp [rep] at h; exact h.2.symm
  subst h2
  exact hc rfl
theorem rep_nxt (L : Nat) (c : UInt8) (k : Nat) (h : k < L) (hc : c.toNat ≤ 127) : (nxt (rep L c) k).2 = 1 := by
  have e0 : bt (rep L c) (k + 0) = c.toNat := rep_bt L c k h
  have e1 : ln (bt (rep L c) (k + 0)) = 1 := by rw [e0]; unfold ln; rw [if_pos hc]
  have hy := nx_yes (fun i => bt (rep L c) (k + i)) ((rep L c).size - k) (by show 0 < ln (bt (rep L c) (k + 0)); omega) (by show ln (bt (rep L c) (k + 0)) ≤ _; rw [rep_size]; omega) (by show conts _ (ln (bt (rep L c) (k + 0)) - 1) = true; rw [e1]; rfl) (by show fitsI _ (ln (bt (rep L c) (k + 0)) : Nat) = true; rw [e1]; unfold fitsI; rw [if_neg (by decide), if_neg (by decide)])
  have : nxt (rep L c) k = (acc (fun i => bt (rep L c) (k + i)) (ln (bt (rep L c) (k + 0)) - 1), ln (bt (rep L c) (k + 0))) := hy
  rw [this, e1]
theorem rep_goes (L : Nat) (c : UInt8) (hc : c.toNat ≤ 127) (m k : Nat) (h : L - k = m) : goesAt (rep L c) k = true := by
  induction m generalizing k with
  | zero => exact goesAt_end _ _ (by rw [rep_size]; omega)
  | succ m ih =>
    have hk : k < L := by omega
    have e := rep_nxt L c k hk hc
    have h2 := goesAt_step (rep L c) k (by rw [rep_size]; exact hk) (by rw [e]; decide)
    rw [e] at h2
    rw [← h2]
    exact ih (k + 1) (by omega)
theorem rep_bad (L : Nat) (c : UInt8) (hL : 4 < L) (hc : 128 ≤ c.toNat) : goesAt (rep L c) 0 = false := by
  apply goesAt_bad _ _ (by rw [rep_size]; omega)
  have e0 : bt (rep L c) (0 + 0) = c.toNat := rep_bt L c 0 (by omega)
  have e1 : bt (rep L c) (0 + (0 + 1)) = c.toNat := rep_bt L c 1 (by omega)
  have hb := c.toNat_lt
  rcases Nat.eq_zero_or_pos (ln (bt (rep L c) (0 + 0))) with h0 | h0
  · have : nxt (rep L c) 0 = (0, 0) := nx_none _ _ (Or.inr (Or.inl h0))
    rw [this]
  · have h2 : 1 < ln (bt (rep L c) (0 + 0)) ∧ 191 < c.toNat := by
      rcases ln_cases _ h0 with ⟨l, b1, _⟩ | ⟨l, b1, b2, _⟩ | ⟨l, b1, b2, _⟩ | ⟨l, b1, b2, _⟩ <;> rw [e0] at * <;> omega
    have : nxt (rep L c) 0 = (0, 0) := nx_bad (fun i => bt (rep L c) (0 + i)) _ 0 h2.1 (Or.inr (by show 191 < bt (rep L c) (0 + (0 + 1)); rw [e1]; exact h2.2))
    rw [this]
/-- What the law says of the answer. -/
def longOk (L : Nat) (c : Int) (e : Int) : Prop :=
  (1048576 < (L : Int) → e = 4) ∧ (¬ 1048576 < (L : Int) → c = 0 → e = 3) ∧ (¬ 1048576 < (L : Int) → c ≠ 0 → c < 128 → e = 0) ∧ (¬ 1048576 < (L : Int) → ¬ c < 128 → e = 2)
theorem long_chk (L : Nat) (c : UInt8) (hL : 4 < L) : longOk L c.toNat (chk (rep L c)) := by
  unfold longOk chk
  rw [rep_size]
  refine ⟨fun h => by rw [if_pos h], fun h h0 => ?_, fun h h0 h1 => ?_, fun h h1 => ?_⟩
  · rw [if_neg h, if_pos (rep_zero L c (by omega) (by omega))]
  · rw [if_neg h, if_neg (by rw [rep_nonzero L c (by omega)]; decide), if_pos (rep_goes L c (by omega) L 0 (by omega))]
  · rw [if_neg h, if_neg (by rw [rep_nonzero L c (by omega)]; decide), if_neg (by rw [rep_bad L c hL (by omega)]; decide)]
theorem check_at (t : ByteArray) (b n cap : Nat) (w : World) (hn : t.size = n) (hB : Lib.Bytes w b 0 t) (hs : t.size ≤ maxLen) :
    Calls Try.prog 11 #[.slice (some ⟨b, 0, none⟩) n cap] w fun e w' => e = .returned (.int .i64 (chk t)) ∧ w = w' := by
  subst hn; exact check_any t b cap w hB hs
theorem info8 : (Try.prog.info? 5).map (fun i => (i.zero, i.size, i.bytes)) = some (some (.int .u8 0), 1, 1) := by kernel_rfl
/-- The row: its first k cells hold c. -/
def Filled (w0 : World) (B L : Nat) (c : Int) (k : Nat) (wr : World) : Prop :=
  ∃ xs : List Value, wr.ownsRow B 5 1 (.slice (some ⟨B, 0, none⟩) L L) L xs ∧ (∀ j, j < k → xs[j]? = some (.int .u8 c)) ∧ Below B w0 wr
theorem Filled.start {w0 wr : World} {L : Nat} {c : Int} {xs : List Value} (h : wr.ownsRow w0.heap.size 5 1 (.slice (some ⟨w0.heap.size, 0, none⟩) L L) L xs) (hg : w0.grownBy wr none) : Filled w0 w0.heap.size L c 0 wr :=
  ⟨xs, h, fun j hj => absurd hj (Nat.not_lt_zero j), (Below.refl _ _).grown hg (Nat.le_refl _) (fun k h => by cases h)⟩
theorem Filled.step {w0 wr : World} {B L k : Nat} {c : Int} (h : Filled w0 B L c k wr) (hk : k < L) : Filled w0 B L c (k + 1) (wr.setCell ⟨B, k, none⟩ (.int .u8 c)) := by
  obtain ⟨xs, h1, h2, h3⟩ := h
  obtain ⟨g1, g2⟩ := h1.stored k (.int .u8 c)
  refine ⟨_, g1, fun j hj => ?_, h3.setCell (Nat.le_refl _) _⟩
  have hl : xs.length = L * 1 := h1.1
  by_cases e : j = k
  · subst e
    rw [List.getElem?_set_self (by omega)]
  · rw [List.getElem?_set_ne (by omega)]
    exact h2 j (by omega)
theorem Filled.cell {w0 wr : World} {B L k : Nat} {c : Int} (h : Filled w0 B L c k wr) (hk : k < L) : (∃ v, wr.cell? ⟨B, k, none⟩ = some v) ∧ wr.frozen? ⟨B, k, none⟩ = false := by
  obtain ⟨xs, h1, h2, h3⟩ := h
  have hl : xs.length = L * 1 := h1.1
  exact ⟨⟨_, (h1.cellAt k (by omega)).trans (List.getElem?_eq_getElem (by omega))⟩, h1.frozenAt k⟩
theorem Filled.bytes {w0 wr : World} {B L : Nat} {c : UInt8} (h : Filled w0 B L c.toNat L wr) : Lib.Bytes wr B 0 (rep L c) := by
  obtain ⟨xs, h1, h2, h3⟩ := h
  intro i hi
  have hi' : i < L := by rw [← rep_size L c]; exact hi
  rw [Nat.zero_add, h1.cellAt i (by omega), h2 i hi', rep_at]
set_option maxRecDepth 100000 in
set_option maxHeartbeats 400000 in
theorem walk (a0 : Int) (a1 : Int) (w0 : (Lit.int .u8 a0).wf = true) (w1 : (Lit.int .u8 a1).wf = true) (w : World) :
    Calls Try.prog 8 #[.int .u8 a0, .int .u8 a1] w fun e w' => e = .returned (.bool true) ∧ Below w.heap.size w w' := by
  have hx : 0 ≤ a0 ∧ a0 ≤ 255 := by simpa [Lit.wf, IntKind.min, IntKind.max, IntKind.signed, IntKind.bits] using w0
  have hy : 0 ≤ a1 ∧ a1 ≤ 255 := by simpa [Lit.wf, IntKind.min, IntKind.max, IntKind.signed, IntKind.bits] using w1
  obtain ⟨i0, hi, hz0, hz1, hz2⟩ := info_parts info8
  obtain ⟨L, hL⟩ : ∃ L : Nat, 1048566 + a0 % 20 = (L : Int) := ⟨(1048566 + a0 % 20).toNat, by omega⟩
  have HL := Lib.hid (show (1048566 : Int) ≤ L ∧ (L : Int) ≤ 1048585 by omega)
  have HE := Lib.hid hL
  clear hL
  obtain ⟨c8, hc8⟩ : ∃ c8 : UInt8, (c8.toNat : Int) = a1 := ⟨UInt8.ofNat a1.toNat, by simp; omega⟩
  have Hok : Hid (longOk L a1 (chk (rep L c8))) := Lib.hid (by rw [← hc8]; exact long_chk L c8 (by have := HL.out; omega))
  have Hc8 := Lib.hid hc8
  clear hc8 w0 w1
  go_enter Try.func8, Try.ntmps8
  go_wp2_with fail
  refine (awake_any _).mono ?_
  rintro e W1 ⟨rfl, hb⟩
  go_wp2_with (at_make; refine wpList_make_full _ rfl _ _ 25 rfl W1.heap.size 5 i0 (.int .u8 0) 1 Try.underlying25 hi hz0 hz1 _ _ _ _ L rfl rfl ?c1 ?c2 ?c3 ?c4 ?c5 ?_)
  case c1 => exact HE.out
  case c2 => exact HE.out
  case c3 => rw [hz2]; have := HL.out; omega
  case c4 => unfold maxLen; have := HL.out; omega
  case c5 => exact Nat.le_refl _
  intro W2 hown hgrow
  have hF : Filled W1 W1.heap.size L a1 0 W2 := Filled.start hown hgrow
  clear hown hgrow hi hz0 hz1 hz2
  have h63 : L ≤ 9223372036854775807 := by have := HL.out; omega
  go_wp2_with fail
  go_loopw [17] (fun i wr => ∃ k : Nat, k ≤ L ∧ i = .int .i64 k ∧ Filled W1 W1.heap.size L a1 k wr) (fun i _ => L - (intOf i).toNat)
  case atStart => exact ⟨0, Nat.zero_le _, rfl, hF⟩
  case round =>
    obtain ⟨k, hk, rfl, hF⟩ := hrel
    by_cases hlt : k < L
    · obtain ⟨⟨v, hc⟩, hf⟩ := hF.cell hlt
      have Hst := Lib.hid (hF.step hlt)
      clear hF
      go_wp2_with fail
      go_roundw
      case rel => exact ⟨k + 1, by omega, by go_num, Hst.out⟩
      case measure => simp [intOf]; omega
    · obtain rfl : k = L := by omega
      have hB : Lib.Bytes wr W1.heap.size 0 (rep k c8) := Filled.bytes (by rw [Hc8.out]; exact hF)
      have hbl : Below w.heap.size w wr := hb.trans ((by obtain ⟨_, _, _, h3⟩ := hF; exact h3 : Below W1.heap.size W1 wr).mono hb.size)
      have HB := Lib.hid hB
      have Hbl := Lib.hid hbl
      clear hF hB hbl hb
      have hs : (rep k c8).size ≤ maxLen := by rw [rep_size]; unfold maxLen; omega
      have Hs := Lib.hid hs
      clear hs
      go_wp2_with fail
      refine (check_at (rep k c8) _ k _ _ (rep_size k c8) HB.out Hs.out).mono ?_
      rintro e W3 ⟨rfl, rfl⟩
      obtain ⟨o1, o2, o3, o4⟩ := Hok.out
      by_cases hA : 1048576 < (k : Int)
      · have eA : decide (1048576 < (k : Int)) = true := by simpa using hA
        rw [o1 hA]
        clear o1 o2 o3 o4 hA
        go_wp2_with fail
        go_ret
        exact ⟨rfl, Hbl.out⟩
      have eA : decide (1048576 < (k : Int)) = false := by simpa using hA
      by_cases hC : a1 = 0
      · rw [o2 hA hC]
        clear o1 o2 o3 o4 hA
        have eC : (a1 == 0) = true := by simpa using hC
        clear hC
        go_wp2_with fail
        go_ret
        exact ⟨rfl, Hbl.out⟩
      have eC : (a1 == 0) = false := by simpa using hC
      by_cases hD : a1 < 128
      · rw [o3 hA hC hD]
        clear o1 o2 o3 o4 hA hC
        have eD : decide (a1 < 128) = true := by simpa using hD
        go_wp2_with fail
        go_ret
        exact ⟨rfl, Hbl.out⟩
      · rw [o4 hA hD]
        clear o1 o2 o3 o4 hA hC
        have eD : decide (a1 < 128) = false := by simpa using hD
        go_wp2_with fail
        go_ret
        exact ⟨rfl, Hbl.out⟩

set_option maxRecDepth 100000 in
theorem lifted (os : Os) (started : os.Started) (H : Type) (enc : TypeId × Value → H) :
    ReturnsInHanded {} Try.checked os 8 .any (Rows.utfLongSpec.pre6 enc Try.prog Try.f8 Rows.utfLongRow.domain false) (Rows.utfLongSpec.post enc Try.prog Try.f8 false true false false) := by
  refine returnsInHanded_of_change_sized (C := Try.checked) own started (by kernel_rfl) Try.func8
    (ChangeSpec.witness6 (enc := enc) (C := Try.checked) false ⟨#[], #[.int .u8 0, .int .u8 0], []⟩ 8 (by kernel_rfl) (by kernel_rfl) (by kernel_rfl) (by kernel_rfl)) ?_
  intro W base args ds gs before hval0 hW hcnd hsz0 _
  have hval : ∀ (j : Nat) t v, Try.f8.params[j]? = some t → args[j]? = some v → Value.okWide Try.prog W .any base t v := hval0
  have hsz : (DataW.weightsEach Try.prog (Try.f8.params.toList ++ Rows.utfLongSpec.plain.varTypes Try.prog) (ds ++ gs)).all (· ≤ reachBytes) = true := hsz0
  have hW' := hW
  obtain ⟨p, q, hA0, hV, rfl, hfz, hnd⟩ := hW
  have hA : DataW.TrodAll enc Try.prog W 0 (fun _ => true) true Try.f8.params.toList args.toList ds p := hA0
  rw [Try.params8] at hA hval hsz
  obtain ⟨v0, vs0, d0, ds0, p0, q0, hargs, rfl, rfl, h0, r0⟩ := trodAll_cons hA
  obtain ⟨v1, vs1, d1, ds1, p1, q1, rfl, rfl, rfl, h1, r1⟩ := trodAll_cons r0
  obtain ⟨rfl, rfl, rfl⟩ := trodAll_nil r1
  obtain rfl : args = #[v0, v1] := by cases args; simp_all
  obtain ⟨rfl, rfl⟩ := trodVars_none hV
  obtain ⟨a0, rfl, rfl, rfl, w0⟩ := open_int Try.underlying5 (hval 0 5 v0 rfl rfl) h0
  obtain ⟨a1, rfl, rfl, rfl, w1⟩ := open_int Try.underlying5 (hval 1 5 v1 rfl rfl) h1
  clear hA0 hval0 hsz0
  simp only [List.append_nil] at hW'
  refine (walk a0 a1 w0 w1 W).mono fun e W' ⟨he, bel⟩ => ?_
  subst he
  exact ⟨_, rfl, _, _, _, [], _, [], hW', trodAll_mk1 (shut_bool Try.underlying4 _), (trodAll_cons_mk (shut_int Try.underlying5 w0) (trodAll_cons_mk (shut_int Try.underlying5 w1) trodAll_mk0)), rfl, bel.frame _, fun h => by cases h⟩

theorem over : Rows.utfLongRow.holds Try.pinned (OpenSpec.ofChange Rows.utfLongSpec) :=
  OpenClaim.holds_of_wide 8 Try.f8 rfl rfl rfl rfl rfl rfl rfl ⟨rfl, rfl, rfl, rfl, rfl⟩ rfl rfl rfl rfl rfl (by kernel_rfl) Try.func8 (by kernel_rfl)
    (of_decide_eq_true (by kernel_rfl)) (by unfold Func.isWrapper; first | (rw [if_pos (by decide +kernel)]; kernel_rfl) | (rw [if_neg (by decide +kernel)]; exact ⟨rfl, rfl⟩))
    (fun os started H enc _ => lifted os started H enc)

theorem proved : Rows.UtfLongSaid :=
  over
end Go.Proofs.Ytlnagfpkhojcmaa.utfLong
