/-
  CONTRACTS of strings.IndexRune, IndexAny and ContainsAny at "\r\n", whatever bytes the text has; of the program's codeRight (span).
-/
import Derived.Test.YtpenjdnbnacebaaDoorSpTextP
import Derived.BigQuiet
import Derived.WalkMore
import Derived.Laws.Runes
import Derived.Deep.QuietTactic
namespace Go.Proofs.YtpenjdnbnacebaaDoor.Sp
open Go.RowKit
open Go.Proofs.YtpenjdnbnacebaaDoor.Tk (S S_of S_list S_size S_toList S_app ret_int eq8 ne8 at_data len_data)
open Go.Proofs.YtpenjdnbnacebaaDoor.Cm (calls_at lt_of_at)
set_option linter.unusedVariables false

def crS : ByteArray := ⟨#[13, 10]⟩
theorem valid_rune {r : Int} (h : Lib.validRune r = true) : Utf8.valid r = true := by
  unfold Lib.validRune at h
  have h := of_decide_eq_true h
  unfold Utf8.valid
  simp only [Bool.or_eq_true, Bool.and_eq_true, decide_eq_true_eq]
  omega
theorem cr_at : ∀ i (h : i < crS.size), crS[i].toNat < 128 ∧ ((crS[i].toNat : Int) == 65533) = false
  | 0, _ => ⟨(by decide : (13 : UInt8).toNat < 128), rfl⟩
  | 1, _ => ⟨(by decide : (10 : UInt8).toNat < 128), rfl⟩

set_option maxHeartbeats 3200000 in
set_option maxRecDepth 100000 in
theorem runeWide_any (r : Int) (h : 128 ≤ r) (hr : r ≤ 2147483647) (w : World) :
    Calls Tryd.prog 97 #[.string crS, .int .i32 r] w fun e w' => e = .returned (.int .i64 (-1)) ∧ Below w.heap.size w w' := by
  by_cases h65 : r = 65533
  · subst h65
    have hsz : crS.size = 2 := rfl
    have HA := Lib.hid cr_at
    generalize crS = s at *
    go_enter Tryd.func97, Tryd.ntmps97
    go_wp2_with fail
    go_loopg [5, 6] 2 (fun g _ _ wx => ∃ i : Nat, i + g = 2 ∧ wx = w.iter s i)
    case atStart => exact ⟨0, by omega, rfl⟩
    case round =>
      obtain ⟨i, hig, rfl⟩ := hrel
      cases gk with
      | zero =>
        obtain rfl : i = s.size := by omega
        have hnx := fun ty => run_next_end (P := Tryd.prog) w s 2 ty (by omega)
        go_wp2_with fail
        go_ret
        exact ⟨rfl, (Below.refl _ _).alloc (Nat.le_refl _) _⟩
      | succ g =>
        have hi : i < s.size := by omega
        have hnx := fun ty => run_next_ascii (P := Tryd.prog) w s i ty hi (HA.out i hi).1
        have e1 := (HA.out i hi).2
        go_wp2_with fail
        go_roundg g
        case measure => omega
        case rel => exact ⟨i + 1, by omega, rfl⟩
  · have e65 : (r == 65533) = false := by rw [beq_eq_false_iff_ne]; exact h65
    clear h65
    have HV := Lib.hid (Tryd.utf8_ValidRune r w)
    cases hv : Lib.validRune r with
    | false =>
      rw [hv] at HV
      clear hv
      go_enter Tryd.func97, Tryd.ntmps97
      go_wp2_with fail
      refine HV.out.mono ?_
      rintro e w2 ⟨rfl, hw⟩
      subst hw
      clear HV
      go_wp2_with fail
      go_ret
      exact ⟨rfl, Below.refl _ _⟩
    | true =>
      rw [hv] at HV
      obtain ⟨t, ht, ht2, ht4, htl, ht8⟩ := enc_wide r h (valid_rune hv)
      have hs2 : crS.size = 2 := rfl
      have hc1 : ∀ h : 1 < crS.size, crS[1] = 10 := fun _ => rfl
      have HC1 := Lib.hid hc1
      clear hv hc1
      generalize crS = s at *
      go_enter Tryd.func97, Tryd.ntmps97
      go_wp2_with fail
      refine HV.out.mono ?_
      rintro e w2 ⟨rfl, hw⟩
      subst hw
      clear HV
      go_wp2_with fail
      have HI := Lib.hid (fun (x : UInt8) (w' : World) => Tryd.strings_IndexByte ByteArray.empty (x.toNat : Int) w')
      have HI2 : Hid (∀ x : UInt8, Lib.indexByte ByteArray.empty.data.toList x = -1) := Lib.hid (fun x => rfl)
      go_step3
      go_wp2_with fail
      clear ht
      by_cases hsz : t.size = 2
      · obtain ⟨x, hx⟩ : ∃ x, t[t.size - 1] = x := ⟨_, rfl⟩
        rw [hx] at ht8
        go_loopw [9, 10] (fun i f wr => i = .int .i64 1 ∧ wr = w2) (fun _ _ _ => 0)
        case atStart => exact ⟨by rw [hsz]; rfl, rfl⟩
        case round =>
          obtain ⟨rfl, rfl⟩ := hrel
          have hi1 : (1 : Int) < (s.size : Int) := by omega
          have hx1 : t[1]'(by omega) = x := by rw [← hx]; congr 1; omega
          have hs1 : s[1]'(by omega) = 10 := HC1.out _
          have hne : ((10 : Int) != (x.toNat : Int)) = true := by rw [bne_iff_ne]; omega
          have HJ := Lib.hid (HI.out x)
          have hv := HI2.out x
          have hback : ((x.toNat : Int)).toNat.toUInt8 = x := by simp
          rw [hback] at HJ
          rw [hv] at HJ
          have hw2 : IntKind.i64.wrap 2 = 2 := rfl
          clear hx hv hback HI HI2
          go_wp2_with fail
          go_step3
          go_wp2_with fail
          go_quiet (fail)
          go_wp2_with fail
          go_quiet ((go_at_call 51; refine (HJ.out _).mono ?_; rintro e w'' ⟨he, hw⟩; exact ⟨he, _, hw⟩))
          go_wp2_with fail
          rw [Exit.noGoto_ret]
          go_wp2_with fail
          rw [Exit.noGoto_ret]
          go_wp2_with fail
          go_ret
          exact ⟨rfl, below_drewN (Below.refl _ _) _⟩
      · go_loopw [9, 10] (fun i f wr => i = .int .i64 ((t.size : Int) - 1) ∧ wr = w2) (fun _ _ _ => 0)
        case atStart => exact ⟨rfl, rfl⟩
        case round =>
          obtain ⟨rfl, rfl⟩ := hrel
          have hi1 : ¬ ((t.size : Int) - 1 < (s.size : Int)) := by omega
          go_wp2_with fail
          go_ret
          exact ⟨rfl, Below.refl _ _⟩

theorem set_info : (Tryd.prog.info? 65).map (fun i => (i.zero, i.size)) = some (some (.agg (Array.replicate 256 (.bool false))), 256) := by kernel_rfl
theorem crL_list : crS.data.toList = crL := rfl
theorem crL_ascii : ∀ (j : Nat) b, crS.data.toList[j]? = some b → b.toNat < 128
  | 0, b, h => by rw [crL_list] at h; obtain rfl : (13 : UInt8) = b := by simpa [crL] using h
                  decide
  | 1, b, h => by rw [crL_list] at h; obtain rfl : (10 : UInt8) = b := by simpa [crL] using h
                  decide
  | j + 2, b, h => by rw [crL_list] at h; simp [crL] at h

set_option maxHeartbeats 6400000 in
set_option maxRecDepth 100000 in
theorem indexAny_any (s : ByteArray) (hs : s.size ≤ 1048576) (w : World) :
    Calls Tryd.prog 85 #[.string s, .string crS] w fun e w' => e = .returned (.int .i64 (Lib.indexAny s.data.toList crL)) ∧ Below w.heap.size w w' := by
  by_cases h8 : s.size ≤ 8
  · have HU := Lib.hid (fun w => Tryd.strings_shouldUseASCIISet (s.size : Int) w)
    have hemp : (crS.toList == ([] : List UInt8)) = false := by rw [Lib.toList_data, crL_list]; rfl
    have hn1 : ((crS.size : Int) == 1) = false := rfl
    have h8z : decide ((8 : Int) < (s.size : Int)) = false := decide_eq_false (by omega)
    rw [h8z] at HU
    have HR := Lib.hid (fun r h hr w => runeWide_any r h hr w)
    have HA := Lib.hid (fun r w h0 h1 => Tryd.strings_IndexRune_ascii crS r w h0 h1)
    have HCo := Lib.hid (fun x => Lib.contains_iff_indexByte crL x)
    rw [crL_list] at HA
    have HW := Lib.hid (fun pos (hp : pos < s.size) ha hno => wide_no (s := s) (pos := pos) hp ha hno)
    generalize crS = t at *
    go_enter Tryd.func85, Tryd.ntmps85
    go_wp2_with fail
    refine (HU.out _).mono ?_
    rintro e w2 ⟨rfl, hw⟩
    subst hw
    clear HU
    go_wp2_with fail
    go_loopg [9, 10] s.size (fun g _ _ wx => ∃ i : Nat, i ≤ s.size ∧ s.size - i ≤ g ∧ wx.heap[w2.heap.size]? = some (.stringIter s i) ∧ Below w2.heap.size w2 wx ∧ Lib.NoAny s.data.toList crL i)
    case atStart => exact ⟨0, by omega, by omega, World.iter_heap _ _ _, (Below.refl _ _).alloc (Nat.le_refl _) _, Lib.NoAny.zero _ _⟩
    case round =>
      obtain ⟨i, hi, hg, hIt, hb, hno⟩ := hrel
      have HN := Lib.hid hno
      have HB := Lib.hid hb
      by_cases hlt : i < s.size
      · obtain ⟨g, rfl⟩ : ∃ g, gk = g + 1 := ⟨gk - 1, by omega⟩
        have hnx : ∀ ty, (Instr.next (.pointer (some ⟨w2.heap.size, 0, none⟩)) true ty).run Tryd.prog wr = _ := fun ty => Lib.run_next_any_at wr w2.heap.size s i ty hIt hlt
        obtain ⟨x, hx⟩ : ∃ x : UInt8, s[i] = x := ⟨_, rfl⟩
        have Hx : Hid (s.data.toList[i]? = some x) := Lib.hid (by rw [← hx]; exact Lib.data_getElem? s i hlt)
        by_cases h128 : x.toNat < 128
        · have hdec := decode_ascii s i hlt (by rw [hx]; exact h128)
          rw [hdec, hx] at hnx
          have hit1 := Lib.hid (Lib.iterAt_heap wr w2.heap.size s i (i + 1) hIt)
          have hbw1 := Lib.hid (Lib.below_iterAt hb (k := w2.heap.size) (Nat.le_refl _) s (i + 1))
          have hA1 := Lib.hid (HA.out (x.toNat : Int) (wr.iterAt w2.heap.size s (i + 1)) (by omega) (by omega))
          have hback : ((x.toNat : Int)).toNat.toUInt8 = x := by simp
          rw [hback] at hA1
          have hcon := HCo.out x
          clear hb hno hx hdec hIt hback HA HR HW HCo
          generalize wr.iterAt w2.heap.size s (i + 1) = w3 at *
          generalize Lib.indexByte crL x = ix at *
          cases hc : crL.contains x with
          | true =>
            have hge : 0 ≤ ix := of_decide_eq_true (by rw [← hcon, hc])
            have HF := Lib.hid (Lib.indexAny_hit HN.out Hx.out hc)
            clear hcon hc
            go_wp2_with fail
            refine hA1.out.mono ?_
            rintro e w4 ⟨rfl, hw⟩
            subst hw
            go_wp2_with fail
            go_ret
            exact ⟨ret_int HF.out.symm, hbw1.out⟩
          | false =>
            have hge : ¬ 0 ≤ ix := of_decide_eq_false (by rw [← hcon, hc])
            have HF := Lib.hid (HN.out.succ Hx.out hc)
            clear hcon hc
            go_wp2_with fail
            refine hA1.out.mono ?_
            rintro e w4 ⟨rfl, hw⟩
            subst hw
            go_wp2_with fail
            go_roundg g
            case measure => omega
            case rel => exact ⟨i + 1, by omega, by omega, hit1.out, hbw1.out, HF.out⟩
        · have hge : 128 ≤ s[i].toNat := by rw [hx]; omega
          obtain ⟨hr1, hr2⟩ := decode_high s i hlt hge
          have hr3 := decode_le s i
          obtain ⟨hn1, hn2, hn3⟩ := HW.out i hlt hge hno
          obtain ⟨r, n, hrn⟩ : ∃ r n, Utf8.decode s i = (r, n) := ⟨_, _, rfl⟩
          rw [hrn] at hnx hr1 hr2 hr3 hn1 hn2 hn3
          simp only at hnx hr1 hr2 hr3 hn1 hn2 hn3
          have HF := Lib.hid hn3
          have hit1 := Lib.hid (Lib.iterAt_heap wr w2.heap.size s i (i + n) hIt)
          have hbw1 := Lib.hid (Lib.below_iterAt hb (k := w2.heap.size) (Nat.le_refl _) s (i + n))
          have hA1 := Lib.hid (HR.out (r : Int) (by omega) (by omega) (wr.iterAt w2.heap.size s (i + n)))
          clear hb hno hx hIt HA HR HW HCo hrn hge hn3
          generalize wr.iterAt w2.heap.size s (i + n) = w3 at *
          go_wp2_with fail
          refine hA1.out.mono ?_
          rintro e w4 ⟨rfl, hb4⟩
          have hit4 := Lib.hid ((hb4.block _ (lt_of_at hit1.out)).trans hit1.out)
          have hbw4 := Lib.hid (hbw1.out.trans (hb4.mono hbw1.out.size))
          clear hb4
          go_wp2_with fail
          go_roundg g
          case measure => omega
          case rel => exact ⟨i + n, hn1, by omega, hit4.out, hbw4.out, HF.out⟩
      · have hnx := fun ty => Lib.run_next_end_at (P := Tryd.prog) wr w2.heap.size s i ty hIt hlt
        have hsz : i = s.size := by omega
        have HF : Hid (Lib.indexAny s.data.toList crL = -1) := Lib.hid (Lib.indexAny_none (by rw [len_data, ← hsz]; exact HN.out))
        clear hb hno
        go_wp2_with fail
        go_ret
        exact ⟨ret_int HF.out.symm, HB.out⟩
  · have h := Tryd.strings_IndexAny_long (zero_of_info set_info).1 s crS w (Nat.le_refl 2) (by omega) (by omega) (by show 2 < 4294967281; omega) crL_ascii
    refine h.mono ?_
    rintro e w' ⟨rfl, hw⟩
    refine ⟨rfl, ?_⟩
    rw [hw]
    exact ((Below.refl _ _).alloc (Nat.le_refl _) _).alloc (by simp) _

theorem contains_any (s : ByteArray) (hs : s.size ≤ 1048576) (w : World) :
    Calls Tryd.prog 65 #[.string s, .string crS] w (OkAns w (hsB 10 s.data.toList || hsB 13 s.data.toList)) := by
  have HI := Lib.hid (indexAny_any s hs w)
  have HR : Hid (decide (0 ≤ Lib.indexAny s.data.toList crL) = (hsB 10 s.data.toList || hsB 13 s.data.toList)) := Lib.hid (cr_any _)
  generalize Lib.indexAny s.data.toList crL = ix at *
  generalize crS = t at *
  go_enter Tryd.func65, Tryd.ntmps65
  go_wp2_with fail
  refine HI.out.mono ?_
  rintro e w2 ⟨rfl, hb⟩
  have HB := Lib.hid hb
  clear hb HI
  go_wp2_with fail
  go_ret
  exact ⟨ret_bool HR.out, HB.out⟩

theorem ct_size {s : ByteArray} (h : ctB s = true) : s.size ≤ 1048576 := by
  unfold ctB Go.Proofs.YtpenjdnbnacebaaDoor.Utf.chk at h
  have h := of_decide_eq_true h
  split at h
  · cases h
  · omega
/-- What a Code may have. -/
def cdB (s : List UInt8) : Bool := !s.isEmpty && (!hsB 10 s && !hsB 13 s)
end Go.Proofs.YtpenjdnbnacebaaDoor.Sp
