/-
  Several texts in one:
  
  
-/
import Derived.Test.YtldllbmbcnipoabGreatDoorPkWS
import Derived.BigQuiet
import Derived.WalkMore
import Derived.Laws.Runes
import Derived.Deep.QuietTactic
namespace Go.Proofs.YtldllbmbcnipoabGreatDoor.Sp
open Go.RowKit
open Go.Proofs.YtldllbmbcnipoabGreatDoor.Tk (S S_of S_list S_size S_toList S_app ret_int eq8 ne8 at_data len_data)
open Go.Proofs.YtldllbmbcnipoabGreatDoor.Cm (calls_at lt_of_at)
set_option linter.unusedVariables false
def crS : ByteArray := ⟨#[13, 10]⟩
theorem valid_rune {r : Int} (h : Lib.validRune r = true) : Utf8.valid r = true := by
  unfold Lib.validRune at h
  have h := of_decide_eq_true h
  unfold Utf8.valid
  simp only [Bool.or_eq_true, Bool.and_eq_true, decide_eq_true_eq]
  omega
theorem cr_at : ∀ i (h : i < crS.size), crS[i].toNat < 128 ∧ ((crS[i].toNat : Int) == 65533) = false
  | 0, _ => ⟨(by decide : (13 : UInt8).toNat < 128), rfl⟩
  | 1, _ => ⟨(by decide : (10 : UInt8).toNat < 128), rfl⟩
set_option maxHeartbeats 3200000 in
set_option maxRecDepth 100000 in
theorem runeWide_any (r : Int) (h : 128 ≤ r) (hr : r ≤ 2147483647) (w : World) :
    Calls Tryz.prog 156 #[.string crS, .int .i32 r] w fun e w' => e = .returned (.int .i64 (-1)) ∧ Below w.heap.size w w' := by
  by_cases h65 : r = 65533
  · subst h65
    have hsz : crS.size = 2 := rfl
    have HA := Lib.hid cr_at
    generalize crS = s at *
    go_enter Tryz.func156, Tryz.ntmps156
    go_wp2_with fail
    go_loopg [5, 6] 2 (fun g _ _ wx => ∃ i : Nat, i + g = 2 ∧ wx = w.iter s i)
    case atStart => exact ⟨0, by omega, rfl⟩
    case round =>
      obtain ⟨i, hig, rfl⟩ := hrel
      cases gk with
      | zero =>
        obtain rfl : i = s.size := by omega
        have hnx := fun ty => run_next_end (P := Tryz.prog) w s 2 ty (by omega)
        go_wp2_with fail
        go_ret
        exact ⟨rfl, (Below.refl _ _).alloc (Nat.le_refl _) _⟩
      | succ g =>
        have hi : i < s.size := by omega
        have hnx := fun ty => run_next_ascii (P := Tryz.prog) w s i ty hi (HA.out i hi).1
        have e1 := (HA.out i hi).2
        go_wp2_with fail
        go_roundg g
        case measure => omega
        case rel => exact ⟨i + 1, by omega, rfl⟩
  · have e65 : (r == 65533) = false := by rw [beq_eq_false_iff_ne]; exact h65
    clear h65
    have HV := Lib.hid (Tryz.utf8_ValidRune r w)
    cases hv : Lib.validRune r with
    | false =>
      rw [hv] at HV
      clear hv
      go_enter Tryz.func156, Tryz.ntmps156
      go_wp2_with fail
      refine HV.out.mono ?_
      rintro e w2 ⟨rfl, hw⟩
      subst hw
      clear HV
      go_wp2_with fail
      go_ret
      exact ⟨rfl, Below.refl _ _⟩
    | true =>
      rw [hv] at HV
      obtain ⟨t, ht, ht2, ht4, htl, ht8⟩ := enc_wide r h (valid_rune hv)
      have hs2 : crS.size = 2 := rfl
      have hc1 : ∀ h : 1 < crS.size, crS[1] = 10 := fun _ => rfl
      have HC1 := Lib.hid hc1
      clear hv hc1
      generalize crS = s at *
      go_enter Tryz.func156, Tryz.ntmps156
      go_wp2_with fail
      refine HV.out.mono ?_
      rintro e w2 ⟨rfl, hw⟩
      subst hw
      clear HV
      go_wp2_with fail
      have HI := Lib.hid (fun (x : UInt8) (w' : World) => Tryz.strings_IndexByte ByteArray.empty (x.toNat : Int) w')
      have HI2 : Hid (∀ x : UInt8, Lib.indexByte ByteArray.empty.data.toList x = -1) := Lib.hid (fun x => rfl)
      go_step3
      go_wp2_with fail
      clear ht
      by_cases hsz : t.size = 2
      · obtain ⟨x, hx⟩ : ∃ x, t[t.size - 1] = x := ⟨_, rfl⟩
        rw [hx] at ht8
        go_loopw [9, 10] (fun i f wr => i = .int .i64 1 ∧ wr = w2) (fun _ _ _ => 0)
        case atStart => exact ⟨by rw [hsz]; rfl, rfl⟩
        case round =>
          obtain ⟨rfl, rfl⟩ := hrel
          have hi1 : (1 : Int) < (s.size : Int) := by omega
          have hx1 : t[1]'(by omega) = x := by rw [← hx]; congr 1; omega
          have hs1 : s[1]'(by omega) = 10 := HC1.out _
          have hne : ((10 : Int) != (x.toNat : Int)) = true := by rw [bne_iff_ne]; omega
          have HJ := Lib.hid (HI.out x)
          have hv := HI2.out x
          have hback : ((x.toNat : Int)).toNat.toUInt8 = x := by simp
          rw [hback] at HJ
          rw [hv] at HJ
          have hw2 : IntKind.i64.wrap 2 = 2 := rfl
          clear hx hv hback HI HI2
          go_wp2_with fail
          go_step3
          go_wp2_with fail
          go_quiet (fail)
          go_wp2_with fail
          go_quiet ((go_at_call 114; refine (HJ.out _).mono ?_; rintro e w'' ⟨he, hw⟩; exact ⟨he, _, hw⟩))
          go_wp2_with fail
          rw [Exit.noGoto_ret]
          go_wp2_with fail
          rw [Exit.noGoto_ret]
          go_wp2_with fail
          go_ret
          exact ⟨rfl, below_drewN (Below.refl _ _) _⟩
      · go_loopw [9, 10] (fun i f wr => i = .int .i64 ((t.size : Int) - 1) ∧ wr = w2) (fun _ _ _ => 0)
        case atStart => exact ⟨rfl, rfl⟩
        case round =>
          obtain ⟨rfl, rfl⟩ := hrel
          have hi1 : ¬ ((t.size : Int) - 1 < (s.size : Int)) := by omega
          go_wp2_with fail
          go_ret
          exact ⟨rfl, Below.refl _ _⟩
theorem set_info : (Tryz.prog.info? 186).map (fun i => (i.zero, i.size)) = some (some (.agg (Array.replicate 256 (.bool false))), 256) := by kernel_rfl
theorem crL_list : crS.data.toList = crL := rfl
theorem crL_ascii : ∀ (j : Nat) b, crS.data.toList[j]? = some b → b.toNat < 128
  | 0, b, h => by rw [crL_list] at h; obtain rfl : (13 : UInt8) = b := by simpa [crL] using h
                  decide
  | 1, b, h => by rw [crL_list] at h; obtain rfl : (10 : UInt8) = b := by simpa [crL] using h
                  decide
  | j + 2, b, h => by rw [crL_list] at h; simp [crL] at h
set_option maxHeartbeats 6400000 in
set_option maxRecDepth 100000 in
theorem indexAny_any (s : ByteArray) (hs : s.size ≤ 1048576) (w : World) :
    Calls Tryz.prog 137 #[.string s, .string crS] w fun e w' => e = .returned (.int .i64 (Lib.indexAny s.data.toList crL)) ∧ Below w.heap.size w w' := by
  by_cases h8 : s.size ≤ 8
  · have HU := Lib.hid (fun w => Tryz.strings_shouldUseASCIISet (s.size : Int) w)
    have hemp : (crS.toList == ([] : List UInt8)) = false := by rw [Lib.toList_data, crL_list]; rfl
    have hn1 : ((crS.size : Int) == 1) = false := rfl
    have h8z : decide ((8 : Int) < (s.size : Int)) = false := decide_eq_false (by omega)
    rw [h8z] at HU
    have HR := Lib.hid (fun r h hr w => runeWide_any r h hr w)
    have HA := Lib.hid (fun r w h0 h1 => Tryz.strings_IndexRune_ascii crS r w h0 h1)
    have HCo := Lib.hid (fun x => Lib.contains_iff_indexByte crL x)
    rw [crL_list] at HA
    have HW := Lib.hid (fun pos (hp : pos < s.size) ha hno => wide_no (s := s) (pos := pos) hp ha hno)
    generalize crS = t at *
    go_enter Tryz.func137, Tryz.ntmps137
    go_wp2_with fail
    refine (HU.out _).mono ?_
    rintro e w2 ⟨rfl, hw⟩
    subst hw
    clear HU
    go_wp2_with fail
    go_loopg [9, 10] s.size (fun g _ _ wx => ∃ i : Nat, i ≤ s.size ∧ s.size - i ≤ g ∧ wx.heap[w2.heap.size]? = some (.stringIter s i) ∧ Below w2.heap.size w2 wx ∧ Lib.NoAny s.data.toList crL i)
    case atStart => exact ⟨0, by omega, by omega, World.iter_heap _ _ _, (Below.refl _ _).alloc (Nat.le_refl _) _, Lib.NoAny.zero _ _⟩
    case round =>
      obtain ⟨i, hi, hg, hIt, hb, hno⟩ := hrel
      have HN := Lib.hid hno
      have HB := Lib.hid hb
      by_cases hlt : i < s.size
      · obtain ⟨g, rfl⟩ : ∃ g, gk = g + 1 := ⟨gk - 1, by omega⟩
        have hnx : ∀ ty, (Instr.next (.pointer (some ⟨w2.heap.size, 0, none⟩)) true ty).run Tryz.prog wr = _ := fun ty => Lib.run_next_any_at wr w2.heap.size s i ty hIt hlt
        obtain ⟨x, hx⟩ : ∃ x : UInt8, s[i] = x := ⟨_, rfl⟩
        have Hx : Hid (s.data.toList[i]? = some x) := Lib.hid (by rw [← hx]; exact Lib.data_getElem? s i hlt)
        by_cases h128 : x.toNat < 128
        · have hdec := decode_ascii s i hlt (by rw [hx]; exact h128)
          rw [hdec, hx] at hnx
          have hit1 := Lib.hid (Lib.iterAt_heap wr w2.heap.size s i (i + 1) hIt)
          have hbw1 := Lib.hid (Lib.below_iterAt hb (k := w2.heap.size) (Nat.le_refl _) s (i + 1))
          have hA1 := Lib.hid (HA.out (x.toNat : Int) (wr.iterAt w2.heap.size s (i + 1)) (by omega) (by omega))
          have hback : ((x.toNat : Int)).toNat.toUInt8 = x := by simp
          rw [hback] at hA1
          have hcon := HCo.out x
          clear hb hno hx hdec hIt hback HA HR HW HCo
          generalize wr.iterAt w2.heap.size s (i + 1) = w3 at *
          generalize Lib.indexByte crL x = ix at *
          cases hc : crL.contains x with
          | true =>
            have hge : 0 ≤ ix := of_decide_eq_true (by rw [← hcon, hc])
            have HF := Lib.hid (Lib.indexAny_hit HN.out Hx.out hc)
            clear hcon hc
            go_wp2_with fail
            refine hA1.out.mono ?_
            rintro e w4 ⟨rfl, hw⟩
            subst hw
            go_wp2_with fail
            go_ret
            exact ⟨ret_int HF.out.symm, hbw1.out⟩
          | false =>
            have hge : ¬ 0 ≤ ix := of_decide_eq_false (by rw [← hcon, hc])
            have HF := Lib.hid (HN.out.succ Hx.out hc)
            clear hcon hc
            go_wp2_with fail
            refine hA1.out.mono ?_
            rintro e w4 ⟨rfl, hw⟩
            subst hw
            go_wp2_with fail
            go_roundg g
            case measure => omega
            case rel => exact ⟨i + 1, by omega, by omega, hit1.out, hbw1.out, HF.out⟩
        · have hge : 128 ≤ s[i].toNat := by rw [hx]; omega
          obtain ⟨hr1, hr2⟩ := decode_high s i hlt hge
          have hr3 := decode_le s i
          obtain ⟨hn1, hn2, hn3⟩ := HW.out i hlt hge hno
          obtain ⟨r, n, hrn⟩ : ∃ r n, Utf8.decode s i = (r, n) := ⟨_, _, rfl⟩
          rw [hrn] at hnx hr1 hr2 hr3 hn1 hn2 hn3
          simp only at hnx hr1 hr2 hr3 hn1 hn2 hn3
          have HF := Lib.hid hn3
          have hit1 := Lib.hid (Lib.iterAt_heap wr w2.heap.size s i (i + n) hIt)
          have hbw1 := Lib.hid (Lib.below_iterAt hb (k := w2.heap.size) (Nat.le_refl _) s (i + n))
          have hA1 := Lib.hid (HR.out (r : Int) (by omega) (by omega) (wr.iterAt w2.heap.size s (i + n)))
          clear hb hno hx hIt HA HR HW HCo hrn hge hn3
          generalize wr.iterAt w2.heap.size s (i + n) = w3 at *
          go_wp2_with fail
          refine hA1.out.mono ?_
          rintro e w4 ⟨rfl, hb4⟩
          have hit4 := Lib.hid ((hb4.block _ (lt_of_at hit1.out)).trans hit1.out)
          have hbw4 := Lib.hid (hbw1.out.trans (hb4.mono hbw1.out.size))
          clear hb4
          go_wp2_with fail
          go_roundg g
          case measure => omega
          case rel => exact ⟨i + n, hn1, by omega, hit4.out, hbw4.out, HF.out⟩
      · have hnx := fun ty => Lib.run_next_end_at (P := Tryz.prog) wr w2.heap.size s i ty hIt hlt
        have hsz : i = s.size := by omega
        have HF : Hid (Lib.indexAny s.data.toList crL = -1) := Lib.hid (Lib.indexAny_none (by rw [len_data, ← hsz]; exact HN.out))
        clear hb hno
        go_wp2_with fail
        go_ret
        exact ⟨ret_int HF.out.symm, HB.out⟩
  · have h := Tryz.strings_IndexAny_long (zero_of_info set_info).1 s crS w (Nat.le_refl 2) (by omega) (by omega) (by show 2 < 4294967281; omega) crL_ascii
    refine h.mono ?_
    rintro e w' ⟨rfl, hw⟩
    refine ⟨rfl, ?_⟩
    rw [hw]
    exact ((Below.refl _ _).alloc (Nat.le_refl _) _).alloc (by simp) _
theorem contains_any (s : ByteArray) (hs : s.size ≤ 1048576) (w : World) :
    Calls Tryz.prog 115 #[.string s, .string crS] w (OkAns w (hsB 10 s.data.toList || hsB 13 s.data.toList)) := by
  have HI := Lib.hid (indexAny_any s hs w)
  have HR : Hid (decide (0 ≤ Lib.indexAny s.data.toList crL) = (hsB 10 s.data.toList || hsB 13 s.data.toList)) := Lib.hid (cr_any _)
  generalize Lib.indexAny s.data.toList crL = ix at *
  generalize crS = t at *
  go_enter Tryz.func115, Tryz.ntmps115
  go_wp2_with fail
  refine HI.out.mono ?_
  rintro e w2 ⟨rfl, hb⟩
  have HB := Lib.hid hb
  clear hb HI
  go_wp2_with fail
  go_ret
  exact ⟨ret_bool HR.out, HB.out⟩
theorem ct_size {s : ByteArray} (h : ctB s = true) : s.size ≤ 1048576 := by
  unfold ctB Go.Proofs.YtldllbmbcnipoabGreatDoor.Utf.chk at h
  have h := of_decide_eq_true h
  split at h
  · cases h
  · omega
def cdB (s : List UInt8) : Bool := !s.isEmpty && (!hsB 10 s && !hsB 13 s)
theorem codeP_any (s : ByteArray) (hs : s.size ≤ 140737488355328) (w : World) :
    Calls Tryz.prog 147 #[.string s] w (OkAns w (ctB s && cdB s.data.toList)) := by
  have HT := Lib.hid (isText_any s hs w)
  have HC := Lib.hid (fun h w => contains_any s (ct_size h) w)
  have hE : (⟨#[13, 10]⟩ : ByteArray) = crS := rfl
  have HEm : Hid ((s.toList == ([] : List UInt8)) = s.data.toList.isEmpty) := Lib.hid (by rw [Lib.toList_data]; cases s.data.toList <;> rfl)
  have HEn : Hid ((s.toList != ([] : List UInt8)) = !s.data.toList.isEmpty) := Lib.hid (by rw [Lib.toList_data]; cases s.data.toList <;> rfl)
  have HX : Hid ((ctB s && cdB s.data.toList) = (ctB s && (!s.data.toList.isEmpty && !(hsB 10 s.data.toList || hsB 13 s.data.toList)))) := Lib.hid (by unfold cdB; rw [Bool.not_or])
  obtain ⟨X, hX⟩ : ∃ X, (ctB s && cdB s.data.toList) = X := ⟨_, rfl⟩
  obtain ⟨ne, hne⟩ : ∃ ne, s.data.toList.isEmpty = ne := ⟨_, rfl⟩
  rw [hX, hne] at HX
  rw [hne] at HEm HEn
  rw [hX]
  clear hX hne
  cases ne with
  | true =>
    have em := HEm.out
    have en := HEn.out
    have HR : Hid (X = false) := Lib.hid (by rw [HX.out]; simp)
    clear HX HEm HT HC HEn hE
    go_enter Tryz.func147, Tryz.ntmps147
    go_wp2_with fail
    go_ret
    exact ⟨ret_bool HR.out.symm, Below.refl _ _⟩
  | false =>
    have em := HEm.out
    have en := HEn.out
    clear HEm HEn
    cases hct : ctB s with
    | false =>
      rw [hct] at HT HX
      have HR : Hid (X = false) := Lib.hid (by rw [HX.out]; simp)
      clear HX HC hct hE
      go_enter Tryz.func147, Tryz.ntmps147
      go_wp2_with fail
      refine HT.out.mono ?_
      rintro e w2 ⟨rfl, hb⟩
      have HB := Lib.hid hb
      clear hb HT
      go_wp2_with fail
      go_ret
      exact ⟨ret_bool HR.out.symm, HB.out⟩
    | true =>
      have HCA := Lib.hid (HC.out hct)
      rw [hct] at HT HX
      rw [← hE] at HCA
      have HR : Hid (X = !(hsB 10 s.data.toList || hsB 13 s.data.toList)) := Lib.hid (by rw [HX.out]; simp)
      clear HX HC hct hE
      generalize (hsB 10 s.data.toList || hsB 13 s.data.toList) = y at *
      go_enter Tryz.func147, Tryz.ntmps147
      go_wp2_with fail
      refine HT.out.mono ?_
      rintro e w2 ⟨rfl, hb⟩
      have HB := Lib.hid hb
      clear hb HT
      go_wp2_with fail
      refine (HCA.out _).mono ?_
      rintro e w3 ⟨rfl, hb⟩
      have HB3 := Lib.hid (HB.out.trans (hb.mono HB.out.size))
      clear hb HCA
      go_wp2_with fail
      go_ret
      exact ⟨ret_bool HR.out.symm, HB3.out⟩
end Go.Proofs.YtldllbmbcnipoabGreatDoor.Sp

namespace Go.Proofs.YtldllbmbcnipoabGreatDoor.Sp
open Go.RowKit
open Go.Proofs.YtldllbmbcnipoabGreatDoor.Tk (S S_of S_list S_size S_toList S_app ret_int eq8 ne8 at_data len_data)
open Go.Proofs.YtldllbmbcnipoabGreatDoor.Cm (calls_at alloc_new alloc_at cell_at lt_of_at)
set_option linter.unusedVariables false
theorem kidsP_of (l : List Sp) (e k : Bool) (ak : Option Addr) (ck : Nat) (w : World)
    (IH : ∀ w', Below w.heap.size w w' → Calls Tryz.prog 110 #[.slice ak l.length ck, .agg #[.bool e, .bool k]] w' (OkAns w' (okAll e k 0 l))) :
    Calls Tryz.prog 148 #[.slice ak l.length ck, .agg #[.bool e, .bool k]] w (OkAns w (!l.isEmpty && okAll e k 0 l)) := by
  have g2 := gt_len l
  have b1 : Below w.heap.size w (w.alloc (.cells #[.bool e, .bool k] 154)) := (Below.refl _ _).alloc (Nat.le_refl _) _
  have HI := Lib.hid (IH _ b1)
  have HB := Lib.hid b1
  clear IH b1
  generalize okAll e k 0 l = y at *
  cases hl : l.isEmpty with
  | true =>
    rw [hl] at g2
    have h0 : ¬ 0 < (l.length : Int) := of_decide_eq_false g2
    clear hl g2 HI
    generalize l.length = n at *
    go_enter Tryz.func148, Tryz.ntmps148
    go_wp2_with fail
    go_ret
    exact ⟨rfl, HB.out⟩
  | false =>
    rw [hl] at g2
    have h0 : 0 < (l.length : Int) := of_decide_eq_true g2
    clear hl g2
    generalize l.length = n at *
    go_enter Tryz.func148, Tryz.ntmps148
    go_wp2_with fail
    refine HI.out.mono ?_
    rintro e1 w1 ⟨rfl, b1⟩
    have HB1 := Lib.hid (HB.out.trans (b1.mono HB.out.size))
    clear b1 HI
    go_wp2_with fail
    go_ret
    exact ⟨rfl, HB1.out⟩
set_option maxHeartbeats 3200000 in
set_option maxRecDepth 100000 in
theorem oneP_of (x : Sp) (e k : Bool) (ak : Option Addr) (ck : Nat) (w : World) (hs : x.s.length ≤ 140737488355328)
    (IH : ∀ (e k : Bool) (w' : World), Below w.heap.size w w' → Calls Tryz.prog 110 #[.slice ak x.kids.length ck, .agg #[.bool e, .bool k]] w' (OkAns w' (okAll e k 0 x.kids))) :
    Calls Tryz.prog 131 #[.agg #[.int .i64 x.kind, .string (S x.s), .slice ak x.kids.length ck], .agg #[.bool e, .bool k]] w (OkAns w (okOne e k x)) := by
  have HK := Lib.hid (fun e k w' (h : Below w.heap.size w w') => kidsP_of x.kids e k ak ck w' (fun w'' h'' => IH e k w'' (h.trans (h''.mono h.size))))
  have HI3 := Lib.hid (HK.out true k)
  have HI4 := Lib.hid (HK.out e true)
  clear HK IH
  obtain ⟨q, s, l⟩ := x
  simp only [Sp.kind, Sp.s, Sp.kids] at HI3 HI4 hs ⊢
  have HE : Hid (okOne e k (.mk q s l) = (ckB s && (if q = 1 then (l.isEmpty && ttB s) else if q = 2 then (l.isEmpty && cdB s)
      else if q = 3 then (s.isEmpty && (!l.isEmpty && (!e && okAll true k 0 l))) else if q = 4 then (dsB s && (!l.isEmpty && (!k && okAll e true 0 l))) else false))) := Lib.hid (by rw [okOne]; rfl)
  have hsz : (S s).size ≤ 140737488355328 := by rw [S_size]; exact hs
  have HT := Lib.hid (fun w' => textP_any (S s) hsz w')
  have HC := Lib.hid (fun w' => codeP_any (S s) hsz w')
  have HD := Lib.hid (fun w' => destP_any (S s) hsz w')
  rw [S_list] at HT HC HD
  have HEm : Hid ((S s).toList.isEmpty = s.isEmpty) := Lib.hid (by rw [S_toList])
  have HNl : Hid (s.isEmpty = true → ckB s = true) := Lib.hid (fun h => by
    have : s = [] := List.isEmpty_iff.1 h
    rw [this]; exact ck_nil)
  have hck : ckB s = ctB (S s) := ckB_S s
  have g1 := isEmpty_len l
  obtain ⟨X, hX⟩ : ∃ X, okOne e k (.mk q s l) = X := ⟨_, rfl⟩
  rw [hX] at HE
  rw [hX]
  rw [← hck] at HT HC HD
  clear hX hck
  generalize ttB s = tt at *
  generalize cdB s = tcd at *
  generalize dsB s = td at *
  generalize ckB s = tc at *
  generalize okAll true k 0 l = y3 at *
  generalize okAll e true 0 l = y4 at *
  generalize s.isEmpty = te at *
  generalize l.isEmpty = tl at *
  generalize l.length = ln at *
  generalize S s = ss at *
  go_enter Tryz.func131, Tryz.ntmps131
  go_upto_region 1 with fail
  have HC1 := Lib.hid (alloc_at (alloc_new w (.cells #[.int .i64 q, .string ss, .slice ak ln ck] 81)) (.cells #[.bool e, .bool k] 154))
  have HP1 := Lib.hid (alloc_new (w.alloc (.cells #[.int .i64 q, .string ss, .slice ak ln ck] 81)) (.cells #[.bool e, .bool k] 154))
  have sz : ∀ o : Obj, (w.alloc o).heap.size = w.heap.size + 1 := fun o => by simp
  rw [sz] at HP1
  have HB1 := Lib.hid (((Below.refl w.heap.size w).alloc (Nat.le_refl _) (.cells #[.int .i64 q, .string ss, .slice ak ln ck] 81)).alloc (by rw [sz]; omega) (.cells #[.bool e, .bool k] 154))
  clear sz
  generalize (w.alloc (.cells #[.int .i64 q, .string ss, .slice ak ln ck] 81)).alloc (.cells #[.bool e, .bool k] 154) = w1 at *
  have k0 : w1.cell? ⟨w.heap.size, 0, none⟩ = some (.int .i64 q) := cell_at HC1.out 0
  have k1 : w1.cell? ⟨w.heap.size, 1, none⟩ = some (.string ss) := cell_at HC1.out 1
  have k2 : w1.cell? ⟨w.heap.size, 2, none⟩ = some (.slice ak ln ck) := cell_at HC1.out 2
  have p0 : w1.cell? ⟨w.heap.size + 1, 0, none⟩ = some (.bool e) := cell_at HP1.out 0
  have p1 : w1.cell? ⟨w.heap.size + 1, 1, none⟩ = some (.bool k) := cell_at HP1.out 1
  have em2 : (ss.toList == ([] : List UInt8)) = te := by rw [← HEm.out]; cases ss.toList <;> rfl
  clear HEm
  by_cases q1 : q = 1
  · have f1 : (q == 1) = true := by rw [q1]; rfl
    cases tl with
    | true =>
      have HR : Hid (X = (tc && tt)) := Lib.hid (by rw [HE.out, if_pos q1]; simp)
      clear HE q1
      go_wp2_with fail
      refine (HT.out _).mono ?_
      rintro e3 w3 ⟨rfl, b3⟩
      have HB3 := Lib.hid (HB1.out.trans (b3.mono HB1.out.size))
      clear b3
      go_wp2_with fail
      go_ret
      exact ⟨ret_bool HR.out.symm, HB3.out⟩
    | false =>
      have HR : Hid (X = false) := Lib.hid (by rw [HE.out, if_pos q1]; simp)
      clear HE q1
      go_wp2_with fail
      go_ret
      exact ⟨ret_bool HR.out.symm, HB1.out⟩
  · have f1 : (q == 1) = false := by rw [beq_eq_false_iff_ne]; exact q1
    by_cases q2 : q = 2
    · have f2 : (q == 2) = true := by rw [q2]; rfl
      cases tl with
      | true =>
        have HR : Hid (X = (tc && tcd)) := Lib.hid (by rw [HE.out, if_neg q1, if_pos q2]; simp)
        clear HE q1 q2
        go_wp2_with fail
        refine (HC.out _).mono ?_
        rintro e3 w3 ⟨rfl, b3⟩
        have HB3 := Lib.hid (HB1.out.trans (b3.mono HB1.out.size))
        clear b3
        go_wp2_with fail
        go_ret
        exact ⟨ret_bool HR.out.symm, HB3.out⟩
      | false =>
        have HR : Hid (X = false) := Lib.hid (by rw [HE.out, if_neg q1, if_pos q2]; simp)
        clear HE q1 q2
        go_wp2_with fail
        go_ret
        exact ⟨ret_bool HR.out.symm, HB1.out⟩
    · have f2 : (q == 2) = false := by rw [beq_eq_false_iff_ne]; exact q2
      by_cases q3 : q = 3
      · have f3 : (q == 3) = true := by rw [q3]; rfl
        cases e with
        | true =>
          have HR : Hid (X = false) := Lib.hid (by rw [HE.out, if_neg q1, if_neg q2, if_pos q3]; simp)
          clear HE q1 q2 q3
          go_wp2_with fail
          go_ret
          exact ⟨ret_bool HR.out.symm, HB1.out⟩
        | false =>
          cases te with
          | false =>
            have HR : Hid (X = false) := Lib.hid (by rw [HE.out, if_neg q1, if_neg q2, if_pos q3]; simp)
            clear HE q1 q2 q3
            go_wp2_with fail
            go_ret
            exact ⟨ret_bool HR.out.symm, HB1.out⟩
          | true =>
            have htc := HNl.out rfl
            have HR : Hid (X = (!tl && y3)) := Lib.hid (by rw [HE.out, htc, if_neg q1, if_neg q2, if_pos q3]; simp)
            clear HE q1 q2 q3 htc HNl
            go_wp2_with fail
            refine (HI3.out _ HB1.out).mono ?_
            rintro e3 w3 ⟨rfl, b3⟩
            have HB3 := Lib.hid (HB1.out.trans (b3.mono HB1.out.size))
            clear b3
            go_wp2_with fail
            go_ret
            exact ⟨ret_bool HR.out.symm, HB3.out⟩
      · have f3 : (q == 3) = false := by rw [beq_eq_false_iff_ne]; exact q3
        by_cases q4 : q = 4
        · have f4 : (q == 4) = true := by rw [q4]; rfl
          cases k with
          | true =>
            have HR : Hid (X = false) := Lib.hid (by rw [HE.out, if_neg q1, if_neg q2, if_neg q3, if_pos q4]; simp)
            clear HE q1 q2 q3 q4
            go_wp2_with fail
            go_ret
            exact ⟨ret_bool HR.out.symm, HB1.out⟩
          | false =>
            obtain ⟨cd, hcd⟩ : ∃ cd, (tc && td) = cd := ⟨_, rfl⟩
            have HE2 : Hid (X = (cd && (!tl && y4))) := Lib.hid (by rw [HE.out, if_neg q1, if_neg q2, if_neg q3, if_pos q4, ← hcd]; simp [Bool.and_assoc])
            rw [hcd] at HD
            clear HE q1 q2 q3 q4 hcd
            cases cd with
            | false =>
              have HR : Hid (X = false) := Lib.hid (by rw [HE2.out]; simp)
              clear HE2
              go_wp2_with fail
              refine (HD.out _).mono ?_
              rintro e3 w3 ⟨rfl, b3⟩
              have HB3 := Lib.hid (HB1.out.trans (b3.mono HB1.out.size))
              clear b3
              go_wp2_with fail
              go_ret
              exact ⟨ret_bool HR.out.symm, HB3.out⟩
            | true =>
              have HR : Hid (X = (!tl && y4)) := Lib.hid (by rw [HE2.out]; simp)
              clear HE2
              go_wp2_with fail
              refine (HD.out _).mono ?_
              rintro e3 w3 ⟨rfl, b3⟩
              have m2 := (b3.cell (p := ⟨w.heap.size, 2, none⟩) (lt_of_at HC1.out)).trans k2
              have n0 := (b3.cell (p := ⟨w.heap.size + 1, 0, none⟩) (lt_of_at HP1.out)).trans p0
              have HB3 := Lib.hid (HB1.out.trans (b3.mono HB1.out.size))
              clear b3 HD
              go_wp2_with fail
              refine (HI4.out _ HB3.out).mono ?_
              rintro e4 w4 ⟨rfl, b4⟩
              have HB4 := Lib.hid (HB3.out.trans (b4.mono HB3.out.size))
              clear b4 HI4
              go_wp2_with fail
              go_ret
              exact ⟨ret_bool HR.out.symm, HB4.out⟩
        · have f4 : (q == 4) = false := by rw [beq_eq_false_iff_ne]; exact q4
          have HR : Hid (X = false) := Lib.hid (by rw [HE.out, if_neg q1, if_neg q2, if_neg q3, if_neg q4]; simp)
          clear HE q1 q2 q3 q4
          go_wp2_with fail
          go_ret
          exact ⟨ret_bool HR.out.symm, HB1.out⟩
end Go.Proofs.YtldllbmbcnipoabGreatDoor.Sp
