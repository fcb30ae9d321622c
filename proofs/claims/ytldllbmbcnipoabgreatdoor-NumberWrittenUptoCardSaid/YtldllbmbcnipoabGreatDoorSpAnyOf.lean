import Derived.Test.YtldllbmbcnipoabGreatDoorPkWT
import Derived.Lib.AsciiSet
namespace Go.Proofs.YtldllbmbcnipoabGreatDoor.Sp
open Go.RowKit
open Go.Proofs.YtldllbmbcnipoabGreatDoor.Tk (S S_of S_list S_size S_toList S_app ret_int eq8 ne8 at_data len_data)
open Go.Proofs.YtldllbmbcnipoabGreatDoor.Cm (calls_at lt_of_at)
set_option linter.unusedVariables false
structure Chs (t : ByteArray) : Prop where
  ascii : ∀ b ∈ t.data.toList, b.toNat < 128
  two : 2 ≤ t.size
  few : t.size ≤ 100
theorem Chs.get {t : ByteArray} (K : Chs t) (j : Nat) (b : UInt8) (h : t.data.toList[j]? = some b) : b.toNat < 128 := K.ascii b (List.mem_of_getElem? h)
theorem Chs.at {t : ByteArray} (K : Chs t) (i : Nat) (h : i < t.size) : t[i].toNat < 128 ∧ ((t[i].toNat : Int) == 65533) = false := by
  have hm : t[i] ∈ t.data.toList := by
    have h1 := at_data t i h
    have : t[i] ∈ t.data.toList.drop i := by rw [h1]; exact List.mem_cons_self ..
    exact List.mem_of_mem_drop this
  have := K.ascii _ hm
  exact ⟨this, by rw [beq_eq_false_iff_ne]; omega⟩
theorem idxO_none {x : UInt8} : ∀ {l : List UInt8}, (∀ b ∈ l, b ≠ x) → Lib.indexByte l x = -1
  | [], _ => rfl
  | b :: r, h => by
    have ih := idxO_none (l := r) (fun c hc => h c (List.mem_cons_of_mem _ hc))
    have hb := h b (List.mem_cons_self ..)
    rw [Lib.indexByte]
    simp [hb, ih]
theorem extO_from (s : ByteArray) (k : Nat) : (s.extract k s.size).data.toList = s.data.toList.drop k := by
  rw [ByteArray.data_extract]
  simp only [Array.toList_extract, List.extract_eq_take_drop]
  exact List.take_of_length_le (by simp)
theorem sliceO_from (x : ByteArray) (m : Nat) (h1 : m ≤ x.size) (hx : x.size ≤ 140737488355328) (w : World) :
    (Instr.slice 9 (.string x) (some (.int .i64 (m : Int))) none none).run Tryz.prog w = .ok (.string (x.extract m x.size)) w := by
  have h4 : (m : Int) ≤ (x.size : Int) := by omega
  have h5 : 0 ≤ (m : Int) := by omega
  go_simp
theorem wideO_no {t s : ByteArray} (K : Chs t) {pos : Nat} (hp : pos < s.size) (ha : 128 ≤ s[pos].toNat) (hno : Lib.NoAny s.data.toList t.data.toList pos) :
    pos + (Utf8.decode s pos).2 ≤ s.size ∧ 1 ≤ (Utf8.decode s pos).2 ∧ Lib.NoAny s.data.toList t.data.toList (pos + (Utf8.decode s pos).2) := by
  have hd := decN_wide (s.size - pos) (s.get! pos).toNat (s.get! (pos + 1)).toNat (s.get! (pos + 2)).toNat (s.get! (pos + 3)).toNat (by omega) (by rw [get_nat s pos hp]; exact ha)
  rw [← Lib.decode_at] at hd
  generalize (Utf8.decode s pos).2 = n at *
  obtain ⟨h1, h2, h3, h4, h5, h6⟩ := hd
  refine ⟨by omega, h1, fun j b hj hb => ?_⟩
  by_cases hlt : j < pos
  · exact hno j b hlt hb
  · have hjs : j < s.size := by omega
    have hbj : s[j] = b := by
      rw [Lib.data_getElem? s j hjs] at hb
      exact Option.some.inj hb
    have h128 : 128 ≤ s[j].toNat := by
      rcases (show j = pos ∨ j = pos + 1 ∨ j = pos + 2 ∨ j = pos + 3 by omega) with rfl | rfl | rfl | rfl
      · exact ha
      · have := h3 (by omega); rw [get_nat s _ hjs] at this; exact this
      · have := h4 (by omega); rw [get_nat s _ hjs] at this; exact this
      · have := h5 (by omega); rw [get_nat s _ hjs] at this; exact this
    rw [hbj] at h128
    cases hc : t.data.toList.contains b with
    | false => rfl
    | true =>
      have hm : b ∈ t.data.toList := by simpa using hc
      have := K.ascii b hm
      omega
set_option maxHeartbeats 3200000 in
set_option maxRecDepth 100000 in
theorem runeWideO_any (s : ByteArray) (K : Chs s) (r : Int) (h : 128 ≤ r) (hr : r ≤ 2147483647) (w : World) :
    Calls Tryz.prog 156 #[.string s, .int .i32 r] w fun e w' => e = .returned (.int .i64 (-1)) ∧ Below w.heap.size w w' := by
  have hsz2 := K.two
  have hsz1 := K.few
  by_cases h65 : r = 65533
  · subst h65
    have HA := Lib.hid K.at
    clear K
    go_enter Tryz.func156, Tryz.ntmps156
    go_wp2_with fail
    go_loopg [5, 6] s.size (fun g _ _ wx => ∃ i : Nat, i + g = s.size ∧ wx = w.iter s i)
    case atStart => exact ⟨0, by omega, rfl⟩
    case round =>
      obtain ⟨i, hig, rfl⟩ := hrel
      cases gk with
      | zero =>
        obtain rfl : i = s.size := by omega
        have hnx := fun ty => run_next_end (P := Tryz.prog) w s s.size ty (by omega)
        go_wp2_with fail
        go_ret
        exact ⟨rfl, (Below.refl _ _).alloc (Nat.le_refl _) _⟩
      | succ g =>
        have hi : i < s.size := by omega
        have hnx := fun ty => run_next_ascii (P := Tryz.prog) w s i ty hi (HA.out i hi).1
        have e1 := (HA.out i hi).2
        go_wp2_with fail
        go_roundg g
        case measure => omega
        case rel => exact ⟨i + 1, by omega, rfl⟩
  · have e65 : (r == 65533) = false := by rw [beq_eq_false_iff_ne]; exact h65
    clear h65
    have HV := Lib.hid (Tryz.utf8_ValidRune r w)
    cases hv : Lib.validRune r with
    | false =>
      rw [hv] at HV
      clear hv
      go_enter Tryz.func156, Tryz.ntmps156
      go_wp2_with fail
      refine HV.out.mono ?_
      rintro e w2 ⟨rfl, hw⟩
      subst hw
      clear HV
      go_wp2_with fail
      go_ret
      exact ⟨rfl, Below.refl _ _⟩
    | true =>
      rw [hv] at HV
      obtain ⟨t, ht, ht2, ht4, htl, ht8⟩ := enc_wide r h (valid_rune hv)
      have HC1 : Hid (∀ (k : Nat) (h : k < s.size), s[k].toNat < 128) := Lib.hid (fun k h => (K.at k h).1)
      have HI2 : Hid (∀ (k : Nat) (x : UInt8), 128 ≤ x.toNat → Lib.indexByte (s.extract k s.size).data.toList x = -1) := Lib.hid (fun k x hx => idxO_none (fun b hb => by
        rw [extO_from] at hb
        have hb := List.mem_of_mem_drop hb
        have : b.toNat < 128 := K.ascii b hb
        intro e; rw [e] at this; omega))
      clear hv K
      go_enter Tryz.func156, Tryz.ntmps156
      go_wp2_with fail
      refine HV.out.mono ?_
      rintro e w2 ⟨rfl, hw⟩
      subst hw
      clear HV
      go_wp2_with fail
      have HI := Lib.hid (fun (k : Nat) (x : UInt8) (w' : World) => Tryz.strings_IndexByte (s.extract k s.size) (x.toNat : Int) w')
      go_step3
      go_wp2_with fail
      clear ht
      obtain ⟨m, hm⟩ : ∃ m : Nat, t.size = m + 1 := ⟨t.size - 1, by omega⟩
      obtain ⟨x, hx⟩ : ∃ x, t[t.size - 1] = x := ⟨_, rfl⟩
      rw [hx] at ht8
      have hx1 : t[m]'(by omega) = x := by rw [← hx]; congr 1; omega
      by_cases hms : m < s.size
      · go_loopw [9, 10] (fun i f wr => i = .int .i64 m ∧ wr = w2) (fun _ _ _ => 0)
        case atStart => exact ⟨by rw [hm]; simp, rfl⟩
        case round =>
          obtain ⟨rfl, rfl⟩ := hrel
          have hi1 : (m : Int) < (s.size : Int) := by omega
          have hs1 := HC1.out m hms
          have hne : ((s[m].toNat : Int) != (x.toNat : Int)) = true := by rw [bne_iff_ne]; omega
          have HJ := Lib.hid (HI.out (m + 1) x)
          have hv := HI2.out (m + 1) x ht8
          have hback : ((x.toNat : Int)).toNat.toUInt8 = x := by simp
          rw [hback] at HJ
          rw [hv] at HJ
          have hsl := fun w => sliceO_from s (m + 1) (by omega) (by omega) w
          rw [show ((m + 1 : Nat) : Int) = (m : Int) + 1 by omega] at hsl
          have hw2 : IntKind.i64.wrap ((m : Int) + 1) = (m : Int) + 1 := by rw [IntKind.wrap_i64]; omega
          clear hx hv hback HI HI2 HC1 hs1
          generalize s.extract (m + 1) s.size = se at *
          go_wp2_with fail
          go_step3
          go_wp2_with fail
          go_quiet (fail)
          go_wp2_with fail
          go_quiet ((go_at_call 114; refine (HJ.out _).mono ?_; rintro e w'' ⟨he, hw⟩; exact ⟨he, _, hw⟩))
          go_wp2_with fail
          rw [Exit.noGoto_ret]
          go_wp2_with fail
          rw [Exit.noGoto_ret]
          go_wp2_with fail
          go_ret
          exact ⟨rfl, below_drewN (Below.refl _ _) _⟩
      · go_loopw [9, 10] (fun i f wr => i = .int .i64 m ∧ wr = w2) (fun _ _ _ => 0)
        case atStart => exact ⟨by rw [hm]; simp, rfl⟩
        case round =>
          obtain ⟨rfl, rfl⟩ := hrel
          have hi1 : ¬ ((m : Int) < (s.size : Int)) := by omega
          clear HI HI2 HC1
          go_wp2_with fail
          go_ret
          exact ⟨rfl, Below.refl _ _⟩
set_option maxHeartbeats 6400000 in
set_option maxRecDepth 100000 in
theorem indexAnyO_any (t : ByteArray) (K : Chs t) (s : ByteArray) (hs : s.size ≤ 140737488355328) (w : World) :
    Calls Tryz.prog 137 #[.string s, .string t] w fun e w' => e = .returned (.int .i64 (Lib.indexAny s.data.toList t.data.toList)) ∧ Below w.heap.size w w' := by
  have hsz2 := K.two
  have hsz1 := K.few
  have hemp : (t.toList == ([] : List UInt8)) = false := by
    rw [Lib.toList_data]
    cases hd : t.data.toList with
    | nil => have : t.data.toList.length = 0 := by rw [hd]; rfl
             rw [len_data] at this; omega
    | cons _ _ => rfl
  have hn1 : ((t.size : Int) == 1) = false := beq_eq_false_iff_ne.2 (by omega)
  have HU := Lib.hid (fun w => Tryz.strings_shouldUseASCIISet (s.size : Int) w)
  by_cases h8 : s.size ≤ 8
  · have h8z : decide ((8 : Int) < (s.size : Int)) = false := decide_eq_false (by omega)
    rw [h8z] at HU
    have HR := Lib.hid (fun r h hr w => runeWideO_any t K r h hr w)
    have HA := Lib.hid (fun r w h0 h1 => Tryz.strings_IndexRune_ascii t r w h0 h1)
    have HCo := Lib.hid (fun x => Lib.contains_iff_indexByte t.data.toList x)
    have HW := Lib.hid (fun pos (hp : pos < s.size) ha hno => wideO_no (s := s) K (pos := pos) hp ha hno)
    clear K
    generalize t.data.toList = cl at *
    go_enter Tryz.func137, Tryz.ntmps137
    go_wp2_with fail
    refine (HU.out _).mono ?_
    rintro e w2 ⟨rfl, hw⟩
    subst hw
    clear HU
    go_wp2_with fail
    go_loopg [9, 10] s.size (fun g _ _ wx => ∃ i : Nat, i ≤ s.size ∧ s.size - i ≤ g ∧ wx.heap[w2.heap.size]? = some (.stringIter s i) ∧ Below w2.heap.size w2 wx ∧ Lib.NoAny s.data.toList cl i)
    case atStart => exact ⟨0, by omega, by omega, World.iter_heap _ _ _, (Below.refl _ _).alloc (Nat.le_refl _) _, Lib.NoAny.zero _ _⟩
    case round =>
      obtain ⟨i, hi, hg, hIt, hb, hno⟩ := hrel
      have HN := Lib.hid hno
      have HB := Lib.hid hb
      by_cases hlt : i < s.size
      · obtain ⟨g, rfl⟩ : ∃ g, gk = g + 1 := ⟨gk - 1, by omega⟩
        have hnx : ∀ ty, (Instr.next (.pointer (some ⟨w2.heap.size, 0, none⟩)) true ty).run Tryz.prog wr = _ := fun ty => Lib.run_next_any_at wr w2.heap.size s i ty hIt hlt
        obtain ⟨x, hx⟩ : ∃ x : UInt8, s[i] = x := ⟨_, rfl⟩
        have Hx : Hid (s.data.toList[i]? = some x) := Lib.hid (by rw [← hx]; exact Lib.data_getElem? s i hlt)
        by_cases h128 : x.toNat < 128
        · have hdec := decode_ascii s i hlt (by rw [hx]; exact h128)
          rw [hdec, hx] at hnx
          have hit1 := Lib.hid (Lib.iterAt_heap wr w2.heap.size s i (i + 1) hIt)
          have hbw1 := Lib.hid (Lib.below_iterAt hb (k := w2.heap.size) (Nat.le_refl _) s (i + 1))
          have hA1 := Lib.hid (HA.out (x.toNat : Int) (wr.iterAt w2.heap.size s (i + 1)) (by omega) (by omega))
          have hback : ((x.toNat : Int)).toNat.toUInt8 = x := by simp
          rw [hback] at hA1
          have hcon := HCo.out x
          clear hb hno hx hdec hIt hback HA HR HW HCo
          generalize wr.iterAt w2.heap.size s (i + 1) = w3 at *
          generalize Lib.indexByte cl x = ix at *
          cases hc : cl.contains x with
          | true =>
            have hge : 0 ≤ ix := of_decide_eq_true (by rw [← hcon, hc])
            have HF := Lib.hid (Lib.indexAny_hit HN.out Hx.out hc)
            clear hcon hc
            go_wp2_with fail
            refine hA1.out.mono ?_
            rintro e w4 ⟨rfl, hw⟩
            subst hw
            go_wp2_with fail
            go_ret
            exact ⟨ret_int HF.out.symm, hbw1.out⟩
          | false =>
            have hge : ¬ 0 ≤ ix := of_decide_eq_false (by rw [← hcon, hc])
            have HF := Lib.hid (HN.out.succ Hx.out hc)
            clear hcon hc
            go_wp2_with fail
            refine hA1.out.mono ?_
            rintro e w4 ⟨rfl, hw⟩
            subst hw
            go_wp2_with fail
            go_roundg g
            case measure => omega
            case rel => exact ⟨i + 1, by omega, by omega, hit1.out, hbw1.out, HF.out⟩
        · have hge : 128 ≤ s[i].toNat := by rw [hx]; omega
          obtain ⟨hr1, hr2⟩ := decode_high s i hlt hge
          have hr3 := decode_le s i
          obtain ⟨hn1', hn2, hn3⟩ := HW.out i hlt hge hno
          obtain ⟨r, n, hrn⟩ : ∃ r n, Utf8.decode s i = (r, n) := ⟨_, _, rfl⟩
          rw [hrn] at hnx hr1 hr2 hr3 hn1' hn2 hn3
          simp only at hnx hr1 hr2 hr3 hn1' hn2 hn3
          have HF := Lib.hid hn3
          have hit1 := Lib.hid (Lib.iterAt_heap wr w2.heap.size s i (i + n) hIt)
          have hbw1 := Lib.hid (Lib.below_iterAt hb (k := w2.heap.size) (Nat.le_refl _) s (i + n))
          have hA1 := Lib.hid (HR.out (r : Int) (by omega) (by omega) (wr.iterAt w2.heap.size s (i + n)))
          clear hb hno hx hIt HA HR HW HCo hrn hge hn3
          generalize wr.iterAt w2.heap.size s (i + n) = w3 at *
          go_wp2_with fail
          refine hA1.out.mono ?_
          rintro e w4 ⟨rfl, hb4⟩
          have hit4 := Lib.hid ((hb4.block _ (lt_of_at hit1.out)).trans hit1.out)
          have hbw4 := Lib.hid (hbw1.out.trans (hb4.mono hbw1.out.size))
          clear hb4
          go_wp2_with fail
          go_roundg g
          case measure => omega
          case rel => exact ⟨i + n, hn1', by omega, hit4.out, hbw4.out, HF.out⟩
      · have hnx := fun ty => Lib.run_next_end_at (P := Tryz.prog) wr w2.heap.size s i ty hIt hlt
        have hsz : i = s.size := by omega
        have HF : Hid (Lib.indexAny s.data.toList cl = -1) := Lib.hid (Lib.indexAny_none (by rw [len_data, ← hsz]; exact HN.out))
        clear hb hno
        go_wp2_with fail
        go_ret
        exact ⟨ret_int HF.out.symm, HB.out⟩
  · have h8z : decide ((8 : Int) < (s.size : Int)) = true := decide_eq_true (by omega)
    rw [h8z] at HU
    have HM := Lib.hid (fun w => Tryz.strings_makeASCIISet (zero_of_info set_info).1 t w (by omega) K.get)
    have HK := Lib.hid (fun b x v w hc => Tryz.asciiSet_contains b x v w hc)
    have hsc := fun (w0 : World) => run_storeCells_new (P := Tryz.prog) w0 186 (Array.replicate 256 (.bool false)) (Lib.setCells t.data.toList) (by rw [Lib.setCells_size]; kernel_rfl) (by rw [Lib.setCells_size]; rfl) (Lib.setCells_one _)
    have hCs : (Lib.setCells t.data.toList).size = 256 := Lib.setCells_size _
    rw [show Array.replicate 256 (Value.bool false) = Tryz.zeroCells186 from by kernel_rfl] at hsc
    have HS : Hid (∀ (w0 : World) (x : UInt8), (w0.alloc (.cells (Lib.setCells t.data.toList) 186)).cell? ⟨w0.heap.size, x.toNat, none⟩ = some (.bool (t.data.toList.contains x))) := Lib.hid (fun w0 x => by rw [World.cell?_alloc_new, Lib.setCells_at])
    clear K
    generalize Lib.setCells t.data.toList = C at *
    generalize t.data.toList = cl at *
    go_enter Tryz.func137, Tryz.ntmps137
    go_wp2_with fail
    refine (HU.out _).mono ?_
    rintro e w2 ⟨rfl, hw⟩
    subst hw
    clear HU
    go_wp2_with fail
    refine (HM.out _).mono ?_
    rintro e w3 ⟨rfl, hw⟩
    have HB3 : Hid (Below w2.heap.size w2 w3) := Lib.hid (by rw [hw]; exact (Below.refl _ _).alloc (Nat.le_refl _) _)
    clear hw HM
    go_wp2_with fail
    have HB4 := Lib.hid (HB3.out.trans (((Below.refl w3.heap.size w3).alloc (Nat.le_refl _) (.cells C 186)).mono HB3.out.size))
    have HS3 := Lib.hid (HS.out w3)
    clear HS HB3 hsc hCs
    generalize w3.alloc (.cells C 186) = w4 at *
    generalize w3.heap.size = b3 at *
    go_loopg [8] s.size (fun g s8 wx => ∃ i : Nat, i + g = s.size ∧ s8 = .int .i64 i ∧ wx = w4 ∧ Hid (Lib.NoAny s.data.toList cl i))
    case atStart => exact ⟨0, by omega, rfl, rfl, Lib.hid (Lib.NoAny.zero _ _)⟩
    case round =>
      obtain ⟨i, hig, rfl, rfl, HN⟩ := hrel
      cases gk with
      | zero =>
        obtain rfl : i = s.size := by omega
        have hiz : ¬ ((s.size : Int) < (s.size : Int)) := by omega
        have HF : Hid (Lib.indexAny s.data.toList cl = -1) := Lib.hid (Lib.indexAny_none (by rw [len_data]; exact HN.out))
        clear HN hig
        go_wp2_with fail
        go_ret
        exact ⟨ret_int HF.out.symm, HB4.out⟩
      | succ g =>
        have hi : i < s.size := by omega
        have hiz : (i : Int) < (s.size : Int) := by omega
        obtain ⟨x, hx⟩ : ∃ x : UInt8, s[i]'hi = x := ⟨_, rfl⟩
        have Hx : Hid (s.data.toList[i]? = some x) := Lib.hid (by rw [← hx]; exact Lib.data_getElem? s i hi)
        have HKx := Lib.hid (HK.out b3 x _ wr (HS3.out x))
        cases hin : cl.contains x with
        | true =>
          rw [hin] at HKx
          have HF := Lib.hid (Lib.indexAny_hit HN.out Hx.out hin)
          clear hin
          go_wp2_with fail
          refine HKx.out.mono ?_
          rintro e w5 ⟨rfl, hw⟩
          subst hw
          go_wp2_with fail
          go_ret
          exact ⟨ret_int HF.out.symm, HB4.out⟩
        | false =>
          rw [hin] at HKx
          have HF := Lib.hid (HN.out.succ Hx.out hin)
          clear hin
          go_wp2_with fail
          refine HKx.out.mono ?_
          rintro e w5 ⟨rfl, hw⟩
          subst hw
          go_wp2_with fail
          go_roundg g
          case measure => omega
          case rel => exact ⟨i + 1, by omega, by go_num, rfl, HF⟩
theorem containsO_any (t : ByteArray) (K : Chs t) (s : ByteArray) (hs : s.size ≤ 140737488355328) (w : World) :
    Calls Tryz.prog 115 #[.string s, .string t] w (OkAns w (Lib.containsAny s.data.toList t.data.toList)) := by
  have HI := Lib.hid (indexAnyO_any t K s hs w)
  have HR : Hid (decide (0 ≤ Lib.indexAny s.data.toList t.data.toList) = Lib.containsAny s.data.toList t.data.toList) := Lib.hid rfl
  generalize Lib.indexAny s.data.toList t.data.toList = ix at *
  generalize Lib.containsAny s.data.toList t.data.toList = y at *
  clear K
  go_enter Tryz.func115, Tryz.ntmps115
  go_wp2_with fail
  refine HI.out.mono ?_
  rintro e w2 ⟨rfl, hb⟩
  have HB := Lib.hid hb
  clear hb HI
  go_wp2_with fail
  go_ret
  exact ⟨ret_bool HR.out, HB.out⟩
end Go.Proofs.YtldllbmbcnipoabGreatDoor.Sp
