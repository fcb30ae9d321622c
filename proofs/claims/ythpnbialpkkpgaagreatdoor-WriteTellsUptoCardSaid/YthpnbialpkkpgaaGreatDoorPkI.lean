import Derived.Test.YthpnbialpkkpgaaGreatDoorPkE
import Derived.Test.YthpnbialpkkpgaaGreatDoorPkD
import Derived.Test.YthpnbialpkkpgaaGreatDoorShelf
import Derived.Test.YthpnbialpkkpgaaGreatDoorPkF
import Derived.Lib.IndexAny
namespace Go.Proofs.YthpnbialpkkpgaaGreatDoor.Sp
open Go.RowKit
open Go.Proofs.YthpnbialpkkpgaaGreatDoor.Tk (S S_of S_list S_size S_toList S_app ret_int)
open Go.Proofs.YthpnbialpkkpgaaGreatDoor.Cm (calls_at alloc_new alloc_at cell_at lt_of_at)
set_option linter.unusedVariables false
structure Sink (kf : Nat) (pv : Value) (B N : Nat) (I : List UInt8 → World → Prop) : Prop where
  enters : ∀ args w, (callFunc kf args).run Tryz.prog w = .ok (.enter kf args) w
  alloc : ∀ p w o, I p w → I p (w.alloc o)
  call : ∀ p s w, I p w → B ≤ w.heap.size → p.length + s.length ≤ N → Calls Tryz.prog kf #[.string (S s), pv] w fun e w' => e = .returned (.tuple #[]) ∧ Below B w w' ∧ I (p ++ s) w' ∧ ∀ (k : Nat) (c : Array Value), w.heap[k]? = some (Obj.cells c 82 (0, 0)) → w'.heap[k]? = some (Obj.cells c 82 (0, 0))
def ReadAns (w0 : World) (I : List UInt8 → World → Prop) (p : List UInt8) (e : Ending) (w' : World) : Prop := e = .returned (.tuple #[]) ∧ Below w0.heap.size w0 w' ∧ I p w'
set_option maxHeartbeats 6400000 in
set_option maxRecDepth 100000 in
theorem read_any (kf : Nat) (pv : Value) (N : Nat) (I : List UInt8 → World → Prop) (w0 : World) (K : Sink kf pv w0.heap.size N I) (m : Nat) : ∀ (l : List Sp) (v : Value) (w : World) (p : List UInt8), totAll l ≤ m → Tr w0 v l → Below w0.heap.size w0 w → I p w → p.length + (plAll l).length ≤ N →
    Calls Tryz.prog 178 #[v, .func (.func kf) #[] #[pv]] w (ReadAns w0 I (p ++ plAll l)) := by
  induction m using Nat.strongRecOn with
  | ind m ih =>
    intro l v w p hm ht hbw hi hN
    have T := Lib.hid ht
    obtain ⟨ao, ca, rfl⟩ := ht.len
    have hlen := ht.short
    have e1f := K.enters
    have HK := Lib.hid K
    have HIH : Hid (∀ k (hk : k < l.length) (v' : Value) (w' : World) (q : List UInt8), Tr w0 v' l[k].kids → Below w0.heap.size w0 w' → I q w' → q.length + (plAll l[k].kids).length ≤ N → Calls Tryz.prog 178 #[v', .func (.func kf) #[] #[pv]] w' (ReadAns w0 I (q ++ plAll l[k].kids))) := Lib.hid (fun k hk v' w' q t b i n =>
      ih (totAll l[k].kids) (Nat.lt_of_lt_of_le (totAll_kids (List.getElem_mem hk)) hm) l[k].kids v' w' q (Nat.le_refl _) t b i n)
    have H0 : Hid (p ++ plAll l = p ++ plAll (l.drop 0)) := Lib.hid (by rw [List.drop_zero])
    have HN0 : Hid ((p ++ plAll l).length ≤ N) := Lib.hid (by rw [List.length_append]; exact hN)
    obtain ⟨X, hX⟩ : ∃ X, p ++ plAll l = X := ⟨_, rfl⟩
    rw [hX] at H0 HN0
    rw [hX]
    have HB0 := Lib.hid hbw
    have HI0 := Lib.hid hi
    clear ih ht hm hX hbw hi hN K
    go_enter Tryz.func178, Tryz.ntmps178
    go_wp2_with fail
    go_loopw [8] (fun i wr => ∃ (k : Nat) (q : List UInt8), k ≤ l.length ∧ i = .int .i64 k ∧ Hid (Below w0.heap.size w0 wr) ∧ Hid (I q wr) ∧ Hid (X = q ++ plAll (l.drop k))) (fun i _ => l.length - (intOf i).toNat)
    case atStart => exact ⟨0, p, Nat.zero_le _, rfl, HB0, HI0, H0⟩
    case round =>
      clear H0 HB0 HI0
      obtain ⟨k, q, hk, rfl, HB, HI, HN⟩ := hrel
      by_cases hlt : k < l.length
      · have hnx := HN.out
        rw [drop_cons l k hlt, plAll_cons, plOne_eq] at hnx
        have hi1 : (k : Int) < (l.length : Int) := by omega
        obtain ⟨b, o, ak, ck, rfl, hb, hC⟩ := T.out.at k hlt
        have c0 := (HB.out.cell (p := ⟨b, o + k * 3, none⟩) hb).trans hC.kind
        have c1 := (HB.out.cell (p := ⟨b, o + k * 3 + 1, none⟩) hb).trans hC.s
        have c2 := (HB.out.cell (p := ⟨b, o + k * 3 + 2, none⟩) hb).trans hC.kids
        have HC := Lib.hid (fun w' q' => HIH.out k hlt _ w' q' hC.tr)
        have HQ := Lib.hid hnx
        have hall := congrArg List.length hnx
        have hxn := HN0.out
        simp only [List.length_append] at hall
        clear hnx HN hC
        generalize l[k].kids.length = kn at *
        generalize plAll l[k].kids = y at *
        generalize l[k].kind = z at *
        generalize l[k].s = s at *
        have B1 : Below w0.heap.size w0 (wr.alloc (.cells #[.int .i64 z, .string (S s), .slice ak kn ck] 82)) := HB.out.alloc HB.out.size _
        have HB1 := Lib.hid B1
        have HI1 := Lib.hid (HK.out.alloc q wr (.cells #[.int .i64 z, .string (S s), .slice ak kn ck] 82) HI.out)
        have HA := Lib.hid (alloc_new wr (.cells #[.int .i64 z, .string (S s), .slice ak kn ck] 82))
        clear B1 HB HI
        by_cases hz : z = 1 ∨ z = 2
        · rw [if_pos hz] at hall
          have HQ2 : Hid (X = ((q ++ s) ++ y) ++ plAll (l.drop (k + 1))) := Lib.hid (by rw [HQ.out, if_pos hz]; simp)
          have HW := Lib.hid (HK.out.call q s _ HI1.out HB1.out.size (by omega))
          have hlen2 : (q ++ s).length + y.length ≤ N := by rw [List.length_append]; omega
          clear HQ hall hxn
          go_upto_region 3 with fail
          generalize wr.alloc (.cells #[.int .i64 z, .string (S s), .slice ak kn ck] 82) = w1 at *
          have a0 : w1.cell? ⟨wr.heap.size, 0, none⟩ = some (.int .i64 z) := cell_at HA.out 0
          have a1 : w1.cell? ⟨wr.heap.size, 1, none⟩ = some (.string (S s)) := cell_at HA.out 1
          have a2 : w1.cell? ⟨wr.heap.size, 2, none⟩ = some (.slice ak kn ck) := cell_at HA.out 2
          rcases hz with hz | hz
          · have e1 : (z == 1) = true := by rw [hz]; rfl
            clear hz
            go_wp2_with fail
            refine HW.out.mono ?_
            rintro e w2 ⟨rfl, hb2, hi2, hk2⟩
            have n2 : w2.cell? ⟨wr.heap.size, 2, none⟩ = some (.slice ak kn ck) := cell_at (hk2 _ _ HA.out) 2
            have HB2 := Lib.hid (HB1.out.trans hb2)
            have HC1 := Lib.hid (HC.out w2 (q ++ s) HB2.out hi2 hlen2)
            clear hb2 hi2 hk2 HW HC
            go_wp2_with fail
            refine HC1.out.mono ?_
            rintro e w3 ⟨rfl, hb3, hi3⟩
            have HB3 := Lib.hid hb3
            have HI3 := Lib.hid hi3
            clear hb3 hi3 HC1
            go_wp2_with fail
            go_roundw
            case rel => exact ⟨k + 1, (q ++ s) ++ y, by omega, by go_num, HB3, HI3, HQ2⟩
            case measure => simp [intOf] <;> omega
          · have e1 : (z == 1) = false := by rw [hz]; rfl
            have e2 : (z == 2) = true := by rw [hz]; rfl
            clear hz
            go_wp2_with fail
            refine HW.out.mono ?_
            rintro e w2 ⟨rfl, hb2, hi2, hk2⟩
            have n2 : w2.cell? ⟨wr.heap.size, 2, none⟩ = some (.slice ak kn ck) := cell_at (hk2 _ _ HA.out) 2
            have HB2 := Lib.hid (HB1.out.trans hb2)
            have HC1 := Lib.hid (HC.out w2 (q ++ s) HB2.out hi2 hlen2)
            clear hb2 hi2 hk2 HW HC
            go_wp2_with fail
            refine HC1.out.mono ?_
            rintro e w3 ⟨rfl, hb3, hi3⟩
            have HB3 := Lib.hid hb3
            have HI3 := Lib.hid hi3
            clear hb3 hi3 HC1
            go_wp2_with fail
            go_roundw
            case rel => exact ⟨k + 1, (q ++ s) ++ y, by omega, by go_num, HB3, HI3, HQ2⟩
            case measure => simp [intOf] <;> omega
        · rw [if_neg hz] at hall
          have HQ2 : Hid (X = (q ++ y) ++ plAll (l.drop (k + 1))) := Lib.hid (by rw [HQ.out, if_neg hz]; simp)
          have e1 : (z == 1) = false := by rw [beq_eq_false_iff_ne]; omega
          have e2 : (z == 2) = false := by rw [beq_eq_false_iff_ne]; omega
          have HC1 := Lib.hid (HC.out _ q HB1.out HI1.out (by omega))
          clear HQ hall hxn hz HC
          go_upto_region 3 with fail
          generalize wr.alloc (.cells #[.int .i64 z, .string (S s), .slice ak kn ck] 82) = w1 at *
          have a0 : w1.cell? ⟨wr.heap.size, 0, none⟩ = some (.int .i64 z) := cell_at HA.out 0
          have a1 : w1.cell? ⟨wr.heap.size, 1, none⟩ = some (.string (S s)) := cell_at HA.out 1
          have a2 : w1.cell? ⟨wr.heap.size, 2, none⟩ = some (.slice ak kn ck) := cell_at HA.out 2
          go_wp2_with fail
          refine HC1.out.mono ?_
          rintro e w2 ⟨rfl, hb2, hi2⟩
          have HB2 := Lib.hid hb2
          have HI2 := Lib.hid hi2
          clear hb2 hi2 HC1
          go_wp2_with fail
          go_roundw
          case rel => exact ⟨k + 1, q ++ y, by omega, by go_num, HB2, HI2, HQ2⟩
          case measure => simp [intOf] <;> omega
      · obtain rfl : k = l.length := by omega
        have hnx := HN.out
        rw [List.drop_length] at hnx
        have HR : Hid (X = q) := Lib.hid (by rw [hnx]; unfold plAll; simp)
        clear hnx HN hlt
        go_wp2_with fail
        go_end0
        exact ⟨rfl, HB.out, by rw [HR.out]; exact HI.out⟩
end Go.Proofs.YthpnbialpkkpgaaGreatDoor.Sp
namespace Go.Proofs.YthpnbialpkkpgaaGreatDoor.Sp
open Go.RowKit
open Go.Proofs.YthpnbialpkkpgaaGreatDoor.Tk (S S_of S_list S_size S_toList S_app ret_int eq8 ne8 at_data len_data)
set_option linter.unusedVariables false
theorem slice_fromS (x : ByteArray) (m : Nat) (h1 : m ≤ x.size) (hx : x.size ≤ 140737488355328) (w : World) :
    (Instr.slice 9 (.string x) (some (.int .i64 (m : Int))) none none).run Tryz.prog w = .ok (.string (x.extract m x.size)) w := by
  have h4 : (m : Int) ≤ (x.size : Int) := by omega
  have h5 : 0 ≤ (m : Int) := by omega
  go_simp
theorem ext_from (s : ByteArray) (k : Nat) : (s.extract k s.size).data.toList = s.data.toList.drop k := by
  rw [ext_list]
  exact List.take_of_length_le (by rw [List.length_drop, len_data]; exact Nat.le_refl _)
def oneS (c : UInt8) : ByteArray := ⟨#[c]⟩
theorem one_list (c : UInt8) : (oneS c).toList = [c] := by rw [Lib.toList_data]; rfl
theorem beq_one (s : ByteArray) (c : UInt8) : (s.toList == (oneS c).toList) = decide (s.data.toList = [c]) := by
  rw [one_list, Lib.toList_data, Bool.eq_iff_iff, beq_iff_eq, decide_eq_true_iff]
theorem prefix0_any (s : ByteArray) (c : UInt8) (hs : s.size ≤ 140737488355328) (w : World) :
    Calls Tryz.prog 105 #[.string s, .string (oneS c)] w fun e w' => e = .returned (.bool (decide (s.data.toList.head? = some c))) ∧ w = w' := by
  have hz : (oneS c).size = 1 := rfl
  by_cases h1 : 1 ≤ s.size
  · have e1 := beq_one (s.extract 0 1) c
    have e2 : decide ((s.extract 0 1).data.toList = [c]) = decide (s.data.toList.head? = some c) := by
      have := at_data s 0 h1
      rw [List.drop_zero] at this
      rw [ext_list, List.drop_zero, this]
      simp
    rw [e2] at e1
    generalize decide (s.data.toList.head? = some c) = B at *
    have g1 : (1 : Int) ≤ (s.size : Int) := by omega
    generalize oneS c = p at *
    go_enter Tryz.func105, Tryz.ntmps105
    go_wp2_with fail
    go_ret
    exact ⟨by first | rfl | rw [e1], rfl⟩
  · have HR : Hid (decide (s.data.toList.head? = some c) = false) := Lib.hid (by
      have := drop_all s 0 (by omega)
      rw [List.drop_zero] at this
      rw [this]; rfl)
    rw [HR.out]
    have g1 : ¬ (1 : Int) ≤ (s.size : Int) := by omega
    generalize oneS c = p at *
    go_enter Tryz.func105, Tryz.ntmps105
    go_wp2_with fail
    go_ret
    exact ⟨rfl, rfl⟩
theorem prefix_any (s : ByteArray) (c : UInt8) (hs : s.size ≤ 140737488355328) (w : World) :
    Calls Tryz.prog 72 #[.string s, .string (oneS c)] w fun e w' => e = .returned (.bool (decide (s.data.toList.head? = some c))) ∧ w = w' := by
  have H := Lib.hid (prefix0_any s c hs w)
  generalize decide (s.data.toList.head? = some c) = B at *
  generalize oneS c = p at *
  go_enter Tryz.func72, Tryz.ntmps72
  go_wp2_with fail
  refine H.out.mono ?_
  rintro e w' ⟨rfl, rfl⟩
  go_wp2_with fail
  go_ret
  exact ⟨rfl, rfl⟩
theorem suffix0_any (s : ByteArray) (c : UInt8) (hs : s.size ≤ 140737488355328) (w : World) :
    Calls Tryz.prog 242 #[.string s, .string (oneS c)] w fun e w' => e = .returned (.bool (decide (s.data.toList.getLast? = some c))) ∧ w = w' := by
  have hz : (oneS c).size = 1 := rfl
  by_cases h1 : 1 ≤ s.size
  · have e1 := beq_one (s.extract (s.size - 1) s.size) c
    have e2 : decide ((s.extract (s.size - 1) s.size).data.toList = [c]) = decide (s.data.toList.getLast? = some c) := by
      rw [last_data s (by omega), ext_from, at_data s (s.size - 1) (by omega), drop_all s (s.size - 1 + 1) (by omega)]
      simp
    rw [e2] at e1
    generalize decide (s.data.toList.getLast? = some c) = B at *
    have g1 : (1 : Int) ≤ (s.size : Int) := by omega
    have g2 : (s.size : Int) - 1 = ((s.size - 1 : Nat) : Int) := by omega
    have hsl := fun w => slice_fromS s (s.size - 1) (by omega) hs w
    rw [← g2] at hsl
    generalize oneS c = p at *
    go_enter Tryz.func242, Tryz.ntmps242
    go_wp2_with fail
    go_ret
    exact ⟨by first | rfl | rw [e1], rfl⟩
  · have HR : Hid (decide (s.data.toList.getLast? = some c) = false) := Lib.hid (by
      have := drop_all s 0 (by omega)
      rw [List.drop_zero] at this
      rw [this]; rfl)
    rw [HR.out]
    have g1 : ¬ (1 : Int) ≤ (s.size : Int) := by omega
    generalize oneS c = p at *
    go_enter Tryz.func242, Tryz.ntmps242
    go_wp2_with fail
    go_ret
    exact ⟨rfl, rfl⟩
theorem suffix_any (s : ByteArray) (c : UInt8) (hs : s.size ≤ 140737488355328) (w : World) :
    Calls Tryz.prog 232 #[.string s, .string (oneS c)] w fun e w' => e = .returned (.bool (decide (s.data.toList.getLast? = some c))) ∧ w = w' := by
  have H := Lib.hid (suffix0_any s c hs w)
  generalize decide (s.data.toList.getLast? = some c) = B at *
  generalize oneS c = p at *
  go_enter Tryz.func232, Tryz.ntmps232
  go_wp2_with fail
  refine H.out.mono ?_
  rintro e w' ⟨rfl, rfl⟩
  go_wp2_with fail
  go_ret
  exact ⟨rfl, rfl⟩
end Go.Proofs.YthpnbialpkkpgaaGreatDoor.Sp
namespace Go.Proofs.YthpnbialpkkpgaaGreatDoor.Sp
open Go.RowKit
open Go.Proofs.YthpnbialpkkpgaaGreatDoor.Tk (S S_of S_list S_size S_toList S_app ret_int eq8 ne8 at_data len_data)
open Go.Proofs.YthpnbialpkkpgaaGreatDoor.Cm (calls_at)
open Go.Proofs.YthpnbialpkkpgaaGreatDoor.Utf (chk goesAt goesAt_end goesAt_step nxt nx bt bt_eq ln zeroB)
set_option linter.unusedVariables false
theorem nxt_ascii (t : ByteArray) (k : Nat) (h : k < t.size) (hb : t[k].toNat ≤ 127) : (nxt t k).2 = 1 := by
  have h0 : bt t (k + 0) ≤ 127 := by rw [Nat.add_zero, bt_eq t k h]; exact hb
  have hl : ln (bt t (k + 0)) = 1 := by unfold ln; rw [if_pos h0]
  unfold nxt nx
  simp only []
  rw [hl]
  rw [if_neg (by omega), if_pos ⟨rfl, rfl⟩]
theorem goes_ascii (t : ByteArray) (h : ∀ k (hk : k < t.size), t[k].toNat ≤ 127) : ∀ n k, t.size - k ≤ n → goesAt t k = true
  | 0, k, hn => goesAt_end t k (by omega)
  | n + 1, k, hn => by
    by_cases hk : k < t.size
    · have h1 := nxt_ascii t k hk (h k hk)
      have h2 := goesAt_step t k hk (by omega)
      rw [h1] at h2
      rw [← h2]
      exact goes_ascii t h n (k + 1) (by omega)
    · exact goesAt_end t k (by omega)
theorem chk_ascii (t : ByteArray) (hs : t.size ≤ 1048576) (h : ∀ k (hk : k < t.size), 1 ≤ t[k].toNat ∧ t[k].toNat ≤ 127) : chk t = 0 := by
  have hz : zeroB t = false := by
    unfold zeroB
    apply decide_eq_false
    intro hm
    obtain ⟨i, hi, he⟩ := List.getElem_of_mem hm
    have hi' : i < t.size := by simpa using hi
    have e1 : t.data.toList[i] = t[i] := rfl
    have := (h i hi').1
    rw [← e1, he] at this
    simp at this
  unfold chk
  rw [if_neg (by omega), hz, goes_ascii t (fun k hk => (h k hk).2) t.size 0 (by omega)]
  rfl
theorem dc_range {c : UInt8} (h : dcB c = true) : 1 ≤ c.toNat ∧ c.toNat ≤ 127 := by
  unfold dcB at h
  rw [Bool.or_eq_true] at h
  rcases h with h | h
  · unfold alB at h
    simp only [Bool.or_eq_true, Bool.and_eq_true, decide_eq_true_eq] at h
    omega
  · simp only [marksL, List.any_cons, List.any_nil, Bool.or_eq_true, decide_eq_true_eq, Bool.or_false] at h
    rcases h with rfl | rfl | rfl | rfl | rfl | rfl | rfl | rfl | rfl <;> decide
theorem ck_nil : ckB [] = true := by decide +kernel
end Go.Proofs.YthpnbialpkkpgaaGreatDoor.Sp
namespace Go.Proofs.YthpnbialpkkpgaaGreatDoor.Sp
open Go.RowKit
open Go.Proofs.YthpnbialpkkpgaaGreatDoor.Tk (S S_of S_list S_size S_toList S_app ret_int eq8 ne8 at_data len_data)
open Go.Proofs.YthpnbialpkkpgaaGreatDoor.Cm (calls_at)
open Go.Proofs.YthpnbialpkkpgaaGreatDoor.Utf (chk)
set_option linter.unusedVariables false
theorem beq_dec (x y : Int) : (x == y) = decide (x = y) := by rw [Bool.eq_iff_iff, beq_iff_eq, decide_eq_true_iff]
theorem check_row (t : ByteArray) (w : World) (hs : t.size ≤ 140737488355328) :
    Calls Tryz.prog 35 #[.slice (some ⟨w.heap.size, 0, none⟩) t.size (grownCap w t.size 0 5)] (w.alloc (Obj.cells (bytesRow t (grownCap w t.size 0 5)) 5 ((bytesRow t (grownCap w t.size 0 5)).size, (bytesRow t (grownCap w t.size 0 5)).size + 1))).drew
      fun e w' => e = .returned (.int .i64 (chk t)) ∧ Below w.heap.size w w' := by
  have hB : Lib.Bytes (w.alloc (Obj.cells (bytesRow t (grownCap w t.size 0 5)) 5 ((bytesRow t (grownCap w t.size 0 5)).size, (bytesRow t (grownCap w t.size 0 5)).size + 1))).drew w.heap.size 0 t := Go.Proofs.YthpnbialpkkpgaaGreatDoor.Utf.bytes_row w t _ _ _
  refine (Go.Proofs.YthpnbialpkkpgaaGreatDoor.Utf.check_any t _ _ _ hB (by unfold maxLen; omega)).mono ?_
  rintro e w3 ⟨rfl, rfl⟩
  exact ⟨rfl, ((Below.refl _ _).alloc (Nat.le_refl _) _).drew⟩
def ctB (s : ByteArray) : Bool := decide (chk s = 0)
theorem ckB_S (s : List UInt8) : ckB s = ctB (S s) := rfl
theorem isText_any (s : ByteArray) (hs : s.size ≤ 140737488355328) (w : World) :
    Calls Tryz.prog 111 #[.string s] w (OkAns w (ctB s)) := by
  have hca := fun (w : World) (t : ByteArray) => run_bytes_of_string (P := Tryz.prog) w 9 59 5 t Tryz.underlying9 Tryz.underlying59 Tryz.underlying5
  have HC := Lib.hid (check_row s w hs)
  have HR : Hid ((chk s == 0) = ctB s) := Lib.hid (beq_dec _ _)
  generalize chk s = c at *
  go_enter Tryz.func111, Tryz.ntmps111
  go_wp2_with fail
  refine HC.out.mono ?_
  rintro e w2 ⟨rfl, hb⟩
  have HB := Lib.hid hb
  clear hb HC hca
  go_wp2_with fail
  go_ret
  exact ⟨ret_bool HR.out, HB.out⟩
theorem cls_two (b : UInt8) (h : b ≠ 10) : (Tk.clsI (b.toNat : Int) == 2) = edB b := by
  rw [beq_dec, Bool.eq_iff_iff, decide_eq_true_iff]
  unfold edB spB Tk.clsI
  have h10 : (b.toNat : Int) ≠ 10 := fun e => h (UInt8.toNat_inj.1 (by simpa using (by omega : b.toNat = 10)))
  by_cases h32 : b = 32
  · subst h32; decide
  · by_cases h9 : b = 9
    · subst h9; decide
    · have e32 : (b.toNat : Int) ≠ 32 := fun e => h32 (UInt8.toNat_inj.1 (by simpa using (by omega : b.toNat = 32)))
      have e9 : (b.toNat : Int) ≠ 9 := fun e => h9 (UInt8.toNat_inj.1 (by simpa using (by omega : b.toNat = 9)))
      rw [decide_eq_false h32, decide_eq_false h9, decide_eq_false h]
      constructor
      · intro hx
        split at hx
        · omega
        · split at hx
          · omega
          · split at hx <;> omega
      · intro hx; simp at hx
theorem gap_any (b : UInt8) (w : World) :
    Calls Tryz.prog 175 #[.int .u8 b.toNat] w fun e w' => e = .returned (.bool (edB b)) ∧ w = w' := by
  by_cases h : b = 10
  · subst h
    go_enter Tryz.func175, Tryz.ntmps175
    go_wp2_with fail
    go_ret
    exact ⟨rfl, rfl⟩
  · have e1 : ((b.toNat : Int) == 10) = false := ne8 (b := 10) h
    have HC := Lib.hid (Tk.class_any b.toNat w)
    have HR := Lib.hid (cls_two b h)
    have h256 : b.toNat < 256 := b.toNat_lt
    clear h
    generalize Tk.clsI (b.toNat : Int) = c at *
    go_enter Tryz.func175, Tryz.ntmps175
    go_wp2_with fail
    refine HC.out.mono ?_
    rintro e w2 ⟨rfl, rfl⟩
    clear HC
    go_wp2_with fail
    go_ret
    exact ⟨ret_bool HR.out, rfl⟩
theorem marks_find (c : UInt8) : decide (0 ≤ Lib.indexByte marksL c) = marksL.any (fun b => decide (c = b)) := by
  rw [← Lib.contains_iff_indexByte, Bool.eq_iff_iff, List.contains_iff_mem, List.any_eq_true]
  constructor
  · intro h; exact ⟨c, h, by simp⟩
  · rintro ⟨x, hx, he⟩
    have e : c = x := by simpa using he
    rw [e]; exact hx
set_option maxHeartbeats 1600000 in
theorem inDest_any (c : UInt8) (w : World) :
    Calls Tryz.prog 112 #[.int .u8 c.toNat] w fun e w' => e = .returned (.bool (dcB c)) ∧ w = w' := by
  have HI := Lib.hid (Tryz.strings_IndexByte ⟨#[46, 47, 95, 45, 35, 63, 38, 58, 37]⟩ (c.toNat : Int) w)
  have hback : ((c.toNat : Int)).toNat.toUInt8 = c := by simp
  have hm : (⟨#[46, 47, 95, 45, 35, 63, 38, 58, 37]⟩ : ByteArray).data.toList = marksL := rfl
  rw [hback, hm] at HI
  have HX : Hid (dcB c = (alB c || decide (0 ≤ Lib.indexByte marksL c))) := Lib.hid (by rw [marks_find]; rfl)
  have HA : Hid (alB c = ((decide (97 ≤ (c.toNat : Int)) && decide ((c.toNat : Int) ≤ 122)) || (decide (65 ≤ (c.toNat : Int)) && decide ((c.toNat : Int) ≤ 90)) || (decide (48 ≤ (c.toNat : Int)) && decide ((c.toNat : Int) ≤ 57)))) := Lib.hid rfl
  obtain ⟨X, hX⟩ : ∃ X, dcB c = X := ⟨_, rfl⟩
  rw [hX] at HX
  rw [hX]
  clear hX hback hm
  generalize alB c = al at *
  generalize Lib.indexByte marksL c = ix at *
  generalize (c.toNat : Int) = n at *
  rcases (show n < 48 ∨ (48 ≤ n ∧ n ≤ 57) ∨ (57 < n ∧ n < 65) ∨ (65 ≤ n ∧ n ≤ 90) ∨ (90 < n ∧ n < 97) ∨ (97 ≤ n ∧ n ≤ 122) ∨ 122 < n by omega) with h | h | h | h | h | h | h
  · have HR : Hid (X = decide (0 ≤ ix)) := Lib.hid (by rw [HX.out, HA.out, decide_eq_false (show ¬ 97 ≤ n by omega), decide_eq_false (show ¬ 65 ≤ n by omega), decide_eq_false (show ¬ 48 ≤ n by omega)]; simp)
    clear HX HA
    go_enter Tryz.func112, Tryz.ntmps112
    go_wp2_with fail
    refine HI.out.mono ?_
    rintro e w2 ⟨rfl, rfl⟩
    clear HI
    go_wp2_with fail
    go_ret
    exact ⟨ret_bool HR.out.symm, rfl⟩
  · have HR : Hid (X = true) := Lib.hid (by rw [HX.out, HA.out, decide_eq_true h.1, decide_eq_true h.2]; simp)
    clear HX HA
    go_enter Tryz.func112, Tryz.ntmps112
    go_wp2_with fail
    go_ret
    exact ⟨ret_bool HR.out.symm, rfl⟩
  · have HR : Hid (X = decide (0 ≤ ix)) := Lib.hid (by rw [HX.out, HA.out, decide_eq_false (show ¬ 97 ≤ n by omega), decide_eq_false (show ¬ 65 ≤ n by omega), decide_eq_false (show ¬ n ≤ 57 by omega)]; simp)
    clear HX HA
    go_enter Tryz.func112, Tryz.ntmps112
    go_wp2_with fail
    refine HI.out.mono ?_
    rintro e w2 ⟨rfl, rfl⟩
    clear HI
    go_wp2_with fail
    go_ret
    exact ⟨ret_bool HR.out.symm, rfl⟩
  · have HR : Hid (X = true) := Lib.hid (by rw [HX.out, HA.out, decide_eq_true h.1, decide_eq_true h.2]; simp)
    clear HX HA
    go_enter Tryz.func112, Tryz.ntmps112
    go_wp2_with fail
    go_ret
    exact ⟨ret_bool HR.out.symm, rfl⟩
  · have HR : Hid (X = decide (0 ≤ ix)) := Lib.hid (by rw [HX.out, HA.out, decide_eq_false (show ¬ 97 ≤ n by omega), decide_eq_false (show ¬ n ≤ 90 by omega), decide_eq_false (show ¬ n ≤ 57 by omega)]; simp)
    clear HX HA
    go_enter Tryz.func112, Tryz.ntmps112
    go_wp2_with fail
    refine HI.out.mono ?_
    rintro e w2 ⟨rfl, rfl⟩
    clear HI
    go_wp2_with fail
    go_ret
    exact ⟨ret_bool HR.out.symm, rfl⟩
  · have HR : Hid (X = true) := Lib.hid (by rw [HX.out, HA.out, decide_eq_true h.1, decide_eq_true h.2]; simp)
    clear HX HA
    go_enter Tryz.func112, Tryz.ntmps112
    go_wp2_with fail
    go_ret
    exact ⟨ret_bool HR.out.symm, rfl⟩
  · have HR : Hid (X = decide (0 ≤ ix)) := Lib.hid (by rw [HX.out, HA.out, decide_eq_false (show ¬ n ≤ 122 by omega), decide_eq_false (show ¬ n ≤ 90 by omega), decide_eq_false (show ¬ n ≤ 57 by omega)]; simp)
    clear HX HA
    go_enter Tryz.func112, Tryz.ntmps112
    go_wp2_with fail
    refine HI.out.mono ?_
    rintro e w2 ⟨rfl, rfl⟩
    clear HI
    go_wp2_with fail
    go_ret
    exact ⟨ret_bool HR.out.symm, rfl⟩
theorem destP_any (s : ByteArray) (hs : s.size ≤ 140737488355328) (w : World) :
    Calls Tryz.prog 76 #[.string s] w (OkAns w (ctB s && dsB s.data.toList)) := by
  have HT := Lib.hid (isText_any s hs w)
  have HI := Lib.hid (fun c w => inDest_any c w)
  have HEm : Hid ((s.toList == ([] : List UInt8)) = s.data.toList.isEmpty) := Lib.hid (by rw [Lib.toList_data]; cases s.data.toList <;> rfl)
  have HX : Hid ((ctB s && dsB s.data.toList) = (ctB s && ((s.data.toList.drop 0).all dcB && !s.data.toList.isEmpty))) := Lib.hid (by rw [List.drop_zero]; rfl)
  obtain ⟨X, hX⟩ : ∃ X, (ctB s && dsB s.data.toList) = X := ⟨_, rfl⟩
  obtain ⟨ne, hne⟩ : ∃ ne, s.data.toList.isEmpty = ne := ⟨_, rfl⟩
  rw [hX, hne] at HX
  rw [hne] at HEm
  rw [hX]
  clear hX hne
  cases ne with
  | true =>
    have em := HEm.out
    have HR : Hid (X = false) := Lib.hid (by rw [HX.out]; simp)
    clear HX HEm HT HI
    go_enter Tryz.func76, Tryz.ntmps76
    go_wp2_with fail
    go_ret
    exact ⟨ret_bool HR.out.symm, Below.refl _ _⟩
  | false =>
    have em := HEm.out
    clear HEm
    cases hct : ctB s with
    | false =>
      rw [hct] at HT HX
      have HR : Hid (X = false) := Lib.hid (by rw [HX.out]; simp)
      clear HX HI hct
      go_enter Tryz.func76, Tryz.ntmps76
      go_wp2_with fail
      refine HT.out.mono ?_
      rintro e w2 ⟨rfl, hb⟩
      have HB := Lib.hid hb
      clear hb HT
      go_wp2_with fail
      go_ret
      exact ⟨ret_bool HR.out.symm, HB.out⟩
    | true =>
      rw [hct] at HT HX
      have H0 : Hid (X = (s.data.toList.drop 0).all dcB) := Lib.hid (by rw [HX.out]; simp)
      clear HX hct
      go_enter Tryz.func76, Tryz.ntmps76
      go_wp2_with fail
      refine HT.out.mono ?_
      rintro e w2 ⟨rfl, hb⟩
      have HB := Lib.hid hb
      clear hb HT
      go_wp2_with fail
      go_loop [13] (fun i => ∃ k : Nat, k ≤ s.size ∧ i = .int .i64 k ∧ Hid (X = (s.data.toList.drop k).all dcB)) (fun i => s.size - (intOf i).toNat)
      case atStart => exact ⟨0, Nat.zero_le _, rfl, H0⟩
      case round =>
        clear H0
        obtain ⟨k, hk, rfl, HN⟩ := hrel
        by_cases hlt : k < s.size
        · have hnx := HN.out
          rw [at_data s k hlt, List.all_cons] at hnx
          have hi1 : (k : Int) < (s.size : Int) := by omega
          have HD := Lib.hid (HI.out s[k] w2)
          cases hd : dcB s[k] with
          | true =>
            rw [hd] at HD hnx
            have HR : Hid (X = (s.data.toList.drop (k + 1)).all dcB) := Lib.hid (by rw [hnx]; rfl)
            clear hnx HN hd
            go_wp2_with fail
            refine HD.out.mono ?_
            rintro e w3 ⟨rfl, rfl⟩
            clear HD
            go_wp2_with fail
            go_round
            case rel => exact ⟨k + 1, by omega, by go_num, HR⟩
            case measure => simp [intOf]; omega
          | false =>
            rw [hd] at HD hnx
            have HR : Hid (X = false) := Lib.hid (by rw [hnx]; rfl)
            clear hnx HN hd
            go_wp2_with fail
            refine HD.out.mono ?_
            rintro e w3 ⟨rfl, rfl⟩
            clear HD
            go_wp2_with fail
            go_ret
            exact ⟨ret_bool HR.out.symm, HB.out⟩
        · obtain rfl : k = s.size := by omega
          have hnx := HN.out
          rw [drop_all s _ hlt] at hnx
          have HR : Hid (X = true) := Lib.hid (by rw [hnx]; rfl)
          clear hnx HN hlt
          go_wp2_with fail
          go_ret
          exact ⟨ret_bool HR.out.symm, HB.out⟩
end Go.Proofs.YthpnbialpkkpgaaGreatDoor.Sp
namespace Go.Proofs.YthpnbialpkkpgaaGreatDoor.Sp
open Go.RowKit
open Go.Proofs.YthpnbialpkkpgaaGreatDoor.Tk (S S_of S_list S_size S_toList S_app ret_int eq8 ne8 at_data len_data)
set_option linter.unusedVariables false
theorem dw_nil_iff {α : Type} (p : α → Bool) : ∀ l : List α, l.dropWhile p = [] ↔ ∀ x ∈ l, p x = true
  | [] => by simp
  | x :: r => by
    rw [List.dropWhile_cons]
    by_cases h : p x = true
    · rw [if_pos h, dw_nil_iff p r]
      simp [h]
    · rw [if_neg h]
      simp [h]
theorem trimB_nil (l : List UInt8) : (Lib.trimB l 32 = []) ↔ onlySp l = true := by
  unfold Lib.trimB Lib.trimLeftB Lib.trimRightB onlySp
  rw [dw_nil_iff, List.all_eq_true]
  constructor
  · intro h
    by_cases hn : l.reverse.dropWhile (· == 32) = []
    · rw [dw_nil_iff] at hn
      intro x hx
      exact hn x (List.mem_reverse.2 hx)
    · exfalso
      have := List.head_dropWhile_not (p := (· == (32 : UInt8))) (l := l.reverse) hn
      have hm := h _ (List.mem_reverse.2 (List.head_mem hn))
      rw [hm] at this
      cases this
  · intro h x hx
    have hx := List.mem_reverse.1 hx
    exact h x (List.mem_reverse.1 ((List.dropWhile_sublist _).subset hx))
theorem trim_bne (s : ByteArray) : ((⟨(Lib.trimB s.data.toList 32).toArray⟩ : ByteArray).toList != ([] : List UInt8)) = !onlySp s.data.toList := by
  rw [Lib.toList_data]
  have e : (⟨(Lib.trimB s.data.toList 32).toArray⟩ : ByteArray).data.toList = Lib.trimB s.data.toList 32 := rfl
  rw [e, Bool.eq_iff_iff, bne_iff_ne, ne_eq, trimB_nil]
  simp
end Go.Proofs.YthpnbialpkkpgaaGreatDoor.Sp
namespace Go.Proofs.YthpnbialpkkpgaaGreatDoor.Sp
open Go.RowKit
open Go.Proofs.YthpnbialpkkpgaaGreatDoor.Tk (S S_of S_list S_size S_toList S_app ret_int eq8 ne8 at_data len_data)
set_option linter.unusedVariables false
end Go.Proofs.YthpnbialpkkpgaaGreatDoor.Sp
