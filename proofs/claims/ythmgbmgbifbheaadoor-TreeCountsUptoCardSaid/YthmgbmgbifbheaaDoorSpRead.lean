/-
  CONTRACT of the program's read (span): what is handed on to a function value, whatever that keeps in memory.
-/
import Derived.Test.YthmgbmgbifbheaaDoorSpTold
namespace Go.Proofs.YthmgbmgbifbheaaDoor.Sp
open Go.RowKit
open Go.Proofs.YthmgbmgbifbheaaDoor.Tk (S S_of S_list S_size S_toList S_app ret_int)
open Go.Proofs.YthmgbmgbifbheaaDoor.Cm (calls_at alloc_new alloc_at cell_at lt_of_at)
set_option linter.unusedVariables false

/-- A function value (number kf, one captured pointer) that gathers texts, at most N bytes in all: what it has gathered stands by I; it writes from block B on alone. -/
structure Sink (kf : Nat) (pv : Value) (B N : Nat) (I : List UInt8 → World → Prop) : Prop where
  enters : ∀ args w, (callFunc kf args).run Tryd.prog w = .ok (.enter kf args) w
  alloc : ∀ p w o, I p w → I p (w.alloc o)
  call : ∀ p s w, I p w → B ≤ w.heap.size → p.length + s.length ≤ N → Calls Tryd.prog kf #[.string (S s), pv] w fun e w' => e = .returned (.tuple #[]) ∧ Below B w w' ∧ I (p ++ s) w' ∧ ∀ (k : Nat) (c : Array Value), w.heap[k]? = some (Obj.cells c 34 (0, 0)) → w'.heap[k]? = some (Obj.cells c 34 (0, 0))

def ReadAns (w0 : World) (I : List UInt8 → World → Prop) (p : List UInt8) (e : Ending) (w' : World) : Prop := e = .returned (.tuple #[]) ∧ Below w0.heap.size w0 w' ∧ I p w'

set_option maxHeartbeats 6400000 in
set_option maxRecDepth 100000 in
theorem read_any (kf : Nat) (pv : Value) (N : Nat) (I : List UInt8 → World → Prop) (w0 : World) (K : Sink kf pv w0.heap.size N I) (m : Nat) : ∀ (l : List Sp) (v : Value) (w : World) (p : List UInt8), totAll l ≤ m → Tr w0 v l → Below w0.heap.size w0 w → I p w → p.length + (plAll l).length ≤ N →
    Calls Tryd.prog 90 #[v, .func (.func kf) #[] #[pv]] w (ReadAns w0 I (p ++ plAll l)) := by
  induction m using Nat.strongRecOn with
  | ind m ih =>
    intro l v w p hm ht hbw hi hN
    have T := Lib.hid ht
    obtain ⟨ao, ca, rfl⟩ := ht.len
    have hlen := ht.short
    have e1f := K.enters
    have HK := Lib.hid K
    have HIH : Hid (∀ k (hk : k < l.length) (v' : Value) (w' : World) (q : List UInt8), Tr w0 v' l[k].kids → Below w0.heap.size w0 w' → I q w' → q.length + (plAll l[k].kids).length ≤ N → Calls Tryd.prog 90 #[v', .func (.func kf) #[] #[pv]] w' (ReadAns w0 I (q ++ plAll l[k].kids))) := Lib.hid (fun k hk v' w' q t b i n =>
      ih (totAll l[k].kids) (Nat.lt_of_lt_of_le (totAll_kids (List.getElem_mem hk)) hm) l[k].kids v' w' q (Nat.le_refl _) t b i n)
    have H0 : Hid (p ++ plAll l = p ++ plAll (l.drop 0)) := Lib.hid (by rw [List.drop_zero])
    have HN0 : Hid ((p ++ plAll l).length ≤ N) := Lib.hid (by rw [List.length_append]; exact hN)
    obtain ⟨X, hX⟩ : ∃ X, p ++ plAll l = X := ⟨_, rfl⟩
    rw [hX] at H0 HN0
    rw [hX]
    have HB0 := Lib.hid hbw
    have HI0 := Lib.hid hi
    clear ih ht hm hX hbw hi hN K
    go_enter Tryd.func90, Tryd.ntmps90
    go_wp2_with fail
    go_loopw [8] (fun i wr => ∃ (k : Nat) (q : List UInt8), k ≤ l.length ∧ i = .int .i64 k ∧ Hid (Below w0.heap.size w0 wr) ∧ Hid (I q wr) ∧ Hid (X = q ++ plAll (l.drop k))) (fun i _ => l.length - (intOf i).toNat)
    case atStart => exact ⟨0, p, Nat.zero_le _, rfl, HB0, HI0, H0⟩
    case round =>
      clear H0 HB0 HI0
      obtain ⟨k, q, hk, rfl, HB, HI, HN⟩ := hrel
      by_cases hlt : k < l.length
      · have hnx := HN.out
        rw [drop_cons l k hlt, plAll_cons, plOne_eq] at hnx
        have hi1 : (k : Int) < (l.length : Int) := by omega
        obtain ⟨b, o, ak, ck, rfl, hb, hC⟩ := T.out.at k hlt
        have c0 := (HB.out.cell (p := ⟨b, o + k * 3, none⟩) hb).trans hC.kind
        have c1 := (HB.out.cell (p := ⟨b, o + k * 3 + 1, none⟩) hb).trans hC.s
        have c2 := (HB.out.cell (p := ⟨b, o + k * 3 + 2, none⟩) hb).trans hC.kids
        have HC := Lib.hid (fun w' q' => HIH.out k hlt _ w' q' hC.tr)
        have HQ := Lib.hid hnx
        have hall := congrArg List.length hnx
        have hxn := HN0.out
        simp only [List.length_append] at hall
        clear hnx HN hC
        generalize l[k].kids.length = kn at *
        generalize plAll l[k].kids = y at *
        generalize l[k].kind = z at *
        generalize l[k].s = s at *
        have B1 : Below w0.heap.size w0 (wr.alloc (.cells #[.int .i64 z, .string (S s), .slice ak kn ck] 34)) := HB.out.alloc HB.out.size _
        have HB1 := Lib.hid B1
        have HI1 := Lib.hid (HK.out.alloc q wr (.cells #[.int .i64 z, .string (S s), .slice ak kn ck] 34) HI.out)
        have HA := Lib.hid (alloc_new wr (.cells #[.int .i64 z, .string (S s), .slice ak kn ck] 34))
        clear B1 HB HI
        by_cases hz : z = 1 ∨ z = 2
        · rw [if_pos hz] at hall
          have HQ2 : Hid (X = ((q ++ s) ++ y) ++ plAll (l.drop (k + 1))) := Lib.hid (by rw [HQ.out, if_pos hz]; simp)
          have HW := Lib.hid (HK.out.call q s _ HI1.out HB1.out.size (by omega))
          have hlen2 : (q ++ s).length + y.length ≤ N := by rw [List.length_append]; omega
          clear HQ hall hxn
          go_upto_region 3 with fail
          generalize wr.alloc (.cells #[.int .i64 z, .string (S s), .slice ak kn ck] 34) = w1 at *
          have a0 : w1.cell? ⟨wr.heap.size, 0, none⟩ = some (.int .i64 z) := cell_at HA.out 0
          have a1 : w1.cell? ⟨wr.heap.size, 1, none⟩ = some (.string (S s)) := cell_at HA.out 1
          have a2 : w1.cell? ⟨wr.heap.size, 2, none⟩ = some (.slice ak kn ck) := cell_at HA.out 2
          rcases hz with hz | hz
          · have e1 : (z == 1) = true := by rw [hz]; rfl
            clear hz
            go_wp2_with fail
            refine HW.out.mono ?_
            rintro e w2 ⟨rfl, hb2, hi2, hk2⟩
            have n2 : w2.cell? ⟨wr.heap.size, 2, none⟩ = some (.slice ak kn ck) := cell_at (hk2 _ _ HA.out) 2
            have HB2 := Lib.hid (HB1.out.trans hb2)
            have HC1 := Lib.hid (HC.out w2 (q ++ s) HB2.out hi2 hlen2)
            clear hb2 hi2 hk2 HW HC
            go_wp2_with fail
            refine HC1.out.mono ?_
            rintro e w3 ⟨rfl, hb3, hi3⟩
            have HB3 := Lib.hid hb3
            have HI3 := Lib.hid hi3
            clear hb3 hi3 HC1
            go_wp2_with fail
            go_roundw
            case rel => exact ⟨k + 1, (q ++ s) ++ y, by omega, by go_num, HB3, HI3, HQ2⟩
            case measure => simp [intOf] <;> omega
          · have e1 : (z == 1) = false := by rw [hz]; rfl
            have e2 : (z == 2) = true := by rw [hz]; rfl
            clear hz
            go_wp2_with fail
            refine HW.out.mono ?_
            rintro e w2 ⟨rfl, hb2, hi2, hk2⟩
            have n2 : w2.cell? ⟨wr.heap.size, 2, none⟩ = some (.slice ak kn ck) := cell_at (hk2 _ _ HA.out) 2
            have HB2 := Lib.hid (HB1.out.trans hb2)
            have HC1 := Lib.hid (HC.out w2 (q ++ s) HB2.out hi2 hlen2)
            clear hb2 hi2 hk2 HW HC
            go_wp2_with fail
            refine HC1.out.mono ?_
            rintro e w3 ⟨rfl, hb3, hi3⟩
            have HB3 := Lib.hid hb3
            have HI3 := Lib.hid hi3
            clear hb3 hi3 HC1
            go_wp2_with fail
            go_roundw
            case rel => exact ⟨k + 1, (q ++ s) ++ y, by omega, by go_num, HB3, HI3, HQ2⟩
            case measure => simp [intOf] <;> omega
        · rw [if_neg hz] at hall
          have HQ2 : Hid (X = (q ++ y) ++ plAll (l.drop (k + 1))) := Lib.hid (by rw [HQ.out, if_neg hz]; simp)
          have e1 : (z == 1) = false := by rw [beq_eq_false_iff_ne]; omega
          have e2 : (z == 2) = false := by rw [beq_eq_false_iff_ne]; omega
          have HC1 := Lib.hid (HC.out _ q HB1.out HI1.out (by omega))
          clear HQ hall hxn hz HC
          go_upto_region 3 with fail
          generalize wr.alloc (.cells #[.int .i64 z, .string (S s), .slice ak kn ck] 34) = w1 at *
          have a0 : w1.cell? ⟨wr.heap.size, 0, none⟩ = some (.int .i64 z) := cell_at HA.out 0
          have a1 : w1.cell? ⟨wr.heap.size, 1, none⟩ = some (.string (S s)) := cell_at HA.out 1
          have a2 : w1.cell? ⟨wr.heap.size, 2, none⟩ = some (.slice ak kn ck) := cell_at HA.out 2
          go_wp2_with fail
          refine HC1.out.mono ?_
          rintro e w2 ⟨rfl, hb2, hi2⟩
          have HB2 := Lib.hid hb2
          have HI2 := Lib.hid hi2
          clear hb2 hi2 HC1
          go_wp2_with fail
          go_roundw
          case rel => exact ⟨k + 1, q ++ y, by omega, by go_num, HB2, HI2, HQ2⟩
          case measure => simp [intOf] <;> omega
      · obtain rfl : k = l.length := by omega
        have hnx := HN.out
        rw [List.drop_length] at hnx
        have HR : Hid (X = q) := Lib.hid (by rw [hnx]; unfold plAll; simp)
        clear hnx HN hlt
        go_wp2_with fail
        go_end0
        exact ⟨rfl, HB.out, by rw [HR.out]; exact HI.out⟩

end Go.Proofs.YthmgbmgbifbheaaDoor.Sp
