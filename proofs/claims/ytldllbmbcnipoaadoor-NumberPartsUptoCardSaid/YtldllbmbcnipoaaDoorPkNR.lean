/-
  Several texts in one:
  CONTRACT of the program's read (span): what is handed on to a function value, whatever that keeps in memory.
  CONTRACTS of (*strings.Builder).copyCheck and WriteString, over this translation, with what they leave alone.
-/
import Derived.Test.YtldllbmbcnipoaaDoorPkNI
import Derived.Test.YtldllbmbcnipoaaDoorPkNE
import Derived.Lib.Builder
import Derived.Lib.OthersKept
import Derived.Lib.Walk
import Derived.Laws.Externs
import Derived.Shelf.Strings.Builder1
namespace Go.Proofs.YtldllbmbcnipoaaDoor.Sp
open Go.RowKit
open Go.Proofs.YtldllbmbcnipoaaDoor.Tk (S S_of S_list S_size S_toList S_app ret_int)
open Go.Proofs.YtldllbmbcnipoaaDoor.Cm (calls_at alloc_new alloc_at cell_at lt_of_at)
set_option linter.unusedVariables false

/-- A function value (number kf, one captured pointer) that gathers texts, at most N bytes in all: what it has gathered stands by I; it writes from block B on alone. -/
structure Sink (kf : Nat) (pv : Value) (B N : Nat) (I : List UInt8 → World → Prop) : Prop where
  enters : ∀ args w, (callFunc kf args).run Tryd.prog w = .ok (.enter kf args) w
  alloc : ∀ p w o, I p w → I p (w.alloc o)
  call : ∀ p s w, I p w → B ≤ w.heap.size → p.length + s.length ≤ N → Calls Tryd.prog kf #[.string (S s), pv] w fun e w' => e = .returned (.tuple #[]) ∧ Below B w w' ∧ I (p ++ s) w' ∧ ∀ (k : Nat) (c : Array Value), w.heap[k]? = some (Obj.cells c 61 (0, 0)) → w'.heap[k]? = some (Obj.cells c 61 (0, 0))

def ReadAns (w0 : World) (I : List UInt8 → World → Prop) (p : List UInt8) (e : Ending) (w' : World) : Prop := e = .returned (.tuple #[]) ∧ Below w0.heap.size w0 w' ∧ I p w'

set_option maxHeartbeats 6400000 in
set_option maxRecDepth 100000 in
theorem read_any (kf : Nat) (pv : Value) (N : Nat) (I : List UInt8 → World → Prop) (w0 : World) (K : Sink kf pv w0.heap.size N I) (m : Nat) : ∀ (l : List Sp) (v : Value) (w : World) (p : List UInt8), totAll l ≤ m → Tr w0 v l → Below w0.heap.size w0 w → I p w → p.length + (plAll l).length ≤ N →
    Calls Tryd.prog 48 #[v, .func (.func kf) #[] #[pv]] w (ReadAns w0 I (p ++ plAll l)) := by
  induction m using Nat.strongRecOn with
  | ind m ih =>
    intro l v w p hm ht hbw hi hN
    have T := Lib.hid ht
    obtain ⟨ao, ca, rfl⟩ := ht.len
    have hlen := ht.short
    have e1f := K.enters
    have HK := Lib.hid K
    have HIH : Hid (∀ k (hk : k < l.length) (v' : Value) (w' : World) (q : List UInt8), Tr w0 v' l[k].kids → Below w0.heap.size w0 w' → I q w' → q.length + (plAll l[k].kids).length ≤ N → Calls Tryd.prog 48 #[v', .func (.func kf) #[] #[pv]] w' (ReadAns w0 I (q ++ plAll l[k].kids))) := Lib.hid (fun k hk v' w' q t b i n =>
      ih (totAll l[k].kids) (Nat.lt_of_lt_of_le (totAll_kids (List.getElem_mem hk)) hm) l[k].kids v' w' q (Nat.le_refl _) t b i n)
    have H0 : Hid (p ++ plAll l = p ++ plAll (l.drop 0)) := Lib.hid (by rw [List.drop_zero])
    have HN0 : Hid ((p ++ plAll l).length ≤ N) := Lib.hid (by rw [List.length_append]; exact hN)
    obtain ⟨X, hX⟩ : ∃ X, p ++ plAll l = X := ⟨_, rfl⟩
    rw [hX] at H0 HN0
    rw [hX]
    have HB0 := Lib.hid hbw
    have HI0 := Lib.hid hi
    clear ih ht hm hX hbw hi hN K
    go_enter Tryd.func48, Tryd.ntmps48
    go_wp2_with fail
    go_loopw [8] (fun i wr => ∃ (k : Nat) (q : List UInt8), k ≤ l.length ∧ i = .int .i64 k ∧ Hid (Below w0.heap.size w0 wr) ∧ Hid (I q wr) ∧ Hid (X = q ++ plAll (l.drop k))) (fun i _ => l.length - (intOf i).toNat)
    case atStart => exact ⟨0, p, Nat.zero_le _, rfl, HB0, HI0, H0⟩
    case round =>
      clear H0 HB0 HI0
      obtain ⟨k, q, hk, rfl, HB, HI, HN⟩ := hrel
      by_cases hlt : k < l.length
      · have hnx := HN.out
        rw [drop_cons l k hlt, plAll_cons, plOne_eq] at hnx
        have hi1 : (k : Int) < (l.length : Int) := by omega
        obtain ⟨b, o, ak, ck, rfl, hb, hC⟩ := T.out.at k hlt
        have c0 := (HB.out.cell (p := ⟨b, o + k * 3, none⟩) hb).trans hC.kind
        have c1 := (HB.out.cell (p := ⟨b, o + k * 3 + 1, none⟩) hb).trans hC.s
        have c2 := (HB.out.cell (p := ⟨b, o + k * 3 + 2, none⟩) hb).trans hC.kids
        have HC := Lib.hid (fun w' q' => HIH.out k hlt _ w' q' hC.tr)
        have HQ := Lib.hid hnx
        have hall := congrArg List.length hnx
        have hxn := HN0.out
        simp only [List.length_append] at hall
        clear hnx HN hC
        generalize l[k].kids.length = kn at *
        generalize plAll l[k].kids = y at *
        generalize l[k].kind = z at *
        generalize l[k].s = s at *
        have B1 : Below w0.heap.size w0 (wr.alloc (.cells #[.int .i64 z, .string (S s), .slice ak kn ck] 61)) := HB.out.alloc HB.out.size _
        have HB1 := Lib.hid B1
        have HI1 := Lib.hid (HK.out.alloc q wr (.cells #[.int .i64 z, .string (S s), .slice ak kn ck] 61) HI.out)
        have HA := Lib.hid (alloc_new wr (.cells #[.int .i64 z, .string (S s), .slice ak kn ck] 61))
        clear B1 HB HI
        by_cases hz : z = 1 ∨ z = 2
        · rw [if_pos hz] at hall
          have HQ2 : Hid (X = ((q ++ s) ++ y) ++ plAll (l.drop (k + 1))) := Lib.hid (by rw [HQ.out, if_pos hz]; simp)
          have HW := Lib.hid (HK.out.call q s _ HI1.out HB1.out.size (by omega))
          have hlen2 : (q ++ s).length + y.length ≤ N := by rw [List.length_append]; omega
          clear HQ hall hxn
          go_upto_region 3 with fail
          generalize wr.alloc (.cells #[.int .i64 z, .string (S s), .slice ak kn ck] 61) = w1 at *
          have a0 : w1.cell? ⟨wr.heap.size, 0, none⟩ = some (.int .i64 z) := cell_at HA.out 0
          have a1 : w1.cell? ⟨wr.heap.size, 1, none⟩ = some (.string (S s)) := cell_at HA.out 1
          have a2 : w1.cell? ⟨wr.heap.size, 2, none⟩ = some (.slice ak kn ck) := cell_at HA.out 2
          rcases hz with hz | hz
          · have e1 : (z == 1) = true := by rw [hz]; rfl
            clear hz
            go_wp2_with fail
            refine HW.out.mono ?_
            rintro e w2 ⟨rfl, hb2, hi2, hk2⟩
            have n2 : w2.cell? ⟨wr.heap.size, 2, none⟩ = some (.slice ak kn ck) := cell_at (hk2 _ _ HA.out) 2
            have HB2 := Lib.hid (HB1.out.trans hb2)
            have HC1 := Lib.hid (HC.out w2 (q ++ s) HB2.out hi2 hlen2)
            clear hb2 hi2 hk2 HW HC
            go_wp2_with fail
            refine HC1.out.mono ?_
            rintro e w3 ⟨rfl, hb3, hi3⟩
            have HB3 := Lib.hid hb3
            have HI3 := Lib.hid hi3
            clear hb3 hi3 HC1
            go_wp2_with fail
            go_roundw
            case rel => exact ⟨k + 1, (q ++ s) ++ y, by omega, by go_num, HB3, HI3, HQ2⟩
            case measure => simp [intOf] <;> omega
          · have e1 : (z == 1) = false := by rw [hz]; rfl
            have e2 : (z == 2) = true := by rw [hz]; rfl
            clear hz
            go_wp2_with fail
            refine HW.out.mono ?_
            rintro e w2 ⟨rfl, hb2, hi2, hk2⟩
            have n2 : w2.cell? ⟨wr.heap.size, 2, none⟩ = some (.slice ak kn ck) := cell_at (hk2 _ _ HA.out) 2
            have HB2 := Lib.hid (HB1.out.trans hb2)
            have HC1 := Lib.hid (HC.out w2 (q ++ s) HB2.out hi2 hlen2)
            clear hb2 hi2 hk2 HW HC
            go_wp2_with fail
            refine HC1.out.mono ?_
            rintro e w3 ⟨rfl, hb3, hi3⟩
            have HB3 := Lib.hid hb3
            have HI3 := Lib.hid hi3
            clear hb3 hi3 HC1
            go_wp2_with fail
            go_roundw
            case rel => exact ⟨k + 1, (q ++ s) ++ y, by omega, by go_num, HB3, HI3, HQ2⟩
            case measure => simp [intOf] <;> omega
        · rw [if_neg hz] at hall
          have HQ2 : Hid (X = (q ++ y) ++ plAll (l.drop (k + 1))) := Lib.hid (by rw [HQ.out, if_neg hz]; simp)
          have e1 : (z == 1) = false := by rw [beq_eq_false_iff_ne]; omega
          have e2 : (z == 2) = false := by rw [beq_eq_false_iff_ne]; omega
          have HC1 := Lib.hid (HC.out _ q HB1.out HI1.out (by omega))
          clear HQ hall hxn hz HC
          go_upto_region 3 with fail
          generalize wr.alloc (.cells #[.int .i64 z, .string (S s), .slice ak kn ck] 61) = w1 at *
          have a0 : w1.cell? ⟨wr.heap.size, 0, none⟩ = some (.int .i64 z) := cell_at HA.out 0
          have a1 : w1.cell? ⟨wr.heap.size, 1, none⟩ = some (.string (S s)) := cell_at HA.out 1
          have a2 : w1.cell? ⟨wr.heap.size, 2, none⟩ = some (.slice ak kn ck) := cell_at HA.out 2
          go_wp2_with fail
          refine HC1.out.mono ?_
          rintro e w2 ⟨rfl, hb2, hi2⟩
          have HB2 := Lib.hid hb2
          have HI2 := Lib.hid hi2
          clear hb2 hi2 HC1
          go_wp2_with fail
          go_roundw
          case rel => exact ⟨k + 1, q ++ y, by omega, by go_num, HB2, HI2, HQ2⟩
          case measure => simp [intOf] <;> omega
      · obtain rfl : k = l.length := by omega
        have hnx := HN.out
        rw [List.drop_length] at hnx
        have HR : Hid (X = q) := Lib.hid (by rw [hnx]; unfold plAll; simp)
        clear hnx HN hlt
        go_wp2_with fail
        go_end0
        exact ⟨rfl, HB.out, by rw [HR.out]; exact HI.out⟩

end Go.Proofs.YtldllbmbcnipoaaDoor.Sp

namespace Go.Proofs.YtldllbmbcnipoaaDoor.Sp
open Go.RowKit
set_option linter.unusedVariables false

theorem sizeB : (Tryd.prog.info? 48).map (·.size) = some 2 := by kernel_rfl
theorem liesB : liesAt Tryd.prog Tryd.prog.depth 48 (2 / Tryd.prog.cellsOf 48) 0 48 1 = true := by kernel_rfl
theorem infoB : (Tryd.prog.info? 5).map (fun i => (i.zero, i.size, i.bytes)) = some (some (.int .u8 0), 1, 1) := by kernel_rfl

set_option maxHeartbeats 1000000 in
set_option maxRecDepth 100000 in
theorem check_used (b : Nat) (w : World) (h0 : w.cell? ⟨b, 0, none⟩ = some (.pointer (some ⟨b, 0, none⟩))) :
    Calls Tryd.prog 66 #[.pointer (some ⟨b, 0, none⟩)] w fun e w' => e = .returned (.tuple #[]) ∧ w = w' := by
  obtain ⟨j, hj, _⟩ := Option.map_eq_some_iff.1 sizeB
  go_enter Tryd.func66, Tryd.ntmps66
  go_wp2
  rw [Lib.run_neq_ptr_same w _ Tryd.underlying45 hj]
  go_wp2
  go_end0
  exact ⟨rfl, rfl⟩

set_option maxHeartbeats 1000000 in
set_option maxRecDepth 100000 in
theorem check_fresh (b : Nat) (w : World) (h0 : w.cell? ⟨b, 0, none⟩ = some (.pointer none)) (hsh : w.shape? b = some (48, 2)) (hfz : w.frozen? ⟨b, 0, none⟩ = false) :
    Calls Tryd.prog 66 #[.pointer (some ⟨b, 0, none⟩)] w fun e w' => e = .returned (.tuple #[]) ∧ w' = w.setCell ⟨b, 0, none⟩ (.pointer (some ⟨b, 0, none⟩)) := by
  obtain ⟨j, hj, hjs⟩ := Option.map_eq_some_iff.1 sizeB
  go_enter Tryd.func66, Tryd.ntmps66
  go_wp2
  rw [Lib.run_to_unsafe w ⟨b, 0, none⟩ Tryd.underlying45 Tryd.underlying121 hj (by rw [hjs]; decide) hsh (Nat.zero_lt_succ 1)]
  simp only [Result.andThen]
  rw [Oper.upon_value]
  go_wp2
  rw [run_callFunc_extern Tryd.func79 (by kernel_rfl) (by kernel_rfl) (by kernel_rfl) (e := Extern.AbiNoEscape.same) (by kernel_rfl)]
  rw [Lib.run_noEscape]
  simp only [Result.andThen]
  rw [Oper.upon_value]
  go_wp2
  rw [Lib.run_from_unsafe w ⟨b, 0, none⟩ Tryd.underlying121 Tryd.underlying45 hj hsh liesB]
  simp only [Result.andThen]
  rw [Oper.upon_value]
  go_wp2
  go_end0
  exact ⟨rfl, rfl⟩

theorem checkK_any (B b : Nat) (bs : List Value) (w : World) (h : Lib.IsBuilder 48 5 B b bs w) :
    Calls Tryd.prog 66 #[.pointer (some ⟨b, 0, none⟩)] w fun e w' => e = .returned (.tuple #[]) ∧ Lib.BuilderAt 48 5 B b (.pointer (some ⟨b, 0, none⟩)) bs w' ∧ Below B w w' ∧ Lib.OthersKept 5 (some b) w w' := by
  rcases h with h | h
  · refine (check_fresh b w h.cell0 h.shape h.frozen0).mono ?_
    rintro e w' ⟨rfl, rfl⟩
    exact ⟨rfl, h.used _, (Below.refl B w).setCell (p := ⟨b, 0, none⟩) h.1 _, (Lib.OthersKept.refl _ _ w).setCell ⟨b, 0, none⟩ rfl _⟩
  · refine (check_used b w h.cell0).mono ?_
    rintro e w' ⟨rfl, rfl⟩
    exact ⟨rfl, h, Below.refl B _, Lib.OthersKept.refl _ _ _⟩

theorem ownsRow_kind {w : World} {B : Nat} {e : TypeId} {v : Value} {n : Nat} {xs : List Value} (h : w.ownsRow B e 1 v n xs) : ∀ g, v.ownBlock = some g → ∃ c fz, w.heap[g]? = some (.cells c e fz) := by
  intro g hg
  rcases h.2 with ⟨rfl, _⟩ | ⟨g', cap, cur, rfl, _, hgg, _⟩
  · simp [Value.ownBlock] at hg
  · simp [Value.ownBlock] at hg
    subst hg
    exact ⟨cur, _, hgg⟩

set_option maxHeartbeats 2000000 in
set_option maxRecDepth 100000 in
theorem writeS_any (B b : Nat) (bs : List Value) (s : ByteArray) (w : World) (h : Lib.IsBuilder 48 5 B b bs w) (hlen : bs.length + s.size ≤ 140737488355328) (hBw : B ≤ w.heap.size) :
    Calls Tryd.prog 41 #[.pointer (some ⟨b, 0, none⟩), .string s] w fun e w' => e = .returned (.tuple #[.int .i64 s.size, .nilIface]) ∧ (Lib.BuilderAt 48 5 B b (.pointer (some ⟨b, 0, none⟩)) (bs ++ Lib.strCells s) w' ∧ Below B w w' ∧ Lib.OthersKept 5 (some b) w w') := by
  obtain ⟨i0, hi, hz0, hz1, hz2⟩ := info_parts infoB
  go_enter Tryd.func41, Tryd.ntmps41
  go_wp2_with fail
  refine (checkK_any B b bs w h).mono ?_
  rintro e w1 ⟨rfl, h1, hb1, hk1⟩
  obtain ⟨hB, v, hbk, hown, hne⟩ := h1
  have c0 : w1.cell? ⟨b, 0, none⟩ = some (.pointer (some ⟨b, 0, none⟩)) := by rw [Lib.cell_of_heap hbk]; rfl
  have c1 : w1.cell? ⟨b, 1, none⟩ = some v := by rw [Lib.cell_of_heap hbk]; rfl
  go_wp2_with (at_builtin; refine Lib.wpList_append_own_string _ rfl _ _ 46 9 rfl B 5 i0 Tryd.underlying46 Tryd.underlying9 hi hz0 hz1 hz2 _ _ _ rfl hown s rfl ?c3 ?c4 ?c5 ?_)
  case c3 => unfold maxLen; omega
  case c4 => omega
  case c5 => have := hb1.size; omega
  intro v' w2 hown' hgrow _
  have hlt : b < w1.heap.size := by
    rcases Nat.lt_or_ge b w1.heap.size with h' | h'
    · exact h'
    · simp [Array.getElem?_eq_none h'] at hbk
  have hb2 : w2.heap[b]? = some (.cells #[.pointer (some ⟨b, 0, none⟩), v] 48 (0, 0)) := by
    rw [hgrow.block b hlt (fun e => hne e.symm)]
    exact hbk
  have d0 : w2.cell? ⟨b, 0, none⟩ = some (.pointer (some ⟨b, 0, none⟩)) := by rw [Lib.cell_of_heap hb2]; rfl
  have d1 : w2.cell? ⟨b, 1, none⟩ = some v := by rw [Lib.cell_of_heap hb2]; rfl
  have f1 : w2.frozen? ⟨b, 1, none⟩ = false := Lib.frozen_of_heap hb2 1
  obtain ⟨ao, n', cap, rfl⟩ : ∃ ao n' cap, v' = .slice ao n' cap := by
    rcases hown'.2 with ⟨hv, _⟩ | ⟨g, cap, cur, hv, _⟩
    · exact ⟨_, _, _, hv⟩
    · exact ⟨_, _, _, hv⟩
  go_wp2
  go_ret2
  refine ⟨rfl, ?_, ?_, (hk1.grown hgrow (ownsRow_kind hown)).setCell ⟨b, 1, none⟩ rfl _⟩
  · exact Lib.BuilderAt.put (T := 48) (e := 5) hB hb2 (bs' := bs ++ Lib.strCells s) (by simpa [Lib.strCells_length] using hown') (by decide)
  · exact (hb1.grown hgrow (by have := hb1.size; omega) (fun k hk => (hown.lt k hk).1)).setCell (p := ⟨b, 1, none⟩) hB _

end Go.Proofs.YtldllbmbcnipoaaDoor.Sp
