/-
  CONTRACTS of the document's all and Right (emendationref10).
-/
import Derived.Test.YtpenjdnbnacebaaDoorBtOne
import Derived.Test.YtpenjdnbnacebaaDoorBtDeep
import Derived.Test.YtpenjdnbnacebaaDoorSpAll
namespace Go.Proofs.YtpenjdnbnacebaaDoor.Bt
open Go.RowKit
open Go.Proofs.YtpenjdnbnacebaaDoor.Tk (S S_of S_list S_size S_toList ret_int Rd)
open Go.Proofs.YtpenjdnbnacebaaDoor.Cm (calls_at alloc_new cell_at)
open Go.Proofs.YtpenjdnbnacebaaDoor.Sp (Sp Tr ret_bool OkAns)
open Go.Proofs.YtpenjdnbnacebaaDoor.Bk (Bk)
set_option linter.unusedVariables false

/-- The kind ahead of place j. -/
def pkAt (l : List Bk) : Nat → Int
  | 0 => 0
  | j + 1 => (l[j]?.map Bk.kind).getD 0
theorem pkAt_next (l : List Bk) (j : Nat) (h : j < l.length) : pkAt l (j + 1) = l[j].kind := by
  show (l[j]?.map Bk.kind).getD 0 = _
  rw [List.getElem?_eq_getElem h]
  rfl
theorem ttAll_mem : ∀ {l : List Bk} {x : Bk}, x ∈ l → ttOne x ≤ ttAll l
  | [], x, h => by cases h
  | y :: r, x, h => by
    rw [ttAll_cons]
    rcases List.mem_cons.1 h with rfl | h
    · omega
    · have := ttAll_mem h; omega

set_option maxHeartbeats 6400000 in
set_option maxRecDepth 100000 in
theorem rall_any (m : Nat) : ∀ (l : List Bk) (ls : Bool) (v : Value) (w : World), szAll l ≤ m → fitAll 140737488355328 l → ttAll l ≤ 9000000 → TrB w v l →
    Calls Tryd.prog 45 #[v, .bool ls] w (OkAns w (allB ls 0 l)) := by
  induction m using Nat.strongRecOn with
  | ind m ih =>
    intro l ls v w hm hf htt ht
    obtain ⟨ao, ca, rfl⟩ := ht.len
    have HT := Lib.hid ht
    have hlen := ht.short
    have HO : Hid (∀ j (hj : j < l.length) (al as' ak : Option Addr) (cl cs ck : Nat) (w' : World), Rd w' (.slice al l[j].lines.length cl) l[j].lines → l[j].lines.length ≤ 9223372036854775807 → Tr w' (.slice as' l[j].spans.length cs) l[j].spans → TrB w' (.slice ak l[j].kids.length ck) l[j].kids →
        Calls Tryd.prog 59 #[.agg #[.int .i64 l[j].kind, .int .i64 l[j].level, .string (S l[j].info), .slice al l[j].lines.length cl, .slice as' l[j].spans.length cs, .slice ak l[j].kids.length ck], .bool ls] w' (OkAns w' (oneB ls l[j]))) := Lib.hid (fun j hj al as' ak cl cs ck w' hrd hsh hsp htk => by
      have hfx := fitAll_at hf l[j] (List.getElem_mem hj)
      have htx := ttAll_mem (List.getElem_mem hj)
      rw [ttOne_eq] at htx
      refine oneB_of l[j] ls al as' ak cl cs ck w' hfx (by omega) hrd hsh hsp (fun b w'' hb => ?_)
      exact ih (szAll l[j].kids) (Nat.lt_of_lt_of_le (szAll_kids (List.getElem_mem hj)) hm) l[j].kids b _ w'' (Nat.le_refl _) (fitOne_eq.1 hfx).2.2.2.2.2 (by omega) (htk.below hb))
    have H0 : Hid (allB ls 0 l = allB ls (pkAt l 0) (l.drop 0)) := Lib.hid (by rw [List.drop_zero]; rfl)
    obtain ⟨X, hX⟩ : ∃ X, allB ls 0 l = X := ⟨_, rfl⟩
    rw [hX] at H0
    rw [hX]
    clear ih ht hm hX hf htt
    go_enter Tryd.func45, Tryd.ntmps45
    go_wp2_with fail
    go_loopw [8] (fun i wr => ∃ j : Nat, j ≤ l.length ∧ i = .int .i64 j ∧ Hid (Below w.heap.size w wr) ∧ Hid (X = allB ls (pkAt l j) (l.drop j))) (fun i _ => l.length - (intOf i).toNat)
    case atStart => exact ⟨0, Nat.zero_le _, rfl, Lib.hid (Below.refl _ _), H0⟩
    case round =>
      clear H0
      obtain ⟨j, hj, rfl, HB, HN⟩ := hrel
      by_cases hlt : j < l.length
      · have hnx := HN.out
        rw [drop_cons l j hlt, allB_cons] at hnx
        have hi1 : (j : Int) < (l.length : Int) := by omega
        obtain ⟨b, o, vl, vs, ak, ck, rfl, hbl, hC⟩ := (HT.out.below HB.out).at j hlt
        obtain ⟨al, cl, rfl⟩ := hC.rd.len
        obtain ⟨as', cs, rfl⟩ := hC.sp.len
        have c0 := hC.kind
        have c1 := hC.level
        have c2 := hC.info
        have c3 := hC.lines
        have c4 := hC.spans
        have c5 := hC.kids
        have HC := Lib.hid (HO.out j hlt al as' ak cl cs ck wr hC.rd hC.short hC.sp hC.tr)
        have HK0 : Hid (∀ w', Below wr.heap.size wr w' → w'.cell? ⟨b, o + j * 6, none⟩ = some (.int .i64 l[j].kind)) := Lib.hid (fun w' h => (h.cell (by exact hbl)).trans c0)
        have HKp : Hid (∀ w', Below wr.heap.size wr w' → 0 < j → w'.cell? ⟨b, o + (j - 1) * 6, none⟩ = some (.int .i64 (pkAt l j))) := Lib.hid (fun w' h h0 => by
          obtain ⟨b', o', vl', vs', ak', ck', hao, _, hD⟩ := (HT.out.below (HB.out.trans (h.mono HB.out.size))).at (j - 1) (by omega)
          simp only [Option.some.injEq, Addr.mk.injEq, and_true] at hao
          obtain ⟨rfl, rfl⟩ := hao
          have e := pkAt_next l (j - 1) (by omega)
          rw [show j - 1 + 1 = j by omega] at e
          rw [e]
          exact hD.kind)
        have hp0 : j = 0 → pkAt l j = 0 := fun h => by rw [h]; rfl
        have HQ := Lib.hid hnx
        obtain ⟨q, hq⟩ : ∃ q, l[j].kind = q := ⟨_, rfl⟩
        obtain ⟨p, hp⟩ : ∃ p, pkAt l j = p := ⟨_, rfl⟩
        have hq' : pkAt l (j + 1) = q := by rw [pkAt_next l j hlt, hq]
        rw [hp] at hp0 HKp
        rw [hq] at HC HK0 c0
        rw [hp] at HQ
        clear hnx HN hC hp HO
        generalize l[j].lines.length = ln at *
        generalize l[j].spans.length = sn at *
        generalize l[j].kids.length = kn at *
        generalize l[j].level = lv at *
        generalize S l[j].info = si at *
        generalize oneB ls l[j] = ok at *
        rw [hq] at HQ
        clear hq
        go_wp2_with fail
        refine HC.out.mono ?_
        rintro e w5 ⟨rfl, b5⟩
        have HB5 := Lib.hid (HB.out.trans (b5.mono HB.out.size))
        have k0 := HK0.out _ b5
        have kp := HKp.out _ b5
        clear HC HK0 HKp b5 c0 c1 c2 c3 c4 c5
        cases ok with
        | false =>
          have HR : Hid (X = false) := Lib.hid (by rw [HQ.out]; simp)
          clear HQ
          go_wp2_with fail
          go_ret
          exact ⟨ret_bool HR.out.symm, HB5.out⟩
        | true =>
          by_cases hj0 : j = 0
          · have HR : Hid (X = allB ls (pkAt l (j + 1)) (l.drop (j + 1))) := Lib.hid (by rw [HQ.out, hp0 hj0, hq']; simp)
            have g0 : decide ((j : Int) > 0) = false := decide_eq_false (by omega)
            have g1 : decide (0 < (j : Int)) = false := decide_eq_false (by omega)
            have g2 : decide (0 < j) = false := decide_eq_false (by omega)
            have g3 : ¬ 0 < j := by omega
            clear HQ hp0 hq' kp k0 hj0
            go_wp2_with fail
            go_roundw
            case rel => exact ⟨j + 1, by omega, by go_num, HB5, HR⟩
            case measure => simp [intOf] <;> omega
          · have k1 := kp (by omega)
            have g0 : decide ((j : Int) > 0) = true := decide_eq_true (by omega)
            have g1 : decide (0 < (j : Int)) = true := decide_eq_true (by omega)
            have g2 : decide (0 < j) = true := decide_eq_true (by omega)
            have g3 : 0 < j := by omega
            have wj : IntKind.i64.wrap ((j : Int) - 1) = ((j - 1 : Nat) : Int) := by rw [IntKind.wrap_i64]; omega
            have wj1 : ((j - 1 : Nat) : Int) < (l.length : Int) := by omega
            by_cases q6 : q = 6
            · have f6 : (q == 6) = true := by rw [q6]; rfl
              by_cases p6 : p = 6
              · have h6 : (p == 6) = true := by rw [p6]; rfl
                have HR : Hid (X = false) := Lib.hid (by rw [HQ.out, decide_eq_true p6, decide_eq_true q6]; simp)
                clear HQ hp0 hq' kp hj0 q6 p6
                go_wp2_with fail
                go_ret
                exact ⟨ret_bool HR.out.symm, HB5.out⟩
              · have h6 : (p == 6) = false := beq_eq_false_iff_ne.2 p6
                have HR : Hid (X = allB ls (pkAt l (j + 1)) (l.drop (j + 1))) := Lib.hid (by rw [HQ.out, decide_eq_false p6, hq']; simp)
                clear HQ hp0 hq' kp hj0 q6 p6
                go_wp2_with fail
                go_roundw
                case rel => exact ⟨j + 1, by omega, by go_num, HB5, HR⟩
                case measure => simp [intOf] <;> omega
            · have f6 : (q == 6) = false := beq_eq_false_iff_ne.2 q6
              have HR : Hid (X = allB ls (pkAt l (j + 1)) (l.drop (j + 1))) := Lib.hid (by rw [HQ.out, decide_eq_false q6, hq']; simp)
              clear HQ hp0 hq' kp hj0 q6
              go_wp2_with fail
              go_roundw
              case rel => exact ⟨j + 1, by omega, by go_num, HB5, HR⟩
              case measure => simp [intOf] <;> omega
      · obtain rfl : j = l.length := by omega
        have hnx := HN.out
        rw [List.drop_length] at hnx
        have HR : Hid (X = true) := Lib.hid (by rw [hnx]; unfold allB; rfl)
        clear hnx HN hlt
        go_wp2_with fail
        go_ret
        exact ⟨ret_bool HR.out.symm, HB.out⟩

def rgB (l : List Bk) : Bool := allB false 0 l && decide (dp l ≤ 16)
theorem rrightB_any (l : List Bk) (v : Value) (w : World) (hf : fitAll 140737488355328 l) (htt : ttAll l ≤ 9000000) (ht : TrB w v l) :
    Calls Tryd.prog 26 #[v] w (OkAns w (rgB l)) := by
  have HA := Lib.hid (rall_any (szAll l) l false v w (Nat.le_refl _) hf htt ht)
  have HD := Lib.hid (fun w' (h : Below w.heap.size w w') => rdeep_any (szAll l) l v w' (Nat.le_refl _) (ht.below h))
  have HX : Hid (rgB l = (allB false 0 l && decide (dp l ≤ 16))) := Lib.hid rfl
  obtain ⟨X, hX⟩ : ∃ X, rgB l = X := ⟨_, rfl⟩
  rw [hX] at HX ⊢
  clear hX ht hf htt
  generalize allB false 0 l = y at *
  generalize dp l = d at *
  go_enter Tryd.func26, Tryd.ntmps26
  go_wp2_with fail
  refine HA.out.mono ?_
  rintro e w1 ⟨rfl, b1⟩
  have HB := Lib.hid b1
  clear HA b1
  cases y with
  | false =>
    go_wp2_with fail
    go_ret
    exact ⟨ret_bool (by rw [HX.out]; simp), HB.out⟩
  | true =>
    go_wp2_with fail
    refine (HD.out _ HB.out).mono ?_
    rintro e w2 ⟨rfl, rfl⟩
    clear HD
    go_wp2_with fail
    go_ret
    exact ⟨ret_bool (by rw [HX.out]; simp), HB.out⟩

end Go.Proofs.YtpenjdnbnacebaaDoor.Bt
