import Derived.Test.YthpnbialpkkpgaaGreatDoorPkU
import Derived.Test.YthpnbialpkkpgaaGreatDoorPkV
import Derived.Test.YthpnbialpkkpgaaGreatDoorPkE
import Derived.Deep.Cut
import Derived.Deep.CutRange
import Derived.Deep.CutBlock
namespace Go.Proofs.YthpnbialpkkpgaaGreatDoor.Bt
open Go.RowKit
open Go.Proofs.YthpnbialpkkpgaaGreatDoor.Tk (S S_of S_list S_size S_toList ret_int Rd)
open Go.Proofs.YthpnbialpkkpgaaGreatDoor.Cm (calls_at alloc_new cell_at)
open Go.Proofs.YthpnbialpkkpgaaGreatDoor.Sp (Sp Tr hsB rtB plAll dsB ret_bool OkAns isEmpty_len rright_any rplain_any dest_any)
open Go.Proofs.YthpnbialpkkpgaaGreatDoor.Bk (Bk)
set_option linter.unusedVariables false
mutual
def oneB (list : Bool) : Bk → Bool
  | .mk k lv i ls ss l => (decide (k = 7) == list) && (
    if k = 1 then (lv == 0) && i.isEmpty && ls.isEmpty && l.isEmpty && !ss.isEmpty && rtB ss
    else if k = 2 then i.isEmpty && ls.isEmpty && l.isEmpty && decide (lv ≥ 1) && decide (lv ≤ 6) && rtB ss && !hsB 10 (plAll ss)
    else if k = 3 then (lv == 0) && i.isEmpty && ls.isEmpty && ss.isEmpty && l.isEmpty
    else if k = 4 then ls.all lineB && ((lv == 0) && ss.isEmpty && l.isEmpty && infB i)
    else if k = 5 then (lv == 0) && i.isEmpty && ls.isEmpty && ss.isEmpty && allB false 0 l
    else if k = 7 then (lv == 0) && i.isEmpty && ls.isEmpty && ss.isEmpty && allB false 0 l
    else if k = 6 then (lv == 0) && i.isEmpty && ls.isEmpty && ss.isEmpty && !l.isEmpty && allB true 0 l
    else if k = 8 then (lv == 0) && ss.isEmpty && l.isEmpty && labB i && decide (ls.length = 1) && dsB (ls.headD [])
    else false)
def allB (list : Bool) (p : Int) : List Bk → Bool
  | [] => true
  | x :: r => oneB list x && !(decide (p = 6) && decide (x.kind = 6)) && allB list x.kind r
end
theorem allB_cons (list : Bool) (p : Int) (x : Bk) (r : List Bk) : allB list p (x :: r) = (oneB list x && !(decide (p = 6) && decide (x.kind = 6)) && allB list x.kind r) := by rw [allB]
set_option maxHeartbeats 12800000 in
set_option maxRecDepth 100000 in
theorem oneB_of (x : Bk) (list : Bool) (al as' ak : Option Addr) (cl cs ck : Nat) (w : World) (hf : fitOne 140737488355328 x) (ht : Sp.totAll x.spans ≤ 9000000) (hrd : Rd w (.slice al x.lines.length cl) x.lines) (hsh : x.lines.length ≤ 9223372036854775807) (hsp : Tr w (.slice as' x.spans.length cs) x.spans)
    (IH : ∀ (b : Bool) (w' : World), Below w.heap.size w w' → Calls Tryz.prog 31 #[.slice ak x.kids.length ck, .bool b] w' (OkAns w' (allB b 0 x.kids))) :
    Calls Tryz.prog 56 #[.agg #[.int .i64 x.kind, .int .i64 x.level, .string (S x.info), .slice al x.lines.length cl, .slice as' x.spans.length cs, .slice ak x.kids.length ck], .bool list] w (OkAns w (oneB list x)) := by
  have HA := Lib.hid (IH false)
  have HA' := Lib.hid (IH true)
  obtain ⟨q, lv, i, ls, ss, l⟩ := x
  simp only [Bk.kind, Bk.level, Bk.info, Bk.lines, Bk.spans, Bk.kids] at HA HA' hrd hsh hsp ht ⊢
  have hf' := hf
  rw [fitOne] at hf'
  obtain ⟨_, hlv, hi, hls, hss, _⟩ := hf'
  have HX : Hid (oneB list (.mk q lv i ls ss l) = ((decide (q = 7) == list) && (
    if q = 1 then (lv == 0) && i.isEmpty && ls.isEmpty && l.isEmpty && !ss.isEmpty && rtB ss
    else if q = 2 then i.isEmpty && ls.isEmpty && l.isEmpty && decide (lv ≥ 1) && decide (lv ≤ 6) && rtB ss && !hsB 10 (plAll ss)
    else if q = 3 then (lv == 0) && i.isEmpty && ls.isEmpty && ss.isEmpty && l.isEmpty
    else if q = 4 then ls.all lineB && ((lv == 0) && ss.isEmpty && l.isEmpty && infB i)
    else if q = 5 then (lv == 0) && i.isEmpty && ls.isEmpty && ss.isEmpty && allB false 0 l
    else if q = 7 then (lv == 0) && i.isEmpty && ls.isEmpty && ss.isEmpty && allB false 0 l
    else if q = 6 then (lv == 0) && i.isEmpty && ls.isEmpty && ss.isEmpty && !l.isEmpty && allB true 0 l
    else if q = 8 then (lv == 0) && ss.isEmpty && l.isEmpty && labB i && decide (ls.length = 1) && dsB (ls.headD [])
    else false))) := Lib.hid (by rw [oneB])
  have hsz : (S i).size ≤ 140737488355328 := by rw [S_size]; exact hi
  have HR := Lib.hid (fun w' (h : Below w.heap.size w w') => rright_any ss _ w' hss (hsp.below h))
  have HP := Lib.hid (fun w' (h : Below w.heap.size w w') => rplain_any (Sp.totAll ss) ss _ w' (Nat.le_refl _) ht (hsp.below h))
  have hpl : (S (plAll ss)).size ≤ 140737488355328 := by rw [S_size]; have := Sp.plAll_len ss; omega
  have H10 := Lib.hid (fun w' => has_any (S (plAll ss)) 10 hpl w')
  have HL := Lib.hid (fun w' => label_any (S i) hsz w')
  have HI := Lib.hid (fun w' => info_any (S i) hsz w')
  have HLn := Lib.hid (fun k (hk : k < ls.length) w' => line_any (S ls[k]) (by rw [S_size]; exact hls _ (List.getElem_mem hk)) w')
  have HD := Lib.hid (fun (hk : 0 < ls.length) w' => dest_any (S ls[0]) (by rw [S_size]; exact hls _ (List.getElem_mem hk)) w')
  have HRd := Lib.hid (fun w' (h : Below w.heap.size w w') => Rd.at (hrd.below h))
  simp only [S_list] at H10 HL HI HLn HD
  have em1 : (S i).toList.isEmpty = i.isEmpty := by rw [S_toList]
  have em2 : ((S i).toList == ([] : List UInt8)) = i.isEmpty := by rw [S_toList]; cases i <;> rfl
  have g3 := isEmpty_len ls
  have g4 := isEmpty_len ss
  have g5 := isEmpty_len l
  have HX8 : Hid (dsB (ls.headD []) = if h : 0 < ls.length then dsB ls[0] else dsB []) := Lib.hid (by cases ls <;> rfl)
  have H4 : Hid (ls.all lineB = (ls.drop 0).all lineB) := Lib.hid (by rw [List.drop_zero])
  obtain ⟨X, hX⟩ : ∃ X, oneB list (.mk q lv i ls ss l) = X := ⟨_, rfl⟩
  rw [hX] at HX ⊢
  obtain ⟨L4, hL4⟩ : ∃ L4, ls.all lineB = L4 := ⟨_, rfl⟩
  rw [hL4] at HX H4
  clear IH hX hf hrd hsp ht hss hi hls hsz hpl hL4
  generalize rtB ss = rt at *
  generalize hsB 10 (plAll ss) = t10 at *
  generalize labB i = lb at *
  generalize infB i = nf at *
  generalize allB false 0 l = y0 at *
  generalize allB true 0 l = y1 at *
  generalize i.isEmpty = n2 at *
  obtain ⟨n3, hn3⟩ : ∃ b, ls.isEmpty = b := ⟨_, rfl⟩
  rw [hn3] at HX g3
  clear hn3
  generalize ss.isEmpty = n4 at *
  generalize l.isEmpty = n5 at *
  generalize S (plAll ss) = ps at *
  generalize l.length = kn at *
  generalize ss.length = sn at *
  generalize S i = si at *
  obtain ⟨n1, hn1⟩ : ∃ b, (lv == 0) = b := ⟨_, rfl⟩
  rw [hn1] at HX
  go_enter Tryz.func56, Tryz.ntmps56
  go_upto_region 1 with fail
  have HC1 := Lib.hid (alloc_new w (.cells #[.int .i64 q, .int .i64 lv, .string si, .slice al ls.length cl, .slice as' sn cs, .slice ak kn ck] 46))
  have HB1 := Lib.hid ((Below.refl w.heap.size w).alloc (Nat.le_refl _) (.cells #[.int .i64 q, .int .i64 lv, .string si, .slice al ls.length cl, .slice as' sn cs, .slice ak kn ck] 46))
  have hlt1 : w.heap.size < (w.alloc (.cells #[.int .i64 q, .int .i64 lv, .string si, .slice al ls.length cl, .slice as' sn cs, .slice ak kn ck] 46)).heap.size := by simp
  generalize w.alloc (.cells #[.int .i64 q, .int .i64 lv, .string si, .slice al ls.length cl, .slice as' sn cs, .slice ak kn ck] 46) = w1 at *
  have k0 : w1.cell? ⟨w.heap.size, 0, none⟩ = some (.int .i64 q) := cell_at HC1.out 0
  have k1 : w1.cell? ⟨w.heap.size, 1, none⟩ = some (.int .i64 lv) := cell_at HC1.out 1
  have k2 : w1.cell? ⟨w.heap.size, 2, none⟩ = some (.string si) := cell_at HC1.out 2
  have k3 : w1.cell? ⟨w.heap.size, 3, none⟩ = some (.slice al ls.length cl) := cell_at HC1.out 3
  have k4 : w1.cell? ⟨w.heap.size, 4, none⟩ = some (.slice as' sn cs) := cell_at HC1.out 4
  have k5 : w1.cell? ⟨w.heap.size, 5, none⟩ = some (.slice ak kn ck) := cell_at HC1.out 5
  have HK4 := Lib.hid (fun w' (h : Below w1.heap.size w1 w') => (h.cell (p := ⟨w.heap.size, 4, none⟩) (by exact hlt1)).trans k4)
  clear HC1
  by_cases q7 : q = 7
  · have f7 : (q == 7) = true := by rw [q7]; rfl
    rw [decide_eq_true q7] at HX
    cases list with
    | false =>
      have HR0 : Hid (X = false) := Lib.hid (by rw [HX.out]; simp)
      clear HX
      go_wp2_with fail
      go_ret
      exact ⟨ret_bool HR0.out.symm, HB1.out⟩
    | true =>
      have HX7 : Hid (X = (n1 && n2 && n3 && n4 && y0)) := Lib.hid (by rw [HX.out, q7]; simp)
      clear HX
      have f1 : (q == 1) = false := beq_eq_false_iff_ne.2 (by omega)
      have f2 : (q == 2) = false := beq_eq_false_iff_ne.2 (by omega)
      have f3 : (q == 3) = false := beq_eq_false_iff_ne.2 (by omega)
      have f4 : (q == 4) = false := beq_eq_false_iff_ne.2 (by omega)
      have f5 : (q == 5) = false := beq_eq_false_iff_ne.2 (by omega)
      have f6 : (q == 6) = false := beq_eq_false_iff_ne.2 (by omega)
      have f8 : (q == 8) = false := beq_eq_false_iff_ne.2 (by omega)
      go_wp2_with fail
      go_quiet (fail)
      have HB2 := Lib.hid (below_drewN HB1.out nq)
      have HD2 := Lib.hid (below_drewN (Below.refl w1.heap.size w1) nq)
      cases n1 with
      | false =>
        go_wp2_with fail
        go_ret
        exact ⟨ret_bool (by rw [HX7.out]; simp), HB2.out⟩
      | true =>
        cases n2 with
        | false =>
          go_wp2_with fail
          go_ret
          exact ⟨ret_bool (by rw [HX7.out]; simp), HB2.out⟩
        | true =>
          cases n3 with
          | false =>
            go_wp2_with fail
            go_ret
            exact ⟨ret_bool (by rw [HX7.out]; simp), HB2.out⟩
          | true =>
            cases n4 with
            | false =>
              go_wp2_with fail
              go_ret
              exact ⟨ret_bool (by rw [HX7.out]; simp), HB2.out⟩
            | true =>
              go_wp2_with fail
              refine (HA.out _ HB2.out).mono ?_
              rintro e w9 ⟨rfl, b9⟩
              have HB2' := Lib.hid (HB2.out.trans (b9.mono HB2.out.size))
              go_wp2_with fail
              go_ret
              exact ⟨ret_bool (by rw [HX7.out]; simp), HB2'.out⟩
  · have f7 : (q == 7) = false := beq_eq_false_iff_ne.2 q7
    rw [decide_eq_false q7] at HX
    cases list with
    | true =>
      have HR0 : Hid (X = false) := Lib.hid (by rw [HX.out]; simp)
      clear HX
      go_wp2_with fail
      go_ret
      exact ⟨ret_bool HR0.out.symm, HB1.out⟩
    | false =>
      by_cases q1 : q = 1
      · have HXk : Hid (X = (n1 && n2 && n3 && n5 && !n4 && rt)) := Lib.hid (by rw [HX.out, q1]; simp)
        clear HX
        have f1 : (q == 1) = true := by rw [q1]; rfl
        have f2 : (q == 2) = false := beq_eq_false_iff_ne.2 (by omega)
        have f3 : (q == 3) = false := beq_eq_false_iff_ne.2 (by omega)
        have f4 : (q == 4) = false := beq_eq_false_iff_ne.2 (by omega)
        have f5 : (q == 5) = false := beq_eq_false_iff_ne.2 (by omega)
        have f6 : (q == 6) = false := beq_eq_false_iff_ne.2 (by omega)
        have f8 : (q == 8) = false := beq_eq_false_iff_ne.2 (by omega)
        go_wp2_with fail
        go_quiet (fail)
        have HB2 := Lib.hid (below_drewN HB1.out nq)
        have HD2 := Lib.hid (below_drewN (Below.refl w1.heap.size w1) nq)
        cases n1 with
        | false =>
          go_wp2_with fail
          go_ret
          exact ⟨ret_bool (by rw [HXk.out]; simp), HB2.out⟩
        | true =>
          cases n2 with
          | false =>
            go_wp2_with fail
            go_ret
            exact ⟨ret_bool (by rw [HXk.out]; simp), HB2.out⟩
          | true =>
            cases n3 with
            | false =>
              go_wp2_with fail
              go_ret
              exact ⟨ret_bool (by rw [HXk.out]; simp), HB2.out⟩
            | true =>
              cases n5 with
              | false =>
                go_wp2_with fail
                go_ret
                exact ⟨ret_bool (by rw [HXk.out]; simp), HB2.out⟩
              | true =>
                cases n4 with
                | false =>
                  go_wp2_with fail
                  refine (HR.out _ HB2.out).mono ?_
                  rintro e w9 ⟨rfl, b9⟩
                  have HB2' := Lib.hid (HB2.out.trans (b9.mono HB2.out.size))
                  go_wp2_with fail
                  go_ret
                  exact ⟨ret_bool (by rw [HXk.out]; simp), HB2'.out⟩
                | true =>
                  go_wp2_with fail
                  go_ret
                  exact ⟨ret_bool (by rw [HXk.out]; simp), HB2.out⟩
      ·
        by_cases q2 : q = 2
        · obtain ⟨c1, hc1⟩ : ∃ b, decide (lv ≥ 1) = b := ⟨_, rfl⟩
          have hc1' : decide (1 ≤ lv) = c1 := hc1
          obtain ⟨c6, hc6⟩ : ∃ b, decide (lv ≤ 6) = b := ⟨_, rfl⟩
          rw [hc1, hc6] at HX
          have HXk : Hid (X = (n2 && n3 && n5 && c1 && c6 && rt && !t10)) := Lib.hid (by rw [HX.out, q2]; simp)
          clear HX
          have f1 : (q == 1) = false := beq_eq_false_iff_ne.2 (by omega)
          have f2 : (q == 2) = true := by rw [q2]; rfl
          have f3 : (q == 3) = false := beq_eq_false_iff_ne.2 (by omega)
          have f4 : (q == 4) = false := beq_eq_false_iff_ne.2 (by omega)
          have f5 : (q == 5) = false := beq_eq_false_iff_ne.2 (by omega)
          have f6 : (q == 6) = false := beq_eq_false_iff_ne.2 (by omega)
          have f8 : (q == 8) = false := beq_eq_false_iff_ne.2 (by omega)
          go_wp2_with fail
          go_quiet (fail)
          have HB2 := Lib.hid (below_drewN HB1.out nq)
          have HD2 := Lib.hid (below_drewN (Below.refl w1.heap.size w1) nq)
          cases n2 with
          | false =>
            go_wp2_with fail
            go_ret
            exact ⟨ret_bool (by rw [HXk.out]; simp), HB2.out⟩
          | true =>
            cases n3 with
            | false =>
              go_wp2_with fail
              go_ret
              exact ⟨ret_bool (by rw [HXk.out]; simp), HB2.out⟩
            | true =>
              cases n5 with
              | false =>
                go_wp2_with fail
                go_ret
                exact ⟨ret_bool (by rw [HXk.out]; simp), HB2.out⟩
              | true =>
                cases c1 with
                | false =>
                  go_wp2_with fail
                  go_ret
                  exact ⟨ret_bool (by rw [HXk.out]; simp), HB2.out⟩
                | true =>
                  cases c6 with
                  | false =>
                    go_wp2_with fail
                    go_ret
                    exact ⟨ret_bool (by rw [HXk.out]; simp), HB2.out⟩
                  | true =>
                    go_wp2_with fail
                    refine (HR.out _ HB2.out).mono ?_
                    rintro e w9 ⟨rfl, b9⟩
                    have HB2' := Lib.hid (HB2.out.trans (b9.mono HB2.out.size))
                    have k4' := HK4.out _ (HD2.out.trans (b9.mono HD2.out.size))
                    cases rt with
                    | false =>
                      go_wp2_with fail
                      go_ret
                      exact ⟨ret_bool (by rw [HXk.out]; simp), HB2'.out⟩
                    | true =>
                      go_wp2_with fail
                      refine (HP.out _ HB2'.out).mono ?_
                      rintro e w9 ⟨rfl, rfl⟩
                      go_wp2_with fail
                      refine (H10.out _).mono ?_
                      rintro e w9 ⟨rfl, rfl⟩
                      go_wp2_with fail
                      go_ret
                      exact ⟨ret_bool (by rw [HXk.out]; simp), HB2'.out⟩
        ·
          by_cases q3 : q = 3
          · have HXk : Hid (X = (n1 && n2 && n3 && n4 && n5)) := Lib.hid (by rw [HX.out, q3]; simp)
            clear HX
            have f1 : (q == 1) = false := beq_eq_false_iff_ne.2 (by omega)
            have f2 : (q == 2) = false := beq_eq_false_iff_ne.2 (by omega)
            have f3 : (q == 3) = true := by rw [q3]; rfl
            have f4 : (q == 4) = false := beq_eq_false_iff_ne.2 (by omega)
            have f5 : (q == 5) = false := beq_eq_false_iff_ne.2 (by omega)
            have f6 : (q == 6) = false := beq_eq_false_iff_ne.2 (by omega)
            have f8 : (q == 8) = false := beq_eq_false_iff_ne.2 (by omega)
            go_wp2_with fail
            go_quiet (fail)
            have HB2 := Lib.hid (below_drewN HB1.out nq)
            have HD2 := Lib.hid (below_drewN (Below.refl w1.heap.size w1) nq)
            cases n1 with
            | false =>
              go_wp2_with fail
              go_ret
              exact ⟨ret_bool (by rw [HXk.out]; simp), HB2.out⟩
            | true =>
              cases n2 with
              | false =>
                go_wp2_with fail
                go_ret
                exact ⟨ret_bool (by rw [HXk.out]; simp), HB2.out⟩
              | true =>
                cases n3 with
                | false =>
                  go_wp2_with fail
                  go_ret
                  exact ⟨ret_bool (by rw [HXk.out]; simp), HB2.out⟩
                | true =>
                  cases n4 with
                  | false =>
                    go_wp2_with fail
                    go_ret
                    exact ⟨ret_bool (by rw [HXk.out]; simp), HB2.out⟩
                  | true =>
                    cases n5 with
                    | false =>
                      go_wp2_with fail
                      go_ret
                      exact ⟨ret_bool (by rw [HXk.out]; simp), HB2.out⟩
                    | true =>
                      go_wp2_with fail
                      go_ret
                      exact ⟨ret_bool (by rw [HXk.out]; simp), HB2.out⟩
          ·
            by_cases q4 : q = 4
            · have HXk : Hid (X = (L4 && (n1 && n4 && n5 && nf))) := Lib.hid (by rw [HX.out, q4]; simp)
              clear HX
              have f1 : (q == 1) = false := beq_eq_false_iff_ne.2 (by omega)
              have f2 : (q == 2) = false := beq_eq_false_iff_ne.2 (by omega)
              have f3 : (q == 3) = false := beq_eq_false_iff_ne.2 (by omega)
              have f4 : (q == 4) = true := by rw [q4]; rfl
              have f5 : (q == 5) = false := beq_eq_false_iff_ne.2 (by omega)
              have f6 : (q == 6) = false := beq_eq_false_iff_ne.2 (by omega)
              have f8 : (q == 8) = false := beq_eq_false_iff_ne.2 (by omega)
              go_wp2_with fail
              go_quiet (fail)
              have HB2 := Lib.hid (below_drewN HB1.out nq)
              have HD2 := Lib.hid (below_drewN (Below.refl w1.heap.size w1) nq)
              have HRl := Lib.hid (HRd.out _ HB2.out)
              have k0' : (w1.drewN nq).cell? ⟨w.heap.size, 0, none⟩ = some (.int .i64 q) := (HD2.out.cell (by exact hlt1)).trans k0
              have k3' : (w1.drewN nq).cell? ⟨w.heap.size, 3, none⟩ = some (.slice al ls.length cl) := (HD2.out.cell (by exact hlt1)).trans k3
              have k2' : (w1.drewN nq).cell? ⟨w.heap.size, 2, none⟩ = some (.string si) := (HD2.out.cell (by exact hlt1)).trans k2
              generalize w1.drewN nq = w2 at *
              clear q4 HX8 HP HR HL HD H10 HA HA' HRd k0 k1 k2 k3 k4 k5 HK4 HB1 HD2
              go_wp2_with fail
              go_loop [108] (fun i => ∃ j : Nat, j ≤ ls.length ∧ i = .int .i64 j ∧ Hid (L4 = (ls.drop j).all lineB)) (fun i => ls.length - (intOf i).toNat)
              case atStart => exact ⟨0, Nat.zero_le _, rfl, H4⟩
              case round =>
                clear H4
                obtain ⟨j, hj, rfl, HN⟩ := hrel
                by_cases hlt : j < ls.length
                · have hnx := HN.out
                  rw [List.drop_eq_getElem_cons hlt, List.all_cons] at hnx
                  have hj1 : (j : Int) < (ls.length : Int) := by omega
                  obtain ⟨bl, ol, rfl, kl⟩ := HRl.out j hlt
                  have HC := Lib.hid (HLn.out j hlt w2)
                  have HQ := Lib.hid hnx
                  clear hnx HN
                  generalize lineB ls[j] = y at *
                  generalize S ls[j] = sj at *
                  go_wp2_with fail
                  refine HC.out.mono ?_
                  rintro e w9 ⟨rfl, rfl⟩
                  clear HC
                  cases y with
                  | false =>
                    have HR0 : Hid (X = false) := Lib.hid (by rw [HXk.out, HQ.out]; simp)
                    go_wp2_with fail
                    go_ret
                    exact ⟨ret_bool HR0.out.symm, HB2.out⟩
                  | true =>
                    have HR0 : Hid (L4 = (ls.drop (j + 1)).all lineB) := Lib.hid (by rw [HQ.out]; simp)
                    go_wp2_with fail
                    go_round
                    case rel => exact ⟨j + 1, by omega, by go_num, HR0⟩
                    case measure => simp [intOf]; omega
                · obtain rfl : j = ls.length := by omega
                  have hnx := HN.out
                  rw [List.drop_length] at hnx
                  have HXl : Hid (X = (n1 && n4 && n5 && nf)) := Lib.hid (by rw [HXk.out, hnx]; simp)
                  clear hnx HN hlt
                  cases n1 with
                  | false =>
                    go_wp2_with fail
                    go_ret
                    exact ⟨ret_bool (by rw [HXl.out]; simp), HB2.out⟩
                  | true =>
                    cases n4 with
                    | false =>
                      go_wp2_with fail
                      go_ret
                      exact ⟨ret_bool (by rw [HXl.out]; simp), HB2.out⟩
                    | true =>
                      cases n5 with
                      | false =>
                        go_wp2_with fail
                        go_ret
                        exact ⟨ret_bool (by rw [HXl.out]; simp), HB2.out⟩
                      | true =>
                        go_wp2_with fail
                        refine (HI.out _).mono ?_
                        rintro e w9 ⟨rfl, rfl⟩
                        go_wp2_with fail
                        go_ret
                        exact ⟨ret_bool (by rw [HXl.out]; simp), HB2.out⟩
            ·
              by_cases q5 : q = 5
              · have HXk : Hid (X = (n1 && n2 && n3 && n4 && y0)) := Lib.hid (by rw [HX.out, q5]; simp)
                clear HX
                have f1 : (q == 1) = false := beq_eq_false_iff_ne.2 (by omega)
                have f2 : (q == 2) = false := beq_eq_false_iff_ne.2 (by omega)
                have f3 : (q == 3) = false := beq_eq_false_iff_ne.2 (by omega)
                have f4 : (q == 4) = false := beq_eq_false_iff_ne.2 (by omega)
                have f5 : (q == 5) = true := by rw [q5]; rfl
                have f6 : (q == 6) = false := beq_eq_false_iff_ne.2 (by omega)
                have f8 : (q == 8) = false := beq_eq_false_iff_ne.2 (by omega)
                go_wp2_with fail
                go_quiet (fail)
                have HB2 := Lib.hid (below_drewN HB1.out nq)
                have HD2 := Lib.hid (below_drewN (Below.refl w1.heap.size w1) nq)
                cases n1 with
                | false =>
                  go_wp2_with fail
                  go_ret
                  exact ⟨ret_bool (by rw [HXk.out]; simp), HB2.out⟩
                | true =>
                  cases n2 with
                  | false =>
                    go_wp2_with fail
                    go_ret
                    exact ⟨ret_bool (by rw [HXk.out]; simp), HB2.out⟩
                  | true =>
                    cases n3 with
                    | false =>
                      go_wp2_with fail
                      go_ret
                      exact ⟨ret_bool (by rw [HXk.out]; simp), HB2.out⟩
                    | true =>
                      cases n4 with
                      | false =>
                        go_wp2_with fail
                        go_ret
                        exact ⟨ret_bool (by rw [HXk.out]; simp), HB2.out⟩
                      | true =>
                        go_wp2_with fail
                        refine (HA.out _ HB2.out).mono ?_
                        rintro e w9 ⟨rfl, b9⟩
                        have HB2' := Lib.hid (HB2.out.trans (b9.mono HB2.out.size))
                        go_wp2_with fail
                        go_ret
                        exact ⟨ret_bool (by rw [HXk.out]; simp), HB2'.out⟩
              ·
                by_cases q6 : q = 6
                · have HXk : Hid (X = (n1 && n2 && n3 && n4 && !n5 && y1)) := Lib.hid (by rw [HX.out, q6]; simp)
                  clear HX
                  have f1 : (q == 1) = false := beq_eq_false_iff_ne.2 (by omega)
                  have f2 : (q == 2) = false := beq_eq_false_iff_ne.2 (by omega)
                  have f3 : (q == 3) = false := beq_eq_false_iff_ne.2 (by omega)
                  have f4 : (q == 4) = false := beq_eq_false_iff_ne.2 (by omega)
                  have f5 : (q == 5) = false := beq_eq_false_iff_ne.2 (by omega)
                  have f6 : (q == 6) = true := by rw [q6]; rfl
                  have f8 : (q == 8) = false := beq_eq_false_iff_ne.2 (by omega)
                  go_wp2_with fail
                  go_quiet (fail)
                  have HB2 := Lib.hid (below_drewN HB1.out nq)
                  have HD2 := Lib.hid (below_drewN (Below.refl w1.heap.size w1) nq)
                  cases n1 with
                  | false =>
                    go_wp2_with fail
                    go_ret
                    exact ⟨ret_bool (by rw [HXk.out]; simp), HB2.out⟩
                  | true =>
                    cases n2 with
                    | false =>
                      go_wp2_with fail
                      go_ret
                      exact ⟨ret_bool (by rw [HXk.out]; simp), HB2.out⟩
                    | true =>
                      cases n3 with
                      | false =>
                        go_wp2_with fail
                        go_ret
                        exact ⟨ret_bool (by rw [HXk.out]; simp), HB2.out⟩
                      | true =>
                        cases n4 with
                        | false =>
                          go_wp2_with fail
                          go_ret
                          exact ⟨ret_bool (by rw [HXk.out]; simp), HB2.out⟩
                        | true =>
                          cases n5 with
                          | false =>
                            go_wp2_with fail
                            refine (HA'.out _ HB2.out).mono ?_
                            rintro e w9 ⟨rfl, b9⟩
                            have HB2' := Lib.hid (HB2.out.trans (b9.mono HB2.out.size))
                            go_wp2_with fail
                            go_ret
                            exact ⟨ret_bool (by rw [HXk.out]; simp), HB2'.out⟩
                          | true =>
                            go_wp2_with fail
                            go_ret
                            exact ⟨ret_bool (by rw [HXk.out]; simp), HB2.out⟩
                ·
                  by_cases q8 : q = 8
                  · have HXk : Hid (X = (n1 && n4 && n5 && lb && decide (ls.length = 1) && dsB (ls.headD []))) := Lib.hid (by rw [HX.out, q8]; simp)
                    clear HX
                    have f1 : (q == 1) = false := beq_eq_false_iff_ne.2 (by omega)
                    have f2 : (q == 2) = false := beq_eq_false_iff_ne.2 (by omega)
                    have f3 : (q == 3) = false := beq_eq_false_iff_ne.2 (by omega)
                    have f4 : (q == 4) = false := beq_eq_false_iff_ne.2 (by omega)
                    have f5 : (q == 5) = false := beq_eq_false_iff_ne.2 (by omega)
                    have f6 : (q == 6) = false := beq_eq_false_iff_ne.2 (by omega)
                    have f8 : (q == 8) = true := by rw [q8]; rfl
                    go_wp2_with fail
                    go_quiet (fail)
                    have HB2 := Lib.hid (below_drewN HB1.out nq)
                    have HD2 := Lib.hid (below_drewN (Below.refl w1.heap.size w1) nq)
                    have HRl := Lib.hid (HRd.out _ HB2.out)
                    have k0' : (w1.drewN nq).cell? ⟨w.heap.size, 0, none⟩ = some (.int .i64 q) := (HD2.out.cell (by exact hlt1)).trans k0
                    have k3' : (w1.drewN nq).cell? ⟨w.heap.size, 3, none⟩ = some (.slice al ls.length cl) := (HD2.out.cell (by exact hlt1)).trans k3
                    have k2' : (w1.drewN nq).cell? ⟨w.heap.size, 2, none⟩ = some (.string si) := (HD2.out.cell (by exact hlt1)).trans k2
                    generalize w1.drewN nq = w2 at *
                    by_cases h1 : ls.length = 1
                    · have HXl : Hid (X = (n1 && n4 && n5 && lb && dsB (ls[0]'(by omega)))) := Lib.hid (by rw [HXk.out, decide_eq_true h1, HX8.out, dif_pos (by omega)]; simp)
                      have e1 : ((ls.length : Int) == 1) = true := by rw [h1]; rfl
                      have hp : (0 : Int) < (ls.length : Int) := by omega
                      obtain ⟨bl, ol, rfl, kl⟩ := HRl.out 0 (by omega)
                      rw [Nat.add_zero] at kl
                      have HDd := Lib.hid (HD.out (by omega) w2)
                      generalize dsB (ls[0]'(by omega)) = dd at *
                      generalize S (ls[0]'(by omega)) = sd at *
                      clear HXk HX8 HD h1 HRl
                      cases n1 with
                      | false =>
                        go_wp2_with fail
                        go_ret
                        exact ⟨ret_bool (by rw [HXl.out]; simp), HB2.out⟩
                      | true =>
                        cases n4 with
                        | false =>
                          go_wp2_with fail
                          go_ret
                          exact ⟨ret_bool (by rw [HXl.out]; simp), HB2.out⟩
                        | true =>
                          cases n5 with
                          | false =>
                            go_wp2_with fail
                            go_ret
                            exact ⟨ret_bool (by rw [HXl.out]; simp), HB2.out⟩
                          | true =>
                            go_wp2_with fail
                            refine (HL.out _).mono ?_
                            rintro e w9 ⟨rfl, rfl⟩
                            cases lb with
                            | false =>
                              go_wp2_with fail
                              go_ret
                              exact ⟨ret_bool (by rw [HXl.out]; simp), HB2.out⟩
                            | true =>
                              go_wp2_with fail
                              refine (HDd.out).mono ?_
                              rintro e w9 ⟨rfl, rfl⟩
                              go_wp2_with fail
                              go_ret
                              exact ⟨ret_bool (by rw [HXl.out]; simp), HB2.out⟩
                    · have HXl : Hid (X = (n1 && n4 && n5 && lb && false)) := Lib.hid (by rw [HXk.out, decide_eq_false h1]; simp)
                      have e1 : ((ls.length : Int) == 1) = false := beq_eq_false_iff_ne.2 (by omega)
                      clear HXk HX8 HD h1 HRl
                      cases n1 with
                      | false =>
                        go_wp2_with fail
                        go_ret
                        exact ⟨ret_bool (by rw [HXl.out]; simp), HB2.out⟩
                      | true =>
                        cases n4 with
                        | false =>
                          go_wp2_with fail
                          go_ret
                          exact ⟨ret_bool (by rw [HXl.out]; simp), HB2.out⟩
                        | true =>
                          cases n5 with
                          | false =>
                            go_wp2_with fail
                            go_ret
                            exact ⟨ret_bool (by rw [HXl.out]; simp), HB2.out⟩
                          | true =>
                            go_wp2_with fail
                            refine (HL.out _).mono ?_
                            rintro e w9 ⟨rfl, rfl⟩
                            cases lb with
                            | false =>
                              go_wp2_with fail
                              go_ret
                              exact ⟨ret_bool (by rw [HXl.out]; simp), HB2.out⟩
                            | true =>
                              go_wp2_with fail
                              go_ret
                              exact ⟨ret_bool (by rw [HXl.out]; simp), HB2.out⟩
                  · have HXk : Hid (X = false) := Lib.hid (by rw [HX.out, if_neg q1, if_neg q2, if_neg q3, if_neg q4, if_neg q5, if_neg q7, if_neg q6, if_neg q8]; simp)
                    clear HX
                    have f1 : (q == 1) = false := beq_eq_false_iff_ne.2 (by omega)
                    have f2 : (q == 2) = false := beq_eq_false_iff_ne.2 (by omega)
                    have f3 : (q == 3) = false := beq_eq_false_iff_ne.2 (by omega)
                    have f4 : (q == 4) = false := beq_eq_false_iff_ne.2 (by omega)
                    have f5 : (q == 5) = false := beq_eq_false_iff_ne.2 (by omega)
                    have f6 : (q == 6) = false := beq_eq_false_iff_ne.2 (by omega)
                    have f8 : (q == 8) = false := beq_eq_false_iff_ne.2 (by omega)
                    go_wp2_with fail
                    go_quiet (fail)
                    have HB2 := Lib.hid (below_drewN HB1.out nq)
                    have HD2 := Lib.hid (below_drewN (Below.refl w1.heap.size w1) nq)
                    go_wp2_with fail
                    go_ret
                    exact ⟨ret_bool HXk.out.symm, HB2.out⟩
end Go.Proofs.YthpnbialpkkpgaaGreatDoor.Bt
namespace Go.Proofs.YthpnbialpkkpgaaGreatDoor.Bt
open Go.RowKit
open Go.Proofs.YthpnbialpkkpgaaGreatDoor.Tk (S S_of S_list S_size S_toList ret_int Rd)
open Go.Proofs.YthpnbialpkkpgaaGreatDoor.Cm (calls_at alloc_new cell_at)
open Go.Proofs.YthpnbialpkkpgaaGreatDoor.Sp (Sp Tr ret_bool OkAns)
open Go.Proofs.YthpnbialpkkpgaaGreatDoor.Bk (Bk)
set_option linter.unusedVariables false
def pkAt (l : List Bk) : Nat → Int
  | 0 => 0
  | j + 1 => (l[j]?.map Bk.kind).getD 0
theorem pkAt_next (l : List Bk) (j : Nat) (h : j < l.length) : pkAt l (j + 1) = l[j].kind := by
  show (l[j]?.map Bk.kind).getD 0 = _
  rw [List.getElem?_eq_getElem h]
  rfl
theorem ttAll_mem : ∀ {l : List Bk} {x : Bk}, x ∈ l → ttOne x ≤ ttAll l
  | [], x, h => by cases h
  | y :: r, x, h => by
    rw [ttAll_cons]
    rcases List.mem_cons.1 h with rfl | h
    · omega
    · have := ttAll_mem h; omega
set_option maxHeartbeats 6400000 in
set_option maxRecDepth 100000 in
theorem rall_any (m : Nat) : ∀ (l : List Bk) (ls : Bool) (v : Value) (w : World), szAll l ≤ m → fitAll 140737488355328 l → ttAll l ≤ 9000000 → TrB w v l →
    Calls Tryz.prog 31 #[v, .bool ls] w (OkAns w (allB ls 0 l)) := by
  induction m using Nat.strongRecOn with
  | ind m ih =>
    intro l ls v w hm hf htt ht
    obtain ⟨ao, ca, rfl⟩ := ht.len
    have HT := Lib.hid ht
    have hlen := ht.short
    have HO : Hid (∀ j (hj : j < l.length) (al as' ak : Option Addr) (cl cs ck : Nat) (w' : World), Rd w' (.slice al l[j].lines.length cl) l[j].lines → l[j].lines.length ≤ 9223372036854775807 → Tr w' (.slice as' l[j].spans.length cs) l[j].spans → TrB w' (.slice ak l[j].kids.length ck) l[j].kids →
        Calls Tryz.prog 56 #[.agg #[.int .i64 l[j].kind, .int .i64 l[j].level, .string (S l[j].info), .slice al l[j].lines.length cl, .slice as' l[j].spans.length cs, .slice ak l[j].kids.length ck], .bool ls] w' (OkAns w' (oneB ls l[j]))) := Lib.hid (fun j hj al as' ak cl cs ck w' hrd hsh hsp htk => by
      have hfx := fitAll_at hf l[j] (List.getElem_mem hj)
      have htx := ttAll_mem (List.getElem_mem hj)
      rw [ttOne_eq] at htx
      refine oneB_of l[j] ls al as' ak cl cs ck w' hfx (by omega) hrd hsh hsp (fun b w'' hb => ?_)
      exact ih (szAll l[j].kids) (Nat.lt_of_lt_of_le (szAll_kids (List.getElem_mem hj)) hm) l[j].kids b _ w'' (Nat.le_refl _) (fitOne_eq.1 hfx).2.2.2.2.2 (by omega) (htk.below hb))
    have H0 : Hid (allB ls 0 l = allB ls (pkAt l 0) (l.drop 0)) := Lib.hid (by rw [List.drop_zero]; rfl)
    obtain ⟨X, hX⟩ : ∃ X, allB ls 0 l = X := ⟨_, rfl⟩
    rw [hX] at H0
    rw [hX]
    clear ih ht hm hX hf htt
    go_enter Tryz.func31, Tryz.ntmps31
    go_wp2_with fail
    go_loopw [8] (fun i wr => ∃ j : Nat, j ≤ l.length ∧ i = .int .i64 j ∧ Hid (Below w.heap.size w wr) ∧ Hid (X = allB ls (pkAt l j) (l.drop j))) (fun i _ => l.length - (intOf i).toNat)
    case atStart => exact ⟨0, Nat.zero_le _, rfl, Lib.hid (Below.refl _ _), H0⟩
    case round =>
      clear H0
      obtain ⟨j, hj, rfl, HB, HN⟩ := hrel
      by_cases hlt : j < l.length
      · have hnx := HN.out
        rw [drop_cons l j hlt, allB_cons] at hnx
        have hi1 : (j : Int) < (l.length : Int) := by omega
        obtain ⟨b, o, vl, vs, ak, ck, rfl, hbl, hC⟩ := (HT.out.below HB.out).at j hlt
        obtain ⟨al, cl, rfl⟩ := hC.rd.len
        obtain ⟨as', cs, rfl⟩ := hC.sp.len
        have c0 := hC.kind
        have c1 := hC.level
        have c2 := hC.info
        have c3 := hC.lines
        have c4 := hC.spans
        have c5 := hC.kids
        have HC := Lib.hid (HO.out j hlt al as' ak cl cs ck wr hC.rd hC.short hC.sp hC.tr)
        have HK0 : Hid (∀ w', Below wr.heap.size wr w' → w'.cell? ⟨b, o + j * 6, none⟩ = some (.int .i64 l[j].kind)) := Lib.hid (fun w' h => (h.cell (by exact hbl)).trans c0)
        have HKp : Hid (∀ w', Below wr.heap.size wr w' → 0 < j → w'.cell? ⟨b, o + (j - 1) * 6, none⟩ = some (.int .i64 (pkAt l j))) := Lib.hid (fun w' h h0 => by
          obtain ⟨b', o', vl', vs', ak', ck', hao, _, hD⟩ := (HT.out.below (HB.out.trans (h.mono HB.out.size))).at (j - 1) (by omega)
          simp only [Option.some.injEq, Addr.mk.injEq, and_true] at hao
          obtain ⟨rfl, rfl⟩ := hao
          have e := pkAt_next l (j - 1) (by omega)
          rw [show j - 1 + 1 = j by omega] at e
          rw [e]
          exact hD.kind)
        have hp0 : j = 0 → pkAt l j = 0 := fun h => by rw [h]; rfl
        have HQ := Lib.hid hnx
        obtain ⟨q, hq⟩ : ∃ q, l[j].kind = q := ⟨_, rfl⟩
        obtain ⟨p, hp⟩ : ∃ p, pkAt l j = p := ⟨_, rfl⟩
        have hq' : pkAt l (j + 1) = q := by rw [pkAt_next l j hlt, hq]
        rw [hp] at hp0 HKp
        rw [hq] at HC HK0 c0
        rw [hp] at HQ
        clear hnx HN hC hp HO
        generalize l[j].lines.length = ln at *
        generalize l[j].spans.length = sn at *
        generalize l[j].kids.length = kn at *
        generalize l[j].level = lv at *
        generalize S l[j].info = si at *
        generalize oneB ls l[j] = ok at *
        rw [hq] at HQ
        clear hq
        go_wp2_with fail
        refine HC.out.mono ?_
        rintro e w5 ⟨rfl, b5⟩
        have HB5 := Lib.hid (HB.out.trans (b5.mono HB.out.size))
        have k0 := HK0.out _ b5
        have kp := HKp.out _ b5
        clear HC HK0 HKp b5 c0 c1 c2 c3 c4 c5
        cases ok with
        | false =>
          have HR : Hid (X = false) := Lib.hid (by rw [HQ.out]; simp)
          clear HQ
          go_wp2_with fail
          go_ret
          exact ⟨ret_bool HR.out.symm, HB5.out⟩
        | true =>
          by_cases hj0 : j = 0
          · have HR : Hid (X = allB ls (pkAt l (j + 1)) (l.drop (j + 1))) := Lib.hid (by rw [HQ.out, hp0 hj0, hq']; simp)
            have g0 : decide ((j : Int) > 0) = false := decide_eq_false (by omega)
            have g1 : decide (0 < (j : Int)) = false := decide_eq_false (by omega)
            have g2 : decide (0 < j) = false := decide_eq_false (by omega)
            have g3 : ¬ 0 < j := by omega
            clear HQ hp0 hq' kp k0 hj0
            go_wp2_with fail
            go_roundw
            case rel => exact ⟨j + 1, by omega, by go_num, HB5, HR⟩
            case measure => simp [intOf] <;> omega
          · have k1 := kp (by omega)
            have g0 : decide ((j : Int) > 0) = true := decide_eq_true (by omega)
            have g1 : decide (0 < (j : Int)) = true := decide_eq_true (by omega)
            have g2 : decide (0 < j) = true := decide_eq_true (by omega)
            have g3 : 0 < j := by omega
            have wj : IntKind.i64.wrap ((j : Int) - 1) = ((j - 1 : Nat) : Int) := by rw [IntKind.wrap_i64]; omega
            have wj1 : ((j - 1 : Nat) : Int) < (l.length : Int) := by omega
            by_cases q6 : q = 6
            · have f6 : (q == 6) = true := by rw [q6]; rfl
              by_cases p6 : p = 6
              · have h6 : (p == 6) = true := by rw [p6]; rfl
                have HR : Hid (X = false) := Lib.hid (by rw [HQ.out, decide_eq_true p6, decide_eq_true q6]; simp)
                clear HQ hp0 hq' kp hj0 q6 p6
                go_wp2_with fail
                go_ret
                exact ⟨ret_bool HR.out.symm, HB5.out⟩
              · have h6 : (p == 6) = false := beq_eq_false_iff_ne.2 p6
                have HR : Hid (X = allB ls (pkAt l (j + 1)) (l.drop (j + 1))) := Lib.hid (by rw [HQ.out, decide_eq_false p6, hq']; simp)
                clear HQ hp0 hq' kp hj0 q6 p6
                go_wp2_with fail
                go_roundw
                case rel => exact ⟨j + 1, by omega, by go_num, HB5, HR⟩
                case measure => simp [intOf] <;> omega
            · have f6 : (q == 6) = false := beq_eq_false_iff_ne.2 q6
              have HR : Hid (X = allB ls (pkAt l (j + 1)) (l.drop (j + 1))) := Lib.hid (by rw [HQ.out, decide_eq_false q6, hq']; simp)
              clear HQ hp0 hq' kp hj0 q6
              go_wp2_with fail
              go_roundw
              case rel => exact ⟨j + 1, by omega, by go_num, HB5, HR⟩
              case measure => simp [intOf] <;> omega
      · obtain rfl : j = l.length := by omega
        have hnx := HN.out
        rw [List.drop_length] at hnx
        have HR : Hid (X = true) := Lib.hid (by rw [hnx]; unfold allB; rfl)
        clear hnx HN hlt
        go_wp2_with fail
        go_ret
        exact ⟨ret_bool HR.out.symm, HB.out⟩
def rgB (l : List Bk) : Bool := allB false 0 l && decide (dp l ≤ 16)
theorem rrightB_any (l : List Bk) (v : Value) (w : World) (hf : fitAll 140737488355328 l) (htt : ttAll l ≤ 9000000) (ht : TrB w v l) :
    Calls Tryz.prog 17 #[v] w (OkAns w (rgB l)) := by
  have HA := Lib.hid (rall_any (szAll l) l false v w (Nat.le_refl _) hf htt ht)
  have HD := Lib.hid (fun w' (h : Below w.heap.size w w') => rdeep_any (szAll l) l v w' (Nat.le_refl _) (ht.below h))
  have HX : Hid (rgB l = (allB false 0 l && decide (dp l ≤ 16))) := Lib.hid rfl
  obtain ⟨X, hX⟩ : ∃ X, rgB l = X := ⟨_, rfl⟩
  rw [hX] at HX ⊢
  clear hX ht hf htt
  generalize allB false 0 l = y at *
  generalize dp l = d at *
  go_enter Tryz.func17, Tryz.ntmps17
  go_wp2_with fail
  refine HA.out.mono ?_
  rintro e w1 ⟨rfl, b1⟩
  have HB := Lib.hid b1
  clear HA b1
  cases y with
  | false =>
    go_wp2_with fail
    go_ret
    exact ⟨ret_bool (by rw [HX.out]; simp), HB.out⟩
  | true =>
    go_wp2_with fail
    refine (HD.out _ HB.out).mono ?_
    rintro e w2 ⟨rfl, rfl⟩
    clear HD
    go_wp2_with fail
    go_ret
    exact ⟨ret_bool (by rw [HX.out]; simp), HB.out⟩
end Go.Proofs.YthpnbialpkkpgaaGreatDoor.Bt
namespace Go.Proofs.YthpnbialpkkpgaaGreatDoor.Bt
open Go.RowKit
open Go.Proofs.YthpnbialpkkpgaaGreatDoor.Tk (S S_of S_list S_size S_toList ret_int Rd get_lt take_next take_off)
open Go.Proofs.YthpnbialpkkpgaaGreatDoor.Cm (calls_at alloc_new alloc_at cell_at)
open Go.Proofs.YthpnbialpkkpgaaGreatDoor.Sp (Sp Tr ret_bool OkAns totAll)
open Go.Proofs.YthpnbialpkkpgaaGreatDoor.Bk (Bk)
set_option linter.unusedVariables false
end Go.Proofs.YthpnbialpkkpgaaGreatDoor.Bt
