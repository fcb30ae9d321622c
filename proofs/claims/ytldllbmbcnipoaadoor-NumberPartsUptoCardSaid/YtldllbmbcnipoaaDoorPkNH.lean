/-
  Several texts in one:
  HOW MUCH THERE IS: the document's spend and Size (emendationref10), the statements' few, as the machine reckons.
  CONTRACTS of the document's has, gap, tight, line, Label and Info (emendationref10).
  CONTRACT of the document's all (emendationref07).
-/
import Derived.Test.YtldllbmbcnipoaaDoorPkND
import Derived.BigQuiet
import Derived.Deep.Cut
import Derived.Deep.CutRange
import Derived.Deep.CutBlock
import Derived.Test.YtldllbmbcnipoaaDoorPkNE
import Derived.Test.YtldllbmbcnipoaaDoorPkNF
import Derived.Lib.QuietBelow
namespace Go.Proofs.YtldllbmbcnipoaaDoor.Bt
open Go.RowKit
open Go.Proofs.YtldllbmbcnipoaaDoor.Tk (S S_of S_list S_size ret_int Rd)
open Go.Proofs.YtldllbmbcnipoaaDoor.Cm (calls_at)
open Go.Proofs.YtldllbmbcnipoaaDoor.Sp (Sp Tr ret_bool)
open Go.Proofs.YtldllbmbcnipoaaDoor.Bk (Bk)
set_option linter.unusedVariables false

theorem Rd.at {w : World} {ao : Option Addr} {n c : Nat} {xs : List (List UInt8)} (h : Rd w (.slice ao n c) xs) : ∀ j (hj : j < xs.length), ∃ b o, ao = some ⟨b, o, none⟩ ∧ w.cell? ⟨b, o + j, none⟩ = some (.string (S xs[j])) := by
  intro j hj
  obtain ⟨ao', cap, hv, _, hx⟩ := h
  simp only [Value.slice.injEq] at hv
  obtain ⟨rfl, _, _⟩ := hv
  rcases hx with hx | ⟨b, o, rfl, _, hc⟩
  · subst hx; exact absurd hj (Nat.not_lt_zero _)
  · exact ⟨b, o, rfl, hc j _ (List.getElem?_eq_getElem hj)⟩

/-- Lines, as the machine counts them. -/
def lnW (n : Int) : List (List UInt8) → Int
  | [] => n
  | s :: r => lnW (IntKind.i64.wrap (IntKind.i64.wrap (n + 1) + s.length)) r
/-- A block, ahead of its kids. -/
def hdW (n : Int) (x : Bk) : Int := lnW (IntKind.i64.wrap (IntKind.i64.wrap (IntKind.i64.wrap (n + 1) + x.info.length) + Sp.spAll 30 5000 0 x.spans)) x.lines
mutual
def spOne (deep : Nat) (left n : Int) : Bk → Int
  | .mk _ _ i ls ss l =>
    IntKind.i64.wrap (lnW (IntKind.i64.wrap (IntKind.i64.wrap (IntKind.i64.wrap (n + 1) + i.length) + Sp.spAll 30 5000 0 ss)) ls
      + spAll (deep - 1) (IntKind.i64.wrap (left - lnW (IntKind.i64.wrap (IntKind.i64.wrap (IntKind.i64.wrap (n + 1) + i.length) + Sp.spAll 30 5000 0 ss)) ls)) 0 l)
def spAll (deep : Nat) (left n : Int) : List Bk → Int
  | [] => n
  | x :: r => if deep = 0 ∨ left ≤ n then IntKind.i64.wrap (n + 1000000) else spAll deep left (spOne deep left n x) r
end
theorem spOne_eq (deep : Nat) (left n : Int) (x : Bk) : spOne deep left n x = IntKind.i64.wrap (hdW n x + spAll (deep - 1) (IntKind.i64.wrap (left - hdW n x)) 0 x.kids) := by
  obtain ⟨k, lv, i, ls, ss, l⟩ := x
  rw [spOne]
  rfl
theorem spAll_cons (deep : Nat) (left n : Int) (x : Bk) (r : List Bk) : spAll deep left n (x :: r) = if deep = 0 ∨ left ≤ n then IntKind.i64.wrap (n + 1000000) else spAll deep left (spOne deep left n x) r := by rw [spAll]
def fewB (l : List Bk) : Bool := decide (spAll 40 5000 0 l < 4000)

set_option maxHeartbeats 6400000 in
set_option maxRecDepth 100000 in
theorem spend_any (m : Nat) : ∀ (l : List Bk) (deep : Nat) (left : Int) (v : Value) (w : World), szAll l ≤ m → TrB w v l → fitAll reachBytes l → deep ≤ 40 →
    Calls Tryd.prog 24 #[v, .int .i64 deep, .int .i64 left] w fun e w' => e = .returned (.int .i64 (spAll deep left 0 l)) ∧ ∃ n, w' = w.drewN n := by
  induction m using Nat.strongRecOn with
  | ind m ih =>
    intro l deep left v w hm ht hf hd
    obtain ⟨ao, ca, rfl⟩ := ht.len
    have HT := Lib.hid ht
    have hlen := ht.short
    have hr : reachBytes ≤ 140737488355328 := by decide
    have HX := Lib.hid (fun k (hk : k < l.length) => fitOne_eq.1 (fitAll_at hf l[k] (List.getElem_mem hk)))
    have HIH : Hid (∀ k (hk : k < l.length) (left' : Int) (v' : Value) (w' : World), 0 < deep → TrB w' v' l[k].kids →
        Calls Tryd.prog 24 #[v', .int .i64 ((deep : Int) - 1), .int .i64 left'] w' fun e w'' => e = .returned (.int .i64 (spAll (deep - 1) left' 0 l[k].kids)) ∧ ∃ n, w'' = w'.drewN n) := Lib.hid (fun k hk left' v' w' h0 ht' => by
      have := ih (szAll l[k].kids) (Nat.lt_of_lt_of_le (szAll_kids (List.getElem_mem hk)) hm) l[k].kids (deep - 1) left' v' w' (Nat.le_refl _) ht' (fitOne_eq.1 (fitAll_at hf _ (List.getElem_mem hk))).2.2.2.2.2 (by omega)
      rwa [show ((deep - 1 : Nat) : Int) = (deep : Int) - 1 by omega] at this)
    have H0 : Hid (spAll deep left 0 l = spAll deep left 0 (l.drop 0)) := Lib.hid (by rw [List.drop_zero])
    obtain ⟨X, hX⟩ : ∃ X, spAll deep left 0 l = X := ⟨_, rfl⟩
    rw [hX] at H0
    rw [hX]
    clear ih ht hf hm hX
    go_enter Tryd.func24, Tryd.ntmps24
    go_wp2_with fail
    go_loopw [7, 12] (fun s i wr => ∃ (k q : Nat) (n : Int), k ≤ l.length ∧ i = .int .i64 k ∧ s = .int .i64 n ∧ wr = w.drewN q ∧ Hid (X = spAll deep left n (l.drop k))) (fun _ i _ => l.length - (intOf i).toNat)
    case atStart => exact ⟨0, 0, 0, Nat.zero_le _, rfl, rfl, rfl, H0⟩
    case round =>
      clear H0
      obtain ⟨k, q, n, hk, rfl, rfl, hwr, HN⟩ := hrel
      have HW := Lib.hid hwr
      by_cases hlt : k < l.length
      · have hnx := HN.out
        rw [drop_cons l k hlt, spAll_cons] at hnx
        have hi1 : (k : Int) < (l.length : Int) := by omega
        by_cases hc : deep = 0 ∨ left ≤ n
        · rw [if_pos hc] at hnx
          have HQ := Lib.hid hnx
          clear hnx HN hwr
          by_cases h0 : deep = 0
          · have e1 : ((deep : Int) == 0) = true := by rw [h0]; rfl
            clear hc h0
            go_wp2_with fail
            go_ret
            exact ⟨ret_int (by rw [HQ.out]; exact (Go.IntWalk.i64_left _).symm), q, HW.out⟩
          · have e1 : ((deep : Int) == 0) = false := by rw [beq_eq_false_iff_ne]; omega
            have e2 : decide (n ≥ left) = true := decide_eq_true (by omega)
            have e3 : decide (left ≤ n) = true := decide_eq_true (by omega)
            clear hc h0
            go_wp2_with fail
            go_ret
            exact ⟨ret_int (by rw [HQ.out]; exact (Go.IntWalk.i64_left _).symm), q, HW.out⟩
        · rw [if_neg hc, spOne_eq] at hnx
          have e1 : ((deep : Int) == 0) = false := by rw [beq_eq_false_iff_ne]; omega
          have e2 : decide (n ≥ left) = false := decide_eq_false (by omega)
          have e3 : decide (left ≤ n) = false := decide_eq_false (by omega)
          have HTr := Lib.hid ((HT.out.drewN q))
          rw [← hwr] at HTr
          obtain ⟨b, o, vl, vs, ak, ck, rfl, hb, hC⟩ := HTr.out.at k hlt
          obtain ⟨al, cl, rfl⟩ := hC.rd.len
          have RL := Lib.hid (fun g => Rd.at (hC.rd.below (below_drewN (Below.refl _ wr) g)))
          have c2 := hC.info
          have c3 := hC.lines
          have c4 := hC.spans
          have c5 := hC.kids
          have hss := HX.out k hlt
          have hsz : (S l[k].info).size = l[k].info.length := S_size _
          have hsl := hC.short
          have hil : l[k].info.length ≤ 140737488355328 := Nat.le_trans hss.2.2.1 hr
          have HS := Lib.hid (fun g => Sp.size_any l[k].spans vs (wr.drewN g) (hC.sp.drewN g) hss.2.2.2.2.1)
          have HC := Lib.hid (fun left' g => HIH.out k hlt left' _ (wr.drewN g) (by omega) (hC.tr.drewN g))
          have HQ := Lib.hid hnx
          have HH : Hid (hdW n l[k] = lnW (IntKind.i64.wrap (IntKind.i64.wrap (IntKind.i64.wrap (n + 1) + l[k].info.length) + Sp.spAll 30 5000 0 l[k].spans)) (l[k].lines.drop 0)) := Lib.hid (by rw [List.drop_zero]; rfl)
          have HLL : Hid (∀ s ∈ l[k].lines, s.length ≤ 140737488355328) := Lib.hid (fun s hs => Nat.le_trans (hss.2.2.2.1 s hs) hr)
          clear hnx HN hC hc hss hwr HTr
          generalize l[k].kids.length = kn at *
          generalize hdW n l[k] = M at *
          generalize l[k].lines = ls at *
          generalize Sp.spAll 30 5000 0 l[k].spans = ssn at *
          generalize l[k].info = s at *
          generalize S s = ss at *
          generalize hsl2 : (s.length : Int) = sl at *
          have hsz' : (ss.size : Int) = sl := by omega
          obtain ⟨m1, w1⟩ : ∃ m, IntKind.i64.wrap (n + 1) = m := ⟨_, rfl⟩
          obtain ⟨m2, w2⟩ : ∃ m, IntKind.i64.wrap (m1 + sl) = m := ⟨_, rfl⟩
          obtain ⟨m3, w3⟩ : ∃ m, IntKind.i64.wrap (m2 + ssn) = m := ⟨_, rfl⟩
          rw [w1, w2, w3] at HH
          go_wp2_with fail
          go_quiet (first | (go_at_call 36; exact Calls.quiet_of_same ((HS.out _).mono (fun _ _ h => ⟨h.1, h.2.symm⟩))))
          have HKc : Hid (∀ g, (wr.drewN g).cell? ⟨b, o + k * 6 + 3, none⟩ = some (.slice al ls.length cl) ∧ (wr.drewN g).cell? ⟨b, o + k * 6 + 5, none⟩ = some (.slice ak kn ck)) := Lib.hid (fun g => ⟨((below_drewN (Below.refl _ wr) g).cell (by exact hb)).trans c3, ((below_drewN (Below.refl _ wr) g).cell (by exact hb)).trans c5⟩)
          obtain ⟨k3, k5⟩ := HKc.out nq
          clear c2 c3 c4 c5 HS
          go_wp2_with fail
          go_loopw [7, 46] (fun s i w2 => ∃ (j g : Nat) (m : Int), j ≤ ls.length ∧ i = .int .i64 j ∧ s = .int .i64 m ∧ w2 = wr.drewN g ∧ Hid (M = lnW m (ls.drop j))) (fun _ i _ => ls.length - (intOf i).toNat)
          case atStart => exact ⟨0, nq, m3, Nat.zero_le _, rfl, rfl, rfl, HH⟩
          case round =>
            clear HH k3 k5
            obtain ⟨j, g, m, hj, rfl, rfl, hw2, HM⟩ := hrel
            have HG := Lib.hid hw2
            obtain ⟨k3, k5⟩ := HKc.out g
            rw [← hw2] at k3 k5
            by_cases hlj : j < ls.length
            · have hmx := HM.out
              rw [List.drop_eq_getElem_cons hlj, lnW] at hmx
              have hj1 : (j : Int) < (ls.length : Int) := by omega
              obtain ⟨bl, ol, rfl, kl⟩ := RL.out g j hlj
              rw [← hw2] at kl
              have hsj : (S ls[j]).size = ls[j].length := S_size _
              have hlj2 := HLL.out ls[j] (List.getElem_mem hlj)
              have HM2 := Lib.hid hmx
              clear hmx HM hw2
              generalize hx : ls[j] = x at *
              clear hx
              generalize S x = xx at *
              generalize hxl : (x.length : Int) = xl at *
              have hxz : (xx.size : Int) = xl := by omega
              obtain ⟨p1, v1⟩ : ∃ p, IntKind.i64.wrap (m + 1) = p := ⟨_, rfl⟩
              obtain ⟨p2, v2⟩ : ∃ p, IntKind.i64.wrap (p1 + xl) = p := ⟨_, rfl⟩
              rw [v1, v2] at HM2
              go_wp2_with fail
              go_roundw
              case rel => exact ⟨j + 1, g, p2, by omega, by go_num, rfl, HG.out, HM2⟩
              case measure => simp [intOf] <;> omega
            · obtain rfl : j = ls.length := by omega
              have hmx := HM.out
              rw [List.drop_length] at hmx
              have hM : M = m := by rw [hmx]; rfl
              obtain ⟨lf, w4⟩ : ∃ m', IntKind.i64.wrap (left - m) = m' := ⟨_, rfl⟩
              have HCc := Lib.hid (HC.out lf g)
              rw [← hw2] at HCc
              rw [hM, w4] at HQ
              clear hmx HM hM HKc hw2
              obtain ⟨z, hz⟩ : ∃ z, spAll (deep - 1) lf 0 l[k].kids = z := ⟨_, rfl⟩
              rw [hz] at HCc HQ
              obtain ⟨m5, w5⟩ : ∃ m', IntKind.i64.wrap (m + z) = m' := ⟨_, rfl⟩
              rw [w5] at HQ
              clear hz
              go_wp2_with fail
              refine HCc.out.mono ?_
              rintro e w6 ⟨rfl, n6, rfl⟩
              clear HCc HC
              go_wp2_with fail
              go_roundw
              case rel => exact ⟨k + 1, q + (g + n6), m5, by omega, by go_num, rfl, by rw [HG.out, HW.out, World.drewN_drewN, World.drewN_drewN], HQ⟩
              case measure => simp [intOf] <;> omega
      · obtain rfl : k = l.length := by omega
        have hnx := HN.out
        rw [List.drop_length] at hnx
        have HQ : Hid (X = n) := Lib.hid (by rw [hnx]; unfold spAll; rfl)
        clear hnx HN hlt hwr
        go_wp2_with fail
        go_ret
        exact ⟨ret_int (by rw [HQ.out]), q, HW.out⟩

theorem sizeB_any (l : List Bk) (v : Value) (w : World) (ht : TrB w v l) (hf : fitAll reachBytes l) :
    Calls Tryd.prog 14 #[v, .int .i64 40] w fun e w' => e = .returned (.int .i64 (spAll 40 5000 0 l)) ∧ ∃ n, w' = w.drewN n := by
  have H := Lib.hid (spend_any (szAll l) l 40 5000 v w (Nat.le_refl _) ht hf (by omega))
  clear ht hf
  generalize spAll 40 5000 0 l = z at *
  go_enter Tryd.func14, Tryd.ntmps14
  go_wp2_with fail
  refine H.out.mono ?_
  rintro e w1 ⟨rfl, n, rfl⟩
  clear H
  go_wp2_with fail
  go_ret
  exact ⟨rfl, n, rfl⟩
end Go.Proofs.YtldllbmbcnipoaaDoor.Bt

namespace Go.Proofs.YtldllbmbcnipoaaDoor.Bt
open Go.RowKit
open Go.Proofs.YtldllbmbcnipoaaDoor.Tk (S S_of S_list S_size S_toList S_app ret_int eq8 ne8 at_data len_data)
open Go.Proofs.YtldllbmbcnipoaaDoor.Sp (hsB spB ret_bool)
open Go.Proofs.YtldllbmbcnipoaaDoor.Utf (chk)
set_option linter.unusedVariables false

def ckB (s : List UInt8) : Bool := decide (chk (S s) = 0)
def lineB (s : List UInt8) : Bool := ckB s && !hsB 10 s && !hsB 13 s
def tgB (s : List UInt8) : Bool := s.isEmpty || (!spB (s.headD 0) && !spB (s.getLastD 0))
def labB (s : List UInt8) : Bool := !s.isEmpty && lineB s && tgB s && !hsB 91 s && !hsB 93 s && !hsB 92 s
def infB (s : List UInt8) : Bool := lineB s && tgB s && !hsB 96 s

theorem drop_all (s : ByteArray) (k : Nat) (h : ¬ k < s.size) : s.data.toList.drop k = [] := List.drop_eq_nil_of_le (by simp; omega)
theorem head_data (s : ByteArray) (h : 0 < s.size) : s.data.toList.headD 0 = s[0] := by
  have := at_data s 0 h
  rw [List.drop_zero] at this
  rw [this]
  rfl
theorem last_data (s : ByteArray) (h : s.size - 1 < s.size) : s.data.toList.getLastD 0 = s[s.size - 1] := by
  have hl : s.data.toList.getLast? = some s[s.size - 1] := by
    rw [List.getLast?_eq_getElem?, len_data, List.getElem?_eq_getElem (by rw [len_data]; exact h)]
    rfl
  rw [List.getLastD_eq_getLast?, hl]
  rfl
end Go.Proofs.YtldllbmbcnipoaaDoor.Bt

namespace Go.Proofs.YtldllbmbcnipoaaDoor.Sp
open Go.RowKit
open Go.Proofs.YtldllbmbcnipoaaDoor.Tk (S S_of S_list S_size S_toList S_app ret_int eq8 ne8 at_data len_data)
open Go.Proofs.YtldllbmbcnipoaaDoor.Cm (calls_at Keep alloc_new alloc_at cell_at lt_of_at)
set_option linter.unusedVariables false

/-- The kind ahead of place j. -/
def pkAt (l : List Sp) : Nat → Int
  | 0 => 0
  | j + 1 => (l[j]?.map Sp.kind).getD 0
theorem pkAt_next (l : List Sp) (j : Nat) (h : j < l.length) : pkAt l (j + 1) = l[j].kind := by
  show (l[j]?.map Sp.kind).getD 0 = _
  rw [List.getElem?_eq_getElem h]
  rfl

end Go.Proofs.YtldllbmbcnipoaaDoor.Sp
