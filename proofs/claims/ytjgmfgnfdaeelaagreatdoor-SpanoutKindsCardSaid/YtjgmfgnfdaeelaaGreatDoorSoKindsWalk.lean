/-
  THE WALK of the statement SpanoutKinds.
-/
import Derived.Test.YtjgmfgnfdaeelaaGreatDoorSo9Told
import Derived.Test.YtjgmfgnfdaeelaaGreatDoorSoCleanW
import Derived.Test.YtjgmfgnfdaeelaaGreatDoorPkF
import Derived.BigFrame
import Derived.Lib.AppendZeros
namespace Go.Proofs.YtjgmfgnfdaeelaaGreatDoor.Sp
open Go.RowKit
open Go.Proofs.YtjgmfgnfdaeelaaGreatDoor.Tk (S S_of S_list S_size S_toList S_app ret_int eq8 ne8 at_data len_data)
open Go.Proofs.YtjgmfgnfdaeelaaGreatDoor.Cm (calls_at)
set_option linter.unusedVariables false

def four (c t : List UInt8) : List Sp := [.mk 1 [97] [], .mk 2 c [], .mk 3 [] [.mk 1 t []], .mk 2 c []]
theorem four_tot (c t : List UInt8) : totAll (four c t) = 6 + 2 * c.length + t.length := by
  unfold four
  simp only [totAll, totOne, List.length_cons, List.length_nil]
  omega
theorem four_fit (c t : List UInt8) (hc : c.length ≤ 1000) (ht : t.length ≤ 1000) : fitAll 140737488355328 (four c t) := by
  unfold four
  simp only [fitAll, fitOne, List.length_cons, List.length_nil]
  refine ⟨⟨by omega, by omega, trivial⟩, ⟨by omega, by omega, trivial⟩, ⟨by omega, by omega, ⟨by omega, by omega, trivial⟩, trivial⟩, ⟨by omega, by omega, trivial⟩, trivial⟩
theorem four_star {c t : List UInt8} (h : rtB (four c t) = true) : (Rdr false false (wrs (four c t) ++ [92, 42])).1 = four c t ++ [.mk 1 [42] []] := by
  have hf := fits_rt h
  have hs : wrs (four c t ++ [.mk 1 [42] []]) = wrs (four c t) ++ [92, 42] := by
    rw [wrs_end]
    congr 1
  have hf2 : fits false false 0 (four c t ++ [.mk 1 [42] []]) := by
    unfold four at hf ⊢
    simp only [List.cons_append, List.nil_append]
    rw [fits, fits, fits, fits] at hf
    rw [fits, fits, fits, fits, fits]
    refine ⟨hf.1, hf.2.1, hf.2.2.1, hf.2.2.2.1, hf.2.2.2.2.1, hf.2.2.2.2.2.1, hf.2.2.2.2.2.2.1, hf.2.2.2.2.2.2.2.1, ?_, by omega, by rw [fits]; trivial⟩
    rw [fit1]
    exact Or.inl ⟨rfl, rfl, by simp⟩
  have := parse_write _ hf2
  rw [hs] at this
  exact this
theorem four_tr {w : World} {ak : Option Addr} {n k : Nat} {c t : List UInt8} (h : Tr w (.slice ak n k) [.mk 1 t []]) (T : TypeId) :
    Tr (w.alloc (.cells #[.int .i64 1, .string ⟨#[97]⟩, .slice none 0 0, .int .i64 2, .string (S c), .slice none 0 0, .int .i64 3, .string ⟨#[]⟩, .slice ak n k, .int .i64 2, .string (S c), .slice none 0 0] T)) (.slice (some ⟨w.heap.size, 0, none⟩) 4 4) (four c t) := by
  have hb : Below w.heap.size w (w.alloc (.cells #[.int .i64 1, .string ⟨#[97]⟩, .slice none 0 0, .int .i64 2, .string (S c), .slice none 0 0, .int .i64 3, .string ⟨#[]⟩, .slice ak n k, .int .i64 2, .string (S c), .slice none 0 0] T)) := (Below.refl _ _).alloc (Nat.le_refl _) _
  have h2 := h.below hb
  have h0 := (nil_tr w).below hb
  have hn : n = 1 := by obtain ⟨_, _, hv, _⟩ := h; simp only [Value.slice.injEq] at hv; exact hv.2.1
  subst hn
  unfold four
  refine ⟨_, 4, rfl, ⟨Nat.le_refl _, by omega⟩, Or.inr ⟨w.heap.size, 0, rfl, by simp, ?_⟩⟩
  unfold trAll
  refine ⟨trOne_of (ao := none) (cap := 0) ⟨?_, ?_, ?_, h0⟩, ?_⟩
  · rw [World.cell?_alloc_new]; rfl
  · rw [World.cell?_alloc_new]; rfl
  · rw [World.cell?_alloc_new]; rfl
  unfold trAll
  refine ⟨trOne_of (ao := none) (cap := 0) ⟨?_, ?_, ?_, h0⟩, ?_⟩
  · rw [World.cell?_alloc_new]; rfl
  · rw [World.cell?_alloc_new]; rfl
  · rw [World.cell?_alloc_new]; rfl
  unfold trAll
  refine ⟨trOne_of (ao := ak) (cap := k) ⟨?_, ?_, ?_, h2⟩, ?_⟩
  · rw [World.cell?_alloc_new]; rfl
  · rw [World.cell?_alloc_new]; rfl
  · rw [World.cell?_alloc_new]; rfl
  unfold trAll
  refine ⟨trOne_of (ao := none) (cap := 0) ⟨?_, ?_, ?_, h0⟩, by unfold trAll; trivial⟩
  · rw [World.cell?_alloc_new]; rfl
  · rw [World.cell?_alloc_new]; rfl
  · rw [World.cell?_alloc_new]; rfl

/-- An append whose run is known, in an operation that is guarded and wanted. -/
theorem wpList_append_want {P : Program} (w : World) {ops : Array Oper} {rest : List Oper} {o : Oper} {a : Act} {Q : Exit → Act → World → Prop} (hw : Region.wanted o (yielded ops a.tmps) = true) (s x : Operand) (t tn : TypeId)
    (ho : o.op = .call { callee := .builtin .append, args := #[s, x], argTypes := #[t, tn] }) (vs vx : Value) (hs : a.eval s = vs) (hx : a.eval x = vx)
    (v' : Value) (w' : World) (hr : (Builtin.append_ #[t, tn] o.type #[vs, vx]).run P w = .ok v' w') (h : wpList P ops Q rest (a.put o.dst v') w') : wpList P ops Q (o :: rest) a w :=
  BigFrame.wpList_want hw fun _ hK => Lib.wp_append_run w s x t tn ho vs vx hs hx v' w' hr (hK _ _ h)

set_option maxHeartbeats 6400000 in
set_option maxRecDepth 100000 in
theorem spanoutKinds_walk (K : Told9) (w : World) (c : ByteArray) (hs : c.size ≤ maxLen) (hr : c.size ≤ reachBytes) (t : ByteArray) (hs2 : t.size ≤ maxLen) (hr2 : t.size ≤ reachBytes) :
    Calls Tryz.prog 12 #[.string c, .string t] w (OkAns w true) := by
  have HA := Lib.hid (awake9_any K.toTold9w)
  have hrb : reachBytes ≤ 140737488355328 := by decide
  have hb1 : (c.size : Int) ≤ 140737488355328 := by omega
  have hb2 : (t.size : Int) ≤ 140737488355328 := by omega
  have hb3 : (c.size : Int) + (t.size : Int) ≤ 281474976710656 := by omega
  clear hs hs2 hrb hr hr2
  by_cases hl : c.size + t.size ≤ 150
  · have g0 : ¬ 150 < (c.size : Int) + (t.size : Int) := by omega
    have nc : c.data.toList.length = c.size := len_data c
    have nt : t.data.toList.length = t.size := len_data t
    have hT := four_tot c.data.toList t.data.toList
    have hF := four_fit c.data.toList t.data.toList (by omega) (by omega)
    have wl := wrs_le (four c.data.toList t.data.toList)
    have H4T : Hid (∀ (w : World), Tr ((w.alloc (.cells #[.int .i64 1, .string t, .slice none 0 0] 31)).alloc (.cells #[.int .i64 1, .string ⟨#[97]⟩, .slice none 0 0, .int .i64 2, .string c, .slice none 0 0, .int .i64 3, .string ⟨#[]⟩, .slice (some ⟨w.heap.size, 0, none⟩) 1 1, .int .i64 2, .string c, .slice none 0 0] 31)) (.slice (some ⟨(w.alloc (.cells #[.int .i64 1, .string t, .slice none 0 0] 31)).heap.size, 0, none⟩) 4 4) (four c.data.toList t.data.toList)) := Lib.hid (fun w => by
      have h1 := lit_tr w 1 t.data.toList 31
      rw [S_of] at h1
      have h2 := four_tr (c := c.data.toList) h1 31
      rw [S_of] at h2
      exact h2)
    have HW := Lib.hid (fun v w' (h : Tr w' v (four c.data.toList t.data.toList)) => K.write v _ w' h (by omega) hF)
    have HR := Lib.hid (fun v w' (h : Tr w' v (four c.data.toList t.data.toList)) => rright_any _ v w' hF h)
    have HP := Lib.hid (fun w' => K.parse (S (wrs (four c.data.toList t.data.toList))) w' (by rw [S_size]; omega))
    have HP2 := Lib.hid (fun w' => K.parse (S (wrs (four c.data.toList t.data.toList)) ++ (⟨#[92, 42]⟩ : ByteArray)) w' (by rw [ByteArray.size_append, S_size]; have : (⟨#[92, 42]⟩ : ByteArray).size = 2 := rfl; omega))
    have HS := Lib.hid (fun (l : List Sp) va vb w' (ha : Tr w' va l) (hb : Tr w' vb l) => by have h := rsame_any (totAll l) l l va vb w' (Nat.le_refl _) ha hb; rw [show smAll l l = true from (smAll_iff l l).2 rfl] at h; exact h)
    have hst := fun (h : rtB (four c.data.toList t.data.toList) = true) => four_star h
    have hrd := fun (h : rtB (four c.data.toList t.data.toList) = true) => read_wrs h
    have h4l : (four c.data.toList t.data.toList).length = 4 := rfl
    have zx : (S (wrs (four c.data.toList t.data.toList))).size ≤ 3000 := by rw [S_size]; omega
    have z2 : (⟨#[92, 42]⟩ : ByteArray).size = 2 := rfl
    have gg : ¬ 9223372036854775807 < (S (wrs (four c.data.toList t.data.toList))).size + (⟨#[92, 42]⟩ : ByteArray).size := by omega
    unfold wrB erB at HW
    clear hT hF wl nc nt K
    generalize four c.data.toList t.data.toList = l at *
    go_enter Tryz.func12, Tryz.ntmps12
    go_wp2_with fail
    refine (HA.out _).mono ?_
    rintro e w2 ⟨rfl, b2⟩
    have H2 := Lib.hid b2
    clear b2 HA
    go_upto_region 4 with fail
    have t3 := H4T.out w2
    rw [show (w2.alloc (.cells #[.int .i64 1, .string t, .slice none 0 0] 31)).heap.size = w2.heap.size + 1 by simp] at t3
    have T3 := Lib.hid t3
    clear t3 H4T
    have H3 := Lib.hid (H2.out.trans ((((Below.refl w2.heap.size w2).alloc (Nat.le_refl _) (.cells #[.int .i64 1, .string t, .slice none 0 0] 31)).alloc (by simp) (.cells #[.int .i64 1, .string ⟨#[97]⟩, .slice none 0 0, .int .i64 2, .string c, .slice none 0 0, .int .i64 3, .string ⟨#[]⟩, .slice (some ⟨w2.heap.size, 0, none⟩) 1 1, .int .i64 2, .string c, .slice none 0 0] 31)).mono H2.out.size))
    generalize (w2.alloc (.cells #[.int .i64 1, .string t, .slice none 0 0] 31)).alloc (.cells #[.int .i64 1, .string ⟨#[97]⟩, .slice none 0 0, .int .i64 2, .string c, .slice none 0 0, .int .i64 3, .string ⟨#[]⟩, .slice (some ⟨w2.heap.size, 0, none⟩) 1 1, .int .i64 2, .string c, .slice none 0 0] 31) = w3 at *
    generalize Value.slice (some ⟨w2.heap.size + 1, 0, none⟩) 4 4 = vl at *
    cases hr : rtB l with
    | false =>
      rw [hr, if_neg (by simp), if_neg (by simp)] at HW
      rw [hr] at HR
      clear HP HP2 HS hst hrd gg hr
      go_wp2_with fail
      refine (HW.out _ _ T3.out).mono ?_
      rintro e w4 ⟨rfl, b4⟩
      have H4 := Lib.hid (H3.out.trans (b4.mono H3.out.size))
      have T4 := Lib.hid (T3.out.below b4)
      clear b4 HW T3
      go_wp2_with fail
      refine (HR.out _ _ T4.out).mono ?_
      rintro e w5 ⟨rfl, b5⟩
      have H5 := Lib.hid (H4.out.trans (b5.mono H4.out.size))
      clear b5 HR T4
      go_wp2_with fail
      go_ret
      exact ⟨rfl, H5.out⟩
    | true =>
      rw [hr, if_pos rfl, if_pos rfl] at HW
      rw [hr] at HR
      rw [show rdB (S (wrs l)) = l by unfold rdB; rw [S_list]; exact hrd hr] at HP
      rw [show rdB (S (wrs l) ++ (⟨#[92, 42]⟩ : ByteArray)) = l ++ [.mk 1 [42] []] by unfold rdB; rw [show (⟨#[92, 42]⟩ : ByteArray) = S [92, 42] from rfl, S_app, S_list]; exact hst hr] at HP2
      clear hst hrd hr zx z2
      generalize S (wrs l) = x at *
      go_wp2_with fail
      refine (HW.out _ _ T3.out).mono ?_
      rintro e w4 ⟨rfl, b4⟩
      have H4 := Lib.hid (H3.out.trans (b4.mono H3.out.size))
      have T4 := Lib.hid (T3.out.below b4)
      clear b4 HW T3
      go_wp2_with fail
      refine (HR.out _ _ T4.out).mono ?_
      rintro e w5 ⟨rfl, b5⟩
      have H5 := Lib.hid (H4.out.trans (b5.mono H4.out.size))
      have T5 := Lib.hid (T4.out.below b5)
      clear b5 HR T4
      go_wp2_with fail
      refine (HP.out _).mono ?_
      rintro e w6 ⟨v6, rfl, b6, t6⟩
      have H6 := Lib.hid (H5.out.trans (b6.mono H5.out.size))
      have T6 := Lib.hid (T5.out.below b6)
      have U6 := Lib.hid t6
      clear b6 t6 HP T5
      go_wp2_with fail
      refine (HS.out l _ _ _ U6.out T6.out).mono ?_
      rintro e w7 ⟨rfl, n, rfl⟩
      have H7 := Lib.hid (below_drewN H6.out n)
      have T7 := Lib.hid (T6.out.drewN n)
      generalize w6.drewN n = w7 at *
      clear U6 T6
      go_wp2_with fail
      refine (HP2.out _).mono ?_
      rintro e w8 ⟨v8, rfl, b8, t8⟩
      have H8 := Lib.hid (H7.out.trans (b8.mono H7.out.size))
      have T8 := T7.out.below b8
      clear b8 HP2 T7
      obtain ⟨pl, hpl, rkl, kkl⟩ := T8.pairs
      have lpl : pl.length = l.length := by rw [← hpl, List.length_map]
      have hba : Below w8.heap.size w8 (w8.alloc (.cells #[] 31)) := (Below.refl _ _).alloc (Nat.le_refl _) _
      have oA : (w8.alloc (.cells #[] 31)).ownsRow w8.heap.size 31 3 (.slice (some ⟨w8.heap.size, 0, none⟩) 0 0) ([] : List (Sp × Value)).length (([] : List (Sp × Value)).flatMap encT) := World.ownsRow_lit w8 #[] 0 (Nat.le_refl _) (Nat.zero_le _) rfl
      obtain ⟨v9, w9, q9, o9, g9⟩ := run_append_sp oA (rkl.below hba) (fun p hp => (kkl p hp).below hba) (by simp) (by simp; omega)
      have hb9 := hba.grown g9 (by simp) (fun k hk => (oA.lt k hk).1)
      have hbl : Below w9.heap.size w9 (w9.alloc (.cells #[.int .i64 1, .string ⟨#[42]⟩, .slice none 0 0] 31)) := (Below.refl _ _).alloc (Nat.le_refl _) _
      have tl : Tr (w9.alloc (.cells #[.int .i64 1, .string ⟨#[42]⟩, .slice none 0 0] 31)) (.slice (some ⟨w9.heap.size, 0, none⟩) 1 1) [.mk 1 [42] []] := lit_tr w9 1 [42] 31
      obtain ⟨pt, hpt, rkt, kkt⟩ := tl.pairs
      have lpt : pt.length = 1 := by rw [← List.length_map (f := (·.1)), hpt]; rfl
      obtain ⟨v10, w10, q10, o10, g10⟩ := run_append_sp (o9.alloc (.cells #[.int .i64 1, .string ⟨#[42]⟩, .slice none 0 0] 31)) rkt kkt (Nat.le_trans hb9.size hbl.size) (by rw [List.nil_append]; omega)
      have hb9' := hb9.trans (hbl.mono hb9.size)
      have hb10 := hb9'.grown g10 hb9'.size (fun k hk => ((o9.alloc (.cells #[.int .i64 1, .string ⟨#[42]⟩, .slice none 0 0] 31)).lt k hk).1)
      have H10 := Lib.hid (H8.out.trans (hb10.mono H8.out.size))
      have hT := Tr.of_own o10 (fun p hp => by
        rw [List.nil_append, List.mem_append] at hp
        rcases hp with hp | hp
        · exact (kkl p hp).below hb10
        · have hk : p.1.kids = [] := by
            have hm : p.1 ∈ pt.map (·.1) := List.mem_map.2 ⟨p, hp, rfl⟩
            rw [hpt, List.mem_singleton] at hm
            rw [hm]; rfl
          have h0 := kkt p hp
          rw [hk] at h0 ⊢
          obtain ⟨ao, cap, hv, hc, _⟩ := h0
          exact ⟨ao, cap, hv, hc, Or.inl rfl⟩)
      rw [List.nil_append, List.map_append, hpl, hpt] at hT
      have U10 := t8.below hb10
      have HSx := Lib.hid (HS.out _ _ _ _ U10 hT)
      obtain ⟨a9, c9, rfl⟩ : ∃ ao cap, v9 = .slice ao ([] ++ pl).length cap := by
        rcases o9.2 with ⟨rfl, hz⟩ | ⟨g, cap, _, rfl, _⟩
        · exact ⟨none, 0, by rw [hz]⟩
        · exact ⟨_, _, rfl⟩
      clear hT U10 o10 g10 hb10 hb9' o9 g9 hb9 oA hba hbl tl rkl kkl rkt kkt hpl hpt lpl lpt T8 t8 HS H8 H7 H6 H5 H4 H3 H2 h4l
      go_wp2_with (first
        | (at_builtin; refine wpList_append_want _ (by rfl) (.tmp 50) (.tmp 51) _ _ rfl _ _ rfl rfl _ _ (q9 _) ?_)
        | (at_builtin; refine wpList_append_want _ (by rfl) (.tmp 52) (.tmp 54) _ _ rfl _ _ rfl rfl _ _ (q10 _) ?_))
      refine HSx.out.mono ?_
      rintro e w11 ⟨rfl, n2, rfl⟩
      have H11 := Lib.hid (below_drewN H10.out n2)
      clear HSx
      go_wp2_with fail
      go_ret
      exact ⟨rfl, H11.out⟩
  · have g0 : 150 < (c.size : Int) + (t.size : Int) := by omega
    go_enter Tryz.func12, Tryz.ntmps12
    go_wp2_with fail
    refine (HA.out _).mono ?_
    rintro e w2 ⟨rfl, b2⟩
    have H2 := Lib.hid b2
    clear b2
    go_wp2_with fail
    refine (HA.out _).mono ?_
    rintro e w3 ⟨rfl, b3⟩
    have H3 := Lib.hid (H2.out.trans (b3.mono H2.out.size))
    clear b3
    go_wp2_with fail
    go_ret
    exact ⟨rfl, H3.out⟩

end Go.Proofs.YtjgmfgnfdaeelaaGreatDoor.Sp
