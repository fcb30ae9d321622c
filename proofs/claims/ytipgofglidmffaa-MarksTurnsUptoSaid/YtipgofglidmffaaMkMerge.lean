/-
  CONTRACT of marks.Merge.
-/
import Derived.Test.YtipgofglidmffaaMkPart
import Derived.Test.YtipgofglidmffaaTkIds
import Derived.Test.YtipgofglidmffaaWvReal
namespace Go.Proofs.Ytipgofglidmffaa.Mk
open Go.RowKit Go.Proofs.Ytipgofglidmffaa.Tk Go.Proofs.Ytipgofglidmffaa.Cm
open Go.Proofs.Ytipgofglidmffaa.Wv (Ch chunks encC Seven chunks_lies chunks_len wchunks_any)
set_option linter.unusedVariables false

/-- The chunks of three lists of lines. -/
def cks (B O T : List Tx) : List Ch := chunks (nums [B, O, T].flatten B) (nums [B, O, T].flatten O) (nums [B, O, T].flatten T)
theorem nums_len (all l : List Tx) : (nums all l).length = l.length := by unfold nums; rw [List.length_map]
theorem cks_len (B O T : List Tx) : (cks B O T).length ≤ B.length + O.length + T.length := by
  have := chunks_len (nums [B, O, T].flatten B) (nums [B, O, T].flatten O) (nums [B, O, T].flatten T)
  rw [nums_len, nums_len, nums_len] at this
  exact this
theorem rz_of_rdI {lo : Nat} {w : World} {v : Value} {ks : List Int} (h : RdI lo w v ks) : Rz w v ks := by
  obtain ⟨ao, cap, hv, hc, hx⟩ := h
  refine ⟨ao, cap, hv, hc, ?_⟩
  rcases hx with hx | ⟨b, hao, _, hlt, hcell⟩
  · exact Or.inl hx
  · exact Or.inr ⟨b, 0, hao, hlt, fun j x hj => by rw [Nat.zero_add]; exact hcell j x hj⟩
/-- What Merge answers. -/
def MgOk (h : Nat) (no nb nt : Tx) (B O T : List Tx) (w : World) (e : Ending) (w' : World) : Prop :=
  ∃ v, e = .returned (.tuple #[v, .int .i64 (clashes (cks B O T) : Nat)]) ∧ Rd w' v (mlines h no nb nt B O T (cks B O T)) ∧ Below w.heap.size w w'

set_option maxHeartbeats 6400000 in
set_option maxRecDepth 100000 in
theorem merge_any (n : Int) (no nb nt : Tx) (l1 : no.length ≤ 1000000) (l2 : nb.length ≤ 1000000) (l3 : nt.length ≤ 1000000) (vB vO vT : Value) (B O T : List Tx) (w : World) (rB : Rd w vB B) (rO : Rd w vO O) (rT : Rd w vT T) (lB : B.length ≤ 100) (lO : O.length ≤ 100) (lT : T.length ≤ 100) :
    Calls Try.prog 14 #[.int .i64 n, vSides no nb nt, vB, vO, vT] w (MgOk (hold n) no nb nt B O T w) := by
  obtain ⟨aB, cB, rfl⟩ := rB.len
  obtain ⟨aO, cO, rfl⟩ := rO.len
  obtain ⟨aT, cT, rfl⟩ := rT.len
  have HM := Lib.hid (markersOf_any n no nb nt l1 l2 l3 (w.alloc (.cells #[.string (S no), .string (S nb), .string (S nt)] 31)))
  have HB1 := Lib.hid ((Below.refl w.heap.size w).alloc (Nat.le_refl _) (.cells #[.string (S no), .string (S nb), .string (S nt)] 31))
  have HA : Hid (∀ w' (vo vb vt : Value) (o b t : List Tx), Rd w' vo o → Rd w' vb b → Rd w' vt t → o.length ≤ 100000 → b.length ≤ 100000 → t.length ≤ 100000 → Calls Try.prog 19 #[.agg #[.string (S (mkr 60 (hold n) no)), .string (S (mkr 124 (hold n) nb)), .string (S (mkr 61 (hold n) [])), .string (S (mkr 62 (hold n) nt))], vo, vb, vt] w' fun e w'' => ∃ v, e = .returned v ∧ Rd w'' v (region (hold n) no nb nt o b t) ∧ Below w'.heap.size w' w'') :=
    Lib.hid (fun w' vo vb vt o b t h1 h2 h3 => around_any (hold n) no nb nt vo vb vt o b t w' h1 h2 h3)
  have RB := Lib.hid rB
  have RO := Lib.hid rO
  have RT := Lib.hid rT
  clear rB rO rT l1 l2 l3
  have HMv : Hid (vMks (hold n) no nb nt = .agg #[.string (S (mkr 60 (hold n) no)), .string (S (mkr 124 (hold n) nb)), .string (S (mkr 61 (hold n) [])), .string (S (mkr 62 (hold n) nt))]) := Lib.hid rfl
  rw [HMv.out] at HM
  clear HMv
  show Calls Try.prog 14 #[.int .i64 n, .agg #[.string (S no), .string (S nb), .string (S nt)], .slice aB B.length cB, .slice aO O.length cO, .slice aT T.length cT] w _
  generalize hold n = h at *
  generalize hs1 : S (mkr 60 h no) = s1 at *
  generalize hs2 : S (mkr 124 h nb) = s2 at *
  generalize hs3 : S (mkr 61 h []) = s3 at *
  generalize hs4 : S (mkr 62 h nt) = s4 at *
  clear hs1 hs2 hs3 hs4
  go_enter Try.func14, Try.ntmps14
  go_wp2_with fail
  refine calls_at (by rfl) HM.out ?_
  rintro e w2 ⟨rfl, b2⟩
  have HB2 := Lib.hid (HB1.out.trans (b2.mono HB1.out.size))
  clear b2 HM HB1
  go_upto_region 2 with fail
  have HA3 := Lib.hid (alloc_new w2 (.cells #[.string s1, .string s2, .string s3, .string s4] 47))
  have HB3 := Lib.hid (HB2.out.alloc HB2.out.size (.cells #[.string s1, .string s2, .string s3, .string s4] 47))
  generalize w2.alloc (.cells #[.string s1, .string s2, .string s3, .string s4] 47) = w3 at *
  generalize hA : w2.heap.size = A at *
  clear hA HB2
  have b33 : Below w3.heap.size w3 (w3.alloc (.cells #[.slice aB B.length cB, .slice aO O.length cO, .slice aT T.length cT] 24)) := (Below.refl _ _).alloc (Nat.le_refl _) _
  have hL : RdL (w3.alloc (.cells #[.slice aB B.length cB, .slice aO O.length cO, .slice aT T.length cT] 24)) (.slice (some ⟨w3.heap.size, 0, none⟩) 3 3) [B, O, T] :=
    rdl_alloc #[.slice aB B.length cB, .slice aO O.length cO, .slice aT T.length cT] [B, O, T] (fun j x hj => by
      match j, hj with
      | 0, hj => simp at hj; subst hj; exact ⟨_, rfl, RB.out.below HB3.out⟩
      | 1, hj => simp at hj; subst hj; exact ⟨_, rfl, RO.out.below HB3.out⟩
      | 2, hj => simp at hj; subst hj; exact ⟨_, rfl, RT.out.below HB3.out⟩
      | j + 3, hj => simp at hj) 3
  have HI := Lib.hid (ids_any _ _ _ hL (by simp) (by simp; omega))
  have HB3' := Lib.hid (HB3.out.trans (b33.mono HB3.out.size))
  have HA3' := Lib.hid (alloc_at HA3.out (.cells #[.slice aB B.length cB, .slice aO O.length cO, .slice aT T.length cT] 24))
  clear b33 hL HB3 HA3
  go_wp2_with fail
  refine calls_at (by rfl) HI.out ?_
  rintro e w4 ⟨v4, rfl, hrl, b4⟩
  have HB4 := Lib.hid (HB3'.out.trans (b4.mono HB3'.out.size))
  have HA4 := Lib.hid ((Keep.of_below (S := fun _ => False) b4).at HA3'.out (fun e => e))
  clear b4 HI HB3' HA3'
  obtain ⟨bi, ci, rfl, hbi, hcells⟩ := hrl
  obtain ⟨u0, k0, r0⟩ := hcells 0 (rk [B, O, T].flatten B) rfl
  obtain ⟨u1, k1, r1⟩ := hcells 1 (rk [B, O, T].flatten O) rfl
  obtain ⟨u2, k2, r2⟩ := hcells 2 (rk [B, O, T].flatten T) rfl
  obtain ⟨i0, j0, rfl⟩ := r0.len
  obtain ⟨i1, j1, rfl⟩ := r1.len
  obtain ⟨i2, j2, rfl⟩ := r2.len
  have HCH : Hid (∀ w', Keep (fun _ => False) w4 w' → Calls Try.prog 23 #[.slice i0 (rk [B, O, T].flatten B).length j0, .slice i1 (rk [B, O, T].flatten O).length j1, .slice i2 (rk [B, O, T].flatten T).length j2] w' fun e w'' => ∃ v, e = .returned v ∧ Rk 7 encC w'' v (cks B O T) ∧ Below w'.heap.size w' w'') := Lib.hid (fun w' hk => by
    have hb : Below w4.heap.size w4 w' := hk.below (fun _ e => e.elim) (Nat.le_refl _)
    exact wchunks_any _ _ _ _ _ _ w' ((rz_of_rdI r0).below hb) ((rz_of_rdI r1).below hb) ((rz_of_rdI r2).below hb) (by show (List.map _ _).length ≤ _; rw [List.length_map]; omega) (by show (List.map _ _).length ≤ _; rw [List.length_map]; omega) (by show (List.map _ _).length ≤ _; rw [List.length_map]; omega))
  have HS : Hid (∀ w', Keep (fun _ => False) w4 w' → w'.cell? ⟨bi, 0, none⟩ = some (.slice i0 (rk [B, O, T].flatten B).length j0) ∧ w'.cell? ⟨bi, 1, none⟩ = some (.slice i1 (rk [B, O, T].flatten O).length j1) ∧ w'.cell? ⟨bi, 2, none⟩ = some (.slice i2 (rk [B, O, T].flatten T).length j2)) := Lib.hid (fun w' hk => by
    have hb : Below w4.heap.size w4 w' := hk.below (fun _ e => e.elim) (Nat.le_refl _)
    exact ⟨(hb.cell (by exact hbi)).trans k0, (hb.cell (by exact hbi)).trans k1, (hb.cell (by exact hbi)).trans k2⟩)
  have HL3 : Hid (3 ≤ [B, O, T].length) := Lib.hid (by simp)
  clear r0 r1 r2 hcells hbi
  generalize (rk [B, O, T].flatten B).length = n0 at *
  generalize (rk [B, O, T].flatten O).length = n1 at *
  generalize (rk [B, O, T].flatten T).length = n2 at *
  rw [show (List.map (rk [B, O, T].flatten) [B, O, T]).length = 3 from rfl]
  have hcl := cks_len B O T
  have HLS : Hid (∀ c ∈ cks B O T, c.b1 ≤ c.b2 ∧ c.b2 ≤ B.length ∧ c.o1 ≤ c.o2 ∧ c.o2 ≤ O.length ∧ c.t1 ≤ c.t2 ∧ c.t2 ≤ T.length ∧ 1 ≤ c.out ∧ c.out ≤ 5) := Lib.hid (fun c hc => by
    have := chunks_lies _ _ _ c hc
    have h1 := this.b'
    have h2 := this.o'
    have h3 := this.t'
    rw [nums_len] at h1 h2 h3
    exact ⟨this.b, h1, this.o, h2, this.t, h3, this.lo, this.hi⟩)
  have HMG : Hid (∀ v w', Rd w' v (mlines h no nb nt B O T (cks B O T)) → Below w.heap.size w w' → MgOk h no nb nt B O T w (.returned (.tuple #[v, .int .i64 (clashes (cks B O T) : Nat)])) w') := Lib.hid (fun v w' h1 h2 => ⟨v, rfl, h1, h2⟩)
  generalize MgOk h no nb nt B O T w = Post at *
  generalize cks B O T = cs at *
  go_upto_region 5 with fail
  go_cut [38, 39, 40] from 41 (fun v l i wx => l = .int .i64 cs.length ∧ i = .int .i64 0 ∧ Hid (Rk 7 encC wx v cs) ∧ Hid (Keep (fun _ => False) w4 wx))
  case first =>
    go_region_held3 (fun w' => w'.cell? ⟨bi, 0, none⟩ = some (.slice i0 n0 j0) ∧ w'.cell? ⟨bi, 1, none⟩ = some (.slice i1 n1 j1) ∧ w'.cell? ⟨bi, 2, none⟩ = some (.slice i2 n2 j2))
      (first
        | (exact HS.out _ (Keep.refl _ _))
        | (exact HS.out _ (Keep.refl _ _).drew)
        | (exact HS.out _ ((Keep.refl _ _).drewN _))
        | (exact HS.out _ HK5.out)
        | (exact HS.out _ HK5.out.drew))
      (first
        | (go_at_call 23
           refine calls_at (args := #[.slice i0 n0 j0, .slice i1 n1 j1, .slice i2 n2 j2]) rfl (HCH.out _ (by first | exact (Keep.refl _ _) | exact (Keep.refl _ _).drew | exact (Keep.refl _ _).drewN _)) ?_
           rintro e w5 ⟨v5, rfl, r5, b5⟩
           have HK5 := Lib.hid (Keep.trans (a := w4) (S := fun _ => False) (by first | exact (Keep.refl _ _) | exact (Keep.refl _ _).drew | exact (Keep.refl _ _).drewN _) (Keep.of_below b5))
           have R5 := Lib.hid r5
           obtain ⟨a5, c5, rfl⟩ := r5.len
           clear r5 b5))
    go_wp2_with fail
    go_meet
    exact ⟨rfl, rfl, R5, HK5⟩
  case rest =>
    obtain ⟨rfl, rfl, R5, HK5⟩ := hcut
    have HBc := Lib.hid (HB4.out.trans (HK5.out.below (fun _ e => e.elim) HB4.out.size))
    have HAc := Lib.hid (HK5.out.at HA4.out (fun e => e))
    have FC := Lib.hid (fun (ao : Option Addr) (n c : Nat) (h : u38 = .slice ao n c) => Go.Proofs.Ytipgofglidmffaa.Wv.Rk.seven (by have := R5.out; rw [h] at this; exact this))
    obtain ⟨a5, c5, rfl⟩ := R5.out.len
    have FC2 := Lib.hid (FC.out _ _ _ rfl)
    have HBw := Lib.hid (fun w' (hb : Below wc.heap.size wc w') => HBc.out.trans (hb.mono HBc.out.size))
    clear FC R5 HK5 HA4 HB4 HCH HS k0 k1 k2 HL3
    have H0 : Hid (mlines h no nb nt B O T (cs.take 0) = [] ∧ clashes (cs.take 0) = 0) := Lib.hid ⟨rfl, rfl⟩
    go_wp2_with fail
    go_loopw [14, 15, 40] (fun out cl i wr => ∃ k : Nat, k ≤ cs.length ∧ i = .int .i64 k ∧ cl = .int .i64 (clashes (cs.take k) : Nat) ∧ wr.ownsRow wc.heap.size 9 1 out (mlines h no nb nt B O T (cs.take k)).length ((mlines h no nb nt B O T (cs.take k)).map encStr) ∧ Below wc.heap.size wc wr) (fun _ _ i _ => cs.length - (intOf i).toNat)
    case atStart => exact ⟨0, Nat.zero_le _, rfl, by rw [H0.out.2]; rfl, by rw [H0.out.1]; exact World.ownsRow_nil _ _ _ _, Below.refl _ _⟩
    case round =>
      clear H0
      obtain ⟨k, hk, rfl, rfl, hown, hbe⟩ := hrel
      have Ho := Lib.hid hown
      have Hb := Lib.hid hbe
      clear hown hbe
      by_cases hlt : k < cs.length
      · obtain ⟨b, o, rfl, hbl, f0, f1, f2, f3, f4, f5, f6⟩ := FC2.out k hlt
        have p0 : wr.cell? ⟨b, o + k * 7, none⟩ = some (.int .i64 cs[k].b1) := (Hb.out.cell (by exact hbl)).trans f0
        have p1 : wr.cell? ⟨b, o + k * 7 + 1, none⟩ = some (.int .i64 cs[k].b2) := (Hb.out.cell (by exact hbl)).trans f1
        have p2 : wr.cell? ⟨b, o + k * 7 + 2, none⟩ = some (.int .i64 cs[k].o1) := (Hb.out.cell (by exact hbl)).trans f2
        have p3 : wr.cell? ⟨b, o + k * 7 + 3, none⟩ = some (.int .i64 cs[k].o2) := (Hb.out.cell (by exact hbl)).trans f3
        have p4 : wr.cell? ⟨b, o + k * 7 + 4, none⟩ = some (.int .i64 cs[k].t1) := (Hb.out.cell (by exact hbl)).trans f4
        have p5 : wr.cell? ⟨b, o + k * 7 + 5, none⟩ = some (.int .i64 cs[k].t2) := (Hb.out.cell (by exact hbl)).trans f5
        have p6 : wr.cell? ⟨b, o + k * 7 + 6, none⟩ = some (.int .i64 cs[k].out) := (Hb.out.cell (by exact hbl)).trans f6
        have hls := HLS.out _ (List.getElem_mem hlt)
        have HN := Lib.hid (mlines_next h no nb nt B O T cs k hlt)
        have HCL := Lib.hid (clashes_next cs k hlt)
        have hml := mlines_len h no nb nt B O T (cs.take (k + 1))
        have HLen : Hid ((mlines h no nb nt B O T (cs.take (k + 1))).length ≤ 200000) := Lib.hid (by
          have h1 : (cs.take (k + 1)).length ≤ 300 := by rw [List.length_take]; omega
          have h2 : B.length + O.length + T.length + 4 ≤ 304 := by omega
          exact Nat.le_trans hml (Nat.le_trans (Nat.mul_le_mul h1 h2) (by decide)))
        have hcl3 : clashes (cs.take k) ≤ 300 := by
          have : clashes (cs.take k) ≤ (cs.take k).length := List.length_filter_le _ _
          rw [List.length_take] at this
          omega
        have hi1 : (k : Int) < (cs.length : Int) := by omega
        rw [HN.out] at HLen
        have HL := HLen
        clear hml HLen f0 f1 f2 f3 f4 f5 f6
        generalize hcc : cs[k] = c at *
        obtain ⟨x, x', y, y', z, z', oc⟩ := c
        simp only at p0 p1 p2 p3 p4 p5 p6 hls
        clear hcc
        obtain ⟨g1, g2, g3, g4, g5, g6, g7, g8⟩ := hls
        go_upto_region 8 with fail
        have HC8 := Lib.hid (alloc_new wr (.cells #[.int .i64 (x : Int), .int .i64 (x' : Int), .int .i64 (y : Int), .int .i64 (y' : Int), .int .i64 (z : Int), .int .i64 (z' : Int), .int .i64 (oc : Int)] 60))
        have HKr := Lib.hid ((Keep.refl (fun _ => False) wr).alloc (.cells #[.int .i64 (x : Int), .int .i64 (x' : Int), .int .i64 (y : Int), .int .i64 (y' : Int), .int .i64 (z : Int), .int .i64 (z' : Int), .int .i64 (oc : Int)] 60))
        generalize wr.alloc (.cells #[.int .i64 (x : Int), .int .i64 (x' : Int), .int .i64 (y : Int), .int .i64 (y' : Int), .int .i64 (z : Int), .int .i64 (z' : Int), .int .i64 (oc : Int)] 60) = w1 at *
        have HB1 : Hid (∀ w', Keep (fun _ => False) w1 w' → Below w.heap.size w w') := Lib.hid (fun w' hk => HBw.out w' (Hb.out.trans ((HKr.out.trans hk).below (fun _ e => e.elim) Hb.out.size)))
        have P1 := Lib.hid (fun w' (hk : Keep (fun _ => False) w1 w') => mpart_any _ B x x' w' (RB.out.below (HB1.out w' hk)) g1 g2 (by omega))
        have P2 := Lib.hid (fun w' (hk : Keep (fun _ => False) w1 w') => mpart_any _ O y y' w' (RO.out.below (HB1.out w' hk)) g3 g4 (by omega))
        have P3 := Lib.hid (fun w' (hk : Keep (fun _ => False) w1 w') => mpart_any _ T z z' w' (RT.out.below (HB1.out w' hk)) g5 g6 (by omega))
        generalize hC : wr.heap.size = C at *
        have HCe := Lib.hid hC
        clear hC
        have HS : Hid (∀ w', Keep (fun _ => False) w1 w' → w'.cell? ⟨C, 0, none⟩ = some (.int .i64 (x : Int)) ∧ w'.cell? ⟨C, 1, none⟩ = some (.int .i64 (x' : Int)) ∧ w'.cell? ⟨C, 2, none⟩ = some (.int .i64 (y : Int)) ∧ w'.cell? ⟨C, 3, none⟩ = some (.int .i64 (y' : Int)) ∧ w'.cell? ⟨C, 4, none⟩ = some (.int .i64 (z : Int)) ∧ w'.cell? ⟨C, 5, none⟩ = some (.int .i64 (z' : Int))) := Lib.hid (fun w' hk => by
          have h2 := hk.at HC8.out (fun e => e)
          exact ⟨cell_at h2 0, cell_at h2 1, cell_at h2 2, cell_at h2 3, cell_at h2 4, cell_at h2 5⟩)
        clear p0 p1 p2 p3 p4 p5 p6
        go_region_held3 (fun w' => w'.cell? ⟨C, 0, none⟩ = some (.int .i64 (x : Int)) ∧ w'.cell? ⟨C, 1, none⟩ = some (.int .i64 (x' : Int)) ∧ w'.cell? ⟨C, 2, none⟩ = some (.int .i64 (y : Int)) ∧ w'.cell? ⟨C, 3, none⟩ = some (.int .i64 (y' : Int)) ∧ w'.cell? ⟨C, 4, none⟩ = some (.int .i64 (z : Int)) ∧ w'.cell? ⟨C, 5, none⟩ = some (.int .i64 (z' : Int)))
          (first
            | (exact HS.out _ (Keep.refl _ _))
            | (exact HS.out _ (Keep.refl _ _).drew)
            | (exact HS.out _ ((Keep.refl _ _).drewN _))
            | (exact HS.out _ HK4.out)
            | (exact HS.out _ HK4.out.drew)
            | (exact HS.out _ HK5.out)
            | (exact HS.out _ HK5.out.drew)
            | (exact HS.out _ HK6.out)
            | (exact HS.out _ HK6.out.drew))
          (first
            | (go_at_call 24
               refine calls_at (args := #[.slice aB B.length cB, .agg #[.int .i64 (x : Int), .int .i64 (x' : Int)]]) rfl (P1.out _ (by first | exact (Keep.refl _ _) | exact (Keep.refl _ _).drew | exact (Keep.refl _ _).drewN _)) ?_
               rintro e w4 ⟨v4, rfl, r4, b4⟩
               have HK4 := Lib.hid (Keep.trans (a := w1) (S := fun _ => False) (by first | exact (Keep.refl _ _) | exact (Keep.refl _ _).drew | exact (Keep.refl _ _).drewN _) (Keep.of_below b4))
               have R4 := Lib.hid r4
               clear r4 b4)
            | (go_at_call 24
               refine calls_at (args := #[.slice aO O.length cO, .agg #[.int .i64 (y : Int), .int .i64 (y' : Int)]]) rfl (P2.out _ (by first | exact HK4.out | exact HK4.out.drew | exact HK4.out.drewN _)) ?_
               rintro e w5 ⟨v5, rfl, r5, b5⟩
               have HK45 := Lib.hid (Keep.trans (a := w4) (S := fun _ => False) (by first | exact (Keep.refl _ _) | exact (Keep.refl _ _).drew | exact (Keep.refl _ _).drewN _) (Keep.of_below b5))
               have HK5 := Lib.hid (HK4.out.trans HK45.out)
               have R5 := Lib.hid r5
               clear r5 b5)
            | (go_at_call 24
               refine calls_at (args := #[.slice aT T.length cT, .agg #[.int .i64 (z : Int), .int .i64 (z' : Int)]]) rfl (P3.out _ (by first | exact HK5.out | exact HK5.out.drew | exact HK5.out.drewN _)) ?_
               rintro e w6 ⟨v6, rfl, r6, b6⟩
               have HK56 := Lib.hid (Keep.trans (a := w5) (S := fun _ => False) (by first | exact (Keep.refl _ _) | exact (Keep.refl _ _).drew | exact (Keep.refl _ _).drewN _) (Keep.of_below b6))
               have HK6 := Lib.hid (HK5.out.trans HK56.out)
               have R6 := Lib.hid r6
               clear r6 b6))
        have R4' := Lib.hid (R4.out.below ((HK45.out.trans HK56.out).below (fun _ e => e.elim) (Nat.le_refl _)))
        have R5' := Lib.hid (R5.out.below (HK56.out.below (fun _ e => e.elim) (Nat.le_refl _)))
        have HKw := Lib.hid (HKr.out.trans HK6.out)
        have HA6 := Lib.hid ((Keep.of_below (S := fun _ => False) (Hb.out.trans (HKw.out.below (fun _ e => e.elim) Hb.out.size))).at HAc.out (fun e => e))
        have k6 : w6.cell? ⟨C, 6, none⟩ = some (.int .i64 (oc : Int)) := cell_at (HK6.out.at HC8.out (fun e => e)) 6
        clear R4 R5 P1 P2 P3 HS HK45 HK56 HK4 HK5 HK6 HB1 HC8 HKr
        have R4 := R4'
        have R5 := R5'
        clear R4' R5'
        have hoc : oc = 1 ∨ oc = 2 ∨ oc = 3 ∨ oc = 4 ∨ oc = 5 := by omega
        rcases hoc with rfl | rfl | rfl | rfl | rfl
        · have e1 : Hid (seg h no nb nt B O T ⟨x, x', y, y', z, z', 1⟩ = partL T z z') := Lib.hid rfl
          rw [e1.out] at HN HL
          have HCL2 : Hid (clashes (cs.take (k + 1)) = clashes (cs.take k)) := Lib.hid HCL.out
          clear HCL e1
          have HCL := HCL2
          clear HCL2
          have K9 : Keep (fun _ => False) wr w6 := HKw.out
          obtain ⟨v9, w9, q9, o9, g9⟩ := run_append_rd (own_keep Ho.out K9 (fun _ _ h => h)) R6.out (Nat.le_trans Hb.out.size K9.size) (by have := HL.out; rw [List.length_append] at this; omega)
          have hb8 : Below wc.heap.size wc w6 := Hb.out.trans (K9.below (fun _ h => h.elim) Hb.out.size)
          have HB9 := Lib.hid (hb8.grown g9 hb8.size (fun k hk => (Ho.out.lt k hk).1))
          rw [← HN.out] at o9
          have HO9 := Lib.hid o9
          clear K9 hb8 o9 g9
          obtain ⟨a9, k9, rfl⟩ := own_len Ho.out
          obtain ⟨a10, k10, rfl⟩ := own_len HO9.out
          go_wp2_with (at_builtin; refine Lib.wpList_append_run _ rfl (.tmp 61) (.tmp 62) _ _ rfl _ _ rfl rfl _ _ (q9 _) ?_)
          go_roundw
          case rel => exact ⟨k + 1, by omega, by go_num, by rw [HCL.out], HO9.out, HB9.out⟩
          case measure => simp [intOf] <;> omega
        · have e1 : Hid (seg h no nb nt B O T ⟨x, x', y, y', z, z', 2⟩ = partL O y y') := Lib.hid rfl
          rw [e1.out] at HN HL
          have HCL2 : Hid (clashes (cs.take (k + 1)) = clashes (cs.take k)) := Lib.hid HCL.out
          clear HCL e1
          have HCL := HCL2
          clear HCL2
          have K9 : Keep (fun _ => False) wr w6 := HKw.out
          obtain ⟨v9, w9, q9, o9, g9⟩ := run_append_rd (own_keep Ho.out K9 (fun _ _ h => h)) R5.out (Nat.le_trans Hb.out.size K9.size) (by have := HL.out; rw [List.length_append] at this; omega)
          have hb8 : Below wc.heap.size wc w6 := Hb.out.trans (K9.below (fun _ h => h.elim) Hb.out.size)
          have HB9 := Lib.hid (hb8.grown g9 hb8.size (fun k hk => (Ho.out.lt k hk).1))
          rw [← HN.out] at o9
          have HO9 := Lib.hid o9
          clear K9 hb8 o9 g9
          obtain ⟨a9, k9, rfl⟩ := own_len Ho.out
          obtain ⟨a10, k10, rfl⟩ := own_len HO9.out
          go_wp2_with (at_builtin; refine Lib.wpList_append_run _ rfl (.tmp 67) (.tmp 68) _ _ rfl _ _ rfl rfl _ _ (q9 _) ?_)
          go_roundw
          case rel => exact ⟨k + 1, by omega, by go_num, by rw [HCL.out], HO9.out, HB9.out⟩
          case measure => simp [intOf] <;> omega
        · have e1 : Hid (seg h no nb nt B O T ⟨x, x', y, y', z, z', 3⟩ = partL T z z') := Lib.hid rfl
          rw [e1.out] at HN HL
          have HCL2 : Hid (clashes (cs.take (k + 1)) = clashes (cs.take k)) := Lib.hid HCL.out
          clear HCL e1
          have HCL := HCL2
          clear HCL2
          have K9 : Keep (fun _ => False) wr w6 := HKw.out
          obtain ⟨v9, w9, q9, o9, g9⟩ := run_append_rd (own_keep Ho.out K9 (fun _ _ h => h)) R6.out (Nat.le_trans Hb.out.size K9.size) (by have := HL.out; rw [List.length_append] at this; omega)
          have hb8 : Below wc.heap.size wc w6 := Hb.out.trans (K9.below (fun _ h => h.elim) Hb.out.size)
          have HB9 := Lib.hid (hb8.grown g9 hb8.size (fun k hk => (Ho.out.lt k hk).1))
          rw [← HN.out] at o9
          have HO9 := Lib.hid o9
          clear K9 hb8 o9 g9
          obtain ⟨a9, k9, rfl⟩ := own_len Ho.out
          obtain ⟨a10, k10, rfl⟩ := own_len HO9.out
          go_wp2_with (at_builtin; refine Lib.wpList_append_run _ rfl (.tmp 61) (.tmp 62) _ _ rfl _ _ rfl rfl _ _ (q9 _) ?_)
          go_roundw
          case rel => exact ⟨k + 1, by omega, by go_num, by rw [HCL.out], HO9.out, HB9.out⟩
          case measure => simp [intOf] <;> omega
        · have e1 : Hid (seg h no nb nt B O T ⟨x, x', y, y', z, z', 4⟩ = partL O y y') := Lib.hid rfl
          rw [e1.out] at HN HL
          have HCL2 : Hid (clashes (cs.take (k + 1)) = clashes (cs.take k)) := Lib.hid HCL.out
          clear HCL e1
          have HCL := HCL2
          clear HCL2
          have K9 : Keep (fun _ => False) wr w6 := HKw.out
          obtain ⟨v9, w9, q9, o9, g9⟩ := run_append_rd (own_keep Ho.out K9 (fun _ _ h => h)) R5.out (Nat.le_trans Hb.out.size K9.size) (by have := HL.out; rw [List.length_append] at this; omega)
          have hb8 : Below wc.heap.size wc w6 := Hb.out.trans (K9.below (fun _ h => h.elim) Hb.out.size)
          have HB9 := Lib.hid (hb8.grown g9 hb8.size (fun k hk => (Ho.out.lt k hk).1))
          rw [← HN.out] at o9
          have HO9 := Lib.hid o9
          clear K9 hb8 o9 g9
          obtain ⟨a9, k9, rfl⟩ := own_len Ho.out
          obtain ⟨a10, k10, rfl⟩ := own_len HO9.out
          go_wp2_with (at_builtin; refine Lib.wpList_append_run _ rfl (.tmp 67) (.tmp 68) _ _ rfl _ _ rfl rfl _ _ (q9 _) ?_)
          go_roundw
          case rel => exact ⟨k + 1, by omega, by go_num, by rw [HCL.out], HO9.out, HB9.out⟩
          case measure => simp [intOf] <;> omega
        · have e1 : Hid (seg h no nb nt B O T ⟨x, x', y, y', z, z', 5⟩ = region h no nb nt (partL O y y') (partL B x x') (partL T z z')) := Lib.hid rfl
          rw [e1.out] at HN HL
          have HCL2 : Hid (clashes (cs.take (k + 1)) = clashes (cs.take k) + 1) := Lib.hid HCL.out
          clear HCL e1
          have HCL := HCL2
          clear HCL2
          have a0 : w6.cell? ⟨A, 0, none⟩ = some (.string s1) := cell_at HA6.out 0
          have a1 : w6.cell? ⟨A, 1, none⟩ = some (.string s2) := cell_at HA6.out 1
          have a2 : w6.cell? ⟨A, 2, none⟩ = some (.string s3) := cell_at HA6.out 2
          have a3 : w6.cell? ⟨A, 3, none⟩ = some (.string s4) := cell_at HA6.out 3
          have HAr := Lib.hid (HA.out w6 v5 v4 v6 _ _ _ R5.out R4.out R6.out (by rw [partL_len O g4]; omega) (by rw [partL_len B g2]; omega) (by rw [partL_len T g6]; omega))
          go_wp2_with fail
          refine HAr.out.mono ?_
          rintro e w7 ⟨v7, rfl, r7, b7⟩
          have HK7 := Lib.hid (HKw.out.trans (Keep.of_below b7))
          have R7 := Lib.hid r7
          clear r7 b7 HAr
          have K9 : Keep (fun _ => False) wr w7 := HK7.out
          obtain ⟨v9, w9, q9, o9, g9⟩ := run_append_rd (own_keep Ho.out K9 (fun _ _ h => h)) R7.out (Nat.le_trans Hb.out.size K9.size) (by have := HL.out; rw [List.length_append] at this; omega)
          have hb8 : Below wc.heap.size wc w7 := Hb.out.trans (K9.below (fun _ h => h.elim) Hb.out.size)
          have HB9 := Lib.hid (hb8.grown g9 hb8.size (fun k hk => (Ho.out.lt k hk).1))
          rw [← HN.out] at o9
          have HO9 := Lib.hid o9
          clear K9 hb8 o9 g9
          obtain ⟨a9, k9, rfl⟩ := own_len Ho.out
          obtain ⟨a10, k10, rfl⟩ := own_len HO9.out
          go_wp2_with (at_builtin; refine Lib.wpList_append_run _ rfl (.tmp 72) (.tmp 77) _ _ rfl _ _ rfl rfl _ _ (q9 _) ?_)
          go_roundw
          case rel => exact ⟨k + 1, by omega, by go_num, by rw [HCL.out]; rfl, HO9.out, HB9.out⟩
          case measure => simp [intOf] <;> omega
      · obtain rfl : k = cs.length := by omega
        have HF : Hid (cs.take cs.length = cs) := Lib.hid List.take_length
        rw [HF.out] at Ho
        rw [HF.out]
        have RE := Lib.hid (Rd.of_own Ho.out)
        have BE := Lib.hid (HBw.out _ Hb.out)
        have HE := Lib.hid (fun v (hv : Rd wr v (mlines h no nb nt B O T cs)) => HMG.out v wr hv BE.out)
        clear HMG
        go_wp2_with fail
        exact HE.out _ RE.out

end Go.Proofs.Ytipgofglidmffaa.Mk
