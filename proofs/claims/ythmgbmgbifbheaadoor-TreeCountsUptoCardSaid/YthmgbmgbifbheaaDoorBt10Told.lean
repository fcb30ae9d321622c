/-
  WHAT IS ASKED OF THE PROGRAM (tree), over any world; the statements' own awake.
-/
import Derived.Test.YthmgbmgbifbheaaDoorBtAll
import Derived.Test.YthmgbmgbifbheaaDoorBtSame
namespace Go.Proofs.YthmgbmgbifbheaaDoor.Bt
open Go.RowKit
open Go.Proofs.YthmgbmgbifbheaaDoor.Tk (S S_of S_list S_size S_toList ret_int Rd)
open Go.Proofs.YthmgbmgbifbheaaDoor.Cm (calls_at)
open Go.Proofs.YthmgbmgbifbheaaDoor.Sp (Sp Tr ret_bool OkAns)
open Go.Proofs.YthmgbmgbifbheaaDoor.Bk (Bk)
set_option linter.unusedVariables false

def NumAns (w : World) (n : Int) (e : Ending) (w' : World) : Prop := e = .returned (.int .i64 n) ∧ Below w.heap.size w w'
structure Told10 : Prop where
  right : ∀ (v : Value) (l : List Bk) (w : World), TrB w v l → fitAll 1048576 l → ttAll l ≤ 9000000 → Calls Tryd.prog 11 #[v] w (OkAns w (rgB l))
  same : ∀ (va vb : Value) (a b : List Bk) (w : World), TrB w va a → TrB w vb b → fitAll 140737488355328 a → fitAll 140737488355328 b → Calls Tryd.prog 19 #[va, vb] w (OkAns w (smB a b))
  deep : ∀ (v : Value) (l : List Bk) (w : World), TrB w v l → fitAll 140737488355328 l → ttAll l ≤ 9000000 → Calls Tryd.prog 13 #[v] w (NumAns w (dp l))
  count : ∀ (v : Value) (l : List Bk) (w : World), TrB w v l → fitAll 140737488355328 l → ttAll l ≤ 9000000 → Calls Tryd.prog 15 #[v] w (NumAns w (cnt l))
  label : ∀ (s : ByteArray) (w : World), s.size ≤ 140737488355328 → Calls Tryd.prog 17 #[.string s] w (OkAns w (labB s.data.toList))

mutual
theorem sp1W {R R' : Nat} (h : R ≤ R') : ∀ x : Sp, Sp.fitOne R x → Sp.fitOne R' x
  | .mk k s l, hf => by
    unfold Sp.fitOne at hf ⊢
    exact ⟨hf.1, Nat.le_trans hf.2.1 h, spW h l hf.2.2⟩
theorem spW {R R' : Nat} (h : R ≤ R') : ∀ l : List Sp, Sp.fitAll R l → Sp.fitAll R' l
  | [], _ => by unfold Sp.fitAll; trivial
  | x :: r, hf => by
    unfold Sp.fitAll at hf ⊢
    exact ⟨sp1W h x hf.1, spW h r hf.2⟩
end
mutual
theorem fitOne_wide {R R' : Nat} (h : R ≤ R') : ∀ x : Bk, fitOne R x → fitOne R' x
  | .mk k lv i ls ss l, hf => by
    rw [fitOne] at hf ⊢
    exact ⟨hf.1, hf.2.1, Nat.le_trans hf.2.2.1 h, fun s hs => Nat.le_trans (hf.2.2.2.1 s hs) h, spW h ss hf.2.2.2.2.1, fitAll_wide h l hf.2.2.2.2.2⟩
theorem fitAll_wide {R R' : Nat} (h : R ≤ R') : ∀ l : List Bk, fitAll R l → fitAll R' l
  | [], _ => by unfold fitAll; trivial
  | x :: r, hf => by
    unfold fitAll at hf ⊢
    exact ⟨fitOne_wide h x hf.1, fitAll_wide h r hf.2⟩
end
theorem fit47 {l : List Bk} (h : fitAll reachBytes l) : fitAll 140737488355328 l := fitAll_wide (by decide) l h

/-- How long texts are, by how much there is. -/
theorem ln_mem : ∀ {ls : List (List UInt8)} {s : List UInt8}, s ∈ ls → s.length ≤ lnTot ls
  | [], _, h => by cases h
  | x :: r, s, h => by
    rw [lnTot]
    rcases List.mem_cons.1 h with rfl | h
    · omega
    · have := ln_mem h; omega
mutual
theorem sp1T {R N : Nat} : ∀ x : Sp, Sp.fitOne R x → Sp.totOne x ≤ N → Sp.fitOne N x
  | .mk k s l, hf, ht => by
    rw [Sp.totOne_eq] at ht
    simp only [Sp.s, Sp.kids] at ht
    unfold Sp.fitOne at hf ⊢
    exact ⟨hf.1, by omega, spT l hf.2.2 (by omega)⟩
theorem spT {R N : Nat} : ∀ l : List Sp, Sp.fitAll R l → Sp.totAll l ≤ N → Sp.fitAll N l
  | [], _, _ => by unfold Sp.fitAll; trivial
  | x :: r, hf, ht => by
    rw [Sp.totAll_cons] at ht
    unfold Sp.fitAll at hf ⊢
    exact ⟨sp1T x hf.1 (by omega), spT r hf.2 (by omega)⟩
end
mutual
theorem fitOne_tt {R N : Nat} : ∀ x : Bk, fitOne R x → ttOne x ≤ N → fitOne N x
  | .mk k lv i ls ss l, hf, ht => by
    rw [ttOne] at ht
    rw [fitOne] at hf ⊢
    exact ⟨hf.1, hf.2.1, by omega, fun s hs => by have := ln_mem hs; omega, spT ss hf.2.2.2.2.1 (by omega), fitAll_tt l hf.2.2.2.2.2 (by omega)⟩
theorem fitAll_tt {R N : Nat} : ∀ l : List Bk, fitAll R l → ttAll l ≤ N → fitAll N l
  | [], _, _ => by unfold fitAll; trivial
  | x :: r, hf, ht => by
    rw [ttAll_cons] at ht
    unfold fitAll at hf ⊢
    exact ⟨fitOne_tt x hf.1 (by omega), fitAll_tt r hf.2 (by omega)⟩
end

theorem nilB (w : World) : TrB w (.slice none 0 0) [] := ⟨none, 0, rfl, ⟨Nat.le_refl _, by omega⟩, Or.inl rfl⟩
theorem nilS (w : World) : Tr w (.slice none 0 0) [] := ⟨none, 0, rfl, ⟨Nat.le_refl _, by omega⟩, Or.inl rfl⟩
theorem nilR (w : World) : Rd w (.slice none 0 0) [] := ⟨none, 0, rfl, Nat.le_refl _, Or.inl rfl⟩
/-- A literal of one block. -/
theorem litB {w : World} {k lv : Int} {i : List UInt8} {vl vs : Value} {ao : Option Addr} {n c : Nat} {ls : List (List UInt8)} {ss : List Sp} {ks : List Bk} (hrd : Rd w vl ls) (hsh : ls.length ≤ 9223372036854775807) (hsp : Tr w vs ss) (htr : TrB w (.slice ao n c) ks) (T : TypeId) :
    TrB (w.alloc (.cells #[.int .i64 k, .int .i64 lv, .string (S i), vl, vs, .slice ao n c] T)) (.slice (some ⟨w.heap.size, 0, none⟩) 1 1) [.mk k lv i ls ss ks] := by
  have hb : Below w.heap.size w (w.alloc (.cells #[.int .i64 k, .int .i64 lv, .string (S i), vl, vs, .slice ao n c] T)) := (Below.refl _ _).alloc (Nat.le_refl _) _
  have hn : n = ks.length := by obtain ⟨_, _, hv, _⟩ := htr; simp only [Value.slice.injEq] at hv; exact hv.2.1
  subst hn
  refine ⟨_, 1, rfl, ⟨Nat.le_refl _, by omega⟩, Or.inr ⟨w.heap.size, 0, rfl, by simp, ?_⟩⟩
  unfold trAll
  refine ⟨trOne_of (vl := vl) (vs := vs) (ao := ao) (cap := c) ⟨?_, ?_, ?_, ?_, ?_, ?_, hrd.below hb, hsh, hsp.below hb, htr.below hb⟩, by unfold trAll; trivial⟩
  · rw [World.cell?_alloc_new]; rfl
  · rw [World.cell?_alloc_new]; rfl
  · rw [World.cell?_alloc_new]; rfl
  · rw [World.cell?_alloc_new]; rfl
  · rw [World.cell?_alloc_new]; rfl
  · rw [World.cell?_alloc_new]; rfl

def awk : List Bk := [.mk 5 0 [] [] [] [.mk 3 0 [] [] [] []]]
theorem awk_rg : rgB awk = true := by decide +kernel
theorem awk_dp : dp awk = 1 := by decide +kernel
theorem awk_cnt : cnt awk = 2 := by decide +kernel
theorem awk_fit : fitAll 1048576 awk := by
  unfold awk
  simp only [fitAll, fitOne, Sp.fitAll, List.length_nil]
  simp
theorem awk_tt : ttAll awk ≤ 9000000 := by decide +kernel
def lst0 : List Bk := [.mk 6 0 [] [] [] []]
theorem lst0_rg : rgB lst0 = false := by decide +kernel
theorem lst0_fit : fitAll 1048576 lst0 := by
  unfold lst0
  simp only [fitAll, fitOne, Sp.fitAll, List.length_nil]
  simp
theorem lst0_tt : ttAll lst0 ≤ 9000000 := by decide +kernel

set_option maxHeartbeats 1600000 in
theorem awake10_any (K : Told10) (w : World) : Calls Tryd.prog 9 #[] w (OkAns w true) := by
  have hs0 : S [] = ⟨#[]⟩ := rfl
  have t1 := litB (k := 3) (lv := 0) (i := []) (nilR w) (by simp) (nilS w) (nilB w) 32
  have n1 : (w.alloc (.cells #[.int .i64 3, .int .i64 0, .string (S []), .slice none 0 0, .slice none 0 0, .slice none 0 0] 32)).heap.size = w.heap.size + 1 := by simp
  have t2 := litB (k := 5) (lv := 0) (i := []) (nilR _) (by simp) (nilS _) t1 32
  rw [n1, hs0] at t2
  rw [hs0] at n1
  have b2 := ((Below.refl w.heap.size w).alloc (Nat.le_refl _) (.cells #[.int .i64 3, .int .i64 0, .string ⟨#[]⟩, .slice none 0 0, .slice none 0 0, .slice none 0 0] 32)).alloc (by simp) (.cells #[.int .i64 5, .int .i64 0, .string ⟨#[]⟩, .slice none 0 0, .slice none 0 0, .slice (some ⟨w.heap.size, 0, none⟩) 1 1] 32)
  have HT := Lib.hid t2
  have HB := Lib.hid b2
  have HR := Lib.hid (fun v w' (h : TrB w' v awk) => K.right v awk w' h awk_fit awk_tt)
  have HD := Lib.hid (fun v w' (h : TrB w' v awk) => K.deep v awk w' h (fitAll_wide (by decide) awk awk_fit) awk_tt)
  have HC := Lib.hid (fun v w' (h : TrB w' v awk) => K.count v awk w' h (fitAll_wide (by decide) awk awk_fit) awk_tt)
  have HL := Lib.hid (fun v w' (h : TrB w' v lst0) => K.right v lst0 w' h lst0_fit lst0_tt)
  have HN := Lib.hid (fun w' => litB (k := 6) (lv := 0) (i := []) (nilR w') (by simp) (nilS w') (nilB w') 32)
  rw [awk_rg] at HR
  rw [awk_dp] at HD
  rw [awk_cnt] at HC
  rw [lst0_rg] at HL
  rw [hs0] at HN
  clear t1 t2 b2 n1 hs0
  go_enter Tryd.func9, Tryd.ntmps9
  go_upto_region 2 with fail
  generalize (w.alloc (.cells #[.int .i64 3, .int .i64 0, .string ⟨#[]⟩, .slice none 0 0, .slice none 0 0, .slice none 0 0] 32)).alloc (.cells #[.int .i64 5, .int .i64 0, .string ⟨#[]⟩, .slice none 0 0, .slice none 0 0, .slice (some ⟨w.heap.size, 0, none⟩) 1 1] 32) = w1 at *
  go_wp2_with fail
  refine (HR.out _ _ HT.out).mono ?_
  rintro e w2 ⟨rfl, b2⟩
  have H2 := Lib.hid (HB.out.trans (b2.mono HB.out.size))
  have T2 := Lib.hid (HT.out.below b2)
  clear b2 HR HT HB
  go_wp2_with fail
  refine (HD.out _ _ T2.out).mono ?_
  rintro e w3 ⟨rfl, b3⟩
  have H3 := Lib.hid (H2.out.trans (b3.mono H2.out.size))
  have T3 := Lib.hid (T2.out.below b3)
  clear b3 HD T2 H2
  go_wp2_with fail
  refine (HC.out _ _ T3.out).mono ?_
  rintro e w4 ⟨rfl, b4⟩
  have H4 := Lib.hid ((H3.out.trans (b4.mono H3.out.size)).alloc (Nat.le_trans H3.out.size b4.size) (.cells #[.int .i64 6, .int .i64 0, .string ⟨#[]⟩, .slice none 0 0, .slice none 0 0, .slice none 0 0] 32))
  have T4 := Lib.hid (HN.out w4)
  clear b4 HC T3 H3
  go_wp2_with fail
  refine (HL.out _ _ T4.out).mono ?_
  rintro e w5 ⟨rfl, b5⟩
  have H5 := Lib.hid (H4.out.trans (b5.mono H4.out.size))
  clear b5 HL T4 H4
  go_wp2_with fail
  go_ret
  exact ⟨rfl, H5.out⟩

end Go.Proofs.YthmgbmgbifbheaaDoor.Bt
