import Derived.Test.YtldllbmbcnipoabGreatDoorPkWV
import Derived.Sort.EncStr
import Derived.WalkMore
namespace Go.Proofs.YtldllbmbcnipoabGreatDoor.Ln
open Go.RowKit
set_option linter.unusedVariables false
theorem infoS : (Tryz.prog.info? 9).map (fun i => (i.zero, i.size, i.bytes)) = some (some (.string ⟨#[]⟩), 1, 16) := by kernel_rfl
theorem own_push {B : Nat} {w wr w1 : World} {v v' : Value} {o : List (List UInt8)} {y : ByteArray} {ob : Obj} (hown : wr.ownsRow B 9 1 v o.length (o.map encStr)) (hb : Below B w wr) (hB : B ≤ wr.heap.size)
    (hown' : w1.ownsRow B 9 1 v' (o.length + 1) (o.map encStr ++ [.string y])) (hgrow : (wr.alloc ob).grownBy w1 v.ownBlock) :
    w1.ownsRow B 9 1 v' (o ++ [y.data.toList]).length ((o ++ [y.data.toList]).map encStr) ∧ Below B w w1 := by
  refine ⟨?_, (hb.alloc hB ob).grown hgrow (by simp; omega) (fun j hj => (hown.lt j hj).1)⟩
  rw [List.length_append, List.map_append]
  have : List.map encStr [y.data.toList] = [.string y] := by
    show [Value.string (S y.data.toList)] = _
    rw [S_of]
  rw [this]
  exact hown'
def cur (s : ByteArray) (f k : Nat) : List UInt8 := (s.extract f k).data.toList
theorem cur_eq (s : ByteArray) (f k : Nat) : cur s f k = (s.data.toList.drop f).take (k - f) := by
  unfold cur
  rw [ByteArray.data_extract]
  simp only [Array.toList_extract, List.extract_eq_take_drop]
theorem cur_same (s : ByteArray) (k : Nat) : cur s k k = [] := by rw [cur_eq]; simp
theorem cur_len (s : ByteArray) (f k : Nat) (hk : k ≤ s.size) : (cur s f k).length = k - f := by
  rw [cur_eq, List.length_take, List.length_drop, len_data]; omega
theorem cur_snoc (s : ByteArray) (f k : Nat) (hf : f ≤ k) (hk : k < s.size) : cur s f (k + 1) = cur s f k ++ [s[k]] := by
  rw [cur_eq, cur_eq, show k + 1 - f = (k - f) + 1 by omega, List.take_add_one, List.getElem?_drop, show f + (k - f) = k by omega, List.getElem?_eq_getElem (by rw [len_data]; exact hk)]
  rfl
theorem cur_last (s : ByteArray) (f k : Nat) (hf : f ≤ k) (hk : k < s.size) : (cur s f (k + 1)).getLast? = some s[k] := by rw [cur_snoc s f k hf hk]; simp
theorem cur_front (s : ByteArray) (f k : Nat) (hf : f ≤ k) (hk : k < s.size) : (cur s f (k + 1)).dropLast = cur s f k := by rw [cur_snoc s f k hf hk]; simp
def bl (s : ByteArray) (f k : Nat) : Nat := if f < k ∧ s.data.toList[k - 1]? = some 13 then k - 1 else k
theorem bl_le (s : ByteArray) (f k : Nat) (hf : f ≤ k) : f ≤ bl s f k ∧ bl s f k ≤ k := by unfold bl; split <;> omega
theorem bl_cur (s : ByteArray) (f k : Nat) (hf : f ≤ k) (hk : k ≤ s.size) : cur s f (bl s f k) = strip (cur s f k) := by
  by_cases h : f < k
  · obtain ⟨j, rfl⟩ : ∃ j, k = j + 1 := ⟨k - 1, by omega⟩
    have hl := cur_last s f j (by omega) (by omega)
    have hg : s.data.toList[j + 1 - 1]? = some s[j] := by rw [Nat.add_sub_cancel, List.getElem?_eq_getElem (by rw [len_data]; omega)]; rfl
    unfold bl strip
    rw [hg, hl]
    by_cases e : s[j] = 13
    · rw [if_pos ⟨h, by rw [e]⟩, if_pos (by rw [e]), cur_front s f j (by omega) (by omega), Nat.add_sub_cancel]
    · rw [if_neg (fun x => e (Option.some.inj x.2)), if_neg (fun x => e (Option.some.inj x))]
  · obtain rfl : f = k := by omega
    unfold bl
    rw [if_neg (fun x => h x.1), cur_same]
    rfl
theorem before_any (s : ByteArray) (f k : Nat) (hk : k < s.size) (hs : s.size ≤ 1000000) (w : World) :
    Calls Tryz.prog 118 #[.string s, .int .i64 f, .int .i64 k] w fun e w' => e = .returned (.int .i64 (bl s f k)) ∧ w = w' := by
  by_cases h : f < k
  · have hk1 : k - 1 < s.size := by omega
    have hg : s.data.toList[k - 1]? = some s[k - 1] := by rw [List.getElem?_eq_getElem (by rw [len_data]; omega)]; rfl
    have d1 : decide ((f : Int) < (k : Int)) = true := by simpa using h
    by_cases e : s[k - 1] = 13
    · have e1 : ((s[k - 1].toNat : Int) == 13) = true := eq8 e
      have Hb : Hid (bl s f k = k - 1) := Lib.hid (by unfold bl; rw [if_pos ⟨h, by rw [hg, e]⟩])
      clear e hg
      go_enter Tryz.func118, Tryz.ntmps118
      go_wp2_with fail
      go_ret
      exact ⟨ret_int (by rw [Hb.out]; omega), rfl⟩
    · have e1 : ((s[k - 1].toNat : Int) == 13) = false := ne8 e
      have Hb : Hid (bl s f k = k) := Lib.hid (by unfold bl; rw [if_neg (fun x => e (Option.some.inj (hg.symm.trans x.2)))])
      clear e hg
      go_enter Tryz.func118, Tryz.ntmps118
      go_wp2_with fail
      go_ret
      exact ⟨ret_int (by rw [Hb.out]), rfl⟩
  · have d1 : decide ((f : Int) < (k : Int)) = false := by simpa using h
    have Hb : Hid (bl s f k = k) := Lib.hid (by unfold bl; rw [if_neg (fun x => h x.1)])
    go_enter Tryz.func118, Tryz.ntmps118
    go_wp2_with fail
    go_ret
    exact ⟨ret_int (by rw [Hb.out]), rfl⟩
theorem news1 {wr : World} {x : ByteArray} {t : TypeId} : ∀ (j : Nat) (u : Value), [Value.string x][j]? = some u → (wr.alloc (.cells #[.string x] t)).cell? (Addr.add ⟨wr.heap.size, 0, none⟩ j) = some u := by
  intro j u hj
  match j, hj with
  | 0, hj => simp at hj; subst hj; simp [Addr.add]
theorem news2 {x : ByteArray} : ∀ u ∈ [Value.string x], u.oneCell' = true := by
  intro u hu; simp at hu; subst hu; rfl
def Rel (s : ByteArray) (f k : Nat) (o : List (List UInt8)) : Prop :=
  split s.data.toList = (o ++ (ls (cur s f k) (s.data.toList.drop k)).1, (ls (cur s f k) (s.data.toList.drop k)).2)
theorem Rel.start (s : ByteArray) : Rel s 0 0 [] := by
  unfold Rel
  rw [cur_same, List.drop_zero, List.nil_append]
  rfl
theorem Rel.on {s : ByteArray} {f k : Nat} {o : List (List UInt8)} (h : Rel s f k o) (hf : f ≤ k) (hk : k < s.size) (h1 : s[k] ≠ 10) (h2 : s[k] ≠ 13) : Rel s f (k + 1) o := by
  unfold Rel at h ⊢
  rw [at_data s k hk, ls_on _ _ _ h1 h2, ← cur_snoc s f k hf hk] at h
  exact h
theorem head_at (s : ByteArray) (k : Nat) (hk : k < s.size) : (s.data.toList.drop k).head? = some s[k] := by rw [at_data s k hk]; rfl
theorem Rel.crlf {s : ByteArray} {f k : Nat} {o : List (List UInt8)} (h : Rel s f k o) (hf : f ≤ k) (hk : k + 1 < s.size) (h1 : s[k] = 13) (h2 : s[k + 1] = 10) : Rel s f (k + 1) o := by
  unfold Rel at h ⊢
  have hc := cur_snoc s f k hf (by omega)
  rw [h1] at hc
  rw [at_data s k (by omega), at_data s (k + 1) hk, h1, h2, ls_crlf, ← hc] at h
  rw [at_data s (k + 1) hk, h2]
  exact h
theorem Rel.cr {s : ByteArray} {f k : Nat} {o : List (List UInt8)} (h : Rel s f k o) (hf : f ≤ k) (hk : k < s.size) (h1 : s[k] = 13) (h2 : ∀ h : k + 1 < s.size, s[k + 1] ≠ 10) : Rel s (k + 1) (k + 1) (o ++ [(s.extract f k).data.toList]) := by
  unfold Rel at h ⊢
  have hh : (s.data.toList.drop (k + 1)).head? ≠ some 10 := by
    by_cases e : k + 1 < s.size
    · rw [head_at s _ e]; intro x; exact h2 e (Option.some.inj x)
    · rw [drop_all s _ e]; simp
  rw [at_data s k hk, h1, ls_cr _ _ hh] at h
  rw [cur_same, h]
  simp [cur]
theorem Rel.lf {s : ByteArray} {f k : Nat} {o : List (List UInt8)} (h : Rel s f k o) (hf : f ≤ k) (hk : k < s.size) (h1 : s[k] = 10) : Rel s (k + 1) (k + 1) (o ++ [(s.extract f (bl s f k)).data.toList]) := by
  unfold Rel at h ⊢
  rw [at_data s k hk, h1, ls_lf, ← bl_cur s f k hf (by omega)] at h
  rw [cur_same, h]
  simp [cur]
theorem Rel.stop {s : ByteArray} {f : Nat} {o : List (List UInt8)} (h : Rel s f s.size o) (hf : f ≤ s.size) :
    split s.data.toList = if f = s.size then (o, true) else (o ++ [(s.extract f s.size).data.toList], false) := by
  unfold Rel at h
  rw [drop_all s _ (Nat.lt_irrefl _), ls] at h
  have hl := cur_len s f s.size (Nat.le_refl _)
  by_cases e : f = s.size
  · rw [if_pos e]
    rw [if_pos (by subst e; exact cur_same s _)] at h
    simpa using h
  · rw [if_neg e]
    rw [if_neg (fun x => by rw [x] at hl; simp at hl; omega)] at h
    simpa [cur] using h
set_option maxHeartbeats 1600000 in
set_option maxRecDepth 100000 in
theorem split_any (s : ByteArray) (hs : s.size ≤ 1000000) (w : World) :
    Calls Tryz.prog 90 #[.string s] w fun e w' => ∃ v, e = .returned (.tuple #[v, .bool (split s.data.toList).2]) ∧
      w'.ownsRow w.heap.size 9 1 v (split s.data.toList).1.length ((split s.data.toList).1.map encStr) ∧ Below w.heap.size w w' := by
  obtain ⟨i0, hi, hz0, hz1, hz2⟩ := info_parts infoS
  have H0 := Lib.hid (Rel.start s)
  go_enter Tryz.func90, Tryz.ntmps90
  go_wp2_with fail
  go_step3
  go_wp2_with fail
  go_step3
  go_wp2_with fail
  go_loopw [4, 5, 9] (fun v f i wr => ∃ (k fr : Nat) (o : List (List UInt8)), fr ≤ k ∧ k ≤ s.size ∧ o.length ≤ k ∧ i = .int .i64 k ∧ f = .int .i64 fr ∧ wr.ownsRow w.heap.size 9 1 v o.length (o.map encStr) ∧ Below w.heap.size w wr ∧ Hid (Rel s fr k o)) (fun _ _ i _ => s.size - (intOf i).toNat)
  case atStart => exact ⟨0, 0, [], Nat.le_refl _, Nat.zero_le _, Nat.le_refl _, rfl, rfl, World.ownsRow_nil _ _ _ _, Below.refl _ _, H0⟩
  case round =>
    clear H0
    obtain ⟨k, f, o, hf, hk, ho, rfl, rfl, hown, hb, HR⟩ := hrel
    have hB := hb.size
    by_cases hlt : k < s.size
    · by_cases h13 : s[k] = 13
      · have e1 : ((s[k].toNat : Int) == 13) = true := eq8 h13
        have e2 : ((s[k].toNat : Int) == 10) = false := ne8 (b := 10) (by rw [h13]; decide)
        by_cases hk1 : k + 1 < s.size
        · have d1 : decide ((k : Int) + 1 < (s.size : Int)) = true := decide_eq_true (by omega)
          by_cases h10 : s[k + 1] = 10
          · have e3 : ((s[k + 1].toNat : Int) == 10) = true := eq8 h10
            have HR2 := Lib.hid (HR.out.crlf hf hk1 h13 h10)
            have Hb := Lib.hid hb
            have Ho := Lib.hid hown
            clear h13 h10 hb hown HR
            go_wp2_with fail
            go_roundw
            case rel => exact ⟨k + 1, f, o, by omega, by omega, by omega, by go_num, rfl, Ho.out, Hb.out, HR2⟩
            case measure => simp [intOf]; omega
          · have e3 : ((s[k + 1].toNat : Int) == 10) = false := ne8 h10
            have HR2 := Lib.hid (HR.out.cr hf hlt h13 (fun _ => h10))
            clear h13 h10 HR
            go_wp2_with (at_builtin; refine wpList_append_own _ rfl _ _ 29 rfl w.heap.size 9 i0 (.string ⟨#[]⟩) 1 16 Tryz.underlying29 hi hz0 hz1 hz2 rfl (by decide) _ _ _ rfl (hown.alloc _) ⟨wr.heap.size, 0, none⟩ 1 1 [.string (s.extract f k)] rfl rfl news1 news2 (by unfold maxLen; omega) (by omega) (by simp; omega) ?_)
            intro v' w1 hown' hgrow _
            have R := own_push hown hb hB hown' hgrow
            have R1 := Lib.hid R.1
            have R2 := Lib.hid R.2
            clear R hown' hgrow hown hb
            go_wp2_with fail
            go_roundw
            case rel => exact ⟨k + 1, k + 1, _, by omega, by omega, by simp; omega, by go_num, by go_num, R1.out, R2.out, HR2⟩
            case measure => simp [intOf]; omega
        · have d1 : decide ((k : Int) + 1 < (s.size : Int)) = false := by simp; omega
          have HR2 := Lib.hid (HR.out.cr hf hlt h13 (fun h => absurd h hk1))
          clear h13 HR
          go_wp2_with (at_builtin; refine wpList_append_own _ rfl _ _ 29 rfl w.heap.size 9 i0 (.string ⟨#[]⟩) 1 16 Tryz.underlying29 hi hz0 hz1 hz2 rfl (by decide) _ _ _ rfl (hown.alloc _) ⟨wr.heap.size, 0, none⟩ 1 1 [.string (s.extract f k)] rfl rfl news1 news2 (by unfold maxLen; omega) (by omega) (by simp; omega) ?_)
          intro v' w1 hown' hgrow _
          have R := own_push hown hb hB hown' hgrow
          have R1 := Lib.hid R.1
          have R2 := Lib.hid R.2
          clear R hown' hgrow hown hb
          go_wp2_with fail
          go_roundw
          case rel => exact ⟨k + 1, k + 1, _, by omega, by omega, by simp; omega, by go_num, by go_num, R1.out, R2.out, HR2⟩
          case measure => simp [intOf]; omega
      · have e1 : ((s[k].toNat : Int) == 13) = false := ne8 h13
        by_cases h10 : s[k] = 10
        · have e2 : ((s[k].toNat : Int) == 10) = true := eq8 h10
          have HR2 := Lib.hid (HR.out.lf hf hlt h10)
          have hbl := bl_le s f k hf
          have Hc := Lib.hid (before_any s f k hlt hs)
          clear h13 h10 HR
          generalize bl s f k = q at *
          obtain ⟨q1, q2⟩ := hbl
          have q3 : q ≤ s.size := by omega
          go_wp2_with (first | (go_at_call 118; refine (Hc.out _).mono ?_; rintro e w' ⟨rfl, rfl⟩) | (at_builtin; refine wpList_append_own _ rfl _ _ 29 rfl w.heap.size 9 i0 (.string ⟨#[]⟩) 1 16 Tryz.underlying29 hi hz0 hz1 hz2 rfl (by decide) _ _ _ rfl (hown.alloc _) ⟨wr.heap.size, 0, none⟩ 1 1 [.string (s.extract f q)] rfl rfl news1 news2 (by unfold maxLen; omega) (by omega) (by simp; omega) ?_))
          intro v' w1 hown' hgrow _
          have R := own_push hown hb hB hown' hgrow
          have R1 := Lib.hid R.1
          have R2 := Lib.hid R.2
          clear R hown' hgrow hown hb
          go_wp2_with fail
          go_roundw
          case rel => exact ⟨k + 1, k + 1, _, by omega, by omega, by simp; omega, by go_num, by go_num, R1.out, R2.out, HR2⟩
          case measure => simp [intOf]; omega
        · have e2 : ((s[k].toNat : Int) == 10) = false := ne8 h10
          have HR2 := Lib.hid (HR.out.on hf hlt h10 h13)
          have Hb := Lib.hid hb
          have Ho := Lib.hid hown
          clear h13 h10 hb hown HR
          go_wp2_with fail
          go_roundw
          case rel => exact ⟨k + 1, f, o, by omega, by omega, by omega, by go_num, rfl, Ho.out, Hb.out, HR2⟩
          case measure => simp [intOf]; omega
    · obtain rfl : k = s.size := by omega
      have HS := HR.out.stop hf
      by_cases he : f = s.size
      · rw [if_pos he] at HS
        have e1 : ((f : Int) == (s.size : Int)) = true := by simp [he]
        have HS2 := Lib.hid HS
        have Hb := Lib.hid hb
        have Ho := Lib.hid hown
        clear HS hb hown he HR
        go_wp2_with fail
        first | go_ret2 | (rw [Exit.noGoto_ret]; go_ret2)
        rw [HS2.out]
        exact ⟨_, rfl, Ho.out, Hb.out⟩
      · rw [if_neg he] at HS
        have e1 : ((f : Int) == (s.size : Int)) = false := by simp; omega
        have HS2 := Lib.hid HS
        clear HS he HR
        go_wp2_with (at_builtin; refine wpList_append_own _ rfl _ _ 29 rfl w.heap.size 9 i0 (.string ⟨#[]⟩) 1 16 Tryz.underlying29 hi hz0 hz1 hz2 rfl (by decide) _ _ _ rfl (hown.alloc _) ⟨wr.heap.size, 0, none⟩ 1 1 [.string (s.extract f s.size)] rfl rfl news1 news2 (by unfold maxLen; omega) (by omega) (by simp; omega) ?_)
        intro v' w1 hown' hgrow _
        have R := own_push hown hb hB hown' hgrow
        have R1 := Lib.hid R.1
        have R2 := Lib.hid R.2
        clear R hown' hgrow hown hb
        go_wp2_with fail
        first | go_ret2 | (rw [Exit.noGoto_ret]; go_ret2)
        rw [HS2.out]
        exact ⟨_, rfl, R1.out, R2.out⟩
end Go.Proofs.YtldllbmbcnipoabGreatDoor.Ln
