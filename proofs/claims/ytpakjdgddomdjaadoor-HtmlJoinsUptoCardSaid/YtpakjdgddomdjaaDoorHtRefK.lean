/-
  CONTRACT of the document's Blocks (emendationref14).
-/
import Derived.Test.YtpakjdgddomdjaaDoorHtRefB
import Derived.Test.YtpakjdgddomdjaaDoorBtAll
namespace Go.Proofs.YtpakjdgddomdjaaDoor.Ht
open Go.RowKit
open Go.Proofs.YtpakjdgddomdjaaDoor.Tk (S S_of S_list S_size S_toList S_app len_data Rd)
open Go.Proofs.YtpakjdgddomdjaaDoor.Bt (TrB szAll szOne szAll_mem szAll_kids drop_cons ttAll ttOne ttAll_mem)
open Go.Proofs.YtpakjdgddomdjaaDoor.Bk (Bk Tx)
set_option linter.unusedVariables false

set_option maxHeartbeats 6400000 in
set_option maxRecDepth 100000 in
theorem rblocks_any (m : Nat) : ∀ (l : List Bk) (v : Value) (w : World), szAll l ≤ m → ttAll l ≤ 2000000 → TrB w v l →
    Calls Tryd.prog 12 #[v] w (StrA w (S (hbAll l))) := by
  induction m using Nat.strongRecOn with
  | ind m ih =>
    intro l v w hm hM ht
    obtain ⟨ao, ca, rfl⟩ := ht.len
    have HT := Lib.hid ht
    have hlen := ht.short
    have HIH : Hid (∀ k (hk : k < l.length) (v' : Value) (w' : World), TrB w' v' l[k].kids → Calls Tryd.prog 12 #[v'] w' (StrA w' (S (hbAll l[k].kids)))) := Lib.hid (fun k hk v' w' ht' => by
      have h := szAll_kids (List.getElem_mem hk)
      have h2 := ttAll_mem (List.getElem_mem hk)
      rw [Bt.ttOne_eq] at h2
      exact ih (szAll l[k].kids) (Nat.lt_of_lt_of_le h hm) l[k].kids v' w' (Nat.le_refl _) (by omega) ht')
    have hpl : (hbAll l).length ≤ 100000000 := Nat.le_trans (hbAll_len l) (by omega)
    have HSz : Hid (∀ k (hk : k < l.length), ttOne l[k] ≤ 2000000) := Lib.hid (fun k hk => by
      have h1 := ttAll_mem (List.getElem_mem hk)
      omega)
    have H0 : Hid (hbAll l = [] ++ hbAll (l.drop 0)) := Lib.hid (by rw [List.drop_zero]; rfl)
    obtain ⟨X, hX⟩ : ∃ X, hbAll l = X := ⟨_, rfl⟩
    rw [hX] at H0 hpl
    rw [hX]
    clear ih ht hm hX hM
    go_enter Tryd.func12, Tryd.ntmps12
    go_wp2_with fail
    go_loopw [3, 7] (fun s i wr => ∃ (k : Nat) (p : Tx), k ≤ l.length ∧ i = .int .i64 k ∧ s = .string (S p) ∧ Hid (Below w.heap.size w wr) ∧ Hid (X = p ++ hbAll (l.drop k))) (fun _ i _ => l.length - (intOf i).toNat)
    case atStart => exact ⟨0, [], Nat.zero_le _, rfl, rfl, Lib.hid (Below.refl _ _), H0⟩
    case round =>
      clear H0
      obtain ⟨k, p, hk, rfl, rfl, HB, HN⟩ := hrel
      by_cases hlt : k < l.length
      · have hnx := HN.out
        rw [drop_cons l k hlt, hbAll_cons] at hnx
        have hi1 : (k : Int) < (l.length : Int) := by omega
        obtain ⟨b, o, vl, vs, ak, ck, rfl, hb, hC⟩ := (HT.out.below HB.out).at k hlt
        obtain ⟨al, cl, rfl⟩ := hC.rd.len
        obtain ⟨as', cs, rfl⟩ := hC.sp.len
        have c0 := hC.kind
        have c1 := hC.level
        have c2 := hC.info
        have c3 := hC.lines
        have c4 := hC.spans
        have c5 := hC.kids
        have HO := Lib.hid (rone_any l[k] al as' ak cl cs ck wr (HSz.out k hlt) (fun w' ht' => HIH.out k hlt _ w' ht') hC.rd hC.short hC.sp hC.tr)
        have hall := congrArg List.length hnx
        simp only [List.length_append] at hall
        unfold StrA at HO
        obtain ⟨y, hy⟩ : ∃ y, hbOne l[k] = y := ⟨_, rfl⟩
        rw [hy] at HO hnx hall
        have zp : (S p).size = p.length := S_size _
        have zy : (S y).size = y.length := S_size _
        have gg : ¬ 9223372036854775807 < (S p).size + (S y).size := by omega
        have hap := Lib.hid (S_app p y)
        have HX : Hid (X = (p ++ y) ++ hbAll (l.drop (k + 1))) := Lib.hid (by rw [hnx]; simp)
        clear hnx HN hC HT HIH HSz hall hy
        generalize l[k].kids.length = kn at *
        generalize l[k].spans.length = sn at *
        generalize l[k].lines.length = ln at *
        generalize S l[k].info = si at *
        generalize l[k].level = lv at *
        generalize l[k].kind = z at *
        go_wp2_with fail
        refine HO.out.mono ?_
        rintro e w2 ⟨rfl, b2⟩
        have HB2 := Lib.hid (HB.out.trans (b2.mono HB.out.size))
        clear b2 HO HB c0 c1 c2 c3 c4 c5
        go_wp2_with fail
        go_roundw
        case rel => exact ⟨k + 1, p ++ y, by omega, by go_num, by rw [hap.out], HB2, HX⟩
        case measure => simp [intOf] <;> omega
      · have hi1 : ¬ (k : Int) < (l.length : Int) := by omega
        have HR : Hid (X = p) := Lib.hid (by rw [HN.out, List.drop_eq_nil_of_le (by omega)]; simp [hbAll])
        clear HN HT HIH HSz
        go_wp2_with fail
        go_ret
        exact ⟨ret_str (by rw [HR.out]), HB.out⟩
end Go.Proofs.YtpakjdgddomdjaaDoor.Ht
