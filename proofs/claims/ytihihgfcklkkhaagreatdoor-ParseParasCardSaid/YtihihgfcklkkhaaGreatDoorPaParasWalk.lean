import Derived.Test.YtihihgfcklkkhaaGreatDoorPkAP
import Derived.Test.YtihihgfcklkkhaaGreatDoorPaParasP
import Derived.Test.YtihihgfcklkkhaaGreatDoorCmRdB
namespace Go.Proofs.YtihihgfcklkkhaaGreatDoor.Pa
open Go.RowKit
open Go.Proofs.YtihihgfcklkkhaaGreatDoor.Tk (S S_of S_list S_size S_toList S_app ret_int eq8 ne8 at_data len_data Rd)
open Go.Proofs.YtihihgfcklkkhaaGreatDoor.Sp (ret_bool OkAns Sp)
open Go.Proofs.YtihihgfcklkkhaaGreatDoor.Bt (TrB)
open Go.Proofs.YtihihgfcklkkhaaGreatDoor.Cm (RdB Keep)
open Go.Proofs.YtihihgfcklkkhaaGreatDoor.Bk (Tx Bk kindOf)
open Go.Proofs.YtihihgfcklkkhaaGreatDoor.Kd (slice_mid slice_to)
set_option linter.unusedVariables false
def u8L (ks : List Int) : List UInt8 := ks.map (fun x => UInt8.ofNat x.toNat)
theorem u8L_len (ks : List Int) : (u8L ks).length = ks.length := by unfold u8L; simp
theorem u8L_at {ks : List Int} (h : ∀ x ∈ ks, 0 ≤ x ∧ x ≤ 255) (j : Nat) (hj : j < ks.length) : ks[j] = ((u8L ks)[j]'(by rw [u8L_len]; exact hj)).toNat := by
  unfold u8L
  rw [List.getElem_map, UInt8.toNat_ofNat']
  have := h ks[j] (List.getElem_mem hj)
  omega
def abc : ByteArray := ⟨#[97, 98, 99, 100, 101, 102, 103, 104, 105, 106, 107, 108, 109, 110, 111, 112, 113, 114, 115, 116, 117, 118, 119, 120, 121, 122]⟩
theorem abc_at : ∀ k : Fin 26, (abc.extract k.val (k.val + 1)).data.toList = [UInt8.ofNat (97 + k.val)] := by decide +kernel
theorem abc_pl {b : UInt8} (h : ¬ 26 ≤ b.toNat % 30) : abc.extract (b.toNat % 30) (b.toNat % 30 + 1) = S (pl b) := by
  have h1 := abc_at ⟨b.toNat % 30, by omega⟩
  simp only at h1
  rw [← S_of (abc.extract (b.toNat % 30) (b.toNat % 30 + 1)), h1]
  unfold pl
  rw [if_neg h]
theorem sp_pl {b : UInt8} (h : 26 ≤ b.toNat % 30) : (⟨#[32, 32]⟩ : ByteArray).extract 0 (b.toNat % 30 % 3 % 2) = S (pl b) := by
  have h01 : b.toNat % 30 % 3 % 2 = 0 ∨ b.toNat % 30 % 3 % 2 = 1 := by omega
  rw [← S_of ((⟨#[32, 32]⟩ : ByteArray).extract 0 (b.toNat % 30 % 3 % 2))]
  unfold pl
  rw [if_pos h]
  rcases h01 with e | e
  · rw [e, if_neg (by decide)]; rfl
  · rw [e, if_pos rfl]; rfl
set_option maxHeartbeats 6400000 in
set_option maxRecDepth 100000 in
theorem parseParas_walk (K : Told12) (w : World) (v : Value) (ks : List Int) (hr : RdB w v ks) :
    Calls Tryz.prog 10 #[v] w (OkAns w true) := by
  have HA := Lib.hid (awake12_any K)
  obtain ⟨ao, ca, rfl, hm, hu, hx⟩ := hr
  by_cases hl : ks.length ≤ 60
  · have g1 : decide ((ks.length : Int) > 60) = false := decide_eq_false (by omega)
    have g2 : decide ((60 : Int) < (ks.length : Int)) = false := decide_eq_false (by omega)
    have g3 : decide (60 < ks.length) = false := decide_eq_false (by omega)
    have HCl : Hid (∀ w', Below w.heap.size w w' → ∀ j (hj : j < (u8L ks).length), ∃ b o, ao = some ⟨b, o, none⟩ ∧ w'.cell? ⟨b, o + j, none⟩ = some (.int .u8 ((u8L ks)[j].toNat : Nat))) := Lib.hid (fun w' hb j hj' => by
      have hj : j < ks.length := by rw [← u8L_len]; exact hj'
      rcases hx with hx | ⟨b, o, hao, hlt, hcell⟩
      · rw [hx] at hj; simp at hj
      refine ⟨b, o, hao, ?_⟩
      rw [hb.cell (by exact hlt), hcell j ks[j] (List.getElem?_eq_getElem hj), u8L_at hu j hj])
    have hbl : (u8L ks).length = ks.length := u8L_len ks
    obtain ⟨bl, hall, hlen, hone⟩ := pls_all _ (u8L ks) (Nat.le_refl _)
    have hsp := pls_spread (u8L ks)
    have htt := pls_tot (u8L ks)
    have HLn := Lib.hid (fun vl w' (h : Rd w' vl ((u8L ks).map pl)) => K.lines vl _ w' h (by omega))
    have HSp := Lib.hid (fun vl w' (h : Rd w' vl ((u8L ks).map pl)) => K.spread vl _ w' h (by omega))
    rw [lns_some hall] at HLn
    unfold LnsAns at HLn
    unfold SprAns at HSp
    have hmn := mny_le false (u8L ks)
    obtain ⟨MN, hMN⟩ : ∃ m, mny false (u8L ks) = m := ⟨_, rfl⟩
    rw [hMN] at hlen hsp hmn
    have H0 : Hid (MN = 0 + mny false ((u8L ks).drop 0)) := Lib.hid (by rw [List.drop_zero, hMN, Nat.zero_add])
    have Hsp := Lib.hid hsp
    have Hlen := Lib.hid hlen
    have Hone := Lib.hid hone
    generalize u8L ks = bs at *
    generalize sprB (bs.map pl) = sp at *
    simp only at HLn
    have Hbl := Lib.hid hbl
    have HMl := Lib.hid hmn
    clear hx hu hm K hall hlen hsp hone htt hMN
    generalize ks.length = n at *
    have hnb : n = bs.length := hbl.symm
    clear hbl
    go_enter Tryz.func10, Tryz.ntmps10
    go_wp2_with fail
    refine (HA.out _).mono ?_
    rintro e w2 ⟨rfl, b2⟩
    have HB2 := Lib.hid b2
    clear b2 HA
    have Hnb := Lib.hid hnb
    clear hnb
    go_wp2_with fail
    go_loopw [3, 4, 5, 21] (fun vo mv ov iv wr => ∃ (j m : Nat) (o : Bool), j ≤ n ∧ iv = .int .i64 j ∧ mv = .int .i64 m ∧ ov = .bool o ∧ m ≤ j ∧ Hid (OutS w2.heap.size wr vo ((bs.take j).map pl)) ∧ Hid (Below w2.heap.size w2 wr) ∧ Hid (MN = m + mny o (bs.drop j))) (fun _ _ _ iv _ => n - (intOf iv).toNat)
    case atStart => exact ⟨0, 0, false, Nat.zero_le _, rfl, rfl, rfl, Nat.le_refl _, Lib.hid (by rw [List.take_zero]; exact OutG.nil (Nat.le_refl _)), Lib.hid (Below.refl _ _), H0⟩
    case round =>
      clear H0
      obtain ⟨j, m, o, hj, rfl, rfl, rfl, hmj, HO, HB, HN⟩ := hrel
      have HBw := Lib.hid (HB2.out.trans (HB.out.mono HB2.out.size))
      by_cases hlt : j < n
      · have hji : (j : Int) < (n : Int) := by omega
        have hjb : j < bs.length := by rw [← Hnb.out]; exact hlt
        obtain ⟨b, of, hbo, c0⟩ := HCl.out wr HBw.out j hjb
        subst hbo
        have htk : bs.take (j + 1) = bs.take j ++ [bs[j]] := List.take_succ_eq_append_getElem hjb
        have hdr : bs.drop j = bs[j] :: bs.drop (j + 1) := List.drop_eq_getElem_cons hjb
        have hll : ((bs.take j).map pl).length = j := by rw [List.length_map, List.length_take]; omega
        obtain ⟨k, hk⟩ : ∃ k, k = bs[j].toNat % 30 := ⟨_, rfl⟩
        have k30 : k < 30 := by omega
        have r1 : ((bs[j].toNat : Nat) : Int) % 30 = (k : Int) := by omega
        have r2 : ((bs[j].toNat : Nat) : Int).tmod 30 = (k : Int) := by rw [Int.tmod_eq_emod_of_nonneg (by omega)]; exact r1
        have n256 : bs[j].toNat < 256 := bs[j].toNat_lt
        obtain ⟨v5, w5, hr5, ho5, hk5⟩ := OutS.push HO.out (pl bs[j]) (by rw [hll]; omega)
        have HO5 : Hid (OutS w2.heap.size w5 v5 ((bs.take (j + 1)).map pl)) := Lib.hid (by rw [htk, List.map_append]; exact ho5)
        have HB5 := Lib.hid (HB.out.trans (OutG.below HO.out hk5))
        by_cases hb : 26 ≤ bs[j].toNat % 30
        · have HN2 : Hid (MN = m + mny false (bs.drop (j + 1))) := Lib.hid (by rw [HN.out, hdr, mny, if_pos hb])
          have hsl := sp_pl hb
          rw [← hk] at hsl hb
          obtain ⟨q, hq⟩ : ∃ q, q = k % 3 % 2 := ⟨_, rfl⟩
          rw [← hq] at hsl
          have q1 : q ≤ 1 := by omega
          obtain ⟨k3, hk3⟩ : ∃ q, q = k % 3 := ⟨_, rfl⟩
          have x1 : (k : Int) % 3 = (k3 : Int) := by omega
          have x2 : (k : Int).tmod 3 = (k3 : Int) := by rw [Int.tmod_eq_emod_of_nonneg (by omega)]; exact x1
          have x3 : (k3 : Int) % 2 = (q : Int) := by omega
          have x4 : (k3 : Int).tmod 2 = (q : Int) := by rw [Int.tmod_eq_emod_of_nonneg (by omega)]; exact x3
          have hst := fun w' => slice_to ⟨#[32, 32]⟩ q (by show q ≤ 2; omega) w'
          simp only [hsl] at hst
          have g26 : decide ((k : Int) ≥ 26) = true := decide_eq_true (by omega)
          have g27 : decide ((26 : Int) ≤ (k : Int)) = true := decide_eq_true (by omega)
          have g28 : decide (26 ≤ k) = true := decide_eq_true hb
          clear HN htk hdr hll hsl ho5 hk5 hk hb hq hk3
          generalize S (pl bs[j]) = sp1 at *
          generalize bs[j].toNat = bv at *
          go_wp2_with (at_builtin; refine Lib.wpList_append_run _ rfl _ _ _ _ rfl _ _ rfl rfl _ _ (hr5 _) ?_)
          go_roundw
          case rel => exact ⟨j + 1, m, false, by omega, by go_num, rfl, rfl, by omega, HO5, HB5, HN2⟩
          case measure => simp [intOf] <;> omega
        · have hsl := abc_pl hb
          have HNo : Hid (∀ o', o = o' → MN = (m + if o' then 0 else 1) + mny true (bs.drop (j + 1))) := Lib.hid (fun o' h => by rw [HN.out, hdr, mny, if_neg hb, h]; omega)
          rw [← hk] at hsl hb
          have hw1 : IntKind.i64.wrap ((k : Int) + 1) = ((k + 1 : Nat) : Int) := by rw [IntKind.wrap_i64]; omega
          have hst := fun w' => slice_mid abc k (k + 1) (by omega) (by show k + 1 ≤ 26; omega) w'
          simp only [hsl] at hst
          obtain ⟨k1, hk1⟩ : ∃ q, q = k + 1 := ⟨_, rfl⟩
          rw [← hk1] at hst hw1
          have g26 : decide ((k : Int) ≥ 26) = false := decide_eq_false (by omega)
          have g27 : decide ((26 : Int) ≤ (k : Int)) = false := decide_eq_false (by omega)
          have g28 : decide (26 ≤ k) = false := decide_eq_false hb
          unfold abc at hst
          clear HN htk hdr hll hsl ho5 hk5 hk hb hk1
          generalize S (pl bs[j]) = sp1 at *
          generalize bs[j].toNat = bv at *
          cases o with
          | true =>
            have HN2 : Hid (MN = m + mny true (bs.drop (j + 1))) := Lib.hid (HNo.out true rfl)
            clear HNo
            go_wp2_with (at_builtin; refine Lib.wpList_append_run _ rfl _ _ _ _ rfl _ _ rfl rfl _ _ (hr5 _) ?_)
            go_roundw
            case rel => exact ⟨j + 1, m, true, by omega, by go_num, rfl, rfl, by omega, HO5, HB5, HN2⟩
            case measure => simp [intOf] <;> omega
          | false =>
            have HN2 : Hid (MN = (m + 1) + mny true (bs.drop (j + 1))) := Lib.hid (HNo.out false rfl)
            clear HNo
            go_wp2_with (at_builtin; refine Lib.wpList_append_run _ rfl _ _ _ _ rfl _ _ rfl rfl _ _ (hr5 _) ?_)
            go_roundw
            case rel => exact ⟨j + 1, m + 1, true, by omega, by go_num, by go_num, rfl, by omega, HO5, HB5, HN2⟩
            case measure => simp [intOf] <;> omega
      · obtain rfl : j = n := by omega
        have htk : bs.take j = bs := List.take_of_length_le (by rw [Hnb.out]; exact Nat.le_refl _)
        have hdr : bs.drop j = [] := List.drop_eq_nil_of_le (by rw [Hnb.out]; exact Nat.le_refl _)
        have hMm : MN = m := by rw [HN.out, hdr, mny]; omega
        subst hMm
        rw [htk] at HO
        have HL1 := Lib.hid (HLn.out _ wr (OutS.rd HO.out))
        have HS1 := Lib.hid (fun w' (hb : Below wr.heap.size wr w') => HSp.out _ w' ((OutS.rd HO.out).below hb))
        obtain ⟨av, cv, hv⟩ := (OutS.rd HO.out).len
        rw [List.length_map, ← Hnb.out] at hv
        subst hv
        clear HN HB HLn HSp htk hdr hlt HO HCl HB2
        have hlen := Hlen.out
        go_wp2_with fail
        refine HL1.out.mono ?_
        rintro e w3 ⟨u, rfl, t3, b3⟩
        obtain ⟨ul, cl, rfl⟩ := t3.len
        have HT3 := Lib.hid t3
        have HB3 := Lib.hid (HBw.out.trans (b3.mono HBw.out.size))
        have HS3 := Lib.hid (fun w' (hb : Below w3.heap.size w3 w') => HS1.out w' (b3.trans (hb.mono b3.size)))
        clear t3 b3 HL1 HS1 HBw Hlen
        rw [hlen]
        have Hle := Lib.hid hlen
        clear hlen
        go_wp2_with fail
        go_loopw [66] (fun iv wx => ∃ i : Nat, i ≤ MN ∧ iv = .int .i64 i ∧ wx = w3) (fun iv _ => MN - (intOf iv).toNat)
        case atStart => exact ⟨0, Nat.zero_le _, rfl, rfl⟩
        case round =>
          obtain ⟨i, hi, rfl, rfl⟩ := hrel
          by_cases hlt : i < MN
          · have hii : (i : Int) < (MN : Int) := by omega
            have hib : i < bl.length := by rw [Hle.out]; exact hlt
            obtain ⟨b, o, vl, vs, ak, ck, hao, _, hc⟩ := HT3.out.at i hib
            subst hao
            obtain ⟨h1, t, h2⟩ := Hone.out bl[i] (List.getElem_mem hib)
            have k0 := hc.kind
            have k4 := hc.spans
            have hsp4 := hc.sp
            rw [h1] at k0
            rw [h2] at hsp4
            obtain ⟨as', cs, rfl⟩ := hsp4.len
            obtain ⟨b', o', ak', ck', hao', _, hc'⟩ := hsp4.at 0 (by simp)
            subst hao'
            have k5 := hc'.kind
            simp only [List.getElem_cons_zero, Nat.zero_mul, Nat.add_zero] at k5
            have hl1 : ([.mk 1 t []] : List Sp).length = 1 := rfl
            rw [hl1] at k4
            have h01 : (0 : Int) < 1 := by decide
            clear hc hc' hsp4 h1 h2 hl1
            go_wp2_with fail
            go_roundw
            case rel => exact ⟨i + 1, by omega, by go_num, by first | exact rfl | exact trivial⟩
            case measure => simp [intOf] <;> omega
          · obtain rfl : i = MN := by omega
            clear hlt
            go_wp2_with fail
            refine (HS3.out _ (Below.refl _ _)).mono ?_
            rintro e w4 ⟨u4, rfl, hp4, b4⟩
            obtain ⟨up, cp, hup⟩ : ∃ ao cap, u4 = .slice ao sp.length cap := by
              obtain ⟨⟨ao, cap, hv, _⟩, _⟩ := hp4
              exact ⟨ao, cap, hv⟩
            subst hup
            have HB4 := Lib.hid (HB3.out.trans (b4.mono HB3.out.size))
            rw [Hsp.out]
            clear hp4 b4 HS3
            go_wp2_with fail
            go_ret
            exact ⟨rfl, HB4.out⟩
  · have g1 : decide ((ks.length : Int) > 60) = true := decide_eq_true (by omega)
    have g2 : decide ((60 : Int) < (ks.length : Int)) = true := decide_eq_true (by omega)
    have g3 : decide (60 < ks.length) = true := decide_eq_true (by omega)
    clear K hl hx hu
    go_enter Tryz.func10, Tryz.ntmps10
    go_wp2_with fail
    refine (HA.out _).mono ?_
    rintro e w2 ⟨rfl, b2⟩
    have HB2 := Lib.hid b2
    clear b2
    go_wp2_with fail
    refine (HA.out _).mono ?_
    rintro e w3 ⟨rfl, b3⟩
    have HB3 := Lib.hid (HB2.out.trans (b3.mono HB2.out.size))
    clear b3
    go_wp2_with fail
    go_ret
    exact ⟨rfl, HB3.out⟩
end Go.Proofs.YtihihgfcklkkhaaGreatDoor.Pa
