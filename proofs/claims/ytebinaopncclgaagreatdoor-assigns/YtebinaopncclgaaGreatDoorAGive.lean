/- Walks: the columns are handed on. -/
import Derived.Test.YtebinaopncclgaaGreatDoorAReach
namespace Go.Proofs.YtebinaopncclgaaGreatDoor
open Go.RowKit Go.IntWalk

set_option maxRecDepth 100000 in
set_option maxHeartbeats 4000000 in
theorem raise_any (p q n root : Nat) (vc : Value) (u v ow far fr : Nat → Int) (dn : Nat → Bool) (D : Int) (wb w : World) (hn : n ≤ 10) (hr : root < n) (hpq : p ≠ q) (hpb : wb.heap.size ≤ p) (hB : Below wb.heap.size wb w)
    (hD : 0 ≤ D ∧ D ≤ 2000000) (hf : ∀ c, c < n → dn c = true → 0 ≤ far c ∧ far c ≤ D) (hu : ∀ k, k ≤ n → ∀ i, i < n → 0 ≤ rzU ow far dn D (up1 u root (u root + D)) k i ∧ rzU ow far dn D (up1 u root (u root + D)) k i ≤ 100000000) (hv : ∀ i, i < n → -50000000 ≤ v i ∧ v i ≤ 50000000) (hu0 : 0 ≤ u root ∧ u root ≤ 50000000)
    (ho : ∀ c, c < n → ow c = -1 ∨ ∃ i : Nat, ow c = i ∧ i < n) (ht : TabAt w p n vc u v ow) (hh : HuntAt w q root far fr dn) :
    Calls Tryz.prog 137 #[.pointer (some ⟨p, 0, none⟩), .pointer (some ⟨q, 0, none⟩), .int .i64 D] w fun e w' => e = .returned (.tuple #[]) ∧ HuntAt w' q root far fr dn ∧ TabAt w' p n vc (rzU ow far dn D (up1 u root (u root + D)) n) (rzV ow far dn D v n) ow ∧ Below wb.heap.size wb w' := by
  have HB := hid hB
  have HF := hid hf
  have HU := hid hu
  have HV := hid hv
  have HO := hid ho
  have HT := hid ht
  have HH := hid hh
  have h0 := hh.c0
  have tu := ht.cu root (by omega)
  have hpw := ht.lt
  have hqw := hh.lt
  have hfz := ht.frozen (2 + root)
  have ir : (0 : Int) ≤ (root : Int) := by omega
  have jr : (root : Int) < 10 := by omega
  have wz1 : IntKind.i64.wrap (u root + D) = u root + D := i64_fits _ (by omega)
  obtain ⟨ur, hur⟩ : ∃ ur, ur = u root := ⟨_, rfl⟩
  rw [← hur] at tu hu0 wz1 HU ⊢
  have HUR := hid hur
  clear ht hh hB hf hu hv ho hur
  obtain ⟨U, hU⟩ : ∃ U, U = rzU ow far dn D (up1 u root (ur + D)) := ⟨_, rfl⟩
  obtain ⟨V, hV⟩ : ∃ V, V = rzV ow far dn D v := ⟨_, rfl⟩
  rw [← hU] at HU ⊢
  rw [← hV]
  have HU0 : Hid (U 0 = up1 u root (ur + D)) := by show _ = _; rw [hU]; rfl
  have HV0 : Hid (V 0 = v) := by show _ = _; rw [hV]; rfl
  have HUS : Hid (∀ k, U (k + 1) = if dn k = true ∧ ow k ≠ -1 then up1 (U k) (ow k).toNat (U k (ow k).toNat + (D - far k)) else U k) := fun k => by rw [hU]; rfl
  have HVS : Hid (∀ k, V (k + 1) = if dn k = true ∧ ow k ≠ -1 then up1 (V k) k (V k k - (D - far k)) else V k) := fun k => by rw [hV]; rfl
  have HVK : Hid (∀ k, V k k = v k) := fun k => by rw [hV, rzV_at, if_neg (by omega)]
  clear hU hV
  go_enter Tryz.func137, Tryz.ntmps137
  go_wp2_with go_in
  go_region
  have HT1 : Hid (TabAt (w.setCell ⟨p, 2 + root, none⟩ (.int .i64 (ur + D))).drew p n vc (up1 u root (ur + D)) v ow) := (HT.out.putU (by omega) _).block rfl
  have HH1 : Hid (HuntAt (w.setCell ⟨p, 2 + root, none⟩ (.int .i64 (ur + D))).drew q root far fr dn) := (HH.out.aside (Ne.symm hpq) _).block rfl
  have HB1 : Hid (Below wb.heap.size wb (w.setCell ⟨p, 2 + root, none⟩ (.int .i64 (ur + D))).drew) := (HB.out.setCell (by exact hpb) _).drew
  obtain ⟨w1, hw1⟩ : ∃ w1, w1 = (w.setCell ⟨p, 2 + root, none⟩ (.int .i64 (ur + D))).drew := ⟨_, rfl⟩
  rw [← hw1] at HT1 HH1 HB1 ⊢
  clear hw1 HT HH HB h0 tu hfz wz1 HUR hpw hqw
  go_wp2_with fail
  go_loopw [6] (fun i wr => ∃ k : Nat, k ≤ n ∧ i = .int .i64 k ∧ Hid (TabAt wr p n vc (U k) (V k) ow) ∧ Hid (HuntAt wr q root far fr dn) ∧ Hid (Below wb.heap.size wb wr)) (fun i _ => n - (intOf i).toNat)
  case atStart => exact ⟨0, Nat.zero_le _, rfl, by rw [HU0.out, HV0.out]; exact HT1, HH1, HB1⟩
  case round =>
    clear HT1 HH1 HB1
    obtain ⟨k, hk, rfl, HT, HH, HB⟩ := hrel
    have t0 := HT.out.c0
    have hpw := HT.out.lt
    have hqw := HH.out.lt
    by_cases hlt : k < n
    · have d0 := HH.out.cd k (by omega)
      have o0 := HT.out.co k (by omega)
      have ik : (0 : Int) ≤ (k : Int) := by omega
      have jk : (k : Int) < 10 := by omega
      cases hdk : dn k
      · rw [hdk] at d0
        have HX : Hid (U (k + 1) = U k ∧ V (k + 1) = V k) := by
          show _ ∧ _
          rw [HUS.out, HVS.out, if_neg (by rw [hdk]; simp), if_neg (by rw [hdk]; simp)]; exact ⟨rfl, rfl⟩
        go_wp2_with go_in
        go_roundw
        case rel => exact ⟨k + 1, by omega, by go_num, by rw [HX.out.1, HX.out.2]; first | exact HT | exact HT.out.block rfl, by first | exact HH | exact HH.out.block rfl, by first | exact HB | exact HB.out.drew⟩
        case measure => simp [intOf]; omega
      · rw [hdk] at d0
        by_cases hok : ow k = -1
        · have c1 : (ow k != (-1 : Int)) = false := by simp [hok]
          have HX : Hid (U (k + 1) = U k ∧ V (k + 1) = V k) := by
            show _ ∧ _
            rw [HUS.out, HVS.out, if_neg (by simp [hok]), if_neg (by simp [hok])]; exact ⟨rfl, rfl⟩
          clear hok
          go_wp2_with go_in
          go_roundw
          case rel => exact ⟨k + 1, by omega, by go_num, by rw [HX.out.1, HX.out.2]; first | exact HT | exact HT.out.block rfl, by first | exact HH | exact HH.out.block rfl, by first | exact HB | exact HB.out.drew⟩
          case measure => simp [intOf]; omega
        · obtain ⟨i, hi, hin⟩ : ∃ i : Nat, ow k = i ∧ i < n := by
            rcases HO.out k hlt with h | h
            · exact absurd h hok
            · exact h
          have hfb := HF.out k hlt hdk
          have hub := HU.out k hk i hin
          have hvb := HV.out k hlt
          have tui := HT.out.cu i (by omega)
          have tvk := HT.out.cv k (by omega)
          have f0 := HH.out.cf k (by omega)
          have hfz := HT.out.frozen
          have ii : (0 : Int) ≤ (i : Int) := by omega
          have ji : (i : Int) < 10 := by omega
          rw [HVK.out] at tvk
          have HX : Hid (U (k + 1) = up1 (U k) i (U k i + (D - far k)) ∧ V (k + 1) = up1 (V k) k (v k - (D - far k))) := by
            show _ ∧ _
            rw [HUS.out, HVS.out, if_pos ⟨hdk, hok⟩, if_pos ⟨hdk, hok⟩, hi, HVK.out]; simp
          rw [hi] at o0
          obtain ⟨fk, hfk⟩ : ∃ fk, fk = far k := ⟨_, rfl⟩
          obtain ⟨ui, hui⟩ : ∃ ui, ui = U k i := ⟨_, rfl⟩
          obtain ⟨vk, hvk⟩ : ∃ vk, vk = v k := ⟨_, rfl⟩
          rw [← hfk] at f0 hfb HX
          rw [← hui] at tui hub HX
          rw [← hvk] at tvk hvb HX
          have c1 : ((i : Int) != (-1 : Int)) = true := by simp
          have wz2 : IntKind.i64.wrap (D - fk) = D - fk := i64_fits _ (by omega)
          have wz3 : IntKind.i64.wrap (ui + (D - fk)) = ui + (D - fk) := i64_fits _ (by omega)
          have wz4 : IntKind.i64.wrap (vk - (D - fk)) = vk - (D - fk) := i64_fits _ (by omega)
          have fz1 := hfz (2 + i)
          have hfk2 := hfk
          have hvk2 := hvk
          have HFH := hid hfk
          have HVH := hid hvk
          clear hok hi hfk hui hvk hfz hfk2 hvk2
          go_wp2_with go_in
          go_region
          have HT2 : Hid (TabAt (wr.setCell ⟨p, 2 + i, none⟩ (.int .i64 (ui + (D - fk)))).drew p n vc (up1 (U k) i (ui + (D - fk))) (V k) ow) := (HT.out.putU (by omega) _).block rfl
          have HH2 : Hid (HuntAt (wr.setCell ⟨p, 2 + i, none⟩ (.int .i64 (ui + (D - fk)))).drew q root far fr dn) := (HH.out.aside (Ne.symm hpq) _).block rfl
          have HB2 : Hid (Below wb.heap.size wb (wr.setCell ⟨p, 2 + i, none⟩ (.int .i64 (ui + (D - fk)))).drew) := (HB.out.setCell (by exact hpb) _).drew
          obtain ⟨w2, hw2⟩ : ∃ w2, w2 = (wr.setCell ⟨p, 2 + i, none⟩ (.int .i64 (ui + (D - fk)))).drew := ⟨_, rfl⟩
          rw [← hw2] at HT2 HH2 HB2 ⊢
          have HVV : Hid (V k k = vk) := by show _ = _; rw [HVK.out]; exact HVH.out.symm
          have tv2 := HT2.out.cv k (by omega)
          rw [HVV.out] at tv2
          have f2 := HH2.out.cf k (by omega)
          rw [← HFH.out] at f2
          have fz2 := HT2.out.frozen (12 + k)
          have hp2 := HT2.out.lt
          have hq2 := HH2.out.lt
          clear hw2 HT HH HB tui tvk f0 fz1 hpw hqw d0 o0 t0 wz3
          go_wp2_with go_in
          go_region
          have HT3 : Hid (TabAt (w2.setCell ⟨p, 12 + k, none⟩ (.int .i64 (vk - (D - fk)))).drew p n vc (up1 (U k) i (ui + (D - fk))) (up1 (V k) k (vk - (D - fk))) ow) := (HT2.out.putV (by omega) _).block rfl
          have HH3 : Hid (HuntAt (w2.setCell ⟨p, 12 + k, none⟩ (.int .i64 (vk - (D - fk)))).drew q root far fr dn) := (HH2.out.aside (Ne.symm hpq) _).block rfl
          have HB3 : Hid (Below wb.heap.size wb (w2.setCell ⟨p, 12 + k, none⟩ (.int .i64 (vk - (D - fk)))).drew) := (HB2.out.setCell (by exact hpb) _).drew
          go_wp2
          go_roundw
          case rel => exact ⟨k + 1, by omega, by go_num, by rw [HX.out.1, HX.out.2]; exact HT3, HH3, HB3⟩
          case measure => simp [intOf]; omega
    · have hke : k = n := by omega
      subst hke
      go_wp2_with go_in
      refine bodyPost_end (v := .tuple #[]) (by simp [results, Tryz.results137, go_sem]) rfl ?_
      exact ⟨rfl, HH.out, HT.out, HB.out⟩
end Go.Proofs.YtebinaopncclgaaGreatDoor
namespace Go.Proofs.YtebinaopncclgaaGreatDoor
open Go.RowKit Go.IntWalk

set_option maxRecDepth 100000 in
set_option maxHeartbeats 4000000 in
theorem give_any (p q n root e cnt : Nat) (C : Nat → Nat → Int) (vc : Value) (u0 v0 u v ow far fr : Nat → Int) (dn : Nat → Bool) (ord : Nat → Nat) (wb w : World) (hn : n ≤ 10) (hpq : p ≠ q) (hpb : wb.heap.size ≤ p) (hB : Below wb.heap.size wb w)
    (he : HEnd n C u0 v0 ow root far fr dn ord cnt e) (hT : TInv n C u0 v0 ow root) (ht : TabAt w p n vc u v ow) (hh : HuntAt w q root far fr dn) :
    Calls Tryz.prog 138 #[.pointer (some ⟨p, 0, none⟩), .pointer (some ⟨q, 0, none⟩), .int .i64 e] w fun r w' => r = .returned (.tuple #[]) ∧ ∃ (W : Nat → Prop) (j : Nat) (ow' : Nat → Int), Given n ow fr root e W j ow' ∧ (∀ c, c < n → W c ∨ c = j → dn c = true) ∧ TabAt w' p n vc u v ow' ∧ Below wb.heap.size wb w' := by
  have HE := hid he
  have HTI := hid hT
  have HT0 := hid ht
  have HH0 := hid hh
  have HB0 := hid hB
  have HG0 := hid (give_begin he)
  clear he hT ht hh hB
  go_enter Tryz.func138, Tryz.ntmps138
  go_wp2_with fail
  go_loopw [6] (fun cv wr => ∃ (j : Nat) (OW : Nat → Int) (W : Nat → Prop), cv = .int .i64 j ∧ Hid (GInv n ow fr dn ord e W j OW) ∧ Hid (TabAt wr p n vc u v OW) ∧ Hid (HuntAt wr q root far fr dn) ∧ Hid (Below wb.heap.size wb wr)) (fun cv _ => ord (intOf cv).toNat)
  case atStart => exact ⟨e, ow, fun _ => False, rfl, HG0, HT0, HH0, HB0⟩
  case round =>
    clear HG0 HT0 HH0 HB0
    obtain ⟨j, OW, W, rfl, HG, HT, HH, HB⟩ := hrel
    have hpw := HT.out.lt
    have hqw := HH.out.lt
    have hjn := HG.out.jlt
    have r0 := HH.out.cr j (by omega)
    have o0 := HT.out.co j (by omega)
    have fz := HT.out.frozen (22 + j)
    have ij : (0 : Int) ≤ (j : Int) := by omega
    have jj : (j : Int) < 10 := by omega
    by_cases hf : fr j = -1
    · have hgv := give_end HE.out HG.out hf
      have h0 := HH.out.c0
      rw [hf] at r0
      have HGV := hid hgv
      clear hf hgv
      go_wp2_with go_in
      go_region
      go_wp2
      refine bodyPost_end (v := .tuple #[]) (by simp [results, Tryz.results138, go_sem]) rfl ?_
      exact ⟨rfl, W, j, up1 OW j root, HGV.out.1, HGV.out.2, by first | exact HT.out.putO (by omega) _ | exact (HT.out.putO (by omega) _).block rfl, by first | exact HB.out.setCell (by exact hpb) _ | exact (HB.out.setCell (by exact hpb) _).drew⟩
    · obtain ⟨d, hd, hfd, hlt, hg2⟩ := give_next HE.out HG.out hf
      have HG2 := hid hg2
      have o1 := HT.out.co d (by omega)
      have id : (0 : Int) ≤ (d : Int) := by omega
      have jd : (d : Int) < 10 := by omega
      have c1 : ((d : Int) != (-1 : Int)) = true := by simp
      rw [hfd] at r0
      obtain ⟨x, hx⟩ : ∃ x, x = OW d := ⟨_, rfl⟩
      rw [← hx] at o1 HG2
      have HLT := hid hlt
      have HFD := hid hfd
      clear hf hfd hg2 hlt hx
      go_wp2_with go_in
      go_region
      have HT2 : Hid (TabAt (wr.setCell ⟨p, 22 + j, none⟩ (.int .i64 x)).drew p n vc u v (up1 OW j x)) := (HT.out.putO (by omega) _).block rfl
      have HH2 : Hid (HuntAt (wr.setCell ⟨p, 22 + j, none⟩ (.int .i64 x)).drew q root far fr dn) := (HH.out.aside (Ne.symm hpq) _).block rfl
      have HB2 : Hid (Below wb.heap.size wb (wr.setCell ⟨p, 22 + j, none⟩ (.int .i64 x)).drew) := (HB.out.setCell (by exact hpb) _).drew
      obtain ⟨w2, hw2⟩ : ∃ w2, w2 = (wr.setCell ⟨p, 22 + j, none⟩ (.int .i64 x)).drew := ⟨_, rfl⟩
      rw [← hw2] at HT2 HH2 HB2 ⊢
      have r2 := HH2.out.cr j (by omega)
      rw [HFD.out] at r2
      have hp2 := HT2.out.lt
      have hq2 := HH2.out.lt
      clear hw2 r0 o0 o1 fz hpw hqw HT HH HB
      go_wp2_with go_in
      go_roundw
      case rel => exact ⟨d, _, _, by go_num, HG2, by first | exact HT2 | exact HT2.out.block rfl, by first | exact HH2 | exact HH2.out.block rfl, by first | exact HB2 | exact HB2.out.drew⟩
      case measure => simpa [intOf] using HLT.out
end Go.Proofs.YtebinaopncclgaaGreatDoor
