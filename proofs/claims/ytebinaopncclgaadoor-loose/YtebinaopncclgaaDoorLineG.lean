/- Walks: the text of a line, in whatever style. -/
import Derived.Test.YtebinaopncclgaaDoorText
import Derived.Test.YtebinaopncclgaaDoorSty
namespace Go.Proofs.YtebinaopncclgaaDoor
open Go.RowKit Go.IntWalk

def sty (z : Int) : Sty := ⟨bits .and .i64 z 1 == 1, bits .and .i64 (z / 2) 1 == 1, bits .and .i64 (z / 4) 1 == 1, bits .and .i64 (z / 8) 1 == 1, bits .and .i64 (z / 16) 1 == 1, bits .and .i64 (z / 32) 1 == 1⟩

theorem gap_on {b : Bool} {m : Nat} (h : b = true) (hm : ((m : Int) % 2 == 0) = true) : gap b m = [32] := by
  unfold gap; rw [if_pos ⟨h, by simp at hm; omega⟩]
theorem gap_odd {b : Bool} {m : Nat} (hm : ((m : Int) % 2 == 0) = false) : gap b m = [] := by
  unfold gap; rw [if_neg]; rintro ⟨_, h⟩; simp at hm; omega
theorem gap_off {b : Bool} {m : Nat} (h : ¬ b = true) : gap b m = [] := by
  unfold gap; rw [if_neg]; rintro ⟨h', _⟩; exact h h'
def strLen : Value → Nat
  | .string b => b.size
  | _ => 0
theorem pad_step {t : List UInt8} (h : t.length < 5) : List.replicate (5 - (48 :: t).length) 48 ++ 48 :: t = List.replicate (5 - t.length) 48 ++ t := by
  have e : 5 - t.length = (5 - (48 :: t).length) + 1 := by simp; omega
  rw [e, List.replicate_succ']; simp
theorem pad_end {t : List UInt8} (h : ¬ t.length < 5) : List.replicate (5 - t.length) 48 ++ t = t := by
  rw [show 5 - t.length = 0 by omega]; rfl

set_option maxHeartbeats 2000000 in
theorem lineG_any (b n c : Nat) (st : Int) (k : List UInt8) (zs : List Int) (w : World) (hn : zs.length = n) (hl : n ≤ 10) (hk : k.length ≤ 10) (hb : b < w.heap.size)
    (hz : ∀ z ∈ zs, 0 ≤ z ∧ z ≤ 99999) (hc : ∀ i, i < n → w.cell? ⟨b, i, none⟩ = some (.int .i64 (zs.getD i 0))) :
    Calls Tryd.prog 10 #[.string ⟨k.toArray⟩, .slice (some ⟨b, 0, none⟩) n c, .int .i64 st] w fun e w' => e = .returned (.string ⟨(lineG (sty st) k zs).toArray⟩) ∧ Below w.heap.size w w' := by
  subst hn
  obtain ⟨s, hs⟩ : ∃ s, s = sty st := ⟨_, rfl⟩
  rw [← hs]
  obtain ⟨b0, b1, b2, b3, b4, b5⟩ := s
  simp only [sty, Sty.mk.injEq] at hs
  obtain ⟨h0, h1, h2, h3, h4, h5⟩ := hs
  replace h0 := h0.symm
  replace h1 := h1.symm
  replace h2 := h2.symm
  replace h3 := h3.symm
  replace h4 := h4.symm
  clear h5
  obtain ⟨k0, hk0⟩ : ∃ k0, k0 = sp b0 ++ k := ⟨_, rfl⟩
  have hk0l : k0.length ≤ 11 := by have := sp_length b0; rw [hk0]; simp; omega
  have HK : Hid (k0 = sp b0 ++ k) := hk0
  clear hk0
  obtain ⟨b0', hb0'⟩ : ∃ b0', b0' = b0 := ⟨_, rfl⟩
  have HB : Hid (b0' = b0) := hb0'
  rw [show lineG ⟨b0, b1, b2, b3, b4, b5⟩ k zs = lineG ⟨b0', b1, b2, b3, b4, b5⟩ k zs from by rw [hb0']]
  clear hb0'
  go_enter Tryd.func10, Tryd.ntmps10
  cases b0
  all_goals
    go_wp2
    go_loopw [0, 7, 8] (fun s i d wr => ∃ (m : Nat) (t : List UInt8), i = .int .i64 m ∧ s = .string ⟨t.toArray⟩ ∧ m ≤ zs.length ∧ t.length ≤ 11 + 8 * m ∧ Hid (t = k0 ++ wrdsG ⟨b0', b1, b2, b3, b4, b5⟩ zs m) ∧ Below w.heap.size w wr) (fun _ i _ _ => zs.length - (intOf i).toNat)
    case atStart => exact ⟨0, k0, rfl, by rw [HK.out]; first | rfl | (rw [ba_cons]; rfl), by simp, by omega, by show _ = _; simp [wrdsG], Below.refl _ _⟩
    case round =>
      obtain ⟨m, t, rfl, rfl, hm, ht, HT, hbel⟩ := hrel
      have hsize := hbel.size
      by_cases hlt : m < zs.length
      · have hcm : wr.cell? ⟨b, m, none⟩ = some (.int .i64 zs[m]) := by
          rw [hbel.cell (by exact hb), hc m hlt]; simp [hlt]
        have hzm := hz zs[m] (List.getElem_mem hlt)
        have HS : Hid (wrdsG ⟨b0', b1, b2, b3, b4, b5⟩ zs (m + 1) = wrdsG ⟨b0', b1, b2, b3, b4, b5⟩ zs m ++ wrdG ⟨b0', b1, b2, b3, b4, b5⟩ m zs[m]) := by
          show _ = _; simp [wrdsG, hlt]
        clear hc hz
        generalize zs[m] = z at *
        obtain ⟨q, rfl⟩ := Int.eq_ofNat_of_zero_le hzm.1
        have hq : q ≤ 99999 := by omega
        have HQ' : (decS q).length ≤ 6 := decF_length 5 q
        clear hzm
        have hL := wrdG_length ⟨b0', b1, b2, b3, b4, b5⟩ m q
        cases b1
        · go_wp2_with (go_at_call 13; refine (digits_any q _ hq).mono ?_; rintro e w' ⟨rfl, hb1⟩)
          all_goals
            go_roundw
            case rel =>
              refine ⟨m + 1, t ++ wrdG ⟨b0', false, b2, b3, b4, b5⟩ m q, by go_num, ?_, by omega, ?_, ?_, hbel.trans (hb1.mono hsize)⟩
              · show Value.string _ = Value.string _
                first
                  | (have hg := gap_on (b := b2) (m := m) (by assumption) (by assumption); congr 1; apply ByteArray.ext; simp [ByteArray.data_append, wrdG, hg, padD])
                  | (have hg := gap_odd (b := b2) (m := m) (by assumption); congr 1; apply ByteArray.ext; simp [ByteArray.data_append, wrdG, hg, padD])
                  | (have hg := gap_off (b := b2) (m := m) (by assumption); congr 1; apply ByteArray.ext; simp [ByteArray.data_append, wrdG, hg, padD])
              · simp only [List.length_append]; omega
              · show _ = _; rw [HS.out, HT.out]; simp
            case measure => simp [intOf]; omega
        · go_wp2_with (go_at_call 13; refine (digits_any q _ hq).mono ?_; rintro e w' ⟨rfl, hb1⟩)
          go_loopw [8] (fun d wx => ∃ (u : List UInt8), d = .string ⟨u.toArray⟩ ∧ u.length ≤ 6 ∧ Hid (List.replicate (5 - u.length) 48 ++ u = padD true (decS q)) ∧ wx = w') (fun d _ => 5 - strLen d)
          case atStart => exact ⟨decS q, rfl, HQ', by show _ = _; simp [padD], rfl⟩
          case round =>
            obtain ⟨u, rfl, hu, HU, rfl⟩ := hrel
            by_cases hu5 : u.length < 5
            · go_wp2
              go_roundw
              case rel => exact ⟨48 :: u, by rw [ba_cons], by simp; omega, by show _ = _; rw [pad_step hu5]; exact HU.out, trivial⟩
              case measure => simp [strLen, ByteArray.size]; omega
            · have HU' : Hid (u = padD true (decS q)) := by show _ = _; rw [← HU.out, pad_end hu5]
              go_wp2
              all_goals
                go_roundw
                case rel =>
                  refine ⟨m + 1, t ++ wrdG ⟨b0', true, b2, b3, b4, b5⟩ m q, by go_num, ?_, by omega, ?_, ?_, hbel.trans (hb1.mono hsize)⟩
                  · show Value.string _ = Value.string _
                    have hu' := HU'.out
                    first
                      | (have hg := gap_on (b := b2) (m := m) (by assumption) (by assumption); congr 1; apply ByteArray.ext; simp [ByteArray.data_append, wrdG, hg, hu'])
                      | (have hg := gap_odd (b := b2) (m := m) (by assumption); congr 1; apply ByteArray.ext; simp [ByteArray.data_append, wrdG, hg, hu'])
                      | (have hg := gap_off (b := b2) (m := m) (by assumption); congr 1; apply ByteArray.ext; simp [ByteArray.data_append, wrdG, hg, hu'])
                  · simp only [List.length_append]; omega
                  · show _ = _; rw [HS.out, HT.out]; simp
                case measure => simp [intOf]; omega
      · have hke : m = zs.length := by omega
        subst hke
        have HE : Hid (lineG ⟨b0', b1, b2, b3, b4, b5⟩ k zs = t ++ sp b3 ++ [10] ++ more ⟨b0', b1, b2, b3, b4, b5⟩) := by
          show _ = _; unfold lineG bodyG; rw [HT.out, HK.out, HB.out]
        cases b3 <;> cases b4
        all_goals
          go_wp2
          go_ret
          refine ⟨retS ?_, hbel⟩
          rw [HE.out]; apply ByteArray.ext; simp [ByteArray.data_append, sp, more]
end Go.Proofs.YtebinaopncclgaaDoor
