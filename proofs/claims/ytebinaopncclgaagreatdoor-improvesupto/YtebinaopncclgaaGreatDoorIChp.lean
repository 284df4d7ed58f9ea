/- Walks: the cheapest of the moves. -/
import Derived.Test.YtebinaopncclgaaGreatDoorDWant
import Derived.Test.YtebinaopncclgaaGreatDoorJCall
import Derived.BigQuiet
namespace Go.Proofs.YtebinaopncclgaaGreatDoor

def tdStep (o p : List UInt8) : List UInt8 := (if p ≠ [] ∧ o ≠ [] then o ++ [47] else o) ++ p
def tidyS (ps : List (List UInt8)) : List UInt8 := ps.foldl tdStep []
theorem tidy_snoc (ps : List (List UInt8)) (p : List UInt8) : tidyS (ps ++ [p]) = tdStep (tidyS ps) p := by simp [tidyS]
theorem tidy_void (ps qs : List (List UInt8)) : tidyS (ps ++ [] :: qs) = tidyS (ps ++ qs) := by
  unfold tidyS
  rw [List.foldl_append, List.foldl_append, List.foldl_cons]
  congr 1
  simp [tdStep]
theorem psnoc_ind {P : List (List UInt8) → Prop} (h0 : P []) (h1 : ∀ l c, P l → P (l ++ [c])) (l : List (List UInt8)) : P l := by
  have key : ∀ n (l : List (List UInt8)), l.length = n → P l := by
    intro n
    induction n with
    | zero => intro l h; rw [List.length_eq_zero_iff.1 h]; exact h0
    | succ n ih =>
      intro l h
      have hne : l ≠ [] := fun e => by rw [e] at h; simp at h
      rw [← List.dropLast_concat_getLast hne]
      exact h1 _ _ (ih _ (by simp [h]))
  exact key _ l rfl
theorem tidy_full (ps : List (List UInt8)) : (∀ p ∈ ps, p ≠ []) → ps ≠ [] → tidyS ps ≠ [] ∧ tidyS ps ++ [47] = (ps.map (· ++ [47])).flatten := by
  refine psnoc_ind (P := fun ps => (∀ p ∈ ps, p ≠ []) → ps ≠ [] → tidyS ps ≠ [] ∧ tidyS ps ++ [47] = (ps.map (· ++ [47])).flatten) (fun _ h => absurd rfl h) ?_ ps
  intro ps p ih hn _
  have hp : p ≠ [] := hn p (by simp)
  rw [tidy_snoc]
  unfold tdStep
  by_cases hps : ps = []
  · subst hps
    rw [if_neg (by simp [tidyS])]
    exact ⟨by simpa [tidyS] using hp, by simp [tidyS]⟩
  · obtain ⟨h1, h2⟩ := ih (fun q hq => hn q (by simp [hq])) hps
    rw [if_pos ⟨hp, h1⟩]
    refine ⟨by simp, ?_⟩
    rw [List.map_append, List.flatten_append, ← h2]; simp
theorem spl_text (s : List UInt8) : ((spl 47 s).1.map (· ++ [47])).flatten ++ (spl 47 s).2 = s := by
  refine snoc_ind (P := fun s => ((spl 47 s).1.map (· ++ [47])).flatten ++ (spl 47 s).2 = s) rfl ?_ s
  intro s c ih
  rw [spl_snoc]
  unfold stepL
  by_cases hc : c = 47
  · rw [if_pos hc]
    simp only [List.map_append, List.flatten_append, List.append_nil, List.map_cons, List.map_nil, List.flatten_cons, List.flatten_nil]
    rw [← List.append_assoc, ih, hc]
  · rw [if_neg hc]
    simp only
    rw [← List.append_assoc, ih]
/- no piece is empty -/
def NE (s : List UInt8) : Prop := ∀ p ∈ splitB 47 s, p ≠ []
theorem tidy_same {s : List UInt8} (h : NE s) : tidyS (splitB 47 s) = s := by
  have ht := spl_text s
  unfold NE splitB at h
  unfold splitB
  rw [tidy_snoc]
  unfold tdStep
  have hC : (spl 47 s).2 ≠ [] := h _ (by simp)
  by_cases hP : (spl 47 s).1 = []
  · rw [hP] at ht ⊢
    rw [if_neg (by simp [tidyS])]
    simpa [tidyS] using ht
  · obtain ⟨h1, h2⟩ := tidy_full (spl 47 s).1 (fun p hp => h p (by simp [hp])) hP
    rw [if_pos ⟨hC, h1⟩, h2]; exact ht
/- two texts, one behind the other -/
theorem spl_from (B : List UInt8) : ∀ P C, (B.foldl (stepL 47) (P, C)).1 ++ [(B.foldl (stepL 47) (P, C)).2] = P ++ (C ++ (splitB 47 B).headD []) :: (splitB 47 B).tail := by
  induction B with
  | nil => intro P C; simp [splitB, spl]
  | cons x B ih =>
    intro P C
    simp only [List.foldl_cons]
    have hb : splitB 47 (x :: B) = if x = 47 then [] :: splitB 47 B else (x :: (splitB 47 B).headD []) :: (splitB 47 B).tail := by
      unfold splitB spl
      simp only [List.foldl_cons]
      by_cases hx : x = 47
      · rw [if_pos hx, show stepL 47 ([], []) x = ([[]], []) by simp [stepL, hx]]
        have := ih [[]] []
        have h2 := ih [] []
        rw [this]
        simp only [List.nil_append] at h2 ⊢
        rw [h2]
        unfold splitB spl at *
        simp
      · rw [if_neg hx, show stepL 47 ([], []) x = ([], [x]) by simp [stepL, hx]]
        have := ih [] [x]
        rw [this]
        unfold splitB spl
        simp
    rw [hb]
    by_cases hx : x = 47
    · rw [if_pos hx, show stepL 47 (P, C) x = (P ++ [C], []) by simp [stepL, hx], ih]
      have hne : splitB 47 B ≠ [] := by unfold splitB; simp
      cases hs : splitB 47 B with
      | nil => exact absurd hs hne
      | cons b bs => simp
    · rw [if_neg hx, show stepL 47 (P, C) x = (P, C ++ [x]) by simp [stepL, hx], ih]
      simp
theorem split_cons (x : UInt8) (B : List UInt8) : splitB 47 (x :: B) = if x = 47 then [] :: splitB 47 B else (x :: (splitB 47 B).headD []) :: (splitB 47 B).tail := by
  have hne : splitB 47 B ≠ [] := by unfold splitB; simp
  have h : splitB 47 (x :: B) = (B.foldl (stepL 47) (stepL 47 ([], []) x)).1 ++ [(B.foldl (stepL 47) (stepL 47 ([], []) x)).2] := rfl
  rw [h]
  by_cases hx : x = 47
  · rw [if_pos hx, show stepL 47 ([], []) x = ([[]], []) by simp [stepL, hx], spl_from]
    cases hs : splitB 47 B with
    | nil => exact absurd hs hne
    | cons b bs => simp
  · rw [if_neg hx, show stepL 47 ([], []) x = ([], [x]) by simp [stepL, hx], spl_from]; simp
theorem split_app (A B : List UInt8) : splitB 47 (A ++ B) = (spl 47 A).1 ++ ((spl 47 A).2 ++ (splitB 47 B).headD []) :: (splitB 47 B).tail := by
  have h : splitB 47 (A ++ B) = (B.foldl (stepL 47) (spl 47 A)).1 ++ [(B.foldl (stepL 47) (spl 47 A)).2] := by unfold splitB spl; rw [List.foldl_append]
  rw [h]; exact spl_from B _ _
theorem split_slash (A B : List UInt8) : splitB 47 (A ++ 47 :: B) = splitB 47 A ++ splitB 47 B := by
  rw [split_app, split_cons, if_pos rfl]
  unfold splitB; simp
/- a stop taken out, as the program does it -/
def withoutS (A B : List UInt8) : List UInt8 :=
  if (A = [] ∨ A.getLast? = some 47) ∧ (B = [] ∨ B.head? = some 47) ∧ A ≠ [] then A.dropLast ++ B
  else if (A = [] ∨ A.getLast? = some 47) ∧ (B = [] ∨ B.head? = some 47) ∧ B ≠ [] then A ++ B.tail
  else A ++ B
theorem first_iff (A : List UInt8) : (A = [] ∨ A.getLast? = some 47) ↔ (spl 47 A).2 = [] := by
  refine snoc_ind (P := fun A => (A = [] ∨ A.getLast? = some 47) ↔ (spl 47 A).2 = []) ?_ ?_ A
  · simp [spl]
  · intro A c _
    rw [spl_snoc]
    unfold stepL
    by_cases hc : c = 47
    · rw [if_pos hc]; simp [hc]
    · rw [if_neg hc]; simp [hc]
theorem last_iff (B : List UInt8) : (B = [] ∨ B.head? = some 47) ↔ (splitB 47 B).headD [] = [] := by
  cases B with
  | nil => simp [splitB, spl]
  | cons x B =>
    rw [split_cons]
    by_cases hx : x = 47
    · simp [hx]
    · simp [hx]
theorem without_tidy {A B : List UInt8} {c : UInt8} (hc : c ≠ 47) (h : NE (A ++ c :: B)) : withoutS A B = tidyS (splitB 47 (A ++ B)) := by
  have hsp : splitB 47 (A ++ c :: B) = (spl 47 A).1 ++ ((spl 47 A).2 ++ c :: (splitB 47 B).headD []) :: (splitB 47 B).tail := by
    rw [split_app, split_cons, if_neg hc]; simp
  have hP : ∀ p ∈ (spl 47 A).1, p ≠ [] := fun p hp => h p (by rw [hsp]; simp [hp])
  have hQ : ∀ p ∈ (splitB 47 B).tail, p ≠ [] := fun p hp => h p (by rw [hsp]; simp [hp])
  have f1 := first_iff A
  have f2 := last_iff B
  by_cases hb : (spl 47 A).2 = [] ∧ (splitB 47 B).headD [] = []
  · have g1 := f1.2 hb.1
    have g2 := f2.2 hb.2
    have hab : splitB 47 (A ++ B) = (spl 47 A).1 ++ [] :: (splitB 47 B).tail := by rw [split_app, hb.1, hb.2]; rfl
    rw [hab, tidy_void]
    unfold withoutS
    by_cases hA : A = []
    · rw [if_neg (fun h => h.2.2 hA)]
      subst hA
      by_cases hB : B = []
      · subst hB
        rw [if_neg (fun h => h.2.2 rfl)]; rfl
      · rw [if_pos ⟨g1, g2, hB⟩]
        obtain ⟨x, B', rfl⟩ := List.exists_cons_of_ne_nil hB
        have hx : x = 47 := by rcases g2 with h | h; exact absurd h hB; simpa using h
        subst hx
        rw [split_cons, if_pos rfl] at hQ ⊢
        simp only [List.tail_cons] at hQ ⊢
        exact (tidy_same hQ).symm
    · rw [if_pos ⟨g1, g2, hA⟩]
      have hl : A = A.dropLast ++ [47] := by
        rcases g1 with h | h
        · exact absurd h hA
        · rw [List.getLast?_eq_some_getLast hA] at h
          have h2 := List.dropLast_concat_getLast hA
          rw [Option.some.inj h] at h2
          exact h2.symm
      have hp1 : (spl 47 A).1 = splitB 47 A.dropLast := by
        rw [hl, spl_snoc]
        simp [stepL, splitB]
      rw [hp1] at hP ⊢
      by_cases hB : B = []
      · subst hB
        have : (splitB 47 ([] : List UInt8)).tail = [] := rfl
        rw [this, List.append_nil, List.append_nil]
        exact (tidy_same hP).symm
      · obtain ⟨x, B', rfl⟩ := List.exists_cons_of_ne_nil hB
        have hx : x = 47 := by rcases g2 with h | h; exact absurd h hB; simpa using h
        subst hx
        rw [split_cons, if_pos rfl] at hQ ⊢
        simp only [List.tail_cons] at hQ ⊢
        rw [← split_slash]
        refine (tidy_same ?_).symm
        intro p hp
        rw [split_slash] at hp
        rcases List.mem_append.1 hp with hp | hp
        · exact hP p hp
        · exact hQ p hp
  · have hne : NE (A ++ B) := by
      intro p hp
      rw [split_app] at hp
      rcases List.mem_append.1 hp with hp | hp
      · exact hP p hp
      · rcases List.mem_cons.1 hp with hp | hp
        · rw [hp]; intro e; exact hb (by simpa using e)
        · exact hQ p hp
    rw [tidy_same hne]
    unfold withoutS
    rw [if_neg (fun h => hb ⟨f1.1 h.1, f2.1 h.2.1⟩), if_neg (fun h => hb ⟨f1.1 h.1, f2.1 h.2.1⟩)]
/- the moves of one stop -/
def putS (rest : List UInt8) (c : UInt8) : List (List UInt8) := ((List.range (rest.length + 1)).map fun k => rest.take k ++ [c] ++ rest.drop k) ++ (if rest = [] then [] else [rest ++ [47] ++ [c]])
def movesS (f : List UInt8 → List UInt8 → List UInt8) (l : List UInt8) (k : Nat) : List (List UInt8) := (List.range k).flatMap fun i => if l.getD i 0 = 47 then [] else putS (f (l.take i) (l.drop (i + 1))) (l.getD i 0)
theorem moves_succ (f : List UInt8 → List UInt8 → List UInt8) (l : List UInt8) (k : Nat) : movesS f l (k + 1) = movesS f l k ++ (if l.getD k 0 = 47 then [] else putS (f (l.take k) (l.drop (k + 1))) (l.getD k 0)) := by
  simp [movesS, List.range_succ]
theorem moves_same {n : Nat} {l : List UInt8} (h : isPlanS n l = true) : movesS withoutS l l.length = movesS (fun A B => tidyS (splitB 47 (A ++ B))) l l.length := by
  have key : ∀ k, k ≤ l.length → movesS withoutS l k = movesS (fun A B => tidyS (splitB 47 (A ++ B))) l k := by
    intro i
    induction i with
    | zero => intro _; rfl
    | succ i ih =>
      intro hi
      have hi' : i < l.length := by omega
      rw [moves_succ, moves_succ, ih (by omega)]
      congr 1
      by_cases hc : l.getD i 0 = 47
      · rw [if_pos hc, if_pos hc]
      · rw [if_neg hc, if_neg hc]
        congr 1
        have hg : l.getD i 0 = l[i] := by rw [List.getD_eq_getElem?_getD, List.getElem?_eq_getElem hi']; rfl
        rw [hg] at hc
        refine without_tidy hc ?_
        have hsplit : l.take i ++ l[i] :: l.drop (i + 1) = l := by simp
        rw [hsplit]
        intro p hp e
        rw [← planned_plan] at h
        unfold plannedS at h
        have hne : l.isEmpty = false := by cases l with | nil => simp at hi' | cons x t => rfl
        rw [hne, Bool.false_or] at h
        have := List.all_eq_true.1 h p hp
        rw [e] at this
        simp [okP] at this
  exact key _ (Nat.le_refl _)
end Go.Proofs.YtebinaopncclgaaGreatDoor
namespace Go.Proofs.YtebinaopncclgaaGreatDoor
open Go.RowKit Go.IntWalk

theorem str_eq {x : ByteArray} {l : List UInt8} (h : x.data.toList = l) : Value.string x = Value.string ⟨l.toArray⟩ := by rw [← h]
theorem ext_list (s : ByteArray) (b k : Nat) : (s.extract b k).data.toList = (s.data.toList.drop b).take (k - b) := by rw [Lib.extract_eq]
theorem app_list (a b : ByteArray) : (a ++ b).data.toList = a.data.toList ++ b.data.toList := by simp
theorem ext_void (s : ByteArray) (b k : Nat) : (s.extract b k).toList.isEmpty = ((s.data.toList.drop b).take (k - b)).isEmpty := by rw [is_void, ext_list]
theorem last_take {l : List UInt8} {k : Nat} (hk : k ≤ l.length) (h0 : k ≠ 0) : (l.take k).getLast? = some (l[k - 1]'(by omega)) := by
  rw [List.getLast?_eq_getElem?, List.length_take, Nat.min_eq_left hk, List.getElem?_take_of_lt (by omega), List.getElem?_eq_getElem]
theorem head_drop {l : List UInt8} {k : Nat} (hk : k < l.length) : (l.drop k).head? = some l[k] := by
  rw [List.head?_drop, List.getElem?_eq_getElem hk]

theorem sh1 (s : ByteArray) (k : Nat) : (s.extract 0 k ++ s.extract (k + 1) s.size).data.toList = s.data.toList.take k ++ s.data.toList.drop (k + 1) := by
  rw [app_list, ext_list, ext_list, List.drop_zero, Nat.sub_zero, List.take_of_length_le (l := s.data.toList.drop (k + 1)) (by simp)]
theorem sh2 (s : ByteArray) (k : Nat) (hk : k - 1 < s.size) : ((s.extract 0 k).extract 0 (k - 1) ++ s.extract (k + 1) s.size).data.toList = (s.data.toList.take k).dropLast ++ s.data.toList.drop (k + 1) := by
  have hl : s.data.toList.length = s.size := by simp
  rw [app_list, ext_list, ext_list, ext_list, List.drop_zero, List.drop_zero, Nat.sub_zero, Nat.sub_zero, List.take_take, List.take_of_length_le (l := s.data.toList.drop (k + 1)) (by simp)]
  congr 1
  rw [List.dropLast_eq_take, List.length_take, List.take_take]
  congr 1
  omega
theorem sh3 (s : ByteArray) (k : Nat) : (s.extract 0 k ++ (s.extract (k + 1) s.size).extract 1 (s.size - (k + 1))).data.toList = s.data.toList.take k ++ (s.data.toList.drop (k + 1)).tail := by
  rw [app_list, ext_list, ext_list, ext_list, List.drop_zero, Nat.sub_zero, List.take_of_length_le (l := s.data.toList.drop (k + 1)) (by simp), List.drop_one, List.take_of_length_le (l := (s.data.toList.drop (k + 1)).tail) (by simp; omega)]

set_option maxRecDepth 100000 in
set_option maxHeartbeats 4000000 in
theorem without_any (s : ByteArray) (k : Nat) (w : World) (hk : k < s.size) (hs : s.size ≤ 1000) :
    Calls Tryz.prog 200 #[.string s, .int .i64 k] w fun e w' => e = .returned (.string ⟨(withoutS (s.data.toList.take k) (s.data.toList.drop (k + 1))).toArray⟩) ∧ Below w.heap.size w w' := by
  have hkm : k - 1 < s.size := by omega
  have zA : (s.extract 0 k).size = k := by simp; omega
  have zB : (s.extract (k + 1) s.size).size = s.size - (k + 1) := by simp
  have hlen : s.data.toList.length = s.size := by simp
  have iA : ∀ (h0 : k ≠ 0) (h : k - 1 < (s.extract 0 k).size), (s.extract 0 k)[k - 1]'h = s[k - 1]'hkm := fun h0 h => by
    have e : (s.extract 0 k).data.toList[k - 1]? = s.data.toList[k - 1]? := by rw [ext_list, List.drop_zero, List.getElem?_take_of_lt (by omega)]
    rw [List.getElem?_eq_getElem (by simpa using h), List.getElem?_eq_getElem (by omega)] at e
    exact Option.some.inj e
  have iB : ∀ (h1 : k + 1 < s.size) (h : 0 < (s.extract (k + 1) s.size).size), (s.extract (k + 1) s.size)[0]'h = s[k + 1]'h1 := fun h1 h => by
    have e : (s.extract (k + 1) s.size).data.toList[0]? = s.data.toList[k + 1]? := by rw [ext_list, List.getElem?_take_of_lt (by omega), List.getElem?_drop]
    rw [List.getElem?_eq_getElem (by simpa using h), List.getElem?_eq_getElem (by omega)] at e
    exact Option.some.inj e
  have HW : Hid (∀ l, l = withoutS (s.data.toList.take k) (s.data.toList.drop (k + 1)) → withoutS (s.data.toList.take k) (s.data.toList.drop (k + 1)) = l) := fun l h => h.symm
  have vA := ext_void s 0 k
  have vB := ext_void s (k + 1) s.size
  have tA : (s.data.toList.drop 0).take (k - 0) = s.data.toList.take k := by simp
  have tB : (s.data.toList.drop (k + 1)).take (s.size - (k + 1)) = s.data.toList.drop (k + 1) := List.take_of_length_le (by simp)
  rw [tA] at vA
  rw [tB] at vB
  by_cases h0 : k = 0
  · have hA0 : s.data.toList.take k = [] := by rw [h0]; rfl
    have v1 : (s.extract 0 k).toList.isEmpty = true := by rw [vA, hA0]; rfl
    by_cases h1 : k + 1 = s.size
    · have hB0 : s.data.toList.drop (k + 1) = [] := List.drop_eq_nil_of_le (by omega)
      have v2 : (s.extract (k + 1) s.size).toList.isEmpty = true := by rw [vB, hB0]; rfl
      have HX : Hid (withoutS (s.data.toList.take k) (s.data.toList.drop (k + 1)) = s.data.toList.take k ++ s.data.toList.drop (k + 1)) := by
        show _ = _
        unfold withoutS
        rw [if_neg (fun h => h.2.2 hA0), if_neg (fun h => h.2.2 hB0)]
      clear HW vA vB


      clear tA tB hlen hA0 h0 iA iB hB0 h1
      go_enter Tryz.func200, Tryz.ntmps200
      go_wp2_with go_in
      all_goals
        go_ret
        refine ⟨?_, Below.refl _ _⟩
        rw [HX.out]
        refine congrArg Ending.returned (str_eq ?_)
        first
          | exact sh1 s k
          | exact sh2 s k hkm
          | exact sh3 s k
    · have h1' : k + 1 < s.size := by omega
      have hB1 : s.data.toList.drop (k + 1) ≠ [] := fun e => by
        have h := congrArg List.length e
        rw [List.length_drop] at h
        have h' : s.data.toList.length - (k + 1) = 0 := h
        omega
      have v2 : (s.extract (k + 1) s.size).toList.isEmpty = false := by rw [vB]; simpa using hB1
      have jB := iB h1'
      by_cases hsB : s.data.toList[k + 1]'(by omega) = 47
      · have HX : Hid (withoutS (s.data.toList.take k) (s.data.toList.drop (k + 1)) = s.data.toList.take k ++ (s.data.toList.drop (k + 1)).tail) := by
          show _ = _
          unfold withoutS
          rw [if_neg (fun h => h.2.2 hA0), if_pos ⟨.inl (by rw [hA0]), .inr (by rw [head_drop (by omega)]; exact congrArg some hsB), hB1⟩]
        clear HW vA vB

        have c2 : (((s[k + 1]'h1').toNat : Int) == 47) = true := by rw [show s[k + 1]'h1' = 47 from hsB]; rfl
        clear tA tB hlen hA0 h0 iA iB hB1 hsB
        go_enter Tryz.func200, Tryz.ntmps200
        go_wp2_with go_in
        all_goals
          go_ret
          refine ⟨?_, Below.refl _ _⟩
          rw [HX.out]
          refine congrArg Ending.returned (str_eq ?_)
          first
            | exact sh1 s k
            | exact sh2 s k hkm
            | exact sh3 s k
      · have HX : Hid (withoutS (s.data.toList.take k) (s.data.toList.drop (k + 1)) = s.data.toList.take k ++ s.data.toList.drop (k + 1)) := by
          show _ = _
          unfold withoutS
          rw [if_neg (fun h => by rcases h.2.1 with h | h; exact hB1 h; rw [head_drop (by omega)] at h; exact hsB (Option.some.inj h)), if_neg (fun h => by rcases h.2.1 with h | h; exact hB1 h; rw [head_drop (by omega)] at h; exact hsB (Option.some.inj h))]
        clear HW vA vB

        have c2 : (((s[k + 1]'h1').toNat : Int) == 47) = false := by rw [beq_eq_false_iff_ne]; intro e; exact hsB (UInt8.toNat_inj.1 (by show (s[k + 1]'h1').toNat = 47; omega))
        clear tA tB hlen hA0 h0 iA iB hB1 hsB
        go_enter Tryz.func200, Tryz.ntmps200
        go_wp2_with go_in
        all_goals
          go_ret
          refine ⟨?_, Below.refl _ _⟩
          rw [HX.out]
          refine congrArg Ending.returned (str_eq ?_)
          first
            | exact sh1 s k
            | exact sh2 s k hkm
            | exact sh3 s k
  · have hk1 : 1 ≤ k := by omega
    have hA1 : s.data.toList.take k ≠ [] := fun e => by
      have h := congrArg List.length e
      rw [List.length_take] at h
      have h' : min k s.data.toList.length = 0 := h
      omega
    have v1 : (s.extract 0 k).toList.isEmpty = false := by rw [vA]; simpa using hA1
    have jA := iA h0
    by_cases hsA : s.data.toList[k - 1]'(by omega) = 47
    · by_cases h1 : k + 1 = s.size
      · have hB0 : s.data.toList.drop (k + 1) = [] := List.drop_eq_nil_of_le (by omega)
        have v2 : (s.extract (k + 1) s.size).toList.isEmpty = true := by rw [vB, hB0]; rfl
        have HX : Hid (withoutS (s.data.toList.take k) (s.data.toList.drop (k + 1)) = (s.data.toList.take k).dropLast ++ s.data.toList.drop (k + 1)) := by
          show _ = _
          unfold withoutS
          rw [if_pos ⟨.inr (by rw [last_take (by omega) h0]; exact congrArg some hsA), .inl hB0, hA1⟩]
        clear HW vA vB
        have c1 : (((s[k - 1]'hkm).toNat : Int) == 47) = true := by rw [show s[k - 1]'hkm = 47 from hsA]; rfl

        clear tA tB hlen hA1 hsA iA iB hB0 h1
        go_enter Tryz.func200, Tryz.ntmps200
        go_wp2_with go_in
        all_goals
          go_ret
          refine ⟨?_, Below.refl _ _⟩
          rw [HX.out]
          refine congrArg Ending.returned (str_eq ?_)
          first
            | exact sh1 s k
            | exact sh2 s k hkm
            | exact sh3 s k
      · have h1' : k + 1 < s.size := by omega
        have hB1 : s.data.toList.drop (k + 1) ≠ [] := fun e => by
          have h := congrArg List.length e
          rw [List.length_drop] at h
          have h' : s.data.toList.length - (k + 1) = 0 := h
          omega
        have v2 : (s.extract (k + 1) s.size).toList.isEmpty = false := by rw [vB]; simpa using hB1
        have jB := iB h1'
        by_cases hsB : s.data.toList[k + 1]'(by omega) = 47
        · have HX : Hid (withoutS (s.data.toList.take k) (s.data.toList.drop (k + 1)) = (s.data.toList.take k).dropLast ++ s.data.toList.drop (k + 1)) := by
            show _ = _
            unfold withoutS
            rw [if_pos ⟨.inr (by rw [last_take (by omega) h0]; exact congrArg some hsA), .inr (by rw [head_drop (by omega)]; exact congrArg some hsB), hA1⟩]
          clear HW vA vB
          have c1 : (((s[k - 1]'hkm).toNat : Int) == 47) = true := by rw [show s[k - 1]'hkm = 47 from hsA]; rfl
          have c2 : (((s[k + 1]'h1').toNat : Int) == 47) = true := by rw [show s[k + 1]'h1' = 47 from hsB]; rfl
          clear tA tB hlen hA1 hsA iA iB hB1 hsB
          go_enter Tryz.func200, Tryz.ntmps200
          go_wp2_with go_in
          all_goals
            go_ret
            refine ⟨?_, Below.refl _ _⟩
            rw [HX.out]
            refine congrArg Ending.returned (str_eq ?_)
            first
              | exact sh1 s k
              | exact sh2 s k hkm
              | exact sh3 s k
        · have HX : Hid (withoutS (s.data.toList.take k) (s.data.toList.drop (k + 1)) = s.data.toList.take k ++ s.data.toList.drop (k + 1)) := by
            show _ = _
            unfold withoutS
            rw [if_neg (fun h => by rcases h.2.1 with h | h; exact hB1 h; rw [head_drop (by omega)] at h; exact hsB (Option.some.inj h)), if_neg (fun h => by rcases h.2.1 with h | h; exact hB1 h; rw [head_drop (by omega)] at h; exact hsB (Option.some.inj h))]
          clear HW vA vB
          have c1 : (((s[k - 1]'hkm).toNat : Int) == 47) = true := by rw [show s[k - 1]'hkm = 47 from hsA]; rfl
          have c2 : (((s[k + 1]'h1').toNat : Int) == 47) = false := by rw [beq_eq_false_iff_ne]; intro e; exact hsB (UInt8.toNat_inj.1 (by show (s[k + 1]'h1').toNat = 47; omega))
          clear tA tB hlen hA1 hsA iA iB hB1 hsB
          go_enter Tryz.func200, Tryz.ntmps200
          go_wp2_with go_in
          all_goals
            go_ret
            refine ⟨?_, Below.refl _ _⟩
            rw [HX.out]
            refine congrArg Ending.returned (str_eq ?_)
            first
              | exact sh1 s k
              | exact sh2 s k hkm
              | exact sh3 s k
    · by_cases h1 : k + 1 = s.size
      · have hB0 : s.data.toList.drop (k + 1) = [] := List.drop_eq_nil_of_le (by omega)
        have v2 : (s.extract (k + 1) s.size).toList.isEmpty = true := by rw [vB, hB0]; rfl
        have HX : Hid (withoutS (s.data.toList.take k) (s.data.toList.drop (k + 1)) = s.data.toList.take k ++ s.data.toList.drop (k + 1)) := by
          show _ = _
          unfold withoutS
          rw [if_neg (fun h => by rcases h.1 with h | h; exact hA1 h; rw [last_take (by omega) h0] at h; exact hsA (Option.some.inj h)), if_neg (fun h => by rcases h.1 with h | h; exact hA1 h; rw [last_take (by omega) h0] at h; exact hsA (Option.some.inj h))]
        clear HW vA vB
        have c1 : (((s[k - 1]'hkm).toNat : Int) == 47) = false := by rw [beq_eq_false_iff_ne]; intro e; exact hsA (UInt8.toNat_inj.1 (by show (s[k - 1]'hkm).toNat = 47; omega))

        clear tA tB hlen hA1 hsA iA iB hB0 h1
        go_enter Tryz.func200, Tryz.ntmps200
        go_wp2_with go_in
        all_goals
          go_ret
          refine ⟨?_, Below.refl _ _⟩
          rw [HX.out]
          refine congrArg Ending.returned (str_eq ?_)
          first
            | exact sh1 s k
            | exact sh2 s k hkm
            | exact sh3 s k
      · have h1' : k + 1 < s.size := by omega
        have hB1 : s.data.toList.drop (k + 1) ≠ [] := fun e => by
          have h := congrArg List.length e
          rw [List.length_drop] at h
          have h' : s.data.toList.length - (k + 1) = 0 := h
          omega
        have v2 : (s.extract (k + 1) s.size).toList.isEmpty = false := by rw [vB]; simpa using hB1
        have jB := iB h1'
        by_cases hsB : s.data.toList[k + 1]'(by omega) = 47
        · have HX : Hid (withoutS (s.data.toList.take k) (s.data.toList.drop (k + 1)) = s.data.toList.take k ++ s.data.toList.drop (k + 1)) := by
            show _ = _
            unfold withoutS
            rw [if_neg (fun h => by rcases h.1 with h | h; exact hA1 h; rw [last_take (by omega) h0] at h; exact hsA (Option.some.inj h)), if_neg (fun h => by rcases h.1 with h | h; exact hA1 h; rw [last_take (by omega) h0] at h; exact hsA (Option.some.inj h))]
          clear HW vA vB
          have c1 : (((s[k - 1]'hkm).toNat : Int) == 47) = false := by rw [beq_eq_false_iff_ne]; intro e; exact hsA (UInt8.toNat_inj.1 (by show (s[k - 1]'hkm).toNat = 47; omega))
          have c2 : (((s[k + 1]'h1').toNat : Int) == 47) = true := by rw [show s[k + 1]'h1' = 47 from hsB]; rfl
          clear tA tB hlen hA1 hsA iA iB hB1 hsB
          go_enter Tryz.func200, Tryz.ntmps200
          go_wp2_with go_in
          all_goals
            go_ret
            refine ⟨?_, Below.refl _ _⟩
            rw [HX.out]
            refine congrArg Ending.returned (str_eq ?_)
            first
              | exact sh1 s k
              | exact sh2 s k hkm
              | exact sh3 s k
        · have HX : Hid (withoutS (s.data.toList.take k) (s.data.toList.drop (k + 1)) = s.data.toList.take k ++ s.data.toList.drop (k + 1)) := by
            show _ = _
            unfold withoutS
            rw [if_neg (fun h => by rcases h.1 with h | h; exact hA1 h; rw [last_take (by omega) h0] at h; exact hsA (Option.some.inj h)), if_neg (fun h => by rcases h.1 with h | h; exact hA1 h; rw [last_take (by omega) h0] at h; exact hsA (Option.some.inj h))]
          clear HW vA vB
          have c1 : (((s[k - 1]'hkm).toNat : Int) == 47) = false := by rw [beq_eq_false_iff_ne]; intro e; exact hsA (UInt8.toNat_inj.1 (by show (s[k - 1]'hkm).toNat = 47; omega))
          have c2 : (((s[k + 1]'h1').toNat : Int) == 47) = false := by rw [beq_eq_false_iff_ne]; intro e; exact hsB (UInt8.toNat_inj.1 (by show (s[k + 1]'h1').toNat = 47; omega))
          clear tA tB hlen hA1 hsA iA iB hB1 hsB
          go_enter Tryz.func200, Tryz.ntmps200
          go_wp2_with go_in
          all_goals
            go_ret
            refine ⟨?_, Below.refl _ _⟩
            rw [HX.out]
            refine congrArg Ending.returned (str_eq ?_)
            first
              | exact sh1 s k
              | exact sh2 s k hkm
              | exact sh3 s k
end Go.Proofs.YtebinaopncclgaaGreatDoor
namespace Go.Proofs.YtebinaopncclgaaGreatDoor
open Go.RowKit Go.IntWalk

/- the moves of one stop, up to a place -/
def putTo (rest : List UInt8) (c : UInt8) (q : Nat) : List (List UInt8) := (List.range q).map fun k => rest.take k ++ [c] ++ rest.drop k
theorem putTo_succ (rest : List UInt8) (c : UInt8) (q : Nat) : putTo rest c (q + 1) = putTo rest c q ++ [rest.take q ++ [c] ++ rest.drop q] := by simp [putTo, List.range_succ]
theorem putS_to (rest : List UInt8) (c : UInt8) : putS rest c = putTo rest c (rest.length + 1) ++ (if rest = [] then [] else [rest ++ [47] ++ [c]]) := rfl
theorem putTo_len (rest : List UInt8) (c : UInt8) (q : Nat) : (putTo rest c q).length = q := by simp [putTo]
theorem without_len (A B : List UInt8) : (withoutS A B).length ≤ A.length + B.length := by
  unfold withoutS
  split
  · simp
  · split
    · simp
    · simp
theorem moves_len (f : List UInt8 → List UInt8 → List UInt8) (hf : ∀ A B, (f A B).length ≤ A.length + B.length) (l : List UInt8) : ∀ k, k ≤ l.length → (movesS f l k).length ≤ k * (l.length + 2) := by
  intro k
  induction k with
  | zero => intro _; simp [movesS]
  | succ k ih =>
    intro hk
    have h1 := ih (by omega)
    rw [moves_succ, List.length_append]
    have h2 : (if l.getD k 0 = 47 then [] else putS (f (l.take k) (l.drop (k + 1))) (l.getD k 0)).length ≤ l.length + 2 := by
      split
      · simp
      · rw [putS_to, List.length_append, putTo_len]
        have h3 := hf (l.take k) (l.drop (k + 1))
        have h4 : (l.take k).length ≤ k := List.length_take_le _ _
        have h5 : (l.drop (k + 1)).length = l.length - (k + 1) := List.length_drop
        split <;> simp <;> omega
    rw [Nat.succ_mul]
    omega
theorem strs_snoc (ls : List (List UInt8)) (x : List UInt8) : strs (ls ++ [x]) = strs ls ++ [.string ⟨x.toArray⟩] := by simp [strs]
theorem own_strs {w wr w1 : World} {B : Nat} {v v' : Value} {ls : List (List UInt8)} {x : List UInt8} (hB : B ≤ wr.heap.size) (hown : wr.ownsRow B 9 1 v ls.length (strs ls)) (hbel : Below B w wr) (hown' : w1.ownsRow B 9 1 v' (ls.length + 1) (strs ls ++ [.string ⟨x.toArray⟩])) (hgrow : (wr.alloc (.cells #[.string ⟨x.toArray⟩] 9)).grownBy w1 v.ownBlock) :
    w1.ownsRow B 9 1 v' (ls ++ [x]).length (strs (ls ++ [x])) ∧ Below B w w1 := by
  refine ⟨by rw [strs_snoc, List.length_append]; exact hown', (hbel.alloc hB _).grown hgrow (by simp; omega) (fun k hk => (hown.lt k hk).1)⟩

set_option maxRecDepth 100000 in
set_option maxHeartbeats 4000000 in
theorem moves_any (s : ByteArray) (w : World) (hs : s.size ≤ 100) :
    Calls Tryz.prog 170 #[.string s] w fun e w' => ∃ v, e = .returned v ∧ w'.ownsRow w.heap.size 9 1 v (movesS withoutS s.data.toList s.size).length (strs (movesS withoutS s.data.toList s.size)) ∧ Below w.heap.size w w' := by
  obtain ⟨i0, hi, hz0, hz1, hz2⟩ := info_parts Tryz.infoStr
  have HML := hid (moves_len withoutS without_len s.data.toList)
  have hlen : s.data.toList.length = s.size := by simp
  have HLN := hid hlen
  have HWI : Hid (∀ (k : Nat) (W : World), k < s.size → Calls Tryz.prog 200 #[.string s, .int .i64 k] W fun e w' => e = .returned (.string ⟨(withoutS (s.data.toList.take k) (s.data.toList.drop (k + 1))).toArray⟩) ∧ Below W.heap.size W w') := fun k W hk => without_any s k W hk (by omega)
  clear hlen
  go_enter Tryz.func170, Tryz.ntmps170
  go_wp2_with fail
  go_loopw [3, 4] (fun lv i wr => ∃ (k : Nat) (ls : List (List UInt8)), k ≤ s.size ∧ i = .int .i64 k ∧ ls.length ≤ 20000 ∧ Hid (ls = movesS withoutS s.data.toList k) ∧ Hid (wr.ownsRow w.heap.size 9 1 lv ls.length (strs ls)) ∧ Hid (Below w.heap.size w wr)) (fun _ i _ => s.size - (intOf i).toNat)
  case atStart => exact ⟨0, [], Nat.zero_le _, rfl, by simp, rfl, World.ownsRow_nil _ _ _ _, Below.refl _ _⟩
  case round =>
    obtain ⟨k, ls, hk, rfl, hll, HLS, HO, HB⟩ := hrel
    have hsz := HB.out.size
    have HLB : Hid (ls.length ≤ k * (s.size + 2)) := by
      have h := HML.out k (by rw [HLN.out]; exact hk)
      rw [HLN.out] at h
      rw [HLS.out]; exact h
    by_cases hlt : k < s.size
    · have hb : s[k].toNat < 256 := s[k].toNat_lt
      have hg : s.data.toList.getD k 0 = s[k] := by rw [List.getD_eq_getElem?_getD, List.getElem?_eq_getElem (by rw [HLN.out]; exact hlt)]; rfl
      by_cases hc : s[k].toNat = 47
      · have hc8 : s[k] = 47 := UInt8.toNat_inj.1 (by rw [hc]; rfl)
        have e1 : ((s[k].toNat : Int) == 47) = true := by simp [hc]
        have HX : Hid (ls = movesS withoutS s.data.toList (k + 1)) := by show _ = _; rw [moves_succ, if_pos (by rw [hg]; exact hc8), List.append_nil]; exact HLS.out
        clear hc8 hc hg
        go_wp2_with go_in
        go_roundw
        case rel => exact ⟨k + 1, ls, by omega, by go_num, hll, HX, HO, HB⟩
        case measure => simp [intOf]; omega
      · have hc8 : s[k] ≠ 47 := fun e => hc (by rw [e]; rfl)
        have e1 : ((s[k].toNat : Int) == 47) = false := by simp; omega
        have HX : Hid (movesS withoutS s.data.toList (k + 1) = ls ++ putS (withoutS (s.data.toList.take k) (s.data.toList.drop (k + 1))) s[k]) := by show _ = _; rw [moves_succ, if_neg (by rw [hg]; exact hc8), HLS.out, hg]
        have HC := hid (HWI.out k wr hlt)
        have HRL : Hid ((withoutS (s.data.toList.take k) (s.data.toList.drop (k + 1))).length ≤ 100) := by
          have h1 := without_len (s.data.toList.take k) (s.data.toList.drop (k + 1))
          have h2 : (s.data.toList.take k).length ≤ k := List.length_take_le _ _
          have h3 : (s.data.toList.drop (k + 1)).length = s.data.toList.length - (k + 1) := List.length_drop
          have h4 := HLN.out
          show _ ≤ _
          omega
        generalize hrr : withoutS (s.data.toList.take k) (s.data.toList.drop (k + 1)) = rest at *
        obtain ⟨p, hp⟩ : ∃ p : ByteArray, p = ⟨rest.toArray⟩ := ⟨_, rfl⟩
        have hpl : p.data.toList = rest := by rw [hp]
        have hps : p.size ≤ 100 := by
          have h2 : p.size = p.data.toList.length := by simp
          have := HRL.out
          rw [h2, hpl]; exact this
        rw [← hp] at HC
        rw [← hpl] at HX
        have HPV : Hid (p.toList.isEmpty = p.data.toList.isEmpty) := is_void p
        have HST : Hid ((s.extract k (k + 1)).data.toList = [s[k]]) := by
          show _ = _
          rw [ext_list, show k + 1 - k = 1 by omega]
          have h4 := HLN.out
          rw [List.drop_eq_getElem_cons (by omega)]
          rfl
        clear hc8 hc hg hrr hp hpl HRL
        go_wp2_with (first
          | (go_at_call 200; refine HC.out.mono ?_; rintro e1 w1 ⟨rfl, hb1⟩; have HB1 : Hid (Below w.heap.size w w1) := HB.out.trans (hb1.mono HB.out.size); have HO1 := hid (own_below HO.out hb1); clear hb1 HO HB)
          | go_in)
        clear HLS
        have hll2 : ls.length ≤ 10200 := by
          have h1 := HLB.out
          have h2 : k * (s.size + 2) ≤ 100 * 102 := Nat.mul_le_mul (by omega) (by omega)
          omega
        go_loopw [3, 7] (fun lv qv wr => ∃ (q : Nat) (ms : List (List UInt8)), q ≤ p.size + 1 ∧ qv = .int .i64 q ∧ ms.length ≤ 10200 + q ∧ Hid (ms = ls ++ putTo p.data.toList s[k] q) ∧ Hid (wr.ownsRow w.heap.size 9 1 lv ms.length (strs ms)) ∧ Hid (Below w.heap.size w wr)) (fun _ qv _ => p.size + 1 - (intOf qv).toNat)
        case atStart => exact ⟨0, ls, Nat.zero_le _, rfl, by omega, by show _ = _; simp [putTo], HO1, HB1⟩
        case round =>
          clear HO1 HB1
          obtain ⟨q, ms, hq, rfl, hml, HMS, HO, HB⟩ := hrel
          have hsz2 := HB.out.size
          by_cases hql : q ≤ p.size
          · have HN : Hid (ms ++ [p.data.toList.take q ++ [s[k]] ++ p.data.toList.drop q] = ls ++ putTo p.data.toList s[k] (q + 1)) := by show _ = _; rw [putTo_succ, HMS.out, List.append_assoc]
            have HV : Hid (Value.string (p.extract 0 q ++ s.extract k (k + 1) ++ p.extract q p.size) = .string ⟨(p.data.toList.take q ++ [s[k]] ++ p.data.toList.drop q).toArray⟩) := by
              refine str_eq ?_
              rw [app_list, app_list, HST.out, ext_list, ext_list, List.drop_zero, Nat.sub_zero, List.take_of_length_le (l := p.data.toList.drop q) (by simp)]
            obtain ⟨al, capl, rfl, _, _⟩ := own_val HO.out
            have hq1 : ¬ (9223372036854775807 < q + (min (k + 1) s.size - k)) := by omega
            have hq2 : ¬ (9223372036854775807 < q + (min (k + 1) s.size - k) + (p.size - q)) := by omega
            go_wp2_with fail
            go_region_law (refine step_append_own rfl (.tmp 32) (.tmp 42) 109 rfl w.heap.size 9 i0 (.string ByteArray.empty) 1 16 Tryz.underlying109 hi hz0 hz1 hz2 rfl (by decide) (.slice al ms.length capl) ms.length (strs ms) (by simp [Act.eval]) (by exact own_new rfl HO.out rfl) ⟨wr.heap.size, 0, none⟩ 1 1 [.string (p.extract 0 q ++ s.extract k (k + 1) ++ p.extract q p.size)] (by simp [Act.eval]) rfl (by exact news_at rfl rfl) (by intro u hu; simp at hu; subst hu; rfl) (by unfold maxLen; omega) (by omega) (by simp; omega) ?_; intro v1 w2 hown1 hgr1)
            rw [HV.out] at hown1
            have hgg1 : (wr.drew.alloc (.cells #[.string (p.extract 0 q ++ s.extract k (k + 1) ++ p.extract q p.size)] 9)).grownBy w2 (Value.slice al ms.length capl).ownBlock := hgr1
            rw [HV.out] at hgg1
            have R := own_strs (wr := wr.drew) hsz2 (own_heap HO.out rfl) HB.out.drew hown1 hgg1
            have HO2 := hid R.1
            have HB2 := hid R.2
            rw [HN.out] at HO2
            clear hown1 hgr1 hgg1 R HO HB
            have hln : (ls ++ putTo p.data.toList s[k] (q + 1)).length ≤ 10200 + (q + 1) := by rw [List.length_append, putTo_len]; omega
            generalize hmm : ls ++ putTo p.data.toList s[k] (q + 1) = ms2 at *
            have HM2 := hid hmm
            clear hmm HN
            go_wp2_with go_in
            go_roundw
            case rel => exact ⟨q + 1, ms2, by omega, by go_num, hln, HM2.out.symm, HO2, HB2⟩
            case measure => simp [intOf]; omega
          · have hqe : q = p.size + 1 := by omega
            have HPL : Hid (ms = ls ++ putTo p.data.toList s[k] (p.data.toList.length + 1)) := by
              show _ = _
              rw [HMS.out, hqe]
              have h2 : p.data.toList.length = p.size := by simp
              rw [h2]
            clear HMS
            by_cases hpz : p.size = 0
            · have hnil : p.data.toList = [] := List.length_eq_zero_iff.1 (by simpa using hpz)
              have hv2 : p.toList.isEmpty = true := by rw [HPV.out, hnil]; rfl
              have HF : Hid (ms = movesS withoutS s.data.toList (k + 1)) := by show _ = _; rw [HX.out, putS_to, if_pos hnil, List.append_nil]; exact HPL.out
              clear hnil hqe hpz
              go_wp2_with go_in
              go_roundw
              case rel => exact ⟨k + 1, ms, by omega, by go_num, by omega, HF, HO, HB⟩
              case measure => simp [intOf]; omega
            · have hne : p.data.toList ≠ [] := fun e => hpz (by
                have h2 : p.data.toList.length = p.size := by simp
                rw [e] at h2
                exact h2.symm)
              have hv2 : p.toList.isEmpty = false := by rw [HPV.out]; simpa using hne
              have HF : Hid (ms ++ [p.data.toList ++ [47] ++ [s[k]]] = movesS withoutS s.data.toList (k + 1)) := by show _ = _; rw [HX.out, putS_to, if_neg hne, HPL.out, List.append_assoc]
              have HV : Hid (Value.string (p ++ ⟨#[47]⟩ ++ s.extract k (k + 1)) = .string ⟨(p.data.toList ++ [47] ++ [s[k]]).toArray⟩) := by
                refine str_eq ?_
                rw [app_list, app_list, HST.out]
              obtain ⟨al, capl, rfl, _, _⟩ := own_val HO.out
              clear hne hqe hpz
              have hmb : ms.length ≤ 10301 := by omega
              go_wp2_with (first
                | (at_builtin; refine wpList_append_own _ rfl _ _ 109 rfl w.heap.size 9 i0 (.string ByteArray.empty) 1 16 Tryz.underlying109 hi hz0 hz1 hz2 rfl (by decide) _ _ _ rfl (HO.out.alloc _) ⟨wr.heap.size, 0, none⟩ 1 1 [.string (p ++ ⟨#[47]⟩ ++ s.extract k (k + 1))] rfl rfl ?c1 ?c2 ?c3 ?c4 ?c5 ?_)
                | go_in)
              case c1 => exact cell_one_new _ _ _
              case c2 => intro u hu; simp at hu; subst hu; rfl
              case c3 => unfold maxLen; omega
              case c4 => omega
              case c5 => simp; omega
              intro v1 w2 hown1 hgr1 _
              rw [HV.out] at hown1
              have hgg1 : (wr.alloc (.cells #[.string (p ++ ⟨#[47]⟩ ++ s.extract k (k + 1))] 9)).grownBy w2 (Value.slice al ms.length capl).ownBlock := hgr1
              rw [HV.out] at hgg1
              have R := own_strs hsz2 HO.out HB.out hown1 hgg1
              have HO2 := hid R.1
              have HB2 := hid R.2
              rw [HF.out] at HO2
              have hln : (movesS withoutS s.data.toList (k + 1)).length ≤ 20000 := by
                have h := congrArg List.length HF.out
                rw [List.length_append] at h
                have h2 : ms.length + 1 = (movesS withoutS s.data.toList (k + 1)).length := h
                omega
              clear hown1 hgr1 hgg1 R HO HB HF
              generalize hmm : movesS withoutS s.data.toList (k + 1) = ms2 at *
              have HM2 := hid hmm
              clear hmm
              go_wp2_with go_in
              go_roundw
              case rel => exact ⟨k + 1, ms2, by omega, by go_num, hln, HM2.out.symm, HO2, HB2⟩
              case measure => simp [intOf]; omega
    · have hke : k = s.size := by omega
      have HF : Hid (ls = movesS withoutS s.data.toList s.size) := by show _ = _; rw [HLS.out, hke]
      clear hke
      go_wp2_with go_in
      go_ret
      refine ⟨_, rfl, ?_, HB.out⟩
      rw [← HF.out]; exact HO.out
end Go.Proofs.YtebinaopncclgaaGreatDoor
namespace Go.Proofs.YtebinaopncclgaaGreatDoor
open Go.RowKit Go.IntWalk

/- a plan that Judge accepts, and its cost -/
def Acc (r : Rd) (D : Nat → Nat → Int) (l : List UInt8) (c : Int) : Prop := ∃ S, judgeS r D l = (c, some S, 0)
theorem judge_zero {r : Rd} {D : Nat → Nat → Int} {l : List UInt8} (h : (judgeS r D l).2.2 = 0) : ∃ S, (judgeS r D l).2.1 = some S := by
  unfold judgeS at h ⊢
  by_cases h1 : textFaultS r.stops.length l ≠ 0
  · rw [if_pos h1] at h; exact absurd h h1
  · rw [if_neg h1] at h ⊢
    by_cases h2 : r.vans < ((routesS l).length : Int)
    · rw [if_pos h2] at h; cases h
    · rw [if_neg h2] at h ⊢
      by_cases h3 : (routesS l).all (loadOk r) = false
      · rw [if_pos h3] at h; cases h
      · rw [if_neg h3] at h ⊢
        by_cases h4 : (routesS l).all (wayOk D) = false
        · rw [if_pos h4] at h; cases h
        · rw [if_neg h4] at h ⊢
          cases ht : timesS r D (routesS l) (List.replicate r.stops.length 0) with
          | none => rw [ht] at h; cases h
          | some S => exact ⟨S, rfl⟩
theorem acc_iff {r : Rd} {D : Nat → Nat → Int} {l : List UInt8} {c : Int} : Acc r D l c ↔ (judgeS r D l).2.2 = 0 ∧ (judgeS r D l).1 = c := by
  constructor
  · rintro ⟨S, h⟩; rw [h]; exact ⟨rfl, rfl⟩
  · rintro ⟨h1, h2⟩
    obtain ⟨S, h3⟩ := judge_zero h1
    refine ⟨S, ?_⟩
    rw [← h1, ← h2, ← h3]
theorem acc_fine {r : Rd} {D : Nat → Nat → Int} {l : List UInt8} {c : Int} (h : Acc r D l c) : textFaultS r.stops.length l = 0 := by
  obtain ⟨S, h⟩ := h
  unfold judgeS at h
  by_cases hf : textFaultS r.stops.length l ≠ 0
  · rw [if_pos hf] at h; cases h
  · omega
theorem moves_size (f : List UInt8 → List UInt8 → List UInt8) (hf : ∀ A B, (f A B).length ≤ A.length + B.length) (l : List UInt8) (k : Nat) (hk : k ≤ l.length) : ∀ q ∈ movesS f l k, q.length ≤ l.length + 2 := by
  intro q hq
  obtain ⟨i, hi, hq⟩ := List.mem_flatMap.1 hq
  have hi' : i < k := by simpa using hi
  split at hq
  · simp at hq
  · have h3 := hf (l.take i) (l.drop (i + 1))
    have h4 : (l.take i).length ≤ i := List.length_take_le _ _
    have h5 : (l.drop (i + 1)).length = l.length - (i + 1) := List.length_drop
    rw [putS_to] at hq
    rcases List.mem_append.1 hq with hq | hq
    · obtain ⟨j, hj, rfl⟩ := List.mem_map.1 hq
      simp
      omega
    · split at hq
      · simp at hq
      · have : q = f (l.take i) (l.drop (i + 1)) ++ [47] ++ [l.getD i 0] := by simpa using hq
        rw [this]
        simp
        omega
/- the best so far of a plan and some moves -/
def Best (r : Rd) (D : Nat → Nat → Int) (l : List UInt8) (c : Int) (qs : List (List UInt8)) (bl : List UInt8) (bc : Int) : Prop :=
  ((bl = l ∧ bc = c) ∨ (Acc r D bl bc ∧ bc < c)) ∧ ∀ q ∈ qs, ∀ cq, Acc r D q cq → bc ≤ cq
def offer (p : ByteArray) (c : Int) : Array Value := #[.string p, .int .i64 c]
theorem offer_at {w : World} {b : Nat} {p : ByteArray} {c : Int} (h : w.heap[b]? = some (.cells (offer p c) 191 (0, 0))) : w.cell? ⟨b, 0, none⟩ = some (.string p) ∧ w.cell? ⟨b, 1, none⟩ = some (.int .i64 c) ∧ (∀ o, w.frozen? ⟨b, o, none⟩ = false) ∧ b < w.heap.size := by
  refine ⟨?_, ?_, fun o => frozen_of_row w b o _ _ h, (Array.getElem?_eq_some_iff.1 h).1⟩ <;> (rw [cell_of_row _ _ _ _ _ _ h]; rfl)

theorem put2_keep {w : World} {b : Nat} {cs : Array Value} {t : TypeId} (hb : w.heap[b]? = some (.cells cs t (0, 0))) (u0 u1 : Value) : Keep [t] w ((w.setCell ⟨b, 0, none⟩ u0).setCell ⟨b, 1, none⟩ u1) := by
  intro k cur t' z hk ht
  have hne : k ≠ b := fun e => by rw [e, hb] at hk; cases hk; simp at ht
  rw [Below.heap_setCell _ _ _ _ hne, Below.heap_setCell _ _ _ _ hne]; exact hk
theorem put2_heap {w : World} {b : Nat} {p : ByteArray} {c : Int} (hb : w.heap[b]? = some (.cells (offer p c) 191 (0, 0))) (p' : ByteArray) (c' : Int) : ((w.setCell ⟨b, 0, none⟩ (.string p')).setCell ⟨b, 1, none⟩ (.int .i64 c')).heap[b]? = some (.cells (offer p' c') 191 (0, 0)) := by
  have h1 := heap_setCell_same w b 0 _ _ (.string p') hb
  have h2 := heap_setCell_same (w.setCell ⟨b, 0, none⟩ (.string p')) b 1 _ _ (.int .i64 c') h1
  rw [h2]; rfl
theorem below_put2 {B b : Nat} {w0 w : World} (h : Below B w0 w) (hB : B ≤ b) (u0 u1 : Value) : Below B w0 ((w.setCell ⟨b, 0, none⟩ u0).setCell ⟨b, 1, none⟩ u1) := (h.setCell hB u0).setCell hB u1
theorem best_no {r : Rd} {D : Nat → Nat → Int} {l bl : List UInt8} {c bc : Int} {qs : List (List UInt8)} {q : List UInt8} (h : Best r D l c qs bl bc) (hn : ¬ ((judgeS r D q).2.2 = 0 ∧ (judgeS r D q).1 < bc)) : Best r D l c (qs ++ [q]) bl bc :=
  ⟨h.1, fun x hx cq hq => by
    rcases List.mem_append.1 hx with hx | hx
    · exact h.2 x hx cq hq
    · have hxq : x = q := by simpa using hx
      subst hxq
      obtain ⟨k1, k2⟩ := acc_iff.1 hq
      by_cases hlt : cq < bc
      · exact absurd ⟨k1, by omega⟩ hn
      · omega⟩
theorem best_yes {r : Rd} {D : Nat → Nat → Int} {l bl : List UInt8} {c bc : Int} {qs : List (List UInt8)} {q : List UInt8} (h : Best r D l c qs bl bc) (h1 : (judgeS r D q).2.2 = 0) (h2 : (judgeS r D q).1 < bc) : Best r D l c (qs ++ [q]) q (judgeS r D q).1 := by
  have ha : Acc r D q (judgeS r D q).1 := acc_iff.2 ⟨h1, rfl⟩
  refine ⟨.inr ⟨ha, ?_⟩, fun x hx cq hq => ?_⟩
  · rcases h.1 with ⟨_, e⟩ | ⟨_, e⟩ <;> omega
  · rcases List.mem_append.1 hx with hx | hx
    · have := h.2 x hx cq hq; omega
    · have hxq : x = q := by simpa using hx
      subst hxq
      obtain ⟨_, k2⟩ := acc_iff.1 hq
      omega

set_option maxRecDepth 100000 in
set_option maxHeartbeats 4000000 in
theorem cheapest_any (p : Nat) (r : Rd) (D : Nat → Nat → Int) (s : ByteArray) (c : Int) (vs vf : Value) (w : World) (hs : s.size ≤ 100) (hok : RdOk r) (ha : AreaAt w p r D vs vf) (hD : ∀ a b, a < r.stops.length + 1 → b < r.stops.length + 1 → -1 ≤ D a b ∧ D a b ≤ 40960000) :
    Calls Tryz.prog 122 #[.pointer (some ⟨p, 0, none⟩), .agg (offer s c)] w fun e w' => ∃ (bp : ByteArray) (bc : Int), e = .returned (.agg (offer bp bc)) ∧ Best r D s.data.toList c (movesS withoutS s.data.toList s.size) bp.data.toList bc ∧ Below w.heap.size w w' := by
  have HAJ : Hid (∀ (q : List UInt8) (W : World), q.length ≤ 100000 → Below w.heap.size w W → Calls Tryz.prog 72 #[.pointer (some ⟨p, 0, none⟩), .string ⟨q.toArray⟩] W (JudgeLeft W r.stops.length (judgeS r D q))) := fun q W hq hW => by
    have h := ajudge_any p r D ⟨q.toArray⟩ vs vf W (by show q.toArray.size ≤ _; unfold maxLen; simp; omega) hok (ha.below hW) hD
    exact h
  have HMV : Hid (∀ W, Calls Tryz.prog 170 #[.string s] W fun e w' => ∃ v, e = .returned v ∧ w'.ownsRow W.heap.size 9 1 v (movesS withoutS s.data.toList s.size).length (strs (movesS withoutS s.data.toList s.size)) ∧ Below W.heap.size W w') := fun W => moves_any s W hs
  have hslen : s.data.toList.length = s.size := by simp
  have HLQ : Hid (∀ q ∈ movesS withoutS s.data.toList s.size, q.length ≤ 100000) := fun q hq => by
    have := moves_size withoutS without_len s.data.toList s.size (by omega) q hq
    omega
  have hll : (movesS withoutS s.data.toList s.size).length ≤ 100000 := by
    have h1 := moves_len withoutS without_len s.data.toList s.size (by omega)
    have h2 : s.size * (s.data.toList.length + 2) ≤ 100 * 102 := Nat.mul_le_mul (by omega) (by omega)
    omega
  clear hslen
  generalize movesS withoutS s.data.toList s.size = ls at *
  obtain ⟨W, hW⟩ : ∃ W, W = ((w.alloc (.cells (offer s c) 191)).alloc (.cells (offer ⟨#[]⟩ 0) 191)).alloc (.cells (offer s c) 191) := ⟨_, rfl⟩
  have hbW : Below w.heap.size w W := by
    subst hW
    exact ((below1 w _).trans ((below1 _ _).mono (by simp))).trans ((below1 _ _).mono (by simp; omega))
  have hWs : W.heap.size = w.heap.size + 1 + 1 + 1 := by subst hW; simp
  have hb2 : W.heap[w.heap.size + 1 + 1]? = some (.cells (offer s c) 191 (0, 0)) := by
    subst hW
    have := heap_alloc_new ((w.alloc (.cells (offer s c) 191)).alloc (.cells (offer ⟨#[]⟩ 0) 191)) (.cells (offer s c) 191)
    simpa using this
  have hb1 : W.heap[w.heap.size + 1]? = some (.cells (offer ⟨#[]⟩ 0) 191 (0, 0)) := by
    subst hW
    rw [Below.heap_alloc _ _ _ (by simp)]
    have := heap_alloc_new (w.alloc (.cells (offer s c) 191)) (.cells (offer ⟨#[]⟩ 0) 191)
    simpa using this
  have HBW := hid hbW
  have HWQ := hid hW
  have HB2 := hid hb2
  have HB1 := hid hb1
  have HWS := hid hWs
  clear ha hok hD hW hbW hb2 hb1 hWs
  unfold offer at HWQ ⊢
  go_enter Tryz.func122, Tryz.ntmps122
  go_wp2_with fail
  rw [← HWQ.out]
  refine (HMV.out _).mono ?_
  rintro e1 w1 ⟨v1, rfl, ho1, hbm⟩
  obtain ⟨al, cl, rfl, _, _⟩ := own_val ho1
  have HO1 := hid ho1
  have HM1 := hid hbm
  have hw1 : w.heap.size + 1 + 1 + 1 ≤ w1.heap.size := by have h1 := hbm.size; have h2 := HWS.out; omega
  have HX2 : Hid (w1.heap[w.heap.size + 1 + 1]? = some (.cells (offer s c) 191 (0, 0))) := by show _ = _; rw [hbm.block _ (by have := HWS.out; omega)]; exact HB2.out
  have HX1 : Hid (w1.heap[w.heap.size + 1]? = some (.cells (offer ⟨#[]⟩ 0) 191 (0, 0))) := by show _ = _; rw [hbm.block _ (by have := HWS.out; omega)]; exact HB1.out
  have HBL : Hid (Below w.heap.size w w1) := HBW.out.trans (hbm.mono HBW.out.size)
  clear ho1 hbm HMV HB1 HB2
  go_wp2_with fail
  go_loopw [7] (fun i wr => ∃ (k : Nat) (bp : ByteArray) (bc : Int), k ≤ ls.length ∧ i = .int .i64 k ∧ Hid (Best r D s.data.toList c (ls.take k) bp.data.toList bc) ∧ Hid (wr.heap[w.heap.size + 1 + 1]? = some (.cells (offer bp bc) 191 (0, 0))) ∧ Hid (wr.heap[w.heap.size + 1]? = some (.cells (offer ⟨#[]⟩ 0) 191 (0, 0))) ∧ Hid (wr.ownsRow W.heap.size 9 1 (.slice al ls.length cl) ls.length (strs ls)) ∧ Hid (Below w.heap.size w wr)) (fun i _ => ls.length - (intOf i).toNat)
  case atStart => exact ⟨0, s, c, Nat.zero_le _, rfl, ⟨.inl ⟨rfl, rfl⟩, fun q hq => by simp at hq⟩, HX2, HX1, HO1, HBL⟩
  case round =>
    clear HX2 HX1 HO1 HBL hw1
    obtain ⟨k, bp, bc, hk, rfl, HBE, HX2, HX1, HO, HB⟩ := hrel
    obtain ⟨x0, x1, xf, xl⟩ := offer_at HX2.out
    by_cases hlt : k < ls.length
    · obtain ⟨g, rfl, hg, hc⟩ : ∃ g, al = some ⟨g, 0, none⟩ ∧ g < wr.heap.size ∧ wr.cell? ⟨g, k, none⟩ = some (.string ⟨ls[k].toArray⟩) := by
        obtain ⟨ao', c', hv, h1, h2⟩ := own_val HO.out
        cases hv
        cases al with
        | none => exact absurd (h2 rfl) (by omega)
        | some a =>
          obtain ⟨g, rfl, _, hg⟩ := h1 a rfl
          exact ⟨g, rfl, hg, by rw [HO.out.cellAt k (by omega)]; simp [strs, hlt]⟩
      obtain ⟨q, hq⟩ : ∃ q, q = ls[k] := ⟨_, rfl⟩
      have HT : Hid (ls.take (k + 1) = ls.take k ++ [q]) := by show _ = _; rw [List.take_succ_eq_append_getElem hlt, hq]
      have HC := hid (HAJ.out q wr (HLQ.out q (by rw [hq]; exact List.getElem_mem _)) HB.out)
      rw [← hq] at hc
      clear hq
      have HJN : Hid (¬ ((judgeS r D q).2.2 = 0 ∧ (judgeS r D q).1 < bc) → Best r D s.data.toList c (ls.take (k + 1)) bp.data.toList bc) := fun h => by rw [HT.out]; exact best_no HBE.out h
      have HJY : Hid ((judgeS r D q).2.2 = 0 → (judgeS r D q).1 < bc → Best r D s.data.toList c (ls.take (k + 1)) q (judgeS r D q).1) := fun h1 h2 => by rw [HT.out]; exact best_yes HBE.out h1 h2
      generalize judgeS r D q = J at *
      obtain ⟨jc, jo, je⟩ := J
      dsimp only at HJN HJY
      have xl1 : w.heap.size + 1 < wr.heap.size := by omega
      by_cases hje : je = 0
      · subst hje
        by_cases hjc : jc < bc
        · have HX := hid (HJY.out rfl hjc)
          clear HJN HJY HT HBE
          go_wp2_with (first
            | (go_at_call 72; refine HC.out.mono ?_; rintro e2 w2 ⟨v2, rfl, _, _, hb2⟩; have HB2 := hid hb2; have HX22 : Hid (w2.heap[w.heap.size + 1 + 1]? = some (.cells (offer bp bc) 191 (0, 0))) := (hb2.block _ (by exact xl)).trans HX2.out; have HX12 : Hid (w2.heap[w.heap.size + 1]? = some (.cells (offer ⟨#[]⟩ 0) 191 (0, 0))) := (hb2.block _ (by exact xl1)).trans HX1.out; have HO2 := hid (own_below HO.out hb2); have hc2 : w2.cell? ⟨g, k, none⟩ = _ := (hb2.cell (by exact hg)).trans hc; have hg2 : g < w2.heap.size := Nat.lt_of_lt_of_le hg hb2.size; clear hb2; obtain ⟨z0, z1, zf, zl⟩ := offer_at HX22.out; have zf0 := zf 0; have zf1 := zf 1; clear zf)
            | go_in)

          go_roundw
          case rel => exact ⟨k + 1, ⟨q.toArray⟩, jc, by omega, by go_num, HX, put2_heap HX22.out _ _, (by
              show _ = _
              rw [Below.heap_setCell _ _ _ _ (by show w.heap.size + 1 ≠ w.heap.size + 1 + 1; omega), Below.heap_setCell _ _ _ _ (by show w.heap.size + 1 ≠ w.heap.size + 1 + 1; omega)]; exact HX12.out), own_keep HO2.out (put2_keep HX22.out _ _) (by decide), below_put2 (HB.out.trans (HB2.out.mono HB.out.size)) (by omega) _ _⟩
          case measure => simp [intOf]; omega
        · have HX := hid (HJN.out (fun h => hjc h.2))
          clear HJN HJY HT HBE
          go_wp2_with (first
            | (go_at_call 72; refine HC.out.mono ?_; rintro e2 w2 ⟨v2, rfl, _, _, hb2⟩; have HB2 := hid hb2; have HX22 : Hid (w2.heap[w.heap.size + 1 + 1]? = some (.cells (offer bp bc) 191 (0, 0))) := (hb2.block _ (by exact xl)).trans HX2.out; have HX12 : Hid (w2.heap[w.heap.size + 1]? = some (.cells (offer ⟨#[]⟩ 0) 191 (0, 0))) := (hb2.block _ (by exact xl1)).trans HX1.out; have HO2 := hid (own_below HO.out hb2); have hc2 : w2.cell? ⟨g, k, none⟩ = _ := (hb2.cell (by exact hg)).trans hc; have hg2 : g < w2.heap.size := Nat.lt_of_lt_of_le hg hb2.size; clear hb2; obtain ⟨z0, z1, zf, zl⟩ := offer_at HX22.out; have zf0 := zf 0; have zf1 := zf 1; clear zf)
            | go_in)

          go_roundw
          case rel => exact ⟨k + 1, bp, bc, by omega, by go_num, HX, HX22, HX12, HO2, HB.out.trans (HB2.out.mono HB.out.size)⟩
          case measure => simp [intOf]; omega
      · have HX := hid (HJN.out (fun h => hje h.1))
        have e0 : (je == 0) = false := by simpa using hje
        clear HJN HJY HT HBE
        go_wp2_with (first
          | (go_at_call 72; refine HC.out.mono ?_; rintro e2 w2 ⟨v2, rfl, _, _, hb2⟩; have HB2 := hid hb2; have HX22 : Hid (w2.heap[w.heap.size + 1 + 1]? = some (.cells (offer bp bc) 191 (0, 0))) := (hb2.block _ (by exact xl)).trans HX2.out; have HX12 : Hid (w2.heap[w.heap.size + 1]? = some (.cells (offer ⟨#[]⟩ 0) 191 (0, 0))) := (hb2.block _ (by exact xl1)).trans HX1.out; have HO2 := hid (own_below HO.out hb2); have hc2 : w2.cell? ⟨g, k, none⟩ = _ := (hb2.cell (by exact hg)).trans hc; have hg2 : g < w2.heap.size := Nat.lt_of_lt_of_le hg hb2.size; clear hb2; obtain ⟨z0, z1, zf, zl⟩ := offer_at HX22.out; have zf0 := zf 0; have zf1 := zf 1; clear zf)
          | go_in)

        go_roundw
        case rel => exact ⟨k + 1, bp, bc, by omega, by go_num, HX, HX22, HX12, HO2, HB.out.trans (HB2.out.mono HB.out.size)⟩
        case measure => simp [intOf]; omega
    · have HF : Hid (Best r D s.data.toList c ls bp.data.toList bc) := by have h := HBE.out; rw [List.take_of_length_le (by omega)] at h; exact h
      obtain ⟨y0, y1, yf, yl⟩ := offer_at HX1.out
      have yf0 := yf 0
      have yf1 := yf 1
      clear yf xf HBE
      go_wp2_with go_in
      refine bodyPost_ret (v := .agg #[.string bp, .int .i64 bc]) (by simp [results, Tryz.results122, go_sem, y0, y1]) rfl ?_
      exact ⟨bp, bc, rfl, HF.out, below_put2 HB.out (by omega) _ _⟩
end Go.Proofs.YtebinaopncclgaaGreatDoor
