import PyProof.Rows.All
import Wide.All
import OpenK.AllK
import Wide.FinOn
import HandS.ForMost
import KE.KeyNested
import KE.KDictWalk
import KE.KDictCopyH
import HandS.Conv
import HandS.IsInst
import HandS.DictComp
import HandS.Words
import HandS.Codes
import HandS.Style
import HandS.TupAny
import KE.SortData
import HandS.Deep
import HandS.ForExc
import HandS.Wide
import PyProof.ReprRoads
import HandS.DictEq
import HandS.ExcIs
import PySem.Challenge.RW_forkcells_k09_whole_rings_or_numbers
set_option Elab.async false
set_option linter.all false
set_option maxRecDepth 100000
set_option maxHeartbeats 4000000
/-! Tables whose keys are flat values and tuples together. -/
namespace Fc
open PySem
abbrev NK := NestedKey
/-- the entries es of a table bear the keys ks, one by one -/
structure Tab (w : World) (h : Heap) (ks : List NK) (es : Array DictEntry) : Prop where
  size : es.size = ks.length
  each : ∀ j (hj : j < es.size), ∃ k, ks[j]? = some k ∧ es[j].hash = k.hash w ∧ NestedIs h k es[j].key ∧ k.depth ≤ 8
  nd : ks.Nodup
/-- where a key stands -/
def posK (ks : List NK) (k : NK) : Option Nat := ks.findIdx? fun x => decide (x = k)
theorem posK_none {ks : List NK} {k : NK} (h : ∀ j : Nat, ks[j]? ≠ some k) : posK ks k = none := by
  unfold posK
  rw [List.findIdx?_eq_none_iff]
  intro x hx
  obtain ⟨j, hj⟩ := List.mem_iff_getElem?.mp hx
  exact decide_eq_false fun e => h j (by rw [hj, e])
theorem posK_some {ks : List NK} (nd : ks.Nodup) {k : NK} {j : Nat} (h : ks[j]? = some k) : posK ks k = some j := by
  obtain ⟨hj, e⟩ := List.getElem?_eq_some_iff.mp h
  unfold posK
  refine List.findIdx?_eq_some_iff_getElem.mpr ⟨hj, decide_eq_true e, fun i hi => ?_⟩
  intro q
  have e2 : ks[i] = k := of_decide_eq_true q
  exact Nat.ne_of_lt hi ((List.getElem_inj nd).mp (e2.trans e.symm))
section
variable {A : Around} {P : Program} {w : World} {s : Shared} {E : Value → Shared → Prop}
/-- what the look for k has met among the first i places -/
def Met (ks : List NK) (k : NK) (i : Nat) (hit : Option Nat) : Prop :=
  (hit = none ∧ ∀ j, j < i → ks[j]? ≠ some k) ∨ ∃ j, hit = some j ∧ j < i ∧ ks[j]? = some k
theorem Met.go {ks : List NK} {k : NK} {i i' : Nat} {hit : Option Nat} (m : Met ks k i hit) (hi : i ≤ i') (no : ∀ j, i ≤ j → j < i' → ks[j]? ≠ some k) : Met ks k i' hit := by
  rcases m with ⟨a, b⟩ | ⟨j, a, b, c⟩
  · refine .inl ⟨a, fun j hj => ?_⟩
    rcases Nat.lt_or_ge j i with q | q
    · exact b j q
    · exact no j q hj
  · exact .inr ⟨j, a, Nat.lt_of_lt_of_le b hi, c⟩
theorem Met.fin {ks : List NK} {k : NK} {hit : Option Nat} (nd : ks.Nodup) (m : Met ks k ks.length hit) : hit = posK ks k := by
  rcases m with ⟨a, b⟩ | ⟨j, a, b, c⟩
  · rw [a, posK_none]
    intro j q
    exact b j (List.getElem?_eq_some_iff.mp q).1 q
  · rw [a, posK_some nd c]
theorem may_quiet {k : NK} {key : Value} {st : List Value} {Q : Bool → Shared → Prop} (hk : NestedIs s.heap k key) (hd : k.depth ≤ 8) (hs : ∀ v ∈ st, ∃ k' : NK, NestedIs s.heap k' v ∧ k'.depth ≤ 8) (h : Q false s) :
    wpAny (model P w) A (tableMayTell key st) Q E s := by
  unfold tableMayTell
  by_cases e : st.isEmpty = true
  · rw [if_pos e]
    exact wpAny_pure h
  rw [if_neg e]
  refine wpAny_bind (quiet_key k key 8 s hk hd A E _ ?_)
  simp only [Bool.not_true, Bool.false_eq_true, if_false]
  refine wpAny_bind (wpAny_forIn_list _ (fun l r s' => (s' = s ∧ r = (none, ())) ∧ ∀ v ∈ l, v ∈ st) _ ?_ ?_ _ _ ⟨⟨rfl, rfl⟩, fun _ z => z⟩)
  · rintro v l r s' ⟨⟨rfl, rfl⟩, all⟩
    obtain ⟨k', h1, h2⟩ := hs v (all v List.mem_cons_self)
    refine wpAny_bind (quiet_key k' v 8 s' h1 h2 A E _ ?_)
    simp only [Bool.not_true, Bool.false_eq_true, if_false]
    exact wpAny_pure ⟨⟨rfl, rfl⟩, fun v hv => all v (List.mem_cons_of_mem _ hv)⟩
  · rintro r s' ⟨⟨rfl, rfl⟩, _⟩
    exact wpAny_pure h
/-- the places that are asked: their hash is the key's -/
abbrev hashAt (es : Array DictEntry) (j : Nat) : Option Int := es[j]?.map (·.hash)
theorem Tab.key {h : Heap} {ks : List NK} {es : Array DictEntry} (T : Tab w h ks es) {k : NK} {j : Nat} (e : ks[j]? = some k) : hashAt es j = some (k.hash w) := by
  have hj : j < es.size := by rw [T.size]; exact (List.getElem?_eq_some_iff.mp e).1
  obtain ⟨k', e', hh, _⟩ := T.each j hj
  rw [e] at e'
  cases e'
  unfold hashAt
  rw [Array.getElem?_eq_getElem hj, Option.map_some, hh]
theorem Tab.stored {h : Heap} {ks : List NK} {es : Array DictEntry} (T : Tab w h ks es) (f : Nat → Bool) : ∀ v ∈ ((List.range es.size).filter f).filterMap (fun i => es[i]?.map (·.key)), ∃ k' : NK, NestedIs h k' v ∧ k'.depth ≤ 8 := by
  intro v hv
  obtain ⟨i, _, e⟩ := List.mem_filterMap.mp hv
  cases q : es[i]? with
  | none => rw [q] at e; cases e
  | some en =>
    rw [q] at e
    obtain ⟨hi, e2⟩ := Array.getElem?_eq_some_iff.mp q
    obtain ⟨k, _, _, n, d⟩ := T.each i hi
    rw [e2] at n
    have e3 : en.key = v := by simpa using e
    rw [e3] at n
    exact ⟨k, n, d⟩
theorem dFind {d : Addr} {o : Obj} {es : Array DictEntry} {ep : Nat} {ks : List NK} {k : NK} {key : Value} {Q : Option Nat → Shared → Prop} (hu : A.units + 8 < cLine) (T : Tab w s.heap ks es)
    (hk : NestedIs s.heap k key) (hkd : k.depth ≤ 8) (ho : s.heap.get? d = some o) (hd : o.data = .dict es ep) (h : Q (posK ks k) s) : wpAny (model P w) A (dictFind d key (k.hash w)) Q E s := by
  have hst := T.stored (w := w) (fun i => hashAt es i == some (k.hash w))
  -- one step of the walk: what is between two places of the same hash is another key
  have skip : ∀ (i x : Nat) (hit : Option Nat), Met ks k i hit → i ≤ x → (∀ j, i ≤ j → j < x → (hashAt es j == some (k.hash w)) = false) → Met ks k x hit := fun i x hit m hi no => m.go hi fun j a b e => by
    have q := no j a b
    rw [T.key e] at q
    simp at q
  have eqs : ∀ (x : Nat) (hx : x < es.size) (k' : NK), ks[x]? = some k' → ∀ (Q' : Bool → Shared → Prop), Q' (decide (k' = k)) s → wpAny (model P w) A (eqBool es[x].key key) Q' E s := fun x hx k' e Q' q => by
    obtain ⟨k2, e2, _, n, dd⟩ := T.each x hx
    rw [e] at e2
    cases e2
    exact eqAt_key k' k A s _ _ n hk (by omega) _ _ _ _ (by rw [← NestedKey.decide_eq]; exact q)
  unfold dictFind
  try with_reducible refine wpAny_holding ?_
  refine wpAny_bind (wpAny_dictEntries ho hd ?_)
  dsimp only
  have text : ∀ (x : Str) (t : Tok), key = .str x t → (es.all fun e => isExactStrKey e.key) = true → wpAny (model P w) A (foundByValue d key es x) Q E s := by
    intro x t ek ha
    subst ek
    cases hk
    have exact' : ∀ j (hj : j < es.size) (k' : NK), ks[j]? = some k' → ∃ y u, k' = .text y ∧ es[j].key = .str y u := fun j hj k' e => by
      obtain ⟨k2, e2, _, n, _⟩ := T.each j hj
      rw [e] at e2
      cases e2
      have z : isExactStrKey es[j].key = true := Array.all_eq_true.mp ha j hj
      generalize es[j].key = v at n z
      cases n with
      | text y u => exact ⟨y, u, rfl, rfl⟩
      | none => cases z
      | bool e => cases z
      | int i u => cases z
      | tup a b c e => cases z
    unfold foundByValue
    cases hf : es.findIdx? (fun e => e.key.isStr x) with
    | none =>
      refine wpAny_pure ?_
      rw [posK_none (k := NestedKey.text x) (fun j e => ?_)] at h
      · exact h
      · have hj : j < es.size := by rw [T.size]; exact (List.getElem?_eq_some_iff.mp e).1
        obtain ⟨y, u, e1, e2⟩ := exact' j hj _ e
        cases e1
        have z := Array.findIdx?_eq_none_iff.mp hf es[j] (Array.getElem_mem hj)
        rw [e2] at z
        simp [Value.isStr] at z
    | some i =>
      obtain ⟨hi, z, _⟩ := Array.findIdx?_eq_some_iff_getElem.mp hf
      have hik : i < ks.length := by rw [← T.size]; exact hi
      obtain ⟨y, u, e1, e2⟩ := exact' i hi ks[i] (List.getElem?_eq_getElem hik)
      rw [e2] at z
      have exy : y = x := by
        have z2 : (y == x) = true := z
        exact eq_of_beq z2
      subst exy
      have hki : ks[i]? = some (NestedKey.text y) := by rw [List.getElem?_eq_getElem hik, e1]
      rw [posK_some T.nd hki] at h
      simp only [Array.getElem?_eq_getElem hi]
      refine wpAny_bind (wpAny_dictEpoch ho hd (wpAny_bind (eqs i hi _ hki _ (wpAny_bind (wpAny_dictEpoch ho hd ?_)))))
      simp only [bne_self_eq_false, Bool.false_eq_true, if_false, decide_true, if_true]
      exact wpAny_bind (wpAny_rule (wpAny_pure h))
  have walk : wpAny (model P w) A (dictWalkPlain d key (k.hash w) es (placesWithHash es.size (fun i => es[i]?.map (·.hash)) (k.hash w))) Q E s := by
    unfold dictWalkPlain
    refine wpAny_bind (wpAny_forIn_list _ (fun l r s' => (s' = s ∧ r = (none, ())) ∧ ∃ i, i ≤ es.size ∧ Met ks k i none ∧ l = (List.range' i (es.size - i)).filter (fun j => hashAt es j == some (k.hash w))) _ ?_ ?_ _ _
      ⟨⟨rfl, rfl⟩, 0, Nat.zero_le _, .inl ⟨rfl, fun j hj => absurd hj (Nat.not_lt_zero j)⟩, by rw [placesWithHash, List.range_eq_range', Nat.sub_zero]⟩)
    · rintro x l r s' ⟨⟨rfl, rfl⟩, i, hi, m, el⟩
      obtain ⟨h1, h2, _, h4, h5⟩ := filter_range'_cons _ _ _ _ _ el.symm
      have hx : x < es.size := by omega
      have m1 := skip i x none m h1 h4
      obtain ⟨k', ek, hh, n, dd⟩ := T.each x hx
      have l' : l = (List.range' (x + 1) (es.size - (x + 1))).filter (fun j => hashAt es j == some (k.hash w)) := by rw [h5]; congr 2; omega
      have on : ¬ k' = k → Met ks k (x + 1) none := fun ne => m1.go (Nat.le_succ x) fun j a b q => by
        have e : j = x := by omega
        rw [e, ek] at q
        exact ne (Option.some.inj q)
      simp only [Array.getElem?_eq_getElem hx]
      by_cases eh : (es[x].hash == k.hash w) = true
      · rw [if_pos eh]
        refine wpAny_bind (wpAny_dictEpoch ho hd (wpAny_bind (eqs x hx k' ek _ (wpAny_bind (wpAny_dictEpoch ho hd ?_)))))
        simp only [bne_self_eq_false, Bool.false_eq_true, if_false]
        by_cases q : k' = k
        · rw [q] at ek
          rw [posK_some T.nd ek] at h
          simp only [decide_eq_true q, if_true]
          exact wpAny_bind (wpAny_rule (wpAny_pure (wpAny_pure h)))
        · simp only [decide_eq_false q, Bool.false_eq_true, if_false]
          exact wpAny_bind (wpAny_rule (wpAny_pure ⟨⟨rfl, rfl⟩, x + 1, hx, on q, l'⟩))
      · rw [if_neg eh]
        refine wpAny_pure ⟨⟨rfl, rfl⟩, x + 1, hx, on fun q => ?_, l'⟩
        rw [hh, q] at eh
        exact eh (beq_self_eq_true _)
    · rintro r s' ⟨⟨rfl, rfl⟩, i, hi, m, el⟩
      have m1 := skip i es.size none m hi fun j a b => by
        have z := List.filter_eq_nil_iff.mp el.symm j (List.mem_range'_1.mpr ⟨a, by omega⟩)
        simpa using z
      rw [T.size] at m1
      rw [← m1.fin T.nd] at h
      exact wpAny_pure h
  have noStale : ∀ a : Addr, key = .ref a → ¬ (es.any fun e => e.key == key && e.hash != k.hash w) = true := by
    intro a ek z
    rw [← Array.any_toList, List.any_eq_true] at z
    obtain ⟨e, he, z⟩ := z
    obtain ⟨j, hj, e2⟩ := Array.mem_iff_getElem.mp (Array.mem_toList_iff.mp he)
    obtain ⟨k', ek', hh, n, _⟩ := T.each j hj
    rw [e2] at hh n
    simp only [Bool.and_eq_true, beq_iff_eq, bne_iff_ne] at z
    rw [z.1] at n
    rw [NestedIs.inj _ _ _ n hk] at hh
    exact z.2 hh
  split
  · rename_i x t
    by_cases ha : (es.all fun e => isExactStrKey e.key) = true
    · rw [if_pos ha]
      exact text x t rfl ha
    · rw [if_neg ha]
      by_cases hall : ((Value.str x t :: (placesWithHash es.size (fun i => es[i]?.map (·.hash)) (k.hash w)).filterMap fun i => es[i]?.map (·.key)).all carriedByValue) = true
      · rw [if_pos hall]
        exact walk
      · rw [if_neg hall]
        dsimp only
        by_cases hone : (((placesWithHash es.size (fun i => es[i]?.map (·.hash)) (k.hash w)).filterMap fun i => es[i]?.map (·.key)) == [Value.str x t]) = true
        · rw [if_pos hone]
          refine wpAny_bind (wpAny_pure ?_)
          simp only [Bool.false_and, Bool.false_eq_true, if_false]
          refine wpAny_bind (wpAny_forIn_list _ (fun l r s' => s' = s ∧ ∃ i hit, r = (none, hit) ∧ i ≤ es.size ∧ Met ks k i hit ∧ l = (List.range' i (es.size - i)).filter (fun j => hashAt es j == some (k.hash w))) _ ?_ ?_ _ _
            ⟨rfl, 0, none, rfl, Nat.zero_le _, .inl ⟨rfl, fun j hj => absurd hj (Nat.not_lt_zero j)⟩, by rw [placesWithHash, List.range_eq_range', Nat.sub_zero]⟩)
          · rintro x l r s' ⟨rfl, i, hit, rfl, hi, m, el⟩
            obtain ⟨h1, h2, _, h4, h5⟩ := filter_range'_cons _ _ _ _ _ el.symm
            have hx : x < es.size := by omega
            have m1 := skip i x hit m h1 h4
            obtain ⟨k', ek, hh, n, dd⟩ := T.each x hx
            have l' : l = (List.range' (x + 1) (es.size - (x + 1))).filter (fun j => hashAt es j == some (k.hash w)) := by rw [h5]; congr 2; omega
            have on : ¬ k' = k → Met ks k (x + 1) hit := fun ne => m1.go (Nat.le_succ x) fun j a b q => by
              have e : j = x := by omega
              rw [e, ek] at q
              exact ne (Option.some.inj q)
            simp only [Array.getElem?_eq_getElem hx]
            by_cases eh : (es[x].hash == k.hash w) = true
            · rw [if_pos eh]
              refine wpAny_bind (wpAny_dictEpoch ho hd (wpAny_bind (eqs x hx k' ek _ (wpAny_bind (wpAny_dictEpoch ho hd ?_)))))
              simp only [bne_self_eq_false, Bool.false_eq_true, if_false]
              by_cases q : k' = k
              · rw [q] at ek
                have eh0 : hit = none := by
                  rcases m1 with ⟨z, _⟩ | ⟨j, _, hj, e⟩
                  · exact z
                  · exact absurd ((List.getElem?_inj (List.getElem?_eq_some_iff.mp e).1 T.nd).mp (e.trans ek.symm)) (Nat.ne_of_lt hj)
                subst eh0
                simp only [decide_eq_true q, if_true, Option.isSome_none, Bool.false_eq_true, if_false]
                refine wpAny_bind (wpAny_rule ?_)
                split
                · rw [posK_some T.nd ek] at h
                  exact wpAny_pure (wpAny_pure h)
                · exact wpAny_pure ⟨rfl, x + 1, some x, rfl, hx, .inr ⟨x, rfl, Nat.lt_succ_self x, ek⟩, l'⟩
              · simp only [decide_eq_false q, Bool.false_eq_true, if_false]
                refine wpAny_bind (wpAny_rule ?_)
                exact wpAny_pure ⟨rfl, x + 1, hit, rfl, hx, on q, l'⟩
            · rw [if_neg eh]
              refine wpAny_pure ⟨rfl, x + 1, hit, rfl, hx, on fun q => ?_, l'⟩
              rw [hh, q] at eh
              exact eh (beq_self_eq_true _)
          · rintro r s' ⟨rfl, i, hit, rfl, hi, m, el⟩
            have m1 := skip i es.size hit m hi fun j a b => by
              have z := List.filter_eq_nil_iff.mp el.symm j (List.mem_range'_1.mpr ⟨a, by omega⟩)
              simpa using z
            rw [T.size] at m1
            rw [← m1.fin T.nd] at h
            exact wpAny_pure h
        · rw [if_neg hone]
          refine wpAny_bind (may_quiet hk hkd hst ?_)
          simp only [Bool.false_and, Bool.false_eq_true, if_false]
          refine wpAny_bind (wpAny_forIn_list _ (fun l r s' => s' = s ∧ ∃ i hit, r = (none, hit) ∧ i ≤ es.size ∧ Met ks k i hit ∧ l = (List.range' i (es.size - i)).filter (fun j => hashAt es j == some (k.hash w))) _ ?_ ?_ _ _
            ⟨rfl, 0, none, rfl, Nat.zero_le _, .inl ⟨rfl, fun j hj => absurd hj (Nat.not_lt_zero j)⟩, by rw [placesWithHash, List.range_eq_range', Nat.sub_zero]⟩)
          · rintro x l r s' ⟨rfl, i, hit, rfl, hi, m, el⟩
            obtain ⟨h1, h2, _, h4, h5⟩ := filter_range'_cons _ _ _ _ _ el.symm
            have hx : x < es.size := by omega
            have m1 := skip i x hit m h1 h4
            obtain ⟨k', ek, hh, n, dd⟩ := T.each x hx
            have l' : l = (List.range' (x + 1) (es.size - (x + 1))).filter (fun j => hashAt es j == some (k.hash w)) := by rw [h5]; congr 2; omega
            have on : ¬ k' = k → Met ks k (x + 1) hit := fun ne => m1.go (Nat.le_succ x) fun j a b q => by
              have e : j = x := by omega
              rw [e, ek] at q
              exact ne (Option.some.inj q)
            simp only [Array.getElem?_eq_getElem hx]
            by_cases eh : (es[x].hash == k.hash w) = true
            · rw [if_pos eh]
              refine wpAny_bind (wpAny_dictEpoch ho hd (wpAny_bind (eqs x hx k' ek _ (wpAny_bind (wpAny_dictEpoch ho hd ?_)))))
              simp only [bne_self_eq_false, Bool.false_eq_true, if_false]
              by_cases q : k' = k
              · rw [q] at ek
                have eh0 : hit = none := by
                  rcases m1 with ⟨z, _⟩ | ⟨j, _, hj, e⟩
                  · exact z
                  · exact absurd ((List.getElem?_inj (List.getElem?_eq_some_iff.mp e).1 T.nd).mp (e.trans ek.symm)) (Nat.ne_of_lt hj)
                subst eh0
                simp only [decide_eq_true q, if_true, Option.isSome_none, Bool.false_eq_true, if_false]
                refine wpAny_bind (wpAny_rule ?_)
                split
                · rw [posK_some T.nd ek] at h
                  exact wpAny_pure (wpAny_pure h)
                · exact wpAny_pure ⟨rfl, x + 1, some x, rfl, hx, .inr ⟨x, rfl, Nat.lt_succ_self x, ek⟩, l'⟩
              · simp only [decide_eq_false q, Bool.false_eq_true, if_false]
                refine wpAny_bind (wpAny_rule ?_)
                exact wpAny_pure ⟨rfl, x + 1, hit, rfl, hx, on q, l'⟩
            · rw [if_neg eh]
              refine wpAny_pure ⟨rfl, x + 1, hit, rfl, hx, on fun q => ?_, l'⟩
              rw [hh, q] at eh
              exact eh (beq_self_eq_true _)
          · rintro r s' ⟨rfl, i, hit, rfl, hi, m, el⟩
            have m1 := skip i es.size hit m hi fun j a b => by
              have z := List.filter_eq_nil_iff.mp el.symm j (List.mem_range'_1.mpr ⟨a, by omega⟩)
              simpa using z
            rw [T.size] at m1
            rw [← m1.fin T.nd] at h
            exact wpAny_pure h
  · by_cases hall : ((key :: (placesWithHash es.size (fun i => es[i]?.map (·.hash)) (k.hash w)).filterMap fun i => es[i]?.map (·.key)).all carriedByValue) = true
    · rw [if_pos hall]
      exact walk
    · rw [if_neg hall]
      split
      · rename_i a _z
        rw [if_neg (noStale a rfl)]
        by_cases hone : (((placesWithHash es.size (fun i => es[i]?.map (·.hash)) (k.hash w)).filterMap fun i => es[i]?.map (·.key)) == [Value.ref a]) = true
        · rw [if_pos hone]
          refine wpAny_bind (wpAny_pure ?_)
          simp only [Bool.false_and, Bool.false_eq_true, if_false]
          refine wpAny_bind (wpAny_forIn_list _ (fun l r s' => s' = s ∧ ∃ i hit, r = (none, hit) ∧ i ≤ es.size ∧ Met ks k i hit ∧ l = (List.range' i (es.size - i)).filter (fun j => hashAt es j == some (k.hash w))) _ ?_ ?_ _ _
            ⟨rfl, 0, none, rfl, Nat.zero_le _, .inl ⟨rfl, fun j hj => absurd hj (Nat.not_lt_zero j)⟩, by rw [placesWithHash, List.range_eq_range', Nat.sub_zero]⟩)
          · rintro x l r s' ⟨rfl, i, hit, rfl, hi, m, el⟩
            obtain ⟨h1, h2, _, h4, h5⟩ := filter_range'_cons _ _ _ _ _ el.symm
            have hx : x < es.size := by omega
            have m1 := skip i x hit m h1 h4
            obtain ⟨k', ek, hh, n, dd⟩ := T.each x hx
            have l' : l = (List.range' (x + 1) (es.size - (x + 1))).filter (fun j => hashAt es j == some (k.hash w)) := by rw [h5]; congr 2; omega
            have on : ¬ k' = k → Met ks k (x + 1) hit := fun ne => m1.go (Nat.le_succ x) fun j a b q => by
              have e : j = x := by omega
              rw [e, ek] at q
              exact ne (Option.some.inj q)
            simp only [Array.getElem?_eq_getElem hx]
            by_cases eh : (es[x].hash == k.hash w) = true
            · rw [if_pos eh]
              refine wpAny_bind (wpAny_dictEpoch ho hd (wpAny_bind (eqs x hx k' ek _ (wpAny_bind (wpAny_dictEpoch ho hd ?_)))))
              simp only [bne_self_eq_false, Bool.false_eq_true, if_false]
              by_cases q : k' = k
              · rw [q] at ek
                have eh0 : hit = none := by
                  rcases m1 with ⟨z, _⟩ | ⟨j, _, hj, e⟩
                  · exact z
                  · exact absurd ((List.getElem?_inj (List.getElem?_eq_some_iff.mp e).1 T.nd).mp (e.trans ek.symm)) (Nat.ne_of_lt hj)
                subst eh0
                simp only [decide_eq_true q, if_true, Option.isSome_none, Bool.false_eq_true, if_false]
                refine wpAny_bind (wpAny_rule ?_)
                split
                · rw [posK_some T.nd ek] at h
                  exact wpAny_pure (wpAny_pure h)
                · exact wpAny_pure ⟨rfl, x + 1, some x, rfl, hx, .inr ⟨x, rfl, Nat.lt_succ_self x, ek⟩, l'⟩
              · simp only [decide_eq_false q, Bool.false_eq_true, if_false]
                refine wpAny_bind (wpAny_rule ?_)
                exact wpAny_pure ⟨rfl, x + 1, hit, rfl, hx, on q, l'⟩
            · rw [if_neg eh]
              refine wpAny_pure ⟨rfl, x + 1, hit, rfl, hx, on fun q => ?_, l'⟩
              rw [hh, q] at eh
              exact eh (beq_self_eq_true _)
          · rintro r s' ⟨rfl, i, hit, rfl, hi, m, el⟩
            have m1 := skip i es.size hit m hi fun j a b => by
              have z := List.filter_eq_nil_iff.mp el.symm j (List.mem_range'_1.mpr ⟨a, by omega⟩)
              simpa using z
            rw [T.size] at m1
            rw [← m1.fin T.nd] at h
            exact wpAny_pure h
        · rw [if_neg hone]
          refine wpAny_bind (may_quiet hk hkd hst ?_)
          simp only [Bool.false_and, Bool.false_eq_true, if_false]
          refine wpAny_bind (wpAny_forIn_list _ (fun l r s' => s' = s ∧ ∃ i hit, r = (none, hit) ∧ i ≤ es.size ∧ Met ks k i hit ∧ l = (List.range' i (es.size - i)).filter (fun j => hashAt es j == some (k.hash w))) _ ?_ ?_ _ _
            ⟨rfl, 0, none, rfl, Nat.zero_le _, .inl ⟨rfl, fun j hj => absurd hj (Nat.not_lt_zero j)⟩, by rw [placesWithHash, List.range_eq_range', Nat.sub_zero]⟩)
          · rintro x l r s' ⟨rfl, i, hit, rfl, hi, m, el⟩
            obtain ⟨h1, h2, _, h4, h5⟩ := filter_range'_cons _ _ _ _ _ el.symm
            have hx : x < es.size := by omega
            have m1 := skip i x hit m h1 h4
            obtain ⟨k', ek, hh, n, dd⟩ := T.each x hx
            have l' : l = (List.range' (x + 1) (es.size - (x + 1))).filter (fun j => hashAt es j == some (k.hash w)) := by rw [h5]; congr 2; omega
            have on : ¬ k' = k → Met ks k (x + 1) hit := fun ne => m1.go (Nat.le_succ x) fun j a b q => by
              have e : j = x := by omega
              rw [e, ek] at q
              exact ne (Option.some.inj q)
            simp only [Array.getElem?_eq_getElem hx]
            by_cases eh : (es[x].hash == k.hash w) = true
            · rw [if_pos eh]
              refine wpAny_bind (wpAny_dictEpoch ho hd (wpAny_bind (eqs x hx k' ek _ (wpAny_bind (wpAny_dictEpoch ho hd ?_)))))
              simp only [bne_self_eq_false, Bool.false_eq_true, if_false]
              by_cases q : k' = k
              · rw [q] at ek
                have eh0 : hit = none := by
                  rcases m1 with ⟨z, _⟩ | ⟨j, _, hj, e⟩
                  · exact z
                  · exact absurd ((List.getElem?_inj (List.getElem?_eq_some_iff.mp e).1 T.nd).mp (e.trans ek.symm)) (Nat.ne_of_lt hj)
                subst eh0
                simp only [decide_eq_true q, if_true, Option.isSome_none, Bool.false_eq_true, if_false]
                refine wpAny_bind (wpAny_rule ?_)
                split
                · rw [posK_some T.nd ek] at h
                  exact wpAny_pure (wpAny_pure h)
                · exact wpAny_pure ⟨rfl, x + 1, some x, rfl, hx, .inr ⟨x, rfl, Nat.lt_succ_self x, ek⟩, l'⟩
              · simp only [decide_eq_false q, Bool.false_eq_true, if_false]
                refine wpAny_bind (wpAny_rule ?_)
                exact wpAny_pure ⟨rfl, x + 1, hit, rfl, hx, on q, l'⟩
            · rw [if_neg eh]
              refine wpAny_pure ⟨rfl, x + 1, hit, rfl, hx, on fun q => ?_, l'⟩
              rw [hh, q] at eh
              exact eh (beq_self_eq_true _)
          · rintro r s' ⟨rfl, i, hit, rfl, hi, m, el⟩
            have m1 := skip i es.size hit m hi fun j a b => by
              have z := List.filter_eq_nil_iff.mp el.symm j (List.mem_range'_1.mpr ⟨a, by omega⟩)
              simpa using z
            rw [T.size] at m1
            rw [← m1.fin T.nd] at h
            exact wpAny_pure h
      · by_cases hone : (((placesWithHash es.size (fun i => es[i]?.map (·.hash)) (k.hash w)).filterMap fun i => es[i]?.map (·.key)) == [key]) = true
        · rw [if_pos hone]
          refine wpAny_bind (wpAny_pure ?_)
          simp only [Bool.false_and, Bool.false_eq_true, if_false]
          refine wpAny_bind (wpAny_forIn_list _ (fun l r s' => s' = s ∧ ∃ i hit, r = (none, hit) ∧ i ≤ es.size ∧ Met ks k i hit ∧ l = (List.range' i (es.size - i)).filter (fun j => hashAt es j == some (k.hash w))) _ ?_ ?_ _ _
            ⟨rfl, 0, none, rfl, Nat.zero_le _, .inl ⟨rfl, fun j hj => absurd hj (Nat.not_lt_zero j)⟩, by rw [placesWithHash, List.range_eq_range', Nat.sub_zero]⟩)
          · rintro x l r s' ⟨rfl, i, hit, rfl, hi, m, el⟩
            obtain ⟨h1, h2, _, h4, h5⟩ := filter_range'_cons _ _ _ _ _ el.symm
            have hx : x < es.size := by omega
            have m1 := skip i x hit m h1 h4
            obtain ⟨k', ek, hh, n, dd⟩ := T.each x hx
            have l' : l = (List.range' (x + 1) (es.size - (x + 1))).filter (fun j => hashAt es j == some (k.hash w)) := by rw [h5]; congr 2; omega
            have on : ¬ k' = k → Met ks k (x + 1) hit := fun ne => m1.go (Nat.le_succ x) fun j a b q => by
              have e : j = x := by omega
              rw [e, ek] at q
              exact ne (Option.some.inj q)
            simp only [Array.getElem?_eq_getElem hx]
            by_cases eh : (es[x].hash == k.hash w) = true
            · rw [if_pos eh]
              refine wpAny_bind (wpAny_dictEpoch ho hd (wpAny_bind (eqs x hx k' ek _ (wpAny_bind (wpAny_dictEpoch ho hd ?_)))))
              simp only [bne_self_eq_false, Bool.false_eq_true, if_false]
              by_cases q : k' = k
              · rw [q] at ek
                have eh0 : hit = none := by
                  rcases m1 with ⟨z, _⟩ | ⟨j, _, hj, e⟩
                  · exact z
                  · exact absurd ((List.getElem?_inj (List.getElem?_eq_some_iff.mp e).1 T.nd).mp (e.trans ek.symm)) (Nat.ne_of_lt hj)
                subst eh0
                simp only [decide_eq_true q, if_true, Option.isSome_none, Bool.false_eq_true, if_false]
                refine wpAny_bind (wpAny_rule ?_)
                split
                · rw [posK_some T.nd ek] at h
                  exact wpAny_pure (wpAny_pure h)
                · exact wpAny_pure ⟨rfl, x + 1, some x, rfl, hx, .inr ⟨x, rfl, Nat.lt_succ_self x, ek⟩, l'⟩
              · simp only [decide_eq_false q, Bool.false_eq_true, if_false]
                refine wpAny_bind (wpAny_rule ?_)
                exact wpAny_pure ⟨rfl, x + 1, hit, rfl, hx, on q, l'⟩
            · rw [if_neg eh]
              refine wpAny_pure ⟨rfl, x + 1, hit, rfl, hx, on fun q => ?_, l'⟩
              rw [hh, q] at eh
              exact eh (beq_self_eq_true _)
          · rintro r s' ⟨rfl, i, hit, rfl, hi, m, el⟩
            have m1 := skip i es.size hit m hi fun j a b => by
              have z := List.filter_eq_nil_iff.mp el.symm j (List.mem_range'_1.mpr ⟨a, by omega⟩)
              simpa using z
            rw [T.size] at m1
            rw [← m1.fin T.nd] at h
            exact wpAny_pure h
        · rw [if_neg hone]
          refine wpAny_bind (may_quiet hk hkd hst ?_)
          simp only [Bool.false_and, Bool.false_eq_true, if_false]
          refine wpAny_bind (wpAny_forIn_list _ (fun l r s' => s' = s ∧ ∃ i hit, r = (none, hit) ∧ i ≤ es.size ∧ Met ks k i hit ∧ l = (List.range' i (es.size - i)).filter (fun j => hashAt es j == some (k.hash w))) _ ?_ ?_ _ _
            ⟨rfl, 0, none, rfl, Nat.zero_le _, .inl ⟨rfl, fun j hj => absurd hj (Nat.not_lt_zero j)⟩, by rw [placesWithHash, List.range_eq_range', Nat.sub_zero]⟩)
          · rintro x l r s' ⟨rfl, i, hit, rfl, hi, m, el⟩
            obtain ⟨h1, h2, _, h4, h5⟩ := filter_range'_cons _ _ _ _ _ el.symm
            have hx : x < es.size := by omega
            have m1 := skip i x hit m h1 h4
            obtain ⟨k', ek, hh, n, dd⟩ := T.each x hx
            have l' : l = (List.range' (x + 1) (es.size - (x + 1))).filter (fun j => hashAt es j == some (k.hash w)) := by rw [h5]; congr 2; omega
            have on : ¬ k' = k → Met ks k (x + 1) hit := fun ne => m1.go (Nat.le_succ x) fun j a b q => by
              have e : j = x := by omega
              rw [e, ek] at q
              exact ne (Option.some.inj q)
            simp only [Array.getElem?_eq_getElem hx]
            by_cases eh : (es[x].hash == k.hash w) = true
            · rw [if_pos eh]
              refine wpAny_bind (wpAny_dictEpoch ho hd (wpAny_bind (eqs x hx k' ek _ (wpAny_bind (wpAny_dictEpoch ho hd ?_)))))
              simp only [bne_self_eq_false, Bool.false_eq_true, if_false]
              by_cases q : k' = k
              · rw [q] at ek
                have eh0 : hit = none := by
                  rcases m1 with ⟨z, _⟩ | ⟨j, _, hj, e⟩
                  · exact z
                  · exact absurd ((List.getElem?_inj (List.getElem?_eq_some_iff.mp e).1 T.nd).mp (e.trans ek.symm)) (Nat.ne_of_lt hj)
                subst eh0
                simp only [decide_eq_true q, if_true, Option.isSome_none, Bool.false_eq_true, if_false]
                refine wpAny_bind (wpAny_rule ?_)
                split
                · rw [posK_some T.nd ek] at h
                  exact wpAny_pure (wpAny_pure h)
                · exact wpAny_pure ⟨rfl, x + 1, some x, rfl, hx, .inr ⟨x, rfl, Nat.lt_succ_self x, ek⟩, l'⟩
              · simp only [decide_eq_false q, Bool.false_eq_true, if_false]
                refine wpAny_bind (wpAny_rule ?_)
                exact wpAny_pure ⟨rfl, x + 1, hit, rfl, hx, on q, l'⟩
            · rw [if_neg eh]
              refine wpAny_pure ⟨rfl, x + 1, hit, rfl, hx, on fun q => ?_, l'⟩
              rw [hh, q] at eh
              exact eh (beq_self_eq_true _)
          · rintro r s' ⟨rfl, i, hit, rfl, hi, m, el⟩
            have m1 := skip i es.size hit m hi fun j a b => by
              have z := List.filter_eq_nil_iff.mp el.symm j (List.mem_range'_1.mpr ⟨a, by omega⟩)
              simpa using z
            rw [T.size] at m1
            rw [← m1.fin T.nd] at h
            exact wpAny_pure h
end
end Fc
namespace Fc
open PySem L2
section
variable {A : Around} {P : Program} {w : World} {s : Shared} {E : Value → Shared → Prop}
/-- what stands under a key among the entries -/
def under (ks : List NK) (es : Array DictEntry) (k : NK) : Option Value := (posK ks k).bind fun i => es[i]?.map (·.val)
theorem dGet {d : Addr} {o : Obj} {es : Array DictEntry} {ep : Nat} {ks : List NK} {k : NK} {key : Value} {Q : Option Value → Shared → Prop} (hu : A.units + 8 < cLine) (T : Tab w s.heap ks es)
    (hk : NestedIs s.heap k key) (hkd : k.depth ≤ 8) (ho : s.heap.get? d = some o) (hd : o.data = .dict es ep) (h : ∀ t, Q (under ks es k) { s with toks := t }) : wpAny (model P w) A (dictGet d key) Q E s := by
  have h' := h (s.toks + k.draws)
  unfold dictGet
  try with_reducible refine wpAny_holding ?_
  refine wpAny_bind (pyHash_key k key A s _ hk (by omega) (wpAny_bind (dFind (s := { s with toks := s.toks + k.draws }) hu T hk hkd ho hd ?_)))
  unfold under at h'
  cases e : posK ks k with
  | none =>
    rw [e] at h'
    exact wpAny_pure h'
  | some i =>
    rw [e] at h'
    exact wpAny_bind (wpAny_dictEntries (s := { s with toks := s.toks + k.draws }) ho hd (wpAny_pure h'))
/-- the entries behind a store -/
def put (w : World) (ks : List NK) (es : Array DictEntry) (k : NK) (key v : Value) : Array DictEntry :=
  match posK ks k with
  | some i => es.modify i fun e => { e with val := v }
  | none => es.push ⟨k.hash w, key, v⟩
theorem dSet {d : Addr} {o : Obj} {es : Array DictEntry} {ep : Nat} {ks : List NK} {k : NK} {key v : Value} {Q : Unit → Shared → Prop} (hu : A.units + 8 < cLine) (T : Tab w s.heap ks es)
    (hk : NestedIs s.heap k key) (hkd : k.depth ≤ 8) (ho : s.heap.get? d = some o) (hc : o.ExactDict) (hd : o.data = .dict es ep) (hz : es.size ≤ sizeLine)
    (h : ∀ h' t o' ep', Heap.SameBut d s.heap h' → h'.get? d = some o' → o'.ExactDict → o'.data = .dict (put w ks es k key v) ep' → Q () { s with heap := h', toks := t }) : wpAny (model P w) A (dictSet d key v) Q E s := by
  unfold dictSet
  try with_reducible refine wpAny_holding ?_
  refine wpAny_bind (pyHash_key k key A s _ hk (by omega) ?_)
  unfold dictSetHashed
  try with_reducible refine wpAny_holding ?_
  refine wpAny_bind (dFind (s := { s with toks := s.toks + k.draws }) hu T hk hkd ho hd ?_)
  unfold put at h
  cases e : posK ks k with
  | none =>
    rw [e] at h
    exact wpAny_bind (wpAny_rule (wpAny_updateDictKeys (hz := hz) (s := { s with toks := s.toks + k.draws }) ho hd
      (h _ _ _ (ep + 1) (Heap.SameBut.update ..) (Heap.get?_update_self _ ho (Obj.isFreed_of_dict (Obj.data_mapDictKeys hd _))) (hc.mapDictKeys _) (Obj.data_mapDictKeys hd _))))
  | some i =>
    rw [e] at h
    exact wpAny_bind (wpAny_rule (wpAny_bind (wpAny_updateDict (s := { s with toks := s.toks + k.draws }) ho hd (wpAny_point
      (h _ _ _ ep (Heap.SameBut.update ..) (Heap.get?_update_self _ ho (Obj.isFreed_of_dict (Obj.data_mapDict hd _))) (hc.mapDict _) (Obj.data_mapDict hd _))))))
end
end Fc
namespace Fc
open PySem L2
section
variable {A : Around} {P : Program} {w : World} {s : Shared} {E : Value → Shared → Prop}
theorem dHas {d : Addr} {o : Obj} {es : Array DictEntry} {ep : Nat} {ks : List NK} {k : NK} {key : Value} {Q : Bool → Shared → Prop} (hu : A.units + 9 < cLine) (T : Tab w s.heap ks es)
    (hk : NestedIs s.heap k key) (hkd : k.depth ≤ 8) (ho : s.heap.get? d = some o) (hc : o.ExactDict) (hd : o.data = .dict es ep) (hs : (d == sysModules) = false) (h : ∀ t, Q (under ks es k).isSome { s with toks := t }) :
    wpAny (model P w) A (contains (.ref d) key) Q E s := by
  have hT : s.TypeIs (.ref d) "dict" := ⟨o, ho, hc.1⟩
  unfold contains
  try with_reducible refine wpAny_holding ?_
  refine wpAny_bind (wpAny_specialOf hT slot_dict_contains.lookup ?_)
  simp only [beq_builtin_none, Bool.false_eq_true, if_false]
  refine wpAny_bind (wpAny_callSpecialUnlessNone?_slot (name := Str.ofString "__contains__") hT slot_dict_contains (wpAny_call_entry slot_dict_contains hT entry_dict_contains ?_ (args_dict_contains _ _)))
  show wpAny _ _ (dictGet d key >>= _) _ _ s
  refine wpAny_bind (dGet (by show A.units + 1 + 8 < cLine; omega) T hk hkd ho hd fun t => ?_)
  have h' := h t
  cases e : under ks es k with
  | some v =>
    rw [e] at h'
    show wpAny _ _ (ret (.bool true)) _ _ _
    exact wpAny_pure ⟨_, rfl, wpAny_truthy_bool h'⟩
  | none =>
    rw [e] at h'
    show wpAny _ _ (Builtin.Dict.pendingKey? d key >>= _) _ _ _
    exact wpAny_bind (wpAny_pendingKey_other hs (wpAny_pure ⟨_, rfl, wpAny_truthy_bool h'⟩))
theorem dItem {d : Addr} {o : Obj} {es : Array DictEntry} {ep : Nat} {ks : List NK} {k : NK} {key v : Value} {Q : Value → Shared → Prop} (hu : A.units + 9 < cLine) (T : Tab w s.heap ks es)
    (hk : NestedIs s.heap k key) (hkd : k.depth ≤ 8) (ho : s.heap.get? d = some o) (hc : o.ExactDict) (hd : o.data = .dict es ep) (hv : under ks es k = some v) (h : ∀ t, Q v { s with toks := t }) :
    wpAny (model P w) A (getItem (.ref d) key) Q E s := by
  have hT : s.TypeIs (.ref d) "dict" := ⟨o, ho, hc.1⟩
  unfold getItem
  try with_reducible refine wpAny_holding ?_
  refine wpAny_bind (wpAny_sequenceKey hT (by decide) ?_)
  refine wpAny_bind (wpAny_callSpecial?_slot (name := Str.ofString "__getitem__") hT slot_dict_getitem (wpAny_call_entry slot_dict_getitem hT entry_dict_getitem ?_ (args_dict_getitem _ _)))
  show wpAny _ _ (dictGet d key >>= _) _ _ s
  refine wpAny_bind (dGet (by show A.units + 1 + 8 < cLine; omega) T hk hkd ho hd fun t => ?_)
  rw [hv]
  exact wpAny_pure ⟨v, rfl, wpAny_pure (h t)⟩
theorem dPut {d : Addr} {o : Obj} {es : Array DictEntry} {ep : Nat} {ks : List NK} {k : NK} {key v : Value} {Q : Unit → Shared → Prop} (hu : A.units + 9 < cLine) (T : Tab w s.heap ks es)
    (hk : NestedIs s.heap k key) (hkd : k.depth ≤ 8) (ho : s.heap.get? d = some o) (hc : o.ExactDict) (hd : o.data = .dict es ep) (hz : es.size ≤ sizeLine)
    (h : ∀ h' t o' ep', Heap.SameBut d s.heap h' → h'.get? d = some o' → o'.ExactDict → o'.data = .dict (put w ks es k key v) ep' → Q () { s with heap := h', toks := t }) :
    wpAny (model P w) A (setItem (.ref d) key v) Q E s := by
  have hT : s.TypeIs (.ref d) "dict" := ⟨o, ho, hc.1⟩
  unfold setItem
  try with_reducible refine wpAny_holding ?_
  refine wpAny_bind (wpAny_sequenceKey hT (by decide) ?_)
  refine wpAny_bind (wpAny_callSpecial?_slot (name := Str.ofString "__setitem__") hT slot_dict_setitem (wpAny_call_entry slot_dict_setitem hT entry_dict_setitem ?_ (args_dict_setitem _ _ _)))
  show wpAny _ _ (Builtin.Dict.notOrdered "__setitem__" ⟨[.ref d, key, v], []⟩ >>= _) _ _ s
  refine wpAny_bind (wpAny_notOrdered_dict hT ?_)
  show wpAny _ _ (dictSet d key v >>= _) _ _ s
  exact wpAny_bind (dSet (by show A.units + 1 + 8 < cLine; omega) T hk hkd ho hc hd hz fun h' t o' ep' a b c e => wpAny_pure ⟨.none, rfl, wpAny_pure (h h' t o' ep' a b c e)⟩)
end
end Fc
namespace Fc
open PySem L2
/-! ### tables over the layer's heap -/
inductive FlatK : NK → V → Prop
  | non : FlatK .none .non
  | num (i : Int) : FlatK (.num i) (.int i)
  | bl (b : Bool) : FlatK (.num (if b = true then 1 else 0)) (.bl b)
  | text (x : Str) : FlatK (.text x) (.str x)
/-- the value v is the key k: flat, or a tuple of flat ones -/
def Key1 (K : PySem.W.Frag) (H : Hp) (k : NK) (v : V) : Prop := FlatK k v ∨ ∃ a vs ks, v = .ref a ∧ SqT K H a vs ∧ k = .tup ks ∧ Paired FlatK ks vs
/-- .. or a tuple of such -/
def KeyV (K : PySem.W.Frag) (H : Hp) (k : NK) (v : V) : Prop := Key1 K H k v ∨ ∃ a vs ks, v = .ref a ∧ SqT K H a vs ∧ k = .tup ks ∧ Paired (Key1 K H) ks vs
abbrev Ent := NK × V × V
abbrev keys (xs : List Ent) : List NK := xs.map (·.1)
def Ents (w : World) (xs : List Ent) (es : Array DictEntry) : Prop :=
  es.size = xs.length ∧ ∀ (j : Nat) (hj : j < es.size) (x : Ent), xs[j]? = some x → es[j].hash = x.1.hash w ∧ RelV x.2.1 es[j].key ∧ RelV x.2.2 es[j].val
def MDat (w : World) (a : Addr) (xs : List Ent) (h : Heap) : Prop :=
  xs.length ≤ sizeLine ∧ (a == sysModules) = false ∧ (keys xs).Nodup ∧ ∃ o es ep, h.get? a = some o ∧ o.ExactDict ∧ o.data = .dict es ep ∧ Ents w xs es
/-- a dict whose keys are flat values and tuples of such -/
def MD (w : World) (a : Addr) (xs : List Ent) : HO := .ext (MDat w a xs)
theorem MDat.ok {P : Program} {w : World} {H : Hp} {h : Heap} {a : Addr} {xs : List Ent} (m : MDat w a xs h) : ObjOk P w H h a (MD w a xs) := by
  have ⟨_, _, _, o, _, _, e, _⟩ := m
  exact ⟨m, ⟨o, e⟩, fun h1 h2 ⟨z1, z2, z3, o1, es, ep, e1, r⟩ k => ⟨z1, z2, z3, o1, es, ep, k _ e1, r⟩⟩
/-- a table that may be read: its keys stand -/
structure TabAt (K : PySem.W.Frag) (w : World) (H : Hp) (a : Addr) (xs : List Ent) : Prop where
  md : Rd H a (MD w a xs)
  ks : ∀ x ∈ xs, KeyV K H x.1 x.2.1
def posM (xs : List Ent) (k : NK) : Option Nat := posK (keys xs) k
def valM (xs : List Ent) (k : NK) : Option V := (posM xs k).bind fun i => xs[i]?.map (·.2.2)
def putM (xs : List Ent) (k : NK) (kv v : V) : List Ent :=
  match posM xs k with
  | some i => xs.modify i fun x => (x.1, x.2.1, v)
  | none => xs ++ [(k, kv, v)]
section
variable {X : Cx} {pins : List (Addr × Obj)} {σ : St} {H : Hp} {s : Shared} {a : Addr} {xs : List Ent} {k : NK} {v : V} {u : Value}
theorem FlatK.is {h : Heap} (f : FlatK k v) (r : RelV v u) : NestedIs h k u ∧ k.depth = 0 := by
  cases f with
  | non => cases r; exact ⟨.none, rfl⟩
  | num i => obtain ⟨t, rfl⟩ := r; exact ⟨.int i t, rfl⟩
  | bl b => cases r; exact ⟨.bool rfl, rfl⟩
  | text x => obtain ⟨t, rfl⟩ := r; exact ⟨.text x t, rfl⟩
theorem flats_is {h : Heap} : ∀ {ks : List NK} {vs : List V} {us : List Value}, Paired FlatK ks vs → Vals vs us → NestedAll h ks us ∧ NestedKey.depthAll ks = 0
  | _, _, _, .nil, .nil => ⟨.nil, rfl⟩
  | _, _, _, .cons f fs, .cons r rs => by
    obtain ⟨n, d⟩ := f.is (h := h) r
    obtain ⟨ns, ds⟩ := flats_is (h := h) fs rs
    exact ⟨.cons n ns, by simp only [NestedKey.depthAll, d, ds]; rfl⟩
theorem Key1.is (I : Inv X pins σ H s) (h : Key1 X.K H k v) (r : RelV v u) : NestedIs s.heap k u ∧ k.depth ≤ 1 := by
  rcases h with f | ⟨b, vs, ks, rfl, hs, rfl, fs⟩
  · obtain ⟨n, d⟩ := f.is (h := s.heap) r
    exact ⟨n, by omega⟩
  · obtain rfl : u = Value.ref b := r
    obtain ⟨its, rv, ⟨o, ho, hc, n, hd⟩, _⟩ := I.tuple hs
    obtain ⟨ns, ds⟩ := flats_is (h := s.heap) fs rv
    exact ⟨.tup ho hc hd (by simpa using ns), by simp only [NestedKey.depth, ds]; omega⟩
theorem key1s_is (I : Inv X pins σ H s) : ∀ {ks : List NK} {vs : List V} {us : List Value}, Paired (Key1 X.K H) ks vs → Vals vs us → NestedAll s.heap ks us ∧ NestedKey.depthAll ks ≤ 1
  | _, _, _, .nil, .nil => ⟨.nil, Nat.zero_le _⟩
  | _, _, _, .cons f fs, .cons r rs => by
    obtain ⟨n, d⟩ := f.is I r
    obtain ⟨ns, ds⟩ := key1s_is I fs rs
    exact ⟨.cons n ns, by simp only [NestedKey.depthAll]; omega⟩
theorem KeyV.is (I : Inv X pins σ H s) (h : KeyV X.K H k v) (r : RelV v u) : NestedIs s.heap k u ∧ k.depth ≤ 8 := by
  rcases h with f | ⟨b, vs, ks, rfl, hs, rfl, fs⟩
  · obtain ⟨n, d⟩ := f.is I r
    exact ⟨n, by omega⟩
  · obtain rfl : u = Value.ref b := r
    obtain ⟨its, rv, ⟨o, ho, hc, n, hd⟩, _⟩ := I.tuple hs
    obtain ⟨ns, ds⟩ := key1s_is I fs rv
    exact ⟨.tup ho hc hd (by simpa using ns), by simp only [NestedKey.depth]; omega⟩
theorem TabAt.get (I : Inv X pins σ H s) (t : TabAt X.K X.w H a xs) : xs.length ≤ sizeLine ∧ (a == sysModules) = false ∧
    ∃ o es ep, s.heap.get? a = some o ∧ o.ExactDict ∧ o.data = .dict es ep ∧ Ents X.w xs es ∧ Tab X.w s.heap (keys xs) es := by
  have ok : ObjOk X.prog X.w H s.heap a (MD X.w a xs) := t.md.ok I.hok
  obtain ⟨⟨z, sm, nd, o, es, ep, ho, hc, hd, ee⟩, _⟩ := ok
  refine ⟨z, sm, o, es, ep, ho, hc, hd, ee, ⟨by rw [ee.1, List.length_map], fun j hj => ?_, nd⟩⟩
  have hx : j < xs.length := by rw [← ee.1]; exact hj
  obtain ⟨e1, e2, _⟩ := ee.2 j hj xs[j] (List.getElem?_eq_getElem hx)
  obtain ⟨n, d⟩ := (t.ks xs[j] (List.getElem_mem hx)).is I e2
  exact ⟨xs[j].1, by rw [List.getElem?_map, List.getElem?_eq_getElem hx]; rfl, e1, n, d⟩
theorem Ents.val {w : World} {es : Array DictEntry} (ee : Ents w xs es) (k : NK) : RelO (valM xs k) (under (keys xs) es k) := by
  unfold valM under posM
  cases e : posK (keys xs) k with
  | none => trivial
  | some i =>
    show RelO (xs[i]?.map (·.2.2)) (es[i]?.map (·.val))
    by_cases hi : i < es.size
    · have hx : i < xs.length := by rw [← ee.1]; exact hi
      rw [Array.getElem?_eq_getElem hi, List.getElem?_eq_getElem hx]
      exact (ee.2 i hi xs[i] (List.getElem?_eq_getElem hx)).2.2
    · have hx : ¬ i < xs.length := by rw [← ee.1]; exact hi
      rw [Array.getElem?_eq_none (by omega), List.getElem?_eq_none (by omega)]
      trivial
theorem keys_putM (xs : List Ent) (k : NK) (kv v : V) : keys (putM xs k kv v) = match posM xs k with | some _ => keys xs | none => keys xs ++ [k] := by
  unfold putM
  cases e : posM xs k with
  | some i =>
    show (xs.modify i _).map (·.1) = xs.map (·.1)
    apply List.ext_getElem?
    intro j
    rw [List.getElem?_map, List.getElem?_modify, List.getElem?_map]
    cases xs[j]? with
    | none => rfl
    | some x => by_cases q : i = j <;> simp [q]
  | none => show (xs ++ [(k, kv, v)]).map (·.1) = _; rw [List.map_append]; rfl
theorem posK_isSome {ks : List NK} {k : NK} : (posK ks k).isSome = true ↔ k ∈ ks := by
  constructor
  · intro h
    obtain ⟨i, e⟩ := Option.isSome_iff_exists.mp h
    unfold posK at e
    obtain ⟨hi, q, _⟩ := List.findIdx?_eq_some_iff_getElem.mp e
    have q2 : ks[i] = k := of_decide_eq_true q
    rw [← q2]
    exact List.getElem_mem hi
  · intro h
    cases e : posK ks k with
    | some i => rfl
    | none =>
      unfold posK at e
      have q := List.findIdx?_eq_none_iff.mp e k h
      simp at q
theorem nd_putM (xs : List Ent) (k : NK) (kv v : V) (nd : (keys xs).Nodup) : (keys (putM xs k kv v)).Nodup := by
  rw [keys_putM]
  cases e : posM xs k with
  | some i => exact nd
  | none =>
    refine List.nodup_append.mpr ⟨nd, by simp, fun x hx y hy => ?_⟩
    rw [List.mem_singleton] at hy
    rintro rfl
    have q := posK_isSome.mpr (hy ▸ hx)
    unfold posM at e
    rw [e] at q
    cases q
theorem len_putM (xs : List Ent) (k : NK) (kv v : V) : (putM xs k kv v).length ≤ xs.length + 1 := by
  unfold putM
  cases posM xs k with
  | some i => show (xs.modify i _).length ≤ _; rw [List.length_modify]; omega
  | none => show (xs ++ [_]).length ≤ _; rw [List.length_append]; exact Nat.le_refl _
theorem Ents.put {w : World} {es : Array DictEntry} (ee : Ents w xs es) (k : NK) {kv v : V} {key r : Value} (rk : RelV kv key) (rv : RelV v r) : Ents w (putM xs k kv v) (Fc.put w (keys xs) es k key r) := by
  unfold putM Fc.put posM
  cases e : posK (keys xs) k with
  | none =>
    refine ⟨by show (es.push _).size = (xs ++ [_]).length; rw [Array.size_push, ee.1, List.length_append]; rfl, fun j hj x hx => ?_⟩
    have hj' : j < es.size + 1 := by simpa using hj
    show (es.push _)[j].hash = _ ∧ RelV _ (es.push _)[j].key ∧ RelV _ (es.push _)[j].val
    rcases Nat.lt_or_ge j es.size with q | q
    · rw [Array.getElem_push_lt q]
      refine ee.2 j q x ?_
      rw [List.getElem?_append_left (by rw [← ee.1]; exact q)] at hx
      exact hx
    · have ej : j = es.size := by omega
      subst ej
      rw [List.getElem?_append_right (by rw [ee.1]; exact Nat.le_refl _), ee.1, Nat.sub_self] at hx
      cases hx
      rw [Array.getElem_push_eq]
      exact ⟨rfl, rk, rv⟩
  | some i =>
    refine ⟨by show (es.modify i _).size = (xs.modify i _).length; rw [Array.size_modify, List.length_modify]; exact ee.1, fun j hj x hx => ?_⟩
    have hj' : j < es.size := by simpa using hj
    have hxj : j < xs.length := by rw [← ee.1]; exact hj'
    obtain ⟨p1, p2, p3⟩ := ee.2 j hj' xs[j] (List.getElem?_eq_getElem hxj)
    have hx' : (xs.modify i fun x => (x.1, x.2.1, v))[j]? = some x := hx
    rw [List.getElem?_modify, List.getElem?_eq_getElem hxj] at hx'
    replace hx' : (if i = j then (xs[j].1, xs[j].2.1, v) else xs[j]) = x := Option.some.inj hx'
    show (es.modify i _)[j].hash = _ ∧ RelV _ (es.modify i _)[j].key ∧ RelV _ (es.modify i _)[j].val
    rw [Array.getElem_modify]
    by_cases q : i = j
    · rw [if_pos q] at hx' ⊢
      cases hx'
      exact ⟨p1, p2, rv⟩
    · rw [if_neg q] at hx' ⊢
      cases hx'
      exact ⟨p1, p2, p3⟩
end
end Fc
namespace Fc
open PySem L2
/-- tuples stand as they stood -/
def Tups (K : PySem.W.Frag) (H H' : Hp) : Prop := ∀ b ys, SqT K H b ys → SqT K H' b ys
theorem Tups.of {K : PySem.W.Frag} {H H' : Hp} (t : ∀ b ys, Rd H b (.tup ys) → Rd H' b (.tup ys)) : Tups K H H' := fun b ys h => h.elim (fun r => .inl (t b ys r)) .inr
theorem Tups.same {K : PySem.W.Frag} {H H' : Hp} (e : Same H H') : Tups K H H' := .of fun b ys r => r.elim (fun z => .inl (e _ _ z)) fun ⟨o, z⟩ => .inr ⟨o, e _ _ z⟩
theorem Tups.upd {K : PySem.W.Frag} {H : Hp} {a : Addr} {o : HO} (h : ∀ u, H a = some u → Mut (some u)) : Tups K H (upd H a o) := .of fun b ys r => by
  have ne : ∀ u, H b = some u → ¬ Mut (some u) → b ≠ a := fun u e n z => n (h u (z ▸ e))
  rcases r with r | ⟨ob, r⟩
  · exact .inl (by rw [upd_ne (ne _ r fun z => z)]; exact r)
  · exact .inr ⟨ob, by rw [upd_ne (ne _ r fun z => z)]; exact r⟩
theorem Tups.trans {K : PySem.W.Frag} {H H1 H2 : Hp} (a : Tups K H H1) (b : Tups K H1 H2) : Tups K H H2 := fun c ys h => b c ys (a c ys h)
theorem Key1.mono {K : PySem.W.Frag} {H H' : Hp} {k : NK} {v : V} (t : Tups K H H') (h : Key1 K H k v) : Key1 K H' k v := by
  rcases h with f | ⟨b, vs, ks, e, hs, ek, fs⟩
  · exact .inl f
  · exact .inr ⟨b, vs, ks, e, t _ _ hs, ek, fs⟩
theorem KeyV.mono {K : PySem.W.Frag} {H H' : Hp} {k : NK} {v : V} (t : Tups K H H') (h : KeyV K H k v) : KeyV K H' k v := by
  rcases h with f | ⟨b, vs, ks, e, hs, ek, fs⟩
  · exact .inl (f.mono t)
  · refine .inr ⟨b, vs, ks, e, t _ _ hs, ek, ?_⟩
    clear hs e ek
    induction fs with
    | nil => exact .nil
    | cons h _ ih => exact .cons (h.mono t) ih
theorem TabAt.mono {K : PySem.W.Frag} {w : World} {H H' : Hp} {a : Addr} {xs : List Ent} (t : Tups K H H') (r : Rd H' a (MD w a xs)) (h : TabAt K w H a xs) : TabAt K w H' a xs := ⟨r, fun x hx => (h.ks x hx).mono t⟩
section
variable {X : Cx}
def rInM (K : PySem.W.Frag) (w : World) (g : Bool → Bool) : R2 := fun x y H Q => ∃ a xs k, y = .ref a ∧ TabAt K w H a xs ∧ KeyV K H k x ∧ Q (.bl (g (valM xs k).isSome)) H
theorem op_inM (hu : X.A.units + 9 < cLine) : OpR X (compareOp .In) (rInM X.K X.w id) := by
  intro pins s σ H x y v u Q I rx ry ⟨a, xs, k, e, t, hk, q⟩
  subst e
  obtain rfl : u = Value.ref a := ry
  obtain ⟨_, sm, o, es, ep, ho, hc, hd, ee, T⟩ := t.get I
  obtain ⟨n, d⟩ := hk.is I rx
  show wpAny _ _ (do return Value.bool (← contains (.ref a) v)) _ _ s
  have eb := (ee.val k).isSome_eq
  exact wpAny_bind (dHas hu T n d ho hc hd sm fun tk => wpAny_pure ⟨.bl (valM xs k).isSome, H, I.tok tk, by rw [eb]; rfl, q⟩)
theorem op_notInM (hu : X.A.units + 9 < cLine) : OpR X (compareOp .NotIn) (rInM X.K X.w not) := by
  intro pins s σ H x y v u Q I rx ry ⟨a, xs, k, e, t, hk, q⟩
  subst e
  obtain rfl : u = Value.ref a := ry
  obtain ⟨_, sm, o, es, ep, ho, hc, hd, ee, T⟩ := t.get I
  obtain ⟨n, d⟩ := hk.is I rx
  show wpAny _ _ (do return Value.bool (!(← contains (.ref a) v))) _ _ s
  have eb := (ee.val k).isSome_eq
  exact wpAny_bind (dHas hu T n d ho hc hd sm fun tk => wpAny_pure ⟨.bl (!(valM xs k).isSome), H, I.tok tk, by rw [eb]; rfl, q⟩)
def rIxM (K : PySem.W.Frag) (w : World) : R2 := fun x y H Q => ∃ a xs k v, x = .ref a ∧ TabAt K w H a xs ∧ KeyV K H k y ∧ valM xs k = some v ∧ Q v H
theorem ix_md (hu : X.A.units + 9 < cLine) : IxR X (rIxM X.K X.w) := by
  intro value slice pins s σ H x y v u Q I rx ry ⟨a, xs, k, z, e, t, hk, hv, q⟩ hs
  subst e
  obtain rfl : v = Value.ref a := rx
  obtain ⟨_, sm, o, es, ep, ho, hc, hd, ee, T⟩ := t.get I
  obtain ⟨n, d⟩ := hk.is I ry
  have r := ee.val k
  rw [hv] at r
  obtain ⟨r', hr, rr⟩ := r.some_of
  exact PyProof.Rows.subscriptTail_builtinR (x := r') ⟨o, ho, hc.1⟩ slot_dict_getitem.lookup (dItem hu T n d ho hc hd hr fun tk => ⟨rfl, z, H, I.tok tk, rr, q⟩) hs
def rSetM (K : PySem.W.Frag) (w : World) : TSet := fun o i v H Q => ∃ a xs k, o = .ref a ∧ H a = some (MD w a xs) ∧ (∀ x ∈ xs, KeyV K H x.1 x.2.1) ∧ KeyV K H k i ∧ xs.length < sizeLine ∧ Q (upd H a (MD w a (putM xs k i v)))
theorem md_write {pins : List (Addr × Obj)} {σ : St} {H : Hp} {s : Shared} {a : Addr} {xs ys : List Ent} {h' : Heap} {t : Nat} (I : Inv X pins σ H s) (hH : H a = some (MD X.w a xs)) (sb : Heap.SameBut a s.heap h') (m : MDat X.w a ys h') :
    Inv X pins σ (upd H a (MD X.w a ys)) { s with heap := h', toks := t } := by
  have ⟨_, _, _, o, _, _, e, _⟩ := m
  exact d_write I (by rw [hH]; exact True.intro) sb ⟨o, e⟩ m.ok
theorem md_put {pins : List (Addr × Obj)} {σ : St} {H : Hp} {s : Shared} {a : Addr} {xs : List Ent} {k : NK} {kv v : V} {key r : Value} {h' : Heap} {o' : Obj} {ep' : Nat} {es : Array DictEntry} (hH : H a = some (MD X.w a xs)) (I : Inv X pins σ H s)
    (hl : xs.length < sizeLine) (ee : Ents X.w xs es) (rk : RelV kv key) (rv : RelV v r) (sb : Heap.SameBut a s.heap h') (e1 : h'.get? a = some o') (e2 : o'.ExactDict) (e3 : o'.data = .dict (put X.w (keys xs) es k key r) ep') (t : Nat) :
    Inv X pins σ (upd H a (MD X.w a (putM xs k kv v))) { s with heap := h', toks := t } := by
  obtain ⟨_, sm, nd, _⟩ := (I.hok a _ hH).1
  exact md_write I hH sb ⟨Nat.le_trans (len_putM xs k kv v) hl, sm, nd_putM xs k kv v nd, o', _, ep', e1, e2, e3, ee.put k rk rv⟩
theorem set_md (hu : X.A.units + 9 < cLine) : PSet X (rSetM X.K X.w) := by
  intro pins s σ H o i v ov iv u Q I ro ri rv ⟨a, xs, k, e, hH, hks, hk, hl, q⟩
  subst e
  obtain rfl : ov = Value.ref a := ro
  have t : TabAt X.K X.w H a xs := ⟨.inl hH, hks⟩
  obtain ⟨z, sm, o, es, ep, ho, hc, hd, ee, T⟩ := t.get I
  obtain ⟨n, d⟩ := hk.is I ri
  exact dPut hu T n d ho hc hd (by rw [ee.1]; exact z) fun h' tk o' ep' sb e1 e2 e3 => ⟨_, md_put hH I hl ee ri rv sb e1 e2 e3 tk, q⟩
/-- len(d) -/
theorem call_lenM : CallR X (.builtin "len") (fun xs H Q => ∃ a es, xs = [.ref a] ∧ TabAt X.K X.w H a es ∧ Q (.int es.length) H) := by
  intro pins s σ H xs us Q I r ⟨a, ys, e, t, q⟩
  subst e
  obtain ⟨u, rfl, rx⟩ := vals1 r
  obtain rfl : u = Value.ref a := rx
  obtain ⟨z, sm, o, es, ep, ho, hc, hd, ee, T⟩ := t.get I
  rw [sizeLine_eq] at z
  refine PyProof.Rows.call_len_slot (n := es.size) ⟨o, ho, hc.1⟩ F.slot_dict_len (fun Q' hq => call_len_raw sm ⟨o, ho, hc, hd⟩ hq) (by omega) (by rw [ee.1]; omega) ?_
  exact ⟨.int ys.length, H, I.tok _, ⟨_, by rw [ee.1]⟩, q⟩
/-- list(d) -/
theorem call_listM (hcalm : X.calm = true) : CallR X (.type "list") (fun xs H Q => ∃ a es, xs = [.ref a] ∧ TabAt X.K X.w H a es ∧ ∀ p, H p = none → Q (.ref p) (upd H p (.lst (es.map (·.2.1))))) := by
  intro pins s σ H xs us Q I r ⟨a, ys, e, t, q⟩
  subst e
  obtain ⟨u, rfl, rx⟩ := vals1 r
  obtain rfl : u = Value.ref a := rx
  obtain ⟨z, sm, o, es, ep, ho, hc, hd, ee, T⟩ := t.get I
  refine PySem.W.kdl_call (kdl_raw sm hc hd) (I.ok.hd hcalm) ho (by rw [ee.1]; exact z) fun h' tk acc' c' kp e it => ?_
  have hl : acc'.toList.length = ys.length := by rw [Array.length_toList, it.1]; exact ee.1
  have rv : Vals (ys.map (·.2.1)) acc'.toList := by
    have gen : ∀ (l1 : List Ent) (l2 : List Value), l1.length = l2.length → (∀ (j : Nat) (x : Ent), l1[j]? = some x → ∀ v : Value, l2[j]? = some v → RelV x.2.1 v) → Vals (l1.map (·.2.1)) l2 := by
      intro l1
      induction l1 with
      | nil => intro l2 hl _; cases l2 with
        | nil => exact .nil
        | cons _ _ => cases hl
      | cons x l1 ih => intro l2 hl h; cases l2 with
        | nil => cases hl
        | cons v l2 => exact .cons (h 0 x rfl v rfl) (ih l2 (by simpa using hl) fun j y hy v hv => h (j + 1) y (by simpa using hy) v (by simpa using hv))
    refine gen ys acc'.toList hl.symm fun j x hx v hv => ?_
    obtain ⟨en, hen, ev⟩ := it.2 j v (by rw [← Array.getElem?_toList]; exact hv)
    obtain ⟨hj, e2⟩ := Array.getElem?_eq_some_iff.mp hen
    have q2 := (ee.2 j hj x hx).2.1
    rw [ev, ← e2]
    exact q2
  refine ⟨.ref s.heap.objs.size, _, I.laid (t' := tk) (o := .lst (ys.map (·.2.1))) kp (Nat.le_refl _) ⟨by rw [List.length_map]; exact z, acc'.toList, c', rv, by rw [Array.toArray_toList]; exact e⟩, rfl, q _ (I.hok.fresh (Nat.le_refl _))⟩
/-- isinstance(d, T) -/
theorem call_isiM : CallR X (.builtin "isinstance") (fun xs H Q => ∃ a es c u b, xs = [.ref a, c] ∧ ClsV c u ∧ TabAt X.K X.w H a es ∧ PySem.W.kitOne X.K (.type "dict") u = some b ∧ Q (.bl b) H) := by
  intro pins s σ H xs us Q I r ⟨a, es, c, u, b, e, k, t, kt, q⟩
  subst e
  obtain ⟨u1, u2, rfl, r1, r2⟩ := vals2 r
  have e2 := k.eq r2
  subst e2
  obtain rfl : u1 = Value.ref a := r1
  obtain ⟨_, _, o, _, _, ho, hc, _⟩ := t.get I
  exact PySem.W.kia_one PySem.W.kitx_dict I.kIn (⟨o, ho, hc.1⟩) kt (fun z => nomatch z) fun tk => ⟨.bl b, H, I.tok tk, rfl, q⟩
end
end Fc
namespace Fc
open PySem L2
/-- the keys of a locked table, one by one -/
def ItM (w : World) (d : Addr) (o : Obj) (xs : List Ent) : It :=
  ⟨fun n H => H d = some (.frz o (MD w d xs)) ∧ n < xs.length, fun n H x H' => H' = H ∧ ∃ e, xs[n]? = some e ∧ x = e.2.1, fun n H => H d = some (.frz o (MD w d xs)) ∧ xs.length ≤ n⟩
theorem frzM {X : Cx} {pins : List (Addr × Obj)} {σ : St} {H : Hp} {s : Shared} {d : Addr} {o : Obj} {xs : List Ent} (I : Inv X pins σ H s) (h : H d = some (.frz o (MD X.w d xs))) :
    (d == sysModules) = false ∧ s.heap.get? d = some o ∧ o.ExactDict ∧ ∃ es ep, o.data = .dict es ep ∧ Ents X.w xs es := by
  obtain ⟨hg, ⟨⟨_, sm, _, o', es, ep, e, c, dt, ee⟩, _⟩⟩ := I.hok d _ h
  rw [hg] at e
  cases e
  exact ⟨sm, hg, c, es, ep, dt, ee⟩
theorem turnM {P : Program} {w : World} {K : PySem.W.Frag} {tg : Expr} {d : Addr} {o : Obj} {es : Array DictEntry} {ep : Nat} {xs : List Ent} (it : Addr) (hod : o.data = .dict es ep) :
    Turn P w K tg (ItM w d o xs) [it] it (fun n h => h.IsKeyIter it d n xs.length ep) := by
  refine ⟨List.mem_singleton.mpr rfl, fun n h st b hb => ?_, fun n h h' st k => st.at fun ob e => k it (List.mem_singleton.mpr rfl) ob e, ?_, ?_, fun A n s Q E st h => ?_⟩
  · rw [List.mem_singleton] at hb
    subst hb
    obtain ⟨ob, e, _, dt⟩ := st
    exact ⟨ob, e, fun v z => by rw [dt] at z; cases z⟩
  · intro X e1 e2 e3 hc n pins s σ H E I hf st hg
    subst e1 e2 e3
    obtain ⟨hd, hn⟩ := hg
    have F := hf it (List.mem_singleton.mpr rfl)
    obtain ⟨_, g, _, es', ep', dt, ee⟩ := frzM I hd
    obtain ⟨q1, q2⟩ := dict_ep hod dt
    subst q1 q2
    have hx : n < es'.size := by rw [ee.1]; exact hn
    refine next_key_item st g hod ee.1 (Array.getElem?_eq_getElem hx) fun h' st' sb => ⟨es'[n].key, rfl, ?_⟩
    have I1 : Inv X pins σ H { s with heap := h' } := I.turned (t' := s.toks) (fun b ob ne e => (sb.2 b ne).trans e) F.1 F.2.1 F.2.2.2.1 F.2.2.2.2.1 F.2.2.2.2.2
    have ⟨ob, e, c, dt'⟩ := st'
    exact go_of (s := { s with heap := h' }) e c dt' (by decide) ⟨xs[n].2.1, H, I1, (ee.2 n hx xs[n] (List.getElem?_eq_getElem hn)).2.1, ⟨rfl, xs[n], List.getElem?_eq_getElem hn, rfl⟩, st', fun b hb => (hf b hb).1⟩
  · intro X e1 e2 e3 hc n pins s σ H E I hf st hg
    subst e1 e2 e3
    obtain ⟨hd, hn⟩ := hg
    have F := hf it (List.mem_singleton.mpr rfl)
    obtain ⟨_, g, _, es', ep', dt, ee⟩ := frzM I hd
    obtain ⟨q1, q2⟩ := dict_ep hod dt
    subst q1 q2
    exact next_key_end (I.ok.hd hc) st g hod ee.1 hn fun h' eb => ⟨rfl, I.turned (t' := s.toks) (fun b ob ne e => eb b ob ne e) F.1 F.2.1 F.2.2.2.1 F.2.2.2.2.1 F.2.2.2.2.2⟩
  · exact wpAny_pyIter_keyiter st h
/-- for k in d, d a locked table -/
def iKeyM (w : World) (td : TE) : TI := fun σ H R => td σ H fun x H1 => ∃ d o xs, x = .ref d ∧ H1 d = some (.frz o (MD w d xs)) ∧ R (ItM w d o xs) H1
theorem pi_keyM {X : Cx} {tg e : Expr} {td : TE} (he : PE X e td) : PI X tg e (iKeyM X.w td) := by
  refine ⟨fun pins s σ H R I h => thn (he.run pins s σ H _ I h) fun u s1 ⟨x, H1, I1, rx, d, o, xs, ex, hd, q⟩ => ?_⟩
  subst ex
  obtain rfl : u = Value.ref d := rx
  obtain ⟨sm, g, c, es, ep, dt, ee⟩ := frzM I1 hd
  refine iter_keys sm g c dt (pi_one (tk := s1.toks) I1 _ (turnM _ dt) ⟨_, Heap.get?_push_size _ rfl, rfl, ?_⟩ q)
  rw [ee.1]
  rfl
/-! ### {k: v for ..}, keys of all kinds -/
def tDcM (K : PySem.W.Frag) (w : World) (wi : TI) (g : TG) (tk tv : TE) (vs : List Nat) : TE := fun σ H Q => wi σ H fun J H1 => ∀ D, H1 D = none → ∃ W : Nat → Nat → Hp → Prop, (∃ m, W 0 m (upd H1 D (MD w D []))) ∧ ∀ i m H, W i m H →
  (J.stop i H ∧ Q (.ref D) H) ∨ (J.go i H ∧ ∃ Nx : Hp → Prop, (∀ H', Nx H' → ∃ m', m' < m ∧ W (i + 1) m' H') ∧ ∀ x H', J.yld i H x H' → g x (wipe σ vs) H' fun σ2 H2 => wipe σ2 vs = wipe σ vs ∧
    tk σ2 H2 fun y H4 => tv σ2 H4 fun z H5 => ∃ xs k, H5 D = some (MD w D xs) ∧ (∀ x ∈ xs, KeyV K H5 x.1 x.2.1) ∧ KeyV K H5 k y ∧ xs.length < sizeLine ∧ Nx (upd H5 D (MD w D (putM xs k y z))))
theorem md_empty {P : Program} {w : World} {H : Hp} (h : Heap) (hb : sysModules < h.objs.size) : ObjOk P w H (h.push { cls := .type "dict", data := .dict #[] }) h.objs.size (MD w h.objs.size []) :=
  MDat.ok ⟨Nat.zero_le _, beq_eq_false_iff_ne.mpr (Nat.ne_of_gt hb), List.nodup_nil, _, #[], 0, Heap.get?_push_size _ rfl, ⟨rfl, rfl, rfl⟩, rfl, rfl, fun j hj => absurd hj (Nat.not_lt_zero j)⟩
theorem dcM_core {X : Cx} {pins : List (Addr × Obj)} {s : Shared} {σ : St} {H : Hp} {Q : VK} {kx vx tg iter : Expr} {scope : Scope} {own : List (Str × Nat)} {pos pos' : Pos} {wi : TI} {g : TG} {tk tv : TE} {use : Option (Value → Sem Unit)} {Qf : Value → Shared → Prop} (hu : X.A.units + 9 < cLine) (hc : X.calm = true) (hN : X.N.Nodup) (I : Inv X pins σ H s) (hi : PI X tg iter wi) (ok : BlkOk X.N X.env.scope scope own)
    (hg : ∀ (s : Shared) (H : Hp) (C : Addr) (cl : List (Str × Addr)) (fp : List Addr), PG (X.blk s H scope (compEnvC scope cl C X.env) fp) tg g)
    (hk : ∀ (s : Shared) (H : Hp) (C : Addr) (cl : List (Str × Addr)) (fp : List Addr), PE (X.blk s H scope (compEnvC scope cl C X.env) fp) kx tk)
    (hv : ∀ (s : Shared) (H : Hp) (C : Addr) (cl : List (Str × Addr)) (fp : List Addr), PE (X.blk s H scope (compEnvC scope cl C X.env) fp) vx tv) (hs : ∀ x, foldedSetIterable iter X.env x = pure x)
    (h : tDcM X.K X.w wi g tk tv (own.map (·.2)) σ H Q)
    (hRR : ∀ D C s' m H', Inv X pins σ H' s' → Q (.ref D) H' → s'.heap.Ns C m → FpOk X pins H' C → compPost (model X.prog X.w) X.A X.xe use Qf (.ref D) C (.ok .next) s') :
    wpAny (model X.prog X.w) X.A (comprehension (.DictComp kx vx [⟨tg, iter, [], 0⟩] scope pos) scope X.env pos' newDict false (eval iter X.env) use) Qf X.xe s := by
  have frees : ∀ y ∈ scope.names, y.2 = .free → ∃ c, X.env.cells.lookup y.1 = some c := fun y hy e => (ok.free y hy e).elim (fun k => I.ok.has _ (.inl k)) fun k => I.ok.has _ (.inr k)
  refine wpAny_comprehension_free (use := use) rfl hs (closure_ok frees) ok.kind (fun y hy e => by rw [ok.uniq y hy, e]) (thn (hi.run pins s σ H _ I h) fun xv s1 hx => thn hx fun itv s2 hh => ?_)
  obtain ⟨it, fp, tn, J, H2, e, I2, T, st2, f2, q⟩ := hh
  subst e
  refine wpAny_newObj_type (newEnv_comp ?_)
  have hDn : H2 s2.heap.objs.size = none := I2.hok.fresh (Nat.le_refl _)
  have new : Inv X pins σ (upd H2 s2.heap.objs.size (MD X.w s2.heap.objs.size [])) { s2 with heap := s2.heap.push { cls := .type "dict", data := .dict #[] } } :=
    I2.laid (t' := s2.toks) (fun b o e => Heap.get?_push_of_some _ e) (Nat.le_refl _) (md_empty s2.heap I2.big)
  obtain ⟨W, ⟨m0, w0⟩, turn⟩ := q s2.heap.objs.size hDn
  have old : ∀ b ∈ fp, b < s2.heap.objs.size := fun b hb => let ⟨o, e, _⟩ := T.obj _ _ st2 b hb; Heap.lt_size e
  have f3 : ∀ b ∈ fp, FpOk X pins (upd H2 s2.heap.objs.size (MD X.w s2.heap.objs.size [])) b ∧ b < (s2.heap.push { cls := .type "dict", data := .dict #[] }).objs.size := fun b hb =>
    ⟨⟨by rw [upd_ne (Nat.ne_of_lt (old b hb))]; exact (f2 b hb).1, (f2 b hb).2⟩, by rw [Heap.size_push]; exact Nat.lt_succ_of_lt (old b hb)⟩
  have st3 : tn 0 (s2.heap.push { cls := .type "dict", data := .dict #[] }) := T.keep _ _ _ st2 fun b _ o e => Heap.get?_push_of_some _ e
  generalize eD : s2.heap.objs.size = D at *
  generalize e3 : ({ s2 with heap := s2.heap.push { cls := .type "dict", data := .dict #[] } } : Shared) = s3 at *
  have h3 : s3.heap = s2.heap.push { cls := .type "dict", data := .dict #[] } := by rw [← e3]
  rw [← h3] at f3 st3
  have B := block_start new ok hN f3
  have pg := hg s3 (upd H2 D (MD X.w D [])) s3.heap.objs.size (cellsFrom (s3.heap.objs.size + 1) scope.names (cloFrom X.env.cells scope.names [])) fp
  have pk := hk s3 (upd H2 D (MD X.w D [])) s3.heap.objs.size (cellsFrom (s3.heap.objs.size + 1) scope.names (cloFrom X.env.cells scope.names [])) fp
  have pw := hv s3 (upd H2 D (MD X.w D [])) s3.heap.objs.size (cellsFrom (s3.heap.objs.size + 1) scope.names (cloFrom X.env.cells scope.names [])) fp
  change codeAny _ _ (.compStart (.DictComp kx vx [⟨tg, iter, [], 0⟩] scope pos) 0 (.ref it) (.ref D) (compEnvC scope (cellsFrom (s3.heap.objs.size + 1) scope.names (cloFrom X.env.cells scope.names [])) s3.heap.objs.size X.env))
    (compPost (model X.prog X.w) X.A X.xe use Qf (.ref D) s3.heap.objs.size) { s3 with heap := pushCells (s3.heap.push { cls := .type "dict", data := .dict #[] }) scope.names }
  generalize ec : compEnvC scope (cellsFrom (s3.heap.objs.size + 1) scope.names (cloFrom X.env.cells scope.names [])) s3.heap.objs.size X.env = ce at B pg pk pw ⊢
  have el : ce.locals = s3.heap.objs.size := by rw [← ec]; rfl
  generalize eH : upd H2 D (MD X.w D []) = H3 at new B pg pk pw w0 f3
  have nfp : ∀ b ∈ fp, H3 b = none := fun b hb => (f3 b hb).1.1
  generalize es4 : ({ s3 with heap := pushCells (s3.heap.push { cls := .type "dict", data := .dict #[] }) scope.names } : Shared) = s4 at B ⊢
  have st4 : tn 0 s4.heap := T.keep _ _ _ st3 fun b _ o e => by rw [← es4]; exact pushCells_keeps _ _ _ _ (Heap.get?_push_of_some _ e)
  have stat : ∀ {τ : St} {G : Hp} {r : Shared}, Inv (X.blk s3 H3 scope ce fp) [] τ G r → (∀ b ∈ fp, G b = none) → ∀ b ∈ fp, FpOk (X.blk s3 H3 scope ce fp) [] G b := fun {τ G r} J' hn b hb =>
    ⟨hn b hb, (J'.ok.exf b hb).1, J'.ok.exfs b hb, .inl hb, fun x c e => (J'.ok.exf b hb).2 x c e, fun p hp => absurd (show p ∈ ([] : List (Addr × Obj)) ++ [] from hp) (by simp)⟩
  have loop : codeAny (model X.prog X.w) X.A (.compLoop (.DictComp kx vx [⟨tg, iter, [], 0⟩] scope pos) 0 (.ref it) (.ref D) ce) (compPost (model X.prog X.w) X.A X.xe use Qf (.ref D) s3.heap.objs.size) s4 := by
    refine compLoop_anyD (fun n r => ∃ i G, Inv (X.blk s3 H3 scope ce fp) [] (wipe σ (own.map (·.2))) G r ∧ tn i r.heap ∧ (∀ b ∈ fp, G b = none) ∧ W i n G) ?_ m0 ⟨0, H3, B, st4, nfp, w0⟩
    rintro n s5 ⟨i, H5, I5, st5, n5, w5⟩
    rcases turn i n H5 w5 with ⟨halt, qq⟩ | ⟨go, Nx, hNx, step⟩
    · refine thnF (T.done (X.blk s3 H3 scope ce fp) rfl rfl rfl hc i [] s5 _ H5 (fun _ _ => False) I5 (stat I5 n5) st5 halt) fun r s6 ⟨hr, I6⟩ => ?_
      subst hr
      have I7 : Inv X pins σ H5 s6 := new.call' (ch := fp) I6.os I6.base I6.hok I6.bare fun b hb => ⟨(f3 b hb).1.2.2.2.1, (f3 b hb).1.2.1, (f3 b hb).1.2.2.2.2.1, (f3 b hb).1.2.2.2.2.2⟩
      have z : H5 ce.locals = none := I6.free
      obtain ⟨m, hn, _⟩ := I6.loc
      replace hn : s6.heap.Ns ce.locals m := hn
      rw [el] at z hn
      exact hRR D s3.heap.objs.size s6 m H5 I7 qq hn (new.fpOk (Nat.le_refl _) z)
    · refine thnF (T.item (X.blk s3 H3 scope ce fp) rfl rfl rfl hc i [] s5 _ H5 (fun _ _ => False) I5 (stat I5 n5) st5 go) fun r s6 ⟨u, hr, h6⟩ => ?_
      subst hr
      refine thnF h6 fun _ s7 got => ?_
      obtain ⟨x, H7, I7, r7, y7, st7, n7⟩ := got
      refine thnF (pg.run _ s7 _ H7 x u _ (I7.pinned (stat I7 n7) (T.obj _ _ st7)) r7 (step x H7 y7)) fun _ s8 ⟨σ8, H8, I8, hw8, q8⟩ => ?_
      refine wpAny_pure ?_
      simp only [if_true]
      refine thnF (pk.run _ s8 σ8 H8 _ I8 q8) fun kz s10 ⟨yk, H10, I10, r10, q10⟩ => ?_
      refine thnF (pw.run _ s10 σ8 H10 _ I10 q10) fun vz s11 ⟨yv, H11, I11, r11, ys, k, hD11, hks, hkey, hl, nx⟩ => ?_
      have I11' : Inv (X.blk s3 H3 scope ce fp) ([] ++ pinsAt fp s7.heap) σ8 H11 s11 := I11
      have tab : TabAt X.K X.w H11 D ys := ⟨.inl hD11, hks⟩
      obtain ⟨z1, sm, o1, es, ep, ho, hcx, hd, ee, T1⟩ := tab.get (X := X.blk s3 H3 scope ce fp) I11
      obtain ⟨nk, dk⟩ := hkey.is (X := X.blk s3 H3 scope ce fp) I11 r10
      refine dSet (by omega) T1 nk dk ho hcx hd (by rw [ee.1]; exact z1) fun h' tk' o' ep' sb e1 e2 e3' => ?_
      have I12 := md_put (X := X.blk s3 H3 scope ce fp) hD11 I11 hl ee r10 r11 sb e1 e2 e3' tk'
      obtain ⟨m', hm, w'⟩ := hNx _ nx
      have pin' : ∀ b ∈ fp, ∀ o, s7.heap.get? b = some o → h'.get? b = some o ∧ (upd H11 D (MD X.w D (putM ys k yk yv))) b = none := fun b hb o e =>
        let z := I12.pin (b, o) (List.mem_append_right _ (List.mem_append_right _ (mem_pinsAt hb e)))
        ⟨z.1, z.2.1⟩
      refine ⟨m', hm, i + 1, _, (I12.unpinned (pins := [])).weak (by rw [← hw8, wipe_length]) (fun j v e => ?_), T.keep _ _ _ st7 fun b hb o e => (pin' b hb o e).1, fun b hb => ?_, w'⟩
      · rw [← hw8] at e
        exact (wipe_some e).1
      · obtain ⟨o, e, _⟩ := T.obj _ _ st7 b hb
        exact (pin' b hb o e).2
  refine codeAny_compStart_dict loop ?_
  exact T.self X.A 0 _ _ _ st4 loop
theorem pe_dcM {X : Cx} {kx vx tg iter : Expr} {scope : Scope} {own : List (Str × Nat)} {pos : Pos} {wi : TI} {g : TG} {tk tv : TE} (hu : X.A.units + 9 < cLine) (hc : X.calm = true) (hN : X.N.Nodup) (hi : PI X tg iter wi) (ok : BlkOk X.N X.env.scope scope own)
    (hg : ∀ (s : Shared) (H : Hp) (C : Addr) (cl : List (Str × Addr)) (fp : List Addr), PG (X.blk s H scope (compEnvC scope cl C X.env) fp) tg g)
    (hk : ∀ (s : Shared) (H : Hp) (C : Addr) (cl : List (Str × Addr)) (fp : List Addr), PE (X.blk s H scope (compEnvC scope cl C X.env) fp) kx tk)
    (hv : ∀ (s : Shared) (H : Hp) (C : Addr) (cl : List (Str × Addr)) (fp : List Addr), PE (X.blk s H scope (compEnvC scope cl C X.env) fp) vx tv) (hs : ∀ x, foldedSetIterable iter X.env x = pure x := by intro _; rfl) :
    PE X (.DictComp kx vx [⟨tg, iter, [], 0⟩] scope pos) (tDcM X.K X.w wi g tk tv (own.map (·.2))) := by
  refine ⟨fun pins s σ H Q I h => ?_⟩
  rw [arm_eval_DictComp]
  refine dcM_core hu hc hN I hi ok hg hk hv hs h fun D C s' m H' I' q hn f => ⟨m, hn, fun h2 sb => ?_⟩
  obtain ⟨a0, a1, a2, a3, a4, a5⟩ := f
  exact ⟨.ref D, H', I'.turned (t' := s'.toks) (fun b o hb e => (sb.2 b hb).trans e) a0 a1 a3 a4 a5, rfl, q⟩
/-- name = {..} on one line, the name a local -/
theorem ps_setDcM {X : Cx} {i : Nat} {y : Str} {py : Pos} {kx vx tg iter : Expr} {scope : Scope} {own : List (Str × Nat)} {pos spos : Pos} {wi : TI} {g : TG} {tk tv : TE} (hu : X.A.units + 9 < cLine) (hc : X.calm = true) (hN : X.N.Nodup) (hy : X.N[i]? = some y) (hyl : X.env.scope.names.lookup y = some .local)
    (hsw : swapsWith (.DictComp kx vx [⟨tg, iter, [], 0⟩] scope pos) (some (.Name y py)) spos.line X.env = pure true) (hi : PI X tg iter wi) (ok : BlkOk X.N X.env.scope scope own)
    (hg : ∀ (s : Shared) (H : Hp) (C : Addr) (cl : List (Str × Addr)) (fp : List Addr), PG (X.blk s H scope (compEnvC scope cl C X.env) fp) tg g)
    (hk : ∀ (s : Shared) (H : Hp) (C : Addr) (cl : List (Str × Addr)) (fp : List Addr), PE (X.blk s H scope (compEnvC scope cl C X.env) fp) kx tk)
    (hv : ∀ (s : Shared) (H : Hp) (C : Addr) (cl : List (Str × Addr)) (fp : List Addr), PE (X.blk s H scope (compEnvC scope cl C X.env) fp) vx tv) (hs : ∀ x, foldedSetIterable iter X.env x = pure x := by intro _; rfl) :
    PS X (.Assign [.Name y py] (.DictComp kx vx [⟨tg, iter, [], 0⟩] scope pos) spos) (tAsg (tDcM X.K X.w wi g tk tv (own.map (·.2))) (gName i)) := by
  refine ⟨fun pins s σ H D I h => ?_⟩
  rw [exec_Assign_Name_used _ _ _ _ hsw]
  refine wpAny_bind (wpAny_standAt ?_)
  refine wpAny_bind ?_
  change wpAny _ X.A (do let _ ← comprehension (.DictComp kx vx [⟨tg, iter, [], 0⟩] scope pos) scope X.env (firstIterPos [⟨tg, iter, [], 0⟩] pos) newDict false (eval iter X.env) (some (assign (.Name y py) X.env))) _ _ s
  have h : tDcM X.K X.w wi g tk tv (own.map (·.2)) σ H (fun x H1 => gName i x σ H1 D.nx) := h
  refine wpAny_bind (thn (dcM_core (Qf := fun _ s' => SP X pins D .next s') hu hc hN I hi ok hg hk hv hs h fun L C s' m H' I' q hn f => ?_) fun _ s' hq => wpAny_pure (wpAny_pure hq))
  change wpAny _ _ (assign (.Name y py) X.env (.ref L)) _ _ _
  obtain ⟨c0, c1, c2, c3, c4, c5⟩ := f
  refine wpAny_assign_Name (store_ok2 I' hN hy (v := .ref L) (.inl hyl) rfl (fun s2 J ⟨at_, same, whose⟩ => ?_) (.inr hyl))
  have apart : C ≠ at_ := whose.elim (fun z => z ▸ c1) fun z e => c4 y at_ z e.symm
  exact ⟨m, hn.sameBut same apart, fun h3 sb => ⟨_, H', J.turned (t' := s2.toks) (fun b o nb g => (sb.2 b nb).trans g) c0 c1 c3 c4 c5, q⟩⟩
theorem sw_trueD {kx vx : Expr} {gs : List Comprehension} {scope : Scope} {pos py : Pos} {y : Str} {l : Nat} {env : Env} (hk : env.scope.kind = .function) (hy : env.scope.names.lookup y = some .local) (hl : (py.line == pos.line) = true)
    (ha : (scope.names.any fun (n, k) => n == y && (k == .local || k == .cell)) = false) : swapsWith (.DictComp kx vx gs scope pos) (some (.Name y py)) l env = pure true := by
  have block : env.blockKind = .function := by simp only [Env.blockKind, hk]; rfl
  have kind : env.kindOf y = some .local := hy
  simp only [swapsWith, block, kind, ha, Expr.pos, hl]
  rfl
end Fc
namespace Fc
open PySem L2 PyProof.Rows
theorem mem_putM {xs : List Ent} {k : NK} {kv v : V} {x : Ent} (h : x ∈ putM xs k kv v) : (x.1 = k ∧ x.2.1 = kv) ∨ ∃ y ∈ xs, x.1 = y.1 ∧ x.2.1 = y.2.1 := by
  unfold putM at h
  cases e : posM xs k with
  | none =>
    rw [e] at h
    rcases List.mem_append.mp h with h | h
    · exact .inr ⟨x, h, rfl, rfl⟩
    · rw [List.mem_singleton] at h
      subst h
      exact .inl ⟨rfl, rfl⟩
  | some i =>
    rw [e] at h
    obtain ⟨j, hj⟩ := List.mem_iff_getElem?.mp (show x ∈ xs.modify i _ from h)
    rw [List.getElem?_modify] at hj
    cases q : xs[j]? with
    | none => rw [q] at hj; cases hj
    | some y =>
      rw [q] at hj
      replace hj : (if i = j then (y.1, y.2.1, v) else y) = x := Option.some.inj hj
      refine .inr ⟨y, List.mem_of_getElem? q, ?_⟩
      by_cases w : i = j
      · rw [if_pos w] at hj; subst hj; exact ⟨rfl, rfl⟩
      · rw [if_neg w] at hj; subst hj; exact ⟨rfl, rfl⟩
theorem keysV_putM {K : PySem.W.Frag} {H : Hp} {xs : List Ent} {k : NK} {kv v : V} (h : ∀ x ∈ xs, KeyV K H x.1 x.2.1) (hk : KeyV K H k kv) : ∀ x ∈ putM xs k kv v, KeyV K H x.1 x.2.1 := by
  intro x hx
  rcases mem_putM hx with ⟨a, b⟩ | ⟨y, hy, a, b⟩
  · rw [a, b]; exact hk
  · rw [a, b]; exact h y hy
def mergeM (acc more : List Ent) : List Ent := more.foldl (fun a x => putM a x.1 x.2.1 x.2.2) acc
theorem keysV_mergeM {K : PySem.W.Frag} {H : Hp} : ∀ {more xs : List Ent}, (∀ x ∈ xs, KeyV K H x.1 x.2.1) → (∀ x ∈ more, KeyV K H x.1 x.2.1) → ∀ x ∈ mergeM xs more, KeyV K H x.1 x.2.1
  | [], _, h, _ => h
  | y :: more, _, h, h2 => keysV_mergeM (more := more) (keysV_putM h (h2 y List.mem_cons_self)) fun x hx => h2 x (List.mem_cons_of_mem _ hx)
/-- the keys, in the heap -/
def KeysH (h : Heap) (xs : List Ent) : Prop := ∀ x ∈ xs, ∀ u, RelV x.2.1 u → NestedIs h x.1 u ∧ x.1.depth ≤ 8
theorem KeysH.at {h h' : Heap} {xs : List Ent} (k : KeysH h xs) (t : ∀ a o vs n, h.get? a = some o → o.data = .seq vs n → h'.get? a = some o) : KeysH h' xs := fun x hx u r => ⟨NestedIs.at t _ _ (k x hx u r).1, (k x hx u r).2⟩
theorem KeysH.put {h : Heap} {xs : List Ent} {k : NK} {kv v : V} (q : KeysH h xs) (hk : ∀ u, RelV kv u → NestedIs h k u ∧ k.depth ≤ 8) : KeysH h (putM xs k kv v) := by
  intro x hx u r
  rcases mem_putM hx with ⟨a, b⟩ | ⟨y, hy, a, b⟩
  · rw [a]; rw [b] at r; exact hk u r
  · rw [a]; rw [b] at r; exact q y hy u r
theorem Ents.tab {w : World} {h : Heap} {xs : List Ent} {es : Array DictEntry} (ee : Ents w xs es) (nd : (keys xs).Nodup) (k : KeysH h xs) : Tab w h (keys xs) es := by
  refine ⟨by rw [ee.1, List.length_map], fun j hj => ?_, nd⟩
  have hx : j < xs.length := by rw [← ee.1]; exact hj
  obtain ⟨e1, e2, _⟩ := ee.2 j hj xs[j] (List.getElem?_eq_getElem hx)
  obtain ⟨n, d⟩ := k xs[j] (List.getElem_mem hx) _ e2
  exact ⟨xs[j].1, by rw [List.getElem?_map, List.getElem?_eq_getElem hx]; rfl, e1, n, d⟩
section
variable {P : Program} {w : World} {A : Around} {E : Value → Shared → Prop}
/-- the pairs of a list go into a table, one by one -/
theorem updM {R : Result → Shared → Prop} {S J l : Addr} {items : Array Value} {res : Value} (hu : A.units + 9 < cLine) (hh : A.handled = none) (hlJ : l ≠ J) (hSJ : S ≠ J) (hSl : S ≠ l) :
    ∀ (rest : List Ent) (i : Nat) (acc : List Ent) (ix : Int) (t : Tok) (s : Shared), items.size = i + rest.length → acc.length + rest.length ≤ sizeLine →
      (∀ (j : Nat) (x : Ent), rest[j]? = some x → ∃ (b : Addr) (u r : Value), items[i + j]? = some (.ref b) ∧ b ≠ S ∧ b ≠ J ∧ IsTup s.heap b #[u, r] ∧ RelV x.2.1 u ∧ RelV x.2.2 r) →
      KeysH s.heap acc → KeysH s.heap rest → s.heap.IsListIter J l i → s.heap.IsList l items → MDat w S acc s.heap →
      (∀ h' tk, MDat w S (mergeM acc rest) h' → (∀ b o, b ≠ S → b ≠ J → s.heap.get? b = some o → h'.get? b = some o) → R (.ok (.ret res)) { s with heap := h', toks := tk }) →
      codeAny (model P w) A (.builtin "dict.update.loop" ⟨[.ref S, .ref J, .int ix t, res], []⟩) R s
  | [], i, acc, ix, t, s, hsz, _, _, _, _, hit, hl, hm, hR => by
    refine codeAny_builtin ud_entry ?_
    rw [Around.under_plainId ud_plain _]
    change wpAny _ A.in1 (pyNext (.ref J) >>= _) _ _ s
    refine wpAny_bind (wpAny_pyNext_list_end (A := A.in1) hh hit hl (Array.getElem?_eq_none (Nat.le_of_eq hsz)) fun h' he => ?_)
    change wpAny _ A.in1 (Builtin.Dict.addKeywords S [] >>= _) _ _ _
    refine wpAny_bind (wpAny_pure (wpAny_pure ?_))
    obtain ⟨z1, z2, z3, o, es, ep, ho, r⟩ := hm
    exact hR h' s.toks ⟨z1, z2, z3, o, es, ep, he S o hSJ ho, r⟩ fun b o _ hb e => he b o hb e
  | x :: rest, i, acc, ix, t, s, hsz, hln, ht, hka, hkr, hit, hl, hm, hR => by
    obtain ⟨b, u, r, hb, hbS, hbJ, htup, r1, r2⟩ := ht 0 x rfl
    rw [List.length_cons] at hsz hln
    refine codeAny_builtin ud_entry ?_
    rw [Around.under_plainId ud_plain _]
    change wpAny _ A.in1 (pyNext (.ref J) >>= _) _ _ s
    have here : items[i]? = some (.ref b) := by simpa using hb
    refine wpAny_bind (wpAny_pyNext_list_item hit hl here fun h1 hit1 hs1 => ?_)
    have seq1 : ∀ a o vs n, s.heap.get? a = some o → o.data = .seq vs n → h1.get? a = some o := fun a o vs n e dt => hs1.extBut a o (by
      rintro rfl
      obtain ⟨o', e', _, d'⟩ := id hit
      rw [e] at e'
      cases e'
      rw [dt] at d'
      cases d') e
    have ht1 : IsTup h1 b #[u, r] := htup.extBut hs1.extBut hbJ
    obtain ⟨z1, z2, z3, oS, es, ep, hoS, cS, dS, ee⟩ := id hm
    have gS : h1.get? S = some oS := hs1.extBut S oS hSJ hoS
    have k1 : KeysH h1 acc := hka.at seq1
    have tyB : Shared.TypeIs { s with heap := h1 } (.ref b) "tuple" := ht1.typeIs
    obtain ⟨ob, gb, _, _, db⟩ := id ht1
    change wpAny _ A.in1 (holding [Value.ref b] _ >>= _) _ _ _
    refine wpAny_bind (wpAny_holding (wpAny_bind (wpAny_tryCatch ?_)))
    unfold Builtin.Dict.pairItems
    refine wpAny_bind (wpAny_typeOf tyB ?_)
    rw [if_pos (by decide)]
    refine wpAny_bind (wpAny_seqItems gb db (wpAny_pure ?_))
    change wpAny _ A.in1 (holding [u, r] (dictSet S u r)) _ _ _
    obtain ⟨nk, dk⟩ := hkr x List.mem_cons_self u r1
    refine wpAny_holding (dSet (s := { s with heap := h1 }) (by show A.units + 1 + 8 < cLine; omega) (ee.tab z3 k1) (NestedIs.at seq1 _ _ nk) dk gS cS dS (by rw [ee.1]; exact z1) fun h2 tk2 o2 ep2 hs2 e1 e2 e3 => ?_)
    replace hs2 : Heap.SameBut S h1 h2 := hs2
    have seq2 : ∀ a o vs n, h1.get? a = some o → o.data = .seq vs n → h2.get? a = some o := fun a o vs n e dt => hs2.extBut a o (by
      rintro rfl
      rw [gS] at e
      cases e
      rw [dt] at dS
      cases dS) e
    have seq12 : ∀ a o vs n, s.heap.get? a = some o → o.data = .seq vs n → h2.get? a = some o := fun a o vs n e dt => seq2 a o vs n (seq1 a o vs n e dt) dt
    have len := len_putM acc x.1 x.2.1 x.2.2
    refine wpAny_pure ⟨plainId_quiet ud_plain _, updM (items := items) hu hh hlJ hSJ hSl rest (i + 1) (putM acc x.1 x.2.1 x.2.2) (ix + 1) 0 _ (by omega) (by omega) (fun j y e => ?_) ?_ (KeysH.at (xs := rest) (fun y hy => hkr y (List.mem_cons_of_mem _ hy)) seq12) ?_ ?_ ?_ fun h' tk hd' k => ?_⟩
    · obtain ⟨b', u', r', q1, q2, q3, q4, q5, q6⟩ := ht (j + 1) y (by simpa using e)
      exact ⟨b', u', r', by rw [show i + 1 + j = i + (j + 1) by omega]; exact q1, q2, q3, (q4.extBut hs1.extBut q3).extBut hs2.extBut q2, q5, q6⟩
    · refine (hka.at seq12).put fun u' ru => ?_
      obtain ⟨a, b⟩ := hkr x List.mem_cons_self u' ru
      exact ⟨NestedIs.at seq12 _ _ a, b⟩
    · exact hit1.at fun o' e => hs2.extBut J o' (Ne.symm hSJ) e
    · exact (hl.extBut hs1.extBut hlJ).extBut hs2.extBut (Ne.symm hSl)
    · exact ⟨by omega, z2, nd_putM acc x.1 x.2.1 x.2.2 z3, o2, _, ep2, e1, e2, e3, ee.put x.1 r1 r2⟩
    · refine hR h' tk hd' fun c oc nS nJ e => k c oc nS nJ ?_
      exact hs2.extBut c oc nS (hs1.extBut c oc nJ e)
/-- dict(l), l a list of pairs -/
theorem dictPairs {s : Shared} {l : Addr} {ol : Obj} {items : Array Value} {n : Nat} {prs : List Ent} {Q : Value → Shared → Prop} (hu : A.units + 10 < cLine) (hh : A.handled = none) (hl : s.heap.get? l = some ol) (hc : ol.cls = .type "list") (hd : ol.dict = none)
    (hdat : ol.data = .seq items n) (hsz : items.size = prs.length) (hln : prs.length ≤ sizeLine) (hk : KeysH s.heap prs) (hb : sysModules < s.heap.objs.size)
    (ht : ∀ (j : Nat) (x : Ent), prs[j]? = some x → ∃ (b : Addr) (u r : Value), items[j]? = some (.ref b) ∧ IsTup s.heap b #[u, r] ∧ RelV x.2.1 u ∧ RelV x.2.2 r)
    (h : ∀ h' tk, MDat w s.heap.objs.size (mergeM [] prs) h' → (∀ b o, s.heap.get? b = some o → h'.get? b = some o) → Q (.ref s.heap.objs.size) { s with heap := h', toks := tk }) :
    wpAny (model P w) A (call (.type "dict") [.ref l]) Q E s := by
  refine callType_codes (Q₁ := fun v s₁ => v = .ref s.heap.objs.size ∧ s₁ = { s with heap := s.heap.push { cls := .type "dict", data := .dict #[] } }) PySem.F.kt_called_dict (PySem.F.kt_typeCall_dict_1 _) PySem.F.entry_dict_init (kt_code_dict_new _ ⟨rfl, rfl⟩) ?_
  rintro v s₁ ⟨e1, e2⟩
  subst e1 e2
  have gD : (s.heap.push { cls := .type "dict", data := .dict #[] }).get? s.heap.objs.size = some { cls := .type "dict", data := .dict #[] } := Heap.get?_push_size _ rfl
  have k0 : ∀ {b : Addr} {o : Obj}, s.heap.get? b = some o → (s.heap.push { cls := .type "dict", data := .dict #[] }).get? b = some o := fun e => Heap.get?_push_of_some _ e
  refine ⟨⟨_, gD, rfl⟩, PySem.F.args_dict_init_2 _ _, ?_⟩
  unfold Builtin.«dict.__init__»
  refine wpAny_bind ?_
  unfold Builtin.Dict.selfAndRest
  refine wpAny_bind (wpAny_notOrdered_dict ⟨_, gD, rfl⟩ (wpAny_pure ?_))
  change wpAny _ _ (Builtin.Dict.updateFrom "dict.__init__" s.heap.objs.size (.ref l) [] .none) _ _ _
  unfold Builtin.Dict.updateFrom
  have gl := k0 hl
  refine wpAny_bind (wpAny_typeOf (v := .ref l) (T := "list") ⟨ol, gl, hc⟩ ?_)
  rw [if_pos (by decide)]
  refine wpAny_bind (miss_list gl hc hdat hd hh fun h1 tk1 hk1 => ?_)
  have plain : (none : Option Value).isNone = true := rfl
  rw [if_pos plain]
  refine wpAny_bind (wpAny_rule ?_)
  have hl1 : h1.IsList l items := ⟨ol, hk1 l ol gl, hc, n, hdat⟩
  have gS : h1.get? s.heap.objs.size = some { cls := .type "dict", data := .dict #[] } := hk1 _ _ gD
  have lt1 : s.heap.objs.size < h1.objs.size := Heap.lt_size gS
  refine wpAny_bind (wpAny_pyIter_list hl1 ?_)
  generalize eh2 : h1.push { cls := .type "list_iterator", data := .fields #[.ref l, .int 0 0] } = h2
  have k2 : ∀ b o, h1.get? b = some o → h2.get? b = some o := fun b o e => by rw [← eh2]; exact Heap.get?_push_of_some _ e
  have k3 : ∀ b o, s.heap.get? b = some o → h2.get? b = some o := fun b o e => k2 _ _ (hk1 _ _ (k0 e))
  have lt : l < s.heap.objs.size := Heap.lt_size hl
  have fin := updM (P := P) (w := w) (A := A.in1) (R := wants (fun r s₂ => r = .none ∧ Q (.ref s.heap.objs.size) s₂) E) (S := s.heap.objs.size) (J := h1.objs.size) (l := l) (items := items) (res := Value.none) (by show A.units + 1 + 9 < cLine; omega) hh
    (Nat.ne_of_lt (Nat.lt_trans lt lt1)) (Nat.ne_of_lt lt1) (Nat.ne_of_gt lt) prs 0 [] 0 0 { s with heap := h2, toks := tk1 } (by rw [hsz, Nat.zero_add]) (by rw [List.length_nil, Nat.zero_add]; exact hln)
    (fun j x e => by
      obtain ⟨b, u, r, q1, q2, q3, q4⟩ := ht j x e
      exact ⟨b, u, r, by rw [Nat.zero_add]; exact q1, Nat.ne_of_lt q2.lt, Nat.ne_of_lt (Nat.lt_trans q2.lt lt1), q2.keeps fun c o z => k3 _ _ z, q3, q4⟩)
    (fun x hx => nomatch hx) (hk.at fun a o vs n e _ => k3 a o e) ⟨_, by rw [← eh2]; exact Heap.get?_push_size _ rfl, rfl, rfl⟩ (hl1.at fun o e => k2 _ _ e)
    ⟨Nat.zero_le _, beq_eq_false_iff_ne.mpr (Nat.ne_of_gt hb), List.nodup_nil, _, #[], 0, k2 _ _ gS, ⟨rfl, rfl, rfl⟩, rfl, rfl, fun j hj => absurd hj (Nat.not_lt_zero j)⟩
    (fun h' tk hd' k => ⟨rfl, h h' tk hd' fun b o e => k b o (Nat.ne_of_lt (Heap.lt_size e)) (Nat.ne_of_lt (Nat.lt_trans (Heap.lt_size e) lt1)) (k3 _ _ e)⟩)
  first
    | exact wpAny_pure ⟨plainId_quiet ud_plain _, fin⟩
    | exact wpAny_bind (wpAny_pure (wpAny_pure ⟨plainId_quiet ud_plain _, fin⟩))
end
section
variable {X : Cx}
/-- a pair of a list of pairs -/
def PairV (K : PySem.W.Frag) (H : Hp) (y : V) (x : Ent) : Prop := ∃ p, y = .ref p ∧ SqT K H p [x.2.1, x.2.2] ∧ KeyV K H x.1 x.2.1
theorem call_dictM (hu : X.A.units + 10 < cLine) (hcalm : X.calm = true) : CallR X (.type "dict") (fun xs H Q => ∃ (a : Addr) (ys : List V) (es : List Ent), xs = [.ref a] ∧ SqL X.K H a ys ∧ Paired (PairV X.K H) ys es ∧
    ∀ p, H p = none → Q (.ref p) (upd H p (MD X.w p (mergeM [] es)))) := by
  intro pins s σ H xs us Q I r ⟨a, ys, es, ex, hq, hp, q⟩
  subst ex
  obtain ⟨u, eu, rx⟩ := vals1 r
  subst eu
  obtain rfl : u = Value.ref a := rx
  obtain ⟨its, rv, ⟨o, n, ho, hc, hd, hdat⟩, hz⟩ := I.list hq
  have hl : ys.length = es.length := Paired.length hp
  have hkv : ∀ x ∈ es, KeyV X.K H x.1 x.2.1 := by
    clear rv hz hl q hdat hq
    induction hp with
    | nil => intro x hx; cases hx
    | cons h _ ih =>
      intro x hx
      rcases List.mem_cons.mp hx with e | hx
      · subst e; obtain ⟨_, _, _, z⟩ := h; exact z
      · exact ih x hx
  refine dictPairs (prs := es) hu (I.ok.hd hcalm) ho hc hd hdat (by rw [← hl, rv.length]; simp) (by rw [← hl]; exact hz) (fun x hx u ru => (hkv x hx).is I ru) I.big (fun j x e => ?_) fun h' tk md k => ?_
  · have hj : j < ys.length := by rw [hl]; exact (List.getElem?_eq_some_iff.mp e).1
    obtain ⟨x', e', p, ey, ht, _⟩ := paired_get hp (List.getElem?_eq_getElem hj)
    rw [e] at e'
    cases e'
    obtain ⟨uy, hy, ry⟩ := rv.get (List.getElem?_eq_getElem hj)
    rw [ey] at ry
    obtain rfl : uy = Value.ref p := ry
    obtain ⟨t2, rt, it, _⟩ := I.tuple ht
    obtain ⟨u1, u2, et, q1, q2⟩ := vals2 rt
    subst et
    exact ⟨p, u1, u2, by rw [List.getElem?_toArray]; exact hy, it, q1, q2⟩
  · exact ⟨.ref s.heap.objs.size, _, I.laid (t' := tk) k (Nat.le_refl _) md.ok, rfl, q _ (I.hok.fresh (Nat.le_refl _))⟩
/-! ### {} and written tables -/
def tDNewM (w : World) : TE := fun _ H Q => ∀ p, H p = none → Q (.ref p) (upd H p (MD w p []))
theorem pe_dnewM {pos : Pos} : PE X (.Dict [] [] pos) (tDNewM X.w) := ⟨fun pins s σ H Q I h =>
  wpAny_Dict_empty ⟨.ref s.heap.objs.size, _, I.laid (a := s.heap.objs.size) (o := MD X.w s.heap.objs.size []) (t' := s.toks) (fun _ _ q => Heap.get?_push_of_some _ q) (Nat.le_refl _) (md_empty s.heap I.big), rfl, h _ (I.hok.fresh (Nat.le_refl _))⟩⟩
def nkK : Key → NK
  | .inl i => .num i
  | .inr x => .text x
theorem nkK_inj {a b : Key} (h : nkK a = nkK b) : a = b := by
  cases a <;> cases b <;> cases h <;> rfl
def entK (kv : Key × V) : Ent := (nkK kv.1, kV kv.1, kv.2)
theorem hash_key {P : Program} {w : World} (k : Key) : (mixKind P w).hash k = (nkK k).hash w := by cases k <;> rfl
/-- a table of ints and texts, told as one of keys of all kinds -/
def tAsM (w : World) (te : TE) : TE := fun σ H Q => te σ H fun v H1 => ∃ p kvs, v = .ref p ∧ H1 p = some (.dK kvs) ∧ Q v (upd H1 p (MD w p (kvs.map entK)))
theorem pe_asM {e : Expr} {te : TE} (he : PE X e te) : PE X e (tAsM X.w te) := by
  refine ⟨fun pins s σ H Q I h => thn (he.run pins s σ H _ I h) fun u s1 ⟨v, H1, I1, rv, p, kvs, ev, hp, q⟩ => ?_⟩
  obtain ⟨z, sm, vs, kv, o, es, ep, ho, hc, hd, hk, hps, nd⟩ := (show ObjOk X.prog X.w H1 s1.heap p (.dK kvs) from I1.hok p _ hp)
  have ks : ∀ x ∈ es.toList, ∃ k, keyIs k x.key = true ∧ x.hash = (mixKind X.prog X.w).hash k := fun x hx => hk x (Array.mem_toList_iff.mp hx)
  have gen : ∀ (l : List DictEntry) (r : List (Key × Value)), Pairs (mixKind X.prog X.w) l r → (∀ x ∈ l, ∃ k, keyIs k x.key = true ∧ x.hash = (mixKind X.prog X.w).hash k) → ∀ (t : List (Key × V)), KV t r →
      l.length = t.length ∧ ∀ (j : Nat) (en : DictEntry) (x : Key × V), l[j]? = some en → t[j]? = some x → en.hash = (nkK x.1).hash X.w ∧ RelV (kV x.1) en.key ∧ RelV x.2 en.val := by
    intro l r hp
    induction hp with
    | nil => intro _ t ht; cases ht; exact ⟨rfl, fun j en x e => by simp at e⟩
    | @cons en kv l r h1 h2 _ ih =>
      intro hks t ht
      cases ht with
      | @cons x _ t _ hx ht =>
        obtain ⟨a, b⟩ := ih (fun y hy => hks y (List.mem_cons_of_mem _ hy)) t ht
        refine ⟨by rw [List.length_cons, List.length_cons, a], fun j en' x' e1 e2 => ?_⟩
        cases j with
        | zero =>
          cases e1
          cases e2
          obtain ⟨k, k1, k2⟩ := hks _ List.mem_cons_self
          have ek : k = kv.1 := (mixKind X.prog X.w).inj _ _ _ k1 h1
          refine ⟨?_, ?_, ?_⟩
          · rw [k2, ek, hx.1]; exact hash_key _
          · rw [hx.1]; exact relV_key h1
          · rw [h2]; exact hx.2
        | succ j => exact b j en' x' (by simpa using e1) (by simpa using e2)
  obtain ⟨len, at_⟩ := gen es.toList vs hps ks kvs kv
  have nd' : (keys (kvs.map entK)).Nodup := by
    have e : keys (kvs.map entK) = (kvs.map (·.1)).map nkK := by unfold keys; rw [List.map_map, List.map_map]; rfl
    rw [e, KV.keys kv]
    exact List.Pairwise.map nkK (fun a b ne e => ne (nkK_inj e)) nd
  have m : MDat X.w p (kvs.map entK) s1.heap := ⟨by rw [List.length_map]; exact z, sm, nd', o, es, ep, ho, hc, hd, by rw [List.length_map, ← len, Array.length_toList], fun j hj x e => by
    rw [List.getElem?_map] at e
    cases q : kvs[j]? with
    | none => rw [q] at e; cases e
    | some y =>
      rw [q] at e
      cases e
      have ej : es.toList[j]? = some es[j] := by rw [Array.getElem?_toList, Array.getElem?_eq_getElem hj]
      exact at_ j es[j] y ej q⟩
  refine ⟨v, _, I1.write (x := p) (e := p) (h' := s1.heap) (t' := s1.toks) (by rw [hp]; exact True.intro) (.inl rfl) (fun _ _ _ e => e) ⟨o, ho⟩ m.ok, rv, q⟩
end
end Fc
namespace Fc
open PySem L2 PyProof.Rows
/-- a def that is called where nothing is being shown (repr) -/
structure FnG (P : Program) (w : World) (K : PySem.W.Frag) (mg : Str → Option Value) (base : Heap) (k : Nat) (f : Addr) (fd : FuncData) (ps : List Str) (sp : Sp) : Prop where
  len : ∀ (vs : List V) (H : Hp) (Q : VK) (E : XK), sp vs H Q E → vs.length = ps.length
  run : ∀ (A : Around) (outer : List Env) (s : Shared) (H : Hp) (args : Args) (us : List Value) (vs : List V) (Q : VK) (E : XK), A.guards = some [] → Room k A → Env0 P w K mg base A outer s H → BindsTo s fd args (ps.zip us) → Vals vs us → sp vs H Q E →
    codeAny (model P w) A (.call (.ref f) args) (CR CX0 outer P w H s Q E) s
section
variable {K : PySem.W.Frag} {mg : Str → Option Value} {base : Heap} {P : Program} {w : World}
theorem okG {x qual : Str} {st : Stmt} {f : Addr} {fd : FuncData} {N ps : List Str} {k : Nat} {sp : Sp} (F : Fun K x qual st f fd) (S : FnScope N ps (defScope st)) (len : ∀ vs H Q E, sp vs H Q E → vs.length = ps.length)
    (body : ∀ (cdv : Value) (A : Around) (outer : List Env) (s : Shared) (H : Hp) (vs : List V) (Q : VK) (E : XK), A.guards = some [] → Room k (A.deeper (envOfC qual (defScope st) s.heap.objs.size f cdv)) → sp vs H Q E →
      ∃ t, PSs (cxOf CX0 P w K mg base N qual (defScope st) f cdv A outer s H E).nox (defBody st) t ∧ t { nx := fun _ H' => Q .non H', rt := Q } (start N vs) H) : FnG P w K mg base (k + 1) f fd ps sp := by
  obtain ⟨oc, od, kV, doc, pm, an, cdv, ct, osl, e, lk, hcd⟩ := F.ex
  subst e
  refine ⟨len, fun A outer s H args us vs Q E hgd hr e0 hb r hsp => ?_⟩
  have old : ∀ b o, base.get? b = some o → s.heap.get? b = some o := fun b o e => (e0.bs b o e).1
  have KX : K.In s.heap := e0.mod.kin.keeps old
  have par : ∀ y ∈ ps.zip us, (defScope st).names.lookup y.1 = some .local ∨ ((defScope st).names.lookup y.1 = some .cell ∧ ((cellsFrom (s.heap.objs.size + 1) (defScope st).names []).lookup y.1).isSome = true) := fun y hy =>
    (S.par y.1 (List.of_mem_zip (a := y.1) (b := y.2) hy).1).imp id fun q => ⟨q, PySem.W.cellsFrom_some _ _ _ (.inl q)⟩
  refine codeAny_call_function hr.depth (KX _ _ lk) rfl S.co S.gen rfl (PySem.W.codeRec_of KX hcd) (hb _ _ _ _ (wpAny_newFunctionEnv_cells S.kind par fun env he s1 z => ?_))
  subst he
  refine ⟨(e0.mod.nolimit.keeps old).keeps z.toInCall.keep, codeAny_func ?_⟩
  obtain ⟨t, ht, hq⟩ := body cdv A outer s H vs Q E hgd (hr.deeper _) hsp
  have I := inv_start (CX := CX0) (E := E) (cd := cdv) S hr.hd e0 (len _ _ _ _ hsp) r z
  refine wpAny_mono (ht.nox.run [] s1 (start N vs) H _ I hq) (fun fl s' hs => ?_) fun e s' hs => hs
  cases fl with
  | ret u => obtain ⟨v, σ', H', J, rv, q⟩ := hs; exact ⟨v, H', J.os, J.bare, J.base, J.hok, rv, q⟩
  | next => obtain ⟨σ', H', J, q⟩ := hs; exact ⟨.non, H', J.os, J.bare, J.base, J.hok, rfl, q⟩
  | brk => obtain ⟨_, _, _, q⟩ := hs; exact q.elim
  | cont => obtain ⟨_, _, _, q⟩ := hs; exact q.elim
end
section
variable {X : Cx} {f : Addr} {fd : FuncData} {ps : List Str} {sp : Sp} {k : Nat}
theorem pe_callG {x : Str} {p pos : Pos} {e : Expr} {es : List Expr} {t : TA} (F : FnG X.prog X.w X.K X.mg X.base k f fd ps sp) (hgd : X.A.guards = some []) (hr : Room k X.A) (hg : Gl X x) (hm : X.mg x = some (.ref f)) (hk : PySem.W.keepIn X.K (.ref f) = true) (hb : Binds X.K fd ps [])
    (ha : PA X (e :: es) t) (hdb : (x == ("__debug__" : Str)) = false := by decide) (st : starEach (e :: es) X.env = (false, eval e X.env) :: starEach es X.env := by rfl)
    (hpl : (backTo pos (starEach es X.env)).any (·.1) = false := by rfl) :
    PE X (.Call (.Name x p) (e :: es) [] pos) (tCall sp [] E0 t) := by
  refine ⟨fun pins s σ H Q I h => wpAny_Call_Name_kw (ld_glob I hg hm ?_ hdb)⟩
  have args := ha.run pos pins s σ H _ I h
  refine PySem.W.callWith_K (h₀ := X.base) I.ok.mod.kin hk (thn args fun us s1 ⟨vs, H1, I1, r, q⟩ => ⟨I1.kIn, ?_⟩) st hpl
  have q' : sp (vs ++ []) H1 Q E0 := q
  rw [List.append_nil] at q'
  have hl : us.length = ps.length := by rw [← r.length]; exact F.len _ _ _ _ q'
  have bd := hb s1 us I1.kIn (by rw [List.append_nil]; exact hl)
  rw [List.append_nil] at bd
  refine wpAny_call (codeAny_mono (F.run X.A X.stack s1 H1 ⟨us, []⟩ us vs Q E0 hgd hr I1.env0 bd r q') fun r s' hq => ?_)
  cases r with
  | error e => exact hq.elim
  | ok fl =>
    cases fl with
    | ret u => exact I1.after hq
    | next => exact hq.elim
    | brk => exact hq.elim
    | cont => exact hq.elim
end
/-! ### what is shown, and how long it is -/
mutual
/-- data without lists and dicts -/
def tupD : PyData → Bool
  | .none | .bool _ | .int _ | .str _ => true
  | .list _ | .dict _ => false
  | .tuple xs => tupDs xs
def tupDs : List PyData → Bool
  | [] => true
  | x :: xs => tupD x && tupDs xs
end
mutual
theorem reads_nil {h : Heap} : ∀ (d : PyData) (v : Value) (as : List Addr), Reads h v d as → tupD d = true → as = []
  | _, _, _, .none, _ => rfl
  | _, _, _, .bool _, _ => rfl
  | _, _, _, .int _ _, _ => rfl
  | _, _, _, .str _ _, _ => rfl
  | _, _, _, .list _ _ _ _, h => by simp [tupD] at h
  | _, _, _, .dict _ _ _ _ _, h => by simp [tupD] at h
  | .tuple ds, _, as, .tuple (vs := vs) _ _ _ r, h => readsAll_nil ds vs.toList as r (by simpa [tupD] using h)
theorem readsAll_nil {h : Heap} : ∀ (ds : List PyData) (vs : List Value) (as : List Addr), ReadsAll h vs ds as → tupDs ds = true → as = []
  | _, _, _, .nil, _ => rfl
  | d :: ds, _, _, .cons (v := v) (vs := vs) (as := as) (bs := bs) r t, h => by
    simp only [tupDs, Bool.and_eq_true] at h
    rw [reads_nil d v as r h.1, readsAll_nil ds vs bs t h.2]
    rfl
end
section
variable {X : Cx}
mutual
theorem Dp.noDict {K : PySem.W.Frag} {H : Hp} : ∀ (d : PyData) (v : V), Dp K H v d → d.hasDict = false
  | .none, _, _ => rfl
  | .bool _, _, _ => rfl
  | .int _, _, _ => rfl
  | .str _, _, _ => rfl
  | .list ds, _, h => by
    cases h with
    | lst _ a => simp only [PyData.hasDict]; exact DpAll.noDict ds _ a
  | .tuple ds, _, h => by
    cases h with
    | tup _ a => simp only [PyData.hasDict]; exact DpAll.noDict ds _ a
  | .dict _, _, h => by cases h
theorem DpAll.noDict {K : PySem.W.Frag} {H : Hp} : ∀ (ds : List PyData) (vs : List V), DpAll K H vs ds → PyData.hasDictAll ds = false
  | [], _, _ => rfl
  | d :: ds, _, h => by
    cases h with
    | cons a b => simp only [PyData.hasDictAll, Bool.or_eq_false_iff]; exact ⟨Dp.noDict d _ a, DpAll.noDict ds _ b⟩
end
/-- data, or a table of such -/
def DV (K : PySem.W.Frag) (w : World) (H : Hp) (v : V) (d : PyData) : Prop := Dp K H v d ∨ ∃ a xs kvs, v = .ref a ∧ TabAt K w H a xs ∧ d = .dict kvs ∧
  Paired (fun (x : Ent) (kv : PyData × PyData) => Dp K H x.2.1 kv.1 ∧ Dp K H x.2.2 kv.2 ∧ tupD kv.1 = true ∧ tupD kv.2 = true) xs kvs
/-- it can be shown, and what is shown is short -/
structure Shows (d : PyData) : Prop where
  show_ : d.showable = true
  leaves : d.leavesShort 2000 = true
  weight : d.weight ≤ 4000
  depth : d.depth ≤ 60
theorem Shows.fits {d : PyData} (h : Shows d) : d.shown.length ≤ sizeLine := by
  have q := PyData.shown_le 2000 (by decide) d h.leaves
  have w : (2000 + 2) * d.weight ≤ (2000 + 2) * 4000 := Nat.mul_le_mul (Nat.le_refl _) h.weight
  rw [sizeLine_eq]
  omega
theorem table_reads {pins : List (Addr × Obj)} {σ : L2.St} {H : Hp} {s : Shared} {a : Addr} {xs : List Ent} {kvs : List (PyData × PyData)} (I : Inv X pins σ H s) (t : TabAt X.K X.w H a xs)
    (p : Paired (fun (x : Ent) (kv : PyData × PyData) => Dp X.K H x.2.1 kv.1 ∧ Dp X.K H x.2.2 kv.2 ∧ tupD kv.1 = true ∧ tupD kv.2 = true) xs kvs) : Reads s.heap (.ref a) (.dict kvs) [a] ∧ a ≠ sysModules := by
  obtain ⟨z, sm, o, es, ep, ho, hc, hd, ee, _⟩ := t.get I
  have gen : ∀ (xs : List Ent) (kvs : List (PyData × PyData)) (l : List DictEntry), Paired (fun (x : Ent) (kv : PyData × PyData) => Dp X.K H x.2.1 kv.1 ∧ Dp X.K H x.2.2 kv.2 ∧ tupD kv.1 = true ∧ tupD kv.2 = true) xs kvs →
      l.length = xs.length → (∀ (j : Nat) (en : DictEntry) (x : Ent), l[j]? = some en → xs[j]? = some x → RelV x.2.1 en.key ∧ RelV x.2.2 en.val) → ReadsAll s.heap (l.map (·.key)) (kvs.map (·.1)) [] ∧ ReadsAll s.heap (l.map (·.val)) (kvs.map (·.2)) [] := by
    intro xs kvs l p
    induction p generalizing l with
    | nil => intro hl _; cases l with
      | nil => exact ⟨.nil, .nil⟩
      | cons _ _ => cases hl
    | cons h _ ih => intro hl r; cases l with
      | nil => cases hl
      | cons en l =>
        obtain ⟨r1, r2⟩ := r 0 en _ rfl rfl
        obtain ⟨q1, q2⟩ := ih l (by simpa using hl) fun j en x e1 e2 => r (j + 1) en x (by simpa using e1) (by simpa using e2)
        obtain ⟨as, ra⟩ := Dp.reads I _ _ _ h.1 r1
        obtain ⟨bs, rb⟩ := Dp.reads I _ _ _ h.2.1 r2
        obtain rfl := reads_nil _ _ _ ra h.2.2.1
        obtain rfl := reads_nil _ _ _ rb h.2.2.2
        exact ⟨.cons ra q1, .cons rb q2⟩
  obtain ⟨q1, q2⟩ := gen xs kvs es.toList p (by rw [Array.length_toList, ee.1]) fun j en x e1 e2 => by
    rw [Array.getElem?_toList] at e1
    obtain ⟨hj, e⟩ := Array.getElem?_eq_some_iff.mp e1
    obtain ⟨_, b, c⟩ := ee.2 j hj x e2
    rw [← e]
    exact ⟨b, c⟩
  exact ⟨Reads.dict ho hc.1 hd q1 q2, fun e => by rw [e] at sm; simp at sm⟩
/-- repr(v) -/
theorem call_reprD (hgd : X.A.guards = some []) (hu : X.A.units + 65 < cLine) : CallR X (.builtin "repr") (fun xs H Q => ∃ v d, xs = [v] ∧ DV X.K X.w H v d ∧ Shows d ∧ Q (.str d.shown) H) := by
  intro pins s σ H xs us Q I r ⟨v, d, ex, hd, S, q⟩
  subst ex
  obtain ⟨u, eu, rv⟩ := vals1 r
  subst eu
  have fin : ∀ {t : Tok} {s' : Shared}, Inv X pins σ H s' → EP X pins σ Q (.str d.shown t) s' := fun I' => ⟨.str d.shown, H, I', ⟨_, rfl⟩, q⟩
  have dep := S.depth
  rcases hd with hd | ⟨a, ys, kvs, ev, t, ed, p⟩
  · have nd := Dp.noDict d v hd
    obtain ⟨as, rd⟩ := Dp.reads I d v u hd rv
    cases hd with
    | non => cases (show u = Value.none from rv); exact P.repr_of_none (fin (I.tok _))
    | bl b => cases (show u = Value.bool b from rv); exact P.repr_of_bool (fin (I.tok _))
    | int i => obtain ⟨t, e⟩ := (show ∃ t, u = Value.int i t from rv); subst e; exact P.repr_of_int (by simpa [PyData.showable] using S.show_) (fin (I.tok _))
    | str x => obtain ⟨t, e⟩ := (show ∃ t, u = Value.str x t from rv); subst e; exact P.repr_of_str (fin (I.tok _)) S.fits
    | @lst a _ _ h1 h2 =>
      cases (show u = Value.ref a from rv)
      exact repr_of_reads' rd S.show_ (fun z => by rw [nd] at z; cases z) hgd (by omega) (fun _ _ e => e) (fun h' u tk k => fin (I.kept (t' := tk) k)) S.fits
    | @tup a _ _ h1 h2 =>
      cases (show u = Value.ref a from rv)
      exact repr_of_reads' rd S.show_ (fun z => by rw [nd] at z; cases z) hgd (by omega) (fun _ _ e => e) (fun h' u tk k => fin (I.kept (t' := tk) k)) S.fits
  · subst ev ed
    cases (show u = Value.ref a from rv)
    obtain ⟨rd, na⟩ := table_reads I t p
    exact repr_of_reads' rd S.show_ (fun _ z => na (List.mem_singleton.mp z).symm) hgd (by omega) (fun _ _ e => e) (fun h' u tk k => fin (I.kept (t' := tk) k)) S.fits
end
end Fc
namespace Fc
open PySem L2 PyProof.Rows
/-- the abstract heap at the law's beginning: the script alone, locked, or nothing -/
def startH (a : Addr) (vs : List Value) (ns : List Int) (t : Bool) : Hp := fun b => if b = a ∧ t = true then some (.frz { cls := .type "list", data := .seq vs.toArray } (.lst (ns.map V.int))) else none
theorem startH_some {a b : Addr} {vs : List Value} {ns : List Int} {t : Bool} {u : HO} (h : startH a vs ns t b = some u) : b = a ∧ t = true ∧ u = .frz { cls := .type "list", data := .seq vs.toArray } (.lst (ns.map V.int)) := by
  unfold startH at h
  by_cases c : b = a ∧ t = true
  · rw [if_pos c] at h; exact ⟨c.1, c.2, (Option.some.inj h).symm⟩
  · rw [if_neg c] at h; cases h
theorem lawG {P : Program} {w : World} {K : PySem.W.Frag} {mg mb : Str → Option Value} {k : Nat} {fa a : Addr} {fd : FuncData} {x : Str} {sp : Sp} {s₁ : Shared} {vs : List Value} {ns : List Int} (KX : K.In s₁.heap) (hns : s₁.heap.Ns mainGlobals mg) (hb : s₁.heap.Ns builtinsNs mb)
    (hbb : ∀ x : Str, x ≠ "__name__" → mb x = bootBuiltins x) (hlim : s₁.heap.NoLimit) (hg : s₁.gens = #[]) (ha : s₁.heap.get? a = some { cls := .type "list", data := .seq vs.toArray }) (hi : IntsAre vs ns) (hl : ns.length ≤ sizeLine) (hr : Room k callerA)
    (F : ∀ base : Heap, K.In base → base.Ns mainGlobals mg → FnG P w K mg base k fa fd [x] sp) (hbind : ∀ (s : Shared) (u : Value), BindsTo s fd ⟨[u], []⟩ [(x, u)])
    (hsp : ∀ H : Hp, Only H → SqL K H a (ns.map V.int) → sp [.ref a] H (fun v _ => v = .bl true) fun _ _ _ => False) :
    codeAny (model P w) callerA (.call (.ref fa) ⟨[.ref a], []⟩) (fun out z => out = .ok (.ret (.bool true)) ∧ OldK s₁.heap z.heap ∧ z.os = s₁.os ∧ AllBare z.gens) s₁ := by
  have rv := vals_of_ints hi
  -- whether the script is tracked: not if it is one of the module's own objects
  obtain ⟨t, ht⟩ : ∃ t : Bool, (t = true → K.lookup a = none) ∧ SqL K (startH a vs ns t) a (ns.map V.int) := by
    cases e : K.lookup a with
    | none => exact ⟨true, ⟨fun _ => rfl, .inl (.inr ⟨_, if_pos ⟨rfl, rfl⟩⟩)⟩⟩
    | some o =>
      have q := KX a o e
      rw [ha] at q
      cases q
      refine ⟨false, ⟨fun z => (nomatch z), .inr ⟨_, vs.toArray, _, e, rfl, rfl, rfl, ?_, by simpa using rv⟩⟩⟩
      have l := hi.length
      rw [List.size_toArray]
      omega
  obtain ⟨htr, hS⟩ := ht
  have hOnly : Only (startH a vs ns t) := fun b => by
    cases e : startH a vs ns t b with
    | none => exact .inl rfl
    | some u => obtain ⟨_, _, rfl⟩ := startH_some e; exact .inr ⟨_, _, rfl⟩
  have hok : HOk P w (startH a vs ns t) s₁.heap := fun b u e => by
    obtain ⟨rfl, _, rfl⟩ := startH_some e
    refine ⟨ha, ?_, vs, _, rv, ha⟩
    simpa using hl
  have keepB : ∀ {b : Addr} {o : Obj}, s₁.heap.get? b = some o → startH a vs ns t b = none → (hidT s₁.heap (startH a vs ns t)).get? b = some o := fun e n => hidT_get e n
  have nsK : ∀ {b : Addr} {m : Str → Option Value}, s₁.heap.Ns b m → (hidT s₁.heap (startH a vs ns t)).Ns b m := fun {b m} ⟨o, es, ep, e, d, r⟩ => ⟨o, es, ep, keepB e (by
    cases q : startH a vs ns t b with
    | none => rfl
    | some u =>
      obtain ⟨rfl, _, _⟩ := startH_some q
      rw [ha] at e
      cases e
      cases d), d, r⟩
  have hKb : K.In (hidT s₁.heap (startH a vs ns t)) := fun b o e => keepB (KX b o e) (by
    cases q : startH a vs ns t b with
    | none => rfl
    | some u =>
      obtain ⟨rfl, tt, _⟩ := startH_some q
      rw [htr tt] at e
      cases e)
  have hM : Mod K mg (hidT s₁.heap (startH a vs ns t)) := ⟨hKb, nsK hns, ⟨mb, nsK hb, hbb⟩, let ⟨mc, h1, h2⟩ := hlim; ⟨mc, nsK h1, h2⟩⟩
  have e0 : Env0 P w K mg (hidT s₁.heap (startH a vs ns t)) callerA [] s₁ (startH a vs ns t) :=
    ⟨rfl, hM, fun b o e => of_hidT e, Nat.le_of_eq (hidT_size _ _), trivial, fun b hb => absurd (show b ∈ ([] : List Addr) from hb) (by simp), hok, .of_eq hg⟩
  refine codeAny_mono ((F _ hKb (nsK hns)).run callerA [] s₁ _ ⟨[.ref a], []⟩ [.ref a] [.ref a] _ _ rfl hr e0 (hbind s₁ (.ref a)) (.cons rfl .nil) (hsp _ hOnly hS)) fun r s' h => ?_
  cases r with
  | error e => exact (show False from h).elim
  | ok fl =>
    cases fl with
    | next => exact (show False from h).elim
    | brk => exact (show False from h).elim
    | cont => exact (show False from h).elim
    | ret u =>
      obtain ⟨v, H', os, bare, un, hok', r', q⟩ := h
      obtain rfl : v = .bl true := q
      obtain rfl : u = Value.bool true := r'
      have bare_ : ∀ b : Addr, b ∉ ([] : List Addr) := fun _ => List.not_mem_nil
      refine ⟨rfl, .of_keep (fun b o e => ?_), os, bare⟩
      cases q : startH a vs ns t b with
      | none => exact un.keep b o e q (bare_ b) (bare_ b)
      | some u =>
        obtain ⟨rfl, _, rfl⟩ := startH_some q
        have z := un.frzs _ _ _ q
        obtain ⟨e2, _⟩ := hok' _ _ z
        rw [ha] at e
        cases e
        exact e2
theorem walkG {l : PySem.W.OpenLaw} {n k : Nat} {q : Program} {loose : List Str} {XP : (Str → Option Value) → Heap → Prop} {YP : World → Heap → Prop} {d : DefRec} {K : Params → PySem.W.Frag} {sp : PySem.W.Frag → Sp} {x : Str} (hn : l.most = some n) (hn2 : n ≤ sizeLine) (hdf : d.params.defaults = [])
    (hr : Room k callerA) (hY : ∀ (w : World) (h : Heap), YP w h → (K w.params).In h)
    (made : ∀ (w : World) (names : Str → Option Value) (at_ : Addr) (h : Heap), (K w.params).In h → h.Ns mainGlobals names → names d.name = some (.ref at_) →
      ∃ fd : FuncData, (∀ (s : Shared) (u : Value), BindsTo s fd ⟨[u], []⟩ [(x, u)]) ∧ ∀ base : Heap, (K w.params).In base → base.Ns mainGlobals names → FnG l.prog w (K w.params) names base k at_ fd [x] (sp (K w.params)))
    (hsp : ∀ (K : PySem.W.Frag) (H : Hp) (a : Addr) (ns : List Int), ns.length ≤ n → Only H → SqL K H a (ns.map V.int) → sp K [.ref a] H (fun v _ => v = .bl true) fun _ _ _ => False) : PySem.W.WalkO q loose XP YP l.row.toRowW d [] (fun f vs => PySem.call f vs) :=
  Att.attach_call hn hdf fun w _ s names _ at_ _ _ _ _ a vs ns G Y _ _ _ here obj whole short bare =>
    let KX := hY w _ Y
    let ⟨_, bind, F⟩ := made w names at_ _ KX G.T.g here
    lawG KX G.T.g G.T.b G.T.builtins G.T.nolimit bare obj whole (Nat.le_trans short hn2) hr F bind fun H only sq => hsp _ H a ns short only sq
end Fc
namespace Fc
open PySem L2 PyProof.Rows
/-! ### keys as data -/
inductive Kd where
  | w (x : Str) | c (a b : Str) (i : Int) | cb (a b : Str) (t : Bool) | n (i : Int) | no
  deriving DecidableEq
def nk : Kd → NK
  | .w x => .text x
  | .c a b i => .tup [.text a, .text b, .num i]
  | .cb a b t => .tup [.text a, .text b, .num (if t = true then 1 else 0)]
  | .n i => .num i
  | .no => .none
def pd : Kd → PyData
  | .w x => .str x
  | .c a b i => .tuple [.str a, .str b, .int i]
  | .cb a b t => .tuple [.str a, .str b, .bool t]
  | .n i => .int i
  | .no => .none
def KdV (K : PySem.W.Frag) (H : Hp) : Kd → V → Prop
  | .w x, v => v = .str x
  | .c a b i, v => ∃ t, v = .ref t ∧ SqT K H t [.str a, .str b, .int i]
  | .cb a b z, v => ∃ t, v = .ref t ∧ SqT K H t [.str a, .str b, .bl z]
  | .n i, v => v = .int i
  | .no, v => v = .non
theorem KdV.mono {K : PySem.W.Frag} {H H' : Hp} {k : Kd} {v : V} (t : Tups K H H') (h : KdV K H k v) : KdV K H' k v := by
  cases k with
  | w x => exact h
  | c a b i => obtain ⟨p, e, s⟩ := h; exact ⟨p, e, t _ _ s⟩
  | cb a b i => obtain ⟨p, e, s⟩ := h; exact ⟨p, e, t _ _ s⟩
  | n i => exact h
  | no => exact h
theorem KdV.key1 {K : PySem.W.Frag} {H : Hp} {k : Kd} {v : V} (h : KdV K H k v) : Key1 K H (nk k) v := by
  cases k with
  | w x => cases h; exact .inl (.text x)
  | c a b i => obtain ⟨p, rfl, s⟩ := h; exact .inr ⟨p, _, _, rfl, s, rfl, .cons (.text a) (.cons (.text b) (.cons (.num i) .nil))⟩
  | cb a b z => obtain ⟨p, rfl, s⟩ := h; exact .inr ⟨p, _, _, rfl, s, rfl, .cons (.text a) (.cons (.text b) (.cons (.bl z) .nil))⟩
  | n i => cases h; exact .inl (.num i)
  | no => cases h; exact .inl .non
theorem KdV.key {K : PySem.W.Frag} {H : Hp} {k : Kd} {v : V} (h : KdV K H k v) : KeyV K H (nk k) v := .inl h.key1
theorem KdV.dp {K : PySem.W.Frag} {H : Hp} {k : Kd} {v : V} (h : KdV K H k v) : Dp K H v (pd k) := by
  cases k with
  | w x => cases h; exact .str x
  | c a b i => obtain ⟨p, rfl, s⟩ := h; exact .tup s (.cons (.str a) (.cons (.str b) (.cons (.int i) .nil)))
  | cb a b z => obtain ⟨p, rfl, s⟩ := h; exact .tup s (.cons (.str a) (.cons (.str b) (.cons (.bl z) .nil)))
  | n i => cases h; exact .int i
  | no => cases h; exact .non
theorem pd_tup (k : Kd) : tupD (pd k) = true := by cases k <;> rfl
/-! ### tables as lists of keys and values -/
def TabR (K : PySem.W.Frag) (H : Hp) (b : Kd × V) (x : Ent) : Prop := x.1 = nk b.1 ∧ KdV K H b.1 x.2.1 ∧ x.2.2 = b.2
/-- at D a table of the keys and values B -/
def TabIs (K : PySem.W.Frag) (w : World) (H : Hp) (D : Addr) (B : List (Kd × V)) : Prop := ∃ xs, H D = some (MD w D xs) ∧ Paired (TabR K H) B xs
theorem tabR_mono {K : PySem.W.Frag} {H H' : Hp} (t : Tups K H H') {B : List (Kd × V)} {xs : List Ent} (p : Paired (TabR K H) B xs) : Paired (TabR K H') B xs := Paired.mapP p fun b x h => ⟨h.1, h.2.1.mono t, h.2.2⟩
theorem tabR_keys {K : PySem.W.Frag} {H : Hp} {B : List (Kd × V)} {xs : List Ent} (p : Paired (TabR K H) B xs) : ∀ x ∈ xs, KeyV K H x.1 x.2.1 := by
  induction p with
  | nil => intro x hx; cases hx
  | cons h _ ih =>
    intro x hx
    rcases List.mem_cons.mp hx with e | hx
    · subst e; rw [h.1]; exact h.2.1.key
    · exact ih x hx
def lookN (B : List (Kd × V)) (k : Kd) : Option V := (B.find? fun e => decide (nk e.1 = nk k)).map (·.2)
def putN : List (Kd × V) → Kd → V → List (Kd × V)
  | [], k, v => [(k, v)]
  | (a, u) :: r, k, v => if nk a = nk k then (a, v) :: r else (a, u) :: putN r k v
theorem posK_cons (x : NK) (ks : List NK) (k : NK) : posK (x :: ks) k = if x = k then some 0 else (posK ks k).map (· + 1) := by
  unfold posK
  rw [List.findIdx?_cons]
  by_cases e : x = k
  · simp [e]
  · simp [e]
theorem valM_cons (x : Ent) (xs : List Ent) (k : NK) : valM (x :: xs) k = if x.1 = k then some x.2.2 else valM xs k := by
  unfold valM posM
  rw [show keys (x :: xs) = x.1 :: keys xs from rfl, posK_cons]
  by_cases e : x.1 = k
  · rw [if_pos e, if_pos e]; rfl
  · rw [if_neg e, if_neg e]
    cases posK (keys xs) k with
    | none => rfl
    | some i => rfl
theorem putM_cons (x : Ent) (xs : List Ent) (k : NK) (kv v : V) : putM (x :: xs) k kv v = if x.1 = k then (x.1, x.2.1, v) :: xs else x :: putM xs k kv v := by
  unfold putM posM
  rw [show keys (x :: xs) = x.1 :: keys xs from rfl, posK_cons]
  by_cases e : x.1 = k
  · rw [if_pos e, if_pos e]; rfl
  · rw [if_neg e, if_neg e]
    cases posK (keys xs) k with
    | none => rfl
    | some i => rfl
theorem tabR_val {K : PySem.W.Frag} {H : Hp} {B : List (Kd × V)} {xs : List Ent} (p : Paired (TabR K H) B xs) (k : Kd) : valM xs (nk k) = lookN B k := by
  induction p with
  | nil => rfl
  | @cons b x B xs h _ ih =>
    rw [valM_cons, h.1, ih, h.2.2]
    unfold lookN
    rw [List.find?_cons]
    by_cases e : nk b.1 = nk k <;> simp [e]
theorem tabR_put {K : PySem.W.Frag} {H : Hp} {k : Kd} {kv v : V} (hk : KdV K H k kv) {B : List (Kd × V)} {xs : List Ent} (p : Paired (TabR K H) B xs) : Paired (TabR K H) (putN B k v) (putM xs (nk k) kv v) := by
  induction p with
  | nil => exact .cons ⟨rfl, hk, rfl⟩ .nil
  | @cons b x B xs h t ih =>
    rw [putM_cons, h.1]
    unfold putN
    by_cases e : nk b.1 = nk k
    · rw [if_pos e, if_pos e]; exact .cons ⟨rfl, h.2.1, rfl⟩ t
    · rw [if_neg e, if_neg e]; exact .cons h ih
theorem TabIs.at {K : PySem.W.Frag} {w : World} {H : Hp} {D : Addr} {B : List (Kd × V)} (t : TabIs K w H D B) : ∃ xs, TabAt K w H D xs ∧ Paired (TabR K H) B xs := let ⟨xs, h, p⟩ := t; ⟨xs, ⟨.inl h, tabR_keys p⟩, p⟩
theorem TabIs.mono {K : PySem.W.Frag} {w : World} {H H' : Hp} {D : Addr} {B : List (Kd × V)} (t : TabIs K w H D B) (tp : Tups K H H') (e : H' D = H D) : TabIs K w H' D B := let ⟨xs, h, p⟩ := t; ⟨xs, e.trans h, tabR_mono tp p⟩
theorem TabIs.same {K : PySem.W.Frag} {w : World} {H H' : Hp} {D : Addr} {B : List (Kd × V)} (t : TabIs K w H D B) (s : Same H H') : TabIs K w H' D B := let ⟨xs, h, p⟩ := t; ⟨xs, s _ _ h, tabR_mono (.same s) p⟩
theorem len_putN (B : List (Kd × V)) (k : Kd) (v : V) : (putN B k v).length ≤ B.length + 1 := by
  induction B with
  | nil => exact Nat.le_refl _
  | cons b B ih =>
    unfold putN
    by_cases e : nk b.1 = nk k
    · rw [if_pos e]; simp
    · rw [if_neg e]; simp only [List.length_cons]; omega
/-! ### the kinds of data -/
def tyName : PyData → String
  | .none => "NoneType" | .bool _ => "bool" | .int _ => "int" | .str _ => "str" | .list _ => "list" | .tuple _ => "tuple" | .dict _ => "dict"
theorem dp_ty {K : PySem.W.Frag} {H : Hp} {v : V} {d : PyData} (h : Dp K H v d) : TyX K H v (.type (tyName d)) := by
  cases h with
  | non => exact .base .non
  | bl b => exact .base (.bl b)
  | int i => exact .base (.int i)
  | str x => exact .base (.str x)
  | lst s _ =>
    rcases s with (s | ⟨o, s⟩) | ⟨o, its, n, e, c, _⟩
    · exact .base (.lst s)
    · exact .base (.frz s)
    · exact .kList e c
  | tup s _ =>
    rcases s with (s | ⟨o, s⟩) | ⟨o, its, n, e, c, _⟩
    · exact .base (.tup s)
    · exact .fTuple s
    · exact .kTuple e c
/-- isinstance(d, T) -/
def isTy (d : PyData) (T : String) : Bool := tyName d == T || (tyName d == "bool" && T == "int")
theorem kit_isTy (d : PyData) (T : String) (hT : T = "int" ∨ T = "bool" ∨ T = "str" ∨ T = "tuple" ∨ T = "dict" ∨ T = "list") : kitB (tyName d) T = some (isTy d T) := by
  have go : ∀ a ∈ ["NoneType", "bool", "int", "str", "list", "tuple", "dict"], ∀ T ∈ ["int", "bool", "str", "tuple", "dict", "list"], kitB a T = some (a == T || (a == "bool" && T == "int")) := by decide +kernel
  refine go (tyName d) ?_ T ?_
  · cases d <;> simp [tyName]
  · rcases hT with h | h | h | h | h | h <;> simp [h]
section
variable {X : Cx}
theorem call_isiD : CallR X (.builtin "isinstance") (fun xs H Q => ∃ v d T, xs = [v, .ty T] ∧ DV X.K X.w H v d ∧ (T = "int" ∨ T = "bool" ∨ T = "str" ∨ T = "tuple" ∨ T = "dict" ∨ T = "list") ∧ Q (.bl (isTy d T)) H) := by
  intro pins s σ H xs us Q I r ⟨v, d, T, ex, hd, hT, q⟩
  rcases hd with hd | ⟨a, ys, kvs, ev, t, ed, _⟩
  · exact call_isi pins s σ H xs us Q I r ⟨v, .ty T, _, _, isTy d T, ex, .ty T, dp_ty hd, kit_ty (kit_isTy d T hT), q⟩
  · subst ed ev
    exact call_isiM pins s σ H xs us Q I r ⟨a, ys, .ty T, _, isTy (.dict kvs) T, ex, .ty T, t, kit_ty (kit_isTy (.dict kvs) T hT), q⟩
theorem op_powW : OpR X (binaryOp .Pow) (rI (fun i j => 0 ≤ j ∧ (Builtin.Int.intBits i : Int) * j ≤ 2 ^ 27) fun i j => .int (i ^ j.toNat)) := opI fun _ _ _ _ _ _ _ hc q => pow_int hc.1 hc.2 q
end
/-- a def of the top, by its name and promise -/
structure Cal (P : Program) (w : World) (K : PySem.W.Frag) (mg : Str → Option Value) (base : Heap) (k : Nat) (x : Str) (sp : Sp) : Prop where
  at_ : ∃ (f : Addr) (fd : FuncData) (ps : List Str), FnOk P w K mg base CX0 k f fd ps sp ∧ mg x = some (.ref f) ∧ PySem.W.keepIn K (.ref f) = true ∧ Binds K fd ps []
def tCal (sp : Sp) (t : TA) : TE := fun σ H Q => t σ H fun vs H1 => sp vs H1 Q E0
theorem pe_c {X : Cx} {k j : Nat} {x : Str} {sp : Sp} {p pos : Pos} {e : Expr} {es : List Expr} {t : TA} (c : Cal X.prog X.w X.K X.mg X.base k x sp) (hr : Room j X.A) (hk : k ≤ j) (hg : Gl X x) (ha : PA X (e :: es) t) (hdb : (x == ("__debug__" : Str)) = false := by decide)
    (he : starEach (e :: es) X.env = (false, eval e X.env) :: starEach es X.env := by rfl) (hpl : (backTo pos (starEach es X.env)).any (·.1) = false := by rfl) : PE X (.Call (.Name x p) (e :: es) [] pos) (tCal sp t) := by
  obtain ⟨f, fd, ps, F, hm, kp, b⟩ := c.at_
  have q := pe_call (p := p) (pos := pos) F (hr.mono hk) hg hm kp b .nil pass0 ha hdb he hpl
  refine ⟨fun pins s σ H Q I h => q.run pins s σ H Q I ?_⟩
  have e : tCall sp [] E0 t = tCal sp t := by funext σ H Q; unfold tCall tCal; simp only [List.append_nil]
  rw [e]
  exact h
theorem hu70 {A : Around} {k : Nat} (hr : Room k A) : A.units + 70 < cLine := by have := hr.un; omega
end Fc
namespace Fc
open PySem L2
/-- an iterator of n items, item by item, where G stands -/
structure Steady (J : It) (n : Nat) (it : Nat → V) (G : Hp → Prop) : Prop where
  go : ∀ i H, G H → i < n → J.go i H
  stop : ∀ H, G H → J.stop n H
  yld : ∀ i H x H', G H → i < n → J.yld i H x H' → H' = H ∧ x = it i
theorem for_steady {J : It} {n : Nat} {it : Nat → V} {G : Hp → Prop} (S : Steady J n it G) {g : TG} {tb : TS} {D : Ends} {σ : L2.St} {H : Hp} (Pv : Nat → L2.St → Hp → Prop) (h0 : Pv 0 σ H) (hl : ∀ i σ H, i ≤ n → Pv i σ H → G H)
    (hs : ∀ i σ H, i < n → Pv i σ H → g (it i) σ H fun σ2 H2 => tb { D with nx := Pv (i + 1), ct := Pv (i + 1), bk := D.nx } σ2 H2) (hd : ∀ σ H, Pv n σ H → D.nx σ H) :
    ∃ W : Nat → Nat → L2.St → Hp → Prop, (∃ m, W 0 m σ H) ∧ ∀ i m σ H, W i m σ H → (J.stop i H ∧ D.nx σ H) ∨
      (J.go i H ∧ ∃ N : L2.St → Hp → Prop, (∀ σ' H', N σ' H' → ∃ m', m' < m ∧ W (i + 1) m' σ' H') ∧ ∀ x H', J.yld i H x H' → g x σ H' fun σ2 H2 => tb { D with nx := N, ct := N, bk := D.nx } σ2 H2) := by
  refine ⟨fun i m σ H => m + i = n ∧ Pv i σ H, ⟨n, rfl, h0⟩, fun i m σ H ⟨e, p⟩ => ?_⟩
  by_cases c : i = n
  · subst c
    exact .inl ⟨S.stop _ (hl _ _ _ (Nat.le_refl _) p), hd _ _ p⟩
  · have lt : i < n := by omega
    have q := hl i σ H (Nat.le_of_lt lt) p
    refine .inr ⟨S.go i H q lt, Pv (i + 1), fun σ' H' p' => ⟨m - 1, by omega, by omega, p'⟩, fun x H' y => ?_⟩
    obtain ⟨e1, e2⟩ := S.yld i H x H' q lt y
    rw [e1, e2]
    exact hs i σ H lt p
theorem lc_steady {J : It} {n : Nat} {it : Nat → V} {G : Hp → Prop} (S : Steady J n it G) {g : TG} {tt : TT} {te : TE} {vs : List Nat} {σ : L2.St} {H1 : Hp} {D : Addr} {Qd : Hp → Prop} (Pv : Nat → Hp → Prop) (h0 : Pv 0 (upd H1 D (.lst []))) (hl : ∀ i H, i ≤ n → Pv i H → G H)
    (hs : ∀ i H, i < n → Pv i H → g (it i) (wipe σ vs) H fun σ2 H2 => wipe σ2 vs = wipe σ vs ∧ tt σ2 H2 fun b H3 => if b = true then te σ2 H3 fun y H4 => ∃ acc, H4 D = some (.lst acc) ∧ acc.length < sizeLine ∧ Pv (i + 1) (upd H4 D (.lst (acc ++ [y]))) else Pv (i + 1) H3)
    (hd : ∀ H, Pv n H → Qd H) : ∃ W : Nat → Nat → Hp → Prop, (∃ m, W 0 m (upd H1 D (.lst []))) ∧ ∀ i m H, W i m H → (J.stop i H ∧ Qd H) ∨
      (J.go i H ∧ ∃ Nx : Hp → Prop, (∀ H', Nx H' → ∃ m', m' < m ∧ W (i + 1) m' H') ∧ ∀ x H', J.yld i H x H' → g x (wipe σ vs) H' fun σ2 H2 => wipe σ2 vs = wipe σ vs ∧ tt σ2 H2 fun b H3 =>
        if b = true then te σ2 H3 fun y H4 => ∃ acc, H4 D = some (.lst acc) ∧ acc.length < sizeLine ∧ Nx (upd H4 D (.lst (acc ++ [y]))) else Nx H3) := by
  refine ⟨fun i m H => m + i = n ∧ Pv i H, ⟨n, rfl, h0⟩, fun i m H ⟨e, p⟩ => ?_⟩
  by_cases c : i = n
  · subst c
    exact .inl ⟨S.stop _ (hl _ _ (Nat.le_refl _) p), hd _ p⟩
  · have lt : i < n := by omega
    have q := hl i H (Nat.le_of_lt lt) p
    refine .inr ⟨S.go i H q lt, Pv (i + 1), fun H' p' => ⟨m - 1, by omega, by omega, p'⟩, fun x H' y => ?_⟩
    obtain ⟨e1, e2⟩ := S.yld i H x H' q lt y
    rw [e1, e2]
    exact hs i H lt p
theorem dc_steady {K : PySem.W.Frag} {w : World} {J : It} {n : Nat} {it : Nat → V} {G : Hp → Prop} (S : Steady J n it G) {g : TG} {tk tv : TE} {vs : List Nat} {σ : L2.St} {H1 : Hp} {D : Addr} {Qd : Hp → Prop} (Pv : Nat → Hp → Prop) (h0 : Pv 0 (upd H1 D (MD w D []))) (hl : ∀ i H, i ≤ n → Pv i H → G H)
    (hs : ∀ i H, i < n → Pv i H → g (it i) (wipe σ vs) H fun σ2 H2 => wipe σ2 vs = wipe σ vs ∧ tk σ2 H2 fun y H4 => tv σ2 H4 fun z H5 => ∃ xs k, H5 D = some (MD w D xs) ∧ (∀ x ∈ xs, KeyV K H5 x.1 x.2.1) ∧ KeyV K H5 k y ∧ xs.length < sizeLine ∧ Pv (i + 1) (upd H5 D (MD w D (putM xs k y z))))
    (hd : ∀ H, Pv n H → Qd H) : ∃ W : Nat → Nat → Hp → Prop, (∃ m, W 0 m (upd H1 D (MD w D []))) ∧ ∀ i m H, W i m H → (J.stop i H ∧ Qd H) ∨
      (J.go i H ∧ ∃ Nx : Hp → Prop, (∀ H', Nx H' → ∃ m', m' < m ∧ W (i + 1) m' H') ∧ ∀ x H', J.yld i H x H' → g x (wipe σ vs) H' fun σ2 H2 => wipe σ2 vs = wipe σ vs ∧
        tk σ2 H2 fun y H4 => tv σ2 H4 fun z H5 => ∃ xs k, H5 D = some (MD w D xs) ∧ (∀ x ∈ xs, KeyV K H5 x.1 x.2.1) ∧ KeyV K H5 k y ∧ xs.length < sizeLine ∧ Nx (upd H5 D (MD w D (putM xs k y z)))) := by
  refine ⟨fun i m H => m + i = n ∧ Pv i H, ⟨n, rfl, h0⟩, fun i m H ⟨e, p⟩ => ?_⟩
  by_cases c : i = n
  · subst c
    exact .inl ⟨S.stop _ (hl _ _ (Nat.le_refl _) p), hd _ p⟩
  · have lt : i < n := by omega
    have q := hl i H (Nat.le_of_lt lt) p
    refine .inr ⟨S.go i H q lt, Pv (i + 1), fun H' p' => ⟨m - 1, by omega, by omega, p'⟩, fun x H' y => ?_⟩
    obtain ⟨e1, e2⟩ := S.yld i H x H' q lt y
    rw [e1, e2]
    exact hs i H lt p
/-! the iterators that we have -/
theorem steady_list {K : PySem.W.Frag} {a : Addr} {xs : List V} : Steady (Itl K a) xs.length (fun i => xs.getD i .non) (fun H => SqL K H a xs) where
  go := fun i H q lt => ⟨xs, xs[i], q, List.getElem?_eq_getElem lt⟩
  stop := fun H q => ⟨xs, q, Nat.le_refl _⟩
  yld := fun i H x H' q lt y => ⟨y.1, by
    have e := y.2 xs q
    rw [List.getD_eq_getElem?_getD, e]; rfl⟩
theorem steady_tup {K : PySem.W.Frag} {a : Addr} {xs : List V} : Steady (Itt K a) xs.length (fun i => xs.getD i .non) (fun H => SqT K H a xs) where
  go := fun i H q lt => ⟨xs, xs[i], q, List.getElem?_eq_getElem lt⟩
  stop := fun H q => ⟨xs, q, Nat.le_refl _⟩
  yld := fun i H x H' q lt y => ⟨y.1, by
    have e := y.2 xs q
    rw [List.getD_eq_getElem?_getD, e]; rfl⟩
theorem steady_str {x : Str} : Steady (Its x) x.cps.size (fun i => .str ⟨#[x.cps.getD i 0]⟩) (fun _ => True) where
  go := fun i H q lt => lt
  stop := fun H q => Nat.le_refl _
  yld := fun i H v H' q lt y => ⟨y.1, by
    obtain ⟨c, e, ev⟩ := y.2
    rw [ev, Array.getD_eq_getD_getElem?, e]; rfl⟩
theorem steady_key {w : World} {d : Addr} {o : Obj} {xs : List Ent} : Steady (ItM w d o xs) xs.length (fun i => (xs.map (·.2.1)).getD i .non) (fun H => H d = some (.frz o (MD w d xs))) where
  go := fun i H q lt => ⟨q, lt⟩
  stop := fun H q => ⟨q, Nat.le_refl _⟩
  yld := fun i H v H' q lt y => ⟨y.1, by
    obtain ⟨e, he, ev⟩ := y.2
    rw [ev, List.getD_eq_getElem?_getD, List.getElem?_map, he]; rfl⟩
end Fc
namespace Fc
open PySem L2 PyProof.Rows
/-- where the statements stand: the numbers that these texts use, and those of the program's top -/
def place : List Nat := [0, 1, 2, 3, 4, 5, 6, 7, 9, 10, 11, 12, 13, 14, 16, 17, 18, 19, 20, 21, 22, 24, 25, 26, 27, 28, 29, 30, 31, 32, 0, 0, 0, 0, 0, 0, 0, 0, 0, 0, 15, 23, 0, 33, 34, 35, 36, 37, 38, 39, 40, 41]
def topS (i : Nat) : Stmt := PySem.Challenge.pw_forkcells_k09_whole_rings_or_numbers.main.body.getD (place.getD i 0) (.Pass ⟨0, 0, 0, 0⟩)
/-- the built-ins are not hidden -/
structure Blt (mg : Str → Option Value) : Prop where
  isinstance : mg "isinstance" = none
  int : mg "int" = none
  bool : mg "bool" = none
  str : mg "str" = none
  tuple : mg "tuple" = none
  dict : mg "dict" = none
  list : mg "list" = none
  len : mg "len" = none
  abs : mg "abs" = none
  range : mg "range" = none
  sorted : mg "sorted" = none
  sum : mg "sum" = none
  max : mg "max" = none
  min : mg "min" = none
  repr : mg "repr" = none
abbrev isInt (d : PyData) : Bool := isTy d "int" && !isTy d "bool"
abbrev small (i : Int) : Bool := decide ((if i < 0 then -i else i) < 10 ^ 60)
def isNum (d : PyData) : Bool := match d with | .int i => small i | _ => false
def isIdx (d : PyData) (m : Int) : Bool := match d with | .int i => decide (0 ≤ i) && decide (i < m) | _ => false
theorem isInt_eq (d : PyData) : isInt d = match d with | .int _ => true | _ => false := by cases d <;> rfl
/-! promises -/
def spInt (K : PySem.W.Frag) (w : World) : Sp := fun vs H Q _ => ∃ v d, vs = [v] ∧ Dp K H v d ∧ Q (.bl (isInt d)) H
def spPassed (K : PySem.W.Frag) (w : World) : Sp := fun vs H Q _ => ∃ v d, vs = [v] ∧ Dp K H v d ∧ Q (.bl (isNum d)) H
def spIndex (K : PySem.W.Frag) (w : World) : Sp := fun vs H Q _ => ∃ v d m, vs = [v, .int m] ∧ Dp K H v d ∧ Q (.bl (isIdx d m)) H
section
variable {K : PySem.W.Frag} {mg : Str → Option Value} {base : Heap} {P : Program} {w : World}
theorem sc1 : FnScope ["value"] ["value"] (defScope (topS 1)) := ⟨rfl, rfl, rfl, by decide +kernel, rfl, by decide +kernel, by decide +kernel⟩
theorem ok1 {f : Addr} {fd : FuncData} (F : Fun K "is_any_integer" "is_any_integer" (topS 1) f fd) (B : Blt mg) : FnOk P w K mg base CX0 1 f fd ["value"] (spInt K w) := by
  refine F.ok sc1 (fun vs H Q E h => ?_) (fun cdv A outer s H vs Q E hr h => ?_)
  · obtain ⟨v, d, rfl, _⟩ := h
    rfl
  · obtain ⟨v, d, rfl, hd, q⟩ := h
    refine ⟨_, pss_one (ps_ret (pe_and (pe_callB call_isiD (by rfl) B.isinstance boot_isinstance (pa_cons (pv 0) (pa_cons (pe_bltn (v := .ty "int") (by rfl) B.int boot_int rfl) pa_nil)))
      (pe_one (pe_not (pe_callB call_isiD (by rfl) B.isinstance boot_isinstance (pa_cons (pv 0) (pa_cons (pe_bltn (v := .ty "bool") (by rfl) B.bool boot_bool rfl) pa_nil))))))), ?_⟩
    refine ⟨_, rfl, v, d, _, rfl, .inl hd, .inl rfl, _, rfl, ?_⟩
    unfold isInt at q
    cases e : isTy d "int" with
    | false =>
      rw [e] at q
      exact iteF q
    | true =>
      rw [e] at q
      exact iteT ⟨_, rfl, v, d, _, rfl, .inl hd, .inr (.inl rfl), _, rfl, q⟩
theorem sc2 : FnScope ["value"] ["value"] (defScope (topS 2)) := ⟨rfl, rfl, rfl, by decide +kernel, rfl, by decide +kernel, by decide +kernel⟩
theorem ok2 {f : Addr} {fd : FuncData} (F : Fun K "is_passed_integer" "is_passed_integer" (topS 2) f fd) (B : Blt mg) (c1 : Cal P w K mg base 1 "is_any_integer" (spInt K w)) : FnOk P w K mg base CX0 2 f fd ["value"] (spPassed K w) := by
  refine F.ok sc2 (fun vs H Q E h => ?_) (fun cdv A outer s H vs Q E hr h => ?_)
  · obtain ⟨v, d, rfl, _⟩ := h
    rfl
  · obtain ⟨v, d, rfl, hd, q⟩ := h
    refine ⟨_, pss_one (ps_ret (pe_and (pe_c c1 hr (by decide) (by rfl) (pa_cons (pv 0) pa_nil))
      (pe_one (pe_cmpR op_lt (pe_callB call_abs (by rfl) B.abs boot_abs (pa_cons (pv 0) pa_nil)) (pe_op op_pow pe_int pe_int) (nomark _))))), ?_⟩
    refine ⟨_, rfl, v, d, rfl, hd, _, rfl, ?_⟩
    rw [isInt_eq]
    cases hd with
    | int i => exact iteT ⟨_, rfl, i, rfl, 10, 60, rfl, rfl, ⟨by decide, by decide, by decide⟩, _, _, rfl, rfl, q⟩
    | non => exact iteF q
    | bl b => exact iteF q
    | str x => exact iteF q
    | lst _ _ => exact iteF q
    | tup _ _ => exact iteF q
theorem sc3 : FnScope ["value", "many"] ["value", "many"] (defScope (topS 3)) := ⟨rfl, rfl, rfl, by decide +kernel, rfl, by decide +kernel, by decide +kernel⟩
theorem ok3 {f : Addr} {fd : FuncData} (F : Fun K "is_index" "is_index" (topS 3) f fd) (B : Blt mg) (c1 : Cal P w K mg base 1 "is_any_integer" (spInt K w)) : FnOk P w K mg base CX0 2 f fd ["value", "many"] (spIndex K w) := by
  refine F.ok sc3 (fun vs H Q E h => ?_) (fun cdv A outer s H vs Q E hr h => ?_)
  · obtain ⟨v, d, m, rfl, _⟩ := h
    rfl
  · obtain ⟨v, d, m, rfl, hd, q⟩ := h
    refine ⟨_, pss_one (ps_ret (pe_and (pe_c c1 hr (by decide) (by rfl) (pa_cons (pv 0) pa_nil)) (pe_one (pe_chain op_le op_lt pe_int (pv 0) (pv 1))))), ?_⟩
    refine ⟨_, rfl, v, d, rfl, hd, _, rfl, ?_⟩
    rw [isInt_eq]
    cases hd with
    | int i =>
      refine iteT ⟨_, rfl, 0, i, rfl, rfl, _, rfl, ?_⟩
      replace q : Q (.bl (decide (0 ≤ i) && decide (i < m))) H := q
      by_cases c : (0 : Int) ≤ i
      · rw [decide_eq_true c] at q ⊢
        exact iteT ⟨_, rfl, i, m, rfl, rfl, q⟩
      · rw [decide_eq_false c] at q ⊢
        exact iteF q
    | non => exact iteF q
    | bl b => exact iteF q
    | str x => exact iteF q
    | lst _ _ => exact iteF q
    | tup _ _ => exact iteF q
/-! names -/
def lowC (c : Nat) : Bool := !decide ([c] < [97]) && !decide ([122] < [c])
def isNameS (x : Str) : Bool := decide (1 ≤ (x.length : Int)) && (decide ((x.length : Int) ≤ 8) && x.cps.toList.all lowC)
def spName (K : PySem.W.Frag) (w : World) : Sp := fun vs H Q _ => ∃ x : Str, vs = [.str x] ∧ x.length ≤ 1000 ∧ Q (.bl (isNameS x)) H
theorem sc8 : FnScope ["value", "letter"] ["value"] (defScope (topS 8)) := ⟨rfl, rfl, rfl, by decide +kernel, rfl, by decide +kernel, by decide +kernel⟩
theorem isTy_str (x : Str) : isTy (.str x) "str" = true := rfl
theorem ok8 {f : Addr} {fd : FuncData} (F : Fun K "is_name" "is_name" (topS 8) f fd) (B : Blt mg) : FnOk P w K mg base CX0 1 f fd ["value"] (spName K w) := by
  refine F.ok sc8 (fun vs H Q E h => ?_) (fun cdv A outer s H vs Q E hr h => ?_)
  · obtain ⟨x, rfl, _⟩ := h
    rfl
  · obtain ⟨x, rfl, hz, q⟩ := h
    refine ⟨_, pss_cons (ps_if (pw_or (pt_not (pt_val (pe_callB call_isiD (by rfl) B.isinstance boot_isinstance (pa_cons (pv 0) (pa_cons (pe_bltn (v := .ty "str") (by rfl) B.str boot_str rfl) pa_nil)))))
        (pw_or1 (pt_not (pt_chain op_le op_le pe_int (pe_callB call_len_str (by rfl) B.len boot_len (pa_cons (pv 0) pa_nil)) pe_int)))).pt (pss_one (ps_ret pe_bl)) pss_nil)
      (pss_cons (ps_for PassesOwn.never rfl (pi_str (pv 0)) (pg_name (i := 1) sc8.nd rfl (Or.inl rfl)) (pss_one (ps_if (pt_not (pt_chain op_le_str op_le_str pe_str (pv 1) pe_str)) (pss_one (ps_ret pe_bl)) pss_nil)))
      (pss_one (ps_ret pe_bl))), ?_⟩
    refine ⟨_, rfl, .str x, _, _, rfl, .inl (.str x), .inr (.inr (.inl rfl)), _, rfl, iteF ?_⟩
    have z1 : x.length ≤ sizeLine := by rw [sizeLine_eq]; omega
    refine ⟨_, rfl, x, rfl, z1, 1, _, rfl, rfl, _, rfl, ?_⟩
    unfold isNameS at q
    by_cases c1 : (1 : Int) ≤ (x.length : Int)
    · rw [decide_eq_true c1] at q ⊢
      refine iteT ⟨_, _, rfl, rfl, _, rfl, ?_⟩
      by_cases c2 : (x.length : Int) ≤ 8
      · rw [decide_eq_true c2] at q ⊢
        refine iteF ⟨_, rfl, x, rfl, ?_⟩
        replace q : Q (.bl (x.cps.toList.all lowC)) H := q
        refine for_steady steady_str (fun i σ H' => H' = H ∧ (∃ v, σ = [some (.str x), v]) ∧ (x.cps.toList.take i).all lowC = true) ⟨rfl, ⟨_, rfl⟩, rfl⟩ (fun _ _ _ _ _ => trivial) ?_ ?_
        · rintro i σ H' hi ⟨rfl, ⟨v, rfl⟩, pre⟩
          have hx : x.cps.getD i 0 = x.cps[i] := by rw [Array.getD_eq_getD_getElem?, Array.getElem?_eq_getElem hi]; rfl
          rw [hx]
          have tk : x.cps.toList.take (i + 1) = x.cps.toList.take i ++ [x.cps[i]] := by rw [List.take_add_one, List.getElem?_eq_getElem (by simpa using hi)]; simp
          refine ⟨_, rfl, _, _, rfl, rfl, _, rfl, ?_⟩
          have e1 : (!decide (({ cps := #[x.cps[i]] } : Str).cps.toList < (Str.ofString "a").cps.toList)) = !decide ([x.cps[i]] < [97]) := rfl
          have e2 : (!decide ((Str.ofString "z").cps.toList < ({ cps := #[x.cps[i]] } : Str).cps.toList)) = !decide ([122] < [x.cps[i]]) := rfl
          have mem : x.cps.toList.all lowC = true → lowC x.cps[i] = true := fun h => List.all_eq_true.mp h _ (by simp)
          have off : lowC x.cps[i] = false → Q (.bl false) H' := fun e => by
            have z : x.cps.toList.all lowC = false := by
              cases q2 : x.cps.toList.all lowC with
              | false => rfl
              | true => rw [mem q2] at e; cases e
            rw [z] at q
            exact q
          rw [e1]
          cases d1 : !decide ([x.cps[i]] < [97]) with
          | false => exact iteF ⟨_, rfl, iteT (off (by unfold lowC; rw [d1]; rfl))⟩
          | true =>
            refine iteT ⟨_, _, rfl, rfl, _, rfl, ?_⟩
            rw [e2]
            cases d2 : !decide ([122] < [x.cps[i]]) with
            | false => exact iteT (off (by unfold lowC; rw [d2, Bool.and_false]))
            | true =>
              refine iteF ⟨rfl, ⟨_, rfl⟩, ?_⟩
              rw [tk, List.all_append, pre]
              simp only [List.all_cons, List.all_nil, Bool.and_true, Bool.true_and]
              unfold lowC
              rw [d1, d2]
              rfl
        · rintro σ H' ⟨rfl, ⟨v, rfl⟩, pre⟩
          rw [List.take_of_length_le (by simp)] at pre
          rw [pre] at q
          exact q
      · rw [decide_eq_false c2] at q ⊢
        exact iteT q
    · rw [decide_eq_false c1] at q ⊢
      exact iteF ⟨_, rfl, iteT q⟩
end
end Fc
namespace Fc
open PySem L2 PyProof.Rows
def digC (c : Nat) : Bool := !decide ([c] < [48]) && !decide ([57] < [c])
/-- a star and a number: by its code points -/
def isNewL : List Nat → Bool
  | a :: b :: r => decide (a = 42) && (!decide (b = 48) && (digC b && r.all digC))
  | _ => false
def isNewS (x : Str) : Bool := isNewL x.cps.toList
def isPlaceS (x : Str) : Bool := decide (x = "") || (isNameS x || isNewS x)
def isPtK : Kd → Bool
  | .w x => isPlaceS x
  | .c a b i => isNameS a && (isPlaceS b && small i)
  | .cb a b t => false
  | .n _ => false
  | .no => false
def kdShort : Kd → Bool
  | .w x => decide (x.length ≤ 1000)
  | .c a b _ => decide (a.length ≤ 1000) && decide (b.length ≤ 1000)
  | .cb a b _ => decide (a.length ≤ 1000) && decide (b.length ≤ 1000)
  | _ => true
def spNew (K : PySem.W.Frag) (w : World) : Sp := fun vs H Q _ => ∃ x : Str, vs = [.str x] ∧ x.length ≤ 1000 ∧ Q (.bl (isNewS x)) H
def spPlace (K : PySem.W.Frag) (w : World) : Sp := fun vs H Q _ => (∃ x : Str, vs = [.str x] ∧ x.length ≤ 1000 ∧ Q (.bl (isPlaceS x)) H) ∨ ∃ v d, vs = [v] ∧ Dp K H v d ∧ isTy d "str" = false ∧ Q (.bl false) H
def spPoint (K : PySem.W.Frag) (w : World) : Sp := fun vs H Q _ => ∃ v k, vs = [v] ∧ KdV K H k v ∧ kdShort k = true ∧ Q (.bl (isPtK k)) H
theorem str_eq {c d : Nat} : decide (V.str ⟨#[c]⟩ = V.str ⟨#[d]⟩) = decide (c = d) := by
  by_cases e : c = d
  · subst e; simp
  · rw [decide_eq_false e]; simp [e]
theorem cut1 (a : Nat) (l : List Nat) : cutS (⟨⟨a :: l⟩⟩ : Str) (some 1) none = ⟨⟨l⟩⟩ := by
  have h0 : HT.sIx (a :: l).length 0 (some 1) = 1 := by
    unfold HT.sIx
    simp
  have h1 : HT.sIx (a :: l).length (a :: l).length none = (a :: l).length := rfl
  show (⟨(((a :: l).drop (HT.sIx (a :: l).length 0 (some 1))).take (HT.sIx (a :: l).length (a :: l).length none - HT.sIx (a :: l).length 0 (some 1))).toArray⟩ : Str) = _
  rw [h0, h1]
  have e : ((a :: l).drop 1).take ((a :: l).length - 1) = l := List.take_of_length_le (by simp)
  rw [e]
section
variable {K : PySem.W.Frag} {mg : Str → Option Value} {base : Heap} {P : Program} {w : World}
theorem sc25 : FnScope ["word", "letter"] ["word"] (defScope (topS 25)) := ⟨rfl, rfl, rfl, by decide +kernel, rfl, by decide +kernel, by decide +kernel⟩
theorem ok25 {f : Addr} {fd : FuncData} (F : Fun K "is_new_position" "is_new_position" (topS 25) f fd) (B : Blt mg) : FnOk P w K mg base CX0 1 f fd ["word"] (spNew K w) := by
  refine F.ok sc25 (fun vs H Q E h => ?_) (fun cdv A outer s H vs Q E hr h => ?_)
  · obtain ⟨x, rfl, _⟩ := h
    rfl
  · obtain ⟨x, rfl, hz, q⟩ := h
    have z1 : x.length ≤ sizeLine := by rw [sizeLine_eq]; omega
    refine ⟨_, pss_cons (ps_if (pw_or (pt_cmpR op_lt (pe_callB call_len_str (by rfl) B.len boot_len (pa_cons (pv 0) pa_nil)) pe_int (nomark _))
        (pw_or (pt_cmpR op_ne (pe_ix ix_str (pv 0) pe_int (fun _ _ => rfl)) pe_str (nomark _)) (pw_or1 (pt_cmpR op_eq (pe_ix ix_str (pv 0) pe_int (fun _ _ => rfl)) pe_str (nomark _))))).pt (pss_one (ps_ret pe_bl)) pss_nil)
      (pss_cons (ps_for PassesOwn.never rfl (pi_str (pe_slice sl_str (pv 0) (po_some pe_int) po_none)) (pg_name (i := 1) sc25.nd rfl (Or.inl rfl)) (pss_one (ps_if (pt_not (pt_chain op_le_str op_le_str pe_str (pv 1) pe_str)) (pss_one (ps_ret pe_bl)) pss_nil)))
      (pss_one (ps_ret pe_bl))), ?_⟩
    refine ⟨_, rfl, x, rfl, z1, _, _, rfl, rfl, _, rfl, ?_⟩
    have lx : x.length = x.cps.toList.length := by show x.cps.size = _; simp
    unfold isNewS at q
    obtain ⟨ar⟩ := x
    obtain ⟨l⟩ := ar
    match l, lx, q with
    | [], lx, q => exact iteT (iteT q)
    | [a], lx, q => exact iteT (iteT q)
    | a :: b :: r, lx, q =>
      have c0 : decide (((({ cps := ⟨a :: b :: r⟩ } : Str).length : Nat) : Int) < 2) = false := decide_eq_false (by rw [lx]; simp only [List.length_cons]; omega)
      rw [c0]
      refine iteF ⟨_, rfl, _, 0, a, rfl, rfl, z1, atI_nat (j := 0) rfl, rfl, _, rfl, ?_⟩
      rw [show decide (V.str ⟨#[a]⟩ = V.str "*") = decide (a = 42) from str_eq]
      replace q : Q (.bl (decide (a = 42) && (!decide (b = 48) && (digC b && r.all digC)))) H := q
      by_cases c1 : a = 42
      · rw [decide_eq_true c1] at q ⊢
        refine iteF ⟨_, rfl, _, 1, b, rfl, rfl, z1, atI_nat (j := 1) rfl, rfl, _, rfl, ?_⟩
        rw [show decide (V.str ⟨#[b]⟩ = V.str "0") = decide (b = 48) from str_eq]
        by_cases c2 : b = 48
        · rw [decide_eq_true c2] at q ⊢
          exact iteT q
        · rw [decide_eq_false c2] at q ⊢
          refine iteF ⟨_, rfl, 1, rfl, _, rfl, z1, ?_⟩
          have ec : cutS (⟨⟨a :: b :: r⟩⟩ : Str) (some 1) none = ⟨⟨b :: r⟩⟩ := cut1 a (b :: r)
          rw [ec]
          refine ⟨_, rfl, ?_⟩
          replace q : Q (.bl ((b :: r).all digC)) H := q
          generalize (b :: r) = l at q
          refine for_steady steady_str (fun i σ H' => H' = H ∧ (∃ v, σ = [some (.str ⟨⟨a :: l⟩⟩), v]) ∧ (l.take i).all digC = true) ⟨rfl, ⟨_, rfl⟩, rfl⟩ (fun _ _ _ _ _ => trivial) ?_ ?_
          · rintro i σ H' hi ⟨rfl, ⟨v, rfl⟩, pre⟩
            have hi' : i < l.length := hi
            have hx : (⟨l⟩ : Array Nat).getD i 0 = l[i] := by rw [Array.getD_eq_getD_getElem?, Array.getElem?_eq_getElem hi]; rfl
            rw [hx]
            have tk : l.take (i + 1) = l.take i ++ [l[i]] := by rw [List.take_add_one, List.getElem?_eq_getElem hi']; simp
            refine ⟨_, rfl, _, _, rfl, rfl, _, rfl, ?_⟩
            have e1 : (!decide (({ cps := #[l[i]] } : Str).cps.toList < (Str.ofString "0").cps.toList)) = !decide ([l[i]] < [48]) := rfl
            have e2 : (!decide ((Str.ofString "9").cps.toList < ({ cps := #[l[i]] } : Str).cps.toList)) = !decide ([57] < [l[i]]) := rfl
            have mem : l.all digC = true → digC l[i] = true := fun h => List.all_eq_true.mp h _ (by simp)
            have off : digC l[i] = false → Q (.bl false) H' := fun e => by
              have z : l.all digC = false := by
                cases q2 : l.all digC with
                | false => rfl
                | true => rw [mem q2] at e; cases e
              rw [z] at q
              exact q
            rw [e1]
            cases d1 : !decide ([l[i]] < [48]) with
            | false => exact iteF ⟨_, rfl, iteT (off (by unfold digC; rw [d1]; rfl))⟩
            | true =>
              refine iteT ⟨_, _, rfl, rfl, _, rfl, ?_⟩
              rw [e2]
              cases d2 : !decide ([57] < [l[i]]) with
              | false => exact iteT (off (by unfold digC; rw [d2, Bool.and_false]))
              | true =>
                refine iteF ⟨rfl, ⟨_, rfl⟩, ?_⟩
                rw [tk, List.all_append, pre]
                simp only [List.all_cons, List.all_nil, Bool.and_true, Bool.true_and]
                unfold digC
                rw [d1, d2]
                rfl
          · rintro σ H' ⟨rfl, ⟨v, rfl⟩, pre⟩
            rw [List.take_of_length_le (Nat.le_of_eq (by simp))] at pre
            rw [pre] at q
            exact q
      · rw [decide_eq_false c1] at q ⊢
        exact iteT (iteT q)
end
end Fc
namespace Fc
open PySem L2 PyProof.Rows
section
variable {K : PySem.W.Frag} {mg : Str → Option Value} {base : Heap} {P : Program} {w : World}
theorem sc24 : FnScope ["value"] ["value"] (defScope (topS 24)) := ⟨rfl, rfl, rfl, by decide +kernel, rfl, by decide +kernel, by decide +kernel⟩
theorem ok24 {f : Addr} {fd : FuncData} (F : Fun K "is_place" "is_place" (topS 24) f fd) (B : Blt mg) (c8 : Cal P w K mg base 1 "is_name" (spName K w)) (c25 : Cal P w K mg base 1 "is_new_position" (spNew K w)) : FnOk P w K mg base CX0 2 f fd ["value"] (spPlace K w) := by
  refine F.ok sc24 (fun vs H Q E h => ?_) (fun cdv A outer s H vs Q E hr h => ?_)
  · rcases h with ⟨x, rfl, _⟩ | ⟨v, d, rfl, _⟩ <;> rfl
  · refine ⟨_, pss_cons (ps_if (pt_not (pt_val (pe_callB call_isiD (by rfl) B.isinstance boot_isinstance (pa_cons (pv 0) (pa_cons (pe_bltn (v := .ty "str") (by rfl) B.str boot_str rfl) pa_nil))))) (pss_one (ps_ret pe_bl)) pss_nil)
      (pss_one (ps_ret (pe_or (pe_cmpR op_eq (pv 0) pe_str (nomark _)) (pe_or (pe_c c8 hr (by decide) (by rfl) (pa_cons (pv 0) pa_nil)) (pe_one (pe_c c25 hr (by decide) (by rfl) (pa_cons (pv 0) pa_nil))))))), ?_⟩
    rcases h with ⟨x, rfl, hz, q⟩ | ⟨v, d, rfl, hd, ht, q⟩
    · refine ⟨_, rfl, .str x, _, _, rfl, .inl (.str x), .inr (.inr (.inl rfl)), _, rfl, iteF ?_⟩
      refine ⟨_, rfl, rfl, _, rfl, ?_⟩
      have e : decide (V.str x = V.str "") = decide (x = "") := by
        by_cases e : x = "" <;> simp [e]
      rw [e]
      unfold isPlaceS at q
      by_cases c1 : x = ""
      · rw [decide_eq_true c1] at q ⊢
        exact iteT q
      · rw [decide_eq_false c1] at q ⊢
        refine iteF ⟨_, rfl, x, rfl, hz, _, rfl, ?_⟩
        cases c2 : isNameS x with
        | true => rw [c2] at q; exact iteT q
        | false => rw [c2] at q; exact iteF ⟨_, rfl, x, rfl, hz, q⟩
    · refine ⟨_, rfl, v, d, _, rfl, .inl hd, .inr (.inr (.inl rfl)), _, rfl, ?_⟩
      rw [ht]
      exact iteT q
theorem sc23 : FnScope ["value"] ["value"] (defScope (topS 23)) := ⟨rfl, rfl, rfl, by decide +kernel, rfl, by decide +kernel, by decide +kernel⟩
theorem ok23 {f : Addr} {fd : FuncData} (F : Fun K "is_point" "is_point" (topS 23) f fd) (B : Blt mg) (c2 : Cal P w K mg base 2 "is_passed_integer" (spPassed K w)) (c8 : Cal P w K mg base 1 "is_name" (spName K w)) (c24 : Cal P w K mg base 2 "is_place" (spPlace K w)) : FnOk P w K mg base CX0 3 f fd ["value"] (spPoint K w) := by
  refine F.ok sc23 (fun vs H Q E h => ?_) (fun cdv A outer s H vs Q E hr h => ?_)
  · obtain ⟨v, k, rfl, _⟩ := h
    rfl
  · refine ⟨_, pss_cons (ps_if (pt_not (pt_val (pe_callB call_isiD (by rfl) B.isinstance boot_isinstance (pa_cons (pv 0) (pa_cons (pe_bltn (v := .ty "tuple") (by rfl) B.tuple boot_tuple rfl) pa_nil))))) (pss_one (ps_ret (pe_c c24 hr (by decide) (by rfl) (pa_cons (pv 0) pa_nil)))) pss_nil)
      (pss_cons (ps_if (pt_cmpR op_ne (pe_callB call_len_seq (by rfl) B.len boot_len (pa_cons (pv 0) pa_nil)) pe_int (nomark _)) (pss_one (ps_ret pe_bl)) pss_nil)
      (pss_one (ps_ret (pe_and (pe_c c8 hr (by decide) (by rfl) (pa_cons (pe_ix ix_tup (pv 0) pe_int (fun _ _ => rfl)) pa_nil)) (pe_and (pe_c c24 hr (by decide) (by rfl) (pa_cons (pe_ix ix_tup (pv 0) pe_int (fun _ _ => rfl)) pa_nil)) (pe_one (pe_c c2 hr (by decide) (by rfl) (pa_cons (pe_ix ix_tup (pv 0) pe_int (fun _ _ => rfl)) pa_nil)))))))), ?_⟩
    obtain ⟨v, k, rfl, hk, hs, q⟩ := h
    refine ⟨_, rfl, v, _, _, rfl, .inl hk.dp, .inr (.inr (.inr (.inl rfl))), _, rfl, ?_⟩
    cases k with
    | w x =>
      cases hk
      exact iteT ⟨_, rfl, .inl ⟨x, rfl, of_decide_eq_true hs, q⟩⟩
    | n i =>
      cases hk
      exact iteT ⟨_, rfl, .inr ⟨_, _, rfl, .int i, rfl, q⟩⟩
    | no =>
      cases hk
      exact iteT ⟨_, rfl, .inr ⟨_, _, rfl, .non, rfl, q⟩⟩
    | c a b i =>
      obtain ⟨t, rfl, st⟩ := hk
      obtain ⟨ha, hb⟩ := (Bool.and_eq_true _ _).mp hs
      refine iteF ⟨_, rfl, t, _, rfl, .inr st, rfl, _, rfl, iteF ⟨_, rfl, t, _, 0, _, rfl, rfl, st, atI_nat (j := 0) rfl, a, rfl, of_decide_eq_true ha, _, rfl, ?_⟩⟩
      have q' : Q (.bl (isNameS a && (isPlaceS b && small i))) H := q
      cases c1 : isNameS a with
      | false => rw [c1] at q'; exact iteF q'
      | true =>
        refine iteT ⟨_, rfl, t, _, 1, _, rfl, rfl, st, atI_nat (j := 1) rfl, .inl ⟨b, rfl, of_decide_eq_true hb, _, rfl, ?_⟩⟩
        cases c2 : isPlaceS b with
        | false => rw [c1, c2] at q'; exact iteF q'
        | true =>
          rw [c1, c2] at q'
          exact iteT ⟨_, rfl, t, _, 2, _, rfl, rfl, st, atI_nat (j := 2) rfl, _, _, rfl, .int i, q'⟩
    | cb a b z =>
      obtain ⟨t, rfl, st⟩ := hk
      obtain ⟨ha, hb⟩ := (Bool.and_eq_true _ _).mp hs
      refine iteF ⟨_, rfl, t, _, rfl, .inr st, rfl, _, rfl, iteF ⟨_, rfl, t, _, 0, _, rfl, rfl, st, atI_nat (j := 0) rfl, a, rfl, of_decide_eq_true ha, _, rfl, ?_⟩⟩
      have q' : Q (.bl (isNameS a && (isPlaceS b && false))) H := by rw [Bool.and_false, Bool.and_false]; exact q
      cases c1 : isNameS a with
      | false => rw [c1] at q'; exact iteF q'
      | true =>
        refine iteT ⟨_, rfl, t, _, 1, _, rfl, rfl, st, atI_nat (j := 1) rfl, .inl ⟨b, rfl, of_decide_eq_true hb, _, rfl, ?_⟩⟩
        cases c2 : isPlaceS b with
        | false => rw [c1, c2] at q'; exact iteF q'
        | true =>
          rw [c1, c2] at q'
          exact iteT ⟨_, rfl, t, _, 2, _, rfl, rfl, st, atI_nat (j := 2) rfl, _, _, rfl, .bl z, q'⟩
end
end Fc
namespace Fc
open PySem L2 PyProof.Rows
abbrev Row := Kd × Kd × Int
def RowV (K : PySem.W.Frag) (H : Hp) (r : Row) (v : V) : Prop := ∃ t a b, v = .ref t ∧ SqT K H t [a, b, .int r.2.2] ∧ KdV K H r.1 a ∧ KdV K H r.2.1 b
theorem RowV.mono {K : PySem.W.Frag} {H H' : Hp} {r : Row} {v : V} (t : Tups K H H') (h : RowV K H r v) : RowV K H' r v := let ⟨p, a, b, e, s, k1, k2⟩ := h; ⟨p, a, b, e, t _ _ s, k1.mono t, k2.mono t⟩
/-- a tuple of rows -/
def RowsT (K : PySem.W.Frag) (H : Hp) (R : List Row) (t : Addr) : Prop := ∃ vs, SqT K H t vs ∧ Paired (RowV K H) R vs
theorem RowsT.mono {K : PySem.W.Frag} {H H' : Hp} {R : List Row} {t : Addr} (tp : Tups K H H') (h : RowsT K H R t) : RowsT K H' R t := let ⟨vs, s, p⟩ := h; ⟨vs, tp _ _ s, Paired.mapP p fun _ _ h => h.mono tp⟩
def okRow (r : Row) : Bool := isPtK r.1 && kdShort r.1 && (isPtK r.2.1 && kdShort r.2.1) && small r.2.2
theorem paired_at {α β : Type} {p : α → β → Prop} {as : List α} {bs : List β} (h : Paired p as bs) {i : Nat} {a : α} {b : β} (ha : as[i]? = some a) (hb : bs[i]? = some b) : p a b := by
  induction h generalizing i with
  | nil => simp at ha
  | cons h _ ih =>
    cases i with
    | zero => simp at ha hb; rw [← ha, ← hb]; exact h
    | succ i => exact ih (by simpa using ha) (by simpa using hb)
theorem paired_len {α β : Type} {p : α → β → Prop} {as : List α} {bs : List β} (h : Paired p as bs) : as.length = bs.length := by
  induction h with
  | nil => rfl
  | cons _ _ ih => simp [ih]
theorem paired_getD {α β : Type} {p : α → β → Prop} {as : List α} {bs : List β} (h : Paired p as bs) {i : Nat} {a0 : α} {b0 : β} (hi : i < as.length) : p (as.getD i a0) (bs.getD i b0) := by
  have hb : i < bs.length := paired_len h ▸ hi
  refine paired_at h (i := i) ?_ ?_
  · rw [List.getD_eq_getElem?_getD, List.getElem?_eq_getElem hi]; rfl
  · rw [List.getD_eq_getElem?_getD, List.getElem?_eq_getElem hb]; rfl
def spDiff (K : PySem.W.Frag) (w : World) : Sp := fun vs H Q _ => ∃ v r, vs = [v] ∧ RowV K H r v ∧ okRow r = true ∧ Q (.bl true) H
def spReq (K : PySem.W.Frag) (w : World) : Sp := fun vs H Q _ => ∃ t R, vs = [.ref t] ∧ RowsT K H R t ∧ R.length ≤ 60 ∧ (∀ r ∈ R, okRow r = true) ∧ Q .non H
section
variable {K : PySem.W.Frag} {mg : Str → Option Value} {base : Heap} {P : Program} {w : World}
theorem sc22 : FnScope ["value"] ["value"] (defScope (topS 22)) := ⟨rfl, rfl, rfl, by decide +kernel, rfl, by decide +kernel, by decide +kernel⟩
theorem isTy_tup (l : List PyData) : isTy (.tuple l) "tuple" = true := rfl
theorem RowV.dp {K : PySem.W.Frag} {H : Hp} {r : Row} {v : V} (h : RowV K H r v) : Dp K H v (.tuple [pd r.1, pd r.2.1, .int r.2.2]) := by
  obtain ⟨t, a, b, rfl, s, k1, k2⟩ := h
  exact .tup s (.cons k1.dp (.cons k2.dp (.cons (.int _) .nil)))
theorem rows_dp {K : PySem.W.Frag} {H : Hp} {R : List Row} {vs : List V} (p : Paired (RowV K H) R vs) : DpAll K H vs (R.map fun r => .tuple [pd r.1, pd r.2.1, .int r.2.2]) := by
  induction p with
  | nil => exact .nil
  | cons h _ ih => exact .cons h.dp ih
theorem ok22 {f : Addr} {fd : FuncData} (F : Fun K "is_difference" "is_difference" (topS 22) f fd) (B : Blt mg) (c2 : Cal P w K mg base 2 "is_passed_integer" (spPassed K w)) (c23 : Cal P w K mg base 3 "is_point" (spPoint K w)) : FnOk P w K mg base CX0 4 f fd ["value"] (spDiff K w) := by
  refine F.ok sc22 (fun vs H Q E h => ?_) (fun cdv A outer s H vs Q E hr h => ?_)
  · obtain ⟨v, k, rfl, _⟩ := h
    rfl
  · refine ⟨_, pss_cons (ps_if (pw_or (pt_not (pt_val (pe_callB call_isiD (by rfl) B.isinstance boot_isinstance (pa_cons (pv 0) (pa_cons (pe_bltn (v := .ty "tuple") (by rfl) B.tuple boot_tuple rfl) pa_nil))))) (pw_or1 (pt_cmpR op_ne (pe_callB call_len_seq (by rfl) B.len boot_len (pa_cons (pv 0) pa_nil)) pe_int (nomark _)))).pt (pss_one (ps_ret pe_bl)) pss_nil)
      (pss_one (ps_ret (pe_and (pe_c c23 hr (by decide) (by rfl) (pa_cons (pe_ix ix_tup (pv 0) pe_int (fun _ _ => rfl)) pa_nil)) (pe_and (pe_c c23 hr (by decide) (by rfl) (pa_cons (pe_ix ix_tup (pv 0) pe_int (fun _ _ => rfl)) pa_nil)) (pe_one (pe_c c2 hr (by decide) (by rfl) (pa_cons (pe_ix ix_tup (pv 0) pe_int (fun _ _ => rfl)) pa_nil))))))), ?_⟩
    obtain ⟨v, r, rfl, hv, ho, q⟩ := h
    refine ⟨_, rfl, v, _, _, rfl, .inl hv.dp, .inr (.inr (.inr (.inl rfl))), _, rfl, iteF ?_⟩
    obtain ⟨t, a, b, rfl, st, k1, k2⟩ := hv
    unfold okRow at ho
    simp only [Bool.and_eq_true] at ho
    obtain ⟨⟨⟨o1, o2⟩, o3, o4⟩, o5⟩ := ho
    refine ⟨_, rfl, t, _, rfl, .inr st, rfl, _, rfl, iteF ⟨_, rfl, t, _, 0, _, rfl, rfl, st, atI_nat (j := 0) rfl, a, _, rfl, k1, o2, _, rfl, ?_⟩⟩
    rw [o1]
    refine iteT ⟨_, rfl, t, _, 1, _, rfl, rfl, st, atI_nat (j := 1) rfl, b, _, rfl, k2, o4, _, rfl, ?_⟩
    rw [o3]
    refine iteT ⟨_, rfl, t, _, 2, _, rfl, rfl, st, atI_nat (j := 2) rfl, _, _, rfl, .int _, ?_⟩
    have e : isNum (.int r.2.2) = true := o5
    rw [e]
    exact q
theorem sc21 : FnScope ["value", "difference"] ["value"] (defScope (topS 21)) := ⟨rfl, rfl, rfl, by decide +kernel, rfl, by decide +kernel, by decide +kernel⟩
theorem ok21 {f : Addr} {fd : FuncData} (F : Fun K "require_differences" "require_differences" (topS 21) f fd) (B : Blt mg) {t60 : Nat} (hM : mg "MAX_DIFFERENCES" = some (.int 60 t60)) (c22 : Cal P w K mg base 4 "is_difference" (spDiff K w)) : FnOk P w K mg base CX0 5 f fd ["value"] (spReq K w) := by
  refine F.ok sc21 (fun vs H Q E h => ?_) (fun cdv A outer s H vs Q E hr h => ?_)
  · obtain ⟨v, k, rfl, _⟩ := h
    rfl
  · refine ⟨_, pss_cons (ps_if (pw_or (pt_not (pt_val (pe_callB call_isiD (by rfl) B.isinstance boot_isinstance (pa_cons (pv 0) (pa_cons (pe_bltn (v := .ty "tuple") (by rfl) B.tuple boot_tuple rfl) pa_nil))))) (pw_or1 (pt_cmpR op_gt (pe_callB call_len_seq (by rfl) B.len boot_len (pa_cons (pv 0) pa_nil)) (pe_glob (v := .int 60) (by rfl) hM ⟨_, rfl⟩) (nomark _)))).pt pss_never pss_nil)
      (pss_one (ps_for PassesOwn.never rfl (pi_tup (pv 0)) (pg_name (i := 1) sc21.nd rfl (Or.inl rfl)) (pss_one (ps_if (pt_not (pt_val (pe_c c22 hr (by decide) (by rfl) (pa_cons (pv 1) pa_nil)))) pss_never pss_nil)))), ?_⟩
    obtain ⟨t, R, rfl, ⟨vs, st, pr⟩, hl, ho, q⟩ := h
    have dp : Dp K H (.ref t) (.tuple (R.map fun r => .tuple [pd r.1, pd r.2.1, .int r.2.2])) := .tup st (rows_dp pr)
    refine ⟨_, rfl, _, _, _, rfl, .inl dp, .inr (.inr (.inr (.inl rfl))), _, rfl, iteF ?_⟩
    refine ⟨_, rfl, t, _, rfl, .inr st, _, _, rfl, rfl, _, rfl, ?_⟩
    have e0 : decide ((60 : Int) < (vs.length : Int)) = false := decide_eq_false (by rw [← paired_len pr]; omega)
    rw [e0]
    refine iteF ⟨_, rfl, t, rfl, ⟨vs, st⟩, ?_⟩
    refine for_steady steady_tup (fun i σ H' => H' = H ∧ ∃ v, σ = [some (.ref t), v]) ⟨rfl, _, rfl⟩ (fun _ _ _ _ h => h.1 ▸ st) ?_ ?_
    · rintro i σ H' hi ⟨rfl, v, rfl⟩
      have hi' : i < R.length := by rw [paired_len pr]; exact hi
      refine ⟨_, rfl, _, R.getD i (.no, .no, 0), rfl, paired_getD pr hi', ho _ ?_, _, rfl, iteF ⟨rfl, _, rfl⟩⟩
      rw [List.getD_eq_getElem?_getD, List.getElem?_eq_getElem hi']
      exact List.getElem_mem hi'
    · rintro σ H' ⟨rfl, v, rfl⟩
      exact q
end
end Fc
namespace Fc
open PySem L2 PyProof.Rows
/-! tables of any kind of values -/
section
variable {α : Type}
def putG : List (Kd × α) → Kd → α → List (Kd × α)
  | [], k, v => [(k, v)]
  | (a, u) :: r, k, v => if nk a = nk k then (a, v) :: r else (a, u) :: putG r k v
def lookG (B : List (Kd × α)) (k : Kd) : Option α := (B.find? fun e => decide (nk e.1 = nk k)).map (·.2)
def asV (f : α → V) (B : List (Kd × α)) : List (Kd × V) := B.map fun e => (e.1, f e.2)
theorem putN_asV (f : α → V) (B : List (Kd × α)) (k : Kd) (v : α) : putN (asV f B) k (f v) = asV f (putG B k v) := by
  induction B with
  | nil => rfl
  | cons b B ih =>
    obtain ⟨a, u⟩ := b
    show putN ((a, f u) :: asV f B) k (f v) = asV f (putG ((a, u) :: B) k v)
    unfold putN putG
    by_cases e : nk a = nk k
    · rw [if_pos e, if_pos e]; rfl
    · rw [if_neg e, if_neg e, ih]; rfl
theorem lookN_asV (f : α → V) (B : List (Kd × α)) (k : Kd) : lookN (asV f B) k = (lookG B k).map f := by
  induction B with
  | nil => rfl
  | cons b B ih =>
    obtain ⟨a, u⟩ := b
    unfold lookN lookG at *
    rw [show asV f ((a, u) :: B) = (a, f u) :: asV f B from rfl, List.find?_cons, List.find?_cons]
    by_cases e : nk a = nk k
    · simp [e]
    · simp only [e, decide_false]; exact ih
theorem lookG_cons (a : Kd) (u : α) (B : List (Kd × α)) (k : Kd) : lookG ((a, u) :: B) k = if nk a = nk k then some u else lookG B k := by
  unfold lookG
  rw [List.find?_cons]
  by_cases e : nk a = nk k <;> simp [e]
theorem look_put (B : List (Kd × α)) (k : Kd) (v : α) (j : Kd) : lookG (putG B k v) j = if nk k = nk j then some v else lookG B j := by
  induction B with
  | nil =>
    unfold putG
    rw [lookG_cons]
  | cons b B ih =>
    obtain ⟨a, u⟩ := b
    unfold putG
    by_cases e : nk a = nk k
    · rw [if_pos e, lookG_cons, lookG_cons, e]
      by_cases e2 : nk k = nk j
      · rw [if_pos e2, if_pos e2]
      · rw [if_neg e2, if_neg e2, if_neg e2]
    · rw [if_neg e, lookG_cons, lookG_cons, ih]
      by_cases e2 : nk k = nk j
      · rw [if_pos e2, if_neg (fun z => e (z.trans e2.symm)), if_pos e2]
      · rw [if_neg e2, if_neg e2]
def addK (l : List Kd) (k : Kd) : List Kd := if (∃ e ∈ l, nk e = nk k) then l else l ++ [k]
theorem keys_put (B : List (Kd × α)) (k : Kd) (v : α) : (putG B k v).map (·.1) = addK (B.map (·.1)) k := by
  induction B with
  | nil => unfold putG addK; simp
  | cons b B ih =>
    obtain ⟨a, u⟩ := b
    unfold putG
    by_cases e : nk a = nk k
    · rw [if_pos e]
      unfold addK
      rw [if_pos ⟨a, by simp, e⟩]
      rfl
    · rw [if_neg e, List.map_cons, ih]
      unfold addK
      by_cases c : ∃ x ∈ B.map (·.1), nk x = nk k
      · obtain ⟨x, hx, ex⟩ := c
        rw [if_pos ⟨x, hx, ex⟩, if_pos ⟨x, by simp only [List.map_cons]; exact List.mem_cons_of_mem _ hx, ex⟩]
        rfl
      · rw [if_neg c, if_neg]
        · rfl
        · rintro ⟨x, hx, ex⟩
          rw [List.map_cons] at hx
          rcases List.mem_cons.mp hx with h | h
          · exact e (by rw [← ex, h])
          · exact c ⟨x, h, ex⟩
theorem lookG_some_iff (B : List (Kd × α)) (k : Kd) : (lookG B k).isSome = true ↔ ∃ e ∈ B.map (·.1), nk e = nk k := by
  induction B with
  | nil => simp [lookG]
  | cons b B ih =>
    obtain ⟨a, u⟩ := b
    rw [lookG_cons]
    by_cases e : nk a = nk k
    · rw [if_pos e]; simp [e]
    · rw [if_neg e, ih, List.map_cons]
      constructor
      · rintro ⟨x, hx, ex⟩; exact ⟨x, List.mem_cons_of_mem _ hx, ex⟩
      · rintro ⟨x, hx, ex⟩
        rcases List.mem_cons.mp hx with h | h
        · exact absurd (by rw [← ex, h]) e
        · exact ⟨x, h, ex⟩
end
/-- the points, one by one -/
def seenOf (R : List Row) : List (Kd × Unit) := R.foldl (fun B r => putG (putG B r.1 ()) r.2.1 ()) [(.w "", ())]
def ptsOf (R : List Row) : List Kd := R.foldl (fun l r => addK (addK l r.1) r.2.1) [.w ""]
theorem keys_seen (R : List Row) : (seenOf R).map (·.1) = ptsOf R := by
  have gen : ∀ (R : List Row) (B : List (Kd × Unit)) (l : List Kd), B.map (·.1) = l → (R.foldl (fun B r => putG (putG B r.1 ()) r.2.1 ()) B).map (·.1) = R.foldl (fun l r => addK (addK l r.1) r.2.1) l := by
    intro R
    induction R with
    | nil => intro B l h; exact h
    | cons r R ih =>
      intro B l h
      rw [List.foldl_cons, List.foldl_cons]
      refine ih _ _ ?_
      rw [keys_put, keys_put, h]
  exact gen R _ _ rfl
theorem len_addK (l : List Kd) (k : Kd) : (addK l k).length ≤ l.length + 1 := by
  unfold addK
  by_cases c : ∃ e ∈ l, nk e = nk k
  · rw [if_pos c]; omega
  · rw [if_neg c]; simp
theorem len_pts (R : List Row) : (ptsOf R).length ≤ 2 * R.length + 1 := by
  have gen : ∀ (R : List Row) (l : List Kd), (R.foldl (fun l r => addK (addK l r.1) r.2.1) l).length ≤ 2 * R.length + l.length := by
    intro R
    induction R with
    | nil => intro l; simp
    | cons r R ih =>
      intro l
      rw [List.foldl_cons]
      have h1 := ih (addK (addK l r.1) r.2.1)
      have h2 := len_addK (addK l r.1) r.2.1
      have h3 := len_addK l r.1
      simp only [List.length_cons]
      omega
  exact gen R [.w ""]
theorem len_seen (R : List Row) : (seenOf R).length ≤ 2 * R.length + 1 := by
  have h := len_pts R
  rw [← keys_seen, List.length_map] at h
  exact h
theorem keys_asV {α : Type} (f : α → V) (B : List (Kd × α)) : (asV f B).map (·.1) = B.map (·.1) := by unfold asV; simp
theorem take_snoc {α : Type} {l : List α} {i : Nat} {a0 : α} (h : i < l.length) : l.take (i + 1) = l.take i ++ [l.getD i a0] := by
  rw [List.take_add_one, List.getD_eq_getElem?_getD, List.getElem?_eq_getElem h]; rfl
theorem same_new {H : Hp} {a : Addr} {o : HO} (h : H a = none) : Same H (upd H a o) := fun b u e => by rw [upd_ne (ne_of_none e h)]; exact e
/-- all but what stands at D -/
def But (D : Addr) (H H' : Hp) : Prop := ∀ b o, b ≠ D → H b = some o → H' b = some o
theorem set_tab {K : PySem.W.Frag} {w : World} {H : Hp} {D : Addr} {B : List (Kd × V)} {k : Kd} {kv v : V} {Q : Hp → Prop} (tb : TabIs K w H D B) (hk : KdV K H k kv) (hl : B.length < sizeLine)
    (q : ∀ H', But D H H' → Tups K H H' → TabIs K w H' D (putN B k v) → Q H') : rSetM K w (.ref D) kv v H Q := by
  obtain ⟨xs, hx, p⟩ := tb
  refine ⟨D, xs, nk k, rfl, hx, tabR_keys p, hk.key, by rw [← paired_len p]; exact hl, ?_⟩
  have tp : Tups K H (upd H D (MD w D (putM xs (nk k) kv v))) := Tups.upd fun u e => by rw [hx] at e; cases e; exact True.intro
  exact q _ (fun b o ne e => by rw [upd_ne ne]; exact e) tp ⟨_, upd_same, tabR_mono tp (tabR_put hk p)⟩
theorem ix_tab {K : PySem.W.Frag} {w : World} {H : Hp} {D : Addr} {B : List (Kd × V)} {k : Kd} {kv v : V} {Q : VK} (tb : TabIs K w H D B) (hk : KdV K H k kv) (hv : lookN B k = some v) (q : Q v H) : rIxM K w (.ref D) kv H Q := by
  obtain ⟨xs, ta, p⟩ := tb.at
  exact ⟨D, xs, nk k, v, rfl, ta, hk.key, by rw [tabR_val p]; exact hv, q⟩
theorem in_tab {K : PySem.W.Frag} {w : World} {H : Hp} {D : Addr} {B : List (Kd × V)} {k : Kd} {kv : V} {g : Bool → Bool} {Q : VK} (tb : TabIs K w H D B) (hk : KdV K H k kv) (q : Q (.bl (g (lookN B k).isSome)) H) : rInM K w g kv (.ref D) H Q := by
  obtain ⟨xs, ta, p⟩ := tb.at
  exact ⟨D, xs, nk k, rfl, ta, hk.key, by rw [tabR_val p]; exact q⟩
theorem len_asV {α : Type} (f : α → V) (B : List (Kd × α)) : (asV f B).length = B.length := by unfold asV; simp
theorem TabIs.len {K : PySem.W.Frag} {w : World} {H : Hp} {D : Addr} {B : List (Kd × V)} {xs : List Ent} (p : Paired (TabR K H) B xs) : xs.length = B.length := (paired_len p).symm
/-- a list of the keys at p -/
def KeysL (K : PySem.W.Frag) (H : Hp) (p : Addr) (l : List Kd) : Prop := ∃ ys, H p = some (.lst ys) ∧ Paired (KdV K H) l ys
theorem keys_of_tab {K : PySem.W.Frag} {H : Hp} {B : List (Kd × V)} {xs : List Ent} (p : Paired (TabR K H) B xs) : Paired (KdV K H) (B.map (·.1)) (xs.map (·.2.1)) := by
  induction p with
  | nil => exact .nil
  | cons h _ ih => exact .cons h.2.1 ih
def spPts (K : PySem.W.Frag) (w : World) : Sp := fun vs H Q _ => ∃ t R, vs = [.ref t] ∧ RowsT K H R t ∧ R.length ≤ 60 ∧ ∀ p H', Same H H' → H p = none → KeysL K H' p (ptsOf R) → Q (.ref p) H'
section
variable {K : PySem.W.Frag} {mg : Str → Option Value} {base : Heap} {P : Program} {w : World}
theorem hu9 {n : Nat} (h : n + 70 < cLine) : n + 9 < cLine := by omega
theorem sc10 : FnScope ["differences", "seen", "one", "other", "_"] ["differences"] (defScope (topS 10)) := ⟨rfl, rfl, rfl, by decide +kernel, rfl, by decide +kernel, by decide +kernel⟩
theorem ok10 {f : Addr} {fd : FuncData} (F : Fun K "points_of" "points_of" (topS 10) f fd) (B : Blt mg) : FnOk P w K mg base CX0 1 f fd ["differences"] (spPts K w) := by
  refine F.ok sc10 (fun vs H Q E h => ?_) (fun cdv A outer s H vs Q E hr h => ?_)
  · obtain ⟨v, k, rfl, _⟩ := h
    rfl
  · have hu := hu70 hr
    refine ⟨_, pss_cons (ps_set (i := 1) sc10.nd rfl (Or.inl rfl) (pe_asM (pe_disp (pps_cons pe_str pe_bl pps_nil) (by rfl) (by rfl) (by simp) (by decide))))
      (pss_cons (ps_for PassesOwn.never rfl (pi_tup (pv 0)) (pg_tup rfl (pgs_cons (pg_name (i := 2) sc10.nd rfl (Or.inl rfl)) (pgs_cons (pg_name (i := 3) sc10.nd rfl (Or.inl rfl)) (pgs_cons (pg_name (i := 4) sc10.nd rfl (Or.inl rfl)) pgs_nil))))
        (pss_cons (ps_asg pe_bl (pg_sub (pv 1) (pv 2) (set_md (hu9 hu)))) (pss_one (ps_asg pe_bl (pg_sub (pv 1) (pv 3) (set_md (hu9 hu)))))))
      (pss_one (ps_ret (pe_callTy (call_listM rfl) (by rfl) B.list boot_list (pa_cons (pv 1) pa_nil))))), ?_⟩
    obtain ⟨t, R, rfl, ⟨vs, st, pr⟩, hl, q⟩ := h
    intro D hD
    refine ⟨upd_same, [(.inr "", .bl true)], rfl, by decide, D, _, rfl, upd_same, ?_⟩
    rw [upd_upd, upd_upd]
    refine ⟨_, rfl, t, rfl, ⟨vs, Tups.same (same_new hD) _ _ st⟩, ?_⟩
    refine for_steady steady_tup (fun i σ H' => Same H H' ∧ TabIs K w H' D (asV (fun _ => .bl true) (seenOf (R.take i))) ∧ ∃ x y z, σ = [some (.ref t), some (.ref D), x, y, z]) ⟨same_new hD, ⟨_, upd_same, .cons ⟨rfl, rfl, rfl⟩ .nil⟩, _, _, _, rfl⟩ (fun _ _ _ _ h => Tups.same h.1 _ _ st) ?_ ?_
    · rintro i σ H' hi ⟨sm, tb, x, y, z, rfl⟩
      have hi' : i < R.length := by rw [paired_len pr]; exact hi
      obtain ⟨b, c, d, e, sb, k1, k2⟩ := (paired_getD pr (a0 := (.no, .no, 0)) (b0 := .non) hi').mono (Tups.same sm)
      rw [e]
      have lb := len_seen (R.take i)
      rw [List.length_take] at lb
      have ll : 122 < sizeLine := by rw [sizeLine_eq]; decide
      refine ⟨b, _, rfl, sb, rfl, _, _, rfl, _, _, rfl, _, _, rfl, rfl, ?_⟩
      refine ⟨_, rfl, _, rfl, set_tab tb k1 (by rw [len_asV]; omega) fun H1 b1 t1 tb1 => ⟨_, rfl, _, rfl, set_tab tb1 (k2.mono t1) (Nat.lt_of_le_of_lt (len_putN _ _ _) (by rw [len_asV]; omega)) fun H2 b2 t2 tb2 => ⟨fun a o ha => b2 a o (ne_of_none ha hD) (b1 a o (ne_of_none ha hD) (sm a o ha)), ?_, _, _, _, rfl⟩⟩⟩
      rw [putN_asV (fun _ => .bl true) _ _ (), putN_asV (fun _ => .bl true) _ _ ()] at tb2
      have e2 : seenOf (R.take (i + 1)) = putG (putG (seenOf (R.take i)) (R.getD i (.no, .no, 0)).1 ()) (R.getD i (.no, .no, 0)).2.1 () := by
        rw [take_snoc hi']
        unfold seenOf
        rw [List.foldl_append]
        rfl
      rw [e2]
      exact tb2
    · rintro σ H' ⟨sm, tb, x, y, z, rfl⟩
      rw [List.take_of_length_le (Nat.le_of_eq (paired_len pr))] at tb
      obtain ⟨xs, ta, pp⟩ := tb.at
      refine ⟨_, rfl, D, xs, rfl, ta, fun p hp => ?_⟩
      refine q p _ (fun a o ha => by rw [upd_ne (ne_of_none (sm a o ha) hp)]; exact sm a o ha) (sm.free hp) ⟨_, upd_same, ?_⟩
      rw [← keys_seen, ← keys_asV (fun _ => .bl true)]
      exact Paired.mapP (keys_of_tab pp) fun k v h => h.mono (Tups.same (same_new hp))
end
end Fc
namespace Fd
section
variable {α : Type} [DecidableEq α]
structure Rws (α : Type) where
  n : Nat
  p : Nat → α
  q : Nat → α
  m : Nat → Int
def setF {β : Type} (f : α → β) (x : α) (v : β) : α → β := fun y => if x = y then v else f y
/-- the row j is true of the numbers β, as far as there are any -/
def sat (G : Rws α) (β : α → Option Int) (j : Nat) : Prop := ∀ b, β (G.q j) = some b → ∃ a, β (G.p j) = some a ∧ a ≤ b + G.m j
def closed (G : Rws α) (β : α → Option Int) : Prop := ∀ j, j < G.n → sat G β j
structure Pass (G : Rws α) (r k : Nat) (β : α → Option Int) (c : α → Option Nat) (L T : α → Nat) (τ : Nat) (l : Option Nat) : Prop where
  le : ∀ x, L x ≤ r
  cs : ∀ x, 1 ≤ L x → ∃ j, c x = some j
  cv : ∀ x j, c x = some j → j < G.n ∧ G.p j = x ∧ L x ≤ L (G.q j) + 1
  tm : ∀ x, T x ≤ τ
  gap : ∀ x j, c x = some j → ∃ a b, β x = some a ∧ β (G.q j) = some b ∧ b + G.m j ≤ a ∧ (T x ≤ T (G.q j) → b + G.m j < a)
  ok1 : ∀ j, j < k → sat G β j ∨ L (G.q j) = r
  ok2 : ∀ j, k ≤ j → j < G.n → sat G β j ∨ r ≤ L (G.q j) + 1
  lt : ∀ j, l = some j → j < G.n ∧ r ≤ L (G.q j) + 1
  nl : l = none → ∀ x, L x < r
theorem Pass.start (G : Rws α) (β : α → Option Int) : Pass G 1 0 β (fun _ => none) (fun _ => 0) (fun _ => 0) 0 none :=
  ⟨fun _ => Nat.zero_le _, fun _ h => absurd h (by simp), fun _ _ h => (nomatch h), fun _ => Nat.le_refl _, fun _ _ h => (nomatch h), fun _ h => absurd h (Nat.not_lt_zero _), fun _ _ _ => .inr (by simp), fun _ h => (nomatch h), fun _ _ => by simp⟩
theorem Pass.next {G : Rws α} {r : Nat} {β : α → Option Int} {c : α → Option Nat} {L T : α → Nat} {τ : Nat} {l : Option Nat} (p : Pass G r G.n β c L T τ l) : Pass G (r + 1) 0 β c L T τ none :=
  ⟨fun x => Nat.le_succ_of_le (p.le x), p.cs, p.cv, p.tm, p.gap, fun _ h => absurd h (Nat.not_lt_zero _), fun j _ h => (p.ok1 j h).imp id fun e => by omega, fun _ h => (nomatch h), fun _ x => Nat.lt_succ_of_le (p.le x)⟩
theorem Pass.stay {G : Rws α} {r k : Nat} {β : α → Option Int} {c : α → Option Nat} {L T : α → Nat} {τ : Nat} {l : Option Nat} (p : Pass G r k β c L T τ l) (h : sat G β k) : Pass G r (k + 1) β c L T τ l :=
  ⟨p.le, p.cs, p.cv, p.tm, p.gap, fun j hj => by
    by_cases e : j = k
    · exact .inl (e ▸ h)
    · exact p.ok1 j (by omega), fun j hj hl => p.ok2 j (by omega) hl, p.lt, p.nl⟩
theorem Pass.low {G : Rws α} {r k : Nat} {β : α → Option Int} {c : α → Option Nat} {L T : α → Nat} {τ : Nat} {l : Option Nat} (p : Pass G r k β c L T τ l) (hk : k < G.n) (hr : 1 ≤ r) {b : Int} (hb : β (G.q k) = some b) (h : ∀ a, β (G.p k) = some a → b + G.m k < a) :
    Pass G r (k + 1) (setF β (G.p k) (some (b + G.m k))) (setF c (G.p k) (some k)) (setF L (G.p k) r) (setF T (G.p k) (τ + 1)) (τ + 1) (some k) := by
  have mono : ∀ x, L x ≤ setF L (G.p k) r x := fun x => by
    unfold setF
    by_cases e : G.p k = x
    · rw [if_pos e]; exact p.le x
    · rw [if_neg e]; exact Nat.le_refl _
  have ns : ¬ sat G β k := fun z => by
    obtain ⟨a, e, hl⟩ := z b hb
    have := h a e
    omega
  have hq : r ≤ L (G.q k) + 1 := (p.ok2 k (Nat.le_refl _) hk).resolve_left ns
  have step : ∀ j, sat G β j → sat G (setF β (G.p k) (some (b + G.m k))) j ∨ setF L (G.p k) r (G.q j) = r := fun j hj => by
    by_cases e : G.p k = G.q j
    · right; unfold setF; rw [if_pos e]
    · left
      intro b' hb'
      have hb2 : β (G.q j) = some b' := by unfold setF at hb'; rw [if_neg e] at hb'; exact hb'
      obtain ⟨a, ea, hl⟩ := hj b' hb2
      by_cases e2 : G.p k = G.p j
      · refine ⟨b + G.m k, by unfold setF; rw [if_pos e2], ?_⟩
        have := h a (by rw [e2]; exact ea)
        omega
      · exact ⟨a, by unfold setF; rw [if_neg e2]; exact ea, hl⟩
  refine ⟨fun x => ?_, fun x hx => ?_, fun x j hj => ?_, fun x => ?_, fun x j hj => ?_, fun j hj => ?_, fun j hj hl => ?_, fun j hj => ?_, fun h => nomatch h⟩
  · unfold setF
    by_cases e : G.p k = x
    · rw [if_pos e]; exact Nat.le_refl _
    · rw [if_neg e]; exact p.le x
  · unfold setF at hx ⊢
    by_cases e : G.p k = x
    · rw [if_pos e]; exact ⟨_, rfl⟩
    · rw [if_neg e] at hx ⊢; exact p.cs x hx
  · unfold setF at hj
    by_cases e : G.p k = x
    · rw [if_pos e] at hj
      have ej : k = j := Option.some.inj hj
      subst ej
      refine ⟨hk, e, ?_⟩
      have e1 : setF L (G.p k) r x = r := by unfold setF; rw [if_pos e]
      rw [e1]
      have := mono (G.q k)
      omega
    · rw [if_neg e] at hj
      obtain ⟨h1, h0, h2⟩ := p.cv x j hj
      refine ⟨h1, h0, ?_⟩
      have e1 : setF L (G.p k) r x = L x := by unfold setF; rw [if_neg e]
      rw [e1]
      have := mono (G.q j)
      omega
  · unfold setF
    by_cases e : G.p k = x
    · rw [if_pos e]; exact Nat.le_refl _
    · rw [if_neg e]; have := p.tm x; omega
  · unfold setF at hj
    by_cases e : G.p k = x
    · rw [if_pos e] at hj
      have ej : k = j := Option.some.inj hj
      subst ej
      by_cases e2 : G.p k = G.q k
      · have hm := h b (by rw [e2]; exact hb)
        refine ⟨b + G.m k, b + G.m k, by unfold setF; rw [if_pos e], by unfold setF; rw [if_pos e2], by omega, fun _ => by omega⟩
      · refine ⟨b + G.m k, b, by unfold setF; rw [if_pos e], by unfold setF; rw [if_neg e2]; exact hb, Int.le_refl _, fun z => ?_⟩
        unfold setF at z
        rw [if_pos e, if_neg e2] at z
        have := p.tm (G.q k)
        omega
    · rw [if_neg e] at hj
      obtain ⟨a, b', ha, hb', h1, h2⟩ := p.gap x j hj
      by_cases e2 : G.p k = G.q j
      · have h3 := h b' (by rw [e2]; exact hb')
        exact ⟨a, b + G.m k, by unfold setF; rw [if_neg e]; exact ha, by unfold setF; rw [if_pos e2], by omega, fun _ => by omega⟩
      · refine ⟨a, b', by unfold setF; rw [if_neg e]; exact ha, by unfold setF; rw [if_neg e2]; exact hb', h1, fun z => h2 ?_⟩
        unfold setF at z
        rw [if_neg e, if_neg e2] at z
        exact z
  · by_cases e : j = k
    · subst e
      by_cases e2 : G.p j = G.q j
      · right; unfold setF; rw [if_pos e2]
      · left
        intro b' hb'
        have hb2 : β (G.q j) = some b' := by unfold setF at hb'; rw [if_neg e2] at hb'; exact hb'
        rw [hb] at hb2
        cases hb2
        exact ⟨b + G.m j, by unfold setF; rw [if_pos rfl], Int.le_refl _⟩
    · rcases p.ok1 j (by omega) with h1 | h1
      · exact step j h1
      · right
        have := mono (G.q j)
        have h2 : setF L (G.p k) r (G.q j) ≤ r := by
          unfold setF
          by_cases e : G.p k = G.q j
          · rw [if_pos e]; exact Nat.le_refl _
          · rw [if_neg e]; exact p.le _
        omega
  · rcases p.ok2 j (by omega) hl with h1 | h1
    · exact (step j h1).imp id fun e => by omega
    · right
      have := mono (G.q j)
      omega
  · have ej : k = j := Option.some.inj hj
    subst ej
    have := mono (G.q k)
    exact ⟨hk, by omega⟩
theorem Pass.clo {G : Rws α} {r : Nat} {β : α → Option Int} {c : α → Option Nat} {L T : α → Nat} {τ : Nat} (p : Pass G r G.n β c L T τ none) : closed G β := fun j hj => (p.ok1 j hj).resolve_right fun e => by
  have := p.nl rfl (G.q j)
  omega
theorem nodup_sub : ∀ (m l : List α), m.Nodup → (∀ x ∈ m, x ∈ l) → m.length ≤ l.length
  | [], _, _, _ => Nat.zero_le _
  | a :: m, l, h, s => by
    rw [List.nodup_cons] at h
    have ha : a ∈ l := s a (by simp)
    have ih := nodup_sub m (l.erase a) h.2 fun x hx => (List.mem_erase_of_ne (fun e => h.1 (by rw [← e]; exact hx))).mpr (s x (List.mem_cons_of_mem _ hx))
    rw [List.length_erase_of_mem ha] at ih
    have : 0 < l.length := List.length_pos_of_mem ha
    simp only [List.length_cons]
    omega
theorem pigeon {N : Nat} {P : List α} (hP : P.length ≤ N) (f : Nat → α) (hf : ∀ t, t ≤ N → f t ∈ P) : ∃ i j, i < j ∧ j ≤ N ∧ f i = f j := by
  refine Classical.byContradiction fun no => ?_
  have nd : ((List.range (N + 1)).map f).Nodup := by
    rw [List.nodup_iff_pairwise_ne, List.pairwise_map]
    have lt : List.Pairwise (· < ·) (List.range (N + 1)) := List.pairwise_lt_range
    refine List.Pairwise.imp_of_mem ?_ lt
    intro a b ha hb l e
    rw [List.mem_range] at ha hb
    exact no ⟨a, b, l, by omega, e⟩
  have h := nodup_sub _ P nd fun x hx => by
    obtain ⟨t, ht, e⟩ := List.mem_map.mp hx
    rw [List.mem_range] at ht
    exact e ▸ hf t (by omega)
  rw [List.length_map, List.length_range] at h
  omega
/-- the walk back along the causes comes around, and its sum is below 0 -/
structure Cyc (G : Rws α) (c : α → Option Nat) (N : Nat) (j0 : Nat) (idx : Nat → Nat) (d : Nat) : Prop where
  zero : idx 0 = j0
  lt : ∀ t, idx t < G.n
  go : ∀ t, c (G.q (idx t)) = some (idx (t + 1))
  on : ∀ t, G.p (idx (t + 1)) = G.q (idx t)
  one : 1 ≤ d
  dn : d ≤ N
  back : idx (N + d) = idx N
  neg : ∀ e, 1 ≤ e → idx (N + e) = idx N → ((List.range e).map fun i => G.m (idx (N + i))).sum < 0
theorem sum_snoc (f : Nat → Int) (e : Nat) : ((List.range (e + 1)).map f).sum = ((List.range e).map f).sum + f e := by
  rw [List.range_succ, List.map_append, List.sum_append]
  simp
theorem sum_shift (f : Nat → Int) (e : Nat) : ((List.range e).map fun i => f (i + 1)).sum + f 0 = ((List.range e).map f).sum + f e := by
  induction e with
  | zero => rfl
  | succ e ih => rw [sum_snoc, sum_snoc]; omega
theorem Pass.cyc {G : Rws α} {N : Nat} {β : α → Option Int} {c : α → Option Nat} {L T : α → Nat} {τ j0 : Nat} (p : Pass G (N + 1) G.n β c L T τ (some j0)) {P : List α} (hP : P.length ≤ N) (hq : ∀ j, j < G.n → G.q j ∈ P) : ∃ idx d, Cyc G c N j0 idx d := by
  obtain ⟨l1, l2⟩ := p.lt j0 rfl
  let g : Nat → Nat := fun j => (c (G.q j)).getD 0
  let idx : Nat → Nat := fun t => Nat.rec j0 (fun _ v => g v) t
  have e0 : idx 0 = j0 := rfl
  have eS : ∀ t, idx (t + 1) = (c (G.q (idx t))).getD 0 := fun _ => rfl
  clear_value idx
  have A : ∀ t, t ≤ N → idx t < G.n ∧ N ≤ L (G.q (idx t)) + t := by
    intro t
    induction t with
    | zero => intro _; rw [e0]; exact ⟨l1, by omega⟩
    | succ t ih =>
      intro ht
      obtain ⟨h1, h2⟩ := ih (by omega)
      obtain ⟨j, hj⟩ := p.cs (G.q (idx t)) (by omega)
      obtain ⟨h3, _, h4⟩ := p.cv _ _ hj
      have e : idx (t + 1) = j := by rw [eS, hj]; rfl
      rw [e]
      exact ⟨h3, by omega⟩
  have A' : ∀ t, t < N → c (G.q (idx t)) = some (idx (t + 1)) := fun t ht => by
    obtain ⟨h1, h2⟩ := A t (by omega)
    obtain ⟨j, hj⟩ := p.cs (G.q (idx t)) (by omega)
    rw [eS, hj]; rfl
  obtain ⟨i, j, hij, hjN, e⟩ := pigeon hP (fun t => G.q (idx t)) fun t ht => hq _ (A t ht).1
  have per : ∀ s, G.q (idx (i + s)) = G.q (idx (i + s + (j - i))) := by
    intro s
    induction s with
    | zero =>
      have : i + 0 + (j - i) = j := by omega
      rw [this]
      exact e
    | succ s ih =>
      have e1 : idx (i + (s + 1)) = idx (i + (s + 1) + (j - i)) := by
        have a1 : i + (s + 1) = (i + s) + 1 := by omega
        have a2 : i + (s + 1) + (j - i) = (i + s + (j - i)) + 1 := by omega
        rw [a2, a1, eS, eS, ih]
      rw [e1]
  have all : ∀ t, c (G.q (idx t)) = some (idx (t + 1)) := by
    intro t
    induction t using Nat.strongRecOn with
    | ind t ih =>
      by_cases h : t < N
      · exact A' t h
      · have h1 := ih (t - (j - i)) (by omega)
        have e1 := per (t - (j - i) - i)
        have a1 : i + (t - (j - i) - i) = t - (j - i) := by omega
        have a2 : i + (t - (j - i) - i) + (j - i) = t := by omega
        rw [a2, a1] at e1
        rw [e1] at h1
        rw [eS, h1]; rfl
  have lt : ∀ t, idx t < G.n := fun t => by
    cases t with
    | zero => rw [e0]; exact l1
    | succ t => exact (p.cv _ _ (all t)).1
  have back : idx (N + (j - i)) = idx N := by
    have e1 := per (N - 1 - i)
    have a1 : i + (N - 1 - i) = N - 1 := by omega
    rw [a1] at e1
    have a2 : N + (j - i) = (N - 1 + (j - i)) + 1 := by omega
    have a3 : idx N = idx ((N - 1) + 1) := by congr 1; omega
    rw [a2, a3, eS, eS, e1]
  refine ⟨idx, j - i, e0, lt, all, fun t => (p.cv _ _ (all t)).2.1, by omega, by omega, back, ?_⟩
  intro e he hb
  have key : ∀ f, ∃ a a', β (G.q (idx N)) = some a ∧ β (G.q (idx (N + f))) = some a' ∧ a' + ((List.range f).map fun i => G.m (idx (N + (i + 1)))).sum ≤ a ∧
      (f = 0 ∨ T (G.q (idx (N + f))) < T (G.q (idx N)) ∨ a' + ((List.range f).map fun i => G.m (idx (N + (i + 1)))).sum < a) := by
    intro f
    induction f with
    | zero =>
      obtain ⟨a, b, ha, _, _, _⟩ := p.gap _ _ (all N)
      exact ⟨a, a, ha, ha, by simp, .inl rfl⟩
    | succ f ih =>
      obtain ⟨a, a', h1, h2, h3, h4⟩ := ih
      obtain ⟨u, b, hu, hb, g1, g2⟩ := p.gap _ _ (all (N + f))
      rw [h2] at hu
      cases hu
      have ea : N + (f + 1) = N + f + 1 := rfl
      refine ⟨a, b, h1, hb, ?_, ?_⟩
      · rw [sum_snoc]
        show b + (_ + G.m (idx (N + f + 1))) ≤ a
        omega
      · right
        rw [sum_snoc]
        show _ ∨ b + (_ + G.m (idx (N + f + 1))) < a
        by_cases z : T (G.q (idx (N + f))) ≤ T (G.q (idx (N + f + 1)))
        · right
          have := g2 z
          omega
        · rcases h4 with h4 | h4 | h4
          · subst h4
            left
            rw [ea]
            have : N + 0 = N := rfl
            rw [this] at z ⊢
            omega
          · left
            rw [ea]
            omega
          · right
            omega
  obtain ⟨a, a', h1, h2, h3, h4⟩ := key e
  rw [hb] at h2 h4
  rw [h1] at h2
  cases h2
  have sh := sum_shift (fun i => G.m (idx (N + i))) e
  simp only [Nat.add_zero, hb] at sh
  rcases h4 with h4 | h4 | h4
  · omega
  · omega
  · omega
/-! ### rings, and the table of all ways -/
/-- a ring of the rows, by its indices -/
structure RingJ (G : Rws α) (js : List Nat) : Prop where
  ne : js ≠ []
  lt : ∀ j ∈ js, j < G.n
  on : ∀ i, i < js.length → G.q (js.getD i 0) = G.p (js.getD ((i + 1) % js.length) 0)
  neg : (js.map G.m).sum < 0
abbrev Tb (α : Type) := α → α → Option Int
def setT (F : Tb α) (a b : α) (v : Int) : Tb α := fun x y => if a = x ∧ b = y then some v else F x y
def leT (F' F : Tb α) : Prop := ∀ a b v, F a b = some v → ∃ v', F' a b = some v' ∧ v' ≤ v
theorem leT.refl (F : Tb α) : leT F F := fun _ _ v h => ⟨v, h, Int.le_refl _⟩
theorem leT.trans {F F' F'' : Tb α} (h : leT F'' F') (g : leT F' F) : leT F'' F := fun a b v e => by
  obtain ⟨v', e', l⟩ := g a b v e
  obtain ⟨v'', e'', l'⟩ := h a b v' e'
  exact ⟨v'', e'', by omega⟩
/-- a number goes in where it is not greater than what is there -/
theorem leT.set {F : Tb α} {a b : α} {v : Int} (h : ∀ u, F a b = some u → v ≤ u) : leT (setT F a b v) F := fun x y u e => by
  by_cases c : a = x ∧ b = y
  · exact ⟨v, by unfold setT; rw [if_pos c], h u (by rw [c.1, c.2]; exact e)⟩
  · exact ⟨u, by unfold setT; rw [if_neg c]; exact e, Int.le_refl _⟩
def good (F : Tb α) : Prop := ∀ p v, F p p = some v → 0 ≤ v
theorem good.of {F' F : Tb α} (h : good F') (l : leT F' F) : good F := fun p v e => by
  obtain ⟨v', e', l'⟩ := l p p v e
  have := h p v' e'
  omega
/-- it says no more than numbers for which all rows are true -/
def sound (G : Rws α) (F : Tb α) : Prop := ∀ β, closed G β → ∀ a b v, F a b = some v → ∀ vb, β b = some vb → ∃ va, β a = some va ∧ va ≤ v + vb
theorem sound.set {G : Rws α} {F : Tb α} (h : sound G F) {x y : α} {u : Int} (k : ∀ β, closed G β → ∀ vb, β y = some vb → ∃ va, β x = some va ∧ va ≤ u + vb) : sound G (setT F x y u) := fun β cl a b v e vb hb => by
  unfold setT at e
  by_cases c : x = a ∧ y = b
  · rw [if_pos c] at e
    cases e
    rw [← c.1]
    exact k β cl vb (by rw [c.2]; exact hb)
  · rw [if_neg c] at e
    exact h β cl a b v e vb hb
/-- all ways by the members of S are there -/
def over (F : Tb α) (S : α → Prop) : Prop := ∀ s, S s → ∀ a b u v, F a s = some u → F s b = some v → ∃ w, F a b = some w ∧ w ≤ u + v
/-- within a turn of the middle point m: F0 is the table ahead of it, V the pairs that were looked at -/
structure Turn (F0 : Tb α) (m : α) (V : α → α → Prop) (F : Tb α) : Prop where
  le : leT F F0
  col : good F → ∀ a, F a m = F0 a m
  row : good F → ∀ b, F m b = F0 m b
  seen : good F → ∀ a b, V a b → ∀ u v, F0 a m = some u → F0 m b = some v → ∃ w, F a b = some w ∧ w ≤ u + v
  src : good F → ∀ a b w, F a b = some w → F0 a b = some w ∨ ∃ u v, F0 a m = some u ∧ F0 m b = some v ∧ w = u + v
theorem Turn.start (F : Tb α) (m : α) : Turn F m (fun _ _ => False) F := ⟨.refl F, fun _ _ => rfl, fun _ _ => rfl, fun _ _ _ h => h.elim, fun _ _ _ _ h => .inl h⟩
theorem Turn.skip {F0 F : Tb α} {m : α} {V : α → α → Prop} (t : Turn F0 m V F) {x y : α} (h : F x m = none ∨ F m y = none) : Turn F0 m (fun a b => V a b ∨ (a = x ∧ b = y)) F :=
  ⟨t.le, t.col, t.row, fun g a b hv u v hu hv2 => (by
    rcases hv with hv | ⟨rfl, rfl⟩
    · exact t.seen g a b hv u v hu hv2
    · rw [← t.col g a] at hu
      rw [← t.row g b] at hv2
      rcases h with h | h
      · rw [hu] at h; cases h
      · rw [hv2] at h; cases h), t.src⟩
theorem Turn.put {F0 F : Tb α} {m : α} {V : α → α → Prop} (t : Turn F0 m V F) {x y : α} {u v w : Int} (hu : F x m = some u) (hv : F m y = some v) (h1 : w ≤ u + v) (h2 : ∀ z, F x y = some z → w ≤ z) (h3 : w = u + v ∨ F x y = some w) : Turn F0 m (fun a b => V a b ∨ (a = x ∧ b = y)) (setT F x y w) := by
  have lt : leT (setT F x y w) F := leT.set h2
  have gd : good (setT F x y w) → good F := fun g => g.of lt
  -- where x or y is m, nothing changes
  have same : good (setT F x y w) → (x = m ∨ y = m) → F x y = some w := fun g c => by
    rcases h3 with h3 | h3
    · rcases c with c | c
      · subst c
        have z := h2 v hv
        have gu := gd g _ u hu
        have : v = w := by omega
        rw [← this]; exact hv
      · subst c
        have z := h2 u hu
        have gv := gd g _ v hv
        have : u = w := by omega
        rw [← this]; exact hu
    · exact h3
  refine ⟨lt.trans t.le, fun g a => ?_, fun g b => ?_, fun g a b hV u' v' hu' hv' => ?_, fun g a b z e => ?_⟩
  · rw [← t.col (gd g) a]
    unfold setT
    by_cases c : x = a ∧ y = m
    · rw [if_pos c, ← c.1, ← c.2]
      exact (same g (.inr c.2)).symm
    · rw [if_neg c]
  · rw [← t.row (gd g) b]
    unfold setT
    by_cases c : x = m ∧ y = b
    · rw [if_pos c, ← c.1, ← c.2]
      exact (same g (.inl c.1)).symm
    · rw [if_neg c]
  · by_cases c : a = x ∧ b = y
    · obtain ⟨rfl, rfl⟩ := c
      rw [← t.col (gd g) a, hu] at hu'
      rw [← t.row (gd g) b, hv] at hv'
      cases hu'
      cases hv'
      exact ⟨w, by unfold setT; rw [if_pos ⟨rfl, rfl⟩], h1⟩
    · obtain ⟨z, ez, hz⟩ := t.seen (gd g) a b (hV.resolve_right c) u' v' hu' hv'
      obtain ⟨z', ez', hz'⟩ := lt a b z ez
      exact ⟨z', ez', by omega⟩
  · unfold setT at e
    by_cases c : x = a ∧ y = b
    · rw [if_pos c] at e
      cases e
      rcases h3 with h3 | h3
      · right
        refine ⟨u, v, ?_, ?_, h3⟩
        · rw [← c.1, ← t.col (gd g)]; exact hu
        · rw [← c.2, ← t.row (gd g)]; exact hv
      · rw [← c.1, ← c.2]
        exact t.src (gd g) x y w h3
    · rw [if_neg c] at e
      exact t.src (gd g) a b z e
/-- behind a turn for all pairs the ways by m are there, too -/
theorem Turn.over {F0 F : Tb α} {m : α} {V : α → α → Prop} (t : Turn F0 m V F) (hV : ∀ a b u v, F0 a m = some u → F0 m b = some v → V a b) {S : α → Prop} (o : good F0 → over F0 S) (g : good F) : Fd.over F (fun s => S s ∨ s = m) := by
  have g0 := g.of t.le
  have see : ∀ a b u v, F0 a m = some u → F0 m b = some v → ∃ w, F a b = some w ∧ w ≤ u + v := fun a b u v hu hv => t.seen g a b (hV a b u v hu hv) u v hu hv
  intro s hs a b u v hu hv
  rcases hs with hs | rfl
  · rcases t.src g a s u hu with eu | ⟨u1, u2, e1, e2, e3⟩
    · rcases t.src g s b v hv with ev | ⟨v1, v2, f1, f2, f3⟩
      · obtain ⟨w, ew, hw⟩ := o g0 s hs a b u v eu ev
        obtain ⟨w', ew', hw'⟩ := t.le a b w ew
        exact ⟨w', ew', by omega⟩
      · obtain ⟨w, ew, hw⟩ := o g0 s hs a m u v1 eu f1
        obtain ⟨w', ew', hw'⟩ := see a b w v2 ew f2
        exact ⟨w', ew', by omega⟩
    · rcases t.src g s b v hv with ev | ⟨v1, v2, f1, f2, f3⟩
      · obtain ⟨w, ew, hw⟩ := o g0 s hs m b u2 v e2 ev
        obtain ⟨w', ew', hw'⟩ := see a b u1 w e1 ew
        exact ⟨w', ew', by omega⟩
      · obtain ⟨w, ew, hw⟩ := o g0 s hs m m u2 v1 e2 f1
        have := g0 m w ew
        obtain ⟨w', ew', hw'⟩ := see a b u1 v2 e1 f2
        exact ⟨w', ew', by omega⟩
  · rw [t.col g] at hu
    rw [t.row g] at hv
    exact see a b u v hu hv
/-- what the law's table is -/
structure Whole (G : Rws α) (P : α → Prop) (F : Tb α) : Prop where
  snd : sound G F
  dom : ∀ a b v, F a b = some v → P a ∧ P b
  diag : ∀ p, P p → ∃ v, F p p = some v ∧ v ≤ 0
  rows : ∀ j, j < G.n → ∃ v, F (G.p j) (G.q j) = some v ∧ v ≤ G.m j
  ways : good F → over F P
theorem getD_of {β : Type} {l : List β} {i : Nat} {d : β} (h : i < l.length) : l.getD i d = l[i] := by
  rw [List.getD_eq_getElem?_getD, List.getElem?_eq_getElem h]; rfl
theorem sum_take (l : List Int) (i : Nat) (h : i < l.length) : (l.take (i + 1)).sum = (l.take i).sum + l.getD i 0 := by
  rw [List.take_add_one, List.sum_append, getD_of h, List.getElem?_eq_getElem h]
  simp
theorem sum_map_take (f : Nat → Int) (l : List Nat) (i : Nat) (h : i < l.length) : ((l.map f).take (i + 1)).sum = ((l.map f).take i).sum + f (l.getD i 0) := by
  rw [sum_take _ _ (by rw [List.length_map]; exact h), getD_of (by rw [List.length_map]; exact h), List.getElem_map, getD_of h]
/-- where all ways are there and good, there is no ring -/
theorem Whole.no_ring {G : Rws α} {P : α → Prop} {F : Tb α} (w : Whole G P F) (g : good F) {js : List Nat} (r : RingJ G js) : False := by
  have o := w.ways g
  have hpos : 0 < js.length := List.length_pos_iff.mpr r.ne
  have key : ∀ i, i < js.length → ∃ v, F (G.p (js.getD 0 0)) (G.q (js.getD i 0)) = some v ∧ v ≤ ((js.map G.m).take (i + 1)).sum := by
    intro i
    induction i with
    | zero =>
      intro h
      obtain ⟨v, e, hv⟩ := w.rows (js.getD 0 0) (r.lt _ (by rw [getD_of h]; exact List.getElem_mem h))
      refine ⟨v, e, ?_⟩
      rw [sum_map_take _ _ _ h]
      simp; exact hv
    | succ i ih =>
      intro h
      obtain ⟨v, e, hv⟩ := ih (by omega)
      have on := r.on i (by omega)
      rw [Nat.mod_eq_of_lt h] at on
      obtain ⟨v2, e2, hv2⟩ := w.rows (js.getD (i + 1) 0) (r.lt _ (by rw [getD_of h]; exact List.getElem_mem h))
      rw [on] at e
      obtain ⟨v3, e3, hv3⟩ := o _ (w.dom _ _ _ e).2 _ _ _ _ e e2
      refine ⟨v3, e3, ?_⟩
      rw [sum_map_take _ _ _ h]
      omega
  obtain ⟨v, e, hv⟩ := key (js.length - 1) (by omega)
  have on := r.on (js.length - 1) (by omega)
  have e1 : js.length - 1 + 1 = js.length := by omega
  rw [e1, Nat.mod_self] at on
  rw [on] at e
  have h0 := g _ _ e
  rw [e1, List.take_of_length_le (by rw [List.length_map]; exact Nat.le_refl _)] at hv
  have := r.neg
  omega
/-- numbers for all points: then the table is good -/
theorem Whole.good_of {G : Rws α} {P : α → Prop} {F : Tb α} (w : Whole G P F) {β : α → Option Int} (cl : closed G β) (tot : ∀ p, P p → ∃ v, β p = some v) : good F := fun p v e => by
  obtain ⟨vb, hb⟩ := tot p (w.dom _ _ _ e).1
  obtain ⟨va, ha, hl⟩ := w.snd β cl p p v e vb hb
  rw [hb] at ha
  cases ha
  omega
/-- the numbers that come from one point are the table's -/
theorem Whole.due {G : Rws α} {P : α → Prop} {F : Tb α} (w : Whole G P F) (g : good F) {β : α → Option Int} (cl : closed G β) {o : α} (h0 : ∃ v, β o = some v ∧ v ≤ 0) (hS : ∀ S : α → Int → Prop, S o 0 → (∀ j, j < G.n → ∀ v, S (G.q j) v → S (G.p j) (v + G.m j)) → ∀ x v, β x = some v → S x v) (ho : P o) (x : α) : β x = F x o := by
  obtain ⟨d0, e0, hd0⟩ := w.diag o ho
  have up : ∀ x v, β x = some v → ∃ d, F x o = some d ∧ d ≤ v := hS (fun x v => ∃ d, F x o = some d ∧ d ≤ v) ⟨d0, e0, hd0⟩ fun j hj v ⟨d, e, hd⟩ => by
    obtain ⟨u, eu, hu⟩ := w.rows j hj
    obtain ⟨z, ez, hz⟩ := w.ways g _ (w.dom _ _ _ e).1 _ _ _ _ eu e
    exact ⟨z, ez, by omega⟩
  obtain ⟨v0, hv0, hle⟩ := h0
  cases e : F x o with
  | none =>
    cases b : β x with
    | none => rfl
    | some v =>
      obtain ⟨d, e2, _⟩ := up x v b
      rw [e] at e2
      cases e2
  | some d =>
    obtain ⟨va, ha, hl⟩ := w.snd β cl x o d e v0 hv0
    obtain ⟨d', e2, hd⟩ := up x va ha
    rw [e] at e2
    cases e2
    rw [ha]
    congr 1
    omega
/-- one more row that says as much as the table allows: no ring -/
theorem Whole.more {G G' : Rws α} {P : α → Prop} {F : Tb α} (w : Whole G P F) (g : good F) {one other : α} {due : Int} (hd : F one other = some due) (hn : G'.n = G.n + 1) (hs : ∀ j, j < G.n → G'.p j = G.p j ∧ G'.q j = G.q j ∧ G'.m j = G.m j) (hp : G'.p G.n = other) (hq : G'.q G.n = one) (hm : G'.m G.n = -due) {js : List Nat} (r : RingJ G' js) : False := by
  have o := w.ways g
  have P1 := (w.dom _ _ _ hd).1
  have P2 := (w.dom _ _ _ hd).2
  obtain ⟨z1, ez1, hz1⟩ := w.diag one P1
  obtain ⟨z2, ez2, hz2⟩ := w.diag other P2
  have gz1 := g _ _ ez1
  have gz2 := g _ _ ez2
  have hpos : 0 < js.length := List.length_pos_iff.mpr r.ne
  let x0 := G'.p (js.getD 0 0)
  let C : α → Int → Prop := fun y s => (∃ w, F x0 y = some w ∧ w ≤ s) ∨ ∃ u v, F x0 other = some u ∧ F one y = some v ∧ u - due + v ≤ s
  have inn : ∀ i, i < js.length → js.getD i 0 < G.n ∨ js.getD i 0 = G.n := fun i h => by
    have := r.lt (js.getD i 0) (by rw [getD_of h]; exact List.getElem_mem h)
    omega
  have Px0 : P x0 := by
    rcases inn 0 hpos with h | h
    · obtain ⟨v, e, _⟩ := w.rows _ h
      show P (G'.p _)
      rw [(hs _ h).1]
      exact (w.dom _ _ _ e).1
    · show P (G'.p _)
      rw [h, hp]; exact P2
  have step : ∀ j, (j < G.n ∨ j = G.n) → ∀ s, C (G'.p j) s → C (G'.q j) (s + G'.m j) := by
    intro j hj s h
    rcases hj with hj | rfl
    · obtain ⟨e1, e2, e3⟩ := hs j hj
      rw [e1] at h
      rw [e2, e3]
      obtain ⟨v, ev, hv⟩ := w.rows j hj
      rcases h with ⟨u, eu, hu⟩ | ⟨u, u2, eu, eu2, hu⟩
      · obtain ⟨z, ez, hz⟩ := o _ (w.dom _ _ _ eu).2 _ _ _ _ eu ev
        exact .inl ⟨z, ez, by omega⟩
      · obtain ⟨z, ez, hz⟩ := o _ (w.dom _ _ _ eu2).2 _ _ _ _ eu2 ev
        exact .inr ⟨u, z, eu, ez, by omega⟩
    · rw [hp] at h
      rw [hq, hm]
      rcases h with ⟨u, eu, hu⟩ | ⟨u, u2, eu, eu2, hu⟩
      · exact .inr ⟨u, z1, eu, ez1, by omega⟩
      · rw [hd] at eu2
        cases eu2
        exact .inr ⟨u, z1, eu, ez1, by omega⟩
  have key : ∀ i, i < js.length → C (G'.q (js.getD i 0)) (((js.map G'.m).take (i + 1)).sum) := by
    intro i
    induction i with
    | zero =>
      intro h
      obtain ⟨z, ez, hz⟩ := w.diag x0 Px0
      have c0 : C (G'.p (js.getD 0 0)) 0 := .inl ⟨z, ez, hz⟩
      have c1 := step _ (inn 0 h) 0 c0
      rw [sum_map_take _ _ _ h]
      simpa using c1
    | succ i ih =>
      intro h
      have c := ih (by omega)
      have on := r.on i (by omega)
      rw [Nat.mod_eq_of_lt h] at on
      rw [on] at c
      have c1 := step _ (inn (i + 1) h) _ c
      rw [sum_map_take _ _ _ h]
      exact c1
  have c := key (js.length - 1) (by omega)
  have on := r.on (js.length - 1) (by omega)
  have e1 : js.length - 1 + 1 = js.length := by omega
  rw [e1, Nat.mod_self] at on
  rw [on, e1, List.take_of_length_le (by rw [List.length_map]; exact Nat.le_refl _)] at c
  have neg := r.neg
  rcases c with ⟨u, eu, hu⟩ | ⟨u, v, eu, ev, hu⟩
  · have := g _ _ eu
    omega
  · obtain ⟨z, ez, hz⟩ := o _ (w.dom _ _ _ eu).1 _ _ _ _ ev eu
    rw [hd] at ez
    cases ez
    omega
/-- one more row that says too much: no numbers -/
theorem Whole.most {G G' : Rws α} {P : α → Prop} {F : Tb α} (w : Whole G P F) {one other : α} {due : Int} (hd : F one other = some due) (hn : G'.n = G.n + 1) (hs : ∀ j, j < G.n → G'.p j = G.p j ∧ G'.q j = G.q j ∧ G'.m j = G.m j) (hp : G'.p G.n = other) (hq : G'.q G.n = one) (hm : G'.m G.n = -1 - due) {β : α → Option Int} (cl : closed G' β) (tot : ∀ p, P p → ∃ v, β p = some v) : False := by
  have cl0 : closed G β := fun j hj b hb => by
    obtain ⟨e1, e2, e3⟩ := hs j hj
    have := cl j (by omega) b (by rw [e2]; exact hb)
    rw [e1, e3] at this
    exact this
  obtain ⟨vo, ho⟩ := tot other (w.dom _ _ _ hd).2
  obtain ⟨va, ha, hl⟩ := w.snd β cl0 one other due hd vo ho
  obtain ⟨vb, hb, hl2⟩ := cl G.n (by omega) va (by rw [hq]; exact ha)
  rw [hp, ho] at hb
  cases hb
  omega
theorem Cyc.ring {G : Rws α} {c : α → Option Nat} {N j0 : Nat} {idx : Nat → Nat} {d : Nat} (y : Cyc G c N j0 idx d) {e : Nat} (he : 1 ≤ e) (hb : idx (N + e) = idx N) : RingJ G ((List.range e).map fun i => idx (N + i)) := by
  have at_ : ∀ i, i < e → ((List.range e).map fun i => idx (N + i)).getD i 0 = idx (N + i) := fun i h => by
    rw [getD_of (by rw [List.length_map, List.length_range]; exact h), List.getElem_map, List.getElem_range]
  refine ⟨fun z => ?_, fun j hj => ?_, fun i hi => ?_, ?_⟩
  · have := congrArg List.length z
    rw [List.length_map, List.length_range] at this
    simp at this
    omega
  · obtain ⟨i, _, e1⟩ := List.mem_map.mp hj
    rw [← e1]; exact y.lt _
  · rw [List.length_map, List.length_range] at hi ⊢
    rw [at_ i hi]
    by_cases c : i + 1 < e
    · rw [Nat.mod_eq_of_lt c, at_ _ c]
      exact (y.on (N + i)).symm
    · have e1 : i + 1 = e := by omega
      rw [e1, Nat.mod_self, at_ 0 (by omega)]
      show _ = G.p (idx N)
      rw [← hb, ← e1]
      exact (y.on (N + i)).symm
  · rw [List.map_map]
    exact y.neg e he hb
/-- numbers for all points, and a ring: not both -/
theorem no_both {G : Rws α} {β : α → Option Int} (cl : closed G β) (tot : ∀ j, j < G.n → ∃ v, β (G.p j) = some v ∧ ∃ u, β (G.q j) = some u) {js : List Nat} (r : RingJ G js) : False := by
  have hpos : 0 < js.length := List.length_pos_iff.mpr r.ne
  have inn : ∀ i, i < js.length → js.getD i 0 < G.n := fun i h => r.lt _ (by rw [getD_of h]; exact List.getElem_mem h)
  obtain ⟨v0, e0, _⟩ := tot _ (inn 0 hpos)
  have key : ∀ i, i < js.length → ∃ v, β (G.q (js.getD i 0)) = some v ∧ v0 ≤ v + ((js.map G.m).take (i + 1)).sum := by
    intro i
    induction i with
    | zero =>
      intro h
      obtain ⟨_, _, u, eu⟩ := tot _ (inn 0 h)
      obtain ⟨a, ea, ha⟩ := cl _ (inn 0 h) u eu
      rw [e0] at ea
      cases ea
      refine ⟨u, eu, ?_⟩
      rw [sum_map_take _ _ _ h, List.take_zero, List.sum_nil]
      omega
    | succ i ih =>
      intro h
      obtain ⟨v, ev, hv⟩ := ih (by omega)
      have on := r.on i (by omega)
      rw [Nat.mod_eq_of_lt h] at on
      obtain ⟨_, _, u, eu⟩ := tot _ (inn (i + 1) h)
      obtain ⟨a, ea, ha⟩ := cl _ (inn (i + 1) h) u eu
      rw [← on, ev] at ea
      cases ea
      refine ⟨u, eu, ?_⟩
      rw [sum_map_take _ _ _ h]
      omega
  obtain ⟨v, ev, hv⟩ := key (js.length - 1) (by omega)
  have on := r.on (js.length - 1) (by omega)
  have e1 : js.length - 1 + 1 = js.length := by omega
  rw [e1, Nat.mod_self] at on
  rw [on, e0] at ev
  cases ev
  rw [e1, List.take_of_length_le (by rw [List.length_map]; exact Nat.le_refl _)] at hv
  have := r.neg
  omega
theorem closed.shift {G : Rws α} {β γ : α → Option Int} (s : Int) (h : ∀ x, γ x = (β x).map (· - s)) (cl : closed G β) : closed G γ := fun j hj b hb => by
  rw [h] at hb
  cases e : β (G.q j) with
  | none => rw [e] at hb; cases hb
  | some v =>
    rw [e] at hb
    obtain ⟨a, ea, ha⟩ := cl j hj v e
    have : v - s = b := Option.some.inj hb
    refine ⟨a - s, by rw [h, ea]; rfl, by omega⟩
end
end Fd
namespace Fc
open PySem L2 PyProof.Rows
abbrev rowN (R : List Row) (j : Nat) : Row := R.getD j (.no, .no, 0)
abbrev pN (R : List Row) (j : Nat) : NK := nk (rowN R j).1
abbrev qN (R : List Row) (j : Nat) : NK := nk (rowN R j).2.1
abbrev mN (R : List Row) (j : Nat) : Int := (rowN R j).2.2
/-- the rows as the mathematics has them -/
abbrev rws (R : List Row) : Fd.Rws NK := ⟨R.length, pN R, qN R, mN R⟩
abbrev setN {α : Type} (f : NK → α) (x : NK) (v : α) : NK → α := Fd.setF f x v
theorem nodup_sub {α : Type} [DecidableEq α] (m l : List α) (h : m.Nodup) (s : ∀ x ∈ m, x ∈ l) : m.length ≤ l.length := Fd.nodup_sub m l h s
end Fc
namespace Fc
open PySem L2 PyProof.Rows
theorem steady_rng {lo : Int} {n : Nat} : Steady (Itr lo n) n (fun i => .int (lo + i)) (fun _ => True) := ⟨fun _ _ _ h => h, fun _ _ => Nat.le_refl _, fun _ _ _ _ _ _ y => y⟩
abbrev natV : Nat → V := fun n => .int (n : Int)
def lv : Option Nat → V
  | none => .non
  | some j => natV j
def bt (B : List (Kd × Int)) (x : NK) : Int := ((B.find? fun e => decide (nk e.1 = x)).map (·.2)).getD 0
def ct (C : List (Kd × Nat)) (x : NK) : Option Nat := (C.find? fun e => decide (nk e.1 = x)).map (·.2)
theorem look_ne {α : Type} (B : List (Kd × α)) (x : NK) (k : Kd) (v : α) : ((putG B k v).find? fun e => decide (nk e.1 = x)).map (·.2) = if nk k = x then some v else (B.find? fun e => decide (nk e.1 = x)).map (·.2) := by
  induction B with
  | nil =>
    unfold putG
    rw [List.find?_cons]
    by_cases e : nk k = x <;> simp [e]
  | cons b B ih =>
    obtain ⟨a, u⟩ := b
    unfold putG
    by_cases e : nk a = nk k
    · rw [if_pos e, List.find?_cons, List.find?_cons, e]
      by_cases e2 : nk k = x <;> simp [e2]
    · rw [if_neg e, List.find?_cons, List.find?_cons]
      by_cases e2 : nk a = x
      · have e3 : ¬ nk k = x := fun z => e (e2.trans z.symm)
        simp [e2, e3]
      · simp only [e2, decide_false]
        exact ih
theorem bt_put (B : List (Kd × Int)) (k : Kd) (v : Int) : bt (putG B k v) = setN (bt B) (nk k) v := by
  funext x
  unfold bt setN Fd.setF
  rw [look_ne]
  by_cases e : nk k = x
  · rw [if_pos e, if_pos e]; rfl
  · rw [if_neg e, if_neg e]
theorem ct_put (B : List (Kd × Nat)) (k : Kd) (v : Nat) : ct (putG B k v) = setN (ct B) (nk k) (some v) := by
  funext x
  unfold ct setN Fd.setF
  rw [look_ne]
theorem look_bt {B : List (Kd × Int)} {l : List Kd} {k : Kd} (e : B.map (·.1) = l) (h : ∃ x ∈ l, nk x = nk k) : lookN (asV .int B) k = some (.int (bt B (nk k))) := by
  rw [lookN_asV]
  have s := (lookG_some_iff B k).mpr (e ▸ h)
  unfold lookG at *
  unfold bt
  cases q : B.find? fun e => decide (nk e.1 = nk k) with
  | none => rw [q] at s; cases s
  | some y => rfl
theorem addK_has {l : List Kd} {k : Kd} : ∃ e ∈ addK l k, nk e = nk k := by
  unfold addK
  by_cases c : ∃ e ∈ l, nk e = nk k
  · rw [if_pos c]; exact c
  · rw [if_neg c]; exact ⟨k, by simp, rfl⟩
theorem addK_sub {l : List Kd} {k x : Kd} (h : x ∈ l) : x ∈ addK l k := by
  unfold addK
  by_cases c : ∃ e ∈ l, nk e = nk k
  · rw [if_pos c]; exact h
  · rw [if_neg c]; exact List.mem_append_left _ h
theorem pts_sub (R : List Row) : ∀ (l : List Kd) x, x ∈ l → x ∈ R.foldl (fun l r => addK (addK l r.1) r.2.1) l := by
  induction R with
  | nil => intro l x h; exact h
  | cons r R ih => intro l x h; exact ih _ _ (addK_sub (addK_sub h))
theorem pts_row (R : List Row) : ∀ (l : List Kd) r, r ∈ R → (∃ e ∈ R.foldl (fun l r => addK (addK l r.1) r.2.1) l, nk e = nk r.1) ∧ ∃ e ∈ R.foldl (fun l r => addK (addK l r.1) r.2.1) l, nk e = nk r.2.1 := by
  induction R with
  | nil => intro l r h; cases h
  | cons r0 R ih =>
    intro l r h
    rcases List.mem_cons.mp h with e | h
    · subst e
      obtain ⟨x, hx, ex⟩ := addK_has (l := l) (k := r.1)
      obtain ⟨y, hy, ey⟩ := addK_has (l := addK l r.1) (k := r.2.1)
      exact ⟨⟨x, pts_sub R _ x (addK_sub hx), ex⟩, y, pts_sub R _ y hy, ey⟩
    · exact ih _ _ h
theorem rowN_mem {R : List Row} {j : Nat} (h : j < R.length) : rowN R j ∈ R := by
  unfold rowN
  rw [List.getD_eq_getElem?_getD, List.getElem?_eq_getElem h]
  exact List.getElem_mem h
theorem pts_p {R : List Row} {j : Nat} (h : j < R.length) : ∃ e ∈ ptsOf R, nk e = nk (rowN R j).1 := (pts_row R _ _ (rowN_mem h)).1
theorem pts_q {R : List Row} {j : Nat} (h : j < R.length) : ∃ e ∈ ptsOf R, nk e = nk (rowN R j).2.1 := (pts_row R _ _ (rowN_mem h)).2
theorem keys_in {α : Type} {B : List (Kd × α)} {l : List Kd} {k : Kd} {v : α} (e : B.map (·.1) = l) (h : ∃ x ∈ l, nk x = nk k) : (putG B k v).map (·.1) = l := by
  rw [keys_put, e]
  unfold addK
  rw [if_pos h]
theorem len_putG {α : Type} (B : List (Kd × α)) (k : Kd) (v : α) : (putG B k v).length ≤ B.length + 1 := by
  have h := congrArg List.length (keys_put B k v)
  rw [List.length_map] at h
  rw [h]
  have := len_addK (B.map (·.1)) k
  rw [List.length_map] at this
  exact this
theorem but_new {D p : Addr} {H H' : Hp} {o : HO} (h : But D H H') (hp : H' p = none) : But D H (upd H' p o) := fun a u ne e => by rw [upd_ne (ne_of_none (h a u ne e) hp)]; exact h a u ne e
def MM : Int := 10 ^ 60
theorem MM0 : 0 ≤ MM := by unfold MM; decide
/-- within s steps of 0 -/
def bndN (s : Nat) (β : NK → Int) : Prop := ∀ x, -((s : Int) * MM) ≤ β x ∧ β x ≤ (s : Int) * MM
theorem bnd_mono {s s' : Nat} {β : NK → Int} (h : bndN s β) (l : s ≤ s') : bndN s' β := fun x => by
  have h1 := h x
  have h2 : (s : Int) * MM ≤ (s' : Int) * MM := Int.mul_le_mul_of_nonneg_right (by omega) MM0
  omega
theorem bnd_set {s : Nat} {β : NK → Int} {a b : NK} {m : Int} (h : bndN s β) (hm : -MM ≤ m ∧ m ≤ MM) : bndN (s + 1) (setN β a (β b + m)) := fun x => by
  have e : ((s + 1 : Nat) : Int) * MM = (s : Int) * MM + MM := by rw [Int.natCast_add, Int.add_mul]; simp
  rw [e]
  unfold setN Fd.setF
  have h0 := MM0
  by_cases c : a = x
  · rw [if_pos c]
    have h1 := h b
    omega
  · rw [if_neg c]
    have h1 := h x
    omega
theorem small_MM {i : Int} (h : small i = true) : -MM ≤ i ∧ i ≤ MM := by
  unfold small at h
  have h1 := of_decide_eq_true h
  change (if i < 0 then -i else i) < MM at h1
  by_cases c : i < 0
  · rw [if_pos c] at h1; omega
  · rw [if_neg c] at h1; omega
theorem bt_zero (l : List Kd) (x : NK) : bt (l.map fun p => (p, (0 : Int))) x = 0 := by
  unfold bt
  cases q : (l.map fun p => (p, (0 : Int))).find? fun e => decide (nk e.1 = x) with
  | none => rfl
  | some e =>
    obtain ⟨p, _, e1⟩ := List.mem_map.mp (List.mem_of_find?_eq_some q)
    rw [← e1]; rfl
/-- the number of a key, if it has one -/
def bo (B : List (Kd × Int)) (x : NK) : Option Int := (B.find? fun e => decide (nk e.1 = x)).map (·.2)
theorem bt_bo (B : List (Kd × Int)) (x : NK) : bt B x = (bo B x).getD 0 := rfl
theorem bo_put (B : List (Kd × Int)) (k : Kd) (v : Int) : bo (putG B k v) = setN (bo B) (nk k) (some v) := by
  funext x
  unfold bo setN Fd.setF
  rw [look_ne]
theorem look_bo (B : List (Kd × Int)) (k : Kd) : lookN (asV .int B) k = (bo B (nk k)).map V.int := by
  rw [lookN_asV]; rfl
theorem bo_bt {B : List (Kd × Int)} {l : List Kd} (e : B.map (·.1) = l) {x : NK} (h : ∃ k ∈ l, nk k = x) : bo B x = some (bt B x) := by
  obtain ⟨k, hk, ek⟩ := h
  have s := (lookG_some_iff B k).mpr (e ▸ ⟨k, hk, rfl⟩)
  unfold lookG at s
  unfold bo bt
  rw [← ek]
  cases q : B.find? fun e => decide (nk e.1 = nk k) with
  | none => rw [q] at s; cases s
  | some y => rfl
theorem bo_mem {B : List (Kd × Int)} {x : NK} {v : Int} (h : bo B x = some v) : ∃ e ∈ B, nk e.1 = x ∧ e.2 = v := by
  unfold bo at h
  cases q : B.find? fun e => decide (nk e.1 = x) with
  | none => rw [q] at h; cases h
  | some y =>
    rw [q] at h
    exact ⟨y, List.mem_of_find?_eq_some q, by simpa using List.find?_some q, Option.some.inj h⟩
/-- within s steps of 0, each at most M -/
def bndO (s : Nat) (M : Int) (β : NK → Option Int) : Prop := ∀ x v, β x = some v → -((s : Int) * M) ≤ v ∧ v ≤ (s : Int) * M
theorem bndO_mono {s s' : Nat} {M : Int} {β : NK → Option Int} (hM : 0 ≤ M) (h : bndO s M β) (l : s ≤ s') : bndO s' M β := fun x v e => by
  have h1 := h x v e
  have h2 : (s : Int) * M ≤ (s' : Int) * M := Int.mul_le_mul_of_nonneg_right (by omega) hM
  omega
theorem bndO_set {s : Nat} {M : Int} {β : NK → Option Int} {a b : NK} {m u : Int} (hM : 0 ≤ M) (h : bndO s M β) (hb : β b = some u) (hm : -M ≤ m ∧ m ≤ M) : bndO (s + 1) M (setN β a (some (u + m))) := fun x v e => by
  have e2 : ((s + 1 : Nat) : Int) * M = (s : Int) * M + M := by rw [Int.natCast_add, Int.add_mul]; simp
  rw [e2]
  unfold setN Fd.setF at e
  by_cases c : a = x
  · rw [if_pos c] at e
    cases e
    have h1 := h b u hb
    omega
  · rw [if_neg c] at e
    have h1 := h x v e
    omega
/-- what the passes make of the numbers B -/
structure Rlx (R : List Row) (B B' : List (Kd × Int)) (C : List (Kd × Nat)) (l : Option Nat) : Prop where
  keys : B.map (·.1) = ptsOf R → B'.map (·.1) = ptsOf R
  src : ∀ S : NK → Int → Prop, (∀ x v, bo B x = some v → S x v) → (∀ j, j < R.length → ∀ v, S (qN R j) v → S (pN R j) (v + mN R j)) → ∀ x v, bo B' x = some v → S x v
  bnd : ∀ M : Int, 0 ≤ M → (∀ r ∈ R, -M ≤ r.2.2 ∧ r.2.2 ≤ M) → bndO (((ptsOf R).length + 1) * R.length) M (bo B')
  mono : ∀ x v, bo B x = some v → ∃ v', bo B' x = some v' ∧ v' ≤ v
  fin : match l with
    | none => Fd.closed (rws R) (bo B')
    | some j => ∃ β L T τ, Fd.Pass (rws R) ((ptsOf R).length + 1) R.length β (ct C) L T τ (some j)
def spRelax (K : PySem.W.Frag) (w : World) : Sp := fun vs H Q _ => ∃ t b R B, vs = [.ref t, .ref b] ∧ RowsT K H R t ∧ R.length ≤ 60 ∧ TabIs K w H b (asV .int B) ∧ B.length ≤ 200 ∧ (∀ e ∈ B, e.2 = 0) ∧
  ∀ z H' D (B' : List (Kd × Int)) (C : List (Kd × Nat)) l, But b H H' → Tups K H H' → TabIs K w H' b (asV .int B') → Rlx R B B' C l → H D = none → D ≠ b → TabIs K w H' D (asV natV C) → SqT K H' z [.ref D, lv l] → Q (.ref z) H'
/-- within the passes -/
structure Mid (R : List Row) (B BI : List (Kd × Int)) (C : List (Kd × Nat)) (n : Nat) : Prop where
  keys : B.map (·.1) = ptsOf R → BI.map (·.1) = ptsOf R
  src : ∀ S : NK → Int → Prop, (∀ x v, bo B x = some v → S x v) → (∀ j, j < R.length → ∀ v, S (qN R j) v → S (pN R j) (v + mN R j)) → ∀ x v, bo BI x = some v → S x v
  bnd : ∀ M : Int, 0 ≤ M → (∀ r ∈ R, -M ≤ r.2.2 ∧ r.2.2 ≤ M) → bndO n M (bo BI)
  mono : ∀ x v, bo B x = some v → ∃ v', bo BI x = some v' ∧ v' ≤ v
  lenB : BI.length ≤ 200 + n
  lenC : C.length ≤ n
theorem Mid.start {R : List Row} {B : List (Kd × Int)} (hz : ∀ e ∈ B, e.2 = 0) (hl : B.length ≤ 200) : Mid R B B [] 0 :=
  ⟨id, fun S h _ => h, fun M hM _ x v e => by
    obtain ⟨y, hy, _, e2⟩ := bo_mem e
    rw [hz y hy] at e2
    subst e2
    simp, fun x v e => ⟨v, e, Int.le_refl _⟩, by omega, Nat.zero_le _⟩
theorem Mid.go {R : List Row} {B BI : List (Kd × Int)} {C : List (Kd × Nat)} {n n' : Nat} (m : Mid R B BI C n) (h : n ≤ n') : Mid R B BI C n' :=
  ⟨m.keys, m.src, fun M hM hr => bndO_mono hM (m.bnd M hM hr) h, m.mono, by have := m.lenB; omega, by have := m.lenC; omega⟩
theorem Mid.low {R : List Row} {B BI : List (Kd × Int)} {C : List (Kd × Nat)} {n k : Nat} (m : Mid R B BI C n) (hk : k < R.length) {b : Int} (hb : bo BI (qN R k) = some b) (h : ∀ a, bo BI (pN R k) = some a → b + mN R k < a) :
    Mid R B (putG BI (rowN R k).1 (b + mN R k)) (putG C (rowN R k).1 k) (n + 1) := by
  refine ⟨fun e => keys_in (m.keys e) (pts_p hk), fun S h0 h1 x v e => ?_, fun M hM hr => ?_, fun x v e => ?_, ?_, ?_⟩
  · rw [bo_put] at e
    unfold setN Fd.setF at e
    by_cases c : nk (rowN R k).1 = x
    · rw [if_pos c] at e
      cases e
      rw [← c]
      exact h1 k hk b (m.src S h0 h1 _ _ hb)
    · rw [if_neg c] at e
      exact m.src S h0 h1 x v e
  · rw [bo_put]
    exact bndO_set hM (m.bnd M hM hr) hb (hr _ (rowN_mem hk))
  · obtain ⟨v', e', l'⟩ := m.mono x v e
    rw [bo_put]
    unfold setN Fd.setF
    by_cases c : nk (rowN R k).1 = x
    · rw [if_pos c]
      have := h v' (by show bo BI (nk (rowN R k).1) = _; rw [c]; exact e')
      exact ⟨_, rfl, by omega⟩
    · rw [if_neg c]; exact ⟨v', e', l'⟩
  · have := len_putG BI (rowN R k).1 (b + mN R k)
    have := m.lenB
    omega
  · have := len_putG C (rowN R k).1 k
    have := m.lenC
    omega
section
variable {K : PySem.W.Frag} {mg : Str → Option Value} {base : Heap} {P : Program} {w : World}
theorem sc11 : FnScope ["differences", "bounds", "causes", "latest", "_", "k", "one", "other", "most"] ["differences", "bounds"] (defScope (topS 11)) := ⟨rfl, rfl, rfl, by decide +kernel, rfl, by decide +kernel, by decide +kernel⟩
theorem ok11 {f : Addr} {fd : FuncData} (F : Fun K "relaxed" "relaxed" (topS 11) f fd) (B : Blt mg) (c10 : Cal P w K mg base 1 "points_of" (spPts K w)) : FnOk P w K mg base CX0 2 f fd ["differences", "bounds"] (spRelax K w) := by
  refine F.ok sc11 (fun vs H Q E h => ?_) (fun cdv A outer s H vs Q E hr h => ?_)
  · obtain ⟨v, k, _, _, rfl, _⟩ := h
    rfl
  · have hu := hu70 hr
    refine ⟨_, pss_cons (ps_set (i := 2) sc11.nd rfl (Or.inl rfl) pe_dnewM) (pss_cons (ps_set (i := 3) sc11.nd rfl (Or.inl rfl) pe_non)
      (pss_cons (ps_for PassesOwn.never rfl (pi_range1 (by rfl) B.range (pa_cons (pe_op op_add (pe_callB call_len_seq (by rfl) B.len boot_len (pa_cons (pe_c c10 hr (by decide) (by rfl) (pa_cons (pv 0) pa_nil)) pa_nil)) pe_int) pa_nil)) (pg_name (i := 4) sc11.nd rfl (Or.inl rfl))
        (pss_cons (ps_set (i := 3) sc11.nd rfl (Or.inl rfl) pe_non)
        (pss_cons (ps_for PassesOwn.never rfl (pi_range1 (by rfl) B.range (pa_cons (pe_callB call_len_seq (by rfl) B.len boot_len (pa_cons (pv 0) pa_nil)) pa_nil)) (pg_name (i := 5) sc11.nd rfl (Or.inl rfl))
          (pss_cons (ps_asg (pe_ix ix_tup (pv 0) (pv 5) (fun _ _ => rfl)) (pg_tup rfl (pgs_cons (pg_name (i := 6) sc11.nd rfl (Or.inl rfl)) (pgs_cons (pg_name (i := 7) sc11.nd rfl (Or.inl rfl)) (pgs_cons (pg_name (i := 8) sc11.nd rfl (Or.inl rfl)) pgs_nil)))))
          (pss_one (ps_if (pw_and (pt_cmpR (op_inM (hu9 hu)) (pv 7) (pv 1) rfl) (pw_and1 (pw_or (pt_cmpR (op_notInM (hu9 hu)) (pv 6) (pv 1) rfl) (pw_or1 (pt_cmpR op_gt (pe_ix (ix_md (hu9 hu)) (pv 1) (pv 6) (fun _ _ => rfl)) (pe_op op_add (pe_ix (ix_md (hu9 hu)) (pv 1) (pv 7) (fun _ _ => rfl)) (pv 8)) (nomark _)))).pt)).pt
            (pss_cons (ps_asg (pe_op op_add (pe_ix (ix_md (hu9 hu)) (pv 1) (pv 7) (fun _ _ => rfl)) (pv 8)) (pg_sub (pv 1) (pv 6) (set_md (hu9 hu)))) (pss_cons (ps_asg (pv 5) (pg_sub (pv 2) (pv 6) (set_md (hu9 hu)))) (pss_one (ps_set (i := 3) sc11.nd rfl (Or.inl rfl) (pv 5))))) pss_nil))))
        (pss_one (ps_if (pt_cmpR op_isN (pv 3) pe_non (nomark _)) (pss_one ps_break) pss_nil)))))
      (pss_one (ps_ret (pe_tup (pa_cons (pv 2) (pa_cons (pv 3) pa_nil))))))), ?_⟩
    obtain ⟨t, b, R, B0, rfl, ⟨vs, st, pr⟩, hl, tb, hlB, hz0, q⟩ := h
    intro D hD
    have hb : H b ≠ none := by obtain ⟨xs, e, _⟩ := tb; rw [e]; exact fun z => nomatch z
    have nDb : D ≠ b := fun z => hb (z ▸ hD)
    have t0 : Tups K H (upd H D (MD w D [])) := Tups.same (same_new hD)
    have tb0 : TabIs K w (upd H D (MD w D [])) b (asV .int B0) := tb.mono t0 (upd_ne (Ne.symm nDb))
    have tc0 : TabIs K w (upd H D (MD w D [])) D (asV natV []) := ⟨[], upd_same, .nil⟩
    have b0 : But b H (upd H D (MD w D [])) := fun x o _ e => same_new hD x o e
    refine ⟨_, rfl, t, R, rfl, ⟨vs, t0 _ _ st, Paired.mapP pr fun _ _ h => h.mono t0⟩, hl, fun pl H1 s1 hpl ⟨ys, hys, pys⟩ => ?_⟩
    refine ⟨pl, ys, rfl, .inl (.inl (.inl hys)), _, _, rfl, rfl, _, rfl, ?_⟩
    have lys : ys.length = (ptsOf R).length := (paired_len pys).symm
    have lN := len_pts R
    have lvs : vs.length = R.length := (paired_len pr).symm
    rw [lys]
    have t1 := t0.trans (Tups.same (K := K) s1)
    have tb1 := tb0.mono (Tups.same s1) (by rw [tb0.choose_spec.1]; exact s1 _ _ tb0.choose_spec.1)
    have tc1 := tc0.same s1
    have b1 : But b H H1 := fun x o ne e => s1 x o (b0 x o ne e)
    have eN : ((((ptsOf R).length : Nat) : Int) + 1).toNat = (ptsOf R).length + 1 := by omega
    refine ⟨by omega, by omega, ?_⟩
    rw [eN]
    have lim : ((ptsOf R).length + 1) * R.length ≤ 122 * 60 := Nat.mul_le_mul (by omega) hl
    have sl : sizeLine = 16777216 := sizeLine_eq
    generalize hN : (ptsOf R).length = N at *
    refine for_steady steady_rng (fun i σ H' => ∃ (BI : List (Kd × Int)) (C : List (Kd × Nat)) (L T : NK → Nat) (τ : Nat) (l : Option Nat) (z0 z1 z2 z3 z4 : Option V), σ = [some (.ref t), some (.ref b), some (.ref D), some (lv l), z0, z1, z2, z3, z4] ∧ But b H H' ∧ Tups K H H' ∧
      TabIs K w H' b (asV .int BI) ∧ TabIs K w H' D (asV natV C) ∧ Mid R B0 BI C (i * R.length) ∧ Fd.Pass (rws R) (i + 1) 0 (bo BI) (ct C) L T τ none ∧ (1 ≤ i → ∃ j, l = some j ∧ Fd.Pass (rws R) i R.length (bo BI) (ct C) L T τ (some j)))
      ⟨B0, [], fun _ => 0, fun _ => 0, 0, none, _, _, _, _, _, rfl, b1, t1, tb1, tc1, by rw [Nat.zero_mul]; exact Mid.start hz0 hlB, Fd.Pass.start (rws R) _, fun h => absurd h (by decide)⟩ (fun _ _ _ _ _ => trivial) ?_ ?_
    · rintro i σ H2 hi ⟨BI, C, L, T, τ, l, z0, z1, z2, z3, z4, rfl, b2, t2, tb2, tc2, md2, ps2, _⟩
      refine ⟨_, rfl, t, vs, rfl, .inr (t2 _ _ st), _, rfl, by omega, by omega, ?_⟩
      have en : ((vs.length : Nat) : Int).toNat = R.length := by rw [← paired_len pr]; omega
      rw [en]
      have bi : i * R.length + R.length ≤ (N + 1) * R.length := by
        rw [← Nat.succ_mul]
        exact Nat.mul_le_mul_right _ (by omega)
      refine for_steady steady_rng (fun k σ H' => ∃ (BI : List (Kd × Int)) (C : List (Kd × Nat)) (L T : NK → Nat) (τ : Nat) (l : Option Nat) (z0 z1 z2 z3 z4 : Option V), σ = [some (.ref t), some (.ref b), some (.ref D), some (lv l), z0, z1, z2, z3, z4] ∧ But b H H' ∧ Tups K H H' ∧
        TabIs K w H' b (asV .int BI) ∧ TabIs K w H' D (asV natV C) ∧ Mid R B0 BI C (i * R.length + k) ∧ Fd.Pass (rws R) (i + 1) k (bo BI) (ct C) L T τ l)
        ⟨BI, C, L, T, τ, none, _, _, _, _, _, rfl, b2, t2, tb2, tc2, md2, ps2⟩ (fun _ _ _ _ _ => trivial) ?_ ?_
      · rintro k σ H3 hi3 ⟨BI, C, L, T, τ, l, z0, z1, z2, z3, z4, rfl, b3, t3, tb3, tc3, md3, ps3⟩
        obtain ⟨u, x, y, eu, su, kx, ky⟩ := (paired_getD pr (a0 := (.no, .no, 0)) (b0 := .non) hi3).mono t3
        have hvs : vs[k]? = some (.ref u) := by
          rw [← eu, List.getD_eq_getElem?_getD, List.getElem?_eq_getElem (by rw [← paired_len pr]; exact hi3)]; rfl
        have hat : atI vs (0 + (k : Int)) = some (.ref u) := by rw [Int.zero_add]; exact atI_nat hvs
        refine ⟨_, rfl, _, rfl, t, vs, _, _, rfl, rfl, t3 _ _ st, hat, ?_⟩
        refine ⟨u, _, rfl, su, rfl, _, _, rfl, _, _, rfl, _, _, rfl, rfl, ?_⟩
        have lx := look_bo BI (rowN R k).1
        have ly := look_bo BI (rowN R k).2.1
        have lB := md3.lenB
        have lC := md3.lenC
        refine ⟨_, rfl, _, rfl, in_tab tb3 ky ?_⟩
        rw [ly]
        cases hq : bo BI (nk (rowN R k).2.1) with
        | none =>
          refine ⟨_, rfl, iteF (iteF ⟨BI, C, L, T, τ, l, _, _, _, _, _, rfl, b3, t3, tb3, tc3, md3.go (by omega), ps3.stay fun b' hb' => ?_⟩)⟩
          change bo BI (nk (rowN R k).2.1) = some b' at hb'
          rw [hq] at hb'
          cases hb'
        | some vq =>
        rw [hq] at ly
        refine ⟨_, rfl, iteT ⟨_, rfl, _, rfl, in_tab tb3 kx ?_⟩⟩
        rw [lx]
        cases hp : bo BI (nk (rowN R k).1) with
        | none =>
          refine ⟨_, rfl, iteT (iteT ?_)⟩
          have h : ∀ a, bo BI (pN R k) = some a → vq + mN R k < a := fun a ha => by
            change bo BI (nk (rowN R k).1) = some a at ha
            rw [hp] at ha
            cases ha
          refine ⟨_, rfl, _, rfl, ix_tab tb3 ky ly ⟨_, rfl, _, _, rfl, rfl, _, rfl, _, rfl, set_tab tb3 kx (by rw [len_asV]; omega) fun H4 b4 t4 tb4 => ?_⟩⟩
          rw [putN_asV] at tb4
          have tc4 := tc3.mono t4 (by rw [tc3.choose_spec.1]; exact b4 _ _ nDb tc3.choose_spec.1)
          refine ⟨_, rfl, _, rfl, _, rfl, set_tab tc4 (kx.mono t4) (by rw [len_asV]; omega) fun H5 b5 t5 tc5 => ?_⟩
          rw [Int.zero_add, putN_asV natV] at tc5
          have tb5 := tb4.mono t5 (by rw [tb4.choose_spec.1]; exact b5 _ _ (Ne.symm nDb) tb4.choose_spec.1)
          refine ⟨_, rfl, ?_⟩
          rw [Int.zero_add]
          refine ⟨_, _, setN L (pN R k) (i + 1), setN T (pN R k) (τ + 1), τ + 1, some k, _, _, _, _, _, rfl, fun a o ne e => b5 a o (ne_of_none e hD) (b4 a o ne (b3 a o ne e)), (t3.trans t4).trans t5, tb5, tc5, md3.low hi3 hq h, ?_⟩
          rw [bo_put, ct_put]
          exact ps3.low hi3 (by omega) hq h
        | some vp =>
        rw [hp] at lx
        refine ⟨_, rfl, iteF ⟨_, rfl, _, rfl, ix_tab tb3 kx lx ⟨_, rfl, _, rfl, ix_tab tb3 ky ly ⟨_, rfl, _, _, rfl, rfl, _, _, rfl, rfl, _, rfl, ?_⟩⟩⟩⟩
        by_cases c : vq + mN R k < vp
        · rw [decide_eq_true c]
          refine iteT ?_
          have h : ∀ a, bo BI (pN R k) = some a → vq + mN R k < a := fun a ha => by
            change bo BI (nk (rowN R k).1) = some a at ha
            rw [hp] at ha
            cases ha
            exact c
          refine ⟨_, rfl, _, rfl, ix_tab tb3 ky ly ⟨_, rfl, _, _, rfl, rfl, _, rfl, _, rfl, set_tab tb3 kx (by rw [len_asV]; omega) fun H4 b4 t4 tb4 => ?_⟩⟩
          rw [putN_asV] at tb4
          have tc4 := tc3.mono t4 (by rw [tc3.choose_spec.1]; exact b4 _ _ nDb tc3.choose_spec.1)
          refine ⟨_, rfl, _, rfl, _, rfl, set_tab tc4 (kx.mono t4) (by rw [len_asV]; omega) fun H5 b5 t5 tc5 => ?_⟩
          rw [Int.zero_add, putN_asV natV] at tc5
          have tb5 := tb4.mono t5 (by rw [tb4.choose_spec.1]; exact b5 _ _ (Ne.symm nDb) tb4.choose_spec.1)
          refine ⟨_, rfl, ?_⟩
          rw [Int.zero_add]
          refine ⟨_, _, setN L (pN R k) (i + 1), setN T (pN R k) (τ + 1), τ + 1, some k, _, _, _, _, _, rfl, fun a o ne e => b5 a o (ne_of_none e hD) (b4 a o ne (b3 a o ne e)), (t3.trans t4).trans t5, tb5, tc5, md3.low hi3 hq h, ?_⟩
          rw [bo_put, ct_put]
          exact ps3.low hi3 (by omega) hq h
        · rw [decide_eq_false c]
          refine iteF ⟨BI, C, L, T, τ, l, _, _, _, _, _, rfl, b3, t3, tb3, tc3, md3.go (by omega), ps3.stay fun b' hb' => ?_⟩
          change bo BI (nk (rowN R k).2.1) = some b' at hb'
          rw [hq] at hb'
          cases hb'
          exact ⟨vp, hp, by show vp ≤ vq + mN R k; omega⟩
      · rintro σ H3 ⟨BI, C, L, T, τ, l, z0, z1, z2, z3, z4, rfl, b3, t3, tb3, tc3, md3, ps3⟩
        have md4 := md3.go bi
        have md5 : Mid R B0 BI C ((i + 1) * R.length) := by rw [Nat.succ_mul]; exact md3
        refine ⟨_, rfl, rfl, _, rfl, ?_⟩
        cases l with
        | none =>
          refine iteT ⟨_, rfl, _, rfl, ?_, fun z hz => ?_⟩
          · rw [sizeLine_eq]; exact (by decide : (2 : Nat) ≤ 16777216)
          · have sm := same_new (o := .tup [V.ref D, V.non]) hz
            exact q z _ D BI C none (but_new b3 hz) (t3.trans (.same sm)) (tb3.same sm) ⟨md4.keys, md4.src, by rw [hN]; exact md4.bnd, md4.mono, ps3.clo⟩ hD nDb (tc3.same sm) (.inl (.inl upd_same))
        | some j =>
          refine iteF ⟨BI, C, L, T, τ, some j, _, _, _, _, _, rfl, b3, t3, tb3, tc3, md5, Fd.Pass.next ps3, fun _ => ⟨j, rfl, ps3⟩⟩
    · rintro σ H3 ⟨BI, C, L, T, τ, l, z0, z1, z2, z3, z4, rfl, b3, t3, tb3, tc3, md3, ps3, hj⟩
      obtain ⟨j, rfl, pj⟩ := hj (by omega)
      refine ⟨_, rfl, _, rfl, ?_, fun z hz => ?_⟩
      · rw [sizeLine_eq]; exact (by decide : (2 : Nat) ≤ 16777216)
      · have sm := same_new (o := .tup [V.ref D, natV j]) hz
        exact q z _ D BI C (some j) (but_new b3 hz) (t3.trans (.same sm)) (tb3.same sm) ⟨md3.keys, md3.src, by rw [hN]; exact md3.bnd, md3.mono, by rw [hN]; exact ⟨bo BI, L, T, τ, pj⟩⟩ hD nDb (tc3.same sm) (.inl (.inl upd_same))
end
end Fc
namespace Fc
open PySem L2 PyProof.Rows
theorem pts_nd (R : List Row) : ((ptsOf R).map nk).Nodup := by
  have one : ∀ (l : List Kd) (k : Kd), (l.map nk).Nodup → ((addK l k).map nk).Nodup := fun l k h => by
    unfold addK
    by_cases c : ∃ e ∈ l, nk e = nk k
    · rw [if_pos c]; exact h
    · rw [if_neg c, List.map_append, List.nodup_append]
      refine ⟨h, by simp, fun a ha b hb => ?_⟩
      obtain ⟨e, he, e1⟩ := List.mem_map.mp ha
      rw [List.map_cons, List.map_nil, List.mem_singleton] at hb
      subst hb
      exact fun z => c ⟨e, he, e1.trans z⟩
  have gen : ∀ (R : List Row) (l : List Kd), (l.map nk).Nodup → ((R.foldl (fun l r => addK (addK l r.1) r.2.1) l).map nk).Nodup := by
    intro R
    induction R with
    | nil => intro l h; exact h
    | cons r R ih => intro l h; exact ih _ (one _ _ (one _ _ h))
  exact gen R _ (by simp)
theorem addK_new {l : List Kd} {k : Kd} (h : nk k ∉ l.map nk) : addK l k = l ++ [k] := by
  unfold addK
  rw [if_neg]
  rintro ⟨e, he, ee⟩
  exact h (List.mem_map.mpr ⟨e, he, ee⟩)
theorem putN_new {B : List (Kd × V)} {k : Kd} {v : V} (h : nk k ∉ (B.map (·.1)).map nk) : putN B k v = B ++ [(k, v)] := by
  induction B with
  | nil => rfl
  | cons b B ih =>
    obtain ⟨a, u⟩ := b
    unfold putN
    rw [List.map_cons, List.map_cons, List.mem_cons, not_or] at h
    rw [if_neg (fun e => h.1 e.symm), ih h.2]
    rfl
theorem nodup_take_getD {l : List Kd} {i : Nat} {k0 : Kd} (nd : (l.map nk).Nodup) (h : i < l.length) : nk (l.getD i k0) ∉ (l.take i).map nk := by
  have e : l.getD i k0 = l[i] := by rw [List.getD_eq_getElem?_getD, List.getElem?_eq_getElem h]; rfl
  rw [e]
  have s : l.map nk = (l.take i).map nk ++ (nk l[i] :: (l.drop (i + 1)).map nk) := by
    rw [← List.map_cons, ← List.map_append]
    congr 1
    rw [← List.drop_eq_getElem_cons h, List.take_append_drop]
  rw [s, List.nodup_append] at nd
  intro z
  exact nd.2.2 _ z _ (by simp) rfl
theorem getD_mem {l : List Kd} {n : Nat} {k : Kd} (h : n < l.length) : l.getD n k ∈ l := by
  rw [List.getD_eq_getElem?_getD, List.getElem?_eq_getElem h]
  exact List.getElem_mem h
theorem tC_i {v : V} {σ : L2.St} {H : Hp} {Q : VK} (h : Q v H) : tC v σ H Q := h
/-- a table that may be read -/
def TabRd (K : PySem.W.Frag) (w : World) (H : Hp) (D : Addr) (B : List (Kd × V)) : Prop := ∃ xs, TabAt K w H D xs ∧ Paired (TabR K H) B xs
theorem ix_rd {K : PySem.W.Frag} {w : World} {H : Hp} {D : Addr} {B : List (Kd × V)} {k : Kd} {kv v : V} {Q : VK} (tb : TabRd K w H D B) (hk : KdV K H k kv) (hv : lookN B k = some v) (q : Q v H) : rIxM K w (.ref D) kv H Q := by
  obtain ⟨xs, ta, p⟩ := tb
  exact ⟨D, xs, nk k, v, rfl, ta, hk.key, by rw [tabR_val p]; exact hv, q⟩
theorem in_rd {K : PySem.W.Frag} {w : World} {H : Hp} {D : Addr} {B : List (Kd × V)} {k : Kd} {kv : V} {g : Bool → Bool} {Q : VK} (tb : TabRd K w H D B) (hk : KdV K H k kv) (q : Q (.bl (g (lookN B k).isSome)) H) : rInM K w g kv (.ref D) H Q := by
  obtain ⟨xs, ta, p⟩ := tb
  exact ⟨D, xs, nk k, rfl, ta, hk.key, by rw [tabR_val p]; exact q⟩
theorem TabRd.mono {K : PySem.W.Frag} {w : World} {H H' : Hp} {D : Addr} {B : List (Kd × V)} (t : TabRd K w H D B) (tp : Tups K H H') (e : ∀ u, Rd H D u → Rd H' D u) : TabRd K w H' D B := let ⟨xs, h, p⟩ := t; ⟨xs, h.mono tp (e _ h.md), tabR_mono tp p⟩
theorem rd_same {H H' : Hp} (s : Same H H') {D : Addr} : ∀ u, Rd H D u → Rd H' D u := fun u r => r.elim (fun e => .inl (s _ _ e)) fun ⟨o, e⟩ => .inr ⟨o, s _ _ e⟩
theorem TabRd.same {K : PySem.W.Frag} {w : World} {H H' : Hp} {D : Addr} {B : List (Kd × V)} (t : TabRd K w H D B) (s : Same H H') : TabRd K w H' D B := t.mono (.same s) (rd_same s)
theorem keys_zero {α : Type} (l : List Kd) (f : Kd → α) : (l.map fun p => (p, f p)).map (·.1) = l := by
  rw [List.map_map]
  exact List.map_id l
/-- {p: f(p) for p in ..} -/
theorem dc_tab {K : PySem.W.Frag} {w : World} {J : It} {it : Nat → V} {G : Hp → Prop} {tv : TE} {i : Nat} {σ : L2.St} {H1 : Hp} {D : Addr} {Qd : Hp → Prop} {pts : List Kd} (f : Kd → Int) (S : Steady J pts.length it G) (hG : ∀ H, Same H1 H → G H) (hi : i < σ.length)
    (py : ∀ n, n < pts.length → KdV K H1 (pts.getD n .no) (it n)) (nd : (pts.map nk).Nodup) (hl : pts.length ≤ 200) (hD : H1 D = none)
    (hv : ∀ n H Q, n < pts.length → Same H1 H → Q (.int (f (pts.getD n .no))) H → tv ((wipe σ [i]).set i (some (it n))) H Q)
    (hd : ∀ H', Same H1 H' → TabIs K w H' D (asV .int (pts.map fun p => (p, f p))) → Qd H') :
    ∃ W : Nat → Nat → Hp → Prop, (∃ m, W 0 m (upd H1 D (MD w D []))) ∧ ∀ n m H, W n m H → (J.stop n H ∧ Qd H) ∨
      (J.go n H ∧ ∃ Nx : Hp → Prop, (∀ H', Nx H' → ∃ m', m' < m ∧ W (n + 1) m' H') ∧ ∀ x H', J.yld n H x H' → gName i x (wipe σ [i]) H' fun σ2 H2 => wipe σ2 [i] = wipe σ [i] ∧
        tVar i σ2 H2 fun y H4 => tv σ2 H4 fun z H5 => ∃ xs k, H5 D = some (MD w D xs) ∧ (∀ x ∈ xs, KeyV K H5 x.1 x.2.1) ∧ KeyV K H5 k y ∧ xs.length < sizeLine ∧ Nx (upd H5 D (MD w D (putM xs k y z)))) := by
  refine dc_steady S (fun n H => Same H1 H ∧ TabIs K w H D (asV .int ((pts.take n).map fun p => (p, f p)))) ⟨same_new hD, [], upd_same, .nil⟩ (fun _ _ _ h => hG _ h.1) (fun n H hn' h => ?_) fun H h => ?_
  · obtain ⟨sm, xs, hx, pp⟩ := h
    have w1 : wipe ((wipe σ [i]).set i (some (it n))) [i] = wipe σ [i] := by
      show ((σ.set i none).set i (some _)).set i none = σ.set i none
      rw [List.set_set, List.set_set]
    have w2 : ((wipe σ [i]).set i (some (it n)))[i]? = some (some (it n)) := by
      show ((σ.set i none).set i (some _))[i]? = _
      rw [List.getElem?_set_self (by rw [List.length_set]; exact hi)]
    refine ⟨w1, it n, w2, hv n H _ hn' sm ?_⟩
    have kk := (py n hn').mono (Tups.same sm)
    have lx : xs.length = n := by
      have := paired_len pp
      rw [len_asV, List.length_map, List.length_take] at this
      omega
    refine ⟨xs, nk (pts.getD n .no), hx, tabR_keys pp, kk.key, by rw [lx, sizeLine_eq]; omega, ?_⟩
    have tp : Tups K H (upd H D (MD w D (putM xs (nk (pts.getD n .no)) (it n) (.int (f (pts.getD n .no)))))) := Tups.upd fun u e => by rw [hx] at e; cases e; exact True.intro
    refine ⟨fun b o e => by rw [upd_ne (ne_of_none e hD)]; exact sm b o e, _, upd_same, tabR_mono tp ?_⟩
    have pq := tabR_put kk (v := V.int (f (pts.getD n .no))) pp
    rw [putN_new] at pq
    · have e : asV V.int ((pts.take (n + 1)).map fun p => (p, f p)) = asV V.int ((pts.take n).map fun p => (p, f p)) ++ [(pts.getD n .no, .int (f (pts.getD n .no)))] := by
        rw [take_snoc hn', List.map_append]
        unfold asV
        rw [List.map_append]
        rfl
      rw [e]
      exact pq
    · rw [keys_asV, keys_zero]
      exact nodup_take_getD nd hn'
  · rw [List.take_of_length_le (Nat.le_refl _)] at h
    exact hd H h.1 h.2
theorem tups_upd {K : PySem.W.Frag} {H : Hp} {a : Addr} {o : HO} (h : ∀ ys, ¬ Rd H a (.tup ys)) : Tups K H (upd H a o) := .of fun b ys r => by
  have ne : b ≠ a := fun z => h ys (z ▸ r)
  rcases r with r | ⟨ob, r⟩
  · exact .inl (by rw [upd_ne ne]; exact r)
  · exact .inr ⟨ob, by rw [upd_ne ne]; exact r⟩
theorem md_notup {w : World} {H : Hp} {D : Addr} {xs : List Ent} (h : H D = some (MD w D xs)) : ∀ ys, ¬ Rd H D (.tup ys) := fun ys r => by
  rcases r with r | ⟨o, r⟩
  · rw [h] at r; cases r
  · rw [h] at r; cases r
theorem frz_notup {w : World} {H : Hp} {D : Addr} {od : Obj} {xs : List Ent} (h : H D = some (.frz od (MD w D xs))) : ∀ ys, ¬ Rd H D (.tup ys) := fun ys r => by
  rcases r with r | ⟨o, r⟩
  · rw [h] at r; cases r
  · rw [h] at r; injection r with r; injection r with _ r; cases r
/-- the table at D locked -/
theorem rd_frz {H : Hp} {D : Addr} {od : Obj} {u : HO} : Rd (upd H D (.frz od u)) D u := .inr ⟨od, upd_same⟩
/-- there is a ring -/
def hasRing (R : List Row) : Prop := ∃ js, Fd.RingJ (rws R) js
theorem Rlx.ring {R : List Row} {B B' : List (Kd × Int)} {C : List (Kd × Nat)} {j0 : Nat} (r : Rlx R B B' C (some j0)) : ∃ idx d, Fd.Cyc (rws R) (ct C) (ptsOf R).length j0 idx d := by
  obtain ⟨β, L, T, τ, p⟩ := r.fin
  exact p.cyc (P := (ptsOf R).map nk) (by simp) fun j hj => List.mem_map.mpr (pts_q hj)
theorem Rlx.has {R : List Row} {B B' : List (Kd × Int)} {C : List (Kd × Nat)} {j0 : Nat} (r : Rlx R B B' C (some j0)) : hasRing R := by
  obtain ⟨idx, d, y⟩ := r.ring
  exact ⟨_, y.ring y.one y.back⟩
/-- numbers for all points, each within 14800 times of what is passed -/
def midI (v : Int) : Prop := -(14800 * MM) ≤ v ∧ v ≤ 14800 * MM
def spNums (K : PySem.W.Frag) (w : World) : Sp := fun vs H Q _ => ∃ t R, vs = [.ref t] ∧ RowsT K H R t ∧ R.length ≤ 60 ∧ (∀ r ∈ R, small r.2.2 = true) ∧ (∀ H', Same H H' → hasRing R → Q .non H') ∧
  ∀ D H' (B : List (Kd × Int)), Same H H' → H D = none → TabIs K w H' D (asV .int B) → B.map (·.1) = ptsOf R → (∀ e ∈ B, midI e.2) → Fd.closed (rws R) (bo B) → bt B (nk (.w "")) = 0 → Q (.ref D) H'
theorem bo_map (l : List Kd) (f : NK → Int) (x : NK) : bo (l.map fun p => (p, f (nk p))) x = if (∃ p ∈ l, nk p = x) then some (f x) else none := by
  unfold bo
  induction l with
  | nil => simp
  | cons p l ih =>
    rw [List.map_cons, List.find?_cons]
    by_cases e : nk p = x
    · simp only [e, decide_true]
      rw [if_pos ⟨p, by simp, e⟩]
      rfl
    · simp only [e, decide_false]
      rw [ih]
      by_cases c : ∃ q ∈ l, nk q = x
      · obtain ⟨q, hq, eq⟩ := c
        rw [if_pos ⟨q, hq, eq⟩, if_pos ⟨q, List.mem_cons_of_mem _ hq, eq⟩]
      · rw [if_neg c, if_neg]
        rintro ⟨q, hq, eq⟩
        rcases List.mem_cons.mp hq with z | z
        · exact e (z ▸ eq)
        · exact c ⟨q, z, eq⟩
section
variable {K : PySem.W.Frag} {mg : Str → Option Value} {base : Heap} {P : Program} {w : World}
abbrev n12 : List Str := ["differences", "bounds", "_", "latest", "point"]
theorem sc12 : FnScope n12 ["differences"] (defScope (topS 12)) := ⟨rfl, rfl, rfl, by decide +kernel, rfl, by decide +kernel, by decide +kernel⟩
theorem ok12 {f : Addr} {fd : FuncData} (F : Fun K "numbers_that_fit" "numbers_that_fit" (topS 12) f fd) (B : Blt mg) (c10 : Cal P w K mg base 1 "points_of" (spPts K w)) (c11 : Cal P w K mg base 2 "relaxed" (spRelax K w)) : FnOk P w K mg base CX0 3 f fd ["differences"] (spNums K w) := by
  refine F.ok sc12 (fun vs H Q E h => ?_) (fun cdv A outer s H vs Q E hr h => ?_)
  · obtain ⟨t, R, rfl, _⟩ := h
    rfl
  · have hu := hu70 hr
    refine ⟨_, pss_cons (ps_set (i := 1) sc12.nd rfl (Or.inr rfl) (pe_dcM (own := [("point", 4)]) (g := gName 4) (hu9 hu) (by rfl) sc12.nd (pi_list (pe_c c10 hr (by decide) (by rfl) (pa_cons (pv 0) pa_nil))) (blkOk_by (N := n12) (sc := defScope (topS 12)) (by decide +kernel))
        (fun _ _ _ _ _ => pg_name (i := 4) sc12.nd rfl (Or.inl rfl)) (fun _ _ _ _ _ => pv 4) (fun _ _ _ _ _ => pe_int)))
      (pss_cons (ps_asg (pe_c c11 hr (by decide) (by rfl) (pa_cons (pv 0) (pa_cons (pv 1) pa_nil))) (pg_tup rfl (pgs_cons (pg_name (i := 2) sc12.nd rfl (Or.inl rfl)) (pgs_cons (pg_name (i := 3) sc12.nd rfl (Or.inl rfl)) pgs_nil))))
      (pss_cons (ps_if (pt_cmpR op_notN (pv 3) pe_non (nomark _)) (pss_one (ps_ret pe_non)) pss_nil)
      (pss_one (ps_ret (pe_lock (pe_dcM (own := [("point", 4)]) (g := gName 4) (hu9 hu) (by rfl) sc12.nd (pi_keyM (pv 1)) (blkOk_by (N := n12) (sc := defScope (topS 12)) (by decide +kernel))
        (fun _ _ _ _ _ => pg_name (i := 4) sc12.nd rfl (Or.inl rfl)) (fun _ _ _ _ _ => pv 4) (fun _ _ _ _ _ => pe_op op_sub (pe_ix (r := rIxM K w) (ix_md (hu9 hu)) (pv 1) (pv 4) (fun _ _ => rfl)) (pe_ix (r := rIxM K w) (ix_md (hu9 hu)) (pv 1) pe_str (fun _ _ => rfl))))))))), ?_⟩
    obtain ⟨t, R, rfl, ⟨vs, st, pr⟩, hl, hsm, q0, q⟩ := h
    have lN := len_pts R
    have nd := pts_nd R
    refine ⟨_, rfl, t, R, rfl, ⟨vs, st, pr⟩, hl, fun pl H1 s1 hpl ⟨ys, hys, py⟩ => ⟨pl, rfl, ⟨ys, .inl (.inl hys)⟩, fun D hD => ?_⟩⟩
    have ly := paired_len py
    have S := steady_list (K := K) (a := pl) (xs := ys)
    rw [← ly] at S
    refine dc_tab (fun _ => 0) (pts := ptsOf R) S (fun H' h => .inl (.inl (h _ _ hys))) (by exact (by decide : 4 < 5)) (fun n hn => paired_getD py hn) nd (by omega) hD (fun n H Q hn _ q => q) fun H2 s2 tb2 => ?_
    have s12 : Same H H2 := s1.trans s2
    have hDH : H D = none := s1.free hD
    refine ⟨_, rfl, _, rfl, t, D, R, _, rfl, ⟨vs, Tups.same s12 _ _ st, Paired.mapP pr fun _ _ h => h.mono (.same s12)⟩, hl, tb2, by rw [List.length_map]; omega, (fun e he => by obtain ⟨p, _, e1⟩ := List.mem_map.mp he; rw [← e1]), fun z H3 D3 B' C l b3 t3 tb3 rx hD3 nD tc3 sz => ?_⟩
    have hk3 := rx.keys (keys_zero _ _)
    have s3 : Same H H3 := fun a o e => b3 a o (ne_of_none e hDH) (s12 a o e)
    refine ⟨z, _, rfl, sz, rfl, _, _, rfl, _, _, rfl, rfl, _, rfl, rfl, _, rfl, ?_⟩
    cases l with
    | some j => exact iteT (q0 _ s3 rx.has)
    | none =>
      have hbd : bndN 7400 (bt B') := fun x => by
        have hM := rx.bnd MM MM0 fun r hr => small_MM (hsm r hr)
        have lim : ((ptsOf R).length + 1) * R.length ≤ 122 * 60 := Nat.mul_le_mul (by omega) hl
        have hM := bndO_mono MM0 hM (Nat.le_trans lim (by decide : 122 * 60 ≤ 7400))
        cases e : bo B' x with
        | none =>
          have e2 : bt B' x = 0 := by
            unfold bo at e
            unfold bt
            rw [e]; rfl
          rw [e2]
          have := MM0
          omega
        | some v =>
          have e2 : bt B' x = v := by
            unfold bo at e
            unfold bt
            rw [e]; rfl
          rw [e2]
          exact hM x v e
      obtain ⟨xs, hx, pp⟩ := tb3
      refine iteF ⟨D, _, hx, True.intro, fun od => ⟨_, rfl, D, od, xs, rfl, upd_same, fun D4 hD4 => ?_⟩⟩
      have nD4 : D4 ≠ D := fun z => by rw [z, upd_same] at hD4; cases hD4
      have tf : Tups K H3 (upd H3 D (.frz od (MD w D xs))) := tups_upd (md_notup hx)
      have rd : TabRd K w (upd H3 D (.frz od (MD w D xs))) D (asV .int B') := ⟨xs, ⟨rd_frz, tabR_keys (tabR_mono tf pp)⟩, tabR_mono tf pp⟩
      have kx := keys_of_tab (tabR_mono tf pp)
      rw [keys_asV, hk3] at kx
      have lx := paired_len kx
      rw [List.length_map] at lx
      have S2 := steady_key (w := w) (d := D) (o := od) (xs := xs)
      rw [← lx] at S2
      refine dc_tab (fun p => bt B' (nk p) - bt B' (nk (.w ""))) (pts := ptsOf R) S2 (fun H' h => h _ _ upd_same) (by exact (by decide : 4 < 5)) (fun n hn => paired_getD kx hn) nd (by omega) hD4 (fun n H Q hn sm q => ?_) fun H5 s5 tb5 => ⟨s5 _ _ upd_same, ?_⟩
      · have kk := (paired_getD kx (a0 := .no) (b0 := .non) hn).mono (Tups.same sm)
        refine ⟨_, rfl, _, rfl, ix_rd (rd.same sm) kk (look_bt hk3 ⟨_, getD_mem hn, rfl⟩) ⟨_, rfl, ?_⟩⟩
        have e0 : lookN (asV .int B') (.w "") = some (.int (bt B' (nk (.w "")))) := look_bt hk3 ⟨.w "", pts_sub R _ _ (by simp), rfl⟩
        refine tC_i ?_
        refine ix_rd (rd.same sm) (k := .w "") rfl e0 ?_
        exact ⟨_, _, rfl, rfl, q⟩
      · have t5 : Tups K H5 (upd H5 D (MD w D xs)) := tups_upd (frz_notup (s5 _ _ upd_same))
        refine q D4 _ _ (fun a o e => ?_) ?_ (tb5.mono t5 (upd_ne nD4)) (keys_zero _ _) (fun e he => ?_) ?_ ?_
        · have na := ne_of_none e hDH
          rw [upd_ne na]
          refine s5 a o ?_
          rw [upd_ne na]
          exact s3 a o e
        · rw [upd_ne nD4] at hD4
          exact s3.free hD4
        · obtain ⟨p, _, e1⟩ := List.mem_map.mp he
          rw [← e1]
          have h1 := hbd (nk p)
          have h2 := hbd (nk (.w ""))
          unfold midI
          simp only at h1 h2 ⊢
          omega
        · refine Fd.closed.shift (β := bo B') (bt B' (nk (.w ""))) (fun x => ?_) rx.fin
          rw [bo_map (ptsOf R) fun y => bt B' y - bt B' (nk (.w ""))]
          by_cases c : ∃ p ∈ ptsOf R, nk p = x
          · rw [if_pos c, bo_bt hk3 c]; rfl
          · rw [if_neg c]
            cases e : bo B' x with
            | none => rfl
            | some v =>
              obtain ⟨y, hy, ey, _⟩ := bo_mem e
              exact absurd ⟨y.1, by rw [← hk3]; exact List.mem_map_of_mem hy, ey⟩ c
        · have e0 := bo_map (ptsOf R) (fun y => bt B' y - bt B' (nk (.w ""))) (nk (.w ""))
          rw [if_pos ⟨.w "", pts_sub R _ _ (by simp), rfl⟩, Int.sub_self] at e0
          rw [bt_bo, e0]; rfl
end
end Fc
namespace Fc
open PySem L2 PyProof.Rows
theorem look_ct {C : List (Kd × Nat)} {k : Kd} {j : Nat} (h : ct C (nk k) = some j) : lookN (asV natV C) k = some (natV j) := by
  rw [lookN_asV]
  have e : lookG C k = ct C (nk k) := rfl
  rw [e, h]; rfl
theorem vs_at {K : PySem.W.Frag} {H : Hp} {R : List Row} {vs : List V} (pr : Paired (RowV K H) R vs) {j : Nat} (hj : j < R.length) : ∃ u x y, vs[j]? = some (.ref u) ∧ SqT K H u [x, y, .int (mN R j)] ∧ KdV K H (rowN R j).1 x ∧ KdV K H (rowN R j).2.1 y := by
  obtain ⟨u, x, y, eu, su, kx, ky⟩ := paired_getD pr (a0 := (.no, .no, 0)) (b0 := .non) hj
  refine ⟨u, x, y, ?_, su, kx, ky⟩
  rw [← eu, List.getD_eq_getElem?_getD, List.getElem?_eq_getElem (by rw [← paired_len pr]; exact hj)]; rfl
theorem walk_step {K : PySem.W.Frag} {w : World} {H : Hp} {t D : Addr} {vs : List V} {R : List Row} {C : List (Kd × Nat)} {j j' : Nat} {Q : VK} {σ : L2.St} (st : SqT K H t vs) (pr : Paired (RowV K H) R vs) (tc : TabIs K w H D (asV natV C)) (hj : j < R.length) (hc : ct C (qN R j) = some j')
    (h0 : σ[0]? = some (some (.ref t))) (h2 : σ[2]? = some (some (.ref D))) (h4 : σ[4]? = some (some (natV j))) (q : Q (natV j') H) : tOp (rIxM K w) (tVar 2) (tOp (rIxT K) (tOp (rIxT K) (tVar 0) (tVar 4)) (tC (.int 1))) σ H Q := by
  obtain ⟨u, x, y, eu, su, kx, ky⟩ := vs_at pr hj
  exact ⟨_, h2, _, h0, _, h4, t, vs, _, .ref u, rfl, rfl, st, atI_nat eu, u, _, 1, y, rfl, rfl, su, atI_nat (j := 1) rfl, ix_tab tc ky (look_ct hc) q⟩
def spFound (K : PySem.W.Frag) (w : World) : Sp := fun vs H Q _ => ∃ t R, vs = [.ref t] ∧ RowsT K H R t ∧ R.length ≤ 60 ∧ (∀ r ∈ R, small r.2.2 = true) ∧ (∀ H', Same H H' → (∃ B : List (Kd × Int), B.map (·.1) = ptsOf R ∧ Fd.closed (rws R) (bo B)) → Q .non H') ∧
  ∀ p H' (js : List Nat), Same H H' → H p = none → js ≠ [] → js.length ≤ 200 → (∀ j ∈ js, j < R.length) → Fd.RingJ (rws R) js → H' p = some (.lst (js.map natV)) → Q (.ref p) H'
section
variable {K : PySem.W.Frag} {mg : Str → Option Value} {base : Heap} {P : Program} {w : World}
abbrev n13 : List Str := ["differences", "bounds", "causes", "latest", "index", "_", "indices", "point"]
theorem sc13 : FnScope n13 ["differences"] (defScope (topS 13)) := ⟨rfl, rfl, rfl, by decide +kernel, rfl, by decide +kernel, by decide +kernel⟩
theorem ok13 {f : Addr} {fd : FuncData} (F : Fun K "found_ring" "found_ring" (topS 13) f fd) (B : Blt mg) (c10 : Cal P w K mg base 1 "points_of" (spPts K w)) (c11 : Cal P w K mg base 2 "relaxed" (spRelax K w)) : FnOk P w K mg base CX0 3 f fd ["differences"] (spFound K w) := by
  refine F.ok sc13 (fun vs H Q E h => ?_) (fun cdv A outer s H vs Q E hr h => ?_)
  · obtain ⟨t, R, rfl, _⟩ := h
    rfl
  · have hu := hu70 hr
    refine ⟨_, pss_cons (ps_setDcM (i := 1) (own := [("point", 7)]) (g := gName 7) (hu9 hu) (by rfl) sc13.nd rfl rfl (sw_trueD rfl rfl rfl (by decide +kernel)) (pi_list (pe_c c10 hr (by decide) (by rfl) (pa_cons (pv 0) pa_nil))) (blkOk_by (N := n13) (sc := defScope (topS 13)) (by decide +kernel))
        (fun _ _ _ _ _ => pg_name (i := 7) sc13.nd rfl (Or.inl rfl)) (fun _ _ _ _ _ => pv 7) (fun _ _ _ _ _ => pe_int))
      (pss_cons (ps_asg (pe_c c11 hr (by decide) (by rfl) (pa_cons (pv 0) (pa_cons (pv 1) pa_nil))) (pg_tup rfl (pgs_cons (pg_name (i := 2) sc13.nd rfl (Or.inl rfl)) (pgs_cons (pg_name (i := 3) sc13.nd rfl (Or.inl rfl)) pgs_nil))))
      (pss_cons (ps_if (pt_cmpR op_isN (pv 3) pe_non (nomark _)) (pss_one (ps_ret pe_non)) pss_nil)
      (pss_cons (ps_set (i := 4) sc13.nd rfl (Or.inl rfl) (pv 3))
      (pss_cons (ps_for PassesOwn.never rfl (pi_range1 (by rfl) B.range (pa_cons (pe_callB call_lenM (by rfl) B.len boot_len (pa_cons (pv 1) pa_nil)) pa_nil)) (pg_name (i := 5) sc13.nd rfl (Or.inl rfl))
        (pss_one (ps_set (i := 4) sc13.nd rfl (Or.inl rfl) (pe_ix (ix_md (hu9 hu)) (pv 2) (pe_ix ix_tup (pe_ix ix_tup (pv 0) (pv 4) (fun _ _ => rfl)) pe_int (fun _ _ => rfl)) (fun _ _ => rfl)))))
      (pss_cons (ps_set (i := 6) sc13.nd rfl (Or.inl rfl) (pe_lst (pa_cons (pv 4) pa_nil)))
      (pss_cons (ps_set (i := 4) sc13.nd rfl (Or.inl rfl) (pe_ix (ix_md (hu9 hu)) (pv 2) (pe_ix ix_tup (pe_ix ix_tup (pv 0) (pv 4) (fun _ _ => rfl)) pe_int (fun _ _ => rfl)) (fun _ _ => rfl)))
      (pss_cons (ps_while PassesOwn.never (pt_cmpR op_ne (pv 4) (pe_ix ix_list (pv 6) pe_int (fun _ _ => rfl)) (nomark _))
        (pss_cons (ps_expr (pe_bm PySem.F.plainAttrs_list PySem.F.slot_list_append PySem.F.type_list_append mt_append (pv 6) (pa_cons (pv 4) pa_nil))) (pss_one (ps_set (i := 4) sc13.nd rfl (Or.inl rfl) (pe_ix (ix_md (hu9 hu)) (pv 2) (pe_ix ix_tup (pe_ix ix_tup (pv 0) (pv 4) (fun _ _ => rfl)) pe_int (fun _ _ => rfl)) (fun _ _ => rfl))))))
      (pss_one (ps_ret (pv 6)))))))))), ?_⟩
    obtain ⟨t, R, rfl, ⟨vs, st, pr⟩, hl, hsm, q0, q⟩ := h
    have lN := len_pts R
    have nd := pts_nd R
    refine ⟨_, rfl, t, R, rfl, ⟨vs, st, pr⟩, hl, fun pl H1 s1 hpl ⟨ys, hys, py⟩ => ⟨pl, rfl, ⟨ys, .inl (.inl hys)⟩, fun D hD => ?_⟩⟩
    have ly := paired_len py
    have S := steady_list (K := K) (a := pl) (xs := ys)
    rw [← ly] at S
    refine dc_tab (fun _ => 0) (pts := ptsOf R) S (fun H' h => .inl (.inl (h _ _ hys))) (by exact (by decide : 7 < 8)) (fun n hn => paired_getD py hn) nd (by omega) hD (fun n H Q hn _ q => q) fun H2 s2 tb2 => ?_
    have s12 : Same H H2 := s1.trans s2
    have hDH : H D = none := s1.free hD
    refine ⟨_, rfl, _, rfl, t, D, R, _, rfl, ⟨vs, Tups.same s12 _ _ st, Paired.mapP pr fun _ _ h => h.mono (.same s12)⟩, hl, tb2, by rw [List.length_map]; omega, (fun e he => by obtain ⟨p, _, e1⟩ := List.mem_map.mp he; rw [← e1]), fun z H3 D3 B' C l b3 t3 tb3 rx hD3 nD tc3 sz => ?_⟩
    have hk3 := rx.keys (keys_zero _ _)
    have s3 : Same H H3 := fun a o e => b3 a o (ne_of_none e hDH) (s12 a o e)
    refine ⟨z, _, rfl, sz, rfl, _, _, rfl, _, _, rfl, rfl, _, rfl, rfl, _, rfl, ?_⟩
    cases l with
    | none => exact iteT (q0 _ s3 ⟨B', hk3, rx.fin⟩)
    | some j0 =>
      obtain ⟨idx, d, Y⟩ := rx.ring
      obtain ⟨xs, ta, pp⟩ := tb3.at
      have lx : xs.length = (ptsOf R).length := by
        have h1 := paired_len pp
        have h2 := congrArg List.length hk3
        rw [len_asV] at h1
        rw [List.length_map] at h2
        omega
      refine iteF ⟨_, rfl, _, rfl, D, xs, rfl, ta, _, rfl, by omega, by omega, ?_⟩
      have st3 : SqT K H3 t vs := Tups.same s3 _ _ st
      have pr3 : Paired (RowV K H3) R vs := Paired.mapP pr fun _ _ h => h.mono (.same s3)
      have eN : ((xs.length : Int)).toNat = (ptsOf R).length := by omega
      rw [eN]
      generalize hN : (ptsOf R).length = N at *
      refine for_steady steady_rng (fun n σ H' => H' = H3 ∧ ∃ z5 z6 z7, σ = [some (.ref t), some (.ref D), some (.ref D3), some (natV j0), some (natV (idx n)), z5, z6, z7]) ⟨rfl, _, _, _, by rw [Y.zero]; rfl⟩ (fun _ _ _ _ _ => trivial) ?_ ?_
      · rintro n σ H4 hn ⟨rfl, z5, z6, z7, rfl⟩
        refine walk_step st3 pr3 tc3 (Y.lt n) (Y.go n) rfl rfl rfl ⟨rfl, _, _, _, rfl⟩
      · rintro σ H4 ⟨rfl, z5, z6, z7, rfl⟩
        refine ⟨_, rfl, (by rw [sizeLine_eq]; exact (by decide : (1 : Nat) ≤ 16777216)), fun p hp => ?_⟩
        have sp := same_new (o := .lst [natV (idx N)]) hp
        refine walk_step (Tups.same sp _ _ st3) (Paired.mapP pr3 fun _ _ h => h.mono (.same sp)) (tc3.same sp) (Y.lt N) (Y.go N) rfl rfl rfl ?_
        have nD3 : D3 ≠ p := fun e => by obtain ⟨xs3, e3, _⟩ := tc3; rw [e, hp] at e3; cases e3
        refine ⟨fun m σ H => ∃ n z5 z7, m + n = d ∧ 1 ≤ n ∧ H = upd H4 p (.lst (((List.range n).map fun i => idx (N + i)).map natV)) ∧ σ = [some (.ref t), some (.ref D), some (.ref D3), some (natV j0), some (natV (idx (N + n))), z5, some (.ref p), z7], ⟨d - 1, 1, _, _, by have := Y.one; omega, Nat.le_refl _, rfl, rfl⟩, ?_⟩
        rintro m σ H5 ⟨n, z5, z7, hm, hn, rfl, rfl⟩
        have sp := same_new (o := .lst (((List.range n).map fun i => idx (N + i)).map natV)) hp
        have h0 : atI (((List.range n).map fun i => idx (N + i)).map natV) ((0 : Nat) : Int) = some (natV (idx N)) := atI_nat (by
          rw [List.getElem?_map, List.getElem?_map, List.getElem?_range (by omega)]; rfl)
        have hd := Y.dn
        refine ⟨_, rfl, _, rfl, p, _, 0, _, rfl, rfl, .inl (.inl upd_same), h0, rfl, _, rfl, ?_⟩
        have ee : (!decide (natV (idx (N + n)) = natV (idx N))) = !decide (idx (N + n) = idx N) := by
          by_cases e : idx (N + n) = idx N
          · rw [e]; simp
          · have e2 : ¬ natV (idx (N + n)) = natV (idx N) := fun z => e (by injection z with z; omega)
            rw [decide_eq_false e, decide_eq_false e2]
        rw [ee]
        by_cases e : idx (N + n) = idx N
        · rw [decide_eq_true e]
          refine iteF ⟨_, rfl, q p _ ((List.range n).map fun i => idx (N + i)) (fun a o ha => by rw [upd_ne (ne_of_none (s3 a o ha) hp)]; exact s3 a o ha) (s3.free hp) ?_ (by rw [List.length_map, List.length_range]; omega) (fun j hj => by obtain ⟨i, _, e⟩ := List.mem_map.mp hj; rw [← e]; exact Y.lt _) (Y.ring hn e) upd_same⟩
          intro z
          have := congrArg List.length z
          rw [List.length_map, List.length_range] at this
          exact absurd this (by simp; omega)
        · rw [decide_eq_false e]
          have nd : n ≠ d := fun z => e (by rw [z]; exact Y.back)
          refine iteT ⟨fun σ H => ∃ z5 z7, H = upd H4 p (.lst (((List.range (n + 1)).map fun i => idx (N + i)).map natV)) ∧ σ = [some (.ref t), some (.ref D), some (.ref D3), some (natV j0), some (natV (idx (N + (n + 1)))), z5, some (.ref p), z7], ?_, ?_⟩
          · rintro σ' H' ⟨z5, z7, e1, e2⟩
            exact ⟨d - (n + 1), by omega, n + 1, z5, z7, by omega, by omega, e1, e2⟩
          · refine ⟨_, rfl, .inl ⟨rfl, _, .inl (.inl upd_same)⟩, _, rfl, p, _, _, rfl, rfl, upd_same, by rw [List.length_map, List.length_map, List.length_range, sizeLine_eq]; omega, ?_⟩
            rw [upd_upd]
            have el : ((List.range n).map fun i => idx (N + i)).map natV ++ [natV (idx (N + n))] = ((List.range (n + 1)).map fun i => idx (N + i)).map natV := by
              rw [List.range_succ, List.map_append, List.map_append]; rfl
            rw [el]
            have sp2 := same_new (o := .lst (((List.range (n + 1)).map fun i => idx (N + i)).map natV)) hp
            exact walk_step (Tups.same sp2 _ _ st3) (Paired.mapP pr3 fun _ _ h => h.mono (.same sp2)) (tc3.same sp2) (Y.lt (N + n)) (Y.go (N + n)) rfl rfl rfl ⟨_, _, rfl, rfl⟩
end
end Fc
namespace Fc
open PySem L2 PyProof.Rows
/-- sorted(xs): xs reads as data -/
theorem call_sortD {X : Cx} {β : Type} (enc : β → PyData) (hu : X.A.units + 70 < cLine) : CallR X (.builtin "sorted") (fun vs H Q => ∃ (a : Addr) (bs : List (β × V)), vs = [V.ref a] ∧ SqL X.K H a (bs.map (·.2)) ∧ PySem.W.AllAlike (bs.map fun b => enc b.1) ∧ PySem.W.Sortable (bs.map fun b => enc b.1) ∧
    (∀ b ∈ bs, Dp X.K H b.2 (enc b.1)) ∧ bs.length ≤ 200 ∧ (∀ b ∈ bs, (enc b.1).depth ≤ 5) ∧ ∀ (bs' : List (β × V)) (p : Addr), bs'.Perm bs → bs' = bs.mergeSort (PySem.W.dataLe false fun b => enc b.1) → H p = none → Q (.ref p) (upd H p (.lst (bs'.map (·.2))))) := by
  intro pins s σ H vs us Q I r h
  obtain ⟨a, bs, rfl, hs, hal, hk, hd, hl, hdp, q⟩ := h
  obtain ⟨its, rv, hli, _⟩ := I.list hs
  rw [Vals.ref1 r]
  have each : ∀ (bs : List (β × V)) (us : List Value), (∀ b ∈ bs, Dp X.K H b.2 (enc b.1)) → Vals (bs.map (·.2)) us → PySem.W.EachIs (fun (v : Value) (b : β × V) => RelV b.2 v) us bs ∧ PySem.W.EachIs (fun (v : Value) (b : β × V) => ∃ as, Reads s.heap v (enc b.1) as) us bs := by
    intro bs
    induction bs with
    | nil => intro us _ h; cases h; exact ⟨.nil, .nil⟩
    | cons b bs ih =>
      intro us hd h
      cases h with
      | cons h1 h2 =>
        obtain ⟨e1, e2⟩ := ih _ (fun x hx => hd x (List.mem_cons_of_mem _ hx)) h2
        exact ⟨.cons h1 e1, .cons (Dp.reads I _ _ _ (hd b (by simp)) h1) e2⟩
  have back : ∀ (bs : List (β × V)) (us : List Value), PySem.W.EachIs (fun (v : Value) (b : β × V) => RelV b.2 v) us bs → Vals (bs.map (·.2)) us := by
    intro bs us h
    induction h with
    | nil => exact .nil
    | cons h _ ih => exact .cons h ih
  obtain ⟨e1, e2⟩ := each bs its hd rv
  refine PySem.W.sorted_data (bs := bs) (enc := fun b => enc b.1) (vs := its) (R := fun (v : Value) (b : β × V) => RelV b.2 v) (by simpa using hli.isList) e1 e2 hal hk (by rw [sizeLine_eq]; omega) (fun b hb => ?_) fun out ho eo => ?_
  · have := hdp b hb
    omega
  · obtain ⟨ep, he'⟩ := PyProof.Rows.sortedAll_at s.heap its out.toArray
    have pm : (bs.mergeSort (PySem.W.dataLe false fun b => enc b.1)).Perm bs := List.mergeSort_perm _ _
    generalize hbs : bs.mergeSort (PySem.W.dataLe false fun b => enc b.1) = bs' at eo pm
    have hlen : (bs'.map (·.2)).length ≤ sizeLine := by rw [List.length_map, pm.length_eq, sizeLine_eq]; omega
    exact ⟨.ref _, upd H (s.heap.objs.size + 1) (.lst (bs'.map (·.2))), I.laid (t' := s.toks) (fun _ _ => PyProof.Rows.sortedAll_old) (Nat.le_succ _) ⟨hlen, out, ep, back _ _ eo, he'⟩, rfl, q bs' _ pm hbs.symm (I.hok.fresh (Nat.le_succ _))⟩
def eqK (a b : Kd) : Bool := PyData.eqv (pd a) (pd b)
abbrev shK (k : Kd) : Bool := SeqAt.shaped (pd k)
def shRow (r : Row) : Prop := shK r.1 = true ∧ shK r.2.1 = true
theorem KdV.dq {K : PySem.W.Frag} {H : Hp} {a b : Kd} {x y : V} {Q : VK} (ha : KdV K H a x) (hb : KdV K H b y) (sa : shK a = true) (sb : shK b = true) (q : Q (.bl (!eqK a b)) H) : rNeD K x y H Q := ⟨pd a, pd b, ha.dp, hb.dp, sa, sb, q⟩
def prevI (n k : Nat) : Nat := if k = 0 then n - 1 else k - 1
def linkB (R : List Row) (k : Nat) : Bool := eqK (rowN R (prevI R.length k)).2.1 (rowN R k).1
def sumM (R : List Row) : Int := (R.map (·.2.2)).sum
def ringB (R : List Row) : Bool := (List.range R.length).all (linkB R) && decide (sumM R < 0)
theorem at_prev {α : Type} {xs : List α} {k : Nat} {v : α} (hk : k < xs.length) (h : xs[prevI xs.length k]? = some v) : atI xs ((k : Int) - 1) = some v := by
  unfold prevI at h
  unfold atI ixN
  by_cases c : k = 0
  · subst c
    rw [if_pos rfl] at h
    rw [if_neg (by omega), if_pos (by omega)]
    have e : (((0 : Nat) : Int) - 1 + (xs.length : Int)).toNat = xs.length - 1 := by omega
    rw [e]
    exact h
  · rw [if_neg c] at h
    rw [if_pos (by omega), if_pos (by omega)]
    have e : ((k : Int) - 1).toNat = k - 1 := by omega
    rw [e]
    exact h
theorem prevI_lt {n k : Nat} (h : k < n) : prevI n k < n := by
  unfold prevI
  by_cases c : k = 0
  · rw [if_pos c]; omega
  · rw [if_neg c]; omega
theorem sumM_snoc {R : List Row} {k : Nat} (h : k < R.length) : sumM (R.take (k + 1)) = sumM (R.take k) + mN R k := by
  rw [take_snoc (a0 := (.no, .no, 0)) h]
  unfold sumM
  rw [List.map_append, List.sum_append]
  show _ + ((mN R k) + 0) = _
  rw [Int.add_zero]
theorem hu64 {n : Nat} (h : n + 70 < cLine) : n + 64 < cLine := by omega
def spMakes (K : PySem.W.Frag) (w : World) : Sp := fun vs H Q _ => ∃ p ws R, vs = [.ref p] ∧ SqL K H p ws ∧ Paired (RowV K H) R ws ∧ R.length ≤ 1000 ∧ (∀ r ∈ R, shRow r) ∧ Q (.bl (ringB R)) H
section
variable {K : PySem.W.Frag} {mg : Str → Option Value} {base : Heap} {P : Program} {w : World}
theorem sc14 : FnScope ["chosen", "total", "k"] ["chosen"] (defScope (topS 14)) := ⟨rfl, rfl, rfl, by decide +kernel, rfl, by decide +kernel, by decide +kernel⟩
theorem ok14 {f : Addr} {fd : FuncData} (F : Fun K "makes_ring" "makes_ring" (topS 14) f fd) (B : Blt mg) : FnOk P w K mg base CX0 1 f fd ["chosen"] (spMakes K w) := by
  refine F.ok sc14 (fun vs H Q E h => ?_) (fun cdv A outer s H vs Q E hr h => ?_)
  · obtain ⟨t, ws, R, rfl, _⟩ := h
    rfl
  · have hu := hu70 hr
    refine ⟨_, pss_cons (ps_set (i := 1) sc14.nd rfl (Or.inl rfl) pe_int)
      (pss_cons (ps_for PassesOwn.never rfl (pi_range1 (by rfl) B.range (pa_cons (pe_callB call_len_seq (by rfl) B.len boot_len (pa_cons (pv 0) pa_nil)) pa_nil)) (pg_name (i := 2) sc14.nd rfl (Or.inl rfl))
        (pss_cons (ps_if (pt_cmpR (op_neD (hu64 hu)) (pe_ix ix_tup (pe_ix ix_list (pv 0) (pe_op op_sub (pv 2) pe_int) (fun _ _ => rfl)) pe_int (fun _ _ => rfl)) (pe_ix ix_tup (pe_ix ix_list (pv 0) (pv 2) (fun _ _ => rfl)) pe_int (fun _ _ => rfl)) (nomark _)) (pss_one (ps_ret pe_bl)) pss_nil)
        (pss_one (ps_set (i := 1) sc14.nd rfl (Or.inl rfl) (pe_op op_add (pv 1) (pe_ix ix_tup (pe_ix ix_list (pv 0) (pv 2) (fun _ _ => rfl)) pe_int (fun _ _ => rfl)))))))
      (pss_one (ps_ret (pe_cmpR op_lt (pv 1) pe_int (nomark _))))), ?_⟩
    obtain ⟨p, ws, R, rfl, sl, pr, hl, hsh, q⟩ := h
    have lw : ws.length = R.length := (paired_len pr).symm
    refine ⟨_, rfl, p, ws, rfl, .inl sl, _, rfl, by omega, by omega, ?_⟩
    have en : ((ws.length : Nat) : Int).toNat = R.length := by omega
    rw [en]
    unfold ringB at q
    refine for_steady steady_rng (fun k σ H' => H' = H ∧ (∃ z, σ = [some (.ref p), some (.int (sumM (R.take k))), z]) ∧ (List.range k).all (linkB R) = true) ⟨rfl, ⟨_, rfl⟩, rfl⟩ (fun _ _ _ _ _ => trivial) ?_ ?_
    · rintro k σ H' hk ⟨rfl, ⟨z, rfl⟩, pre⟩
      rw [Int.zero_add]
      obtain ⟨u, x, y, eu, su, kx, ky⟩ := vs_at pr hk
      obtain ⟨u2, x2, y2, eu2, su2, kx2, ky2⟩ := vs_at pr (prevI_lt hk)
      have a1 : atI ws ((k : Int) - 1) = some (.ref u2) := at_prev (by omega) (by rw [lw]; exact eu2)
      refine ⟨_, rfl, _, rfl, _, _, rfl, rfl, p, ws, _, _, rfl, rfl, sl, a1, u2, _, 1, y2, rfl, rfl, su2, atI_nat (j := 1) rfl, ?_⟩
      refine ⟨_, rfl, _, rfl, p, ws, _, _, rfl, rfl, sl, atI_nat eu, u, _, 0, x, rfl, rfl, su, atI_nat (j := 0) rfl, ?_⟩
      refine ky2.dq kx (hsh _ (rowN_mem (prevI_lt hk))).2 (hsh _ (rowN_mem hk)).1 ⟨_, rfl, ?_⟩
      have ek : eqK (rowN R (prevI R.length k)).2.1 (rowN R k).1 = linkB R k := rfl
      rw [ek]
      cases c : linkB R k with
      | false =>
        refine iteT ?_
        have e : (List.range R.length).all (linkB R) = false := by
          cases e : (List.range R.length).all (linkB R) with
          | false => rfl
          | true => rw [List.all_eq_true.mp e k (List.mem_range.mpr hk)] at c; cases c
        rw [e] at q
        exact q
      | true =>
        refine iteF ⟨_, rfl, _, rfl, _, rfl, p, ws, _, _, rfl, rfl, sl, atI_nat eu, u, _, 2, _, rfl, rfl, su, atI_nat (j := 2) rfl, _, _, rfl, rfl, rfl, ⟨some (.int (k : Int)), by rw [sumM_snoc hk]; rfl⟩, ?_⟩
        rw [List.range_succ, List.all_append, pre, Bool.true_and]
        simp [c]
    · rintro σ H' ⟨rfl, ⟨z, rfl⟩, pre⟩
      rw [pre, Bool.true_and] at q
      refine ⟨_, rfl, _, _, rfl, rfl, ?_⟩
      rw [List.take_of_length_le (Nat.le_refl _)]
      exact q
end
end Fc
namespace Fc
open PySem L2 PyProof.Rows
/-- what stays true of a value while only D changes -/
def Kept (K : PySem.W.Frag) (Rl : Hp → Nat → V → Prop) : Prop := ∀ H H' k y, Tups K H H' → Rl H k y → Rl H' k y
theorem lc_gen {K : PySem.W.Frag} {J : It} {n : Nat} {it : Nat → V} {G : Hp → Prop} {tt : TT} {te : TE} {i : Nat} {σ : L2.St} {H1 : Hp} {D : Addr} {Qd : Hp → Prop} (b : Nat → Bool) (Rl : Hp → Nat → V → Prop) (S : Steady J n it G) (hm : Kept K Rl) (hG : ∀ H, Same H1 H → G H) (hi : i < σ.length) (hl : n ≤ 5000) (hD : H1 D = none)
    (ht : ∀ k H Q, k < n → Same H1 H → Q (b k) H → tt ((wipe σ [i]).set i (some (it k))) H Q)
    (hv : ∀ k H Q, k < n → b k = true → Same H1 H → (∀ H' y, Same H H' → Rl H' k y → Q y H') → te ((wipe σ [i]).set i (some (it k))) H Q)
    (hd : ∀ H' ys, Same H1 H' → H' D = some (.lst ys) → Paired (Rl H') ((List.range n).filter b) ys → Qd H') :
    ∃ W : Nat → Nat → Hp → Prop, (∃ m, W 0 m (upd H1 D (.lst []))) ∧ ∀ i_1 m H, W i_1 m H → (J.stop i_1 H ∧ Qd H) ∨
      (J.go i_1 H ∧ ∃ Nx : Hp → Prop, (∀ H', Nx H' → ∃ m', m' < m ∧ W (i_1 + 1) m' H') ∧ ∀ x H', J.yld i_1 H x H' → gName i x (wipe σ [i]) H' fun σ2 H2 => wipe σ2 [i] = wipe σ [i] ∧ tt σ2 H2 fun b H3 =>
        if b = true then te σ2 H3 fun y H4 => ∃ acc, H4 D = some (.lst acc) ∧ acc.length < sizeLine ∧ Nx (upd H4 D (.lst (acc ++ [y]))) else Nx H3) := by
  refine lc_steady S (fun k H => Same H1 H ∧ ∃ ys, H D = some (.lst ys) ∧ Paired (Rl H) ((List.range k).filter b) ys) ⟨same_new hD, [], upd_same, .nil⟩ (fun _ _ _ h => hG _ h.1) (fun k H hk h => ?_) fun H h => ?_
  · obtain ⟨sm, ys, hy, pp⟩ := h
    have w1 : wipe ((wipe σ [i]).set i (some (it k))) [i] = wipe σ [i] := by
      show ((σ.set i none).set i (some _)).set i none = σ.set i none
      rw [List.set_set, List.set_set]
    refine ⟨w1, ht k H _ hk sm ?_⟩
    have er : List.range (k + 1) = List.range k ++ [k] := List.range_succ
    have ly : ys.length ≤ k := by
      rw [← paired_len pp]
      have := List.length_filter_le b (List.range k)
      rwa [List.length_range] at this
    cases e : b k with
    | false =>
      refine iteF ⟨sm, ys, hy, ?_⟩
      rw [er, List.filter_append]
      have : [k].filter b = [] := by rw [List.filter_cons, e]; rfl
      rw [this, List.append_nil]
      exact pp
    | true =>
      refine iteT (hv k H _ hk e sm fun H' y sm' rl => ⟨ys, sm' _ _ hy, by rw [sizeLine_eq]; omega, ?_⟩)
      have tp : Tups K H' (upd H' D (.lst (ys ++ [y]))) := Tups.upd fun u e => by rw [sm' _ _ hy] at e; cases e; exact True.intro
      refine ⟨fun a o ha => by rw [upd_ne (ne_of_none ha hD)]; exact sm' _ _ (sm a o ha), _, upd_same, ?_⟩
      rw [er, List.filter_append]
      have : [k].filter b = [k] := by rw [List.filter_cons, e]; rfl
      rw [this]
      have app : ∀ {l : List Nat} {ys : List V}, Paired (Rl (upd H' D (.lst (ys ++ [y])))) l ys → True := fun _ => trivial
      have snoc : ∀ {R : Nat → V → Prop} {l : List Nat} {zs : List V}, Paired R l zs → R k y → Paired R (l ++ [k]) (zs ++ [y]) := by
        intro R l zs p h
        induction p with
        | nil => exact .cons h .nil
        | cons h1 _ ih => exact .cons h1 ih
      exact snoc (Paired.mapP pp fun a v h => hm _ _ _ _ ((Tups.same sm').trans tp) h) (hm _ _ _ _ tp rl)
  · exact hd H h.2.choose h.1 h.2.choose_spec.1 h.2.choose_spec.2
theorem okRow_small {r : Row} (h : okRow r = true) : small r.2.2 = true := by
  unfold okRow at h
  simp only [Bool.and_eq_true] at h
  exact h.2
structure RowsOk (R : List Row) : Prop where
  len : R.length ≤ 20
  ok : ∀ r ∈ R, okRow r = true
  sh : ∀ r ∈ R, shRow r
def spRing (K : PySem.W.Frag) (w : World) : Sp := fun vs H Q _ => ∃ t R, vs = [.ref t] ∧ RowsT K H R t ∧ RowsOk R ∧ (∀ H', Same H H' → (∃ B : List (Kd × Int), B.map (·.1) = ptsOf R ∧ Fd.closed (rws R) (bo B)) → Q .non H') ∧
  ∀ p H' (js : List Nat), Same H H' → H p = none → js ≠ [] → js.length ≤ 200 → (∀ j ∈ js, j < R.length) → Fd.RingJ (rws R) js → H' p = some (.tup (js.map natV)) → Q (.ref p) H'
def idxD : PyData → Nat
  | .int i => i.toNat
  | _ => 0
def isRingL (R : List Row) (ds : List PyData) : Bool := ds.all (fun e => isIdx e R.length) && ringB (ds.map fun e => rowN R (idxD e))
def isRing (R : List Row) : PyData → Bool
  | .tuple ds => isRingL R ds
  | _ => false
def shortT : PyData → Prop
  | .tuple ds => ds.length ≤ 1000
  | _ => True
def spIsRing (K : PySem.W.Frag) (w : World) : Sp := fun vs H Q _ => ∃ t v R d, vs = [.ref t, v] ∧ RowsT K H R t ∧ RowsOk R ∧ DV K w H v d ∧ shortT d ∧ ∀ H', Same H H' → Q (.bl (isRing R d)) H'
section
variable {K : PySem.W.Frag} {mg : Str → Option Value} {base : Heap} {P : Program} {w : World}
theorem sc19 : FnScope ["differences", "indices"] ["differences"] (defScope (topS 19)) := ⟨rfl, rfl, rfl, by decide +kernel, rfl, by decide +kernel, by decide +kernel⟩
theorem ok19 {f : Addr} {fd : FuncData} (F : Fun K "ring" "ring" (topS 19) f fd) (B : Blt mg) (c21 : Cal P w K mg base 5 "require_differences" (spReq K w)) (c13 : Cal P w K mg base 3 "found_ring" (spFound K w)) : FnOk P w K mg base CX0 6 f fd ["differences"] (spRing K w) := by
  refine F.ok sc19 (fun vs H Q E h => ?_) (fun cdv A outer s H vs Q E hr h => ?_)
  · obtain ⟨t, R, rfl, _⟩ := h
    rfl
  · refine ⟨_, pss_cons (ps_expr (pe_c c21 hr (by decide) (by rfl) (pa_cons (pv 0) pa_nil))) (pss_cons (ps_set (i := 1) sc19.nd rfl (Or.inl rfl) (pe_c c13 hr (by decide) (by rfl) (pa_cons (pv 0) pa_nil)))
      (pss_one (ps_ret (pe_ifExp (pt_cmpR op_isN (pv 1) pe_non (nomark _)) pe_non (pe_callTy call_tuple_of (by rfl) B.tuple boot_tuple (pa_cons (pv 1) pa_nil)))))), ?_⟩
    obtain ⟨t, R, rfl, rt, ro, q0, q⟩ := h
    have hl := ro.len
    refine ⟨_, rfl, t, R, rfl, rt, by omega, ro.ok, _, rfl, t, R, rfl, rt, by omega, fun r hr => okRow_small (ro.ok r hr), fun H' sm hn => ?_, fun p H' js sm hp ne hjl hjr hrg hH => ?_⟩
    · exact ⟨_, rfl, rfl, _, rfl, iteT (q0 _ sm hn)⟩
    · refine ⟨_, rfl, rfl, _, rfl, iteF ⟨_, rfl, p, _, rfl, .inl ⟨.inl (.inl hH), fun l hl2 => ?_⟩⟩⟩
      exact q l _ js (fun a o e => by rw [upd_ne (ne_of_none (sm a o e) hl2)]; exact sm a o e) (sm.free hl2) ne hjl hjr hrg upd_same
end
end Fc
namespace Fc
open PySem L2 PyProof.Rows
theorem dp_len {K : PySem.W.Frag} {H : Hp} {xs : List V} {ds : List PyData} (h : DpAll K H xs ds) : xs.length = ds.length := by
  induction ds generalizing xs with
  | nil => cases h; rfl
  | cons d ds ih => cases h with | cons h1 h2 => simp [ih h2]
theorem dp_at {K : PySem.W.Frag} {H : Hp} {xs : List V} {ds : List PyData} (h : DpAll K H xs ds) {k : Nat} (hk : k < ds.length) : Dp K H (xs.getD k .non) (ds.getD k .none) := by
  induction ds generalizing xs k with
  | nil => simp at hk
  | cons d ds ih =>
    cases h with
    | cons h1 h2 =>
      cases k with
      | zero => exact h1
      | succ k => exact ih h2 (by simpa using hk)
theorem isTy_tupF (d : PyData) : isTy d "tuple" = match d with | .tuple _ => true | _ => false := by cases d <;> rfl
mutual
theorem dp_mono {K : PySem.W.Frag} {H H' : Hp} (s : Same H H') : ∀ (d : PyData) (v : V), Dp K H v d → Dp K H' v d
  | .none, _, h => by cases h; exact .non
  | .bool _, _, h => by cases h; exact .bl _
  | .int _, _, h => by cases h; exact .int _
  | .str _, _, h => by cases h; exact .str _
  | .list ds, _, h => by cases h with | lst a b => exact .lst (s.seq a) (dps_mono s ds _ b)
  | .tuple ds, _, h => by cases h with | tup a b => exact .tup (Tups.same s _ _ a) (dps_mono s ds _ b)
  | .dict _, _, h => by cases h
theorem dps_mono {K : PySem.W.Frag} {H H' : Hp} (s : Same H H') : ∀ (ds : List PyData) (vs : List V), DpAll K H vs ds → DpAll K H' vs ds
  | [], _, h => by cases h; exact .nil
  | d :: ds, _, h => by cases h with | cons h1 h2 => exact .cons (dp_mono s d _ h1) (dps_mono s ds _ h2)
end
mutual
theorem dp_tups {K : PySem.W.Frag} {H H' : Hp} (s : Tups K H H') : ∀ (d : PyData) (v : V), tupD d = true → Dp K H v d → Dp K H' v d
  | .none, _, _, h => by cases h; exact .non
  | .bool _, _, _, h => by cases h; exact .bl _
  | .int _, _, _, h => by cases h; exact .int _
  | .str _, _, _, h => by cases h; exact .str _
  | .list ds, _, e, _ => by cases e
  | .tuple ds, _, e, h => by cases h with | tup a b => exact .tup (s _ _ a) (dps_tups s ds _ e b)
  | .dict _, _, _, h => by cases h
theorem dps_tups {K : PySem.W.Frag} {H H' : Hp} (s : Tups K H H') : ∀ (ds : List PyData) (vs : List V), tupDs ds = true → DpAll K H vs ds → DpAll K H' vs ds
  | [], _, _, h => by cases h; exact .nil
  | d :: ds, _, e, h => by
    obtain ⟨e1, e2⟩ := (Bool.and_eq_true _ _).mp e
    cases h with | cons h1 h2 => exact .cons (dp_tups s d _ e1 h1) (dps_tups s ds _ e2 h2)
end
theorem DV.same {K : PySem.W.Frag} {w : World} {H H' : Hp} {v : V} {d : PyData} (s : Same H H') (h : DV K w H v d) : DV K w H' v d := by
  rcases h with h | ⟨a, xs, kvs, e, t, ed, p⟩
  · exact .inl (dp_mono s _ _ h)
  · exact .inr ⟨a, xs, kvs, e, t.mono (.same s) (rd_same s _ t.md), ed, Paired.mapP p fun x kv h => ⟨dp_mono s _ _ h.1, dp_mono s _ _ h.2.1, h.2.2⟩⟩
section
variable {K : PySem.W.Frag} {mg : Str → Option Value} {base : Heap} {P : Program} {w : World}
theorem sc20 : FnScope ["differences", "value", "index"] ["differences", "value"] (defScope (topS 20)) := ⟨rfl, rfl, rfl, by decide +kernel, rfl, by decide +kernel, by decide +kernel⟩
theorem ok20 {f : Addr} {fd : FuncData} (F : Fun K "is_ring" "is_ring" (topS 20) f fd) (B : Blt mg) (c21 : Cal P w K mg base 5 "require_differences" (spReq K w)) (c3 : Cal P w K mg base 2 "is_index" (spIndex K w)) (c14 : Cal P w K mg base 1 "makes_ring" (spMakes K w)) : FnOk P w K mg base CX0 6 f fd ["differences", "value"] (spIsRing K w) := by
  refine F.ok sc20 (fun vs H Q E h => ?_) (fun cdv A outer s H vs Q E hr h => ?_)
  · obtain ⟨t, v, R, d, rfl, _⟩ := h
    rfl
  · refine ⟨_, pss_cons (ps_expr (pe_c c21 hr (by decide) (by rfl) (pa_cons (pv 0) pa_nil)))
      (pss_cons (ps_if (pt_not (pt_val (pe_callB call_isiD (by rfl) B.isinstance boot_isinstance (pa_cons (pv 1) (pa_cons (pe_bltn (v := .ty "tuple") (by rfl) B.tuple boot_tuple rfl) pa_nil))))) (pss_one (ps_ret pe_bl)) pss_nil)
      (pss_cons (ps_for PassesOwn.never rfl (pi_tup (pv 1)) (pg_name (i := 2) sc20.nd rfl (Or.inl rfl))
        (pss_one (ps_if (pt_not (pt_val (pe_c c3 hr (by decide) (by rfl) (pa_cons (pv 2) (pa_cons (pe_callB call_len_seq (by rfl) B.len boot_len (pa_cons (pv 0) pa_nil)) pa_nil))))) (pss_one (ps_ret pe_bl)) pss_nil)))
      (pss_one (ps_ret (pe_c c14 hr (by decide) (by rfl) (pa_cons (pe_lc (own := [("index", 2)]) (g := gName 2) (by rfl) sc20.nd (pi_tup (pv 1)) (blkOk_by (N := ["differences", "value", "index"]) (sc := defScope (topS 20)) (by decide +kernel))
        (fun _ _ _ _ _ => pg_name (i := 2) sc20.nd rfl (Or.inl rfl)) (fun _ _ _ _ _ => pts_nil) (fun _ _ _ _ _ => pe_ix (r := rIxT K) ix_tup (pv 0) (pv 2) (fun _ _ => rfl))) pa_nil)))))), ?_⟩
    obtain ⟨t, v, R, d, rfl, rt, ro, hd, hsh, q⟩ := h
    have hl := ro.len
    refine ⟨_, rfl, t, R, rfl, rt, by omega, ro.ok, _, rfl, v, d, _, rfl, hd, .inr (.inr (.inr (.inl rfl))), _, rfl, ?_⟩
    have q0 := q H (Same.refl H)
    by_cases ht : isTy d "tuple" = true
    · rw [ht]
      have td : ∃ ds, d = .tuple ds := by cases d <;> first | exact ⟨_, rfl⟩ | (rw [isTy_tupF] at ht; cases ht)
      obtain ⟨ds, rfl⟩ := td
      have dp : Dp K H v (.tuple ds) := by
        rcases hd with h | ⟨_, _, _, _, _, e, _⟩
        · exact h
        · cases e
      obtain ⟨vs, st, pr⟩ := rt
      cases dp with
      | @tup a xs _ sa da =>
        have lx := dp_len da
        change ds.length ≤ 1000 at hsh
        have lv := paired_len pr
        refine iteF ⟨_, rfl, a, rfl, ⟨xs, sa⟩, ?_⟩
        refine for_steady steady_tup (fun k σ H' => H' = H ∧ (∃ z, σ = [some (.ref t), some (.ref a), z]) ∧ (ds.take k).all (fun e => isIdx e R.length) = true) ⟨rfl, ⟨_, rfl⟩, rfl⟩ (fun _ _ _ _ h => h.1 ▸ sa) ?_ ?_
        · rintro k σ H' hk ⟨rfl, ⟨z, rfl⟩, pre⟩
          have hk' : k < ds.length := by omega
          refine ⟨_, rfl, _, rfl, t, _, rfl, .inr st, _, _, _, rfl, dp_at da hk', _, rfl, ?_⟩
          rw [← lv]
          cases c : isIdx (ds.getD k .none) (R.length : Int) with
          | false =>
            refine iteT ?_
            have e : isRing R (.tuple ds) = false := by
              show (ds.all _ && _) = false
              have : ds.all (fun e => isIdx e R.length) = false := by
                cases e : ds.all (fun e => isIdx e R.length) with
                | false => rfl
                | true =>
                  have h1 := List.all_eq_true.mp e (ds.getD k .none) (by rw [List.getD_eq_getElem?_getD, List.getElem?_eq_getElem hk']; exact List.getElem_mem hk')
                  rw [h1] at c
                  cases c
              rw [this, Bool.false_and]
            rw [e] at q0
            exact q0
          | true =>
            refine iteF ⟨rfl, ⟨_, rfl⟩, ?_⟩
            rw [take_snoc (a0 := .none) hk', List.all_append, pre, Bool.true_and]
            simp only [List.all_cons, List.all_nil, Bool.and_true]
            exact c
        · rintro σ H' ⟨rfl, ⟨z, rfl⟩, pre⟩
          rw [List.take_of_length_le (Nat.le_of_eq lx.symm)] at pre
          have inr : ∀ k, k < ds.length → ∃ j : Nat, ds.getD k .none = .int (j : Int) ∧ j < R.length := fun k hk => by
            have h1 := List.all_eq_true.mp pre (ds.getD k .none) (by rw [List.getD_eq_getElem?_getD, List.getElem?_eq_getElem hk]; exact List.getElem_mem hk)
            generalize ds.getD k .none = e at h1
            cases e <;> first | (simp [isIdx] at h1; done) | skip
            rename_i i
            simp only [isIdx, Bool.and_eq_true, decide_eq_true_eq] at h1
            exact ⟨i.toNat, by congr 1; omega, by omega⟩
          refine ⟨_, rfl, a, rfl, ⟨xs, sa⟩, fun D hD => ?_⟩
          refine lc_gen (b := fun _ => true) (fun H k y => RowV K H (rowN R (idxD (ds.getD k .none))) y) steady_tup (fun _ _ _ _ t h => h.mono t) (fun H2 s2 => Tups.same s2 _ _ sa) (by exact (by decide : 2 < 3)) (by omega) hD (fun k H Q hk s2 q => q) (fun k H2 Q hk _ s2 q => ?_) fun H2 ys s2 hy pp => ?_
          · have hk' : k < ds.length := by omega
            obtain ⟨j, ej, lj⟩ := inr k hk'
            have dk := dp_at da hk'
            rw [ej] at dk
            have ex : xs.getD k .non = .int (j : Int) := by
              generalize xs.getD k .non = x at dk
              cases dk; rfl
            obtain ⟨u, x, y, eu, su, kx, ky⟩ := vs_at pr lj
            refine ⟨_, rfl, _, rfl, t, vs, _, _, rfl, by rw [ex], Tups.same s2 _ _ st, atI_nat eu, q H2 _ (Same.refl _) ?_⟩
            have ei : idxD (ds.getD k .none) = j := by rw [ej]; show ((j : Int)).toNat = j; omega
            rw [ei]
            exact ⟨u, x, y, rfl, Tups.same s2 _ _ su, kx.mono (.same s2), ky.mono (.same s2)⟩
          · have el : ds.map (fun e => rowN R (idxD e)) = (List.range xs.length).map fun k => rowN R (idxD (ds.getD k .none)) := by
              rw [lx]
              refine List.ext_getElem (by simp) fun k h1 h2 => ?_
              rw [List.getElem_map, List.getElem_map, List.getElem_range, List.getD_eq_getElem?_getD, List.getElem?_eq_getElem (by simpa using h1)]
              rfl
            have pm : Paired (RowV K H2) (ds.map fun e => rowN R (idxD e)) ys := by
              rw [el]
              have fl : (List.range xs.length).filter (fun _ => true) = List.range xs.length := List.filter_eq_self.mpr fun _ _ => rfl
              rw [fl] at pp
              have gen : ∀ {l : List Nat} {ys : List V}, Paired (fun k y => RowV K H2 (rowN R (idxD (ds.getD k .none))) y) l ys → Paired (RowV K H2) (l.map fun k => rowN R (idxD (ds.getD k .none))) ys := by
                intro l ys p
                induction p with
                | nil => exact .nil
                | cons h _ ih => exact .cons h ih
              exact gen pp
            refine ⟨D, ys, _, rfl, .inl (.inl hy), pm, by rw [List.length_map]; omega, fun r hr => ?_, ?_⟩
            · rw [el] at hr
              obtain ⟨k, hk, e⟩ := List.mem_map.mp hr
              obtain ⟨j, ej, lj⟩ := inr k (by rw [List.mem_range] at hk; omega)
              rw [ej] at e
              have ei : idxD (.int (j : Int)) = j := by show ((j : Int)).toNat = j; omega
              rw [ei] at e
              rw [← e]
              exact ro.sh _ (rowN_mem lj)
            · have qq := q H2 s2
              have e : isRing R (.tuple ds) = ringB (ds.map fun e => rowN R (idxD e)) := by
                show (ds.all _ && _) = _
                rw [pre, Bool.true_and]
              rw [e] at qq
              exact qq
    · have hf : isTy d "tuple" = false := by simpa using ht
      rw [hf]
      refine iteT ?_
      have e : isRing R d = false := by cases d <;> first | rfl | exact absurd rfl ht
      rw [e] at q0
      exact q0
end
end Fc
namespace Fc
open PySem L2 PyProof.Rows
theorem nodup_of_map {α β : Type} {f : α → β} : ∀ {l : List α}, (l.map f).Nodup → l.Nodup
  | [], _ => List.nodup_nil
  | a :: l, h => by
    rw [List.map_cons, List.nodup_cons] at h
    rw [List.nodup_cons]
    exact ⟨fun z => h.1 (List.mem_map.mpr ⟨a, z, rfl⟩), nodup_of_map h.2⟩
theorem nodup_all {α : Type} [DecidableEq α] {m l : List α} (nd : m.Nodup) (s : ∀ x ∈ m, x ∈ l) (h : l.length ≤ m.length) : ∀ x ∈ l, x ∈ m := by
  intro x hx
  refine Classical.byContradiction fun no => ?_
  have h1 := nodup_sub m (l.erase x) nd fun y hy => (List.mem_erase_of_ne (fun e => no (by rw [← e]; exact hy))).mpr (s y hy)
  rw [List.length_erase_of_mem hx] at h1
  have : 0 < l.length := List.length_pos_of_mem hx
  omega
theorem updSelf {H : Hp} {a : Addr} {o : HO} (h : H a = some o) : upd H a o = H := by
  funext b
  by_cases e : b = a
  · rw [e, upd_same, h]
  · rw [upd_ne e]
theorem pts_ind {Pr : Kd → Prop} (R : List Row) (h0 : Pr (.w "")) (hr : ∀ r ∈ R, Pr r.1 ∧ Pr r.2.1) : ∀ p ∈ ptsOf R, Pr p := by
  have one : ∀ (l : List Kd) (k : Kd), (∀ p ∈ l, Pr p) → Pr k → ∀ p ∈ addK l k, Pr p := fun l k h hk p hp => by
    unfold addK at hp
    by_cases c : ∃ e ∈ l, nk e = nk k
    · rw [if_pos c] at hp; exact h p hp
    · rw [if_neg c] at hp
      rcases List.mem_append.mp hp with z | z
      · exact h p z
      · rw [List.mem_singleton.mp z]; exact hk
  have gen : ∀ (R : List Row) (l : List Kd), (∀ r ∈ R, Pr r.1 ∧ Pr r.2.1) → (∀ p ∈ l, Pr p) → ∀ p ∈ R.foldl (fun l r => addK (addK l r.1) r.2.1) l, Pr p := by
    intro R
    induction R with
    | nil => intro l _ h; exact h
    | cons r R ih =>
      intro l hr h
      have h1 := hr r (by simp)
      exact ih _ (fun x hx => hr x (List.mem_cons_of_mem _ hx)) (one _ _ (one _ _ h h1.1) h1.2)
  exact gen R _ hr fun p hp => by rw [List.mem_singleton.mp hp]; exact h0
theorem eqv_pt {p k : Kd} (hp : isPtK p = true) (hk : isPtK k = true) (e : PyData.eqv (pd p) (pd k) = true) : p = k := by
  cases p <;> cases k <;> first | (cases hp; done) | (cases hk; done) | skip
  · simp [pd, PyData.eqv] at e; rw [e]
  · simp [pd, PyData.eqv] at e
  · simp [pd, PyData.eqv] at e
  · simp [pd, PyData.eqv, PyData.eqvAll] at e; rw [e.1, e.2.1, e.2.2]
theorem eqv_self {k : Kd} : PyData.eqv (pd k) (pd k) = true := by
  cases k <;> simp [pd, PyData.eqv, PyData.eqvAll]
def memP (k : Kd) (pts : List Kd) : Bool := pts.any fun p => PyData.eqv (pd p) (pd k)
def lookD (T : List (Kd × PyData)) (k : Kd) : Option PyData := (T.find? fun e => decide (nk e.1 = nk k)).map (·.2)
def intD : PyData → Int
  | .int i => i
  | _ => 0
def ivD (T : List (Kd × PyData)) (k : Kd) : Int := intD ((lookD T k).getD .none)
def keyOk (pts : List Kd) (e : Kd × PyData) : Bool := isPtK e.1 && (memP e.1 pts && isInt e.2)
def rowFits (T : List (Kd × PyData)) (r : Row) : Bool := decide (ivD T r.1 - ivD T r.2.1 ≤ r.2.2)
def isFitT (R : List Row) (T : List (Kd × PyData)) : Bool := decide (T.length = (ptsOf R).length) && (T.all (keyOk (ptsOf R)) && (R.all (rowFits T) && decide (ivD T (.w "") = 0)))
/-- a table of data at a -/
def TD (K : PySem.W.Frag) (H : Hp) (e : Kd × PyData) (x : Ent) : Prop := x.1 = nk e.1 ∧ KdV K H e.1 x.2.1 ∧ Dp K H x.2.2 e.2
def TabD (K : PySem.W.Frag) (w : World) (H : Hp) (a : Addr) (T : List (Kd × PyData)) : Prop := ∃ xs, H a = some (MD w a xs) ∧ Paired (TD K H) T xs
structure TOk (T : List (Kd × PyData)) : Prop where
  nd : (T.map fun e => nk e.1).Nodup
  len : T.length ≤ 200
  sh : ∀ e ∈ T, shK e.1 = true
  short : ∀ e ∈ T, kdShort e.1 = true
theorem isPt0 : isPtK (.w "") = true := by decide +kernel
theorem sh0 : shK (.w "") = true := by decide +kernel
theorem okRow_pt {r : Row} (h : okRow r = true) : isPtK r.1 = true ∧ isPtK r.2.1 = true := by
  unfold okRow at h
  simp only [Bool.and_eq_true] at h
  exact ⟨h.1.1.1, h.1.2.1⟩
theorem RowsOk.pts {R : List Row} (h : RowsOk R) : ∀ p ∈ ptsOf R, isPtK p = true ∧ shK p = true := pts_ind (Pr := fun p => isPtK p = true ∧ shK p = true) R ⟨isPt0, sh0⟩ fun r hr => ⟨⟨(okRow_pt (h.ok r hr)).1, (h.sh r hr).1⟩, (okRow_pt (h.ok r hr)).2, (h.sh r hr).2⟩
/-- if all keys are points, and there are as many, all points are keys -/
theorem keys_all {R : List Row} {T : List (Kd × PyData)} (ro : RowsOk R) (to : TOk T) (hl : T.length = (ptsOf R).length) (h : T.all (keyOk (ptsOf R)) = true) : ∀ p ∈ ptsOf R, ∃ e ∈ T, e.1 = p ∧ isInt e.2 = true := by
  have sub : ∀ e ∈ T, e.1 ∈ ptsOf R ∧ isInt e.2 = true := fun e he => by
    have h1 := List.all_eq_true.mp h e he
    unfold keyOk at h1
    simp only [Bool.and_eq_true] at h1
    obtain ⟨p, hp, e1⟩ := List.any_eq_true.mp h1.2.1
    exact ⟨by rw [← eqv_pt (ro.pts p hp).1 h1.1 e1]; exact hp, by simp [h1.2.2]⟩
  have ndk : (T.map (·.1)).Nodup := by
    have := to.nd
    have e : (T.map fun e => nk e.1) = (T.map (·.1)).map nk := by rw [List.map_map]; rfl
    rw [e] at this
    exact nodup_of_map this
  intro p hp
  have hin := nodup_all ndk (fun x hx => by obtain ⟨e, he, e1⟩ := List.mem_map.mp hx; rw [← e1]; exact (sub e he).1) (by rw [List.length_map]; omega) p hp
  obtain ⟨e, he, e1⟩ := List.mem_map.mp hin
  exact ⟨e, he, e1, (sub e he).2⟩
theorem look_mem {T : List (Kd × PyData)} (nd : (T.map fun e => nk e.1).Nodup) {e : Kd × PyData} (he : e ∈ T) {k : Kd} (hk : nk e.1 = nk k) : lookD T k = some e.2 := by
  induction T with
  | nil => cases he
  | cons x T ih =>
    rw [List.map_cons, List.nodup_cons] at nd
    unfold lookD
    rw [List.find?_cons]
    rcases List.mem_cons.mp he with z | z
    · subst z
      rw [decide_eq_true hk]
      rfl
    · have ne : ¬ nk x.1 = nk k := fun e1 => nd.1 (List.mem_map.mpr ⟨e, z, hk.trans e1.symm⟩)
      rw [decide_eq_false ne]
      exact ih nd.2 z
theorem int_of {d : PyData} (h : isInt d = true) : ∃ i, d = .int i := by
  rw [isInt_eq] at h
  cases d <;> first | exact ⟨_, rfl⟩ | cases h
/-- what is looked up in a table of data -/
theorem ix_td {K : PySem.W.Frag} {w : World} {H : Hp} {a : Addr} {T : List (Kd × PyData)} {xs : List Ent} {k : Kd} {kv : V} {d : PyData} {Q : VK} (ta : TabAt K w H a xs) (pp : Paired (TD K H) T xs) (hk : KdV K H k kv) (hd : lookD T k = some d) (q : ∀ v, Dp K H v d → Q v H) : rIxM K w (.ref a) kv H Q := by
  have gen : ∀ {T : List (Kd × PyData)} {xs : List Ent}, Paired (TD K H) T xs → lookD T k = some d → ∃ v, valM xs (nk k) = some v ∧ Dp K H v d := by
    intro T xs p
    induction p with
    | nil => intro h; cases h
    | @cons b x B xs h _ ih =>
      intro hd
      unfold lookD at hd
      rw [List.find?_cons] at hd
      rw [valM_cons, h.1]
      by_cases e : nk b.1 = nk k
      · rw [decide_eq_true e] at hd
        rw [if_pos e]
        exact ⟨_, rfl, by injection hd with hd; rw [← hd]; exact h.2.2⟩
      · rw [decide_eq_false e] at hd
        rw [if_neg e]
        exact ih hd
  obtain ⟨v, hv, dv⟩ := gen pp hd
  exact ⟨a, xs, nk k, v, rfl, ta, hk.key, hv, q v dv⟩
theorem td_keys {K : PySem.W.Frag} {H : Hp} {T : List (Kd × PyData)} {xs : List Ent} (p : Paired (TD K H) T xs) : ∀ x ∈ xs, KeyV K H x.1 x.2.1 := by
  induction p with
  | nil => intro x hx; cases hx
  | cons h _ ih =>
    intro x hx
    rcases List.mem_cons.mp hx with e | hx
    · subst e; rw [h.1]; exact h.2.1.key
    · exact ih x hx
/-- a near value: data, or a table of data -/
inductive Near where
  | dat (d : PyData) | tab (T : List (Kd × PyData))
def NearV (K : PySem.W.Frag) (w : World) (H : Hp) (v : V) : Near → Prop
  | .dat d => Dp K H v d
  | .tab T => ∃ a, v = .ref a ∧ TabD K w H a T ∧ TOk T ∧ ∀ e ∈ T, tupD e.2 = true
def isFit (R : List Row) : Near → Bool
  | .dat _ => false
  | .tab T => isFitT R T
def spIsFit (K : PySem.W.Frag) (w : World) : Sp := fun vs H Q _ => ∃ t v R n, vs = [.ref t, v] ∧ RowsT K H R t ∧ RowsOk R ∧ NearV K w H v n ∧ ∀ H', Same H H' → Q (.bl (isFit R n)) H'
theorem td_mono {K : PySem.W.Frag} {H H' : Hp} (t : Tups K H H') {T : List (Kd × PyData)} {xs : List Ent} (ht : ∀ e ∈ T, tupD e.2 = true) (p : Paired (TD K H) T xs) : Paired (TD K H') T xs := by
  induction p with
  | nil => exact .nil
  | @cons b x B xs h _ ih => exact .cons ⟨h.1, h.2.1.mono t, dp_tups t _ _ (ht b (by simp)) h.2.2⟩ (ih fun e he => ht e (List.mem_cons_of_mem _ he))
theorem shaped_pts {pts : List Kd} (h : ∀ p ∈ pts, shK p = true) : SeqAt.shaped (.list (pts.map pd)) = true := by
  have dep : ∀ k : Kd, (pd k).depth ≤ 1 := fun k => by cases k <;> simp [pd, PyData.depth, PyData.depthAll]
  have gen : ∀ l : List Kd, (∀ p ∈ l, shK p = true) → PyData.canLayAll0 (l.map pd) = true ∧ PyData.depthAll (l.map pd) ≤ 1 := by
    intro l
    induction l with
    | nil => intro _; exact ⟨rfl, by simp [PyData.depthAll]⟩
    | cons p l ih =>
      intro h
      obtain ⟨h1, h2⟩ := ih fun x hx => h x (List.mem_cons_of_mem _ hx)
      refine ⟨?_, ?_⟩
      · rw [List.map_cons, PyData.canLayAll0, h1, Bool.and_true]
        exact SeqAt.canLay_of_shaped (h p (by simp))
      · rw [List.map_cons, PyData.depthAll]
        have := dep p
        omega
  obtain ⟨h1, h2⟩ := gen pts h
  unfold SeqAt.shaped
  rw [PyData.canLay0, h1, Bool.true_and, decide_eq_true_eq, PyData.depth]
  omega
def Near.data : Near → PyData
  | .dat d => d
  | .tab T => .dict (T.map fun e => (pd e.1, e.2))
theorem near_dv {K : PySem.W.Frag} {w : World} {H : Hp} {v : V} {n : Near} (h : NearV K w H v n) : DV K w H v n.data := by
  cases n with
  | dat d => exact .inl h
  | tab T =>
    obtain ⟨a, rfl, ⟨xs, hx, pp⟩, to, ht⟩ := h
    refine .inr ⟨a, xs, _, rfl, ⟨.inl hx, td_keys pp⟩, rfl, ?_⟩
    clear hx to
    induction pp with
    | nil => exact .nil
    | @cons b x B xs h _ ih => exact .cons ⟨h.2.1.dp, h.2.2, pd_tup _, ht b (by simp)⟩ (ih fun e he => ht e (List.mem_cons_of_mem _ he))
theorem dp_nodict {K : PySem.W.Frag} {H : Hp} {v : V} {d : PyData} (h : Dp K H v d) : isTy d "dict" = false := by cases h <;> rfl
theorem pts_dp {K : PySem.W.Frag} {H : Hp} {l : List Kd} {ys : List V} (p : Paired (KdV K H) l ys) : DpAll K H ys (l.map pd) := by
  induction p with
  | nil => exact .nil
  | cons h _ ih => exact .cons h.dp ih
section
variable {K : PySem.W.Frag} {mg : Str → Option Value} {base : Heap} {P : Program} {w : World}
abbrev n18 : List Str := ["differences", "value", "points", "point", "one", "other", "most"]
theorem sc18 : FnScope n18 ["differences", "value"] (defScope (topS 18)) := ⟨rfl, rfl, rfl, by decide +kernel, rfl, by decide +kernel, by decide +kernel⟩
theorem hu65 {n : Nat} (h : n + 70 < cLine) : n + 65 < cLine := by omega
theorem ok18 {f : Addr} {fd : FuncData} (F : Fun K "is_fitting" "is_fitting" (topS 18) f fd) (B : Blt mg) (c21 : Cal P w K mg base 5 "require_differences" (spReq K w)) (c10 : Cal P w K mg base 1 "points_of" (spPts K w)) (c23 : Cal P w K mg base 3 "is_point" (spPoint K w)) (c1 : Cal P w K mg base 1 "is_any_integer" (spInt K w)) :
    FnOk P w K mg base CX0 6 f fd ["differences", "value"] (spIsFit K w) := by
  refine F.ok sc18 (fun vs H Q E h => ?_) (fun cdv A outer s H vs Q E hr h => ?_)
  · obtain ⟨t, v, R, d, rfl, _⟩ := h
    rfl
  · have hu := hu70 hr
    refine ⟨_, pss_cons (ps_expr (pe_c c21 hr (by decide) (by rfl) (pa_cons (pv 0) pa_nil)))
      (pss_cons (ps_set (i := 2) sc18.nd rfl (Or.inl rfl) (pe_c c10 hr (by decide) (by rfl) (pa_cons (pv 0) pa_nil)))
      (pss_cons (ps_if (pw_or (pt_not (pt_val (pe_callB call_isiD (by rfl) B.isinstance boot_isinstance (pa_cons (pv 1) (pa_cons (pe_bltn (v := .ty "dict") (by rfl) B.dict boot_dict rfl) pa_nil)))))
          (pw_or1 (pt_cmpR op_ne (pe_callB call_lenM (by rfl) B.len boot_len (pa_cons (pv 1) pa_nil)) (pe_callB call_len_seq (by rfl) B.len boot_len (pa_cons (pv 2) pa_nil)) (nomark _)))).pt (pss_one (ps_ret pe_bl)) pss_nil)
      (pss_cons (ps_lock (ps_for PassesOwn.never rfl (pi_keyM (pv 1)) (pg_name (i := 3) sc18.nd rfl (Or.inl rfl))
        (pss_one (ps_if (pw_or (pt_not (pt_val (pe_c c23 hr (by decide) (by rfl) (pa_cons (pv 3) pa_nil)))) (pw_or (pt_cmpR (op_notInD (hu65 hu)) (pv 3) (pv 2) rfl) (pw_or1 (pt_not (pt_val (pe_c c1 hr (by decide) (by rfl) (pa_cons (pe_ix (ix_md (hu9 hu)) (pv 1) (pv 3) (fun _ _ => rfl)) pa_nil))))))).pt (pss_one (ps_ret pe_bl)) pss_nil))))
      (pss_cons (ps_for PassesOwn.never rfl (pi_tup (pv 0)) (pg_tup rfl (pgs_cons (pg_name (i := 4) sc18.nd rfl (Or.inl rfl)) (pgs_cons (pg_name (i := 5) sc18.nd rfl (Or.inl rfl)) (pgs_cons (pg_name (i := 6) sc18.nd rfl (Or.inl rfl)) pgs_nil))))
        (pss_one (ps_if (pt_cmpR op_gt (pe_op op_sub (pe_ix (ix_md (hu9 hu)) (pv 1) (pv 4) (fun _ _ => rfl)) (pe_ix (ix_md (hu9 hu)) (pv 1) (pv 5) (fun _ _ => rfl))) (pv 6) (nomark _)) (pss_one (ps_ret pe_bl)) pss_nil)))
      (pss_one (ps_ret (pe_cmpR op_eq (pe_ix (ix_md (hu9 hu)) (pv 1) pe_str (fun _ _ => rfl)) pe_int (nomark _)))))))), ?_⟩
    obtain ⟨t, v, R, n, rfl, ⟨vs, st, pr⟩, ro, hn, q⟩ := h
    have hl := ro.len
    refine ⟨_, rfl, t, R, rfl, ⟨vs, st, pr⟩, by omega, ro.ok, _, rfl, t, R, rfl, ⟨vs, st, pr⟩, by omega, fun pl H1 s1 hpl ⟨ys, hys, py⟩ => ?_⟩
    have t1 : Tups K H H1 := .same s1
    have q1 := q H1 s1
    have dv := (near_dv hn).same s1
    refine ⟨_, rfl, v, _, _, rfl, dv, .inr (.inr (.inr (.inr (.inl rfl)))), _, rfl, ?_⟩
    cases n with
    | dat d =>
      have e : isTy (Near.dat d).data "dict" = false := dp_nodict (v := v) (K := K) (H := H) hn
      rw [e]
      exact iteT (iteT q1)
    | tab T =>
      obtain ⟨a, rfl, ⟨xs, hx0, pp0⟩, to, ht⟩ := hn
      have hx : H1 a = some (MD w a xs) := s1 _ _ hx0
      have pp := td_mono t1 ht pp0
      have ta : TabAt K w H1 a xs := ⟨.inl hx, td_keys pp⟩
      have lx := paired_len pp
      have ly := paired_len py
      refine iteF ⟨_, rfl, a, xs, rfl, ta, _, rfl, pl, ys, rfl, .inl (.inl (.inl hys)), rfl, _, rfl, ?_⟩
      have e0 : (!decide (V.int (xs.length : Int) = V.int (ys.length : Int))) = !decide (T.length = (ptsOf R).length) := by
        rw [← lx, ← ly]
        by_cases e : T.length = (ptsOf R).length
        · rw [e]; simp
        · have e2 : ¬ V.int (T.length : Int) = V.int ((ptsOf R).length : Int) := fun z => e (by injection z with z; omega)
          rw [decide_eq_false e, decide_eq_false e2]
      rw [e0]
      change Q (.bl (isFitT R T)) H1 at q1
      unfold isFitT at q1
      by_cases c0 : T.length = (ptsOf R).length
      · rw [decide_eq_true c0] at q1 ⊢
        rw [Bool.true_and] at q1
        refine iteF ⟨a, _, hx, True.intro, fun od => ⟨_, rfl, a, od, xs, rfl, upd_same, ?_⟩⟩
        have tf : Tups K H1 (upd H1 a (.frz od (MD w a xs))) := tups_upd (md_notup hx)
        have back : upd (upd H1 a (.frz od (MD w a xs))) a (MD w a xs) = H1 := by rw [upd_upd, updSelf hx]
        have ppf := td_mono tf ht pp
        have taf : TabAt K w (upd H1 a (.frz od (MD w a xs))) a xs := ⟨rd_frz, td_keys ppf⟩
        have npl : pl ≠ a := fun z => by rw [z, hx] at hys; cases hys
        have pyf : Paired (KdV K (upd H1 a (.frz od (MD w a xs)))) (ptsOf R) ys := Paired.mapP py fun _ _ h => h.mono tf
        refine for_steady steady_key (fun k σ H' => H' = upd H1 a (.frz od (MD w a xs)) ∧ (∃ z3 z4 z5 z6, σ = [some (.ref t), some (.ref a), some (.ref pl), z3, z4, z5, z6]) ∧ (T.take k).all (keyOk (ptsOf R)) = true) ⟨rfl, ⟨_, _, _, _, rfl⟩, rfl⟩ (fun _ _ _ _ h => h.1 ▸ upd_same) ?_ ?_
        · rintro k σ H' hk ⟨rfl, ⟨z3, z4, z5, z6, rfl⟩, pre⟩
          have hk' : k < T.length := by omega
          have gx : (xs.map (·.2.1)).getD k .non = (xs.getD k (.none, .non, .non)).2.1 := by
            rw [List.getD_eq_getElem?_getD, List.getD_eq_getElem?_getD, List.getElem?_map, List.getElem?_eq_getElem hk]; rfl
          rw [gx]
          obtain ⟨x1, x2, x3⟩ := paired_getD ppf (a0 := (.no, .none)) (b0 := (.none, .non, .non)) hk'
          have hem : T.getD k (.no, .none) ∈ T := by
            rw [List.getD_eq_getElem?_getD, List.getElem?_eq_getElem hk']
            exact List.getElem_mem hk'
          generalize he : T.getD k (.no, .none) = e at x1 x2 x3 hem
          generalize xs.getD k (.none, .non, .non) = x at x1 x2 x3
          have off : keyOk (ptsOf R) e = false → (if true = true then (upd H1 a (.frz od (MD w a xs))) a = some (.frz od (MD w a xs)) ∧ Q (.bl false) (upd (upd H1 a (.frz od (MD w a xs))) a (MD w a xs)) else False) := fun z => by
            have z2 : T.all (keyOk (ptsOf R)) = false := by
              cases z2 : T.all (keyOk (ptsOf R)) with
              | false => rfl
              | true => rw [List.all_eq_true.mp z2 e hem] at z; cases z
            rw [z2, Bool.false_and] at q1
            rw [back]
            exact iteT ⟨upd_same, q1⟩
          refine ⟨_, rfl, x.2.1, e.1, rfl, x2, to.short e hem, _, rfl, ?_⟩
          have ku : keyOk (ptsOf R) e = (isPtK e.1 && (memP e.1 (ptsOf R) && isInt e.2)) := rfl
          cases c1 : isPtK e.1 with
          | false => exact iteT (off (by rw [ku, c1]; rfl))
          | true =>
            refine iteF ⟨_, rfl, _, rfl, pd e.1, (ptsOf R).map pd, x2.dp, .lst (.inl (.inl (by rw [upd_ne npl]; exact hys))) (pts_dp pyf), to.sh e hem, shaped_pts fun p hp => (ro.pts p hp).2, _, rfl, ?_⟩
            have em : ((ptsOf R).map pd).any (fun z => PyData.eqv z (pd e.1)) = memP e.1 (ptsOf R) := by rw [List.any_map]; rfl
            rw [em]
            cases c2 : memP e.1 (ptsOf R) with
            | false => exact iteT (off (by rw [ku, c1, c2]; rfl))
            | true =>
              refine iteF ⟨_, rfl, _, rfl, ix_td taf ppf x2 (look_mem to.nd hem rfl) fun v dv => ⟨v, e.2, rfl, dv, _, rfl, ?_⟩⟩
              cases c3 : isInt e.2 with
              | false => exact iteT (off (by rw [ku, c1, c2, c3]; rfl))
              | true =>
                refine iteF ⟨rfl, ⟨_, _, _, _, rfl⟩, ?_⟩
                rw [take_snoc (a0 := (.no, .none)) hk', List.all_append, pre, Bool.true_and, he]
                simp [ku, c1, c2, c3]
        · rintro σ H' ⟨rfl, ⟨z3, z4, z5, z6, rfl⟩, pre⟩
          refine ⟨upd_same, ?_⟩
          rw [back]
          rw [List.take_of_length_le (Nat.le_of_eq lx)] at pre
          rw [pre, Bool.true_and] at q1
          have all := keys_all ro to c0 pre
          have val : ∀ k, (∃ x ∈ ptsOf R, nk x = nk k) → ∃ i, lookD T k = some (.int i) ∧ ivD T k = i := fun k ⟨x, hx, ex⟩ => by
            obtain ⟨e, he, e1, e2⟩ := all x hx
            obtain ⟨i, hi⟩ := int_of e2
            have h1 := look_mem to.nd he (k := k) (by rw [e1]; exact ex)
            rw [hi] at h1
            exact ⟨i, h1, by unfold ivD; rw [h1]; rfl⟩
          have pr1 : Paired (RowV K H1) R vs := Paired.mapP pr fun _ _ h => h.mono t1
          have lv := paired_len pr
          refine ⟨_, rfl, t, rfl, ⟨vs, t1 _ _ st⟩, ?_⟩
          refine for_steady steady_tup (fun k σ H' => H' = H1 ∧ (∃ z3 z4 z5 z6, σ = [some (.ref t), some (.ref a), some (.ref pl), z3, z4, z5, z6]) ∧ (R.take k).all (rowFits T) = true) ⟨rfl, ⟨_, _, _, _, rfl⟩, rfl⟩ (fun _ _ _ _ h => h.1 ▸ t1 _ _ st) ?_ ?_
          · rintro k σ H' hk ⟨rfl, ⟨z3, z4, z5, z6, rfl⟩, pre2⟩
            have hk' : k < R.length := by omega
            obtain ⟨u, x, y, eu, su, kx, ky⟩ := paired_getD pr1 (a0 := (.no, .no, 0)) (b0 := .non) hk'
            rw [eu]
            refine ⟨u, _, rfl, su, rfl, _, _, rfl, _, _, rfl, _, _, rfl, rfl, ?_⟩
            obtain ⟨i1, l1, v1⟩ := val _ (pts_p hk')
            obtain ⟨i2, l2, v2⟩ := val _ (pts_q hk')
            refine ⟨_, rfl, _, rfl, ix_td ta pp kx l1 fun v dv => ?_⟩
            cases dv
            refine ⟨_, rfl, _, rfl, ix_td ta pp ky l2 fun v dv => ?_⟩
            cases dv
            refine ⟨_, _, rfl, rfl, _, rfl, _, _, rfl, rfl, _, rfl, ?_⟩
            have rf : rowFits T (rowN R k) = decide (i1 - i2 ≤ mN R k) := by unfold rowFits; rw [v1, v2]
            by_cases c : mN R k < i1 - i2
            · rw [decide_eq_true c]
              refine iteT ?_
              have z : R.all (rowFits T) = false := by
                cases z : R.all (rowFits T) with
                | false => rfl
                | true =>
                  have h1 := List.all_eq_true.mp z _ (rowN_mem hk')
                  rw [rf, decide_eq_true_eq] at h1
                  omega
              rw [z, Bool.false_and] at q1
              exact q1
            · rw [decide_eq_false c]
              refine iteF ⟨rfl, ⟨_, _, _, _, rfl⟩, ?_⟩
              rw [take_snoc (a0 := (.no, .no, 0)) hk', List.all_append, pre2, Bool.true_and]
              simp only [List.all_cons, List.all_nil, Bool.and_true]
              rw [rf, decide_eq_true_eq]
              omega
          · rintro σ H' ⟨rfl, ⟨z3, z4, z5, z6, rfl⟩, pre2⟩
            rw [List.take_of_length_le (Nat.le_of_eq lv)] at pre2
            rw [pre2, Bool.true_and] at q1
            obtain ⟨i0, l0, v0⟩ := val (.w "") ⟨.w "", pts_sub R _ _ (by simp), rfl⟩
            refine ⟨_, rfl, tC_i ?_⟩
            refine ix_td (k := .w "") ta pp rfl l0 fun v dv => ?_
            cases dv
            refine ⟨rfl, ?_⟩
            rw [v0] at q1
            have e1 : decide (V.int i0 = V.int 0) = decide (i0 = 0) := by
              by_cases e : i0 = 0
              · rw [e]; simp
              · rw [decide_eq_false e, decide_eq_false (fun z => e (by injection z))]
            rw [e1]
            exact q1
      · rw [decide_eq_false c0] at q1 ⊢
        exact iteT q1
end
end Fc
namespace Fc
open PySem L2 PyProof.Rows
theorem pair_zip {α β : Type} {p : α → β → Prop} {l : List α} {ys : List β} (h : Paired p l ys) : ∃ bs : List (α × β), bs.map (·.1) = l ∧ bs.map (·.2) = ys ∧ ∀ b ∈ bs, p b.1 b.2 := by
  induction h with
  | nil => exact ⟨[], rfl, rfl, fun _ h => nomatch h⟩
  | @cons a b l ys h _ ih =>
    obtain ⟨bs, e1, e2, e3⟩ := ih
    refine ⟨(a, b) :: bs, by rw [List.map_cons, e1], by rw [List.map_cons, e2], fun x hx => ?_⟩
    rcases List.mem_cons.mp hx with z | z
    · rw [z]; exact h
    · exact e3 x z
theorem zip_pair {α β : Type} {p : α → β → Prop} {bs : List (α × β)} (h : ∀ b ∈ bs, p b.1 b.2) : Paired p (bs.map (·.1)) (bs.map (·.2)) := by
  induction bs with
  | nil => exact .nil
  | cons b bs ih => exact .cons (h b (by simp)) (ih fun x hx => h x (List.mem_cons_of_mem _ hx))
theorem range_getD {α : Type} (l : List α) (a0 : α) : (List.range l.length).map (fun k => l.getD k a0) = l := by
  refine List.ext_getElem (by simp) fun k h1 h2 => ?_
  rw [List.getElem_map, List.getElem_range, List.getD_eq_getElem?_getD, List.getElem?_eq_getElem h2]
  rfl
/-- the same list of indices as a filtered list -/
theorem filt_pair {β : Type} {l : List Kd} {p : Kd → β → Prop} {c : Kd → Bool} {ys : List β} (h : Paired (fun k y => p (l.getD k .no) y) ((List.range l.length).filter fun k => c (l.getD k .no)) ys) : Paired p (l.filter c) ys := by
  have e : l.filter c = ((List.range l.length).filter fun k => c (l.getD k .no)).map fun k => l.getD k .no := by
    have h1 := List.filter_map (f := fun k => l.getD k .no) (p := c) (l := List.range l.length)
    rw [range_getD] at h1
    exact h1
  rw [e]
  generalize (List.range l.length).filter _ = is at h
  induction h with
  | nil => exact .nil
  | cons h _ ih => exact .cons h ih
def isW : Kd → Bool
  | .w _ => true
  | _ => false
def isC : Kd → Bool
  | .c _ _ _ => true
  | _ => false
theorem ty_w (k : Kd) : isTy (pd k) "str" = isW k := by cases k <;> rfl
theorem ty_c {k : Kd} (h : isPtK k = true) : isTy (pd k) "tuple" = isC k := by cases k <;> first | rfl | cases h
theorem sort_w {l : List Kd} (h : ∀ k ∈ l, isW k = true) : PySem.W.AllAlike (l.map pd) ∧ PySem.W.Sortable (l.map pd) := by
  refine ⟨fun d hd e he => ?_, .inr fun d hd => ?_⟩
  · obtain ⟨k, hk, e1⟩ := List.mem_map.mp hd
    obtain ⟨j, hj, e2⟩ := List.mem_map.mp he
    have h1 := h k hk
    have h2 := h j hj
    subst e1 e2
    cases k <;> first | (cases h1; done) | skip
    cases j <;> first | (cases h2; done) | rfl
  · obtain ⟨k, hk, e1⟩ := List.mem_map.mp hd
    have h1 := h k hk
    subst e1
    cases k <;> first | (cases h1; done) | skip
    exact ⟨by simp [pd], fun xs => by simp [pd]⟩
theorem sort_c {l : List Kd} (h : ∀ k ∈ l, isC k = true) : PySem.W.AllAlike (l.map pd) ∧ PySem.W.Sortable (l.map pd) := by
  refine ⟨fun d hd e he => ?_, .inl fun d hd => ?_⟩
  · obtain ⟨k, hk, e1⟩ := List.mem_map.mp hd
    obtain ⟨j, hj, e2⟩ := List.mem_map.mp he
    have h1 := h k hk
    have h2 := h j hj
    subst e1 e2
    cases k <;> first | (cases h1; done) | skip
    cases j <;> first | (cases h2; done) | rfl
  · obtain ⟨k, hk, e1⟩ := List.mem_map.mp hd
    have h1 := h k hk
    subst e1
    cases k <;> first | (cases h1; done) | skip
    exact ⟨_, _, rfl⟩
theorem pd_depth (k : Kd) : (pd k).depth ≤ 5 := by cases k <;> simp [pd, PyData.depth, PyData.depthAll]
theorem nx_i {D : Ends} {σ : L2.St} {H : Hp} (h : D.nx σ H) : tNext D σ H := h
theorem seq_i {te : TE} {g : TG} {u : TS} {D : Ends} {σ : L2.St} {H : Hp} (h : te σ H fun x H1 => g x σ H1 fun σ' H' => u D σ' H') : tSeq (tAsg te g) u D σ H := h
/-- keys in their order -/
def sortK (l : List Kd) : List Kd := l.mergeSort (PySem.W.dataLe false pd)
theorem sortK_perm (l : List Kd) : (sortK l).Perm l := List.mergeSort_perm _ _
theorem sortK_of (bs : List (Kd × V)) : (bs.mergeSort (PySem.W.dataLe false fun b => pd b.1)).map (·.1) = sortK (bs.map (·.1)) := PySem.W.sort_maps (fun b : Kd × V => b.1) fun _ _ _ _ => rfl
theorem sortK_sortK (l : List Kd) : sortK (sortK l) = sortK l := (PySem.W.sort_unique (PySem.W.sortLe_total _ false _) (PySem.W.sort_pairwise (PySem.W.sortLe_total _ false _) l) fun _ => rfl).symm
/-- sorted([p for p in d if ..]) -/
theorem sort_part {K : PySem.W.Frag} {w : World} {σ : L2.St} {H : Hp} {D : Addr} {B : List (Kd × V)} {pts : List Kd} {c : Kd → Bool} {tt : TT} {Q : VK} (tb : TabIs K w H D B) (hk : B.map (·.1) = pts) (hl : pts.length ≤ 200) (h1 : σ[1]? = some (some (.ref D))) (h4 : 4 < σ.length)
    (hs : PySem.W.AllAlike ((pts.filter c).map pd) ∧ PySem.W.Sortable ((pts.filter c).map pd))
    (ht : ∀ (y : V) (p : Kd) H' Q, p ∈ pts → KdV K H' p y → Q (c p) H' → tt ((wipe σ [4]).set 4 (some y)) H' Q)
    (q : ∀ H' p (bs : List (Kd × V)), Same H H' → H p = none → H' p = some (.lst (bs.map (·.2))) → (bs.map (·.1)).Perm (pts.filter c) → bs.map (·.1) = sortK (pts.filter c) → (∀ b ∈ bs, KdV K H' b.1 b.2) → Q (.ref p) H') :
    tCB (fun vs H Q => ∃ (a : Addr) (bs : List (Kd × V)), vs = [V.ref a] ∧ SqL K H a (bs.map (·.2)) ∧ PySem.W.AllAlike (bs.map fun b => pd b.1) ∧ PySem.W.Sortable (bs.map fun b => pd b.1) ∧
    (∀ b ∈ bs, Dp K H b.2 (pd b.1)) ∧ bs.length ≤ 200 ∧ (∀ b ∈ bs, (pd b.1).depth ≤ 5) ∧ ∀ (bs' : List (Kd × V)) (p : Addr), bs'.Perm bs → bs' = bs.mergeSort (PySem.W.dataLe false fun b => pd b.1) → H p = none → Q (.ref p) (upd H p (.lst (bs'.map (·.2)))))
      (tCons (tLockE (tLc (iKeyM w (tVar 1)) (gName 4) tt (tVar 4) [4])) tNil) σ H Q := by
  obtain ⟨xs, hx, pp⟩ := tb
  refine ⟨D, _, hx, True.intro, fun od => ⟨_, h1, D, od, xs, rfl, upd_same, fun L hL => ?_⟩⟩
  have nL : L ≠ D := fun z => by rw [z, upd_same] at hL; cases hL
  have hLH : H L = none := by rw [upd_ne nL] at hL; exact hL
  have tf : Tups K H (upd H D (.frz od (MD w D xs))) := tups_upd (md_notup hx)
  have kx := keys_of_tab (tabR_mono tf pp)
  rw [hk] at kx
  have lx := paired_len kx
  rw [List.length_map] at lx
  have S2 := steady_key (w := w) (d := D) (o := od) (xs := xs)
  rw [← lx] at S2
  refine lc_gen (K := K) (b := fun k => c (pts.getD k .no)) (fun H k y => KdV K H (pts.getD k .no) y) S2 (fun _ _ _ _ t h => h.mono t) (fun H' s => s _ _ upd_same) h4 (by omega) hL (fun k H' Q hk' s q => ?_) (fun k H' Q hk' _ s q => ?_) fun H' ys s hy py => ?_
  · exact ht _ _ H' Q (getD_mem hk') ((paired_getD kx (a0 := .no) (b0 := .non) hk').mono (.same s)) q
  · refine ⟨_, ?_, q H' _ (Same.refl _) ((paired_getD kx (a0 := .no) (b0 := .non) hk').mono (.same s))⟩
    show ((σ.set 4 none).set 4 (some _))[4]? = _
    rw [List.getElem?_set_self (by rw [List.length_set]; exact h4)]
  · have pf := filt_pair py
    obtain ⟨bs, e1, e2, e3⟩ := pair_zip pf
    have tu : Tups K H' (upd H' D (MD w D xs)) := tups_upd (frz_notup (s _ _ upd_same))
    have sH : Same H (upd H' D (MD w D xs)) := fun a o e => by
      by_cases z : a = D
      · rw [z, hx] at e; rw [z, upd_same, e]
      · rw [upd_ne z]
        refine s a o ?_
        rw [upd_ne z]; exact e
    have eb : (bs.map fun b => pd b.1) = (pts.filter c).map pd := by rw [← e1, List.map_map]; rfl
    have lb : bs.length ≤ 200 := by
      have h5 := congrArg List.length e1
      rw [List.length_map] at h5
      have := List.length_filter_le c pts
      omega
    refine ⟨s _ _ upd_same, L, bs, rfl, .inl (.inl (by rw [upd_ne nL, e2]; exact hy)), by rw [eb]; exact hs.1, by rw [eb]; exact hs.2, fun b hb => ((e3 b hb).mono tu).dp, lb, fun b _ => pd_depth _, fun bs' p pm hbs hp => ?_⟩
    have sp := same_new (o := .lst (bs'.map (·.2))) hp
    refine q _ p bs' (sH.trans sp) (sH.free hp) upd_same ?_ ?_ fun b hb => ((e3 b (pm.mem_iff.mp hb)).mono tu).mono (.same sp)
    · rw [← e1]
      exact pm.map _
    · rw [← e1, hbs, sortK_of]
theorem bt_mid {B : List (Kd × Int)} (h : ∀ e ∈ B, midI e.2) (x : NK) : midI (bt B x) := by
  unfold bt
  cases q : B.find? fun e => decide (nk e.1 = x) with
  | none => exact ⟨by have := MM0; show -(14800 * MM) ≤ 0; omega, by have := MM0; show 0 ≤ 14800 * MM; omega⟩
  | some e => exact h e (List.mem_of_find?_eq_some q)
def spFit (K : PySem.W.Frag) (w : World) : Sp := fun vs H Q _ => ∃ t R, vs = [.ref t] ∧ RowsT K H R t ∧ RowsOk R ∧ (∀ H', Same H H' → hasRing R → Q .non H') ∧
  ∀ D H' (T : List (Kd × Int)), Same H H' → H D = none → TabIs K w H' D (asV .int T) → T ≠ [] → (T.map fun e => nk e.1).Nodup → (∀ e ∈ T, e.1 ∈ ptsOf R) → (∀ e ∈ T, midI e.2) →
    Fd.closed (rws R) (bo T) → bt T (nk (.w "")) = 0 → T.map (·.1) = sortK ((ptsOf R).filter isW) ++ sortK ((ptsOf R).filter isC) → Q (.ref D) H'
section
variable {K : PySem.W.Frag} {mg : Str → Option Value} {base : Heap} {P : Program} {w : World}
abbrev n17 : List Str := ["differences", "numbers", "words", "cells", "point"]
theorem sc17 : FnScope n17 ["differences"] (defScope (topS 17)) := ⟨rfl, rfl, rfl, by decide +kernel, rfl, by decide +kernel, by decide +kernel⟩
theorem ok17 {f : Addr} {fd : FuncData} (F : Fun K "fitting" "fitting" (topS 17) f fd) (B : Blt mg) (c21 : Cal P w K mg base 5 "require_differences" (spReq K w)) (c12 : Cal P w K mg base 3 "numbers_that_fit" (spNums K w)) : FnOk P w K mg base CX0 6 f fd ["differences"] (spFit K w) := by
  refine F.ok sc17 (fun vs H Q E h => ?_) (fun cdv A outer s H vs Q E hr h => ?_)
  · obtain ⟨t, R, rfl, _⟩ := h
    rfl
  · have hu := hu70 hr
    refine ⟨_, pss_cons (ps_expr (pe_c c21 hr (by decide) (by rfl) (pa_cons (pv 0) pa_nil)))
      (pss_cons (ps_set (i := 1) sc17.nd rfl (Or.inr rfl) (pe_c c12 hr (by decide) (by rfl) (pa_cons (pv 0) pa_nil)))
      (pss_cons (ps_if (pt_cmpR op_isN (pv 1) pe_non (nomark _)) (pss_one (ps_ret pe_non)) pss_nil)
      (pss_cons (ps_set (i := 2) sc17.nd rfl (Or.inl rfl) (pe_callB (call_sortD pd hu) (by rfl) B.sorted boot_sorted (pa_cons (pe_lock (pe_lc (own := [("point", 4)]) (g := gName 4) (by rfl) sc17.nd (pi_keyM (pv 1)) (blkOk_by (N := n17) (sc := defScope (topS 17)) (by decide +kernel))
        (fun _ _ _ _ _ => pg_name (i := 4) sc17.nd rfl (Or.inl rfl)) (fun _ _ _ _ _ => pts_one (pt_val (pe_callB (r := fun xs H Q => ∃ v d T, xs = [v, .ty T] ∧ DV K w H v d ∧ (T = "int" ∨ T = "bool" ∨ T = "str" ∨ T = "tuple" ∨ T = "dict" ∨ T = "list") ∧ Q (.bl (isTy d T)) H) call_isiD (by rfl) B.isinstance boot_isinstance (pa_cons (pv 4) (pa_cons (pe_bltn (v := .ty "str") (by rfl) B.str boot_str rfl) pa_nil))))) (fun _ _ _ _ _ => pv 4))) pa_nil)))
      (pss_cons (ps_set (i := 3) sc17.nd rfl (Or.inl rfl) (pe_callB (call_sortD pd hu) (by rfl) B.sorted boot_sorted (pa_cons (pe_lock (pe_lc (own := [("point", 4)]) (g := gName 4) (by rfl) sc17.nd (pi_keyM (pv 1)) (blkOk_by (N := n17) (sc := defScope (topS 17)) (by decide +kernel))
        (fun _ _ _ _ _ => pg_name (i := 4) sc17.nd rfl (Or.inl rfl)) (fun _ _ _ _ _ => pts_one (pt_val (pe_callB (r := fun xs H Q => ∃ v d T, xs = [v, .ty T] ∧ DV K w H v d ∧ (T = "int" ∨ T = "bool" ∨ T = "str" ∨ T = "tuple" ∨ T = "dict" ∨ T = "list") ∧ Q (.bl (isTy d T)) H) call_isiD (by rfl) B.isinstance boot_isinstance (pa_cons (pv 4) (pa_cons (pe_bltn (v := .ty "tuple") (by rfl) B.tuple boot_tuple rfl) pa_nil))))) (fun _ _ _ _ _ => pv 4))) pa_nil)))
      (pss_one (ps_ret (pe_dcM (own := [("point", 4)]) (g := gName 4) (hu9 hu) (by rfl) sc17.nd (pi_list (pe_op op_cat (pv 2) (pv 3))) (blkOk_by (N := n17) (sc := defScope (topS 17)) (by decide +kernel))
        (fun _ _ _ _ _ => pg_name (i := 4) sc17.nd rfl (Or.inl rfl)) (fun _ _ _ _ _ => pv 4) (fun _ _ _ _ _ => pe_ix (r := rIxM K w) (ix_md (hu9 hu)) (pv 1) (pv 4) (fun _ _ => rfl))))))))), ?_⟩
    obtain ⟨t, R, rfl, rt, ro, q0, q⟩ := h
    have hl := ro.len
    have lN := len_pts R
    have nd := pts_nd R
    refine ⟨_, rfl, t, R, rfl, rt, by omega, ro.ok, _, rfl, t, R, rfl, rt, by omega, fun r hr => okRow_small (ro.ok r hr), fun H1 s1 hrg => ?_, fun D H1 BN s1 hD tb hk hmid hcl hb0 => ?_⟩
    · exact ⟨_, rfl, rfl, _, rfl, iteT (q0 _ s1 hrg)⟩
    · refine ⟨_, rfl, rfl, _, rfl, iteF ?_⟩
      have hkN : (asV V.int BN).map (·.1) = ptsOf R := by rw [keys_asV]; exact hk
      refine nx_i ?_
      dsimp only
      refine seq_i ?_
      refine sort_part (c := isW) tb hkN (by omega) rfl (by exact (by decide : 4 < 5)) (sort_w fun k hk => (List.mem_filter.mp hk).2) (fun y p H' Q hp ky q => ⟨_, rfl, y, pd p, _, rfl, .inl ky.dp, .inr (.inr (.inl rfl)), _, rfl, by rw [ty_w]; exact q⟩) fun H2 p2 b2 s2 hp2 hH2 pm2 so2 kv2 => ?_
      have tb2 := tb.same s2
      refine seq_i ?_
      refine sort_part (c := isC) tb2 hkN (by omega) rfl (by exact (by decide : 4 < 5)) (sort_c fun k hk => (List.mem_filter.mp hk).2) (fun y p H' Q hp ky q => ⟨_, rfl, y, pd p, _, rfl, .inl ky.dp, .inr (.inr (.inr (.inl rfl))), _, rfl, by rw [ty_c (ro.pts p hp).1]; exact q⟩) fun H3 p3 b3 s3 hp3 hH3 pm3 so3 kv3 => ?_
      have tb3 := tb2.same s3
      have l2 : b2.length ≤ 41 := by
        have h5 := pm2.length_eq
        rw [List.length_map] at h5
        have := List.length_filter_le isW (ptsOf R)
        omega
      have l3 : b3.length ≤ 41 := by
        have h5 := pm3.length_eq
        rw [List.length_map] at h5
        have := List.length_filter_le isC (ptsOf R)
        omega
      refine ⟨_, rfl, _, rfl, p2, p3, _, _, rfl, rfl, s3 _ _ hH2, hH3, by rw [List.length_map, List.length_map, sizeLine_eq]; omega, fun p hp => ⟨p, rfl, ⟨_, .inl (.inl upd_same)⟩, fun D4 hD4 => ?_⟩⟩
      have sp := same_new (o := .lst (b2.map (·.2) ++ b3.map (·.2))) hp
      have e4 : b2.map (·.2) ++ b3.map (·.2) = (b2 ++ b3).map (·.2) := by rw [List.map_append]
      have kv4 : ∀ b ∈ b2 ++ b3, KdV K (upd H3 p (.lst (b2.map (·.2) ++ b3.map (·.2)))) b.1 b.2 := fun b hb => by
        rcases List.mem_append.mp hb with z | z
        · exact ((kv2 b z).mono (.same s3)).mono (.same sp)
        · exact (kv3 b z).mono (.same sp)
      have tb4 := tb3.same sp
      rw [e4] at sp kv4 tb4 hD4 ⊢
      have py := zip_pair (p := KdV K (upd H3 p (.lst ((b2 ++ b3).map (·.2))))) kv4
      have lp := paired_len py
      have S := steady_list (K := K) (a := p) (xs := (b2 ++ b3).map (·.2))
      rw [← lp] at S
      have pmk : ((b2 ++ b3).map (·.1)).Perm ((ptsOf R).filter isW ++ (ptsOf R).filter isC) := by rw [List.map_append]; exact pm2.append pm3
      have inp : ∀ k ∈ (b2 ++ b3).map (·.1), k ∈ ptsOf R := fun k hk => by
        rcases List.mem_append.mp (pmk.mem_iff.mp hk) with z | z <;> exact (List.mem_filter.mp z).1
      have ndk : (((b2 ++ b3).map (·.1)).map nk).Nodup := by
        refine (pmk.map nk).nodup_iff.mpr ?_
        rw [List.map_append, List.nodup_append]
        refine ⟨nd.sublist ((List.filter_sublist).map nk), nd.sublist ((List.filter_sublist).map nk), fun a ha b hb => ?_⟩
        obtain ⟨x, hx, e1⟩ := List.mem_map.mp ha
        obtain ⟨y, hy, e2⟩ := List.mem_map.mp hb
        have h1 := (List.mem_filter.mp hx).2
        have h2 := (List.mem_filter.mp hy).2
        subst e1 e2
        cases x <;> first | (cases h1; done) | skip
        cases y <;> first | (cases h2; done) | skip
        exact fun z => nomatch z
      have lk : ((b2 ++ b3).map (·.1)).length ≤ 200 := by rw [List.length_map, List.length_append]; omega
      have soAll : (b2 ++ b3).map (·.1) = sortK ((ptsOf R).filter isW) ++ sortK ((ptsOf R).filter isC) := by rw [List.map_append, so2, so3]
      generalize hks : (b2 ++ b3).map (·.1) = ks at *
      refine dc_tab (fun k => bt BN (nk k)) (pts := ks) S (fun H' h => .inl (.inl (h _ _ upd_same))) (by exact (by decide : 4 < 5)) (fun n hn => paired_getD py hn) ndk lk hD4 (fun n H' Q hn sm q => ?_) fun H5 s5 tb5 => ?_
      · have kk := (paired_getD py (a0 := .no) (b0 := .non) hn).mono (Tups.same sm)
        exact ⟨_, rfl, _, rfl, ix_tab (tb4.same sm) kk (look_bt hk ⟨_, inp _ (getD_mem hn), rfl⟩) q⟩
      · have sAll : Same H (upd H3 p (.lst ((b2 ++ b3).map (·.2)))) := ((s1.trans s2).trans s3).trans sp
        refine q D4 H5 _ (sAll.trans s5) (sAll.free hD4) tb5 ?_ ?_ ?_ ?_ ?_ ?_ ?_
        · intro z
          have h0 : (.w "" : Kd) ∈ ks := pmk.mem_iff.mpr (List.mem_append_left _ (List.mem_filter.mpr ⟨pts_sub R _ _ (List.mem_singleton.mpr rfl), rfl⟩))
          rw [List.map_eq_nil_iff.mp z] at h0
          cases h0
        · rw [List.map_map]
          exact ndk
        · intro e he
          obtain ⟨k, hk2, e1⟩ := List.mem_map.mp he
          rw [← e1]
          exact inp k hk2
        · intro e he
          obtain ⟨k, hk2, e1⟩ := List.mem_map.mp he
          rw [← e1]
          exact bt_mid hmid (nk k)
        · have eb : ∀ x, bo (ks.map fun k => (k, bt BN (nk k))) x = bo BN x := fun x => by
            rw [bo_map ks (bt BN)]
            by_cases c : ∃ p ∈ ptsOf R, nk p = x
            · rw [bo_bt hk c, if_pos]
              obtain ⟨p, hp, ep⟩ := c
              refine ⟨p, pmk.mem_iff.mpr ?_, ep⟩
              have hpt := (ro.pts p hp).1
              rw [List.mem_append]
              cases p with
              | w x => exact .inl (List.mem_filter.mpr ⟨hp, rfl⟩)
              | c a b i => exact .inr (List.mem_filter.mpr ⟨hp, rfl⟩)
              | cb a b t => cases hpt
              | n i => cases hpt
              | no => cases hpt
            · rw [if_neg fun ⟨p, hp, ep⟩ => c ⟨p, inp p hp, ep⟩]
              cases e : bo BN x with
              | none => rfl
              | some v =>
                obtain ⟨y, hy, ey, _⟩ := bo_mem e
                exact absurd ⟨y.1, by rw [← hk]; exact List.mem_map_of_mem hy, ey⟩ c
          intro j hj b hb
          rw [eb] at hb
          obtain ⟨a, ea, hl⟩ := hcl j hj b hb
          exact ⟨a, by rw [eb]; exact ea, hl⟩
        · have h0 : (.w "" : Kd) ∈ ks := pmk.mem_iff.mpr (List.mem_append_left _ (List.mem_filter.mpr ⟨pts_sub R _ _ (List.mem_singleton.mpr rfl), rfl⟩))
          have e0 := bo_map ks (bt BN) (nk (.w ""))
          rw [if_pos ⟨_, h0, rfl⟩, hb0] at e0
          rw [bt_bo, e0]; rfl
        · rw [List.map_map, ← soAll]
          exact List.map_id _
end
end Fc
namespace Fc
open PySem L2 PyProof.Rows
section
variable {X : Cx} {pins : List (Addr × Obj)} {σ : L2.St} {H : Hp} {s : Shared} {a : Addr} {xs : List Ent} {k : NK} {y d : V} {u r : Value} {A : Around} {E : Value → Shared → Prop}
theorem RelO.getDV {o : Option V} {o' : Option Value} {d : V} {r : Value} (h : RelO o o') (hd : RelV d r) : RelV (o.getD d) (o'.getD r) := by
  cases o with
  | none => cases o' with
    | none => exact hd
    | some _ => exact h.elim
  | some v => cases o' with
    | none => exact h.elim
    | some _ => exact h
theorem meetsM_get {P : Program} {w : World} {key : Value} (hd : (a == sysModules) = false) :
    MeetsIn P w (Builtin.«dict.get» ⟨[.ref a, key], []⟩) (fun A R s => ∃ o es ep ks, A.units + 9 < cLine ∧ s.heap.get? a = some o ∧ o.data = .dict es ep ∧ Tab w s.heap ks es ∧ NestedIs s.heap k key ∧ k.depth ≤ 8 ∧ ∀ t, R (.ok (.ret ((under ks es k).getD .none))) { s with toks := t }) :=
  .of_wp fun A R s ⟨o, es, ep, ks, hu, ho, hdt, T, hk, hkd, h⟩ => by
    show wpAny _ _ (dictGet a key >>= _) _ _ s
    refine wpAny_bind (dGet (by show A.units + 1 + 8 < cLine; omega) T hk hkd ho hdt fun t => ?_)
    have h' := h t
    cases e : under ks es k with
    | some v =>
      rw [e] at h'
      exact wpAny_pure ⟨v, rfl, h'⟩
    | none =>
      rw [e] at h'
      show wpAny _ _ (Builtin.Dict.missed a key >>= _) _ _ _
      exact wpAny_bind (wpAny_missed_other hd (wpAny_pure ⟨.none, rfl, h'⟩))
theorem meetsM_get2 {P : Program} {w : World} {key dflt : Value} (hd : (a == sysModules) = false) :
    MeetsIn P w (Builtin.«dict.get» ⟨[.ref a, key, dflt], []⟩) (fun A R s => ∃ o es ep ks, A.units + 9 < cLine ∧ s.heap.get? a = some o ∧ o.data = .dict es ep ∧ Tab w s.heap ks es ∧ NestedIs s.heap k key ∧ k.depth ≤ 8 ∧ ∀ t, R (.ok (.ret ((under ks es k).getD dflt))) { s with toks := t }) :=
  .of_wp fun A R s ⟨o, es, ep, ks, hu, ho, hdt, T, hk, hkd, h⟩ => by
    show wpAny _ _ (dictGet a key >>= _) _ _ s
    refine wpAny_bind (dGet (by show A.units + 1 + 8 < cLine; omega) T hk hkd ho hdt fun t => ?_)
    have h' := h t
    cases e : under ks es k with
    | some v =>
      rw [e] at h'
      exact wpAny_pure ⟨v, rfl, h'⟩
    | none =>
      rw [e] at h'
      show wpAny _ _ (Builtin.Dict.missed a key >>= _) _ _ _
      exact wpAny_bind (wpAny_missed_other hd (wpAny_pure ⟨dflt, rfl, h'⟩))
theorem d_getM1 {Q : Value → Shared → Prop} (hu : X.A.units + 9 < cLine) (I : Inv X pins σ H s) (t : TabAt X.K X.w H a xs) (hk : KeyV X.K H k y) (ry : RelV y u) (h : ∀ w' s', Inv X pins σ H s' → RelV ((valM xs k).getD .non) w' → Q w' s') :
    wpAny (model X.prog X.w) X.A (call (.builtin "dict.get") [.ref a, u]) Q E s := by
  obtain ⟨_, sm, o, es, ep, ho, hc, hd, ee, T⟩ := t.get I
  obtain ⟨n, dd⟩ := hk.is I ry
  have hT : s.TypeIs (.ref a) "dict" := ⟨o, ho, hc.1⟩
  exact call_meetsIn PySem.F.slot_dict_get hT PySem.F.entry_dict_get (PySem.F.args_dict_get_2 _ _) (meetsM_get sm) ⟨o, es, ep, _, hu, ho, hd, T, n, dd, fun tk => h _ _ (I.tok tk) (RelO.getDV (ee.val k) rfl)⟩
theorem d_getM2 {Q : Value → Shared → Prop} (hu : X.A.units + 9 < cLine) (I : Inv X pins σ H s) (t : TabAt X.K X.w H a xs) (hk : KeyV X.K H k y) (ry : RelV y u) (rd : RelV d r) (h : ∀ w' s', Inv X pins σ H s' → RelV ((valM xs k).getD d) w' → Q w' s') :
    wpAny (model X.prog X.w) X.A (call (.builtin "dict.get") [.ref a, u, r]) Q E s := by
  obtain ⟨_, sm, o, es, ep, ho, hc, hd, ee, T⟩ := t.get I
  obtain ⟨n, dd⟩ := hk.is I ry
  have hT : s.TypeIs (.ref a) "dict" := ⟨o, ho, hc.1⟩
  exact call_meetsIn PySem.F.slot_dict_get hT PySem.F.entry_dict_get (PySem.F.args_dict_get_3 _ _ _) (meetsM_get2 sm) ⟨o, es, ep, _, hu, ho, hd, T, n, dd, fun tk => h _ _ (I.tok tk) (RelO.getDV (ee.val k) rd)⟩
end
/-- d.get(k), d.get(k, x): keys of all kinds -/
def tGetM1 (K : PySem.W.Frag) (w : World) (td ty : TE) : TE := fun σ H Q => td σ H fun x H1 => ∃ a xs0, x = .ref a ∧ Rd H1 a (MD w a xs0) ∧ ty σ H1 fun y H2 => ∃ xs k, TabAt K w H2 a xs ∧ KeyV K H2 k y ∧ Q ((valM xs k).getD .non) H2
def tGetM2 (K : PySem.W.Frag) (w : World) (td ty tx : TE) : TE := fun σ H Q => td σ H fun x H1 => ∃ a xs0, x = .ref a ∧ Rd H1 a (MD w a xs0) ∧ ty σ H1 fun y H2 => tx σ H2 fun z H3 => ∃ xs k, TabAt K w H3 a xs ∧ KeyV K H3 k y ∧ Q ((valM xs k).getD z) H3
section
variable {X : Cx} {o e f : Expr} {apos cpos : Pos} {td ty tx : TE}
theorem md_type {pins : List (Addr × Obj)} {σ : L2.St} {H : Hp} {s : Shared} {a : Addr} {xs : List Ent} (I : Inv X pins σ H s) (t : Rd H a (MD X.w a xs)) : s.TypeIs (.ref a) "dict" ∧ ∀ b, Value.ref a = .ref b → ∃ ob, s.heap.get? b = some ob ∧ ob.dict = none := by
  have ok : ObjOk X.prog X.w H s.heap a (MD X.w a xs) := t.ok I.hok
  obtain ⟨⟨_, _, _, o, es, ep, ho, hc, hd, ee⟩, _⟩ := ok
  exact ⟨⟨o, ho, hc.1⟩, fun b e => by cases e; exact ⟨o, ho, hc.2.1⟩⟩
theorem pe_getM1 (hu : X.A.units + 9 < cLine) (ho : PE X o td) (he : PE X e ty) (m : M1 X o "get" apos e cpos) : PE X (.Call (.Attribute o "get" apos) [e] [] cpos) (tGetM1 X.K X.w td ty) := by
  refine ⟨fun pins s σ H Q I h => ?_⟩
  refine wpAny_Call_method m.base m.few m.line PySem.F.plainAttrs_dict PySem.F.slot_dict_get PySem.F.type_dict_get (thn (ho.run pins s σ H _ I h) fun u s1 ⟨x, H1, I1, rx, a, xs0, ex, d, q1⟩ => ?_)
  subst ex
  obtain rfl : u = Value.ref a := rx
  obtain ⟨t1, t2⟩ := md_type I1 d
  refine ⟨t1, t2, ?_⟩
  rw [m.trees]
  refine Calls.callWith_builtin rfl (Calls.evalArgs_plain (Calls.spliced_cons (thn (he.run pins s1 σ H1 _ I1 q1) fun iv s2 ⟨y, H2, I2, ry, xs, k, g, hk, q2⟩ => Calls.spliced_nil ?_)))
  exact d_getM1 hu I2 g hk ry fun w' s3 I3 rw' => ⟨_, H2, I3, rw', q2⟩
theorem pe_getM2 (hu : X.A.units + 9 < cLine) (ho : PE X o td) (he : PE X e ty) (hf : PE X f tx) (m : M2 X o "get" apos e f cpos) : PE X (.Call (.Attribute o "get" apos) [e, f] [] cpos) (tGetM2 X.K X.w td ty tx) := by
  refine ⟨fun pins s σ H Q I h => ?_⟩
  refine wpAny_Call_method m.base m.few m.line PySem.F.plainAttrs_dict PySem.F.slot_dict_get PySem.F.type_dict_get (thn (ho.run pins s σ H _ I h) fun u s1 ⟨x, H1, I1, rx, a, xs0, ex, d, q1⟩ => ?_)
  subst ex
  obtain rfl : u = Value.ref a := rx
  obtain ⟨t1, t2⟩ := md_type I1 d
  refine ⟨t1, t2, ?_⟩
  rw [m.trees]
  refine Calls.callWith_builtin rfl (Calls.evalArgs_plain (Calls.spliced_cons (thn (he.run pins s1 σ H1 _ I1 q1) fun iv s2 ⟨y, H2, I2, ry, q2⟩ =>
    Calls.spliced_cons (thn (hf.run pins s2 σ H2 _ I2 q2) fun fv s3 ⟨z, H3, I3, rz, xs, k, g, hk, q3⟩ => Calls.spliced_nil ?_))))
  exact d_getM2 hu I3 g hk ry rz fun w' s4 I4 rw' => ⟨_, H3, I4, rw', q3⟩
/-- {k: v} -/
def tDisp1M (K : PySem.W.Frag) (w : World) (tk tv : TE) : TE := fun σ H Q => ∀ p, H p = none → tk σ (upd H p (MD w p [])) fun x H1 => tv σ H1 fun y H2 => H2 p = some (MD w p []) ∧ ∃ k, KeyV K H2 k x ∧ Q (.ref p) (upd H2 p (MD w p [(k, x, y)]))
theorem pe_disp1M {k v : Expr} {pos : Pos} {tk tv : TE} (hu : X.A.units + 9 < cLine) (hk : PE X k tk) (hv : PE X v tv) : PE X (.Dict [some k] [v] pos) (tDisp1M X.K X.w tk tv) := by
  refine ⟨fun pins s σ H Q I q => ?_⟩
  have hn := I.hok.fresh (Nat.le_refl s.heap.objs.size)
  have I1 := I.laid (a := s.heap.objs.size) (o := MD X.w s.heap.objs.size []) (h' := s.heap.push { cls := .type "dict", data := .dict #[] }) (t' := s.toks) (fun _ _ q => Heap.get?_push_of_some _ q) (Nat.le_refl _) (md_empty s.heap I.big)
  refine wpAny_Dict_any rfl rfl (by simp) (show (1 : Nat) ≤ 15 by decide) (thn ((pps_cons hk hv (pps_nil (pos := pos))).run pins _ σ _ (fun ps H2 => match ps with | [(x, y)] => H2 s.heap.objs.size = some (MD X.w s.heap.objs.size []) ∧ ∃ k, KeyV X.K H2 k x ∧ Q (.ref s.heap.objs.size) (upd H2 s.heap.objs.size (MD X.w s.heap.objs.size [(k, x, y)])) | _ => False) I1 (q _ hn)) fun ws s2 ⟨ps, H2, I2, rel, hq⟩ => ?_)
  · cases rel with
    | nil => exact hq.elim
    | @cons p1 w1 ps' ws' r1 rn =>
      cases rn with
      | cons _ _ => exact hq.elim
      | nil =>
      obtain ⟨x, y⟩ := p1
      obtain ⟨hD, kk, hkk, q2⟩ := hq
      unfold storeAll
      rw [List.forIn_cons]
      have tab : TabAt X.K X.w H2 s.heap.objs.size [] := ⟨.inl hD, fun x hx => nomatch hx⟩
      obtain ⟨z1, sm, o1, es, ep, ho, hcx, hd, ee, T1⟩ := tab.get I2
      obtain ⟨nk, dk⟩ := hkk.is I2 r1.1
      refine wpAny_bind (wpAny_bind (dSet (by omega) T1 nk dk ho hcx hd (by rw [ee.1]; exact z1) fun h' tk' o' ep' sb e1 e2 e3 => ?_))
      have I3 := md_put (X := X) hD I2 (by show 0 < sizeLine; rw [sizeLine_eq]; decide) ee r1.1 r1.2 sb e1 e2 e3 tk'
      refine wpAny_pure ?_
      exact wpAny_pure ⟨.ref s.heap.objs.size, _, I3, rfl, q2⟩
end
end Fc
namespace Fc
open PySem L2 PyProof.Rows
def ov : Option Int → V
  | none => .non
  | some i => .int i
theorem ov_getD (o : Option Int) : (o.map V.int).getD .non = ov o := by cases o <;> rfl
def spLeast (K : PySem.W.Frag) (w : World) : Sp := fun vs H Q _ => ∃ t R a b k1 k2, vs = [.ref t, a, b] ∧ RowsT K H R t ∧ R.length ≤ 60 ∧ KdV K H k1 a ∧ KdV K H k2 b ∧
  ∀ H' B' C l, Same H H' → Rlx R [(k2, 0)] B' C l → Q (ov (bo B' (nk k1))) H'
/-- what is let out, and what is handed back -/
def spTight (K : PySem.W.Frag) (w : World) (Cop : Addr) : Sp := fun vs H Q E => ∃ t R a b k1 k2, vs = [.ref t, a, b] ∧ RowsT K H R t ∧ RowsOk R ∧ KdV K H k1 a ∧ KdV K H k2 b ∧ (isPtK k1 = true ∧ kdShort k1 = true) ∧ (isPtK k2 = true ∧ kdShort k2 = true) ∧
  (∀ H', Same H H' → hasRing R → E (.ref Cop) none H') ∧ ∀ H' B' C l, Same H H' → (∃ B : List (Kd × Int), B.map (·.1) = ptsOf R ∧ Fd.closed (rws R) (bo B)) → Rlx R [(k2, 0)] B' C l → Q (ov (bo B' (nk k1))) H'
/-- what the text says of an own error -/
structure OwnX (K : PySem.W.Frag) (mg : Str → Option Value) (x : Str) (C : Addr) : Prop where
  g : mg x = some (.ref C)
  x : PySem.W.excIn K C [.type "ValueError", .type "Exception", .type "BaseException", .type "object"] "ValueError.__new__" = true
  k : PySem.W.keepIn K (.ref C) = true
  b : PySem.W.subIn K (.ref C) (.type "BaseException") = some true
  t : PySem.W.typeIn K (.ref C) = some (.type "type")
  e : PySem.W.exmOne K (.ref C) (.ref C) = some true
section
variable {K : PySem.W.Frag} {mg : Str → Option Value} {base : Heap} {P : Program} {w : World}
abbrev n40 : List Str := ["differences", "one", "other", "bounds"]
theorem sc40 : FnScope n40 ["differences", "one", "other"] (defScope (topS 40)) := ⟨rfl, rfl, rfl, by decide +kernel, rfl, by decide +kernel, by decide +kernel⟩
theorem ok40 {f : Addr} {fd : FuncData} (F : Fun K "least_bound" "least_bound" (topS 40) f fd) (B : Blt mg) (c11 : Cal P w K mg base 2 "relaxed" (spRelax K w)) : FnOk P w K mg base CX0 3 f fd ["differences", "one", "other"] (spLeast K w) := by
  refine F.ok sc40 (fun vs H Q E h => ?_) (fun cdv A outer s H vs Q E hr h => ?_)
  · obtain ⟨t, R, a, b, k1, k2, rfl, _⟩ := h
    rfl
  · have hu := hu70 hr
    refine ⟨_, pss_cons (ps_set (i := 3) sc40.nd rfl (Or.inl rfl) (pe_disp1M (hu9 hu) (pv 2) pe_int)) (pss_cons (ps_expr (pe_c c11 hr (by decide) (by rfl) (pa_cons (pv 0) (pa_cons (pv 3) pa_nil))))
      (pss_one (ps_ret (pe_getM1 (hu9 hu) (pv 3) (pv 1) ⟨rfl, rfl, rfl, rfl⟩)))), ?_⟩
    obtain ⟨t, R, a, b, k1, k2, rfl, rt, hl, h1, h2, q⟩ := h
    intro D hD
    have s0 := same_new (o := MD w D []) hD
    refine ⟨_, rfl, ?_⟩
    refine tC_i ⟨upd_same, nk k2, (h2.mono (.same s0)).key, ?_⟩
    have e0 : upd (upd H D (MD w D [])) D (MD w D [(nk k2, b, .int 0)]) = upd H D (MD w D [(nk k2, b, .int 0)]) := upd_upd
    have s1 := same_new (o := MD w D [(nk k2, b, .int 0)]) hD
    have tb : TabIs K w (upd H D (MD w D [(nk k2, b, .int 0)])) D (asV .int [(k2, 0)]) := ⟨_, upd_same, .cons ⟨rfl, h2.mono (.same s1), rfl⟩ .nil⟩
    refine e0 ▸ ?_
    refine ⟨_, rfl, _, rfl, t, D, R, [(k2, 0)], rfl, rt.mono (.same s1), hl, tb, (show (1 : Nat) ≤ 200 by decide), fun e he => by rw [List.mem_singleton.mp he], fun z H3 D3 B' C l b3 t3 tb3 rx hD3 nD tc3 sz => ?_⟩
    have s3 : Same H H3 := fun x o e => b3 x o (ne_of_none e hD) (s1 x o e)
    obtain ⟨xs, ta, pp⟩ := tb3.at
    refine ⟨_, rfl, D, xs, rfl, ta.md, _, rfl, xs, nk k1, ta, (h1.mono (.same s3)).key, ?_⟩
    rw [tabR_val pp, look_bo, ov_getD]
    exact q H3 B' C l s3 rx
abbrev n41 : List Str := ["differences", "one", "other", "point"]
theorem sc41 : FnScope n41 ["differences", "one", "other"] (defScope (topS 41)) := ⟨rfl, rfl, rfl, by decide +kernel, rfl, by decide +kernel, by decide +kernel⟩
theorem ok41 {f C : Addr} {fd : FuncData} (F : Fun K "tightest" "tightest" (topS 41) f fd) (B : Blt mg) (O : OwnX K mg "InvalidOperation" C) (c21 : Cal P w K mg base 5 "require_differences" (spReq K w)) (c12 : Cal P w K mg base 3 "numbers_that_fit" (spNums K w)) (c23 : Cal P w K mg base 3 "is_point" (spPoint K w)) (c40 : Cal P w K mg base 3 "least_bound" (spLeast K w)) :
    FnOk P w K mg base (L2.CX P w) 6 f fd ["differences", "one", "other"] (spTight K w C) := by
  refine F.okX sc41 (fun vs H Q E h => ?_) (fun cdv A outer s H vs Q E hr h => ?_)
  · obtain ⟨t, R, a, b, k1, k2, rfl, _⟩ := h
    rfl
  · have hu := hu70 hr
    refine ⟨_, pss_cons (ps_expr (pe_c c21 hr (by decide) (by rfl) (pa_cons (pv 0) pa_nil)))
      (pss_cons (ps_for (passes_of rfl) rfl (pi_tup (pe_tup (pa_cons (pv 1) (pa_cons (pv 2) pa_nil)))) (pg_name (i := 3) sc41.nd rfl (Or.inl rfl)) (pss_one (ps_if (pt_not (pt_val (pe_c c23 hr (by decide) (by rfl) (pa_cons (pv 3) pa_nil)))) pss_never pss_nil)))
      (pss_cons (ps_if (pt_cmpR op_isN (pe_c c12 hr (by decide) (by rfl) (pa_cons (pv 0) pa_nil)) pe_non (nomark _)) (pss_one (ps_raise rfl (takes_of rfl rfl rfl rfl) (pmk_own PySem.F.excBase_ValueError O.x O.g O.k (raises_own O.b O.t) rfl))) pss_nil)
      (pss_one (ps_ret (pe_c c40 hr (by decide) (by rfl) (pa_cons (pv 0) (pa_cons (pv 1) (pa_cons (pv 2) pa_nil)))))))), ?_⟩
    obtain ⟨t, R, a, b, k1, k2, rfl, rt, ro, h1, h2, ⟨p1, p2⟩, ⟨p3, p4⟩, qE, q⟩ := h
    have hl := ro.len
    refine ⟨_, rfl, t, R, rfl, rt, by omega, ro.ok, ?_⟩
    refine ⟨_, rfl, _, rfl, by rw [sizeLine_eq]; exact (by decide : (2 : Nat) ≤ 16777216), fun tp htp => ⟨tp, rfl, ⟨[a, b], .inl (.inl upd_same)⟩, ?_⟩⟩
    have s1 := same_new (o := .tup [a, b]) htp
    have rt1 := rt.mono (.same s1)
    have g1 := h1.mono (.same s1)
    have g2 := h2.mono (.same s1)
    have stp : SqT K (upd H tp (.tup [a, b])) tp [a, b] := .inl (.inl upd_same)
    generalize upd H tp (.tup [a, b]) = H1 at *
    refine for_steady steady_tup (fun i σ H' => H' = H1 ∧ ∃ v, σ = [some (.ref t), some a, some b, v]) ⟨rfl, _, rfl⟩ (fun _ _ _ _ h => h.1 ▸ stp) ?_ ?_
    · rintro i σ H' hi ⟨rfl, v, rfl⟩
      have hi2 : i < 2 := hi
      have hc : i = 0 ∨ i = 1 := by omega
      rcases hc with rfl | rfl
      · refine ⟨_, rfl, a, k1, rfl, g1, p2, _, rfl, ?_⟩
        rw [p1]
        exact iteF ⟨rfl, _, rfl⟩
      · refine ⟨_, rfl, b, k2, rfl, g2, p4, _, rfl, ?_⟩
        rw [p3]
        exact iteF ⟨rfl, _, rfl⟩
    · rintro σ H' ⟨rfl, v, rfl⟩
      refine ⟨_, rfl, t, R, rfl, rt1, by omega, fun r hr => okRow_small (ro.ok r hr), fun H2 s2 hrg => ?_, fun D H2 BN s2 hD tb hk hmid hcl hb0 => ?_⟩
      · exact ⟨rfl, _, rfl, iteT (qE _ (s1.trans s2) hrg)⟩
      · refine ⟨rfl, _, rfl, iteF ⟨_, rfl, _, rfl, _, rfl, t, R, a, b, k1, k2, rfl, rt1.mono (.same s2), by omega, g1.mono (.same s2), g2.mono (.same s2), fun H3 B' C l s3 rx => ?_⟩⟩
        exact q H3 B' C l ((s1.trans s2).trans s3) ⟨BN, hk, hcl⟩ rx
end
end Fc
namespace Fc
open PySem L2 PyProof.Rows
/-- the dice at D -/
abbrev dicL (a b c : Int) : HO := .lst [.int a, .int b, .int c]
theorem pos61 : (0 : Int) < (10 ^ Int.toNat 61) ^ Int.toNat 4 := by decide +kernel
theorem pos21 : (0 : Int) < 2147483543 := by decide
theorem pos07 : (0 : Int) < 2305843009213693907 := by decide
theorem pos21b : (0 : Int) < 2305843009213693921 := by decide
def spDice (K : PySem.W.Frag) (w : World) : Sp := fun vs H Q _ => ∃ (a : Addr) (ns : List Int) (i : Int), vs = [.ref a, .int i] ∧ SqL K H a (ns.map V.int) ∧ 0 ≤ i ∧ i < 100 ∧ ns.length ≤ 1000 ∧ ∀ D x y z, H D = none → Q (.ref D) (upd H D (dicL x y z))
def spRoll (K : PySem.W.Frag) (w : World) : Sp := fun vs H Q _ => ∃ D t x y z, vs = [.ref D, .int t] ∧ 0 < t ∧ t < 1000 ∧ H D = some (dicL x y z) ∧ ∀ r x' y' z', 0 ≤ r → r < t → Q (.int r) (upd H D (dicL x' y' z'))
def spPick (K : PySem.W.Frag) (w : World) : Sp := fun vs H Q _ => ∃ D p xs x y z, vs = [.ref D, .ref p] ∧ SqL K H p xs ∧ p ≠ D ∧ xs ≠ [] ∧ xs.length < 1000 ∧ H D = some (dicL x y z) ∧ ∀ v x' y' z', v ∈ xs → Q v (upd H D (dicL x' y' z'))
section
variable {K : PySem.W.Frag} {mg : Str → Option Value} {base : Heap} {P : Program} {w : World}
abbrev n27 : List Str := ["_law_script", "_law_spot", "_law_cell", "_law_great"]
theorem sc27 : FnScope n27 ["_law_script", "_law_spot"] (defScope (topS 27)) := ⟨rfl, rfl, rfl, by decide +kernel, rfl, by decide +kernel, by decide +kernel⟩
theorem ok27 {f : Addr} {fd : FuncData} (F : Fun K "_law_dice" "_law_dice" (topS 27) f fd) (B : Blt mg) : FnOk P w K mg base CX0 1 f fd ["_law_script", "_law_spot"] (spDice K w) := by
  refine F.ok sc27 (fun vs H Q E h => ?_) (fun cdv A outer s H vs Q E hr h => ?_)
  · obtain ⟨a, ns, i, rfl, _⟩ := h
    rfl
  · refine ⟨_, pss_cons (ps_set (i := 2) sc27.nd rfl (Or.inl rfl) (pe_ifExp (pt_cmpR op_lt (pv 1) (pe_callB call_len_seq (by rfl) B.len boot_len (pa_cons (pv 0) pa_nil)) (nomark _)) (pe_ix ix_list (pv 0) (pv 1) (fun _ _ => rfl)) (pe_op op_add (pe_op op_mul pe_int (pv 1)) pe_int)))
      (pss_cons (ps_set (i := 3) sc27.nd rfl (Or.inl rfl) (pe_op op_mod (pe_callB call_abs (by rfl) B.abs boot_abs (pa_cons (pe_callTy call_int1 (by rfl) B.int boot_int (pa_cons (pv 2) pa_nil)) pa_nil)) (pe_op op_powW (pe_op op_pow pe_int pe_int) pe_int)))
      (pss_one (ps_ret (pe_lst (pa_cons (pe_callB (call_max2 rfl) (by rfl) B.max boot_max (pa_cons pe_int (pa_cons (pe_op op_sub (pv 3) (pe_op op_pow pe_int pe_int)) pa_nil)))
        (pa_cons (pe_op op_add (pe_op op_add (pe_op op_add (pe_op op_mul (pe_op op_mod (pv 3) pe_int) pe_int) (pe_op op_mul pe_int (pv 1))) (pe_op op_mul pe_int (pe_callTy call_int1 (by rfl) B.int boot_int (pa_cons (pe_cmpR op_lt (pv 2) pe_int (nomark _)) pa_nil)))) pe_int) (pa_cons pe_int pa_nil))))))), ?_⟩
    obtain ⟨a, ns, i, rfl, sl, h0, h1, hl, q⟩ := h
    have hz : (ns.map V.int).length = ns.length := List.length_map _
    refine ⟨_, rfl, _, rfl, a, _, rfl, .inl sl, _, _, rfl, rfl, _, rfl, ?_⟩
    rw [hz]
    by_cases c0 : i < (ns.length : Int)
    · rw [decide_eq_true c0]
      have hat : atI (ns.map V.int) i = some (.int (ns.getD i.toNat 0)) := by
        have e : i = ((i.toNat : Nat) : Int) := by omega
        rw [e]
        refine atI_nat ?_
        have hlt : i.toNat < ns.length := by omega
        have e2 : ((i.toNat : Nat) : Int).toNat = i.toNat := by omega
        rw [e2, List.getElem?_map, List.getD_eq_getElem?_getD, List.getElem?_eq_getElem hlt]
        rfl
      refine iteT ⟨_, rfl, _, rfl, a, _, i, _, rfl, rfl, sl, hat, ?_⟩
      generalize ns.getD i.toNat 0 = c
      refine ⟨_, rfl, .inl ⟨_, rfl, _, rfl, 10, 61, rfl, rfl, ⟨by decide, by decide, by decide⟩, _, 4, rfl, rfl, ⟨by decide, by decide +kernel⟩, _, _, rfl, rfl, pos61, ?_⟩⟩
      generalize (if c < 0 then -c else c) % ((10 ^ Int.toNat 61) ^ Int.toNat 4 : Int) = g
      refine ⟨_, rfl, 10, 15, rfl, rfl, ⟨by decide, by decide, by decide⟩, _, _, rfl, rfl, _, _, rfl, ?_⟩
      refine ⟨_, rfl, _, _, rfl, rfl, pos21, _, _, rfl, rfl, .inr ⟨by decide, by decide⟩, _, rfl, _, _, rfl, rfl, .inl ⟨by decide, by decide⟩, _, _, rfl, rfl, _, rfl, _, _, rfl, rfl, .inr ⟨_, rfl, _, _, rfl, rfl, .inl ⟨by decide, by decide⟩, _, _, rfl, rfl, _, _, rfl, rfl, ?_⟩⟩
      refine ⟨by rw [sizeLine_eq]; exact (by decide : 3 ≤ 16777216), fun D hD => q D _ _ _ hD⟩
    · rw [decide_eq_false c0]
      refine iteF ⟨_, rfl, 37, i, rfl, rfl, .inl ⟨by decide, by decide⟩, _, _, rfl, rfl, ?_⟩
      generalize 37 * i + 23 = c
      refine ⟨_, rfl, .inl ⟨_, rfl, _, rfl, 10, 61, rfl, rfl, ⟨by decide, by decide, by decide⟩, _, 4, rfl, rfl, ⟨by decide, by decide +kernel⟩, _, _, rfl, rfl, pos61, ?_⟩⟩
      generalize (if c < 0 then -c else c) % ((10 ^ Int.toNat 61) ^ Int.toNat 4 : Int) = g
      refine ⟨_, rfl, 10, 15, rfl, rfl, ⟨by decide, by decide, by decide⟩, _, _, rfl, rfl, _, _, rfl, ?_⟩
      refine ⟨_, rfl, _, _, rfl, rfl, pos21, _, _, rfl, rfl, .inr ⟨by decide, by decide⟩, _, rfl, _, _, rfl, rfl, .inl ⟨by decide, by decide⟩, _, _, rfl, rfl, _, rfl, _, _, rfl, rfl, .inr ⟨_, rfl, _, _, rfl, rfl, .inl ⟨by decide, by decide⟩, _, _, rfl, rfl, _, _, rfl, rfl, ?_⟩⟩
      refine ⟨by rw [sizeLine_eq]; exact (by decide : 3 ≤ 16777216), fun D hD => q D _ _ _ hD⟩
abbrev n28 : List Str := ["_law_dice_here", "_law_total", "_law_found", "_law_one", "_law_two"]
theorem sc28 : FnScope n28 ["_law_dice_here", "_law_total"] (defScope (topS 28)) := ⟨rfl, rfl, rfl, by decide +kernel, rfl, by decide +kernel, by decide +kernel⟩
theorem ok28 {f : Addr} {fd : FuncData} (F : Fun K "_law_roll" "_law_roll" (topS 28) f fd) (B : Blt mg) : FnOk P w K mg base CX0 1 f fd ["_law_dice_here", "_law_total"] (spRoll K w) := by
  refine F.ok sc28 (fun vs H Q E h => ?_) (fun cdv A outer s H vs Q E hr h => ?_)
  · obtain ⟨a, t, x, y, z, rfl, _⟩ := h
    rfl
  · refine ⟨_, pss_cons (ps_if (pt_cmpR op_gt (pe_ix ix_list (pv 0) pe_int (fun _ _ => rfl)) pe_int (nomark _))
        (pss_cons (ps_set (i := 2) sc28.nd rfl (Or.inl rfl) (pe_op op_mod (pe_callTy call_int1 (by rfl) B.int boot_int (pa_cons (pe_ix ix_list (pv 0) pe_int (fun _ _ => rfl)) pa_nil)) (pv 1)))
        (pss_cons (ps_asg (pe_op op_fdiv (pe_ix ix_list (pv 0) pe_int (fun _ _ => rfl)) (pv 1)) (pg_sub (pv 0) pe_int set_list))
        (pss_one (ps_ret (pv 2))))) pss_nil)
      (pss_cons (ps_asg (pe_op op_add (pe_ix ix_list (pv 0) pe_int (fun _ _ => rfl)) pe_int) (pg_sub (pv 0) pe_int set_list))
      (pss_cons (ps_set (i := 3) sc28.nd rfl (Or.inl rfl) (pe_op op_mod (pe_callTy call_int1 (by rfl) B.int boot_int (pa_cons (pe_op op_add (pe_ix ix_list (pv 0) pe_int (fun _ _ => rfl)) (pe_op op_mul pe_int (pe_ix ix_list (pv 0) pe_int (fun _ _ => rfl)))) pa_nil)) pe_int))
      (pss_cons (ps_set (i := 4) sc28.nd rfl (Or.inl rfl) (pe_op op_add (pe_op op_mul (pe_op op_mod (pe_callTy call_int1 (by rfl) B.int boot_int (pa_cons (pe_op op_add (pe_op op_mul (pv 3) (pv 3)) (pe_op op_mul pe_int (pe_ix ix_list (pv 0) pe_int (fun _ _ => rfl)))) pa_nil)) pe_int) pe_int) (pv 3)))
      (pss_one (ps_ret (pe_op op_mod (pe_callTy call_int1 (by rfl) B.int boot_int (pa_cons (pe_op op_fdiv (pv 4) pe_int) pa_nil)) (pv 1))))))), ?_⟩
    obtain ⟨D, t, x, y, z, rfl, h0, h1, hD, q⟩ := h
    have i0 : ∀ a b c : Int, atI [V.int a, V.int b, V.int c] 0 = some (.int a) := fun a b c => atI_nat (j := 0) rfl
    have i1 : ∀ a b c : Int, atI [V.int a, V.int b, V.int c] 1 = some (.int b) := fun a b c => atI_nat (j := 1) rfl
    have i2 : ∀ a b c : Int, atI [V.int a, V.int b, V.int c] 2 = some (.int c) := fun a b c => atI_nat (j := 2) rfl
    refine ⟨_, rfl, D, _, 0, _, rfl, rfl, .inl (.inl hD), i0 _ _ _, _, _, rfl, rfl, _, rfl, ?_⟩
    by_cases c : (0 : Int) < x
    · rw [decide_eq_true c]
      refine iteT ⟨_, rfl, D, _, 0, _, rfl, rfl, .inl (.inl hD), i0 _ _ _, .inl ⟨_, rfl, _, rfl, _, _, rfl, rfl, h0, ?_⟩⟩
      refine ⟨_, rfl, D, _, 0, _, rfl, rfl, .inl (.inl hD), i0 _ _ _, _, rfl, _, _, rfl, rfl, ⟨h0, by omega⟩, _, rfl, D, _, 0, 0, rfl, rfl, hD, rfl, ?_⟩
      refine ⟨_, rfl, q _ _ _ _ (Int.emod_nonneg _ (by omega)) (Int.emod_lt_of_pos _ h0)⟩
    · rw [decide_eq_false c]
      refine iteF ⟨_, rfl, D, _, 2, _, rfl, rfl, .inl (.inl hD), i2 _ _ _, _, _, rfl, rfl, _, rfl, D, _, 2, 2, rfl, rfl, hD, rfl, ?_⟩
      have hD2 : (upd H D (.lst ([V.int x, V.int y, V.int z].set 2 (.int (z + 1))))) D = some (dicL x y (z + 1)) := upd_same
      refine ⟨_, rfl, D, _, 1, _, rfl, rfl, .inl (.inl hD2), i1 _ _ _, _, rfl, D, _, 2, _, rfl, rfl, .inl (.inl hD2), i2 _ _ _, _, _, rfl, rfl, .inl ⟨by decide, by decide⟩, _, _, rfl, rfl, .inl ⟨_, rfl, _, _, rfl, rfl, pos07, ?_⟩⟩
      have g0 : 0 ≤ (y + 8209 * (z + 1)) % 2305843009213693907 := Int.emod_nonneg _ (by decide)
      have g1 : (y + 8209 * (z + 1)) % 2305843009213693907 < 2305843009213693907 := Int.emod_lt_of_pos _ (by decide)
      have m0 : -(2 ^ 64) < (y + 8209 * (z + 1)) % 2305843009213693907 := by omega
      have m1 : (y + 8209 * (z + 1)) % 2305843009213693907 < 2 ^ 64 := by omega
      refine ⟨_, rfl, _, rfl, _, _, rfl, rfl, .inl ⟨m0, m1⟩, _, rfl, D, _, 2, _, rfl, rfl, .inl (.inl hD2), i2 _ _ _, _, _, rfl, rfl, .inl ⟨by decide, by decide⟩, _, _, rfl, rfl, .inl ⟨_, rfl, _, _, rfl, rfl, pos21b, _, _, rfl, rfl, .inr ⟨by decide, by decide⟩, _, rfl, _, _, rfl, rfl, ?_⟩⟩
      refine ⟨_, rfl, _, _, rfl, rfl, ⟨by decide, by decide⟩, .inl ⟨_, rfl, _, rfl, _, _, rfl, rfl, h0, ?_⟩⟩
      exact q _ x y (z + 1) (Int.emod_nonneg _ (by omega)) (Int.emod_lt_of_pos _ h0)
abbrev n29 : List Str := ["_law_dice_here", "_law_items"]
theorem sc29 : FnScope n29 n29 (defScope (topS 29)) := ⟨rfl, rfl, rfl, by decide +kernel, rfl, by decide +kernel, by decide +kernel⟩
theorem ok29 {f : Addr} {fd : FuncData} (F : Fun K "_law_pick" "_law_pick" (topS 29) f fd) (B : Blt mg) (c28 : Cal P w K mg base 1 "_law_roll" (spRoll K w)) : FnOk P w K mg base CX0 2 f fd n29 (spPick K w) := by
  refine F.ok sc29 (fun vs H Q E h => ?_) (fun cdv A outer s H vs Q E hr h => ?_)
  · obtain ⟨a, t, x, y, z, _, rfl, _⟩ := h
    rfl
  · refine ⟨_, pss_one (ps_ret (pe_ix ix_list (pv 1) (pe_c c28 hr (by decide) (by rfl) (pa_cons (pv 0) (pa_cons (pe_callB call_len_seq (by rfl) B.len boot_len (pa_cons (pv 1) pa_nil)) pa_nil))) (fun _ _ => rfl))), ?_⟩
    obtain ⟨D, p, xs, x, y, z, rfl, sl, ne, nn, hl, hD, q⟩ := h
    have pos : 0 < xs.length := List.length_pos_iff.mpr nn
    refine ⟨_, rfl, _, rfl, _, rfl, p, xs, rfl, .inl sl, D, _, x, y, z, rfl, by omega, by omega, hD, fun r x' y' z' h0 h1 => ?_⟩
    have hr : r.toNat < xs.length := by omega
    have sl2 : SqL K (upd H D (dicL x' y' z')) p xs := by
      rcases sl with (h | ⟨o, h⟩) | h
      · exact .inl (.inl (by rw [upd_ne ne]; exact h))
      · exact .inl (.inr ⟨o, by rw [upd_ne ne]; exact h⟩)
      · exact .inr h
    have hat : atI xs r = some xs[r.toNat] := by
      have h := atI_nat (List.getElem?_eq_getElem hr)
      have e : ((r.toNat : Nat) : Int) = r := by omega
      rw [e] at h
      exact h
    exact ⟨p, xs, r, xs[r.toNat], rfl, rfl, sl2, hat, q _ x' y' z' (List.getElem_mem hr)⟩
end
end Fc
namespace Fc
open PySem L2 PyProof.Rows
def M57 : Int := 10 ^ 57
def pts11 : List Kd := [.w "", .w "i", .w "j", .w "n", .w "*2", .c "a" "i" 0, .c "a" "" 2, .w "*10", .c "a" "i" (-1), .w "*1", .c "b" "" 0]
def rowL (r : Row) : Prop := r.1 ∈ pts11 ∧ r.2.1 ∈ pts11 ∧ (-(7 * M57) ≤ r.2.2 ∧ r.2.2 ≤ 7 * M57)
/-- rows as the law draws them -/
structure LRows (R : List Row) : Prop where
  len : R.length ≤ 8
  all : ∀ r ∈ R, rowL r
def DiceIn (H : Hp) (D : Addr) : Prop := ∃ x y z, H D = some (dicL x y z)
theorem DiceIn.mut {H : Hp} {D : Addr} (h : DiceIn H D) : ∀ u, H D = some u → Mut (some u) := fun u e => by obtain ⟨x, y, z, e2⟩ := h; rw [e2] at e; cases e; exact True.intro
theorem DiceIn.tups {K : PySem.W.Frag} {H : Hp} {D : Addr} {o : HO} (h : DiceIn H D) : Tups K H (upd H D o) := Tups.upd h.mut
theorem But.refl (D : Addr) (H : Hp) : But D H H := fun _ _ _ e => e
theorem But.upd {D : Addr} {H H' : Hp} {o : HO} (h : But D H H') : But D H (upd H' D o) := fun b u ne e => by rw [upd_ne ne]; exact h b u ne e
theorem But.same {D : Addr} {H H' H2 : Hp} (h : But D H H') (s : Same H' H2) : But D H H2 := fun b u ne e => s b u (h b u ne e)
theorem But.trans {D : Addr} {H H' H2 : Hp} (h : But D H H') (s : But D H' H2) : But D H H2 := fun b u ne e => s b u ne (h b u ne e)
theorem But.tups {K : PySem.W.Frag} {D : Addr} {H H' : Hp} (h : But D H H') (d : DiceIn H D) : Tups K H H' := .of fun b ys r => by
  obtain ⟨x, y, z, e⟩ := d
  have ne : b ≠ D := fun c => by
    subst c
    rcases r with r | ⟨o, r⟩ <;> (rw [e] at r; cases r)
  rcases r with r | ⟨o, r⟩
  · exact .inl (h _ _ ne r)
  · exact .inr ⟨o, h _ _ ne r⟩
structure In31 (K : PySem.W.Frag) (H : Hp) (D p1 p2 : Addr) (R : List Row) (H' : Hp) : Prop where
  but : But D H H'
  dice : DiceIn H' D
  pts : ∃ ys, H' p1 = some (.lst ys) ∧ ys ≠ [] ∧ ys.length < 1000 ∧ ∀ y ∈ ys, ∃ k ∈ pts11, KdV K H' k y
  rows : ∃ ws, H' p2 = some (.lst ws) ∧ Paired (RowV K H') R ws
  n1 : p1 ≠ D
  n2 : p2 ≠ D
  n12 : p1 ≠ p2
  good : ∀ r ∈ R, rowL r
theorem In31.roll {K : PySem.W.Frag} {H : Hp} {D p1 p2 : Addr} {R : List Row} {H' : Hp} (h : In31 K H D p1 p2 R H') (x y z : Int) : In31 K H D p1 p2 R (upd H' D (dicL x y z)) := by
  have t : Tups K H' (upd H' D (dicL x y z)) := h.dice.tups
  obtain ⟨ys, e1, e2, e3, e4⟩ := h.pts
  obtain ⟨ws, f1, f2⟩ := h.rows
  exact ⟨h.but.upd, ⟨x, y, z, upd_same⟩, ⟨ys, by rw [upd_ne h.n1]; exact e1, e2, e3, fun v hv => let ⟨k, hk, kv⟩ := e4 v hv; ⟨k, hk, kv.mono t⟩⟩, ⟨ws, by rw [upd_ne h.n2]; exact f1, Paired.mapP f2 fun _ _ h => h.mono t⟩, h.n1, h.n2, h.n12, h.good⟩
theorem In31.new {K : PySem.W.Frag} {H : Hp} {D p1 p2 q : Addr} {R : List Row} {H' : Hp} {o : HO} (h : In31 K H D p1 p2 R H') (hq : H' q = none) : In31 K H D p1 p2 R (upd H' q o) := by
  have s := same_new (o := o) hq
  have t : Tups K H' (upd H' q o) := .same s
  obtain ⟨ys, e1, e2, e3, e4⟩ := h.pts
  obtain ⟨ws, f1, f2⟩ := h.rows
  obtain ⟨x, y, z, e⟩ := h.dice
  exact ⟨h.but.same s, ⟨x, y, z, s _ _ e⟩, ⟨ys, s _ _ e1, e2, e3, fun v hv => let ⟨k, hk, kv⟩ := e4 v hv; ⟨k, hk, kv.mono t⟩⟩, ⟨ws, s _ _ f1, Paired.mapP f2 fun _ _ h => h.mono t⟩, h.n1, h.n2, h.n12, h.good⟩
theorem paired_snoc {α β : Type} {p : α → β → Prop} {l : List α} {ys : List β} {a : α} {b : β} (h : Paired p l ys) (hab : p a b) : Paired p (l ++ [a]) (ys ++ [b]) := by
  induction h with
  | nil => exact .cons hab .nil
  | cons h1 _ ih => exact .cons h1 ih
theorem In31.push {K : PySem.W.Frag} {H : Hp} {D p1 p2 : Addr} {R : List Row} {H' : Hp} {r : Row} {v : V} {ws : List V} (h : In31 K H D p1 p2 R H') (hw : H' p2 = some (.lst ws)) (hr : RowV K H' r v) (g : rowL r) (hn : H p2 = none) : In31 K H D p1 p2 (R ++ [r]) (upd H' p2 (.lst (ws ++ [v]))) := by
  have t : Tups K H' (upd H' p2 (.lst (ws ++ [v]))) := Tups.upd fun u e => by rw [hw] at e; cases e; exact True.intro
  obtain ⟨ys, e1, e2, e3, e4⟩ := h.pts
  obtain ⟨ws2, f1, f2⟩ := h.rows
  obtain ⟨x, y, z, e⟩ := h.dice
  have ew : ws2 = ws := by rw [hw] at f1; injection f1 with f1; injection f1 with f1; exact f1.symm
  subst ew
  refine ⟨fun b u ne e => by rw [upd_ne (ne_of_none e hn)]; exact h.but b u ne e, ⟨x, y, z, by rw [upd_ne (Ne.symm h.n2)]; exact e⟩, ⟨ys, by rw [upd_ne h.n12]; exact e1, e2, e3, fun v hv => let ⟨k, hk, kv⟩ := e4 v hv; ⟨k, hk, kv.mono t⟩⟩, ⟨_, upd_same, paired_snoc (Paired.mapP f2 fun _ _ h => h.mono t) (hr.mono t)⟩, h.n1, h.n2, h.n12, fun r' hr' => ?_⟩
  rcases List.mem_append.mp hr' with z | z
  · exact h.good r' z
  · rw [List.mem_singleton.mp z]; exact g
def spRows (K : PySem.W.Frag) (w : World) : Sp := fun vs H Q _ => ∃ D, vs = [.ref D] ∧ DiceIn H D ∧ ∀ H' t R, But D H H' → DiceIn H' D → RowsT K H' R t → LRows R → Q (.ref t) H'
/-- the points, as values -/
abbrev p11 (t1 t2 t3 t4 : Addr) : List V := [.str "", .str "i", .str "j", .str "n", .str "*2", .ref t1, .ref t2, .str "*10", .ref t3, .str "*1", .ref t4]
def spPoints (K : PySem.W.Frag) (w : World) : Sp := fun vs H Q _ => vs = [] ∧ ∀ H' p t1 t2 t3 t4, Same H H' → H p = none → H' p = some (.lst (p11 t1 t2 t3 t4)) → SqT K H' t1 [.str "a", .str "i", .int 0] → SqT K H' t2 [.str "a", .str "", .int 2] → SqT K H' t3 [.str "a", .str "i", .int (-1)] → SqT K H' t4 [.str "b", .str "", .int 0] → Q (.ref p) H'
theorem pe_c0 {X : Cx} {k j : Nat} {x : Str} {sp : Sp} {p pos : Pos} (c : Cal X.prog X.w X.K X.mg X.base k x sp) (hr : Room j X.A) (hk : k ≤ j) (hg : Gl X x) (hdb : (x == ("__debug__" : Str)) = false := by decide) : PE X (.Call (.Name x p) [] [] pos) (tCal sp tNil) := by
  obtain ⟨f, fd, ps, F, hm, kp, b⟩ := c.at_
  have q := pe_call0 (p := p) (pos := pos) F (hr.mono hk) hg hm kp b .nil pass0 hdb
  refine ⟨fun pins s σ H Q I h => q.run pins s σ H Q I ?_⟩
  have e : tCall sp [] E0 tNil = tCal sp tNil := by funext σ H Q; unfold tCall tCal; simp only [List.append_nil]
  rw [e]
  exact h
section
variable {K : PySem.W.Frag} {mg : Str → Option Value} {base : Heap} {P : Program} {w : World}
theorem sc43 : FnScope ["_law_found"] [] (defScope (topS 43)) := ⟨rfl, rfl, rfl, by decide +kernel, rfl, by decide +kernel, by decide +kernel⟩
theorem ok43 {f : Addr} {fd : FuncData} (F : Fun K "_law_points" "_law_points" (topS 43) f fd) : FnOk P w K mg base CX0 1 f fd [] (spPoints K w) := by
  refine F.ok sc43 (fun vs H Q E h => ?_) (fun cdv A outer s H vs Q E hr h => ?_)
  · obtain ⟨rfl, _⟩ := h
    rfl
  · refine ⟨_, pss_cons (ps_set (i := 0) sc43.nd rfl (Or.inl rfl) (pe_lst (pa_cons pe_str (pa_cons pe_str (pa_cons pe_str (pa_cons pe_str (pa_cons pe_str (pa_cons (pe_tup (pa_cons pe_str (pa_cons pe_str (pa_cons pe_int pa_nil)))) (pa_cons (pe_tup (pa_cons pe_str (pa_cons pe_str (pa_cons pe_int pa_nil)))) (pa_cons pe_str pa_nil))))))))))
      (pss_one (ps_ret (pe_op op_cat (pv 0) (pe_lst (pa_cons (pe_tup (pa_cons pe_str (pa_cons pe_str (pa_cons (pe_un un_neg pe_int) pa_nil)))) (pa_cons pe_str (pa_cons (pe_tup (pa_cons pe_str (pa_cons pe_str (pa_cons pe_int pa_nil)))) pa_nil))))))), ?_⟩
    obtain ⟨rfl, q⟩ := h
    have sl : sizeLine = 16777216 := sizeLine_eq
    have len : ∀ {n : Nat}, n ≤ 1000 → n ≤ sizeLine := fun h => by rw [sl]; omega
    refine ⟨len (by simp), fun t1 h1 => ⟨len (by simp), fun t2 h2 => ⟨len (by simp), fun p1 hp1 => ?_⟩⟩⟩
    have s1 := same_new (o := .tup [.str "a", .str "i", .int 0]) h1
    have s2 := same_new (o := .tup [.str "a", .str "", .int 2]) h2
    have s3 := same_new (o := .lst [.str "", .str "i", .str "j", .str "n", .str "*2", .ref t1, .ref t2, .str "*10"]) hp1
    have k1 : SqT K _ t1 _ := Tups.same (s2.trans s3) _ _ (.inl (.inl (upd_same (H := H) (o := .tup [.str "a", .str "i", .int 0]))))
    have k2 : SqT K _ t2 _ := Tups.same s3 _ _ (.inl (.inl (upd_same (o := .tup [.str "a", .str "", .int 2]))))
    have l1 : (upd (upd (upd H t1 (.tup [.str "a", .str "i", .int 0])) t2 (.tup [.str "a", .str "", .int 2])) p1 (.lst [.str "", .str "i", .str "j", .str "n", .str "*2", .ref t1, .ref t2, .str "*10"])) p1 = some (.lst [.str "", .str "i", .str "j", .str "n", .str "*2", .ref t1, .ref t2, .str "*10"]) := upd_same
    have sa := (s1.trans s2).trans s3
    generalize (upd (upd (upd H t1 (.tup [.str "a", .str "i", .int 0])) t2 (.tup [.str "a", .str "", .int 2])) p1 (.lst [.str "", .str "i", .str "j", .str "n", .str "*2", .ref t1, .ref t2, .str "*10"])) = H3 at *
    refine ⟨_, rfl, 1, rfl, len (by simp), fun t3 h3 => ⟨len (by simp), fun t4 h4 => ⟨len (by simp), fun p2 hp2 => ?_⟩⟩⟩
    have s4 := same_new (o := .tup [.str "a", .str "i", .int (-1)]) h3
    have s5 := same_new (o := .tup [.str "b", .str "", .int 0]) h4
    have s6 := same_new (o := .lst [.ref t3, .str "*1", .ref t4]) hp2
    have k3 : SqT K _ t3 _ := Tups.same (s5.trans s6) _ _ (.inl (.inl (upd_same (H := H3) (o := .tup [.str "a", .str "i", .int (-1)]))))
    have k4 : SqT K _ t4 _ := Tups.same s6 _ _ (.inl (.inl (upd_same (o := .tup [.str "b", .str "", .int 0]))))
    have l2 : (upd (upd (upd H3 t3 (.tup [.str "a", .str "i", .int (-1)])) t4 (.tup [.str "b", .str "", .int 0])) p2 (.lst [.ref t3, .str "*1", .ref t4])) p2 = some (.lst [.ref t3, .str "*1", .ref t4]) := upd_same
    have sb := (s4.trans s5).trans s6
    have k1 := Tups.same sb _ _ k1
    have k2 := Tups.same sb _ _ k2
    have l1 := sb _ _ l1
    generalize (upd (upd (upd H3 t3 (.tup [.str "a", .str "i", .int (-1)])) t4 (.tup [.str "b", .str "", .int 0])) p2 (.lst [.ref t3, .str "*1", .ref t4])) = H6 at *
    refine ⟨p1, p2, _, _, rfl, rfl, l1, l2, len (by simp), fun p hp => ?_⟩
    have s7 := same_new (o := .lst ([.str "", .str "i", .str "j", .str "n", .str "*2", .ref t1, .ref t2, .str "*10"] ++ [.ref t3, .str "*1", .ref t4])) hp
    exact q _ p t1 t2 t3 t4 ((sa.trans sb).trans s7) ((sa.trans sb).free hp) upd_same (Tups.same s7 _ _ k1) (Tups.same s7 _ _ k2) (Tups.same s7 _ _ k3) (Tups.same s7 _ _ k4)
end
end Fc
namespace Fc
open PySem L2 PyProof.Rows
section
variable {K : PySem.W.Frag} {mg : Str → Option Value} {base : Heap} {P : Program} {w : World}
abbrev n44 : List Str := ["_law_dice_here", "_law_points_here", "_law_found", "_law_times", "_law_turn", "_law_more"]
theorem sc44 : FnScope n44 ["_law_dice_here"] (defScope (topS 44)) := ⟨rfl, rfl, rfl, by decide +kernel, rfl, by decide +kernel, by decide +kernel⟩
theorem mul57 {m t : Int} (hm : m = 0 ∨ m = 1 ∨ m = -1 ∨ m = 2 ∨ m = -2 ∨ m = 5 ∨ m = -7) (ht : t = 1 ∨ t = M57) : (-(2 ^ 64) < m ∧ m < 2 ^ 64) ∧ (-(7 * M57) ≤ m * t ∧ m * t ≤ 7 * M57) := by
  have h57 : (1 : Int) ≤ M57 := by unfold M57; decide +kernel
  rcases hm with rfl | rfl | rfl | rfl | rfl | rfl | rfl <;> rcases ht with rfl | rfl <;> refine ⟨⟨by decide, by decide⟩, ?_, ?_⟩ <;> omega
theorem ok44 {f : Addr} {fd : FuncData} (F : Fun K "_law_rows" "_law_rows" (topS 44) f fd) (B : Blt mg) (c28 : Cal P w K mg base 1 "_law_roll" (spRoll K w)) (c29 : Cal P w K mg base 2 "_law_pick" (spPick K w)) (c43 : Cal P w K mg base 1 "_law_points" (spPoints K w)) : FnOk P w K mg base CX0 3 f fd ["_law_dice_here"] (spRows K w) := by
  refine F.ok sc44 (fun vs H Q E h => ?_) (fun cdv A outer s H vs Q E hr h => ?_)
  · obtain ⟨D, rfl, _⟩ := h
    rfl
  · refine ⟨_, pss_cons (ps_par3 (i := 1) (j := 2) (l := 3) rfl sc44.nd rfl rfl rfl (by decide) (by decide) (by decide) rfl rfl rfl (pa_cons (pe_slice sl_list (pe_c0 c43 hr (by decide) (by rfl)) po_none
          (po_some (pe_c c29 hr (by decide) (by rfl) (pa_cons (pv 0) (pa_cons (pe_lst (pa_cons pe_int (pa_cons pe_int (pa_cons pe_int (pa_cons pe_int pa_nil))))) pa_nil))))) (pa_cons (pe_lst pa_nil)
          (pa_cons (pe_c c29 hr (by decide) (by rfl) (pa_cons (pv 0) (pa_cons (pe_lst (pa_cons pe_int (pa_cons pe_int (pa_cons pe_int (pa_cons (pe_op op_pow pe_int pe_int) pa_nil))))) pa_nil))) pa_nil))) (by rfl))
      (pss_cons (ps_for PassesOwn.never rfl (pi_range1 (by rfl) B.range (pa_cons (pe_c c28 hr (by decide) (by rfl) (pa_cons (pv 0) (pa_cons pe_int pa_nil))) pa_nil)) (pg_name (i := 4) sc44.nd rfl (Or.inl rfl))
        (pss_cons (ps_set (i := 5) sc44.nd rfl (Or.inl rfl) (pe_c c29 hr (by decide) (by rfl) (pa_cons (pv 0) (pa_cons (pe_lst (pa_cons pe_int (pa_cons pe_int (pa_cons pe_int (pa_cons (pe_un un_neg pe_int) (pa_cons pe_int (pa_cons (pe_un un_neg pe_int) (pa_cons pe_int (pa_cons (pe_un un_neg pe_int) pa_nil))))))))) pa_nil))))
        (pss_one (ps_expr (pe_bm PySem.F.plainAttrs_list PySem.F.slot_list_append PySem.F.type_list_append mt_append (pv 2) (pa_cons (pe_tup (pa_cons (pe_c c29 hr (by decide) (by rfl) (pa_cons (pv 0) (pa_cons (pv 1) pa_nil))) (pa_cons (pe_c c29 hr (by decide) (by rfl) (pa_cons (pv 0) (pa_cons (pv 1) pa_nil)))
          (pa_cons (pe_op op_mul (pv 5) (pv 3)) pa_nil)))) pa_nil))))))
      (pss_one (ps_ret (pe_callTy call_tuple_of (by rfl) B.tuple boot_tuple (pa_cons (pv 2) pa_nil))))), ?_⟩
    obtain ⟨D, rfl, hD, q⟩ := h
    have hDn : H D ≠ none := by obtain ⟨x, y, z, e⟩ := hD; rw [e]; exact fun z => nomatch z
    have sl : sizeLine = 16777216 := sizeLine_eq
    have len : ∀ {n : Nat}, n ≤ 1000 → n ≤ sizeLine := fun h => by rw [sl]; omega
    refine ⟨rfl, fun H0 p0 t1 t2 t3 t4 sa hp0 hl0 k1 k2 k3 k4 => ?_⟩
    obtain ⟨x, y, z, eD⟩ := hD
    refine ⟨_, rfl, len (by simp), fun p3 h3 => ?_⟩
    have s3 := same_new (o := .lst [.int 3, .int 4, .int 8, .int 11]) h3
    have n3 : p3 ≠ D := fun e => hDn (sa.free (e ▸ h3))
    have n0 : p0 ≠ D := fun e => by subst e; rw [eD] at hp0; cases hp0
    refine ⟨D, p3, [.int 3, .int 4, .int 8, .int 11], x, y, z, rfl, .inl (.inl upd_same), n3, by simp, by simp, s3 _ _ (sa _ _ eD), fun v x' y' z' hv => ?_⟩
    have b4 : But D H (upd (upd H0 p3 (.lst [.int 3, .int 4, .int 8, .int 11])) D (dicL x' y' z')) := (((But.refl D H).same sa).same s3).upd
    have d4 : DiceIn (upd (upd H0 p3 (.lst [.int 3, .int 4, .int 8, .int 11])) D (dicL x' y' z')) D := ⟨_, _, _, upd_same⟩
    have tt : Tups K H0 (upd (upd H0 p3 (.lst [.int 3, .int 4, .int 8, .int 11])) D (dicL x' y' z')) := (Tups.same s3).trans (Tups.upd fun u e => by rw [s3 _ _ (sa _ _ eD)] at e; cases e; exact True.intro)
    have l4 : (upd (upd H0 p3 (.lst [.int 3, .int 4, .int 8, .int 11])) D (dicL x' y' z')) p0 = some (.lst (p11 t1 t2 t3 t4)) := by rw [upd_ne n0]; exact s3 _ _ hl0
    have k1 := tt _ _ k1
    have k2 := tt _ _ k2
    have k3 := tt _ _ k3
    have k4 := tt _ _ k4
    generalize (upd (upd H0 p3 (.lst [.int 3, .int 4, .int 8, .int 11])) D (dicL x' y' z')) = H4 at *
    have all : ∀ y ∈ p11 t1 t2 t3 t4, ∃ k ∈ pts11, KdV K H4 k y := fun y hy => by
      simp only [p11, List.mem_cons, List.not_mem_nil, or_false] at hy
      rcases hy with e | e | e | e | e | e | e | e | e | e | e
      · exact ⟨.w "", by simp [pts11], e⟩
      · exact ⟨.w "i", by simp [pts11], e⟩
      · exact ⟨.w "j", by simp [pts11], e⟩
      · exact ⟨.w "n", by simp [pts11], e⟩
      · exact ⟨.w "*2", by simp [pts11], e⟩
      · exact ⟨.c "a" "i" 0, by simp [pts11], t1, e, k1⟩
      · exact ⟨.c "a" "" 2, by simp [pts11], t2, e, k2⟩
      · exact ⟨.w "*10", by simp [pts11], e⟩
      · exact ⟨.c "a" "i" (-1), by simp [pts11], t3, e, k3⟩
      · exact ⟨.w "*1", by simp [pts11], e⟩
      · exact ⟨.c "b" "" 0, by simp [pts11], t4, e, k4⟩
    obtain ⟨i, ei, ys, ey, ny, ly, iy⟩ : ∃ i, v = .int i ∧ ∃ ys, cutV (p11 t1 t2 t3 t4) none (some i) = ys ∧ ys ≠ [] ∧ ys.length < 1000 ∧ ∀ y ∈ ys, y ∈ p11 t1 t2 t3 t4 := by
      have sub : ∀ n : Nat, ∀ y ∈ (p11 t1 t2 t3 t4).take n, y ∈ p11 t1 t2 t3 t4 := fun n y hy => List.mem_of_mem_take hy
      simp only [List.mem_cons, List.not_mem_nil, or_false] at hv
      rcases hv with e | e | e | e
      · exact ⟨3, e, (p11 t1 t2 t3 t4).take 3, rfl, by simp, by simp, sub 3⟩
      · exact ⟨4, e, (p11 t1 t2 t3 t4).take 4, rfl, by simp, by simp, sub 4⟩
      · exact ⟨8, e, (p11 t1 t2 t3 t4).take 8, rfl, by simp, by simp, sub 8⟩
      · exact ⟨11, e, (p11 t1 t2 t3 t4).take 11, rfl, by simp, by simp, sub 11⟩
    subst ei
    refine ⟨i, rfl, p0, _, rfl, .inl (.inl l4), fun p1 hp1 => ?_⟩
    rw [ey]
    refine ⟨len (by simp), fun p2 hp2 => ?_⟩
    have s5 := same_new (o := .lst ys) hp1
    have s6 := same_new (o := .lst []) hp2
    have n12 : p1 ≠ p2 := fun e => by subst e; rw [upd_same] at hp2; cases hp2
    have hDn4 : ∀ {b : Addr}, H4 b = none → b ≠ D := fun hb e => by obtain ⟨_, _, _, e4⟩ := d4; rw [e, e4] at hb; cases hb
    have n1 : p1 ≠ D := hDn4 hp1
    have n2 : p2 ≠ D := hDn4 (s5.free hp2)
    have hp2H : H p2 = none := by
      cases e : H p2 with
      | none => rfl
      | some u => rw [(b4.same s5) _ _ n2 e] at hp2; cases hp2
    have I0 : In31 K H D p1 p2 [] (upd (upd H4 p1 (.lst ys)) p2 (.lst [])) := by
      obtain ⟨_, _, _, e4⟩ := d4
      exact ⟨(b4.same s5).same s6, ⟨_, _, _, s6 _ _ (s5 _ _ e4)⟩, ⟨ys, s6 _ _ upd_same, ny, ly, fun y hy => let ⟨k, hk, kv⟩ := all y (iy y hy); ⟨k, hk, kv.mono (.same (s5.trans s6))⟩⟩, ⟨[], upd_same, .nil⟩, n1, n2, n12, fun r hr => nomatch hr⟩
    generalize (upd (upd H4 p1 (.lst ys)) p2 (.lst [])) = H5 at I0
    clear k1 k2 k3 k4 tt l4 all hDn4 hl0 d4 b4 sa s3
    refine ⟨_, rfl, 10, 57, rfl, rfl, ⟨by decide, by decide, by decide⟩, len (by simp), fun p5 h5 => ?_⟩
    have Ib := I0.new (o := .lst [.int 1, .int 1, .int 1, .int (10 ^ Int.toNat 57)]) h5
    have hl5 : (upd H5 p5 (.lst [.int 1, .int 1, .int 1, .int (10 ^ Int.toNat 57)])) p5 = some (.lst [.int 1, .int 1, .int 1, .int (10 ^ Int.toNat 57)]) := upd_same
    have n5 : p5 ≠ D := fun e => by obtain ⟨_, _, _, e9⟩ := I0.dice; rw [e, e9] at h5; cases h5
    obtain ⟨xb, yb, zb, eb⟩ := Ib.dice
    refine ⟨D, p5, _, xb, yb, zb, rfl, .inl (.inl hl5), n5, by simp, by simp, eb, fun vt x' y' z' hvt => ⟨_, _, _, rfl, ?_⟩⟩
    obtain ⟨tm, etm, htm⟩ : ∃ tm, vt = .int tm ∧ (tm = 1 ∨ tm = M57) := by
      simp only [List.mem_cons, List.not_mem_nil, or_false] at hvt
      rcases hvt with e | e | e | e
      · exact ⟨1, e, .inl rfl⟩
      · exact ⟨1, e, .inl rfl⟩
      · exact ⟨1, e, .inl rfl⟩
      · exact ⟨_, e, .inr rfl⟩
    subst etm
    have I0 := Ib.roll x' y' z'
    generalize upd (upd H5 p5 (.lst [.int 1, .int 1, .int 1, .int (10 ^ Int.toNat 57)])) D (dicL x' y' z') = H5 at I0
    obtain ⟨x5, y5, z5, e5⟩ := I0.dice
    refine ⟨_, rfl, D, 9, x5, y5, z5, rfl, by decide, by decide, e5, fun r x' y' z' r0 r6 => ?_⟩
    have I1 := I0.roll x' y' z'
    generalize upd H5 D (dicL x' y' z') = H6 at I1
    refine ⟨_, rfl, by omega, by omega, ?_⟩
    obtain ⟨n, hn⟩ : ∃ n, r.toNat = n := ⟨_, rfl⟩
    have hn8 : n ≤ 8 := by omega
    rw [hn]
    refine for_steady steady_rng (fun k σ H' => ∃ R z3 z4, σ = [some (.ref D), some (.ref p1), some (.ref p2), some (.int tm), z3, z4] ∧ In31 K H D p1 p2 R H' ∧ R.length = k) ⟨[], _, _, rfl, I1, rfl⟩ (fun _ _ _ _ _ => trivial) ?_ ?_
    · rintro k σ H7 hk ⟨R, z3, z4, rfl, I7, lR⟩
      refine ⟨_, rfl, _, rfl, _, rfl, _, rfl, len (by simp), fun p4 hp4 => ?_⟩
      have IA := I7.new (o := .lst [.int 0, .int 0, .int 1, .int (-1), .int 2, .int (-2), .int 5, .int (-7)]) hp4
      have hl4 : (upd H7 p4 (.lst [.int 0, .int 0, .int 1, .int (-1), .int 2, .int (-2), .int 5, .int (-7)])) p4 = some (.lst [.int 0, .int 0, .int 1, .int (-1), .int 2, .int (-2), .int 5, .int (-7)]) := upd_same
      have n4 : p4 ≠ D := fun e => by obtain ⟨_, _, _, e9⟩ := I7.dice; rw [e, e9] at hp4; cases hp4
      obtain ⟨xA, yA, zA, eA⟩ := IA.dice
      refine ⟨D, p4, _, xA, yA, zA, rfl, .inl (.inl hl4), n4, by simp, by simp, eA, fun v3 xB yB zB hv3 => ?_⟩
      have I7 := IA.roll xB yB zB
      generalize upd (upd H7 p4 (.lst [.int 0, .int 0, .int 1, .int (-1), .int 2, .int (-2), .int 5, .int (-7)])) D (dicL xB yB zB) = H7 at I7
      obtain ⟨m, em, hm⟩ : ∃ m, v3 = .int m ∧ (m = 0 ∨ m = 1 ∨ m = -1 ∨ m = 2 ∨ m = -2 ∨ m = 5 ∨ m = -7) := by
        simp only [List.mem_cons, List.not_mem_nil, or_false] at hv3
        rcases hv3 with e | e | e | e | e | e | e | e <;> exact ⟨_, e, by omega⟩
      subst em
      obtain ⟨⟨m0, m1⟩, m2⟩ := mul57 hm htm
      obtain ⟨ys7, a1, a2, a3, a4⟩ := I7.pts
      obtain ⟨x7, y7, z7, e7⟩ := I7.dice
      obtain ⟨ws7, c1, c2⟩ := I7.rows
      refine ⟨_, rfl, .inl ⟨rfl, _, .inl (.inl c1)⟩, _, rfl, _, rfl, D, p1, ys7, x7, y7, z7, rfl, .inl (.inl a1), I7.n1, a2, a3, e7, fun v1 x8 y8 z8 hv1 => ?_⟩
      obtain ⟨j1, hj1, kv1⟩ := a4 v1 hv1
      have kv1 := kv1.mono (K := K) (I7.dice.tups (o := dicL x8 y8 z8))
      have I8 := I7.roll x8 y8 z8
      generalize upd H7 D (dicL x8 y8 z8) = H8 at I8 kv1
      obtain ⟨ys8, a1, a2, a3, a4⟩ := I8.pts
      obtain ⟨x8, y8, z8, e8⟩ := I8.dice
      refine ⟨_, rfl, _, rfl, D, p1, ys8, x8, y8, z8, rfl, .inl (.inl a1), I8.n1, a2, a3, e8, fun v2 x9 y9 z9 hv2 => ?_⟩
      obtain ⟨j2, hj2, kv2⟩ := a4 v2 hv2
      have kv2 := kv2.mono (K := K) (I8.dice.tups (o := dicL x9 y9 z9))
      have kv1 := kv1.mono (K := K) (I8.dice.tups (o := dicL x9 y9 z9))
      have I9 := I8.roll x9 y9 z9
      generalize upd H8 D (dicL x9 y9 z9) = H9 at I9 kv1 kv2
      refine ⟨_, rfl, _, rfl, _, _, rfl, rfl, .inl ⟨m0, m1⟩, len (by simp), fun q4 hq4 => ?_⟩
      have sC := same_new (o := .tup [v1, v2, .int (m * tm)]) hq4
      have IC := I9.new (o := .tup [v1, v2, .int (m * tm)]) hq4
      have rv : RowV K (upd H9 q4 (.tup [v1, v2, .int (m * tm)])) (j1, j2, m * tm) (.ref q4) := ⟨q4, v1, v2, rfl, .inl (.inl upd_same), kv1.mono (.same sC), kv2.mono (.same sC)⟩
      obtain ⟨wsC, w1, w2⟩ := IC.rows
      have lw := paired_len w2
      exact ⟨p2, wsC, .ref q4, rfl, rfl, w1, by rw [sl, ← lw, lR]; omega, R ++ [(j1, j2, m * tm)], _, _, rfl, IC.push w1 rv ⟨hj1, hj2, m2⟩ hp2H, by rw [List.length_append, lR]; rfl⟩
    · rintro σ H7 ⟨R, z3, z4, rfl, I7, lR⟩
      obtain ⟨ws7, c1, c2⟩ := I7.rows
      refine ⟨_, rfl, p2, ws7, rfl, .inl ⟨.inl (.inl c1), fun l hl => ?_⟩⟩
      have s7 := same_new (o := .tup ws7) hl
      obtain ⟨x7, y7, z7, e7⟩ := I7.dice
      exact q _ l R (I7.but.same s7) ⟨x7, y7, z7, s7 _ _ e7⟩ ⟨ws7, .inl (.inl upd_same), Paired.mapP c2 fun _ _ h => h.mono (.same s7)⟩ ⟨by omega, I7.good⟩
end
end Fc
namespace Fc
open PySem L2 PyProof.Rows
theorem filt_pairG {α β : Type} {l : List α} (a0 : α) {p : α → β → Prop} {c : α → Bool} {ys : List β} (h : Paired (fun k y => p (l.getD k a0) y) ((List.range l.length).filter fun k => c (l.getD k a0)) ys) : Paired p (l.filter c) ys := by
  have e : l.filter c = ((List.range l.length).filter fun k => c (l.getD k a0)).map fun k => l.getD k a0 := by
    have h1 := List.filter_map (f := fun k => l.getD k a0) (p := c) (l := List.range l.length)
    rw [range_getD] at h1
    exact h1
  rw [e]
  generalize (List.range l.length).filter _ = is at h
  induction h with
  | nil => exact .nil
  | cons h _ ih => exact .cons h ih
theorem pair_dp {K : PySem.W.Frag} {H : Hp} {ds : List PyData} {ys : List V} (h : Paired (fun d y => Dp K H y d) ds ys) : DpAll K H ys ds := by
  induction h with
  | nil => exact .nil
  | cons h _ ih => exact .cons h ih
theorem canAll_iff : ∀ ds : List PyData, PyData.canLayAll0 ds = true ↔ ∀ d ∈ ds, PyData.canLay0 d = true
  | [] => by simp [PyData.canLayAll0]
  | d :: ds => by rw [PyData.canLayAll0, Bool.and_eq_true, canAll_iff ds]; simp
theorem depAll_iff (n : Nat) : ∀ ds : List PyData, PyData.depthAll ds ≤ n ↔ ∀ d ∈ ds, PyData.depth d ≤ n
  | [] => by simp [PyData.depthAll]
  | d :: ds => by
    rw [PyData.depthAll]
    have := depAll_iff n ds
    simp only [List.mem_cons, forall_eq_or_imp, ← this]
    omega
theorem shaped_sub {ds es : List PyData} (h : SeqAt.shaped (.tuple ds) = true) (s : ∀ d ∈ es, d ∈ ds) : SeqAt.shaped (.list es) = true := by
  have h1 := SeqAt.canLay_of_shaped h
  have h2 := SeqAt.depth_of_shaped h
  rw [PyData.canLay0, canAll_iff] at h1
  rw [PyData.depth] at h2
  have h3 := (depAll_iff 63 ds).mp (by omega)
  unfold SeqAt.shaped
  rw [PyData.canLay0, (canAll_iff es).mpr fun d hd => h1 d (s d hd), Bool.true_and, decide_eq_true_eq, PyData.depth]
  have := (depAll_iff 63 es).mpr fun d hd => h3 d (s d hd)
  omega
theorem shaped_ints (l : List Int) : SeqAt.shaped (.list (l.map .int)) = true := by
  unfold SeqAt.shaped
  have h1 : PyData.canLayAll0 (l.map .int) = true := (canAll_iff _).mpr fun d hd => by obtain ⟨i, _, e⟩ := List.mem_map.mp hd; rw [← e]; rfl
  have h2 : PyData.depthAll (l.map .int) ≤ 0 := (depAll_iff 0 _).mpr fun d hd => by obtain ⟨i, _, e⟩ := List.mem_map.mp hd; rw [← e]; simp [PyData.depth]
  rw [PyData.canLay0, h1, Bool.true_and, decide_eq_true_eq, PyData.depth]
  omega
theorem shaped_nil : SeqAt.shaped (.list []) = true := by decide +kernel
theorem shaped_tnil : SeqAt.shaped (.tuple []) = true := by decide +kernel
theorem eqv_nil (l : List PyData) : PyData.eqv (.list l) (.list []) = l.isEmpty := by cases l <;> simp [PyData.eqv, PyData.eqvAll]
theorem eqv_tnil (l : List PyData) : PyData.eqv (.tuple l) (.tuple []) = l.isEmpty := by cases l <;> simp [PyData.eqv, PyData.eqvAll]
theorem filter_empty {α : Type} (l : List α) (c : α → Bool) : (l.filter c).isEmpty = l.all fun x => !c x := by
  induction l with
  | nil => rfl
  | cons a l ih =>
    rw [List.filter_cons, List.all_cons]
    cases c a with
    | true => simp
    | false => simpa using ih
/-- the links one by one, from here on or from the one ahead -/
theorem links_turn (R : List Row) : ((List.range R.length).all fun k => eqK (rowN R k).2.1 (rowN R ((k + 1) % R.length)).1) = (List.range R.length).all (linkB R) := by
  rw [Bool.eq_iff_iff, List.all_eq_true, List.all_eq_true]
  constructor
  · intro h k hk
    rw [List.mem_range] at hk
    have h1 := h (prevI R.length k) (List.mem_range.mpr (prevI_lt hk))
    have e : (prevI R.length k + 1) % R.length = k := by
      unfold prevI
      by_cases c : k = 0
      · subst c
        rw [if_pos rfl, Nat.sub_add_cancel (by omega), Nat.mod_self]
      · rw [if_neg c, Nat.sub_add_cancel (by omega), Nat.mod_eq_of_lt hk]
    rw [e] at h1
    exact h1
  · intro h k hk
    rw [List.mem_range] at hk
    have hm : (k + 1) % R.length < R.length := Nat.mod_lt _ (by omega)
    have h1 := h ((k + 1) % R.length) (List.mem_range.mpr hm)
    unfold linkB at h1
    have e : prevI R.length ((k + 1) % R.length) = k := by
      unfold prevI
      by_cases c : k + 1 = R.length
      · rw [c, Nat.mod_self, if_pos rfl]; omega
      · rw [Nat.mod_eq_of_lt (by omega), if_neg (by omega)]; omega
    rw [e] at h1
    exact h1
/-- tuples hold what never changes -/
def flatT : PyData → Prop
  | .tuple ds => tupDs ds = true
  | _ => True
theorem pair_map {α β : Type} {f : α → β} {l : List α} {ys : List β} (h : Paired (fun k y => y = f k) l ys) : ys = l.map f := by
  induction h with
  | nil => rfl
  | cons h _ ih => rw [h, ih]; rfl
theorem pair_via {α β γ : Type} {f : α → γ} {p : γ → β → Prop} {l : List α} {ys : List β} (h : Paired (fun k y => p (f k) y) l ys) : Paired p (l.map f) ys := by
  induction h with
  | nil => exact .nil
  | cons h _ ih => exact .cons h ih
theorem filter_yes {α : Type} (l : List α) : l.filter (fun _ => true) = l := List.filter_eq_self.mpr fun _ _ => rfl
theorem chosen_eq {R : List Row} (ds : List PyData) : ds.map (fun e => rowN R (idxD e)) = (List.range ds.length).map fun k => rowN R (idxD (ds.getD k .none)) := by
  refine List.ext_getElem (by simp) fun k h1 h2 => ?_
  rw [List.getElem_map, List.getElem_map, List.getElem_range, List.getD_eq_getElem?_getD, List.getElem?_eq_getElem (by simpa using h1)]
  rfl
abbrev rLenS (K : PySem.W.Frag) : List V → Hp → VK → Prop := fun xs H Q => ∃ p ys, xs = [.ref p] ∧ (SqL K H p ys ∨ SqT K H p ys) ∧ Q (.int ys.length) H
end Fc
namespace Fc
open PySem L2 PyProof.Rows
theorem eqK_nk {a b : Kd} (ha : isPtK a = true) (hb : isPtK b = true) : eqK a b = decide (nk a = nk b) := by
  by_cases e : nk a = nk b
  · rw [decide_eq_true e]
    have e2 : a = b := by
      cases a <;> first | (cases ha; done) | skip
      · cases b <;> first | (cases hb; done) | skip
        · injection e with e; rw [e]
        · cases e
      · cases b <;> first | (cases hb; done) | skip
        · cases e
        · injection e with e; injection e with e1 e; injection e with e2 e; injection e with e3 e
          injection e1 with e1; injection e2 with e2; injection e3 with e3
          rw [e1, e2, e3]
    rw [e2]
    exact eqv_self
  · rw [decide_eq_false e]
    cases h : eqK a b with
    | false => rfl
    | true => exact absurd (congrArg nk (eqv_pt ha hb h)) e
/-- what the law adds for a row -/
def moreK (a b : Kd) : List Kd := [a] ++ (if eqK b a = true then [] else [b])
theorem more_add {l : List Kd} {a b : Kd} (hl : ∀ p ∈ l, isPtK p = true) (ha : isPtK a = true) (hb : isPtK b = true) : l ++ (moreK a b).filter (fun k => !memP k l) = addK (addK l a) b := by
  have mem : ∀ k, isPtK k = true → memP k l = decide (∃ e ∈ l, nk e = nk k) := fun k hk => by
    rw [Bool.eq_iff_iff, decide_eq_true_eq]
    unfold memP
    rw [List.any_eq_true]
    constructor
    · rintro ⟨p, hp, e⟩
      have h1 := eqK_nk (hl p hp) hk
      unfold eqK at h1
      rw [e] at h1
      exact ⟨p, hp, of_decide_eq_true h1.symm⟩
    · rintro ⟨p, hp, e⟩
      have h1 := eqK_nk (hl p hp) hk
      unfold eqK at h1
      rw [decide_eq_true e] at h1
      exact ⟨p, hp, h1⟩
  have hab := eqK_nk hb ha
  unfold moreK
  by_cases c1 : ∃ e ∈ l, nk e = nk a
  · have e1 : addK l a = l := by unfold addK; rw [if_pos c1]
    have m1 : memP a l = true := by rw [mem a ha]; exact decide_eq_true c1
    rw [e1]
    by_cases c2 : nk b = nk a
    · rw [hab, decide_eq_true c2]
      have e2 : addK l b = l := by unfold addK; rw [if_pos (by rw [c2]; exact c1)]
      rw [e2]
      simp [m1]
    · rw [hab, decide_eq_false c2]
      by_cases c3 : ∃ e ∈ l, nk e = nk b
      · have m2 : memP b l = true := by rw [mem b hb]; exact decide_eq_true c3
        have e2 : addK l b = l := by unfold addK; rw [if_pos c3]
        rw [e2]
        simp [m1, m2]
      · have m2 : memP b l = false := by rw [mem b hb]; exact decide_eq_false c3
        have e2 : addK l b = l ++ [b] := by unfold addK; rw [if_neg c3]
        rw [e2]
        simp [m1, m2]
  · have e1 : addK l a = l ++ [a] := by unfold addK; rw [if_neg c1]
    have m1 : memP a l = false := by rw [mem a ha]; exact decide_eq_false c1
    rw [e1]
    by_cases c2 : nk b = nk a
    · rw [hab, decide_eq_true c2]
      have e2 : addK (l ++ [a]) b = l ++ [a] := by unfold addK; rw [if_pos ⟨a, by simp, c2.symm⟩]
      rw [e2]
      simp [m1]
    · rw [hab, decide_eq_false c2]
      by_cases c3 : ∃ e ∈ l, nk e = nk b
      · have m2 : memP b l = true := by rw [mem b hb]; exact decide_eq_true c3
        have e2 : addK (l ++ [a]) b = l ++ [a] := by
          obtain ⟨x, hx, ex⟩ := c3
          unfold addK
          rw [if_pos ⟨x, List.mem_append_left _ hx, ex⟩]
        rw [e2]
        simp [m1, m2]
      · have m2 : memP b l = false := by rw [mem b hb]; exact decide_eq_false c3
        have e2 : addK (l ++ [a]) b = l ++ [a] ++ [b] := by
          unfold addK
          rw [if_neg]
          rintro ⟨x, hx, ex⟩
          rcases List.mem_append.mp hx with z | z
          · exact c3 ⟨x, z, ex⟩
          · rw [List.mem_singleton] at z
            subst z
            exact c2 ex.symm
        rw [e2]
        simp [m1, m2]
end Fc
namespace Fc
open PySem L2 PyProof.Rows
def spEnds (K : PySem.W.Frag) (w : World) : Sp := fun vs H Q _ => ∃ t R, vs = [.ref t] ∧ RowsT K H R t ∧ RowsOk R ∧ ∀ H' p, Same H H' → H p = none → KeysL K H' p (ptsOf R) → Q (.ref p) H'
section
variable {K : PySem.W.Frag} {mg : Str → Option Value} {base : Heap} {P : Program} {w : World}
abbrev n45 : List Str := ["_law_rows_here", "_law_found", "_law_one", "_law_other", "_law_most", "_law_point"]
theorem sc45 : FnScope n45 ["_law_rows_here"] (defScope (topS 45)) := ⟨rfl, rfl, rfl, by decide +kernel, rfl, by decide +kernel, by decide +kernel⟩
theorem ok45 {f : Addr} {fd : FuncData} (F : Fun K "_law_ends" "_law_ends" (topS 45) f fd) (B : Blt mg) : FnOk P w K mg base CX0 1 f fd ["_law_rows_here"] (spEnds K w) := by
  refine F.ok sc45 (fun vs H Q E h => ?_) (fun cdv A outer s H vs Q E hr h => ?_)
  · obtain ⟨t, R, rfl, _⟩ := h
    rfl
  · have hu := hu70 hr
    refine ⟨_, pss_cons (ps_set (i := 1) sc45.nd rfl (Or.inr rfl) (pe_lst (pa_cons pe_str pa_nil)))
      (pss_cons (ps_for PassesOwn.never rfl (pi_tup (pv 0)) (pg_tup rfl (pgs_cons (pg_name (i := 2) sc45.nd rfl (Or.inl rfl)) (pgs_cons (pg_name (i := 3) sc45.nd rfl (Or.inl rfl)) (pgs_cons (pg_name (i := 4) sc45.nd rfl (Or.inl rfl)) pgs_nil))))
        (pss_one (ps_set (i := 1) sc45.nd rfl (Or.inr rfl) (pe_op op_cat (pv 1) (pe_lc (own := [("_law_point", 5)]) (g := gName 5) (by rfl) sc45.nd (pi_list (pe_op op_cat (pe_lst (pa_cons (pv 2) pa_nil)) (pe_op op_rep (pe_lst (pa_cons (pv 3) pa_nil)) (pe_callTy call_int1 (by rfl) B.int boot_int (pa_cons (pe_cmpR (op_neD (hu64 hu)) (pv 3) (pv 2) (nomark _)) pa_nil)))))
            (blkOk_by (N := n45) (sc := defScope (topS 45)) (by decide +kernel)) (fun _ _ _ _ _ => pg_name (i := 5) sc45.nd rfl (Or.inl rfl)) (fun _ _ _ _ _ => pts_one (pt_cmpR (r := rNotInD K) (op_notInD (hu65 hu)) (pv 5) (pv 1) rfl)) (fun _ _ _ _ _ => pv 5))))))
      (pss_one (ps_ret (pv 1)))), ?_⟩
    obtain ⟨t, R, rfl, ⟨vs, st, pr⟩, ro, q⟩ := h
    have sl : sizeLine = 16777216 := sizeLine_eq
    have hl := ro.len
    have lv := paired_len pr
    have len1 : 1 ≤ sizeLine := by rw [sl]; decide
    refine ⟨len1, fun p1 hp1 => ?_⟩
    have s1 := same_new (o := .lst [.str ""]) hp1
    refine ⟨_, rfl, t, rfl, ⟨vs, Tups.same s1 _ _ st⟩, ?_⟩
    refine for_steady steady_tup (fun i σ H' => Same H H' ∧ ∃ pl ys z3 z4 z5 z6, σ = [some (.ref t), some (.ref pl), z3, z4, z5, z6] ∧ H pl = none ∧ H' pl = some (.lst ys) ∧ Paired (KdV K H') (ptsOf (R.take i)) ys) ⟨s1, p1, _, _, _, _, _, rfl, hp1, upd_same, .cons rfl .nil⟩ (fun _ _ _ _ h => Tups.same h.1 _ _ st) ?_ ?_
    · rintro i σ H2 hi ⟨s2, pl, ys, z3, z4, z5, z6, rfl, hpl, hys, py⟩
      have hi' : i < R.length := by omega
      obtain ⟨u, x, y, eu, su, kx, ky⟩ := (paired_getD pr (a0 := (.no, .no, 0)) (b0 := .non) hi').mono (Tups.same s2)
      rw [eu]
      have rk := ro.ok _ (rowN_mem hi')
      have rs := ro.sh _ (rowN_mem hi')
      obtain ⟨pa, pb⟩ := okRow_pt rk
      have ptl : ∀ p ∈ ptsOf (R.take i), isPtK p = true ∧ shK p = true := pts_ind (Pr := fun p => isPtK p = true ∧ shK p = true) _ ⟨isPt0, sh0⟩ fun r hr => have hr' := List.mem_of_mem_take hr; ⟨⟨(okRow_pt (ro.ok r hr')).1, (ro.sh r hr').1⟩, (okRow_pt (ro.ok r hr')).2, (ro.sh r hr').2⟩
      have lpt := len_pts (R.take i)
      rw [List.length_take] at lpt
      refine ⟨u, _, rfl, su, rfl, _, _, rfl, _, _, rfl, _, _, rfl, rfl, ?_⟩
      refine ⟨_, rfl, _, rfl, len1, fun q1 h1 => ⟨_, rfl, len1, fun q2 h2 => ⟨_, rfl, _, rfl, ?_⟩⟩⟩
      have sA := (same_new (o := .lst [x]) h1).trans (same_new (o := .lst [y]) h2)
      have e1 : (upd (upd H2 q1 (.lst [x])) q2 (.lst [y])) q1 = some (.lst [x]) := same_new h2 _ _ upd_same
      have e2 : (upd (upd H2 q1 (.lst [x])) q2 (.lst [y])) q2 = some (.lst [y]) := upd_same
      generalize upd (upd H2 q1 (.lst [x])) q2 (.lst [y]) = H3 at *
      have kx3 := kx.mono (K := K) (.same sA)
      have ky3 := ky.mono (K := K) (.same sA)
      refine ky3.dq kx3 rs.2 rs.1 (.inr ⟨_, rfl, q2, _, [y], rfl, rfl, e2, ?_, ?_, ?_, fun q3 h3 => ?_⟩)
      · cases eqK (rowN R i).2.1 (rowN R i).1 <;> decide
      · cases eqK (rowN R i).2.1 (rowN R i).1 <;> decide
      · cases eqK (rowN R i).2.1 (rowN R i).1 <;> (rw [sl]; simp)
      obtain ⟨mv, emv⟩ : ∃ mv, mv = (List.replicate (if (!eqK (rowN R i).2.1 (rowN R i).1) = true then 1 else 0 : Int).toNat [y]).flatten := ⟨_, rfl⟩
      rw [← emv]
      have mk3 : Paired (KdV K H3) (moreK (rowN R i).1 (rowN R i).2.1) ([x] ++ mv) := by
        unfold moreK
        rw [emv]
        cases eqK (rowN R i).2.1 (rowN R i).1 with
        | true => exact .cons kx3 .nil
        | false => exact .cons kx3 (.cons ky3 .nil)
      have lmv : mv.length ≤ 1 := by
        have h := paired_len mk3
        have h2 : (moreK (rowN R i).1 (rowN R i).2.1).length ≤ 2 := by
          unfold moreK
          cases eqK (rowN R i).2.1 (rowN R i).1 <;> simp
        rw [List.length_append] at h
        simp only [List.length_cons, List.length_nil] at h
        omega
      have sB := same_new (o := .lst mv) h3
      refine ⟨q1, q3, [x], mv, rfl, rfl, sB _ _ e1, upd_same, by simp only [List.length_cons, List.length_nil]; rw [sl]; omega, fun q4 h4 => ?_⟩
      have sC := same_new (o := .lst ([x] ++ mv)) h4
      refine ⟨q4, rfl, ⟨_, .inl (.inl upd_same)⟩, fun D hD => ?_⟩
      have e4 : (upd (upd H3 q3 (.lst mv)) q4 (.lst ([x] ++ mv))) q4 = some (.lst ([x] ++ mv)) := upd_same
      have sD := (sA.trans sB).trans sC
      have mk4 : Paired (KdV K (upd (upd H3 q3 (.lst mv)) q4 (.lst ([x] ++ mv)))) (moreK (rowN R i).1 (rowN R i).2.1) ([x] ++ mv) := Paired.mapP mk3 fun _ _ h => h.mono (.same (sB.trans sC))
      generalize upd (upd H3 q3 (.lst mv)) q4 (.lst ([x] ++ mv)) = H4 at *
      clear sA sB sC e1 e2 mk3 h1 h2 h3 h4 kx3 ky3
      generalize ([x] ++ mv) = mvs at *
      have lm := paired_len mk4
      have shm : ∀ k ∈ moreK (rowN R i).1 (rowN R i).2.1, isPtK k = true ∧ shK k = true := fun k hk => by
        unfold moreK at hk
        rcases List.mem_append.mp hk with z | z
        · rw [List.mem_singleton.mp z]; exact ⟨pa, rs.1⟩
        · cases c : eqK (rowN R i).2.1 (rowN R i).1 with
          | true => rw [c] at z; cases z
          | false => rw [c] at z; rw [List.mem_singleton.mp z]; exact ⟨pb, rs.2⟩
      have py4 : Paired (KdV K H4) (ptsOf (R.take i)) ys := Paired.mapP py fun _ _ h => h.mono (.same sD)
      have S := steady_list (K := K) (a := q4) (xs := mvs)
      rw [← lm] at S
      have hmore := more_add (fun p hp => (ptl p hp).1) pa pb
      have lmo : (moreK (rowN R i).1 (rowN R i).2.1).length ≤ 2 := by
        unfold moreK
        cases eqK (rowN R i).2.1 (rowN R i).1 <;> simp
      generalize moreK (rowN R i).1 (rowN R i).2.1 = mo at *
      refine lc_gen (K := K) (b := fun k => !memP (mo.getD k .no) (ptsOf (R.take i))) (fun H k y => KdV K H (mo.getD k .no) y) S (fun _ _ _ _ t h => h.mono t) (fun H2 s => .inl (.inl (s _ _ e4))) (by exact (by decide : 5 < 6)) (by omega) hD (fun k H5 Q hk s5 q => ?_) (fun k H5 Q hk _ s5 q => ⟨_, rfl, q H5 _ (Same.refl _) ((paired_getD mk4 (a0 := .no) (b0 := .non) hk).mono (.same s5))⟩) fun H5 ys5 s5 hy5 pp5 => ?_
      · have kk := (paired_getD mk4 (a0 := .no) (b0 := .non) hk).mono (K := K) (.same s5)
        have py5 : Paired (KdV K H5) (ptsOf (R.take i)) ys := Paired.mapP py4 fun _ _ h => h.mono (.same s5)
        refine ⟨_, rfl, _, rfl, pd (mo.getD k .no), (ptsOf (R.take i)).map pd, kk.dp, .lst (.inl (.inl (s5 _ _ (sD _ _ hys)))) (pts_dp py5), (shm _ (getD_mem hk)).2, shaped_pts fun p hp => (ptl p hp).2, _, rfl, ?_⟩
        have em : ((ptsOf (R.take i)).map pd).any (fun z => PyData.eqv z (pd (mo.getD k .no))) = memP (mo.getD k .no) (ptsOf (R.take i)) := by rw [List.any_map]; rfl
        rw [em]
        exact q
      · have pf := filt_pairG (c := fun k => !memP k (ptsOf (R.take i))) (p := KdV K H5) (.no : Kd) pp5
        have py5 : Paired (KdV K H5) (ptsOf (R.take i)) ys := Paired.mapP py4 fun _ _ h => h.mono (.same s5)
        have l5 := paired_len pf
        have lys := paired_len py5
        have lf := List.length_filter_le (fun k => !memP k (ptsOf (R.take i))) mo
        refine ⟨pl, D, ys, ys5, rfl, rfl, s5 _ _ (sD _ _ hys), hy5, by rw [sl]; omega, fun p6 h6 => ?_⟩
        have s6 := same_new (o := .lst (ys ++ ys5)) h6
        refine ⟨((s2.trans sD).trans s5).trans s6, p6, ys ++ ys5, _, _, _, _, rfl, ((s2.trans sD).trans s5).free h6, upd_same, ?_⟩
        have e : ptsOf (R.take (i + 1)) = ptsOf (R.take i) ++ mo.filter (fun k => !memP k (ptsOf (R.take i))) := by
          rw [hmore, take_snoc (a0 := (.no, .no, 0)) hi']
          unfold ptsOf
          rw [List.foldl_append]
          rfl
        rw [e]
        have app : ∀ {p : Kd → V → Prop} {a b : List Kd} {c d : List V}, Paired p a c → Paired p b d → Paired p (a ++ b) (c ++ d) := by
          intro p a b c d h1 h2
          induction h1 with
          | nil => exact h2
          | cons h _ ih => exact .cons h ih
        exact app (Paired.mapP py5 fun _ _ h => h.mono (.same s6)) (Paired.mapP pf fun _ _ h => h.mono (.same s6))
    · rintro σ H2 ⟨s2, pl, ys, z3, z4, z5, z6, rfl, hpl, hys, py⟩
      rw [List.take_of_length_le (Nat.le_of_eq lv)] at py
      exact ⟨_, rfl, q H2 pl s2 hpl ⟨ys, hys, py⟩⟩
end
end Fc
namespace Fc
open PySem L2 PyProof.Rows
theorem shaped_rows {R : List Row} (h : ∀ r ∈ R, shRow r) : SeqAt.shaped (.list (R.map fun r => .tuple [pd r.1, pd r.2.1, .int r.2.2])) = true := by
  unfold SeqAt.shaped
  have h1 : PyData.canLayAll0 (R.map fun r => .tuple [pd r.1, pd r.2.1, .int r.2.2]) = true := (canAll_iff _).mpr fun d hd => by
    obtain ⟨r, hr, e⟩ := List.mem_map.mp hd
    have h2 := h r hr
    rw [← e, PyData.canLay0, canAll_iff]
    intro x hx
    simp only [List.mem_cons, List.not_mem_nil, or_false] at hx
    rcases hx with z | z | z
    · rw [z]; exact SeqAt.canLay_of_shaped h2.1
    · rw [z]; exact SeqAt.canLay_of_shaped h2.2
    · rw [z]; rfl
  have h2 : PyData.depthAll (R.map fun r => .tuple [pd r.1, pd r.2.1, .int r.2.2]) ≤ 6 := (depAll_iff 6 _).mpr fun d hd => by
    obtain ⟨r, hr, e⟩ := List.mem_map.mp hd
    rw [← e, PyData.depth]
    have := (depAll_iff 5 [pd r.1, pd r.2.1, .int r.2.2]).mpr fun x hx => by
      simp only [List.mem_cons, List.not_mem_nil, or_false] at hx
      rcases hx with z | z | z
      · rw [z]; exact pd_depth _
      · rw [z]; exact pd_depth _
      · rw [z]; simp [PyData.depth]
    omega
  rw [PyData.canLay0, h1, Bool.true_and, decide_eq_true_eq, PyData.depth]
  omega
def spChain (K : PySem.W.Frag) (w : World) : Sp := fun vs H Q _ => ∃ t p R js, vs = [.ref t, .ref p] ∧ RowsT K H R t ∧ RowsOk R ∧ SqT K H p (js.map natV) ∧ js.length ≤ 200 ∧ Fd.RingJ (rws R) js ∧ ∀ H', Same H H' → Q (.bl true) H'
theorem rowN_map (R : List Row) (js : List Nat) {k : Nat} (h : k < js.length) : rowN (js.map (rowN R)) k = rowN R (js.getD k 0) := by
  show (js.map (rowN R)).getD k (.no, .no, 0) = rowN R (js.getD k 0)
  rw [List.getD_eq_getElem?_getD, List.getD_eq_getElem?_getD, List.getElem?_map, List.getElem?_eq_getElem h]
  rfl
section
variable {K : PySem.W.Frag} {mg : Str → Option Value} {base : Heap} {P : Program} {w : World}
abbrev n48 : List Str := ["_law_rows_here", "_law_indices", "_law_chosen", "_law_index", "_law_row", "_law_spot"]
theorem sc48 : FnScope n48 ["_law_rows_here", "_law_indices"] (defScope (topS 48)) := ⟨rfl, rfl, rfl, by decide +kernel, rfl, by decide +kernel, by decide +kernel⟩
theorem ok48 {f : Addr} {fd : FuncData} (F : Fun K "_law_is_chain" "_law_is_chain" (topS 48) f fd) (B : Blt mg) : FnOk P w K mg base CX0 1 f fd ["_law_rows_here", "_law_indices"] (spChain K w) := by
  refine F.ok sc48 (fun vs H Q E h => ?_) (fun cdv A outer s H vs Q E hr h => ?_)
  · obtain ⟨t, p, R, js, rfl, _⟩ := h
    rfl
  · have hu := hu70 hr
    refine ⟨_, pss_cons (ps_set (i := 2) sc48.nd rfl (Or.inr rfl) (pe_lc (own := [("_law_index", 3)]) (g := gName 3) (by rfl) sc48.nd (pi_tup (pv 1)) (blkOk_by (N := n48) (sc := defScope (topS 48)) (by decide +kernel))
          (fun _ _ _ _ _ => pg_name (i := 3) sc48.nd rfl (Or.inl rfl)) (fun _ _ _ _ _ => pts_nil) (fun _ _ _ _ _ => pe_ix (r := rIxT K) ix_tup (pv 0) (pv 3) (fun _ _ => rfl))))
      (pss_cons (ps_if (pw_or (pt_cmpR (op_eqD (hu64 hu)) (pv 2) (pe_lst pa_nil) (nomark _)) (pw_or1 (pt_cmpR op_ge (pe_callB (cr_sum rfl) (by rfl) B.sum boot_sum (pa_cons (pe_lc (own := [("_law_row", 4)]) (g := gName 4) (by rfl) sc48.nd (pi_list (pv 2)) (blkOk_by (N := n48) (sc := defScope (topS 48)) (by decide +kernel))
          (fun _ _ _ _ _ => pg_name (i := 4) sc48.nd rfl (Or.inl rfl)) (fun _ _ _ _ _ => pts_nil) (fun _ _ _ _ _ => pe_ix (r := rIxT K) ix_tup (pv 4) pe_int (fun _ _ => rfl))) pa_nil)) pe_int (nomark _)))).pt (pss_one (ps_ret pe_bl)) pss_nil)
      (pss_one (ps_ret (pe_cmpR (op_eqD (hu64 hu)) (pe_lc (own := [("_law_spot", 5)]) (g := gName 5) (by rfl) sc48.nd (pi_range1 (by rfl) B.range (pa_cons (pe_callB call_len_seq (by rfl) B.len boot_len (pa_cons (pv 2) pa_nil)) pa_nil)) (blkOk_by (N := n48) (sc := defScope (topS 48)) (by decide +kernel))
          (fun _ _ _ _ _ => pg_name (i := 5) sc48.nd rfl (Or.inl rfl)) (fun _ _ _ _ _ => pts_one (pt_cmpR (r := rNeD K) (op_neD (hu64 hu)) (pe_ix (r := rIxT K) ix_tup (pe_ix (r := rIxL K) ix_list (pv 2) (pv 5) (fun _ _ => rfl)) pe_int (fun _ _ => rfl)) (pe_ix (r := rIxT K) ix_tup (pe_ix (r := rIxL K) ix_list (pv 2) (pe_op op_mod (pe_op op_add (pv 5) pe_int) (pe_callB (r := rLenS K) call_len_seq (by rfl) B.len boot_len (pa_cons (pv 2) pa_nil))) (fun _ _ => rfl)) pe_int (fun _ _ => rfl)) (nomark _))) (fun _ _ _ _ _ => pv 5)) (pe_lst pa_nil) (nomark _))))), ?_⟩
    obtain ⟨t, p, R, js, rfl, ⟨vs, st, pr⟩, ro, sp, lj, rg, q⟩ := h
    have sl : sizeLine = 16777216 := sizeLine_eq
    have hl := ro.len
    have lv := paired_len pr
    have pos : 0 < js.length := List.length_pos_iff.mpr rg.ne
    have lm : (js.map natV).length = js.length := List.length_map _
    refine ⟨_, rfl, p, rfl, ⟨_, sp⟩, fun D hD => ?_⟩
    have S := steady_tup (K := K) (a := p) (xs := js.map natV)
    rw [lm] at S
    refine lc_gen (K := K) (b := fun _ => true) (fun H k y => RowV K H (rowN R (js.getD k 0)) y) S (fun _ _ _ _ t h => h.mono t) (fun H2 s2 => Tups.same s2 _ _ sp) (by exact (by decide : 3 < 6)) (by omega) hD (fun k H Q hk s2 q => q) (fun k H2 Q hk _ s2 q => ?_) fun H4 ys4 s4 hy4 pp4 => ?_
    · have hj : js.getD k 0 < R.length := rg.lt _ (by rw [List.getD_eq_getElem?_getD, List.getElem?_eq_getElem hk]; exact List.getElem_mem hk)
      have ex : (js.map natV).getD k .non = natV (js.getD k 0) := by
        rw [List.getD_eq_getElem?_getD, List.getD_eq_getElem?_getD, List.getElem?_map, List.getElem?_eq_getElem hk]
        rfl
      obtain ⟨u, x, y, eu, su, kx, ky⟩ := vs_at pr hj
      refine ⟨_, rfl, _, rfl, t, vs, _, _, rfl, by rw [ex], Tups.same s2 _ _ st, atI_nat eu, q H2 _ (Same.refl _) ?_⟩
      exact ⟨u, x, y, rfl, Tups.same s2 _ _ su, kx.mono (.same s2), ky.mono (.same s2)⟩
    · rw [filter_yes] at pp4
      have pc : Paired (RowV K H4) (js.map (rowN R)) ys4 := by
        have e1 : js.map (rowN R) = (List.range js.length).map fun k => rowN R (js.getD k 0) := by
          have e2 := range_getD js 0
          refine (congrArg (List.map (rowN R)) e2).symm.trans ?_
          rw [List.map_map]
          rfl
        rw [e1]
        exact pair_via pp4
      replace q : ∀ H', Same H4 H' → Q (.bl true) H' := fun H' s => q H' (s4.trans s)
      have inR : ∀ k, k < js.length → rowN R (js.getD k 0) ∈ R := fun k hk => rowN_mem (rg.lt _ (by rw [List.getD_eq_getElem?_getD, List.getElem?_eq_getElem hk]; exact List.getElem_mem hk))
      have shc : ∀ r ∈ js.map (rowN R), shRow r := fun r hr => by
        obtain ⟨j, hj, e⟩ := List.mem_map.mp hr
        rw [← e]
        exact ro.sh _ (rowN_mem (rg.lt _ hj))
      have lC : (js.map (rowN R)).length = js.length := List.length_map _
      have neg : sumM (js.map (rowN R)) < 0 := by
        have := rg.neg
        unfold sumM
        rw [List.map_map]
        exact this
      have lnk : ((List.range (js.map (rowN R)).length).all fun k => eqK (rowN (js.map (rowN R)) k).2.1 (rowN (js.map (rowN R)) ((k + 1) % (js.map (rowN R)).length)).1) = true := by
        rw [List.all_eq_true]
        intro k hk
        rw [List.mem_range, lC] at hk
        rw [lC, rowN_map R js hk, rowN_map R js (Nat.mod_lt _ pos)]
        have k1 := okRow_pt (ro.ok _ (inR k hk))
        have k2 := okRow_pt (ro.ok _ (inR _ (Nat.mod_lt (k + 1) pos)))
        rw [eqK_nk k1.2 k2.1]
        exact decide_eq_true (rg.on k hk)
      have ne : js.map (rowN R) ≠ [] := fun z => rg.ne (List.map_eq_nil_iff.mp z)
      generalize (js.map (rowN R)) = CH at pc shc lC neg lnk ne
      clear pp4 S sp rg st pr inR
      have ly4 : ys4.length = CH.length := (paired_len pc).symm
      refine ⟨_, rfl, by rw [sl]; exact (by decide : 0 ≤ 16777216), fun p0 h0 => ?_⟩
      have s0 := same_new (o := .lst []) h0
      refine ⟨.list (CH.map fun r : Row => .tuple [pd r.1, pd r.2.1, .int r.2.2]), .list [], .lst (.inl (.inl (s0 _ _ hy4))) (rows_dp (Paired.mapP pc fun _ _ h => h.mono (.same s0))), .lst (.inl (.inl upd_same)) .nil, shaped_rows shc, shaped_nil, _, rfl, ?_⟩
      rw [eqv_nil]
      have e0 : (CH.map fun r : Row => PyData.tuple [pd r.1, pd r.2.1, .int r.2.2]).isEmpty = false := by
        cases CH with
        | nil => exact absurd rfl ne
        | cons _ _ => rfl
      rw [e0]
      replace q : ∀ H', Same (upd H4 p0 (.lst [])) H' → Q (.bl true) H' := fun H' s => q H' (s0.trans s)
      have pc : Paired (RowV K (upd H4 p0 (.lst []))) CH ys4 := Paired.mapP pc fun _ _ h => h.mono (.same s0)
      have hy4 := s0 _ _ hy4
      generalize upd H4 p0 (.lst []) = H4 at *
      refine iteF ?_
      refine ⟨_, rfl, D, rfl, ⟨ys4, .inl (.inl hy4)⟩, fun D5 hD5 => ?_⟩
      refine lc_gen (K := K) (b := fun _ => true) (fun H k y => y = .int (mN CH k)) steady_list (fun _ _ _ _ _ h => h) (fun H2 s2 => .inl (.inl (s2 _ _ hy4))) (by exact (by decide : 4 < 6)) (by omega) hD5 (fun k H Q hk s2 q => q) (fun k H5 Q hk _ s5 q => ?_) fun H6 ys6 s6 hy6 pp6 => ?_
      · obtain ⟨u, x, y, eu, su, kx, ky⟩ := vs_at pc (by omega : k < CH.length)
        have ex : ys4.getD k .non = .ref u := by rw [List.getD_eq_getElem?_getD, eu]; rfl
        refine ⟨_, rfl, u, _, 2, _, by rw [ex], rfl, Tups.same s5 _ _ su, atI_nat (j := 2) rfl, q H5 _ (Same.refl _) rfl⟩
      · rw [filter_yes] at pp6
        have e6 : ys6 = (CH.map (·.2.2)).map V.int := by
          rw [pair_map (f := fun k => V.int (mN CH k)) pp6, ly4]
          refine List.ext_getElem (by simp) fun k h1 h2 => ?_
          rw [List.getElem_map, List.getElem_map, List.getElem_map, List.getElem_range]
          show V.int (CH.getD k _).2.2 = _
          rw [List.getD_eq_getElem?_getD, List.getElem?_eq_getElem (by simpa using h2)]
          rfl
        rw [e6] at hy6
        refine ⟨D5, _, rfl, .inl (.inl hy6), _, _, rfl, rfl, _, rfl, ?_⟩
        change ite (decide (0 ≤ sumM CH) = true) _ _
        rw [decide_eq_false (show ¬ (0 : Int) ≤ sumM CH by omega)]
        refine iteF ⟨_, rfl, D, ys4, rfl, .inl (.inl (.inl (s6 _ _ hy4))), _, rfl, by omega, by omega, fun D7 hD7 => ?_⟩
        have en : ((ys4.length : Nat) : Int).toNat = CH.length := by omega
        rw [en]
        have pc6 : Paired (RowV K H6) CH ys4 := Paired.mapP pc fun _ _ h => h.mono (.same s6)
        refine lc_gen (K := K) (b := fun k => !eqK (rowN CH k).2.1 (rowN CH ((k + 1) % CH.length)).1) (fun H k y => y = .int (k : Int)) steady_rng (fun _ _ _ _ _ h => h) (fun H2 s2 => trivial) (by exact (by decide : 5 < 6)) (by omega) hD7 (fun k H7 Q hk s7 q => ?_) (fun k H7 Q hk _ s7 q => ?_) fun H8 ys8 s8 hy8 pp8 => ?_
        · have hk2 : (k + 1) % CH.length < CH.length := Nat.mod_lt _ (by omega)
          obtain ⟨u, x, y, eu, su, kx, ky⟩ := vs_at pc6 hk
          obtain ⟨u2, x2, y2, eu2, su2, kx2, ky2⟩ := vs_at pc6 hk2
          have hy7 := s7 _ _ (s6 _ _ hy4)
          have pos9 : (0 : Int) < (ys4.length : Int) := by omega
          have t7 : Tups K H6 H7 := .same s7
          have a1 : atI ys4 (0 + (k : Int)) = some (.ref u) := by rw [Int.zero_add]; exact atI_nat eu
          have a2 : atI ys4 ((0 + (k : Int) + 1) % (ys4.length : Int)) = some (.ref u2) := by
            have e9 : (0 + (k : Int) + 1) % (ys4.length : Int) = (((k + 1) % CH.length : Nat) : Int) := by
              rw [ly4]
              simp
            rw [e9]
            exact atI_nat eu2
          refine ⟨_, rfl, _, rfl, D, ys4, _, _, rfl, rfl, .inl (.inl hy7), a1, u, _, 1, y, rfl, rfl, t7 _ _ su, atI_nat (j := 1) rfl, ?_⟩
          refine ⟨_, rfl, _, rfl, _, _, rfl, rfl, _, rfl, D, ys4, rfl, .inl (.inl (.inl hy7)), _, _, rfl, rfl, pos9, D, ys4, _, _, rfl, rfl, .inl (.inl hy7), a2, u2, _, 0, x2, rfl, rfl, t7 _ _ su2, atI_nat (j := 0) rfl, ?_⟩
          exact (ky.mono t7).dq (kx2.mono t7) (shc _ (rowN_mem hk)).2 (shc _ (rowN_mem hk2)).1 ⟨_, rfl, q⟩
        · exact ⟨_, rfl, q H7 _ (Same.refl _) (by rw [Int.zero_add])⟩
        · have e8 := pair_map (f := fun k : Nat => V.int (k : Int)) pp8
          refine ⟨by rw [sl]; exact (by decide : 0 ≤ 16777216), fun p9 hp9 => ?_⟩
          have s9 := same_new (o := .lst []) hp9
          generalize hfl : (List.range CH.length).filter (fun k => !eqK (rowN CH k).2.1 (rowN CH ((k + 1) % CH.length)).1) = fl at e8
          have dp9 : ∀ (H : Hp) (l : List Nat), DpAll K H (l.map fun k : Nat => V.int (k : Int)) ((l.map fun k : Nat => (k : Int)).map .int) := fun H l => by
            induction l with
            | nil => exact .nil
            | cons a l ih => exact .cons (.int _) ih
          rw [e8] at hy8
          refine ⟨_, .list [], .lst (.inl (.inl (s9 _ _ hy8))) (dp9 _ fl), .lst (.inl (.inl upd_same)) .nil, shaped_ints _, shaped_nil, ?_⟩
          have q9 := q _ ((s6.trans s8).trans s9)
          have ee : PyData.eqv (.list ((fl.map fun k : Nat => (k : Int)).map .int)) (.list []) = (List.range CH.length).all fun k => eqK (rowN CH k).2.1 (rowN CH ((k + 1) % CH.length)).1 := by
            rw [eqv_nil, List.isEmpty_map, List.isEmpty_map, ← hfl, filter_empty]
            simp
          rw [ee, lnk]
          exact q9
end
end Fc
namespace Fc
open PySem L2 PyProof.Rows
theorem eqvs_self : ∀ l : List Kd, PyData.eqvAll (l.map pd) (l.map pd) = true
  | [] => rfl
  | k :: l => by
    have h1 : PyData.eqv (pd k) (pd k) = true := eqv_self
    have h2 := eqvs_self l
    rw [List.map_cons, PyData.eqvAll, h1, h2]
    rfl
theorem eqvl_self (l : List Kd) : PyData.eqv (.list (l.map pd)) (.list (l.map pd)) = true := by
  rw [PyData.eqv]
  exact eqvs_self l
abbrev rSortK (K : PySem.W.Frag) : List V → Hp → VK → Prop := fun vs H Q => ∃ (a : Addr) (bs : List (Kd × V)), vs = [V.ref a] ∧ SqL K H a (bs.map (·.2)) ∧ PySem.W.AllAlike (bs.map fun b => pd b.1) ∧ PySem.W.Sortable (bs.map fun b => pd b.1) ∧
    (∀ b ∈ bs, Dp K H b.2 (pd b.1)) ∧ bs.length ≤ 200 ∧ (∀ b ∈ bs, (pd b.1).depth ≤ 5) ∧ ∀ (bs' : List (Kd × V)) (p : Addr), bs'.Perm bs → bs' = bs.mergeSort (PySem.W.dataLe false fun b => pd b.1) → H p = none → Q (.ref p) (upd H p (.lst (bs'.map (·.2))))
theorem nil_i {σ : L2.St} {H : Hp} {Q : List V → Hp → Prop} (h : Q [] H) : tNil σ H Q := h
/-- sorted(l), l a list of keys -/
theorem sort_call {K : PySem.W.Frag} {H : Hp} {p : Addr} {l : List Kd} {ys : List V} {Q : VK} (hp : SqL K H p ys) (py : Paired (KdV K H) l ys) (hl : l.length ≤ 200) (hs : PySem.W.AllAlike (l.map pd) ∧ PySem.W.Sortable (l.map pd))
    (q : ∀ H' r (bs : List (Kd × V)), Same H H' → H r = none → H' r = some (.lst (bs.map (·.2))) → bs.map (·.1) = sortK l → (∀ b ∈ bs, KdV K H' b.1 b.2) → Q (.ref r) H') :
    rSortK K [V.ref p] H Q := by
  obtain ⟨bs, e1, e2, e3⟩ := pair_zip py
  have eb : (bs.map fun b => pd b.1) = l.map pd := by rw [← e1, List.map_map]; rfl
  have lb : bs.length ≤ 200 := by rw [← e1, List.length_map] at hl; exact hl
  refine ⟨p, bs, rfl, by rw [e2]; exact hp, by rw [eb]; exact hs.1, by rw [eb]; exact hs.2, fun b hb => (e3 b hb).dp, lb, fun b _ => pd_depth _, fun bs' r pm hbs hr => ?_⟩
  have sp := same_new (o := .lst (bs'.map (·.2))) hr
  refine q _ r bs' sp hr upd_same ?_ fun b hb => (e3 b (pm.mem_iff.mp hb)).mono (.same sp)
  rw [hbs, sortK_of, e1]
theorem cut_one (y : V) (ys : List V) : cutV (y :: ys) none (some 1) = [y] := by
  unfold cutV HT.sIx
  simp
def spOrder (K : PySem.W.Frag) (w : World) : Sp := fun vs H Q _ => ∃ p ws cs, vs = [.ref p] ∧ KeysL K H p (ws ++ cs) ∧ (∀ k ∈ ws, isPtK k = true ∧ shK k = true ∧ isW k = true) ∧ (∀ k ∈ cs, isPtK k = true ∧ shK k = true ∧ isC k = true) ∧
  sortK ws = ws ∧ sortK cs = cs ∧ (∃ ws', ws = .w "" :: ws') ∧ (ws ++ cs).length ≤ 41 ∧ ∀ H', Same H H' → Q (.bl true) H'
theorem w_not_c {k : Kd} (h : isW k = true) : isC k = false := by cases k <;> first | rfl | cases h
abbrev rIsi (K : PySem.W.Frag) (w : World) : List V → Hp → VK → Prop := fun xs H Q => ∃ v d T, xs = [v, .ty T] ∧ DV K w H v d ∧ (T = "int" ∨ T = "bool" ∨ T = "str" ∨ T = "tuple" ∨ T = "dict" ∨ T = "list") ∧ Q (.bl (isTy d T)) H
section
variable {K : PySem.W.Frag} {mg : Str → Option Value} {base : Heap} {P : Program} {w : World}
abbrev n47 : List Str := ["_law_keys", "_law_words", "_law_key"]
theorem sc47 : FnScope n47 ["_law_keys"] (defScope (topS 47)) := ⟨rfl, rfl, rfl, by decide +kernel, rfl, by decide +kernel, by decide +kernel⟩
theorem ok47 {f : Addr} {fd : FuncData} (F : Fun K "_law_is_order" "_law_is_order" (topS 47) f fd) (B : Blt mg) : FnOk P w K mg base CX0 1 f fd ["_law_keys"] (spOrder K w) := by
  refine F.ok sc47 (fun vs H Q E h => ?_) (fun cdv A outer s H vs Q E hr h => ?_)
  · obtain ⟨p, ws, cs, rfl, _⟩ := h
    rfl
  · have hu := hu70 hr
    refine ⟨_, pss_cons (ps_setLc (i := 1) (own := [("_law_key", 2)]) (g := gName 2) (by rfl) sc47.nd rfl rfl (sw_true rfl rfl rfl (by decide +kernel)) (pi_list (pv 0)) (blkOk_by (N := n47) (sc := defScope (topS 47)) (by decide +kernel))
          (fun _ _ _ _ _ => pg_name (i := 2) sc47.nd rfl (Or.inl rfl)) (fun _ _ _ _ _ => pts_one (pt_not (pt_val (pe_callB (r := rIsi K w) call_isiD (by rfl) B.isinstance boot_isinstance (pa_cons (pv 2) (pa_cons (pe_bltn (v := .ty "tuple") (by rfl) B.tuple boot_tuple rfl) pa_nil)))))) (fun _ _ _ _ _ => pv 2))
      (pss_one (ps_ret (pe_and (pe_cmpR (op_eqD (hu64 hu)) (pe_slice sl_list (pv 0) po_none (po_some pe_int)) (pe_lst (pa_cons pe_str pa_nil)) (nomark _))
        (pe_one (pe_cmpR (op_eqD (hu64 hu)) (pv 0) (pe_op op_cat (pe_callB (r := rSortK K) (call_sortD pd hu) (by rfl) B.sorted boot_sorted (pa_cons (pv 1) pa_nil)) (pe_callB (r := rSortK K) (call_sortD pd hu) (by rfl) B.sorted boot_sorted (pa_cons (pe_lc (own := [("_law_key", 2)]) (g := gName 2) (by rfl) sc47.nd (pi_list (pv 0)) (blkOk_by (N := n47) (sc := defScope (topS 47)) (by decide +kernel))
          (fun _ _ _ _ _ => pg_name (i := 2) sc47.nd rfl (Or.inl rfl)) (fun _ _ _ _ _ => pts_one (pt_val (pe_callB (r := rIsi K w) call_isiD (by rfl) B.isinstance boot_isinstance (pa_cons (pv 2) (pa_cons (pe_bltn (v := .ty "tuple") (by rfl) B.tuple boot_tuple rfl) pa_nil))))) (fun _ _ _ _ _ => pv 2)) pa_nil))) (nomark _)))))), ?_⟩
    obtain ⟨p, ws, cs, rfl, ⟨ys, hys, py⟩, hw, hc, sw, sc, ⟨ws', ew⟩, ll, q⟩ := h
    have sl : sizeLine = 16777216 := sizeLine_eq
    have len : ∀ {n : Nat}, n ≤ 1000 → n ≤ sizeLine := fun h => by rw [sl]; omega
    have fw : (ws ++ cs).filter (fun k => !isC k) = ws := by
      rw [List.filter_append, List.filter_eq_self.mpr fun k hk => by rw [w_not_c (hw k hk).2.2]; rfl, List.filter_eq_nil_iff.mpr fun k hk => by rw [(hc k hk).2.2]; simp, List.append_nil]
    have fc : (ws ++ cs).filter isC = cs := by
      rw [List.filter_append, List.filter_eq_nil_iff.mpr fun k hk => by rw [w_not_c (hw k hk).2.2]; simp, List.filter_eq_self.mpr fun k hk => (hc k hk).2.2, List.nil_append]
    have all : ∀ k ∈ ws ++ cs, isPtK k = true ∧ shK k = true := fun k hk => by
      rcases List.mem_append.mp hk with z | z
      · exact ⟨(hw k z).1, (hw k z).2.1⟩
      · exact ⟨(hc k z).1, (hc k z).2.1⟩
    have ly := paired_len py
    have lw : ws.length + cs.length ≤ 41 := by rw [List.length_append] at ll; exact ll
    refine ⟨_, rfl, p, rfl, ⟨ys, .inl (.inl hys)⟩, fun D hD => ?_⟩
    have S := steady_list (K := K) (a := p) (xs := ys)
    rw [← ly] at S
    refine lc_gen (K := K) (b := fun k => !isC ((ws ++ cs).getD k .no)) (fun H k y => KdV K H ((ws ++ cs).getD k .no) y) S (fun _ _ _ _ t h => h.mono t) (fun H2 s2 => .inl (.inl (s2 _ _ hys))) (by exact (by decide : 2 < 3)) (by omega) hD (fun k H2 Q hk s2 q => ?_) (fun k H2 Q hk _ s2 q => ⟨_, rfl, q H2 _ (Same.refl _) ((paired_getD py (a0 := .no) (b0 := .non) hk).mono (.same s2))⟩) fun H2 y2 s2 hy2 pp2 => ?_
    · have kk := (paired_getD py (a0 := .no) (b0 := .non) hk).mono (K := K) (.same s2)
      refine ⟨_, rfl, _, pd ((ws ++ cs).getD k .no), _, rfl, .inl kk.dp, .inr (.inr (.inr (.inl rfl))), _, rfl, ?_⟩
      rw [ty_c (all _ (getD_mem hk)).1]
      exact q
    · have pf2 := filt_pair (c := fun k => !isC k) (p := KdV K H2) pp2
      rw [fw] at pf2
      have hys2 := s2 _ _ hys
      have py2 : Paired (KdV K H2) (ws ++ cs) ys := Paired.mapP py fun _ _ h => h.mono (.same s2)
      replace q : ∀ H', Same H2 H' → Q (.bl true) H' := fun H' s => q H' (s2.trans s)
      obtain ⟨y0, ys', eys, hy0⟩ : ∃ y0 ys', ys = y0 :: ys' ∧ y0 = V.str "" := by
        rw [ew] at py2
        cases py2 with
        | cons h _ => exact ⟨_, _, rfl, h⟩
      subst hy0
      refine ⟨_, rfl, 1, rfl, p, ys, rfl, .inl (.inl hys2), fun p1 hp1 => ?_⟩
      rw [eys, cut_one]
      refine ⟨len (by simp), fun p2 hp2 => ?_⟩
      have s3 := same_new (o := .lst [V.str ""]) hp1
      have s4 := same_new (o := .lst [V.str ""]) hp2
      refine ⟨.list [.str ""], .list [.str ""], .lst (.inl (.inl (s4 _ _ upd_same))) (.cons (.str _) .nil), .lst (.inl (.inl upd_same)) (.cons (.str _) .nil), by decide +kernel, by decide +kernel, true, by decide +kernel, ?_⟩
      have s34 := s3.trans s4
      have hys4 := s34 _ _ hys2
      have hy4 := s34 _ _ hy2
      have py4 : Paired (KdV K _) (ws ++ cs) ys := Paired.mapP py2 fun _ _ h => h.mono (.same s34)
      have pf4 : Paired (KdV K _) ws y2 := Paired.mapP pf2 fun _ _ h => h.mono (.same s34)
      replace q : ∀ H', Same (upd (upd H2 p1 (.lst [V.str ""])) p2 (.lst [V.str ""])) H' → Q (.bl true) H' := fun H' s => q H' (s34.trans s)
      clear s3 s4 s34 hp1 hp2 pf2 py2 hys2 py hys hy2
      generalize upd (upd H2 p1 (.lst [V.str ""])) p2 (.lst [V.str ""]) = H4 at *
      refine iteT ⟨_, rfl, _, rfl, ?_⟩
      refine nil_i ?_
      refine sort_call (K := K) (.inl (.inl hy4)) pf4 (by omega) (sort_w fun k hk => (hw k hk).2.2) fun H5 r5 b5 s5 hr5 h5 so5 kv5 => ?_
      have hys5 := s5 _ _ hys4
      have py5 : Paired (KdV K H5) (ws ++ cs) ys := Paired.mapP py4 fun _ _ h => h.mono (.same s5)
      refine ⟨_, rfl, p, rfl, ⟨ys, .inl (.inl hys5)⟩, fun D6 hD6 => ?_⟩
      have S := steady_list (K := K) (a := p) (xs := ys)
      rw [← ly] at S
      refine lc_gen (K := K) (b := fun k => isC ((ws ++ cs).getD k .no)) (fun H k y => KdV K H ((ws ++ cs).getD k .no) y) S (fun _ _ _ _ t h => h.mono t) (fun H2 s2 => .inl (.inl (s2 _ _ hys5))) (by exact (by decide : 2 < 3)) (by omega) hD6 (fun k H2 Q hk s2 q => ?_) (fun k H2 Q hk _ s2 q => ⟨_, rfl, q H2 _ (Same.refl _) ((paired_getD py5 (a0 := .no) (b0 := .non) hk).mono (.same s2))⟩) fun H6 y6 s6 hy6 pp6 => ?_
      · have kk := (paired_getD py5 (a0 := .no) (b0 := .non) hk).mono (K := K) (.same s2)
        refine ⟨_, rfl, _, pd ((ws ++ cs).getD k .no), _, rfl, .inl kk.dp, .inr (.inr (.inr (.inl rfl))), _, rfl, ?_⟩
        rw [ty_c (all _ (getD_mem hk)).1]
        exact q
      · have pf6 := filt_pair (c := isC) (p := KdV K H6) pp6
        rw [fc] at pf6
        refine nil_i ?_
        refine sort_call (K := K) (.inl (.inl hy6)) pf6 (by omega) (sort_c fun k hk => (hc k hk).2.2) fun H7 r7 b7 s7 hr7 h7 so7 kv7 => ?_
        have s57 := s6.trans s7
        have l5 : b5.length ≤ 41 := by
          have h := congrArg List.length so5
          rw [sw, List.length_map] at h
          omega
        have l7 : b7.length ≤ 41 := by
          have h := congrArg List.length so7
          rw [sc, List.length_map] at h
          omega
        refine ⟨r5, r7, _, _, rfl, rfl, s57 _ _ h5, h7, by rw [List.length_map, List.length_map, sl]; omega, fun r8 hr8 => ?_⟩
        have s8 := same_new (o := .lst (b5.map (·.2) ++ b7.map (·.2))) hr8
        have e8 : b5.map (·.2) ++ b7.map (·.2) = (b5 ++ b7).map (·.2) := by rw [List.map_append]
        have k8 : (b5 ++ b7).map (·.1) = ws ++ cs := by rw [List.map_append, so5, so7, sw, sc]
        have kv8 : ∀ b ∈ b5 ++ b7, KdV K (upd H7 r8 (.lst (b5.map (·.2) ++ b7.map (·.2)))) b.1 b.2 := fun b hb => by
          rcases List.mem_append.mp hb with z | z
          · exact ((kv5 b z).mono (.same s57)).mono (.same s8)
          · exact (kv7 b z).mono (.same s8)
        have py8 := zip_pair (p := KdV K (upd H7 r8 (.lst (b5.map (·.2) ++ b7.map (·.2))))) kv8
        rw [k8, ← e8] at py8
        have sAll := (s5.trans s57).trans s8
        have dL := pts_dp (Paired.mapP py4 fun _ _ h => h.mono (K := K) (.same sAll))
        refine ⟨.list ((ws ++ cs).map pd), .list ((ws ++ cs).map pd), .lst (.inl (.inl (sAll _ _ hys4))) dL, .lst (.inl (.inl upd_same)) (pts_dp py8), shaped_pts fun k hk => (all k hk).2, shaped_pts fun k hk => (all k hk).2, ?_⟩
        rw [eqvl_self]
        exact q _ sAll
end
end Fc
namespace Fc
open PySem L2 PyProof.Rows
/-- a def of the top that may raise -/
structure CalX (P : Program) (w : World) (K : PySem.W.Frag) (mg : Str → Option Value) (base : Heap) (k : Nat) (x : Str) (sp : Sp) : Prop where
  at_ : ∃ (f : Addr) (fd : FuncData) (ps : List Str), FnOk P w K mg base (L2.CX P w) k f fd ps sp ∧ mg x = some (.ref f) ∧ PySem.W.keepIn K (.ref f) = true ∧ Binds K fd ps []
def spBound (K : PySem.W.Frag) (w : World) : Sp := fun vs H Q _ => ∃ t R a b k1 k2, vs = [.ref t, a, b] ∧ RowsT K H R t ∧ RowsOk R ∧ KdV K H k1 a ∧ KdV K H k2 b ∧ (isPtK k1 = true ∧ kdShort k1 = true) ∧ (isPtK k2 = true ∧ kdShort k2 = true) ∧
  (∀ H', Same H H' → hasRing R → Q (.str "operation") H') ∧ ∀ H' B' C l, Same H H' → (∃ B : List (Kd × Int), B.map (·.1) = ptsOf R ∧ Fd.closed (rws R) (bo B)) → Rlx R [(k2, 0)] B' C l → Q (ov (bo B' (nk k1))) H'
section
variable {K : PySem.W.Frag} {mg : Str → Option Value} {base : Heap} {P : Program} {w : World}
abbrev n49 : List Str := ["_law_rows_here", "_law_one", "_law_other"]
theorem sc49 : FnScope n49 n49 (defScope (topS 49)) := ⟨rfl, rfl, rfl, by decide +kernel, rfl, by decide +kernel, by decide +kernel⟩
theorem ok49 {f C : Addr} {fd : FuncData} (F : Fun K "_law_bound" "_law_bound" (topS 49) f fd) (B : Blt mg) (O : OwnX K mg "InvalidOperation" C) (c41 : CalX P w K mg base 6 "tightest" (spTight K w C)) : FnOk P w K mg base CX0 7 f fd n49 (spBound K w) := by
  refine F.ok sc49 (fun vs H Q E h => ?_) (fun cdv A outer s H vs Q E hr h => ?_)
  · obtain ⟨t, R, a, b, k1, k2, rfl, _⟩ := h
    rfl
  · obtain ⟨g, gd, ps, G, hm, kp, bd⟩ := c41.at_
    refine ⟨_, pss_one (ps_try_only (tb := fun W => tRet (tCallS (spTight K w C) (WE W) (tCons (tVar 0) (tCons (tVar 1) (tCons (tVar 2) tNil))))) (ts := fun _ _ _ => tRet (tC (.str "operation"))) (Wout := fun _ _ _ _ => False) rfl rfl ⟨rfl, by decide, Or.inl O.g⟩ takes0
      (fun W pn xe tk _ => pss_one (ps_ret (pe_callS G hr rfl hm kp bd (fun σ => passAt tk σ) (pa_cons (pv 0) (pa_cons (pv 1) (pa_cons (pv 2) pa_nil))))))
      (fun _ _ _ _ _ _ _ => pss_one (ps_ret pe_str))), ?_⟩
    obtain ⟨t, R, a, b, k1, k2, rfl, rt, ro, h1, h2, p1, p2, qE, q⟩ := h
    refine ⟨_, rfl, _, rfl, _, rfl, t, R, a, b, k1, k2, rfl, rt, ro, h1, h2, p1, p2, fun H' s' hrg => ?_, fun H' B' C' l s' e rx => q H' B' C' l s' e rx⟩
    exact ⟨true, O.e, fun _ a ha => qE H' s' hrg, fun z => nomatch z⟩
end
end Fc
namespace Fd
section
variable {α : Type} [DecidableEq α]
theorem Turn.weak {F0 F : Tb α} {m : α} {V V' : α → α → Prop} (t : Turn F0 m V F) (h : ∀ a b u v, F0 a m = some u → F0 m b = some v → V' a b → V a b) : Turn F0 m V' F :=
  ⟨t.le, t.col, t.row, fun g a b hv u v hu hv2 => t.seen g a b (h a b u v hu hv2 hv) u v hu hv2, t.src⟩
/-- what is known of the table whatever the middle points -/
structure Base (G : Rws α) (P : α → Prop) (F : Tb α) : Prop where
  snd : sound G F
  dom : ∀ a b v, F a b = some v → P a ∧ P b
theorem Base.none (G : Rws α) (P : α → Prop) : Base G P (fun _ _ => Option.none) := ⟨fun _ _ _ _ _ h => (nomatch h), fun _ _ _ h => (nomatch h)⟩
theorem Base.set {G : Rws α} {P : α → Prop} {F : Tb α} (b : Base G P F) {x y : α} {w : Int} (hx : P x) (hy : P y) (k : ∀ β, closed G β → ∀ vb, β y = some vb → ∃ va, β x = some va ∧ va ≤ w + vb) : Base G P (setT F x y w) :=
  ⟨b.snd.set k, fun a c v e => by
    unfold setT at e
    by_cases q : x = a ∧ y = c
    · rw [← q.1, ← q.2]; exact ⟨hx, hy⟩
    · rw [if_neg q] at e; exact b.dom a c v e⟩
theorem Base.diag {G : Rws α} {P : α → Prop} {F : Tb α} (b : Base G P F) {x : α} (hx : P x) : Base G P (setT F x x 0) := b.set hx hx fun β _ vb e => ⟨vb, e, by omega⟩
theorem Base.row {G : Rws α} {P : α → Prop} {F : Tb α} (b : Base G P F) {j : Nat} (hj : j < G.n) {w : Int} (hx : P (G.p j)) (hy : P (G.q j)) (h : w = G.m j ∨ F (G.p j) (G.q j) = some w) : Base G P (setT F (G.p j) (G.q j) w) := b.set hx hy fun β cl vb e => by
  rcases h with rfl | h
  · obtain ⟨a, ea, ha⟩ := cl j hj vb e
    exact ⟨a, ea, by omega⟩
  · exact b.snd β cl _ _ w h vb e
theorem Base.way {G : Rws α} {P : α → Prop} {F : Tb α} (b : Base G P F) {x m y : α} {u v w : Int} (hu : F x m = some u) (hv : F m y = some v) (h : w = u + v ∨ F x y = some w) : Base G P (setT F x y w) := b.set (b.dom _ _ _ hu).1 (b.dom _ _ _ hv).2 fun β cl vb e => by
  rcases h with rfl | h
  · obtain ⟨vm, em, hm⟩ := b.snd β cl m y v hv vb e
    obtain ⟨va, ea, ha⟩ := b.snd β cl x m u hu vm em
    exact ⟨va, ea, by omega⟩
  · exact b.snd β cl _ _ w h vb e
/-- the points with a number below n -/
def upTo (l : List α) (n : Nat) (d : α) : α → Prop := fun x => ∃ j, j < n ∧ l.getD j d = x
/-- the first rows of pairs, and the first pairs of the next one -/
def seenP (l : List α) (d : α) (i j : Nat) : α → α → Prop := fun a b => upTo l i d a ∨ (l.getD i d = a ∧ upTo l j d b)
theorem seenP_next {l : List α} {d : α} {i j : Nat} {a b : α} (h : seenP l d i (j + 1) a b) : seenP l d i j a b ∨ (a = l.getD i d ∧ b = l.getD j d) := by
  rcases h with h | ⟨h1, k, hk, h2⟩
  · exact .inl (.inl h)
  · by_cases e : k = j
    · subst e; exact .inr ⟨h1.symm, h2.symm⟩
    · exact .inl (.inr ⟨h1, k, by omega, h2⟩)
theorem seenP_row {l : List α} {d : α} {i : Nat} {a b : α} (hb : upTo l l.length d b) (h : seenP l d (i + 1) 0 a b) : seenP l d i l.length a b := by
  rcases h with ⟨k, hk, h2⟩ | ⟨_, k, hk, _⟩
  · by_cases e : k = i
    · subst e; exact .inr ⟨h2, hb⟩
    · exact .inl ⟨k, by omega, h2⟩
  · omega
/-- the table in the turns of the middle points -/
structure Mids (G : Rws α) (P : α → Prop) (l : List α) (d : α) (n : Nat) (F : Tb α) : Prop where
  base : Base G P F
  diag : ∀ p, P p → ∃ v, F p p = some v ∧ v ≤ 0
  rows : ∀ j, j < G.n → ∃ v, F (G.p j) (G.q j) = some v ∧ v ≤ G.m j
  ways : good F → over F (upTo l n d)
theorem Mids.next {G : Rws α} {P : α → Prop} {l : List α} {d : α} {n : Nat} {F0 F : Tb α} (m : Mids G P l d n F0) (hP : ∀ x, P x → upTo l l.length d x) {V : α → α → Prop} (b : Base G P F) (t : Turn F0 (l.getD n d) V F) (hV : ∀ a c u v, F0 a (l.getD n d) = some u → F0 (l.getD n d) c = some v → V a c) : Mids G P l d (n + 1) F := by
  refine ⟨b, fun p hp => ?_, fun j hj => ?_, fun g => ?_⟩
  · obtain ⟨v, e, hv⟩ := m.diag p hp
    obtain ⟨v', e', hv'⟩ := t.le p p v e
    exact ⟨v', e', by omega⟩
  · obtain ⟨v, e, hv⟩ := m.rows j hj
    obtain ⟨v', e', hv'⟩ := t.le _ _ v e
    exact ⟨v', e', by omega⟩
  · have o := t.over hV m.ways g
    rintro s ⟨j, hj, ej⟩
    by_cases e : j = n
    · subst e; exact o s (.inr ej.symm)
    · exact o s (.inl ⟨j, by omega, ej⟩)
theorem Mids.whole {G : Rws α} {P : α → Prop} {l : List α} {d : α} {F : Tb α} (m : Mids G P l d l.length F) (hP : ∀ x, P x → upTo l l.length d x) : Whole G P F :=
  ⟨m.base.snd, m.base.dom, m.diag, m.rows, fun g s hs => m.ways g s (hP s hs)⟩
end
end Fd
namespace Fc
open PySem L2 PyProof.Rows
/-! ### a table by pairs of keys -/
theorem valM_putM (xs : List Ent) (k : NK) (kv v : V) (j : NK) : valM (putM xs k kv v) j = if k = j then some v else valM xs j := by
  induction xs with
  | nil =>
    have e : putM [] k kv v = [(k, kv, v)] := rfl
    rw [e, valM_cons]
  | cons x xs ih =>
    rw [putM_cons]
    by_cases c : x.1 = k
    · rw [if_pos c, valM_cons, valM_cons]
      by_cases c2 : x.1 = j
      · rw [if_pos c2, if_pos (c.symm.trans c2)]
      · rw [if_neg c2, if_neg (fun z => c2 (c.trans z)), if_neg c2]
    · rw [if_neg c, valM_cons, valM_cons, ih]
      by_cases c2 : x.1 = j
      · rw [if_pos c2, if_neg (fun z => c (c2.trans z.symm)), if_pos c2]
      · rw [if_neg c2, if_neg c2]
abbrev FTab := Fd.Tb NK
/-- at D a table of pairs of keys with the numbers F -/
def FT (K : PySem.W.Frag) (w : World) (H : Hp) (D : Addr) (n : Nat) (F : FTab) : Prop := ∃ xs, H D = some (MD w D xs) ∧ (∀ x ∈ xs, KeyV K H x.1 x.2.1) ∧ xs.length ≤ n ∧ ∀ a b : NK, valM xs (.tup [a, b]) = (F a b).map V.int
theorem pair_key {K : PySem.W.Frag} {H : Hp} {a b : Kd} {x y : V} {t : Addr} (ha : KdV K H a x) (hb : KdV K H b y) (ht : SqT K H t [x, y]) : KeyV K H (.tup [nk a, nk b]) (.ref t) := .inr ⟨t, [x, y], [nk a, nk b], rfl, ht, rfl, .cons ha.key1 (.cons hb.key1 .nil)⟩
theorem FT.mono {K : PySem.W.Frag} {w : World} {H H' : Hp} {D : Addr} {n n' : Nat} {F : FTab} (h : FT K w H D n F) (t : Tups K H H') (e : ∀ u, H D = some u → H' D = some u) (hn : n ≤ n') : FT K w H' D n' F := by
  obtain ⟨xs, h1, h2, h3, h4⟩ := h
  exact ⟨xs, e _ h1, fun x hx => (h2 x hx).mono t, by omega, h4⟩
theorem FT.in_ {K : PySem.W.Frag} {w : World} {H : Hp} {D t : Addr} {n : Nat} {F : FTab} {a b : Kd} {x y : V} {Q : VK} (h : FT K w H D n F) (ha : KdV K H a x) (hb : KdV K H b y) (ht : SqT K H t [x, y]) (q : Q (.bl (F (nk a) (nk b)).isSome) H) : rInM K w id (.ref t) (.ref D) H Q := by
  obtain ⟨xs, h1, h2, h3, h4⟩ := h
  refine ⟨D, xs, _, rfl, ⟨.inl h1, h2⟩, pair_key ha hb ht, ?_⟩
  rw [h4]
  cases e : F (nk a) (nk b) <;> (rw [e] at q; exact q)
theorem FT.ix {K : PySem.W.Frag} {w : World} {H : Hp} {D t : Addr} {n : Nat} {F : FTab} {a b : Kd} {x y : V} {v : Int} {Q : VK} (h : FT K w H D n F) (ha : KdV K H a x) (hb : KdV K H b y) (ht : SqT K H t [x, y]) (e : F (nk a) (nk b) = some v) (q : Q (.int v) H) : rIxM K w (.ref D) (.ref t) H Q := by
  obtain ⟨xs, h1, h2, h3, h4⟩ := h
  refine ⟨D, xs, _, .int v, rfl, ⟨.inl h1, h2⟩, pair_key ha hb ht, ?_, q⟩
  rw [h4, e]
  rfl
theorem FT.put {K : PySem.W.Frag} {w : World} {H : Hp} {D t : Addr} {n : Nat} {F : FTab} {a b : Kd} {x y : V} {v : Int} {Q : Hp → Prop} (h : FT K w H D n F) (ha : KdV K H a x) (hb : KdV K H b y) (ht : SqT K H t [x, y]) (hn : n < 1000000)
    (q : ∀ H', But D H H' → Tups K H H' → FT K w H' D (n + 1) (Fd.setT F (nk a) (nk b) v) → Q H') : rSetM K w (.ref D) (.ref t) (.int v) H Q := by
  obtain ⟨xs, h1, h2, h3, h4⟩ := h
  have kk := pair_key ha hb ht
  refine ⟨D, xs, _, rfl, h1, h2, kk, by rw [sizeLine_eq]; omega, ?_⟩
  have tp : Tups K H (upd H D (MD w D (putM xs (.tup [nk a, nk b]) (.ref t) (.int v)))) := tups_upd (md_notup h1)
  refine q _ (fun c u ne e => by rw [upd_ne ne]; exact e) tp ⟨_, upd_same, fun z hz => (keysV_putM h2 kk z hz).mono tp, by have := len_putM xs (.tup [nk a, nk b]) (.ref t) (.int v); omega, fun c d => ?_⟩
  rw [valM_putM]
  unfold Fd.setT
  by_cases e : nk a = c ∧ nk b = d
  · rw [if_pos (by rw [e.1, e.2]), if_pos e]; rfl
  · rw [if_neg, if_neg e, h4]
    intro z
    injection z with z
    injection z with z1 z
    injection z with z2 z
    exact e ⟨z1, z2⟩
/-- the law's table -/
def isP (R : List Row) (x : NK) : Prop := ∃ k ∈ ptsOf R, nk k = x
def spBounds (K : PySem.W.Frag) (w : World) : Sp := fun vs H Q _ => ∃ t R, vs = [.ref t] ∧ RowsT K H R t ∧ RowsOk R ∧ ∀ H' D F, Same H H' → H D = none → FT K w H' D 1000000 F → Fd.Whole (rws R) (isP R) F → Q (.ref D) H'
/-- while the table is filled: all else stands -/
structure Wk (K : PySem.W.Frag) (w : World) (H : Hp) (D : Addr) (n : Nat) (F : FTab) (H' : Hp) : Prop where
  same : Same H H'
  none : H D = Option.none
  ft : FT K w H' D n F
theorem Wk.tups {K : PySem.W.Frag} {w : World} {H H' : Hp} {D : Addr} {n : Nat} {F : FTab} (k : Wk K w H D n F H') : Tups K H H' := .same k.same
theorem Wk.new {K : PySem.W.Frag} {w : World} {H H' : Hp} {D p : Addr} {n : Nat} {F : FTab} {o : HO} (k : Wk K w H D n F H') (hp : H' p = Option.none) : Wk K w H D n F (upd H' p o) :=
  have s := same_new (o := o) hp
  ⟨k.same.trans s, k.none, k.ft.mono (.same s) (fun u e => s _ _ e) (Nat.le_refl _)⟩
theorem Wk.to {K : PySem.W.Frag} {w : World} {H H' H2 : Hp} {D : Addr} {n n' : Nat} {F F' : FTab} (k : Wk K w H D n F H') (b : But D H' H2) (f : FT K w H2 D n' F') : Wk K w H D n' F' H2 :=
  ⟨fun a o e => b a o (ne_of_none e k.none) (k.same a o e), k.none, f⟩
theorem Wk.le {K : PySem.W.Frag} {w : World} {H H' : Hp} {D : Addr} {n n' : Nat} {F : FTab} (k : Wk K w H D n F H') (h : n ≤ n') : Wk K w H D n' F H' := ⟨k.same, k.none, k.ft.mono (fun _ _ h => h) (fun _ h => h) h⟩
section
variable {K : PySem.W.Frag} {mg : Str → Option Value} {base : Heap} {P : Program} {w : World}
abbrev rMin2 : List V → Hp → VK → Prop := fun xs H Q => ∃ i j, xs = [V.int i, V.int j] ∧ Q (.int (if j < i then j else i)) H
abbrev n46 : List Str := ["_law_rows_here", "_law_points_here", "_law_found", "_law_point", "_law_one", "_law_other", "_law_most", "_law_middle", "_law_whole"]
theorem sc46 : FnScope n46 ["_law_rows_here"] (defScope (topS 46)) := ⟨rfl, rfl, rfl, by decide +kernel, rfl, by decide +kernel, by decide +kernel⟩
theorem upTo_pts (R : List Row) : ∀ x, isP R x ↔ Fd.upTo ((ptsOf R).map nk) (ptsOf R).length (nk .no) x := fun x => by
  constructor
  · rintro ⟨k, hk, rfl⟩
    obtain ⟨j, hj, e⟩ := List.mem_iff_getElem.mp hk
    refine ⟨j, hj, ?_⟩
    rw [List.getD_eq_getElem?_getD, List.getElem?_map, List.getElem?_eq_getElem hj, e]
    rfl
  · rintro ⟨j, hj, rfl⟩
    refine ⟨(ptsOf R)[j], List.getElem_mem hj, ?_⟩
    rw [List.getD_eq_getElem?_getD, List.getElem?_map, List.getElem?_eq_getElem hj]
    rfl
theorem getD_nk (l : List Kd) (j : Nat) : (l.map nk).getD j (nk .no) = nk (l.getD j .no) := by
  rw [List.getD_eq_getElem?_getD, List.getD_eq_getElem?_getD, List.getElem?_map]
  cases l[j]? <;> rfl
theorem ok46 {f : Addr} {fd : FuncData} (F : Fun K "_law_bounds" "_law_bounds" (topS 46) f fd) (B : Blt mg) (c45 : Cal P w K mg base 1 "_law_ends" (spEnds K w)) : FnOk P w K mg base CX0 2 f fd ["_law_rows_here"] (spBounds K w) := by
  refine F.ok sc46 (fun vs H Q E h => ?_) (fun cdv A outer s H vs Q E hr h => ?_)
  · obtain ⟨t, R, rfl, _⟩ := h
    rfl
  · have hu := hu70 hr
    refine ⟨_, pss_cons (ps_par (i := 1) (j := 2) rfl sc46.nd rfl rfl (by decide) rfl rfl (pa_cons (pe_c c45 hr (by decide) (by rfl) (pa_cons (pv 0) pa_nil)) (pa_cons pe_dnewM pa_nil)) (by rfl))
      (pss_cons (ps_for PassesOwn.never rfl (pi_list (pv 1)) (pg_name (i := 3) sc46.nd rfl (Or.inl rfl)) (pss_one (ps_asg pe_int (pg_sub (pv 2) (pe_tup (pa_cons (pv 3) (pa_cons (pv 3) pa_nil))) (set_md (hu9 hu))))))
      (pss_cons (ps_for PassesOwn.never rfl (pi_tup (pv 0)) (pg_tup rfl (pgs_cons (pg_name (i := 4) sc46.nd rfl (Or.inl rfl)) (pgs_cons (pg_name (i := 5) sc46.nd rfl (Or.inl rfl)) (pgs_cons (pg_name (i := 6) sc46.nd rfl (Or.inl rfl)) pgs_nil))))
        (pss_one (ps_asg (pe_callB (cr_min rfl) (by rfl) B.min boot_min (pa_cons (pe_op op_cat (pe_lst (pa_cons (pv 6) pa_nil)) (pe_ifExp (pt_cmpR (op_inM (hu9 hu)) (pe_tup (pa_cons (pv 4) (pa_cons (pv 5) pa_nil))) (pv 2) rfl) (pe_lst (pa_cons (pe_ix (ix_md (hu9 hu)) (pv 2) (pe_tup (pa_cons (pv 4) (pa_cons (pv 5) pa_nil))) (fun _ _ => rfl)) pa_nil)) (pe_lst pa_nil))) pa_nil))
          (pg_sub (pv 2) (pe_tup (pa_cons (pv 4) (pa_cons (pv 5) pa_nil))) (set_md (hu9 hu))))))
      (pss_cons (ps_for PassesOwn.never rfl (pi_list (pv 1)) (pg_name (i := 7) sc46.nd rfl (Or.inl rfl)) (pss_one (ps_for PassesOwn.never rfl (pi_list (pv 1)) (pg_name (i := 4) sc46.nd rfl (Or.inl rfl)) (pss_one (ps_for PassesOwn.never rfl (pi_list (pv 1)) (pg_name (i := 5) sc46.nd rfl (Or.inl rfl))
        (pss_one (ps_if (pw_and (pt_cmpR (op_inM (hu9 hu)) (pe_tup (pa_cons (pv 4) (pa_cons (pv 7) pa_nil))) (pv 2) rfl) (pw_and1 (pt_cmpR (op_inM (hu9 hu)) (pe_tup (pa_cons (pv 7) (pa_cons (pv 5) pa_nil))) (pv 2) rfl))).pt
          (pss_cons (ps_set (i := 8) sc46.nd rfl (Or.inl rfl) (pe_op op_add (pe_ix (ix_md (hu9 hu)) (pv 2) (pe_tup (pa_cons (pv 4) (pa_cons (pv 7) pa_nil))) (fun _ _ => rfl)) (pe_ix (ix_md (hu9 hu)) (pv 2) (pe_tup (pa_cons (pv 7) (pa_cons (pv 5) pa_nil))) (fun _ _ => rfl))))
          (pss_one (ps_asg (pe_callB (r := rMin2) (call_min2 rfl) (by rfl) B.min boot_min (pa_cons (pv 8) (pa_cons (pe_getM2 (hu9 hu) (pv 2) (pe_tup (pa_cons (pv 4) (pa_cons (pv 5) pa_nil))) (pv 8) ⟨rfl, rfl, rfl, rfl⟩) pa_nil)))
            (pg_sub (pv 2) (pe_tup (pa_cons (pv 4) (pa_cons (pv 5) pa_nil))) (set_md (hu9 hu)))))) pss_nil)))))))
      (pss_one (ps_ret (pv 2)))))), ?_⟩
    obtain ⟨t, R, rfl, ⟨vs, st0, pr0⟩, ro, q⟩ := h
    have sl : sizeLine = 16777216 := sizeLine_eq
    have len : ∀ {n : Nat}, n ≤ 1000 → n ≤ sizeLine := fun h => by rw [sl]; omega
    have hl := ro.len
    have lN := len_pts R
    refine ⟨_, rfl, t, R, rfl, ⟨vs, st0, pr0⟩, ro, fun H1 pl s1 hpl ⟨ys, hys, py⟩ => ?_⟩
    intro D hD
    refine ⟨_, _, rfl, ?_⟩
    have hDH := s1.free hD
    have st : SqT K H1 t vs := Tups.same s1 _ _ st0
    have pr : Paired (RowV K H1) R vs := Paired.mapP pr0 fun _ _ h => h.mono (.same s1)
    have lv := paired_len pr
    have ly := paired_len py
    replace q : ∀ H' F, Wk K w H1 D 1000000 F H' → Fd.Whole (rws R) (isP R) F → Q (.ref D) H' := fun H' F k wh => q H' D F (s1.trans k.same) hDH k.ft wh
    have k0 : Wk K w H1 D 0 (fun _ _ => none) (upd H1 D (MD w D [])) := ⟨same_new hD, hD, [], upd_same, fun x hx => (nomatch hx), Nat.le_refl _, fun a b => rfl⟩
    clear st0 pr0 s1 hpl hDH
    generalize hN : (ptsOf R).length = N at *
    have kd : ∀ {j : Nat} {n : Nat} {F : FTab} {H' : Hp}, j < N → Wk K w H1 D n F H' → KdV K H' ((ptsOf R).getD j .no) (ys.getD j .non) := fun hj k => (paired_getD py (a0 := .no) (b0 := .non) (by omega)).mono k.tups
    have isp : ∀ {j : Nat}, j < N → isP R (nk ((ptsOf R).getD j .no)) := fun hj => ⟨_, getD_mem (by omega), rfl⟩
    have list1 : ∀ {n : Nat} {F : FTab} {H' : Hp}, Wk K w H1 D n F H' → SqL K H' pl ys := fun k => .inl (.inl (k.same _ _ hys))
    -- the points themselves
    refine ⟨_, rfl, pl, rfl, ⟨ys, list1 k0⟩, ?_⟩
    have S := steady_list (K := K) (a := pl) (xs := ys)
    rw [← ly] at S
    refine for_steady S (fun i σ H' => ∃ G z3 z4 z5 z6 z7 z8, σ = [some (.ref t), some (.ref pl), some (.ref D), z3, z4, z5, z6, z7, z8] ∧ Wk K w H1 D i G H' ∧ Fd.Base (rws R) (isP R) G ∧ (∀ j, j < i → G (nk ((ptsOf R).getD j .no)) (nk ((ptsOf R).getD j .no)) = some 0)) ⟨_, _, _, _, _, _, _, rfl, k0, Fd.Base.none _ _, fun j hj => absurd hj (Nat.not_lt_zero j)⟩ (fun _ _ _ _ ⟨_, _, _, _, _, _, _, _, k, _⟩ => list1 k) ?_ ?_
    · rintro i σ H2 hi ⟨G, z3, z4, z5, z6, z7, z8, rfl, k2, b2, d2⟩
      have kk := kd hi k2
      refine ⟨_, rfl, _, rfl, _, rfl, len (by simp), fun tp htp => ?_⟩
      have k3 := k2.new (o := .tup [ys.getD i .non, ys.getD i .non]) htp
      have kk3 := kd hi k3
      refine k3.ft.put kk3 kk3 (.inl (.inl upd_same)) (by omega) fun H4 b4 t4 f4 => ?_
      refine ⟨_, _, _, _, _, _, _, rfl, k3.to b4 f4, b2.diag (isp hi), fun j hj => ?_⟩
      unfold Fd.setT
      by_cases c : nk ((ptsOf R).getD i .no) = nk ((ptsOf R).getD j .no)
      · rw [if_pos ⟨c, c⟩]
      · rw [if_neg (fun z => c z.1)]
        exact d2 j (by
          by_cases e : j = i
          · subst e; exact absurd rfl c
          · omega)
    · rintro σ H2 ⟨G, z3, z4, z5, z6, z7, z8, rfl, k2, b2, d2⟩
      have dg : ∀ p, isP R p → ∃ v, G p p = some v ∧ v ≤ 0 := fun p hp => by
        obtain ⟨j, hj, ej⟩ := (upTo_pts R p).mp hp
        rw [getD_nk] at ej
        refine ⟨0, ?_, Int.le_refl _⟩
        rw [← ej]
        exact d2 j (by omega)
      clear d2 S
      -- the rows
      have tupT : ∀ {n : Nat} {F : FTab} {H' : Hp}, Wk K w H1 D n F H' → SqT K H' t vs := fun k => k.tups _ _ st
      refine ⟨_, rfl, t, rfl, ⟨vs, tupT k2⟩, ?_⟩
      have S := steady_tup (K := K) (a := t) (xs := vs)
      rw [← lv] at S
      refine for_steady S (fun i σ H' => ∃ G z3 z4 z5 z6 z7 z8, σ = [some (.ref t), some (.ref pl), some (.ref D), z3, z4, z5, z6, z7, z8] ∧ Wk K w H1 D (N + i) G H' ∧ Fd.Base (rws R) (isP R) G ∧ (∀ p, isP R p → ∃ v, G p p = some v ∧ v ≤ 0) ∧ (∀ j, j < i → ∃ v, G (pN R j) (qN R j) = some v ∧ v ≤ mN R j)) ⟨_, _, _, _, _, _, _, rfl, k2.le (by omega), b2, dg, fun j hj => absurd hj (Nat.not_lt_zero j)⟩ (fun _ _ _ _ ⟨_, _, _, _, _, _, _, _, k, _⟩ => tupT k) ?_ ?_
      · rintro i σ H3 hi ⟨G, z3, z4, z5, z6, z7, z8, rfl, k3, b3, g3, r3⟩
        obtain ⟨u, x, y, eu, su, kx, ky⟩ := (paired_getD pr (a0 := (.no, .no, 0)) (b0 := .non) hi).mono k3.tups
        rw [eu]
        refine ⟨u, _, rfl, su, rfl, _, _, rfl, _, _, rfl, _, _, rfl, rfl, ?_⟩
        refine ⟨_, rfl, len (by simp), fun p1 hp1 => ?_⟩
        have k4 := k3.new (o := .lst [.int (mN R i)]) hp1
        have s4 := same_new (o := .lst [.int (mN R i)]) hp1
        have l4 : (upd H3 p1 (.lst [.int (mN R i)])) p1 = some (.lst [.int (mN R i)]) := upd_same
        have kx4 := kx.mono (K := K) (.same s4)
        have ky4 := ky.mono (K := K) (.same s4)
        generalize upd H3 p1 (.lst [.int (mN R i)]) = H4 at *
        refine ⟨_, rfl, _, rfl, len (by simp), fun p2 hp2 => ⟨_, rfl, ?_⟩⟩
        have k5 := k4.new (o := .tup [x, y]) hp2
        have s5 := same_new (o := .tup [x, y]) hp2
        have l5 := s5 _ _ l4
        have kx5 := kx4.mono (K := K) (.same s5)
        have ky5 := ky4.mono (K := K) (.same s5)
        have t5 : SqT K (upd H4 p2 (.tup [x, y])) p2 [x, y] := .inl (.inl upd_same)
        generalize upd H4 p2 (.tup [x, y]) = H5 at *
        refine k5.ft.in_ kx5 ky5 t5 ?_
        cases hG : G (nk (rowN R i).1) (nk (rowN R i).2.1) with
        | none =>
          refine ⟨_, rfl, iteF ⟨len (by simp), fun p3 hp3 => ?_⟩⟩
          have k6 := k5.new (o := .lst []) hp3
          have s6 := same_new (o := .lst []) hp3
          refine ⟨p1, p3, _, _, rfl, rfl, s6 _ _ l5, upd_same, len (by simp), fun p4 hp4 => nil_i ⟨p4, [mN R i], rfl, .inl (.inl upd_same), by simp, fun m hm hle => ?_⟩⟩
          have em : m = mN R i := List.mem_singleton.mp hm
          have g1' : m = mN R i ∨ G (pN R i) (qN R i) = some m := .inl em
          have g2' : m ≤ mN R i := by omega
          have g3' : ∀ u, G (pN R i) (qN R i) = some u → m ≤ u := fun u e => by
            change G (nk (rowN R i).1) (nk (rowN R i).2.1) = some u at e
            rw [hG] at e
            cases e
          have k6 := k6.new (o := .lst ([.int (mN R i)] ++ [])) hp4
          have s7 := s6.trans (same_new (o := .lst ([.int (mN R i)] ++ [])) hp4)
          have kx6 := kx5.mono (K := K) (.same s7)
          have ky6 := ky5.mono (K := K) (.same s7)
          refine ⟨_, rfl, _, rfl, _, rfl, len (by simp), fun p8 hp8 => ?_⟩
          have k8 := k6.new (o := .tup [x, y]) hp8
          have s8 := same_new (o := .tup [x, y]) hp8
          refine k8.ft.put (kx6.mono (.same s8)) (ky6.mono (.same s8)) (.inl (.inl upd_same)) (by omega) fun H9 b9 t9 f9 => ?_
          have lt : Fd.leT (Fd.setT G (pN R i) (qN R i) m) G := Fd.leT.set g3'
          refine ⟨_, _, _, _, _, _, _, rfl, k8.to b9 f9, b3.row hi (pts_p hi) (pts_q hi) g1', fun p hp => ?_, fun j hj => ?_⟩
          · obtain ⟨v, e, hv⟩ := g3 p hp
            obtain ⟨v', e', hv'⟩ := lt p p v e
            exact ⟨v', e', by omega⟩
          · by_cases c : j = i
            · subst c
              exact ⟨m, by unfold Fd.setT; rw [if_pos ⟨rfl, rfl⟩], g2'⟩
            · obtain ⟨v, e, hv⟩ := r3 j (by omega)
              obtain ⟨v', e', hv'⟩ := lt _ _ v e
              exact ⟨v', e', by omega⟩
        | some z =>
          refine ⟨_, rfl, iteT ⟨_, rfl, _, rfl, _, rfl, len (by simp), fun p3 hp3 => ?_⟩⟩
          have k6 := k5.new (o := .tup [x, y]) hp3
          have s6 := same_new (o := .tup [x, y]) hp3
          refine k6.ft.ix (kx5.mono (.same s6)) (ky5.mono (.same s6)) (.inl (.inl upd_same)) hG ⟨len (by simp), fun p4 hp4 => ?_⟩
          have k6 := k6.new (o := .lst [.int z]) hp4
          have s7 := same_new (o := .lst [.int z]) hp4
          refine ⟨p1, p4, _, _, rfl, rfl, s7 _ _ (s6 _ _ l5), upd_same, len (by simp), fun p5 hp5 => nil_i ⟨p5, [mN R i, z], rfl, .inl (.inl upd_same), by simp, fun m hm hle => ?_⟩⟩
          have g1' : m = mN R i ∨ G (pN R i) (qN R i) = some m := by
            simp only [List.mem_cons, List.not_mem_nil, or_false] at hm
            rcases hm with e | e
            · exact .inl e
            · exact .inr (by rw [e]; exact hG)
          have g2' : m ≤ mN R i := hle _ (by simp)
          have g3' : ∀ u, G (pN R i) (qN R i) = some u → m ≤ u := fun u e => by
            change G (nk (rowN R i).1) (nk (rowN R i).2.1) = some u at e
            rw [hG] at e
            cases e
            exact hle _ (by simp)
          have k6 := k6.new (o := .lst ([.int (mN R i)] ++ [.int z])) hp5
          have s8 := (s6.trans s7).trans (same_new (o := .lst ([.int (mN R i)] ++ [.int z])) hp5)
          have kx6 := kx5.mono (K := K) (.same s8)
          have ky6 := ky5.mono (K := K) (.same s8)
          refine ⟨_, rfl, _, rfl, _, rfl, len (by simp), fun p8 hp8 => ?_⟩
          have k8 := k6.new (o := .tup [x, y]) hp8
          have s8 := same_new (o := .tup [x, y]) hp8
          refine k8.ft.put (kx6.mono (.same s8)) (ky6.mono (.same s8)) (.inl (.inl upd_same)) (by omega) fun H9 b9 t9 f9 => ?_
          have lt : Fd.leT (Fd.setT G (pN R i) (qN R i) m) G := Fd.leT.set g3'
          refine ⟨_, _, _, _, _, _, _, rfl, k8.to b9 f9, b3.row hi (pts_p hi) (pts_q hi) g1', fun p hp => ?_, fun j hj => ?_⟩
          · obtain ⟨v, e, hv⟩ := g3 p hp
            obtain ⟨v', e', hv'⟩ := lt p p v e
            exact ⟨v', e', by omega⟩
          · by_cases c : j = i
            · subst c
              exact ⟨m, by unfold Fd.setT; rw [if_pos ⟨rfl, rfl⟩], g2'⟩
            · obtain ⟨v, e, hv⟩ := r3 j (by omega)
              obtain ⟨v', e', hv'⟩ := lt _ _ v e
              exact ⟨v', e', by omega⟩
      · rintro σ H3 ⟨G, z3, z4, z5, z6, z7, z8, rfl, k3, b3, g3, r3⟩
        clear S
        have bnd : ∀ {s i j : Nat}, s < N → i < N → j < N → N + 20 + (s * N + i) * N + j < 1000000 := fun {s i j} h1 h2 h3 => by
          have m1 : s * N ≤ 41 * 41 := Nat.mul_le_mul (by omega) (by omega)
          have m2 : (s * N + i) * N ≤ 1722 * 41 := Nat.mul_le_mul (by omega) (by omega)
          omega
        have S := steady_list (K := K) (a := pl) (xs := ys)
        rw [← ly] at S
        have lnk : ((ptsOf R).map nk).length = N := by rw [List.length_map]; exact hN
        have hP : ∀ x, isP R x → Fd.upTo ((ptsOf R).map nk) ((ptsOf R).map nk).length (nk .no) x := fun x hx => by
          rw [lnk, ← hN]; exact (upTo_pts R x).mp hx
        refine ⟨_, rfl, pl, rfl, ⟨ys, list1 k3⟩, ?_⟩
        refine for_steady S (fun s σ H' => ∃ G z3 z4 z5 z6 z7 z8, σ = [some (.ref t), some (.ref pl), some (.ref D), z3, z4, z5, z6, z7, z8] ∧ Wk K w H1 D (N + 20 + (s * N + 0) * N + 0) G H' ∧ Fd.Mids (rws R) (isP R) ((ptsOf R).map nk) (nk .no) s G) ⟨_, _, _, _, _, _, _, rfl, k3.le (by omega), ⟨b3, g3, r3, fun g s ⟨j, hj, _⟩ => absurd hj (Nat.not_lt_zero j)⟩⟩ (fun _ _ _ _ ⟨_, _, _, _, _, _, _, _, k, _⟩ => list1 k) ?_ ?_
        · rintro s σ H4 hs ⟨G0, z3, z4, z5, z6, z7, z8, rfl, k4, m4⟩
          refine ⟨_, rfl, pl, rfl, ⟨ys, list1 k4⟩, ?_⟩
          refine for_steady S (fun i σ H' => ∃ G z3 z4 z5 z6 z8, σ = [some (.ref t), some (.ref pl), some (.ref D), z3, z4, z5, z6, some (ys.getD s .non), z8] ∧ Wk K w H1 D (N + 20 + (s * N + i) * N + 0) G H' ∧ Fd.Base (rws R) (isP R) G ∧ Fd.Turn G0 (((ptsOf R).map nk).getD s (nk .no)) (Fd.seenP ((ptsOf R).map nk) (nk .no) i 0) G)
            ⟨_, _, _, _, _, _, rfl, k4, m4.base, (Fd.Turn.start G0 _).weak fun a b u v _ _ h => by rcases h with ⟨j, hj, _⟩ | ⟨_, j, hj, _⟩ <;> omega⟩ (fun _ _ _ _ ⟨_, _, _, _, _, _, _, k, _⟩ => list1 k) ?_ ?_
          · rintro i σ H5 hi ⟨G1, z3, z4, z5, z6, z8, rfl, k5, b5, t5⟩
            refine ⟨_, rfl, pl, rfl, ⟨ys, list1 k5⟩, ?_⟩
            refine for_steady S (fun j σ H' => ∃ G z3 z5 z6 z8, σ = [some (.ref t), some (.ref pl), some (.ref D), z3, some (ys.getD i .non), z5, z6, some (ys.getD s .non), z8] ∧ Wk K w H1 D (N + 20 + (s * N + i) * N + j) G H' ∧ Fd.Base (rws R) (isP R) G ∧ Fd.Turn G0 (((ptsOf R).map nk).getD s (nk .no)) (Fd.seenP ((ptsOf R).map nk) (nk .no) i j) G)
              ⟨_, _, _, _, _, rfl, k5, b5, t5⟩ (fun _ _ _ _ ⟨_, _, _, _, _, _, k, _⟩ => list1 k) ?_ ?_
            · rintro j σ H6 hj ⟨G, z3, z5, z6, z8, rfl, k6, b6, t6⟩
              rw [getD_nk] at t6 ⊢
              have xi := kd hi k6
              have xm := kd hs k6
              have xj := kd hj k6
              have bn := bnd hs hi hj
              have next : ∀ {V' : NK → NK → Prop} {G' : FTab}, Fd.Turn G0 (nk ((ptsOf R).getD s .no)) (fun a b => Fd.seenP ((ptsOf R).map nk) (nk .no) i j a b ∨ (a = nk ((ptsOf R).getD i .no) ∧ b = nk ((ptsOf R).getD j .no))) G' → Fd.Turn G0 (nk ((ptsOf R).getD s .no)) (Fd.seenP ((ptsOf R).map nk) (nk .no) i (j + 1)) G' := fun t => t.weak fun a b u v _ _ h => by
                rcases Fd.seenP_next h with h | ⟨h1, h2⟩
                · exact .inl h
                · exact .inr ⟨by rw [h1, getD_nk], by rw [h2, getD_nk]⟩
              generalize (ptsOf R).getD i .no = ki at *
              generalize (ptsOf R).getD s .no = km at *
              generalize (ptsOf R).getD j .no = kj at *
              generalize ys.getD i .non = vi at *
              generalize ys.getD s .non = vm at *
              generalize ys.getD j .non = vj at *
              refine ⟨_, rfl, _, rfl, len (by simp), fun p1 hp1 => ⟨_, rfl, ?_⟩⟩
              have k7 := k6.new (o := .tup [vi, vm]) hp1
              have s7 := same_new (o := .tup [vi, vm]) hp1
              have xi := xi.mono (K := K) (.same s7)
              have xm := xm.mono (K := K) (.same s7)
              have xj := xj.mono (K := K) (.same s7)
              refine k7.ft.in_ xi xm (.inl (.inl upd_same)) ?_
              generalize upd H6 p1 (.tup [vi, vm]) = H7 at *
              cases hu : G (nk ki) (nk km) with
              | none => exact ⟨_, rfl, iteF (iteF ⟨G, _, _, _, _, rfl, k7.le (by omega), b6, next (V' := fun _ _ => True) (t6.skip (.inl hu))⟩)⟩
              | some u =>
              refine ⟨_, rfl, iteT ⟨_, rfl, _, rfl, len (by simp), fun p2 hp2 => ⟨_, rfl, ?_⟩⟩⟩
              have k8 := k7.new (o := .tup [vm, vj]) hp2
              have s8 := same_new (o := .tup [vm, vj]) hp2
              have xi := xi.mono (K := K) (.same s8)
              have xm := xm.mono (K := K) (.same s8)
              have xj := xj.mono (K := K) (.same s8)
              refine k8.ft.in_ xm xj (.inl (.inl upd_same)) ?_
              generalize upd H7 p2 (.tup [vm, vj]) = H8 at *
              cases hv : G (nk km) (nk kj) with
              | none => exact ⟨_, rfl, iteF ⟨G, _, _, _, _, rfl, k8.le (by omega), b6, next (V' := fun _ _ => True) (t6.skip (.inr hv))⟩⟩
              | some v =>
              refine ⟨_, rfl, iteT ⟨_, rfl, _, rfl, _, rfl, len (by simp), fun p3 hp3 => ?_⟩⟩
              have k9 := k8.new (o := .tup [vi, vm]) hp3
              have s9 := same_new (o := .tup [vi, vm]) hp3
              have xi := xi.mono (K := K) (.same s9)
              have xm := xm.mono (K := K) (.same s9)
              have xj := xj.mono (K := K) (.same s9)
              refine k9.ft.ix xi xm (.inl (.inl upd_same)) hu ?_
              generalize upd H8 p3 (.tup [vi, vm]) = H9 at *
              refine ⟨_, rfl, _, rfl, _, rfl, len (by simp), fun p4 hp4 => ?_⟩
              have kA := k9.new (o := .tup [vm, vj]) hp4
              have sA := same_new (o := .tup [vm, vj]) hp4
              have xi := xi.mono (K := K) (.same sA)
              have xm := xm.mono (K := K) (.same sA)
              have xj := xj.mono (K := K) (.same sA)
              refine kA.ft.ix xm xj (.inl (.inl upd_same)) hv ⟨_, _, rfl, rfl, ?_⟩
              generalize upd H9 p4 (.tup [vm, vj]) = HA at *
              obtain ⟨xs, f1, f2, f3, f4⟩ := kA.ft
              refine ⟨_, rfl, _, rfl, D, xs, rfl, .inl f1, _, rfl, _, rfl, len (by simp), fun p5 hp5 => ⟨_, rfl, ?_⟩⟩
              have kB := kA.new (o := .tup [vi, vj]) hp5
              have sB := same_new (o := .tup [vi, vj]) hp5
              have xi := xi.mono (K := K) (.same sB)
              have xj := xj.mono (K := K) (.same sB)
              have tB : SqT K (upd HA p5 (.tup [vi, vj])) p5 [vi, vj] := .inl (.inl upd_same)
              refine ⟨xs, _, ⟨.inl (sB _ _ f1), fun x hx => (f2 x hx).mono (.same sB)⟩, pair_key xi xj tB, ?_⟩
              rw [f4]
              generalize upd HA p5 (.tup [vi, vj]) = HB at *
              obtain ⟨m, em, h1, h2, h3⟩ : ∃ m : Int, (∀ Q : VK, Q (.int m) HB → rMin2 [V.int (u + v), ((G (nk ki) (nk kj)).map V.int).getD (.int (u + v))] HB Q) ∧ m ≤ u + v ∧ (∀ z, G (nk ki) (nk kj) = some z → m ≤ z) ∧ (m = u + v ∨ G (nk ki) (nk kj) = some m) := by
                cases hw : G (nk ki) (nk kj) with
                | none => exact ⟨u + v, fun Q h => ⟨_, _, rfl, by rw [if_neg (by omega)]; exact h⟩, Int.le_refl _, fun z e => (nomatch e), .inl rfl⟩
                | some z =>
                  by_cases c : z < u + v
                  · exact ⟨z, fun Q h => ⟨_, _, rfl, by rw [if_pos c]; exact h⟩, by omega, fun z' e => by cases e; exact Int.le_refl _, .inr rfl⟩
                  · exact ⟨u + v, fun Q h => ⟨_, _, rfl, by rw [if_neg c]; exact h⟩, Int.le_refl _, fun z' e => by cases e; omega, .inl rfl⟩
              refine nil_i ?_
              refine em _ ?_
              refine ⟨_, rfl, _, rfl, _, rfl, len (by simp), fun p6 hp6 => ?_⟩
              have kC := kB.new (o := .tup [vi, vj]) hp6
              have sC := same_new (o := .tup [vi, vj]) hp6
              refine kC.ft.put (xi.mono (.same sC)) (xj.mono (.same sC)) (.inl (.inl upd_same)) bn fun HD bD tD fD => ?_
              exact ⟨_, _, _, _, _, rfl, kC.to bD fD, b6.way hu hv h3, next (V' := fun _ _ => True) (t6.put hu hv h1 h2 h3)⟩
            · rintro σ H6 ⟨G, z3, z5, z6, z8, rfl, k6, b6, t6⟩
              refine ⟨G, _, _, _, _, _, rfl, k6.le (by have e : (s * N + (i + 1)) * N = (s * N + i) * N + N := Nat.succ_mul _ _; omega), b6, t6.weak fun a b u v _ hb h => ?_⟩
              have pb := hP b (m4.base.dom _ _ _ hb).2
              have h := Fd.seenP_row pb h
              rw [lnk] at h
              exact h
          · rintro σ H5 ⟨G, z3, z4, z5, z6, z8, rfl, k5, b5, t5⟩
            refine ⟨G, _, _, _, _, _, _, rfl, k5.le (by have e : (s + 1) * N = s * N + N := Nat.succ_mul _ _; rw [e]; exact Nat.le_refl _), m4.next hP b5 t5 fun a c u v ha _ => .inl ?_⟩
            have pa := hP a (m4.base.dom _ _ _ ha).1
            rw [lnk] at pa
            exact pa
        · rintro σ H4 ⟨G, z3, z4, z5, z6, z7, z8, rfl, k4, m4⟩
          have lim : N + 20 + (N * N + 0) * N + 0 ≤ 1000000 := by
            have m1 : N * N ≤ 41 * 41 := Nat.mul_le_mul (by omega) (by omega)
            have m2 : (N * N + 0) * N ≤ 1681 * 41 := Nat.mul_le_mul (by omega) (by omega)
            omega
          refine ⟨_, rfl, q H4 G (k4.le lim) (Fd.Mids.whole (l := (ptsOf R).map nk) (d := nk .no) ?_ hP)⟩
          rw [lnk]
          exact m4
end
end Fc
namespace Fc
open PySem L2 PyProof.Rows
/-! ### str(k) -/
def strK : Kd → Str
  | .w x => x
  | k => (pd k).shown
theorem call_strK {X : Cx} (hgd : X.A.guards = some []) (hu : X.A.units + 70 < cLine) : CallR X (.type "str") (fun xs H Q => ∃ v k, xs = [v] ∧ KdV X.K H k v ∧ isPtK k = true ∧ Shows (pd k) ∧ Q (.str (strK k)) H) := by
  intro pins s σ H xs us Q I r ⟨v, k, ex, hk, hp, S, q⟩
  subst ex
  obtain ⟨u, eu, rv⟩ := vals1 r
  subst eu
  have dp := hk.dp
  have dep := S.depth
  obtain ⟨as, rd⟩ := Dp.reads I (pd k) v u dp rv
  cases k with
  | w x =>
    cases hk
    obtain ⟨t, e⟩ := (show ∃ t, u = Value.str x t from rv)
    subst e
    exact PySem.P.str_of_str ⟨.str x, H, I, ⟨t, rfl⟩, q⟩
  | c a b i =>
    obtain ⟨p, e, hs⟩ := hk
    subst e
    cases (show u = Value.ref p from rv)
    exact str_of_reads rd S.show_ (fun z => by rw [Dp.noDict _ _ dp] at z; cases z) hgd (by omega) (fun _ _ e => e) (fun h' u tk k => ⟨.str _, H, I.kept (t' := tk) k, ⟨_, rfl⟩, q⟩) S.fits
  | cb a b t => cases hp
  | n i => cases hp
  | no => cases hp
/-! ### sorted texts -/
def sortS (l : List Str) : List Str := l.mergeSort (PySem.W.dataLe false fun x => PyData.str x)
theorem sortS_perm {l m : List Str} (h : l.Perm m) : sortS l = sortS m := by
  have T := PySem.W.sortLe_total (PyProof.Rows.listOrd PyProof.Rows.itemOrd) false fun x : Str => PySem.W.keyToks (PyData.str x)
  refine List.Perm.eq_of_pairwise (le := fun a b => PySem.W.dataLe false (fun x => PyData.str x) a b = true) (fun a b _ _ h1 h2 => ?_) (PySem.W.sort_pairwise T l) (PySem.W.sort_pairwise T m) (((List.mergeSort_perm l _).trans h).trans (List.mergeSort_perm m _).symm)
  have e := PySem.W.dataLe_str (fun x : Str => x)
  rw [e] at h1 h2
  have h3 := List.le_antisymm (of_decide_eq_true h1) (of_decide_eq_true h2)
  exact PyProof.Rows.str_of_list h3
abbrev rSortS (K : PySem.W.Frag) : List V → Hp → VK → Prop := fun vs H Q => ∃ (a : Addr) (bs : List (Str × V)), vs = [V.ref a] ∧ SqL K H a (bs.map (·.2)) ∧ PySem.W.AllAlike (bs.map fun b => PyData.str b.1) ∧ PySem.W.Sortable (bs.map fun b => PyData.str b.1) ∧
    (∀ b ∈ bs, Dp K H b.2 (PyData.str b.1)) ∧ bs.length ≤ 200 ∧ (∀ b ∈ bs, (PyData.str b.1).depth ≤ 5) ∧ ∀ (bs' : List (Str × V)) (p : Addr), bs'.Perm bs → bs' = bs.mergeSort (PySem.W.dataLe false fun b => PyData.str b.1) → H p = none → Q (.ref p) (upd H p (.lst (bs'.map (·.2))))
theorem sortS_call {K : PySem.W.Frag} {H : Hp} {p : Addr} {l : List Str} {Q : VK} (hp : SqL K H p (l.map V.str)) (hl : l.length ≤ 200) (q : ∀ H' r, Same H H' → H' r = some (.lst ((sortS l).map V.str)) → Q (.ref r) H') : rSortS K [V.ref p] H Q := by
  have e2 : ((l.map fun x => (x, V.str x)).map (·.2)) = l.map V.str := by rw [List.map_map]; rfl
  have e1 : ((l.map fun x => (x, V.str x)).map fun b => PyData.str b.1) = l.map PyData.str := by rw [List.map_map]; rfl
  refine ⟨p, l.map fun x => (x, V.str x), rfl, by rw [e2]; exact hp, ?_, ?_, fun b hb => ?_, by rw [List.length_map]; exact hl, fun b hb => ?_, fun bs' r pm hbs hr => ?_⟩
  · rw [e1]
    intro d hd e he
    obtain ⟨x, _, ex⟩ := List.mem_map.mp hd
    obtain ⟨y, _, ey⟩ := List.mem_map.mp he
    subst ex ey
    rfl
  · rw [e1]
    have h : ∀ k ∈ l.map Kd.w, isW k = true := fun k hk => by obtain ⟨x, _, e⟩ := List.mem_map.mp hk; rw [← e]; rfl
    have h2 := (sort_w h).2
    have e3 : (l.map Kd.w).map pd = l.map PyData.str := by rw [List.map_map]; rfl
    rw [e3] at h2
    exact h2
  · obtain ⟨x, _, e⟩ := List.mem_map.mp hb
    rw [← e]; exact .str x
  · simp [PyData.depth]
  · have sp := same_new (o := .lst (bs'.map (·.2))) hr
    refine q _ r sp ?_
    rw [upd_same]
    congr 2
    rw [hbs]
    have h1 : (((l.map fun x => (x, V.str x)).mergeSort (PySem.W.dataLe false fun b : Str × V => PyData.str b.1)).map fun b : Str × V => b.2) = ((l.map fun x => (x, V.str x)).mergeSort (PySem.W.dataLe false fun b : Str × V => PyData.str b.1)).map fun b : Str × V => V.str b.1 := by
      refine List.map_congr_left fun b hb => ?_
      have hb' := (List.mergeSort_perm _ _).mem_iff.mp hb
      obtain ⟨x, _, e⟩ := List.mem_map.mp hb'
      rw [← e]
    rw [h1]
    have h2 := PySem.W.sort_maps (fun b : Str × V => b.1) (r := PySem.W.dataLe false fun b : Str × V => PyData.str b.1) (s := PySem.W.dataLe false fun x => PyData.str x) (l := l.map fun x => (x, V.str x)) fun _ _ _ _ => rfl
    have h3 : ((l.map fun x => (x, V.str x)).map fun b : Str × V => b.1) = l := by rw [List.map_map]; exact List.map_id' l
    rw [h3] at h2
    have h4 := congrArg (List.map V.str) h2
    rw [List.map_map] at h4
    exact h4
/-! ### points of the law -/
theorem p11_ok : ∀ k ∈ pts11, isPtK k = true ∧ kdShort k = true ∧ shK k = true := by
  have h : pts11.all (fun k => isPtK k && kdShort k && shK k) = true := by decide +kernel
  intro k hk
  have := List.all_eq_true.mp h k hk
  simp only [Bool.and_eq_true] at this
  exact ⟨this.1.1, this.1.2, this.2⟩
theorem far_ok : isPtK (.w "far") = true ∧ kdShort (.w "far") = true ∧ shK (.w "far") = true := by decide +kernel
theorem far_p11 : ∀ k ∈ pts11, nk k ≠ nk (.w "far") := by
  have h : pts11.all (fun k => !decide (nk k = nk (.w "far"))) = true := by decide +kernel
  intro k hk e
  have := List.all_eq_true.mp h k hk
  rw [decide_eq_true e] at this
  cases this
theorem p11_shows : ∀ k ∈ pts11, Shows (pd k) := by
  have h : pts11.all (fun k => (pd k).showable && (pd k).leavesShort 2000 && decide ((pd k).weight ≤ 4000) && decide ((pd k).depth ≤ 60)) = true := by decide +kernel
  intro k hk
  have := List.all_eq_true.mp h k hk
  simp only [Bool.and_eq_true, decide_eq_true_eq] at this
  exact ⟨this.1.1.1, this.1.1.2, this.1.2, this.2⟩
theorem LRows.pts {R : List Row} (h : LRows R) : ∀ k ∈ ptsOf R, k ∈ pts11 := pts_ind (Pr := fun k => k ∈ pts11) R (by simp [pts11]) fun r hr => ⟨(h.all r hr).1, (h.all r hr).2.1⟩
theorem LRows.small {R : List Row} (h : LRows R) : ∀ r ∈ R, -(7 * M57) ≤ r.2.2 ∧ r.2.2 ≤ 7 * M57 := fun r hr => (h.all r hr).2.2
theorem small_of {i : Int} (h : -(999 * M57) ≤ i ∧ i ≤ 999 * M57) : small i = true := by
  unfold small
  refine decide_eq_true ?_
  have e : (10 : Int) ^ 60 = 1000 * M57 := by unfold M57; decide +kernel
  have p : (0 : Int) < M57 := by unfold M57; decide +kernel
  rw [e]
  by_cases c : i < 0
  · rw [if_pos c]; omega
  · rw [if_neg c]; omega
theorem LRows.ok {R : List Row} (h : LRows R) : RowsOk R := by
  have p : (0 : Int) < M57 := by unfold M57; decide +kernel
  refine ⟨by have := h.len; omega, fun r hr => ?_, fun r hr => ?_⟩
  · obtain ⟨h1, h2, h3⟩ := h.all r hr
    have a := p11_ok _ h1
    have b := p11_ok _ h2
    unfold okRow
    rw [a.1, a.2.1, b.1, b.2.1, small_of (by omega)]
    rfl
  · obtain ⟨h1, h2, h3⟩ := h.all r hr
    exact ⟨(p11_ok _ h1).2.2, (p11_ok _ h2).2.2⟩
theorem LRows.lenP {R : List Row} (h : LRows R) : (ptsOf R).length ≤ 11 := by
  have nd := pts_nd R
  have h2 := nodup_sub _ (pts11.map nk) nd fun x hx => by
    obtain ⟨k, hk, e⟩ := List.mem_map.mp hx
    exact e ▸ List.mem_map_of_mem (h.pts k hk)
  rw [List.length_map, List.length_map] at h2
  exact h2
/-- the rows with one more -/
theorem LRows.more {R : List Row} (h : LRows R) {k1 k2 : Kd} {m : Int} (h1 : k1 ∈ pts11) (h2 : k2 ∈ pts11) (hm : -(999 * M57) ≤ m ∧ m ≤ 999 * M57) : RowsOk (R ++ [(k2, k1, m)]) := by
  have o := h.ok
  refine ⟨by rw [List.length_append]; have := h.len; simp; omega, fun r hr => ?_, fun r hr => ?_⟩
  · rcases List.mem_append.mp hr with z | z
    · exact o.ok r z
    · rw [List.mem_singleton.mp z]
      have a := p11_ok _ h1
      have b := p11_ok _ h2
      unfold okRow
      rw [a.1, a.2.1, b.1, b.2.1, small_of hm]
      rfl
  · rcases List.mem_append.mp hr with z | z
    · exact o.sh r z
    · rw [List.mem_singleton.mp z]
      exact ⟨(p11_ok _ h2).2.2, (p11_ok _ h1).2.2⟩
theorem rowN_app (R : List Row) (r : Row) : (∀ j, j < R.length → rowN (R ++ [r]) j = rowN R j) ∧ rowN (R ++ [r]) R.length = r := by
  refine ⟨fun j hj => ?_, ?_⟩
  · unfold rowN
    rw [List.getD_eq_getElem?_getD, List.getD_eq_getElem?_getD, List.getElem?_append_left hj]
  · unfold rowN
    rw [List.getD_eq_getElem?_getD, List.getElem?_append_right (Nat.le_refl _), Nat.sub_self]
    rfl
/-! ### rings as data -/
theorem isRing_of {R : List Row} (ro : RowsOk R) {js : List Nat} (rg : Fd.RingJ (rws R) js) : isRing R (.tuple (js.map fun j : Nat => .int (j : Int))) = true := by
  show isRingL R _ = true
  unfold isRingL
  rw [Bool.and_eq_true]
  refine ⟨?_, ?_⟩
  · rw [List.all_map, List.all_eq_true]
    intro j hj
    have := rg.lt j hj
    show (decide (0 ≤ (j : Int)) && decide ((j : Int) < (R.length : Int))) = true
    rw [decide_eq_true (by omega), decide_eq_true (by have : j < R.length := this; omega)]
    rfl
  · have e : (js.map fun j : Nat => PyData.int (j : Int)).map (fun e => rowN R (idxD e)) = js.map (rowN R) := by
      rw [List.map_map]
      refine List.map_congr_left fun j _ => ?_
      show rowN R ((j : Int)).toNat = _
      rw [Int.toNat_natCast]
    rw [e]
    have pos : 0 < js.length := List.length_pos_iff.mpr rg.ne
    unfold ringB
    rw [← links_turn, Bool.and_eq_true]
    refine ⟨?_, decide_eq_true ?_⟩
    · rw [List.all_eq_true]
      intro k hk
      rw [List.mem_range, List.length_map] at hk
      rw [List.length_map, rowN_map R js hk, rowN_map R js (Nat.mod_lt _ pos)]
      have inR : ∀ k, k < js.length → rowN R (js.getD k 0) ∈ R := fun k hk => rowN_mem (rg.lt _ (by rw [List.getD_eq_getElem?_getD, List.getElem?_eq_getElem hk]; exact List.getElem_mem hk))
      have k1 := okRow_pt (ro.ok _ (inR k hk))
      have k2 := okRow_pt (ro.ok _ (inR _ (Nat.mod_lt (k + 1) pos)))
      rw [eqK_nk k1.2 k2.1]
      exact decide_eq_true (rg.on k hk)
    · have := rg.neg
      unfold sumM
      rw [List.map_map]
      exact this
/-! ### told numbers -/
theorem sortK_len (l : List Kd) : (sortK l).length = l.length := (sortK_perm l).length_eq
theorem wc_perm (l : List Kd) (h : ∀ k ∈ l, isPtK k = true) : (l.filter isW ++ l.filter isC).Perm l := by
  induction l with
  | nil => exact .nil
  | cons k l ih =>
    have ih := ih fun x hx => h x (List.mem_cons_of_mem _ hx)
    have hk := h k (by simp)
    cases k with
    | w x =>
      rw [List.filter_cons_of_pos (by rfl), List.filter_cons_of_neg (by simp [isC])]
      exact .cons _ ih
    | c a b i =>
      rw [List.filter_cons_of_neg (by simp [isW]), List.filter_cons_of_pos (by rfl)]
      exact List.perm_middle.trans (.cons _ ih)
    | cb a b t => cases hk
    | n i => cases hk
    | no => cases hk
theorem told_perm {R : List Row} (ro : RowsOk R) : (sortK ((ptsOf R).filter isW) ++ sortK ((ptsOf R).filter isC)).Perm (ptsOf R) :=
  ((sortK_perm _).append (sortK_perm _)).trans (wc_perm _ fun k hk => (ro.pts k hk).1)
theorem sort_head {R : List Row} (ro : RowsOk R) : ∃ ws', sortK ((ptsOf R).filter isW) = .w "" :: ws' := by
  have T := PySem.W.sortLe_total (PyProof.Rows.listOrd PyProof.Rows.itemOrd) false fun k : Kd => PySem.W.keyToks (pd k)
  have pw := PySem.W.sort_pairwise T ((ptsOf R).filter isW)
  have h0 : (.w "" : Kd) ∈ sortK ((ptsOf R).filter isW) := (sortK_perm _).mem_iff.mpr (List.mem_filter.mpr ⟨pts_sub R _ _ (List.mem_singleton.mpr rfl), rfl⟩)
  have hw : ∀ k ∈ sortK ((ptsOf R).filter isW), isW k = true := fun k hk => (List.mem_filter.mp ((sortK_perm _).mem_iff.mp hk)).2
  change (sortK ((ptsOf R).filter isW)).Pairwise _ at pw
  cases e : sortK ((ptsOf R).filter isW) with
  | nil => rw [e] at h0; cases h0
  | cons k ws =>
    rw [e] at h0 pw hw
    refine ⟨ws, ?_⟩
    congr 1
    rcases List.mem_cons.mp h0 with z | z
    · exact z.symm
    · have h1 := (List.pairwise_cons.mp pw).1 _ z
      have h2 := hw k (by simp)
      cases k with
      | w x =>
        have e3 := PySem.W.dataLe_str (fun x : Str => x)
        have h4 : PySem.W.dataLe false (fun x : Str => PyData.str x) x "" = true := h1
        rw [e3] at h4
        have h5 := of_decide_eq_true h4
        have h6 : x.cps.toList = [] := by
          cases e6 : x.cps.toList with
          | nil => rfl
          | cons a l =>
            rw [e6] at h5
            exact absurd (List.nil_lt_cons a l) (List.not_lt.mpr h5)
        congr 1
        exact PyProof.Rows.str_of_list h6
      | c a b i => cases h2
      | cb a b t => cases h2
      | n i => cases h2
      | no => cases h2
/-- told numbers as data -/
def datT (T : List (Kd × Int)) : List (Kd × PyData) := T.map fun e => (e.1, .int e.2)
theorem look_datT (T : List (Kd × Int)) (k : Kd) : lookD (datT T) k = (bo T (nk k)).map PyData.int := by
  unfold lookD datT bo
  rw [List.find?_map]
  show Option.map _ (Option.map _ (T.find? fun e => decide (nk e.1 = nk k))) = _
  cases T.find? fun e => decide (nk e.1 = nk k) <;> rfl
theorem fits_of {R : List Row} (ro : RowsOk R) {T : List (Kd × Int)} (hk : T.map (·.1) = sortK ((ptsOf R).filter isW) ++ sortK ((ptsOf R).filter isC)) (cl : Fd.closed (rws R) (bo T)) (h0 : bt T (nk (.w "")) = 0) : isFitT R (datT T) = true := by
  have pm := told_perm ro
  rw [← hk] at pm
  have tot : ∀ p ∈ ptsOf R, bo T (nk p) = some (bt T (nk p)) := fun p hp => bo_bt (l := T.map (·.1)) rfl ⟨p, pm.mem_iff.mpr hp, rfl⟩
  have iv : ∀ p ∈ ptsOf R, ivD (datT T) p = bt T (nk p) := fun p hp => by
    unfold ivD
    rw [look_datT, tot p hp]
    rfl
  unfold isFitT
  rw [Bool.and_eq_true, Bool.and_eq_true, Bool.and_eq_true]
  refine ⟨decide_eq_true ?_, ?_, ?_, decide_eq_true ?_⟩
  · have := pm.length_eq
    rw [List.length_map] at this
    unfold datT
    rw [List.length_map]
    exact this
  · rw [List.all_eq_true]
    intro e he
    obtain ⟨x, hx, ex⟩ := List.mem_map.mp he
    have hp : x.1 ∈ ptsOf R := pm.mem_iff.mp (List.mem_map_of_mem hx)
    rw [← ex]
    unfold keyOk
    rw [(ro.pts _ hp).1, Bool.true_and, Bool.and_eq_true]
    exact ⟨List.any_eq_true.mpr ⟨x.1, hp, eqv_self⟩, rfl⟩
  · rw [List.all_eq_true]
    intro r hr
    obtain ⟨j, hj, ej⟩ := List.mem_iff_getElem.mp hr
    have e : rowN R j = r := by
      unfold rowN
      rw [List.getD_eq_getElem?_getD, List.getElem?_eq_getElem hj]
      exact ej
    have p1 : r.1 ∈ ptsOf R ∨ True := .inr trivial
    obtain ⟨x1, hx1, ex1⟩ := pts_p hj
    obtain ⟨x2, hx2, ex2⟩ := pts_q hj
    rw [e] at ex1 ex2
    have b1 : bo T (nk r.1) = some (bt T (nk r.1)) := by rw [← ex1]; exact tot x1 hx1
    have b2 : bo T (nk r.2.1) = some (bt T (nk r.2.1)) := by rw [← ex2]; exact tot x2 hx2
    have i1 : ivD (datT T) r.1 = bt T (nk r.1) := by unfold ivD; rw [look_datT, b1]; rfl
    have i2 : ivD (datT T) r.2.1 = bt T (nk r.2.1) := by unfold ivD; rw [look_datT, b2]; rfl
    unfold rowFits
    rw [i1, i2]
    refine decide_eq_true ?_
    obtain ⟨a, ea, ha⟩ := cl j hj (bt T (nk r.2.1)) (by show bo T (nk (rowN R j).2.1) = _; rw [e]; exact b2)
    change bo T (nk (rowN R j).1) = some a at ea
    rw [e, b1] at ea
    cases ea
    change bt T (nk r.1) ≤ bt T (nk r.2.1) + (rowN R j).2.2 at ha
    rw [e] at ha
    omega
  · rw [iv _ (pts_sub R _ _ (List.mem_singleton.mpr rfl))]
    exact h0
end Fc
namespace Fc
open PySem L2 PyProof.Rows
/-- as lc_gen, where the test may lay objects -/
theorem lc_gen2 {K : PySem.W.Frag} {J : It} {n : Nat} {it : Nat → V} {G : Hp → Prop} {tt : TT} {te : TE} {i : Nat} {σ : L2.St} {H1 : Hp} {D : Addr} {Qd : Hp → Prop} (b : Nat → Bool) (Rl : Hp → Nat → V → Prop) (S : Steady J n it G) (hm : Kept K Rl) (hG : ∀ H, Same H1 H → G H) (hi : i < σ.length) (hl : n ≤ 5000) (hD : H1 D = none)
    (ht : ∀ k H Q, k < n → Same H1 H → (∀ H', Same H H' → Q (b k) H') → tt ((wipe σ [i]).set i (some (it k))) H Q)
    (hv : ∀ k H Q, k < n → b k = true → Same H1 H → (∀ H' y, Same H H' → Rl H' k y → Q y H') → te ((wipe σ [i]).set i (some (it k))) H Q)
    (hd : ∀ H' ys, Same H1 H' → H' D = some (.lst ys) → Paired (Rl H') ((List.range n).filter b) ys → Qd H') :
    ∃ W : Nat → Nat → Hp → Prop, (∃ m, W 0 m (upd H1 D (.lst []))) ∧ ∀ i_1 m H, W i_1 m H → (J.stop i_1 H ∧ Qd H) ∨
      (J.go i_1 H ∧ ∃ Nx : Hp → Prop, (∀ H', Nx H' → ∃ m', m' < m ∧ W (i_1 + 1) m' H') ∧ ∀ x H', J.yld i_1 H x H' → gName i x (wipe σ [i]) H' fun σ2 H2 => wipe σ2 [i] = wipe σ [i] ∧ tt σ2 H2 fun b H3 =>
        if b = true then te σ2 H3 fun y H4 => ∃ acc, H4 D = some (.lst acc) ∧ acc.length < sizeLine ∧ Nx (upd H4 D (.lst (acc ++ [y]))) else Nx H3) := by
  refine lc_steady S (fun k H => Same H1 H ∧ ∃ ys, H D = some (.lst ys) ∧ Paired (Rl H) ((List.range k).filter b) ys) ⟨same_new hD, [], upd_same, .nil⟩ (fun _ _ _ h => hG _ h.1) (fun k H hk h => ?_) fun H h => ?_
  · obtain ⟨sm0, ys, hy0, pp0⟩ := h
    have w1 : wipe ((wipe σ [i]).set i (some (it k))) [i] = wipe σ [i] := by
      show ((σ.set i none).set i (some _)).set i none = σ.set i none
      rw [List.set_set, List.set_set]
    refine ⟨w1, ht k H _ hk sm0 fun H3 s3 => ?_⟩
    have sm := sm0.trans s3
    have hy := s3 _ _ hy0
    have pp : Paired (Rl H3) ((List.range k).filter b) ys := Paired.mapP pp0 fun a v h => hm _ _ _ _ (Tups.same s3) h
    have er : List.range (k + 1) = List.range k ++ [k] := List.range_succ
    have ly : ys.length ≤ k := by
      rw [← paired_len pp]
      have := List.length_filter_le b (List.range k)
      rwa [List.length_range] at this
    cases e : b k with
    | false =>
      refine iteF ⟨sm, ys, hy, ?_⟩
      rw [er, List.filter_append]
      have : [k].filter b = [] := by rw [List.filter_cons, e]; rfl
      rw [this, List.append_nil]
      exact pp
    | true =>
      refine iteT (hv k H3 _ hk e sm fun H' y sm' rl => ⟨ys, sm' _ _ hy, by rw [sizeLine_eq]; omega, ?_⟩)
      have tp : Tups K H' (upd H' D (.lst (ys ++ [y]))) := Tups.upd fun u e => by rw [sm' _ _ hy] at e; cases e; exact True.intro
      refine ⟨fun a o ha => by rw [upd_ne (ne_of_none ha hD)]; exact sm' _ _ (sm a o ha), _, upd_same, ?_⟩
      rw [er, List.filter_append]
      have : [k].filter b = [k] := by rw [List.filter_cons, e]; rfl
      rw [this]
      exact paired_snoc (Paired.mapP pp fun a v h => hm _ _ _ _ ((Tups.same sm').trans tp) h) (hm _ _ _ _ tp rl)
  · exact hd H h.2.choose h.1 h.2.choose_spec.1 h.2.choose_spec.2
def spRight (K : PySem.W.Frag) (w : World) : Sp := fun vs H Q _ => ∃ D, vs = [.ref D] ∧ DiceIn H D ∧ ∀ H', But D H H' → DiceIn H' D → Q (.bl true) H'
structure CalG (P : Program) (w : World) (K : PySem.W.Frag) (mg : Str → Option Value) (base : Heap) (k : Nat) (x : Str) (sp : Sp) : Prop where
  at_ : ∃ (f : Addr) (fd : FuncData) (ps : List Str), FnG P w K mg base k f fd ps sp ∧ mg x = some (.ref f) ∧ PySem.W.keepIn K (.ref f) = true ∧ Binds K fd ps []
theorem pe_cg {X : Cx} {k j : Nat} {x : Str} {sp : Sp} {p pos : Pos} {e : Expr} {es : List Expr} {t : TA} (c : CalG X.prog X.w X.K X.mg X.base k x sp) (hgd : X.A.guards = some []) (hr : Room j X.A) (hk : k ≤ j) (hg : Gl X x) (ha : PA X (e :: es) t) (hdb : (x == ("__debug__" : Str)) = false := by decide)
    (he : starEach (e :: es) X.env = (false, eval e X.env) :: starEach es X.env := by rfl) (hpl : (backTo pos (starEach es X.env)).any (·.1) = false := by rfl) : PE X (.Call (.Name x p) (e :: es) [] pos) (tCal sp t) := by
  obtain ⟨f, fd, ps, F, hm, kp, b⟩ := c.at_
  have q := pe_callG (p := p) (pos := pos) F hgd (hr.mono hk) hg hm kp b ha hdb he hpl
  refine ⟨fun pins s σ H Q I h => q.run pins s σ H Q I ?_⟩
  have e : tCall sp [] E0 t = tCal sp t := by funext σ H Q; unfold tCall tCal; simp only [List.append_nil]
  rw [e]
  exact h
/-- what stands behind the first rows of the law's turn -/
structure Cm (K : PySem.W.Frag) (w : World) (H0 : Hp) (D t : Addr) (R : List Row) (db pl : Addr) (ys : List V) (F : FTab) (H' : Hp) : Prop where
  but : But D H0 H'
  dice : DiceIn H' D
  rows : RowsT K H' R t
  ft : FT K w H' db 1000000 F
  lst : H' pl = some (.lst ys)
  pts : Paired (KdV K H') (ptsOf R) ys
  nb : db ≠ D
  nl : pl ≠ D
theorem Cm.same {K : PySem.W.Frag} {w : World} {H0 : Hp} {D t : Addr} {R : List Row} {db pl : Addr} {ys : List V} {F : FTab} {H' H2 : Hp} (c : Cm K w H0 D t R db pl ys F H') (s : Same H' H2) : Cm K w H0 D t R db pl ys F H2 := by
  obtain ⟨x, y, z, e⟩ := c.dice
  exact ⟨c.but.same s, ⟨x, y, z, s _ _ e⟩, c.rows.mono (.same s), c.ft.mono (.same s) (fun u e => s _ _ e) (Nat.le_refl _), s _ _ c.lst, Paired.mapP c.pts fun _ _ h => h.mono (.same s), c.nb, c.nl⟩
theorem Cm.roll {K : PySem.W.Frag} {w : World} {H0 : Hp} {D t : Addr} {R : List Row} {db pl : Addr} {ys : List V} {F : FTab} {H' : Hp} (c : Cm K w H0 D t R db pl ys F H') (x y z : Int) : Cm K w H0 D t R db pl ys F (upd H' D (dicL x y z)) := by
  have tp : Tups K H' (upd H' D (dicL x y z)) := c.dice.tups
  exact ⟨c.but.upd, ⟨x, y, z, upd_same⟩, c.rows.mono tp, c.ft.mono tp (fun u e => by rw [upd_ne c.nb]; exact e) (Nat.le_refl _), by rw [upd_ne c.nl]; exact c.lst, Paired.mapP c.pts fun _ _ h => h.mono tp, c.nb, c.nl⟩
theorem pick_key {K : PySem.W.Frag} {H : Hp} {l : List Kd} {ys : List V} {v : V} (py : Paired (KdV K H) l ys) (hv : v ∈ ys ++ [V.str "far"]) : ∃ k, (k ∈ l ∨ k = .w "far") ∧ KdV K H k v := by
  rcases List.mem_append.mp hv with h | h
  · obtain ⟨j, hj, e⟩ := List.mem_iff_getElem.mp h
    have hl := paired_len py
    refine ⟨l[j]'(by omega), .inl (List.getElem_mem _), paired_at py (List.getElem?_eq_getElem (by omega)) (by rw [List.getElem?_eq_getElem hj, e])⟩
  · exact ⟨.w "far", .inr rfl, List.mem_singleton.mp h⟩
theorem ite_tC {b : Bool} {z1 z2 : V} {σ : L2.St} {H : Hp} {Q : VK} (h : Q (if b = true then z1 else z2) H) : if b = true then tC z1 σ H Q else tC z2 σ H Q := by
  cases b
  · exact h
  · exact h
theorem dp_idx {K : PySem.W.Frag} {H : Hp} : ∀ js : List Nat, DpAll K H (js.map natV) (js.map fun j : Nat => .int (j : Int))
  | [] => .nil
  | j :: js => .cons (.int _) (dp_idx js)
theorem p11_str : ∀ k ∈ pts11, shK (.w (strK k)) = true := by
  have h : pts11.all (fun k => shK (.w (strK k))) = true := by decide +kernel
  exact fun k hk => List.all_eq_true.mp h k hk
theorem shaped_strs (l : List Str) (h : ∀ x ∈ l, shK (.w x) = true) : SeqAt.shaped (.list (l.map .str)) = true := by
  have e : l.map PyData.str = (l.map Kd.w).map pd := by rw [List.map_map]; rfl
  rw [e]
  refine shaped_pts fun k hk => ?_
  obtain ⟨x, hx, ex⟩ := List.mem_map.mp hk
  rw [← ex]
  exact h x hx
theorem eqv_strs (l : List Str) : PyData.eqv (.list (l.map .str)) (.list (l.map .str)) = true := by
  have e : l.map PyData.str = (l.map Kd.w).map pd := by rw [List.map_map]; rfl
  rw [e]
  exact eqvl_self _
theorem dp_strs {K : PySem.W.Frag} {H : Hp} : ∀ l : List Str, DpAll K H (l.map V.str) (l.map .str)
  | [] => .nil
  | x :: l => .cons (.str x) (dp_strs l)
theorem paired_told {K : PySem.W.Frag} {H : Hp} : ∀ {T : List (Kd × Int)} {xs : List Ent}, Paired (TabR K H) (asV .int T) xs → Paired (TD K H) (datT T) xs
  | [], _, p => by cases p; exact .nil
  | e :: T, _, p => by
    have p' : Paired (TabR K H) ((e.1, V.int e.2) :: asV .int T) _ := p
    cases p' with
    | cons h t =>
      obtain ⟨h1, h2, h3⟩ := h
      exact .cons ⟨h1, h2, by rw [h3]; exact .int _⟩ (paired_told t)
/-- told numbers, as is_fitting reads them -/
theorem told_near {K : PySem.W.Frag} {w : World} {H : Hp} {a : Addr} {T : List (Kd × Int)} {R : List Row} (lr : LRows R) (tb : TabIs K w H a (asV .int T)) (nd : (T.map fun e => nk e.1).Nodup) (hin : ∀ e ∈ T, e.1 ∈ ptsOf R) (hlen : T.length ≤ 200) : NearV K w H (.ref a) (.tab (datT T)) := by
  obtain ⟨xs, hx, pp⟩ := tb
  refine ⟨a, rfl, ⟨xs, hx, ?_⟩, ⟨?_, by unfold datT; rw [List.length_map]; exact hlen, fun e he => ?_, fun e he => ?_⟩, fun e he => ?_⟩
  · exact paired_told pp
  · unfold datT
    rw [List.map_map]
    exact nd
  · obtain ⟨x, hx, ex⟩ := List.mem_map.mp he
    rw [← ex]
    exact (p11_ok _ (lr.pts _ (hin x hx))).2.2
  · obtain ⟨x, hx, ex⟩ := List.mem_map.mp he
    rw [← ex]
    exact (p11_ok _ (lr.pts _ (hin x hx))).2.1
  · obtain ⟨x, hx, ex⟩ := List.mem_map.mp he
    rw [← ex]
    rfl
/-- rows and one more -/
theorem cat_row {K : PySem.W.Frag} {H : Hp} {R : List Row} {t p1 p2 : Addr} {r : Row} {a b : V} {Q : VK} (rt : RowsT K H R t) (hl : R.length ≤ 100) (h1 : SqT K H p1 [a, b, .int r.2.2]) (ha : KdV K H r.1 a) (hb : KdV K H r.2.1 b) (h2 : SqT K H p2 [.ref p1])
    (q : ∀ H' tt, Same H H' → RowsT K H' (R ++ [r]) tt → Q (.ref tt) H') : rCatA K (.ref t) (.ref p2) H Q := by
  obtain ⟨vs, st, pr⟩ := rt
  have lv := paired_len pr
  have rv : RowV K H r (.ref p1) := ⟨p1, a, b, rfl, h1, ha, hb⟩
  refine ⟨t, p2, vs, [.ref p1], rfl, rfl, st, h2, by rw [sizeLine_eq]; simp; omega, fun e => ?_, fun _ e => (by cases e), fun ne _ p hp => ?_⟩
  · subst e
    cases pr
    exact q H p2 (Same.refl H) ⟨_, h2, .cons rv .nil⟩
  · have s := same_new (o := .tup (vs ++ [.ref p1])) hp
    exact q _ p s ⟨_, .inl (.inl upd_same), paired_snoc (Paired.mapP pr fun _ _ h => h.mono (.same s)) (rv.mono (.same s))⟩
theorem pts_more (R : List Row) (r : Row) : ∀ x ∈ ptsOf R, x ∈ ptsOf (R ++ [r]) := fun x hx => by
  unfold ptsOf at *
  rw [List.foldl_append]
  exact addK_sub (addK_sub hx)
/-- what the law takes for due -/
theorem due_of {R : List Row} {F : FTab} (lr : LRows R) (wh : Fd.Whole (rws R) (isP R) F) (g : Fd.good F) {k1 k2 : Kd} (hk1 : k1 ∈ ptsOf R ∨ k1 = .w "far") (hk2 : k2 ∈ ptsOf R ∨ k2 = .w "far") :
    ∃ od : Option Int, ((F (nk k1) (nk k2)).map V.int).getD (if decide (nk k1 = nk k2) = true then V.int 0 else V.non) = ov od ∧ (∀ B' C l, Rlx R [(k2, 0)] B' C l → bo B' (nk k1) = od) ∧
      (∀ d, od = some d → k1 ∈ ptsOf R → k2 ∈ ptsOf R → F (nk k1) (nk k2) = some d) := by
  have farP : ¬ isP R (nk (.w "far")) := fun ⟨k, hk, e⟩ => far_p11 k (lr.pts k hk) e
  have b0 : ∀ x : NK, bo [(k2, (0 : Int))] x = if nk k2 = x then some 0 else none := fun x => by
    unfold bo
    rw [List.find?_cons]
    by_cases e : nk k2 = x
    · simp [e]
    · simp [e]
  have cl : ∀ {B' C l}, Rlx R [(k2, 0)] B' C l → Fd.closed (rws R) (bo B') := fun {B' C l} rx => by
    cases l with
    | none => exact rx.fin
    | some j => exact (wh.no_ring g rx.has.choose_spec).elim
  have mono : ∀ {B' C l}, Rlx R [(k2, 0)] B' C l → ∃ v, bo B' (nk k2) = some v ∧ v ≤ 0 := fun {B' C l} rx => rx.mono (nk k2) 0 (by rw [b0, if_pos rfl])
  have src : ∀ {B' C l}, Rlx R [(k2, 0)] B' C l → ∀ S : NK → Int → Prop, S (nk k2) 0 → (∀ j, j < R.length → ∀ v, S (qN R j) v → S (pN R j) (v + mN R j)) → ∀ x v, bo B' x = some v → S x v := fun {B' C l} rx S h0 h1 => rx.src S (fun x v e => by
    rw [b0] at e
    by_cases c : nk k2 = x
    · rw [if_pos c] at e; cases e; rw [← c]; exact h0
    · rw [if_neg c] at e; cases e) h1
  rcases hk2 with hk2 | rfl
  · have hP2 : isP R (nk k2) := ⟨k2, hk2, rfl⟩
    refine ⟨F (nk k1) (nk k2), ?_, fun B' C l rx => wh.due g (cl rx) (mono rx) (src rx) hP2 (nk k1), fun d e _ _ => e⟩
    cases e : F (nk k1) (nk k2) with
    | some d => rfl
    | none =>
      have ne : nk k1 ≠ nk k2 := fun z => by
        obtain ⟨v, ev, _⟩ := wh.diag _ hP2
        rw [z, ev] at e
        cases e
      rw [decide_eq_false ne]
      rfl
  · have eF : F (nk k1) (nk (.w "far")) = none := by
      cases e : F (nk k1) (nk (.w "far")) with
      | none => rfl
      | some d => exact (farP (wh.dom _ _ _ e).2).elim
    rw [eF]
    have only : ∀ {B' C l}, Rlx R [(.w "far", 0)] B' C l → ∀ x v, bo B' x = some v → x = nk (.w "far") ∧ v = 0 := fun {B' C l} rx => src rx (fun x v => x = nk (.w "far") ∧ v = 0) ⟨rfl, rfl⟩ fun j hj v ⟨h, _⟩ => by
      obtain ⟨k, hk, e⟩ := pts_q hj
      exact (farP ⟨k, hk, e.trans h⟩).elim
    by_cases c : nk k1 = nk (.w "far")
    · refine ⟨some 0, by rw [decide_eq_true c]; rfl, fun B' C l rx => ?_, fun d e _ h2 => (farP ⟨_, h2, rfl⟩).elim⟩
      obtain ⟨v, ev, _⟩ := mono rx
      rw [c, ev, (only rx _ _ ev).2]
    · refine ⟨none, by rw [decide_eq_false c]; rfl, fun B' C l rx => ?_, fun d e => nomatch e⟩
      cases e : bo B' (nk k1) with
      | none => rfl
      | some v => exact (c (only rx _ _ e).1).elim
abbrev rStrK (K : PySem.W.Frag) : List V → Hp → VK → Prop := fun xs H Q => ∃ v k, xs = [v] ∧ KdV K H k v ∧ isPtK k = true ∧ Shows (pd k) ∧ Q (.str (strK k)) H
abbrev rLtI : R2 := rI0 fun i j => .bl (decide (i < j))
/-- sorted([str(k) for k in told]) -/
theorem strs_told {K : PySem.W.Frag} {w : World} {σ : L2.St} {H : Hp} {D : Addr} {B : List (Kd × V)} {te : TE} {Q : VK} (tb : TabIs K w H D B) (hl : B.length ≤ 200) (h1 : σ[5]? = some (some (.ref D))) (h4 : 12 < σ.length)
    (he : ∀ (y : V) (p : Kd) H' Q, p ∈ B.map (·.1) → KdV K H' p y → Q (.str (strK p)) H' → te ((wipe σ [12]).set 12 (some y)) H' Q)
    (q : ∀ H' r, Same H H' → H' r = some (.lst ((sortS ((B.map (·.1)).map strK)).map V.str)) → Q (.ref r) H') :
    tCB (rSortS K) (tCons (tLockE (tLc (iKeyM w (tVar 5)) (gName 12) tYes te [12])) tNil) σ H Q := by
  obtain ⟨xs, hx, pp⟩ := tb
  refine ⟨D, _, hx, True.intro, fun od => ⟨_, h1, D, od, xs, rfl, upd_same, fun L hL => ?_⟩⟩
  have nL : L ≠ D := fun z => by rw [z, upd_same] at hL; cases hL
  have hLH : H L = none := by rw [upd_ne nL] at hL; exact hL
  have tf : Tups K H (upd H D (.frz od (MD w D xs))) := tups_upd (md_notup hx)
  have kx := keys_of_tab (tabR_mono tf pp)
  have lx := paired_len kx
  rw [List.length_map, List.length_map] at lx
  have S2 := steady_key (w := w) (d := D) (o := od) (xs := xs)
  rw [← lx] at S2
  refine lc_gen (K := K) (b := fun _ => true) (fun H k y => y = V.str (strK ((B.map (·.1)).getD k .no))) S2 (fun _ _ _ _ _ h => h) (fun H' s => s _ _ upd_same) h4 (by omega) hL (fun k H' Q hk' s q => q) (fun k H' Q hk' _ s q => ?_) fun H' ys s hy py => ?_
  · have hk2 : k < (B.map (·.1)).length := by rw [List.length_map]; exact hk'
    exact he _ _ H' Q (getD_mem hk2) ((paired_getD kx (a0 := .no) (b0 := .non) hk2).mono (.same s)) (q H' _ (Same.refl _) rfl)
  · rw [filter_yes] at py
    have tu : Tups K H' (upd H' D (MD w D xs)) := tups_upd (frz_notup (s _ _ upd_same))
    have sH : Same H (upd H' D (MD w D xs)) := fun a o e => by
      by_cases z : a = D
      · rw [z, hx] at e; rw [z, upd_same, e]
      · rw [upd_ne z]
        refine s a o ?_
        rw [upd_ne z]; exact e
    have ey : ys = ((B.map (·.1)).map strK).map V.str := by
      rw [pair_map (f := fun k => V.str (strK ((B.map (·.1)).getD k .no))) py]
      have e2 := range_getD (B.map (·.1)) .no
      rw [List.length_map] at e2
      have e3 := congrArg (List.map fun k => V.str (strK k)) e2
      rw [List.map_map] at e3
      rw [List.map_map]
      exact e3
    refine ⟨s _ _ upd_same, nil_i ?_⟩
    refine sortS_call (K := K) (p := L) (l := (B.map (·.1)).map strK) (.inl (.inl ?_)) (by rw [List.length_map, List.length_map]; exact hl) fun H2 r s2 hr => q H2 r (sH.trans s2) hr
    rw [upd_ne nL, ← ey]
    exact hy
section
variable {K : PySem.W.Frag} {mg : Str → Option Value} {base : Heap} {P : Program} {w : World}
abbrev n50 : List Str := ["_law_dice_here", "_law_rows_here", "_law_bounds_here", "_law_points_here", "_law_fits", "_law_told", "_law_met", "_law_one", "_law_other", "_law_due", "_law_near", "_law_point", "_law_key", "_law_row"]
theorem sc50 : FnScope n50 ["_law_dice_here"] (defScope (topS 50)) := ⟨rfl, rfl, rfl, by decide +kernel, rfl, by decide +kernel, by decide +kernel⟩
theorem ok50 {f : Addr} {fd : FuncData} (F : Fun K "_law_right" "_law_right" (topS 50) f fd) (B : Blt mg) (c44 : Cal P w K mg base 3 "_law_rows" (spRows K w)) (c45 : Cal P w K mg base 1 "_law_ends" (spEnds K w)) (c46 : Cal P w K mg base 2 "_law_bounds" (spBounds K w)) (c17 : Cal P w K mg base 6 "fitting" (spFit K w)) (c19 : Cal P w K mg base 6 "ring" (spRing K w))
    (c29 : Cal P w K mg base 2 "_law_pick" (spPick K w)) (c49 : Cal P w K mg base 7 "_law_bound" (spBound K w)) (c48 : Cal P w K mg base 1 "_law_is_chain" (spChain K w)) (c47 : Cal P w K mg base 1 "_law_is_order" (spOrder K w)) (c20 : Cal P w K mg base 6 "is_ring" (spIsRing K w)) (c18 : Cal P w K mg base 6 "is_fitting" (spIsFit K w)) :
    FnG P w K mg base 8 f fd ["_law_dice_here"] (spRight K w) := by
  refine okG F sc50 (fun vs H Q E h => ?_) (fun cdv A outer s H vs Q E hgd hr h => ?_)
  · obtain ⟨D, rfl, _⟩ := h
    rfl
  · have hu := hu70 hr
    refine ⟨_, pss_cons (ps_set (i := 1) sc50.nd rfl (Or.inl rfl) (pe_c c44 hr (by decide) (by rfl) (pa_cons (pv 0) pa_nil)))
      (pss_cons (ps_asg (pe_tup (pa_cons (pe_c c46 hr (by decide) (by rfl) (pa_cons (pv 1) pa_nil)) (pa_cons (pe_c c45 hr (by decide) (by rfl) (pa_cons (pv 1) pa_nil)) pa_nil))) (pg_tup rfl (pgs_cons (pg_name (i := 2) sc50.nd rfl (Or.inr rfl)) (pgs_cons (pg_name (i := 3) sc50.nd rfl (Or.inl rfl)) pgs_nil))))
      (pss_cons (ps_set (i := 4) sc50.nd rfl (Or.inl rfl) (pe_cmpR (op_eqD (hu64 hu)) (pe_lc (own := [("_law_point", 11)]) (g := gName 11) (by rfl) sc50.nd (pi_list (pv 3)) (blkOk_by (N := n50) (sc := defScope (topS 50)) (by decide +kernel))
          (fun _ _ _ _ _ => pg_name (i := 11) sc50.nd rfl (Or.inl rfl)) (fun _ _ _ _ _ => pts_one (pt_cmpR (r := rLtI) op_lt (pe_ix (r := rIxM K w) (ix_md (hu9 hu)) (pv 2) (pe_tup (pa_cons (pv 11) (pa_cons (pv 11) pa_nil))) (fun _ _ => rfl)) pe_int (nomark _))) (fun _ _ _ _ _ => pv 11)) (pe_lst pa_nil) (nomark _)))
      (pss_cons (ps_asg (pe_tup (pa_cons (pe_c c17 hr (by decide) (by rfl) (pa_cons (pv 1) pa_nil)) (pa_cons (pe_c c19 hr (by decide) (by rfl) (pa_cons (pv 1) pa_nil)) pa_nil))) (pg_tup rfl (pgs_cons (pg_name (i := 5) sc50.nd rfl (Or.inr rfl)) (pgs_cons (pg_name (i := 6) sc50.nd rfl (Or.inl rfl)) pgs_nil))))
      (pss_cons (ps_if (pw_or (pt_cmpR op_eq (pe_cmpR op_isN (pv 5) pe_non (nomark _)) (pv 4) (nomark _)) (pw_or1 (pt_cmpR op_ne (pe_cmpR op_isN (pv 6) pe_non (nomark _)) (pv 4) (nomark _)))).pt (pss_one (ps_ret pe_bl)) pss_nil)
      (pss_cons (ps_par (i := 7) (j := 8) rfl sc50.nd rfl rfl (by decide) rfl rfl (pa_cons (pe_c c29 hr (by decide) (by rfl) (pa_cons (pv 0) (pa_cons (pe_op op_cat (pv 3) (pe_lst (pa_cons pe_str pa_nil))) pa_nil))) (pa_cons (pe_c c29 hr (by decide) (by rfl) (pa_cons (pv 0) (pa_cons (pe_op op_cat (pv 3) (pe_lst (pa_cons pe_str pa_nil))) pa_nil))) pa_nil)) (by rfl))
      (pss_cons (ps_set (i := 9) sc50.nd rfl (Or.inl rfl) (pe_ifExp (pt_val (pv 4)) (pe_getM2 (hu9 hu) (pv 2) (pe_tup (pa_cons (pv 7) (pa_cons (pv 8) pa_nil))) (pe_ifExp (pt_cmpR (op_eqD (hu64 hu)) (pv 7) (pv 8) (nomark _)) pe_int pe_non) ⟨rfl, rfl, rfl, rfl⟩) pe_str))
      (pss_cons (ps_if (pt_cmpR op_ne (pe_c c49 hr (by decide) (by rfl) (pa_cons (pv 1) (pa_cons (pv 7) (pa_cons (pv 8) pa_nil)))) (pv 9) (nomark _)) (pss_one (ps_ret pe_bl)) pss_nil)
      (pss_cons (ps_if (pt_not (pt_val (pv 4))) (pss_one (ps_ret (pe_and (pe_c c48 hr (by decide) (by rfl) (pa_cons (pv 1) (pa_cons (pv 6) pa_nil))) (pe_one (pe_c c20 hr (by decide) (by rfl) (pa_cons (pv 1) (pa_cons (pv 6) pa_nil))))))) pss_nil)
      (pss_cons (ps_if (pw_or (pt_cmpR (op_neD (hu64 hu)) (pe_callB (r := rSortS K) (call_sortD PyData.str hu) (by rfl) B.sorted boot_sorted (pa_cons (pe_lock (pe_lc (own := [("_law_key", 12)]) (g := gName 12) (by rfl) sc50.nd (pi_keyM (pv 5)) (blkOk_by (N := n50) (sc := defScope (topS 50)) (by decide +kernel))
            (fun _ _ _ _ _ => pg_name (i := 12) sc50.nd rfl (Or.inl rfl)) (fun _ _ _ _ _ => pts_nil) (fun _ _ _ _ _ => pe_callTy (r := rStrK K) (call_strK hgd hu) (by rfl) B.str boot_str (pa_cons (pv 12) pa_nil)))) pa_nil))
          (pe_callB (r := rSortS K) (call_sortD PyData.str hu) (by rfl) B.sorted boot_sorted (pa_cons (pe_lc (own := [("_law_key", 12)]) (g := gName 12) (by rfl) sc50.nd (pi_list (pv 3)) (blkOk_by (N := n50) (sc := defScope (topS 50)) (by decide +kernel))
            (fun _ _ _ _ _ => pg_name (i := 12) sc50.nd rfl (Or.inl rfl)) (fun _ _ _ _ _ => pts_nil) (fun _ _ _ _ _ => pe_callTy (r := rStrK K) (call_strK hgd hu) (by rfl) B.str boot_str (pa_cons (pv 12) pa_nil))) pa_nil)) (nomark _))
          (pw_or1 (pt_not (pt_val (pe_c c47 hr (by decide) (by rfl) (pa_cons (pe_callTy (call_listM rfl) (by rfl) B.list boot_list (pa_cons (pv 5) pa_nil)) pa_nil)))))).pt (pss_one (ps_ret pe_bl)) pss_nil)
      (pss_cons (ps_if (pw_or (pt_cmpR op_ne (pe_ix (r := rIxM K w) (ix_md (hu9 hu)) (pv 5) pe_str (fun _ _ => rfl)) pe_int (nomark _)) (pw_or1 (pt_cmpR (op_neD (hu64 hu)) (pe_lc (own := [("_law_row", 13)]) (g := gName 13) (by rfl) sc50.nd (pi_tup (pv 1)) (blkOk_by (N := n50) (sc := defScope (topS 50)) (by decide +kernel)) (fun _ _ _ _ _ => pg_name (i := 13) sc50.nd rfl (Or.inl rfl))
            (fun _ _ _ _ _ => pts_one (pt_cmpR (r := rI0 fun i j => .bl (decide (j < i))) op_gt (pe_op (r := rI0 fun i j => .int (i - j)) op_sub (pe_ix (r := rIxM K w) (ix_md (hu9 hu)) (pv 5) (pe_ix (r := rIxT K) ix_tup (pv 13) pe_int (fun _ _ => rfl)) (fun _ _ => rfl)) (pe_ix (r := rIxM K w) (ix_md (hu9 hu)) (pv 5) (pe_ix (r := rIxT K) ix_tup (pv 13) pe_int (fun _ _ => rfl)) (fun _ _ => rfl)))
              (pe_ix (r := rIxT K) ix_tup (pv 13) pe_int (fun _ _ => rfl)) (nomark _))) (fun _ _ _ _ _ => pv 13)) (pe_lst pa_nil) (nomark _)))).pt (pss_one (ps_ret pe_bl)) pss_nil)
      (pss_cons (ps_if (pw_or (pt_cmpR op_isN (pv 9) pe_non (nomark _)) (pw_or (pt_cmpR (op_eqD (hu64 hu)) (pv 7) pe_str (nomark _)) (pw_or1 (pt_cmpR (op_eqD (hu64 hu)) (pv 8) pe_str (nomark _))))).pt (pss_one (ps_ret (pe_c c18 hr (by decide) (by rfl) (pa_cons (pv 1) (pa_cons (pv 5) pa_nil))))) pss_nil)
      (pss_cons (ps_set (i := 10) sc50.nd rfl (Or.inl rfl) (pe_c c17 hr (by decide) (by rfl) (pa_cons (pe_op op_catA (pv 1) (pe_tup (pa_cons (pe_tup (pa_cons (pv 8) (pa_cons (pv 7) (pa_cons (pe_op op_sub pe_int (pv 9)) pa_nil)))) pa_nil))) pa_nil)))
      (pss_one (ps_ret (pe_and (pe_c c18 hr (by decide) (by rfl) (pa_cons (pv 1) (pa_cons (pv 5) pa_nil))) (pe_and (pe_cmpR op_notN (pv 10) pe_non (nomark _)) (pe_one (pe_cmpR op_isN (pe_c c17 hr (by decide) (by rfl) (pa_cons (pe_op op_catA (pv 1) (pe_tup (pa_cons (pe_tup (pa_cons (pv 8) (pa_cons (pv 7) (pa_cons (pe_op op_sub (pe_un un_neg pe_int) (pv 9)) pa_nil)))) pa_nil))) pa_nil)) pe_non (nomark _))))))))))))))))))), ?_⟩
    obtain ⟨D, rfl, hD, q⟩ := h
    have sl : sizeLine = 16777216 := sizeLine_eq
    have len : ∀ {n : Nat}, n ≤ 1000 → n ≤ sizeLine := fun h => by rw [sl]; omega
    refine ⟨_, rfl, D, rfl, hD, fun H1 t R b1 d1 rt lr => ?_⟩
    have ro := lr.ok
    have hl := lr.len
    have lP := lr.lenP
    refine ⟨_, rfl, t, R, rfl, rt, ro, fun H2 db F s2 hdb ft wh => ?_⟩
    refine ⟨_, rfl, t, R, rfl, rt.mono (.same s2), ro, fun H3 pl s3 hpl ⟨ys, hys, py⟩ => ?_⟩
    refine ⟨len (by simp), fun tp htp => ⟨tp, _, rfl, .inl (.inl upd_same), rfl, _, _, rfl, _, _, rfl, rfl, ?_⟩⟩
    have s4 := same_new (o := .tup [.ref db, .ref pl]) htp
    have c0 : Cm K w H D t R db pl ys F (upd H3 tp (.tup [.ref db, .ref pl])) := by
      obtain ⟨x, y, z, e⟩ := d1
      have s14 := (s2.trans s3).trans s4
      exact ⟨b1.same s14, ⟨x, y, z, s14 _ _ e⟩, rt.mono (.same s14), ft.mono (.same (s3.trans s4)) (fun u e => (s3.trans s4) _ _ e) (Nat.le_refl _), s4 _ _ hys, Paired.mapP py fun _ _ h => h.mono (.same s4), (fun e1 => by rw [e1, e] at hdb; cases hdb), (fun e1 => by rw [e1, s2 _ _ e] at hpl; cases hpl)⟩
    clear s2 s3 s4 hys py ft rt d1 b1 hdb hpl htp
    generalize upd H3 tp (.tup [.ref db, .ref pl]) = H4 at c0
    have ly := paired_len c0.pts
    -- fits
    have dgv : ∀ k, k < (ptsOf R).length → ∃ v, F (nk ((ptsOf R).getD k .no)) (nk ((ptsOf R).getD k .no)) = some v := fun k hk => by
      obtain ⟨v, e, _⟩ := wh.diag _ ⟨_, getD_mem hk, rfl⟩
      exact ⟨v, e⟩
    have key : ∀ {k : Nat} {H' : Hp}, k < (ptsOf R).length → Cm K w H D t R db pl ys F H' → KdV K H' ((ptsOf R).getD k .no) (ys.getD k .non) := fun hk c => paired_getD c.pts (a0 := .no) (b0 := .non) hk
    refine ⟨_, rfl, pl, rfl, ⟨ys, .inl (.inl c0.lst)⟩, fun L hL => ?_⟩
    have S := steady_list (K := K) (a := pl) (xs := ys)
    rw [← ly] at S
    refine lc_gen2 (K := K) (b := fun k => decide ((F (nk ((ptsOf R).getD k .no)) (nk ((ptsOf R).getD k .no))).getD 0 < 0)) (fun H k y => KdV K H ((ptsOf R).getD k .no) y) S (fun _ _ _ _ t h => h.mono t) (fun H2 s2 => .inl (.inl (s2 _ _ c0.lst))) (by exact (by decide : 11 < 14)) (by omega) hL (fun k H5 Q hk s5 q => ?_) (fun k H5 Q hk _ s5 q => ⟨_, rfl, q H5 _ (Same.refl _) (key hk (c0.same s5))⟩) fun H5 fs s5 hfs pfs => ?_
    · obtain ⟨v, ev⟩ := dgv k hk
      have c5 := c0.same s5
      refine ⟨_, rfl, _, rfl, _, rfl, len (by simp), fun t2 ht2 => ?_⟩
      have s6 := same_new (o := .tup [ys.getD k .non, ys.getD k .non]) ht2
      have c6 := c5.same s6
      refine c6.ft.ix (key hk c6) (key hk c6) (.inl (.inl upd_same)) ev ⟨_, _, rfl, rfl, _, rfl, ?_⟩
      have h := q _ s6
      rw [ev] at h
      exact h
    · have pf := filt_pair (c := fun k => decide ((F (nk k) (nk k)).getD 0 < 0)) (p := KdV K H5) pfs
      have c5 := c0.same s5
      refine ⟨len (by simp), fun p0 hp0 => ?_⟩
      have s6 := same_new (o := .lst []) hp0
      refine ⟨.list (((ptsOf R).filter fun k => decide ((F (nk k) (nk k)).getD 0 < 0)).map pd), .list [], .lst (.inl (.inl (s6 _ _ hfs))) (pts_dp (Paired.mapP pf fun _ _ h => h.mono (.same s6))), .lst (.inl (.inl upd_same)) .nil, shaped_pts fun k hk => (ro.pts k (List.mem_filter.mp hk).1).2, shaped_nil, ?_⟩
      rw [eqv_nil, List.isEmpty_map]
      have c6 := c5.same s6
      clear s6 c5 hfs pf pfs s5 hL S c0 hp0
      generalize upd H5 p0 (.lst []) = H6 at c6
      have hgood : ((ptsOf R).filter fun k => decide ((F (nk k) (nk k)).getD 0 < 0)).isEmpty = true → Fd.good F := fun h p v e => by
        obtain ⟨k, hk, ek⟩ := (wh.dom _ _ _ e).1
        subst ek
        rw [List.isEmpty_iff] at h
        have h2 := List.filter_eq_nil_iff.mp h k hk
        rw [e] at h2
        have h3 : ¬ v < 0 := by simpa using h2
        omega
      have hbad : ((ptsOf R).filter fun k => decide ((F (nk k) (nk k)).getD 0 < 0)).isEmpty = false → ¬ Fd.good F := fun h g => by
        have h2 : ((ptsOf R).filter fun k => decide ((F (nk k) (nk k)).getD 0 < 0)) = [] := List.filter_eq_nil_iff.mpr fun k hk => by
          obtain ⟨v, e, _⟩ := wh.diag _ ⟨k, hk, rfl⟩
          have := g _ _ e
          rw [e]
          simp
          omega
        rw [h2] at h
        cases h
      cases hb : ((ptsOf R).filter fun k => decide ((F (nk k) (nk k)).getD 0 < 0)).isEmpty with
      | false =>
        have nb := hbad hb
        have noT : ∀ {T : List (Kd × Int)}, Fd.closed (rws R) (bo T) → (∀ p, isP R p → ∃ v, bo T p = some v) → False := fun cl tot => nb (wh.good_of cl tot)
        refine ⟨_, rfl, t, R, rfl, c6.rows, ro, fun H7 s7 _ => ?_, fun Dt H7 T s7 hDt tb hne nd hin hmid hcl h0 hord => ?_⟩
        · refine ⟨_, rfl, t, R, rfl, (c6.same s7).rows, ro, fun H8 s8 hB => ?_, fun mp H8 js s8 hmp jne jl jlt rg hmt => ?_⟩
          · obtain ⟨T, hT, cl⟩ := hB
            exact (noT cl fun p hp => ⟨_, bo_bt hT hp⟩).elim
          · have c8 := (c6.same s7).same s8
            refine ⟨len (by simp), fun tq htq => ⟨tq, _, rfl, .inl (.inl upd_same), rfl, _, _, rfl, _, _, rfl, rfl, ?_⟩⟩
            have s9 := same_new (o := .tup [.non, .ref mp]) htq
            have c7 := c8.same s9
            have sq : SqT K _ mp (js.map natV) := Tups.same s9 _ _ (.inl (.inl hmt))
            clear c8 s9 s8 s7 c6 htq hmt hmp
            generalize upd H8 tq (.tup [.non, .ref mp]) = HC at c7 sq
            refine ⟨_, rfl, rfl, _, rfl, rfl, _, rfl, iteF ⟨_, rfl, rfl, _, rfl, rfl, _, rfl, iteF ?_⟩⟩
            obtain ⟨xd, yd, zd, eD⟩ := c7.dice
            refine ⟨_, rfl, _, rfl, len (by simp), fun p1 hp1 => ?_⟩
            have s8 := same_new (o := .lst [.str "far"]) hp1
            have c8 := c7.same s8
            have l8 : (upd HC p1 (.lst [.str "far"])) p1 = some (.lst [.str "far"]) := upd_same
            refine ⟨pl, p1, ys, [.str "far"], rfl, rfl, c8.lst, l8, by rw [sl]; simp; omega, fun p2 hp2 => ?_⟩
            have s9 := same_new (o := .lst (ys ++ [.str "far"])) hp2
            have c9 := c8.same s9
            obtain ⟨x9, y9, z9, e9⟩ := c9.dice
            have l9 : (upd (upd HC p1 (.lst [.str "far"])) p2 (.lst (ys ++ [.str "far"]))) p2 = some (.lst (ys ++ [.str "far"])) := upd_same
            have n9 : p2 ≠ D := fun e => by rw [e, s8 _ _ eD] at hp2; cases hp2
            refine ⟨D, p2, ys ++ [.str "far"], x9, y9, z9, rfl, .inl (.inl l9), n9, by simp, by simp; omega, e9, fun v1 x' y' z' hv1 => ?_⟩
            obtain ⟨k1, hk1, kvk1⟩ := pick_key c9.pts hv1
            have tpK : Tups K _ _ := (Tups.same (K := K) (s8.trans s9)).trans (c9.dice.tups (o := dicL x' y' z'))
            have kvk1 := kvk1.mono (K := K) (c9.dice.tups (o := dicL x' y' z'))
            have sq := tpK _ _ sq
            have c7 := c9.roll x' y' z'
            clear c8 c9 l8 l9 s8 s9 hp1 hp2 eD e9 tpK
            generalize upd (upd (upd HC p1 (.lst [.str "far"])) p2 (.lst (ys ++ [.str "far"]))) D (dicL x' y' z') = HC at *
            obtain ⟨xd, yd, zd, eD⟩ := c7.dice
            refine ⟨_, rfl, _, rfl, len (by simp), fun p1 hp1 => ?_⟩
            have s8 := same_new (o := .lst [.str "far"]) hp1
            have c8 := c7.same s8
            have l8 : (upd HC p1 (.lst [.str "far"])) p1 = some (.lst [.str "far"]) := upd_same
            refine ⟨pl, p1, ys, [.str "far"], rfl, rfl, c8.lst, l8, by rw [sl]; simp; omega, fun p2 hp2 => ?_⟩
            have s9 := same_new (o := .lst (ys ++ [.str "far"])) hp2
            have c9 := c8.same s9
            obtain ⟨x9, y9, z9, e9⟩ := c9.dice
            have l9 : (upd (upd HC p1 (.lst [.str "far"])) p2 (.lst (ys ++ [.str "far"]))) p2 = some (.lst (ys ++ [.str "far"])) := upd_same
            have n9 : p2 ≠ D := fun e => by rw [e, s8 _ _ eD] at hp2; cases hp2
            refine ⟨D, p2, ys ++ [.str "far"], x9, y9, z9, rfl, .inl (.inl l9), n9, by simp, by simp; omega, e9, fun v2 x' y' z' hv1 => ?_⟩
            obtain ⟨k2, hk2, kvk2⟩ := pick_key c9.pts hv1
            have tpK : Tups K _ _ := (Tups.same (K := K) (s8.trans s9)).trans (c9.dice.tups (o := dicL x' y' z'))
            have kvk2 := kvk2.mono (K := K) (c9.dice.tups (o := dicL x' y' z'))
            have sq := tpK _ _ sq
            have kvk1 := kvk1.mono (K := K) tpK
            have c7 := c9.roll x' y' z'
            clear c8 c9 l8 l9 s8 s9 hp1 hp2 eD e9 tpK
            generalize upd (upd (upd HC p1 (.lst [.str "far"])) p2 (.lst (ys ++ [.str "far"]))) D (dicL x' y' z') = HC at *
            have ok : ∀ k, (k ∈ ptsOf R ∨ k = .w "far") → isPtK k = true ∧ kdShort k = true := fun k hk => by
              rcases hk with h | rfl
              · have := p11_ok _ (lr.pts k h)
                exact ⟨this.1, this.2.1⟩
              · exact ⟨far_ok.1, far_ok.2.1⟩
            refine ⟨_, _, rfl, ?_⟩
            refine ⟨_, rfl, _, rfl, iteF ?_⟩
            refine ⟨_, rfl, _, rfl, _, rfl, t, R, v1, v2, k1, k2, rfl, c7.rows, ro, kvk1, kvk2, ok k1 hk1, ok k2 hk2, fun H9 s9 _ => ?_, fun H9 B' C l s9 hB rx => ?_⟩
            · have c9 := c7.same s9
              have sq9 := Tups.same (K := K) s9 _ _ sq
              refine ⟨_, rfl, rfl, _, rfl, ?_⟩
              rw [decide_eq_true rfl]
              refine iteF ⟨_, rfl, _, rfl, iteT ?_⟩
              refine ⟨_, rfl, _, rfl, t, mp, R, js, rfl, c9.rows, ro, sq9, jl, rg, fun HA sA => ⟨true, rfl, iteT ?_⟩⟩
              have cA := c9.same sA
              refine ⟨_, rfl, _, rfl, t, .ref mp, R, .tuple (js.map fun j : Nat => .int (j : Int)), rfl, cA.rows, ro, .inl (.tup (Tups.same sA _ _ sq9) (dp_idx js)), by show (js.map _).length ≤ 1000; rw [List.length_map]; omega, fun HB sB => ?_⟩
              rw [isRing_of ro rg]
              exact q HB (cA.same sB).but (cA.same sB).dice
            · obtain ⟨T, hT, cl⟩ := hB
              exact (noT cl fun p hp => ⟨_, bo_bt hT hp⟩).elim
        · refine (noT hcl fun p hp => ?_).elim
          obtain ⟨k, hk, ek⟩ := hp
          have pm := told_perm ro
          rw [← hord] at pm
          exact ⟨_, bo_bt (l := T.map (·.1)) rfl ⟨k, pm.mem_iff.mpr hk, ek⟩⟩
      | true =>
        have g := hgood hb
        refine ⟨_, rfl, t, R, rfl, c6.rows, ro, fun H7 s7 hr => (wh.no_ring g hr.choose_spec).elim, fun Dt H7 T s7 hDt tb hne nd hin hmid hcl h0 hord => ?_⟩
        have pm := told_perm ro
        rw [← hord] at pm
        have lT : T.length ≤ 200 := by
          have := pm.length_eq
          rw [List.length_map] at this
          omega
        have tot : ∀ p ∈ ptsOf R, bo T (nk p) = some (bt T (nk p)) := fun p hp => bo_bt (l := T.map (·.1)) rfl ⟨p, pm.mem_iff.mpr hp, rfl⟩
        refine ⟨_, rfl, t, R, rfl, (c6.same s7).rows, ro, fun H8 s8 _ => ?_, fun mp H8 js s8 hmp jne jl jlt rg hmt => (wh.no_ring g rg).elim⟩
        have c8 := (c6.same s7).same s8
        refine ⟨len (by simp), fun tq htq => ⟨tq, _, rfl, .inl (.inl upd_same), rfl, _, _, rfl, _, _, rfl, rfl, ?_⟩⟩
        have s9 := same_new (o := .tup [.ref Dt, .non]) htq
        have c7 := c8.same s9
        have tb := (tb.same s8).same s9
        have nt : Dt ≠ D := fun e => by
          obtain ⟨x, y, z, e2⟩ := c6.dice
          rw [e, e2] at hDt
          cases hDt
        clear c8 s9 s8 s7 c6 htq hDt
        generalize upd H8 tq (.tup [.ref Dt, .non]) = HC at c7 tb
        refine ⟨_, rfl, rfl, _, rfl, rfl, _, rfl, iteF ⟨_, rfl, rfl, _, rfl, rfl, _, rfl, iteF ?_⟩⟩
        obtain ⟨xd, yd, zd, eD⟩ := c7.dice
        refine ⟨_, rfl, _, rfl, len (by simp), fun p1 hp1 => ?_⟩
        have s8 := same_new (o := .lst [.str "far"]) hp1
        have c8 := c7.same s8
        have l8 : (upd HC p1 (.lst [.str "far"])) p1 = some (.lst [.str "far"]) := upd_same
        refine ⟨pl, p1, ys, [.str "far"], rfl, rfl, c8.lst, l8, by rw [sl]; simp; omega, fun p2 hp2 => ?_⟩
        have s9 := same_new (o := .lst (ys ++ [.str "far"])) hp2
        have c9 := c8.same s9
        obtain ⟨x9, y9, z9, e9⟩ := c9.dice
        have l9 : (upd (upd HC p1 (.lst [.str "far"])) p2 (.lst (ys ++ [.str "far"]))) p2 = some (.lst (ys ++ [.str "far"])) := upd_same
        have n9 : p2 ≠ D := fun e => by rw [e, s8 _ _ eD] at hp2; cases hp2
        refine ⟨D, p2, ys ++ [.str "far"], x9, y9, z9, rfl, .inl (.inl l9), n9, by simp, by simp; omega, e9, fun v1 x' y' z' hv1 => ?_⟩
        obtain ⟨k1, hk1, kvk1⟩ := pick_key c9.pts hv1
        have tpK : Tups K _ _ := (Tups.same (K := K) (s8.trans s9)).trans (c9.dice.tups (o := dicL x' y' z'))
        have kvk1 := kvk1.mono (K := K) (c9.dice.tups (o := dicL x' y' z'))
        have tb := tb.mono tpK (by rw [tb.choose_spec.1, upd_ne nt]; exact (s8.trans s9) _ _ tb.choose_spec.1)
        have c7 := c9.roll x' y' z'
        clear c8 c9 l8 l9 s8 s9 hp1 hp2 eD e9 tpK
        generalize upd (upd (upd HC p1 (.lst [.str "far"])) p2 (.lst (ys ++ [.str "far"]))) D (dicL x' y' z') = HC at *
        obtain ⟨xd, yd, zd, eD⟩ := c7.dice
        refine ⟨_, rfl, _, rfl, len (by simp), fun p1 hp1 => ?_⟩
        have s8 := same_new (o := .lst [.str "far"]) hp1
        have c8 := c7.same s8
        have l8 : (upd HC p1 (.lst [.str "far"])) p1 = some (.lst [.str "far"]) := upd_same
        refine ⟨pl, p1, ys, [.str "far"], rfl, rfl, c8.lst, l8, by rw [sl]; simp; omega, fun p2 hp2 => ?_⟩
        have s9 := same_new (o := .lst (ys ++ [.str "far"])) hp2
        have c9 := c8.same s9
        obtain ⟨x9, y9, z9, e9⟩ := c9.dice
        have l9 : (upd (upd HC p1 (.lst [.str "far"])) p2 (.lst (ys ++ [.str "far"]))) p2 = some (.lst (ys ++ [.str "far"])) := upd_same
        have n9 : p2 ≠ D := fun e => by rw [e, s8 _ _ eD] at hp2; cases hp2
        refine ⟨D, p2, ys ++ [.str "far"], x9, y9, z9, rfl, .inl (.inl l9), n9, by simp, by simp; omega, e9, fun v2 x' y' z' hv1 => ?_⟩
        obtain ⟨k2, hk2, kvk2⟩ := pick_key c9.pts hv1
        have tpK : Tups K _ _ := (Tups.same (K := K) (s8.trans s9)).trans (c9.dice.tups (o := dicL x' y' z'))
        have kvk2 := kvk2.mono (K := K) (c9.dice.tups (o := dicL x' y' z'))
        have tb := tb.mono tpK (by rw [tb.choose_spec.1, upd_ne nt]; exact (s8.trans s9) _ _ tb.choose_spec.1)
        have kvk1 := kvk1.mono (K := K) tpK
        have c7 := c9.roll x' y' z'
        clear c8 c9 l8 l9 s8 s9 hp1 hp2 eD e9 tpK
        generalize upd (upd (upd HC p1 (.lst [.str "far"])) p2 (.lst (ys ++ [.str "far"]))) D (dicL x' y' z') = HC at *
        have ok : ∀ k, (k ∈ ptsOf R ∨ k = .w "far") → (isPtK k = true ∧ kdShort k = true) ∧ shK k = true := fun k hk => by
          rcases hk with h | rfl
          · have := p11_ok _ (lr.pts k h)
            exact ⟨⟨this.1, this.2.1⟩, this.2.2⟩
          · exact ⟨⟨far_ok.1, far_ok.2.1⟩, far_ok.2.2⟩
        refine ⟨_, _, rfl, ?_⟩
        -- due
        refine ⟨_, rfl, _, rfl, iteT ?_⟩
        obtain ⟨xs, f1, f2, f3, f4⟩ := c7.ft
        refine ⟨_, rfl, db, xs, rfl, .inl f1, _, rfl, _, rfl, len (by simp), fun p5 hp5 => ?_⟩
        have s5 := same_new (o := .tup [v1, v2]) hp5
        have c8 := c7.same s5
        have kv1 := kvk1.mono (K := K) (.same s5)
        have kv2 := kvk2.mono (K := K) (.same s5)
        have tb8 := tb.same s5
        have t5 : SqT K (upd HC p5 (.tup [v1, v2])) p5 [v1, v2] := .inl (.inl upd_same)
        refine ⟨_, rfl, _, rfl, pd k1, pd k2, kv1.dp, kv2.dp, (ok k1 hk1).2, (ok k2 hk2).2, _, rfl, ite_tC ?_⟩
        refine ⟨xs, _, ⟨.inl (s5 _ _ f1), fun x hx => (f2 x hx).mono (.same s5)⟩, pair_key kv1 kv2 t5, ?_⟩
        rw [f4]
        have eK : PyData.eqv (pd k1) (pd k2) = decide (nk k1 = nk k2) := eqK_nk (ok k1 hk1).1.1 (ok k2 hk2).1.1
        rw [eK]
        clear f1 f2 f3 f4 t5 c7 tb kvk1 kvk2
        generalize upd HC p5 (.tup [v1, v2]) = H8 at *
        obtain ⟨od, hod, hd1, hd2⟩ : ∃ od : Option Int, ((F (nk k1) (nk k2)).map V.int).getD (if decide (nk k1 = nk k2) = true then V.int 0 else V.non) = ov od ∧ (∀ B' C l, Rlx R [(k2, 0)] B' C l → bo B' (nk k1) = od) ∧
            (∀ d, od = some d → k1 ∈ ptsOf R → k2 ∈ ptsOf R → F (nk k1) (nk k2) = some d) := due_of lr wh g hk1 hk2
        rw [hod]
        clear hod eK
        refine ⟨_, rfl, _, rfl, _, rfl, t, R, v1, v2, k1, k2, rfl, c8.rows, ro, kv1, kv2, (ok k1 hk1).1, (ok k2 hk2).1, fun H9 s9 hr => (wh.no_ring g hr.choose_spec).elim, fun H9 B' C l s9 hB rx => ?_⟩
        have eB := hd1 B' C l rx
        rw [eB]
        have bd : ∀ d, od = some d → -(672 * M57) ≤ d ∧ d ≤ 672 * M57 := fun d ed => by
          have h57 : (0 : Int) ≤ M57 := by unfold M57; decide +kernel
          have h := rx.bnd (7 * M57) (by omega) lr.small
          have h2 := bndO_mono (s' := 96) (by omega) h (Nat.le_trans (Nat.mul_le_mul (show (ptsOf R).length + 1 ≤ 12 by omega) hl) (by decide))
          have h3 := h2 (nk k1) d (by rw [eB]; exact ed)
          omega
        clear eB rx hd1 hB
        refine ⟨_, rfl, by cases od <;> rfl, _, rfl, ?_⟩
        rw [decide_eq_true rfl]
        refine iteF ⟨_, rfl, _, rfl, iteF ?_⟩
        have c9 := c8.same s9
        have tb9 := tb8.same s9
        have kv1 := kv1.mono (K := K) (.same s9)
        have kv2 := kv2.mono (K := K) (.same s9)
        clear c8 tb8 s9 s5 hp5
        have stK : ∀ {y : V} {p : Kd} {H' : Hp} {Q : VK} {σ : L2.St}, p ∈ ptsOf R → KdV K H' p y → Q (.str (strK p)) H' → σ[12]? = some (some y) → (∃ v, σ[12]? = some (some v) ∧ rStrK K [v] H' Q) := fun hp ky q e => ⟨_, e, _, _, rfl, ky, (ro.pts _ hp).1, p11_shows _ (lr.pts _ hp), q⟩
        refine strs_told (K := K) (w := w) tb9 (by rw [len_asV]; exact lT) rfl (by exact (by decide : 12 < 14)) (fun y p H' Q hp ky q => ?_) fun HA r1 sA hr1 => ?_
        · rw [keys_asV] at hp
          have hp2 := pm.mem_iff.mp hp
          exact ⟨_, rfl, _, p, rfl, ky, (ro.pts _ hp2).1, p11_shows _ (lr.pts _ hp2), q⟩
        rw [keys_asV] at hr1
        have cA := c9.same sA
        have tbA := tb9.same sA
        have kv1 := kv1.mono (K := K) (.same sA)
        have kv2 := kv2.mono (K := K) (.same sA)
        clear c9 tb9 sA
        refine ⟨_, rfl, pl, rfl, ⟨ys, .inl (.inl cA.lst)⟩, fun L hL => ?_⟩
        have S := steady_list (K := K) (a := pl) (xs := ys)
        rw [← ly] at S
        refine lc_gen (K := K) (b := fun _ => true) (fun H k y => y = V.str (strK ((ptsOf R).getD k .no))) S (fun _ _ _ _ _ h => h) (fun H2 s2 => .inl (.inl (s2 _ _ cA.lst))) (by exact (by decide : 12 < 14)) (by omega) hL (fun k H Q hk s q => q) (fun k HB Q hk _ sB q => ?_) fun HB yb sB hyb pyb => ?_
        · have hp2 : (ptsOf R).getD k .no ∈ ptsOf R := getD_mem hk
          exact ⟨_, rfl, _, _, rfl, key hk (cA.same sB), (ro.pts _ hp2).1, p11_shows _ (lr.pts _ hp2), q HB _ (Same.refl _) rfl⟩
        rw [filter_yes] at pyb
        have eyb : yb = ((ptsOf R).map strK).map V.str := by
          rw [pair_map (f := fun k => V.str (strK ((ptsOf R).getD k .no))) pyb]
          have e3 := congrArg (List.map fun k => V.str (strK k)) (range_getD (ptsOf R) .no)
          rw [List.map_map] at e3
          rw [List.map_map]
          exact e3
        rw [eyb] at hyb
        refine nil_i ?_
        refine sortS_call (K := K) (p := L) (l := (ptsOf R).map strK) (.inl (.inl hyb)) (by rw [List.length_map]; omega) fun HC r2 sC hr2 => ?_
        have sBC := sB.trans sC
        have hr1 := sBC _ _ hr1
        rw [sortS_perm (pm.map strK)] at hr1
        have shs : ∀ x ∈ sortS ((ptsOf R).map strK), shK (.w x) = true := fun x hx => by
          have hx := (List.mergeSort_perm _ _).mem_iff.mp hx
          obtain ⟨k, hk, e⟩ := List.mem_map.mp hx
          rw [← e]
          exact p11_str k (lr.pts k hk)
        refine ⟨.list ((sortS ((ptsOf R).map strK)).map .str), .list ((sortS ((ptsOf R).map strK)).map .str), .lst (.inl (.inl hr1)) (dp_strs _), .lst (.inl (.inl hr2)) (dp_strs _), shaped_strs _ shs, shaped_strs _ shs, _, rfl, ?_⟩
        rw [eqv_strs]
        have cC := cA.same sBC
        have tbC := tbA.same sBC
        have kv1 := kv1.mono (K := K) (.same sBC)
        have kv2 := kv2.mono (K := K) (.same sBC)
        clear hr1 hr2 hyb pyb eyb sB sC sBC cA tbA hL S
        obtain ⟨xt, hxt, ppt⟩ := tbC
        have kxt := keys_of_tab ppt
        rw [keys_asV, hord] at kxt
        refine iteF ⟨_, rfl, Dt, xt, rfl, ⟨.inl hxt, tabR_keys ppt⟩, fun p6 hp6 => ?_⟩
        have s6 := same_new (o := .lst (xt.map (·.2.1))) hp6
        have wOf : ∀ k ∈ sortK ((ptsOf R).filter isW), k ∈ ptsOf R ∧ isW k = true := fun k hk => List.mem_filter.mp ((sortK_perm _).mem_iff.mp hk)
        have cOf : ∀ k ∈ sortK ((ptsOf R).filter isC), k ∈ ptsOf R ∧ isC k = true := fun k hk => List.mem_filter.mp ((sortK_perm _).mem_iff.mp hk)
        refine ⟨p6, _, _, rfl, ⟨_, upd_same, Paired.mapP kxt fun _ _ h => h.mono (.same s6)⟩, fun k hk => ⟨(ro.pts k (wOf k hk).1).1, (ro.pts k (wOf k hk).1).2, (wOf k hk).2⟩, fun k hk => ⟨(ro.pts k (cOf k hk).1).1, (ro.pts k (cOf k hk).1).2, (cOf k hk).2⟩, sortK_sortK _, sortK_sortK _, sort_head ro, by rw [(told_perm ro).length_eq]; omega, fun H7 s7 => ⟨_, rfl, iteF ?_⟩⟩
        have c7 := (cC.same s6).same s7
        have tb7 := (TabIs.same (K := K) (w := w) ⟨xt, hxt, ppt⟩ s6).same s7
        have kv1 := kv1.mono (K := K) (.same (s6.trans s7))
        have kv2 := kv2.mono (K := K) (.same (s6.trans s7))
        clear cC s6 s7 hxt ppt kxt hp6
        -- told[""]
        refine ⟨_, rfl, tC_i ?_⟩
        refine ix_tab (k := .w "") tb7 rfl (v := .int 0) (by rw [look_bo, tot _ (pts_sub R _ _ (List.mem_singleton.mpr rfl)), h0]; rfl) ⟨rfl, _, rfl, ?_⟩
        rw [decide_eq_true rfl]
        obtain ⟨vs, st, pr⟩ := c7.rows
        have lv := paired_len pr
        refine iteF ⟨_, rfl, t, rfl, ⟨vs, st⟩, fun D9 hD9 => ?_⟩
        have S9 := steady_tup (K := K) (a := t) (xs := vs)
        rw [← lv] at S9
        refine lc_gen (K := K) (b := fun _ => false) (fun H k y => True) S9 (fun _ _ _ _ t h => h) (fun H2 s => Tups.same s _ _ st) (by exact (by decide : 13 < 14)) (by omega) hD9 (fun k H9 Q hk s9 q => ?_) (fun k H9 Q hk hf _ _ => Bool.noConfusion hf) fun H9 ys9 s9 hy9 pp9 => ?_
        · obtain ⟨u, x, y, eu, su, kx, ky⟩ := (paired_getD pr (a0 := (.no, .no, 0)) (b0 := .non) hk).mono (K := K) (.same s9)
          have tb9 := tb7.same s9
          obtain ⟨x1, hx1, ex1⟩ := pts_p hk
          obtain ⟨x2, hx2, ex2⟩ := pts_q hk
          have b1 : bo T (nk (rowN R k).1) = some (bt T (nk (rowN R k).1)) := by rw [← ex1]; exact tot x1 hx1
          have b2 : bo T (nk (rowN R k).2.1) = some (bt T (nk (rowN R k).2.1)) := by rw [← ex2]; exact tot x2 hx2
          refine ⟨_, rfl, _, rfl, u, _, 0, x, by rw [eu], rfl, su, atI_nat (j := 0) rfl, ix_tab tb9 kx (by rw [look_bo, b1]; rfl) ?_⟩
          refine ⟨_, rfl, _, rfl, u, _, 1, y, by rw [eu], rfl, su, atI_nat (j := 1) rfl, ix_tab tb9 ky (by rw [look_bo, b2]; rfl) ?_⟩
          refine ⟨_, _, rfl, rfl, _, rfl, u, _, 2, _, by rw [eu], rfl, su, atI_nat (j := 2) rfl, _, _, rfl, rfl, _, rfl, ?_⟩
          obtain ⟨a, ea, ha⟩ := hcl k hk _ b2
          change bo T (nk (rowN R k).1) = some a at ea
          rw [b1] at ea
          cases ea
          rw [decide_eq_false (show ¬ mN R k < bt T (nk (rowN R k).1) - bt T (nk (rowN R k).2.1) by change bt T (nk (rowN R k).1) ≤ bt T (nk (rowN R k).2.1) + mN R k at ha; omega)]
          exact q
        have e9 : ys9 = [] := by
          have h := paired_len pp9
          rw [List.filter_eq_nil_iff.mpr (fun _ _ => by simp)] at h
          exact List.length_eq_zero_iff.mp h.symm
        subst e9
        refine ⟨len (by simp), fun p7 hp7 => ?_⟩
        have s8 := same_new (o := .lst []) hp7
        refine ⟨.list [], .list [], .lst (.inl (.inl (s8 _ _ hy9))) .nil, .lst (.inl (.inl upd_same)) .nil, shaped_nil, shaped_nil, _, rfl, ?_⟩
        rw [show PyData.eqv (.list []) (.list []) = true by decide +kernel]
        refine iteF ?_
        have cA := (c7.same s9).same s8
        have tbA := (tb7.same s9).same s8
        have kv1 := kv1.mono (K := K) (.same (s9.trans s8))
        have kv2 := kv2.mono (K := K) (.same (s9.trans s8))
        clear c7 tb7 st pr S9 pp9 hy9 s9 s8 hp7 hD9
        generalize upd H9 p7 (.lst []) = HA at *
        have fitT := fits_of ro hord hcl h0
        have isf : ∀ {H' : Hp} {Q : VK}, Cm K w H D t R db pl ys F H' → TabIs K w H' Dt (asV .int T) → (∀ H2, Same H' H2 → Q (.bl true) H2) → spIsFit K w [.ref t, .ref Dt] H' Q E0 := fun {H' Q} c tb q => ⟨t, .ref Dt, R, .tab (datT T), rfl, c.rows, ro, told_near lr tb nd hin lT, fun H2 s2 => by
          show Q (.bl (isFitT R (datT T))) H2
          rw [fitT]
          exact q H2 s2⟩
        refine ⟨_, rfl, rfl, _, rfl, ?_⟩
        cases od with
        | none =>
          refine iteT (iteT ⟨_, rfl, _, rfl, isf cA tbA fun H2 s2 => q H2 (cA.same s2).but (cA.same s2).dice⟩)
        | some due =>
        refine iteF ⟨_, rfl, pd k1, .str "far", kv1.dp, .str _, (ok k1 hk1).2, far_ok.2.2, _, rfl, ?_⟩
        have e1 : PyData.eqv (pd k1) (.str "far") = decide (nk k1 = nk (.w "far")) := eqK_nk (b := .w "far") (ok k1 hk1).1.1 far_ok.1
        have e2 : PyData.eqv (pd k2) (.str "far") = decide (nk k2 = nk (.w "far")) := eqK_nk (b := .w "far") (ok k2 hk2).1.1 far_ok.1
        rw [e1]
        rcases hk1 with hk1 | hk1
        · rw [decide_eq_false (far_p11 _ (lr.pts _ hk1))]
          refine iteF ⟨_, rfl, pd k2, .str "far", kv2.dp, .str _, (ok k2 hk2).2, far_ok.2.2, _, rfl, ?_⟩
          rw [e2]
          rcases hk2 with hk2 | hk2
          · rw [decide_eq_false (far_p11 _ (lr.pts _ hk2))]
            have eF := hd2 due rfl hk1 hk2
            obtain ⟨d1, d2⟩ := bd due rfl
            have h57 : (1 : Int) ≤ M57 := by unfold M57; decide +kernel
            have sh0 : ∀ (m : Int), (∀ j, j < (rws R).n → (rws (R ++ [(k2, k1, m)])).p j = (rws R).p j ∧ (rws (R ++ [(k2, k1, m)])).q j = (rws R).q j ∧ (rws (R ++ [(k2, k1, m)])).m j = (rws R).m j) ∧ (rws (R ++ [(k2, k1, m)])).p (rws R).n = nk k2 ∧ (rws (R ++ [(k2, k1, m)])).q (rws R).n = nk k1 ∧ (rws (R ++ [(k2, k1, m)])).m (rws R).n = m := fun m => by
              obtain ⟨a1, a2⟩ := rowN_app R (k2, k1, m)
              refine ⟨fun j hj => ?_, ?_, ?_, ?_⟩
              · have a3 := a1 j hj
                refine ⟨congrArg (fun r : Row => nk r.1) a3, congrArg (fun r : Row => nk r.2.1) a3, congrArg (fun r : Row => r.2.2) a3⟩
              · exact congrArg (fun r : Row => nk r.1) a2
              · exact congrArg (fun r : Row => nk r.2.1) a2
              · exact congrArg (fun r : Row => r.2.2) a2
            have ln : ∀ m : Int, (rws (R ++ [(k2, k1, m)])).n = (rws R).n + 1 := fun m => by
              show (R ++ [(k2, k1, m)]).length = R.length + 1
              rw [List.length_append]; rfl
            refine iteF ⟨_, rfl, _, rfl, _, rfl, _, rfl, _, _, rfl, rfl, len (by simp), fun p1 hp1 => ⟨len (by simp), fun p2 hp2 => ?_⟩⟩
            have s1 := same_new (o := .tup [v2, v1, .int (0 - due)]) hp1
            have s2 := same_new (o := .tup [.ref p1]) hp2
            have cB := (cA.same s1).same s2
            have tbB := (tbA.same s1).same s2
            have kv1 := kv1.mono (K := K) (.same (s1.trans s2))
            have kv2 := kv2.mono (K := K) (.same (s1.trans s2))
            have g1 : SqT K _ p1 [v2, v1, .int (0 - due)] := Tups.same (K := K) s2 _ _ (.inl (.inl upd_same))
            refine cat_row (r := (k2, k1, 0 - due)) cB.rows (by omega) g1 kv2 kv1 (.inl (.inl upd_same)) fun HC tt sC rtt => ?_
            clear g1 s1 s2 hp1 hp2 cA tbA
            have roM := lr.more (m := 0 - due) (lr.pts _ hk1) (lr.pts _ hk2) (by omega)
            refine ⟨tt, _, rfl, rtt, roM, fun H' s' hr => ?_, fun Dn HD Tn sD _ _ _ _ _ _ _ _ _ => ?_⟩
            · obtain ⟨js, rg⟩ := hr
              obtain ⟨a1, a2, a3, a4⟩ := sh0 (0 - due)
              exact (wh.more g eF (ln _) a1 a2 a3 (by rw [a4]; omega) rg).elim
            have cD := (cB.same sC).same sD
            have tbD := (tbB.same sC).same sD
            have kv1 := kv1.mono (K := K) (.same (sC.trans sD))
            have kv2 := kv2.mono (K := K) (.same (sC.trans sD))
            clear cB tbB sC sD rtt roM
            refine ⟨_, rfl, _, rfl, nil_i ?_⟩
            refine isf cD tbD fun HE sE => ?_
            refine ⟨true, rfl, iteT ⟨_, rfl, rfl, _, rfl, iteT ?_⟩⟩
            have cE := cD.same sE
            have kv1 := kv1.mono (K := K) (.same sE)
            have kv2 := kv2.mono (K := K) (.same sE)
            refine ⟨_, rfl, _, rfl, _, rfl, _, rfl, _, rfl, _, _, rfl, rfl, len (by simp), fun p1 hp1 => ⟨len (by simp), fun p2 hp2 => ?_⟩⟩
            have s1 := same_new (o := .tup [v2, v1, .int (-1 - due)]) hp1
            have s2 := same_new (o := .tup [.ref p1]) hp2
            have cB := (cE.same s1).same s2
            have kv1 := kv1.mono (K := K) (.same (s1.trans s2))
            have kv2 := kv2.mono (K := K) (.same (s1.trans s2))
            have g1 : SqT K _ p1 [v2, v1, .int (-1 - due)] := Tups.same (K := K) s2 _ _ (.inl (.inl upd_same))
            refine cat_row (r := (k2, k1, -1 - due)) cB.rows (by omega) g1 kv2 kv1 (.inl (.inl upd_same)) fun HC tt sC rtt => ?_
            have roM := lr.more (m := -1 - due) (lr.pts _ hk1) (lr.pts _ hk2) (by omega)
            refine ⟨tt, _, rfl, rtt, roM, fun H' s' _ => ⟨rfl, ?_⟩, fun Dn HD Tn sD _ _ _ _ _ _ cl2 _ ord2 => ?_⟩
            · rw [decide_eq_true rfl]
              exact q _ ((cB.same sC).same s').but ((cB.same sC).same s').dice
            · obtain ⟨a1, a2, a3, a4⟩ := sh0 (-1 - due)
              have pm2 := told_perm roM
              rw [← ord2] at pm2
              exact (wh.most eF (ln _) a1 a2 a3 a4 cl2 fun p ⟨k, hk, ek⟩ => ⟨_, bo_bt (l := Tn.map (·.1)) rfl ⟨k, pm2.mem_iff.mpr (pts_more R _ k hk), ek⟩⟩).elim
          · rw [hk2, decide_eq_true rfl]
            exact iteT ⟨_, rfl, _, rfl, isf cA tbA fun H2 s2 => q H2 (cA.same s2).but (cA.same s2).dice⟩
        · rw [hk1, decide_eq_true rfl]
          exact iteT (iteT ⟨_, rfl, _, rfl, isf cA tbA fun H2 s2 => q H2 (cA.same s2).but (cA.same s2).dice⟩)
end
end Fc
namespace Fc
open PySem L2 PyProof.Rows
/-- a def that may raise, called where it does not -/
theorem pe_cx {X : Cx} {k j : Nat} {x : Str} {sp : Sp} {p pos : Pos} {e : Expr} {es : List Expr} {t : TA} (c : CalX X.prog X.w X.K X.mg X.base k x sp) (hr : Room j X.A) (hk : k ≤ j) (hg : Gl X x) (ha : PA X (e :: es) t) (hdb : (x == ("__debug__" : Str)) = false := by decide)
    (he : starEach (e :: es) X.env = (false, eval e X.env) :: starEach es X.env := by rfl) (hpl : (backTo pos (starEach es X.env)).any (·.1) = false := by rfl) : PE X (.Call (.Name x p) (e :: es) [] pos) (tCal sp t) := by
  obtain ⟨f, fd, ps, F, hm, kp, b⟩ := c.at_
  have q := pe_callS (p := p) (pos := pos) (E := fun _ => E0) F (hr.mono hk) hg hm kp b (fun σ pins H s e s' I c => passL pins σ H s e s' I c) ha hdb he hpl
  exact q
theorem cons_i {ta : TE} {tr : TA} {σ : L2.St} {H : Hp} {Q : List V → Hp → Prop} (h : ta σ H fun x H1 => tr σ H1 fun xs H2 => Q (x :: xs) H2) : tCons ta tr σ H Q := h
/-! a table with one text, and one that is written -/
def rEq1 (w : World) : R2 := fun x y H Q => ∃ (a b : Addr) (t : Str) (i : Int), x = .ref a ∧ y = .ref b ∧ H a = some (MD w a [((.text t : NK), V.str t, V.int i)]) ∧ H b = some (.dK [(.inr t, .int i)]) ∧ Q (.bl true) H
theorem op_eq1 {X : Cx} (hu : X.A.units < cLine) : OpR X (compareOp .Eq) (rEq1 X.w) := by
  intro pins s σ H x y v u Q I rx ry h
  obtain ⟨a, b, t, i, rfl, rfl, ea, eb, q⟩ := h
  obtain rfl : v = Value.ref a := rx
  obtain rfl : u = Value.ref b := ry
  obtain ⟨⟨_, ya, _, o, es, ep, ho, hc, hd, hs, hen⟩, _, _⟩ := (show ObjOk X.prog X.w H s.heap a (MD X.w a [((.text t : NK), V.str t, V.int i)]) from I.hok a _ ea)
  obtain ⟨_, yb, vb, rb, db⟩ := (show ObjOk X.prog X.w H s.heap b (.dK [(.inr t, .int i)]) from I.hok b _ eb)
  obtain ⟨l⟩ := es
  have hl1 : l.length = 1 := hs
  obtain ⟨en, rfl⟩ : ∃ en, l = [en] := List.length_eq_one_iff.mp hl1
  obtain ⟨e1, e2, e3⟩ := hen 0 (Nat.zero_lt_one) _ rfl
  obtain ⟨tk, ek⟩ := (show ∃ tk, en.key = Value.str t tk from e2)
  obtain ⟨tv, ev⟩ := (show ∃ tv, en.val = Value.int i tv from e3)
  have da : s.heap.DictOf (mixKind X.prog X.w) a [((.inr t : Key), en.val)] := by
    refine ⟨o, _, ep, ho, hc, hd, fun x hx => ?_, ?_, ?_⟩
    · have hx2 : x = en := by simpa using hx
      subst hx2
      exact ⟨.inr t, by show keyIs (.inr t) x.key = true; rw [ek]; exact keyIs_str t tk, by rw [hash_key]; exact e1⟩
    · exact .cons (by show keyIs (.inr t) en.key = true; rw [ek]; exact keyIs_str t tk) rfl .nil
    · simp
  have ra : KV [((.inr t : Key), V.int i)] [((.inr t : Key), en.val)] := .cons ⟨rfl, e3⟩ .nil
  have hlen : ([((.inr t : Key), en.val)] : List (Key × Value)).length = vb.length := ra.length.symm.trans rb.length
  exact PySem.W.keq_eq (knd := mixKind X.prog X.w) (r := true) ya yb da db hu (fun _ => hits_all rb ra fun p hp => by
    have hp2 : p = ((.inr t : Key), V.int i) := by simpa using hp
    subst hp2
    exact ⟨valV_pos rfl, rfl⟩) (fin_bl I q (by rw [show ([((.inr t : Key), en.val)] : List (Key × Value)).length = vb.length from hlen]; simp))
def R3 : List Row := [(.w "i", .w "", 4), (.w "j", .w "i", -2), (.w "", .w "j", 1)]
def R4 : List Row := R3 ++ [(.w "", .w "i", -5)]
theorem R3_ok : RowsOk R3 := by
  have a1 : R3.all (fun r => okRow r) = true := by decide +kernel
  have a2 : R3.all (fun r => shK r.1 && shK r.2.1) = true := by decide +kernel
  exact ⟨by decide, fun r hr => List.all_eq_true.mp a1 r hr, fun r hr => (Bool.and_eq_true _ _).mp (List.all_eq_true.mp a2 r hr)⟩
theorem R4_ok : RowsOk R4 := by
  have a1 : R4.all (fun r => okRow r) = true := by decide +kernel
  have a2 : R4.all (fun r => shK r.1 && shK r.2.1) = true := by decide +kernel
  exact ⟨by decide, fun r hr => List.all_eq_true.mp a1 r hr, fun r hr => (Bool.and_eq_true _ _).mp (List.all_eq_true.mp a2 r hr)⟩
theorem R0_ok : RowsOk [] := ⟨by decide, fun r hr => (nomatch hr), fun r hr => nomatch hr⟩
/-- numbers that fit -/
def pot1 (x : NK) : Int := if x = .text "i" then 4 else if x = .text "j" then 2 else 0
def pot2 (x : NK) : Int := if x = .text "i" then 0 else if x = .text "j" then -2 else -1
theorem pot1_fits : ∀ j, j < R3.length → pot1 (pN R3 j) ≤ pot1 (qN R3 j) + mN R3 j := by decide +kernel
theorem pot2_fits : ∀ j, j < R3.length → pot2 (pN R3 j) ≤ pot2 (qN R3 j) + mN R3 j := by decide +kernel
theorem R3_noring : ¬ hasRing R3 := fun ⟨js, rg⟩ =>
  Fd.no_both (G := rws R3) (β := fun x => some (pot1 x)) (fun j hj b e => ⟨_, rfl, by cases e; exact pot1_fits j hj⟩) (fun j hj => ⟨_, rfl, _, rfl⟩) rg
theorem R0_noring : ¬ hasRing [] := fun ⟨js, rg⟩ =>
  Fd.no_both (G := rws []) (β := fun x => some (pot1 x)) (fun j hj => absurd hj (Nat.not_lt_zero j)) (fun j hj => absurd hj (Nat.not_lt_zero j)) rg
theorem R4_clash (B : List (Kd × Int)) (hk : B.map (·.1) = ptsOf R4) (cl : Fd.closed (rws R4) (bo B)) : False := by
  have tot : ∀ p ∈ ptsOf R4, bo B (nk p) = some (bt B (nk p)) := fun p hp => bo_bt hk ⟨p, hp, rfl⟩
  have e1 := tot (.w "") (by decide +kernel)
  have e2 := tot (.w "i") (by decide +kernel)
  obtain ⟨a, ea, ha⟩ := cl 0 (by decide) _ e1
  obtain ⟨b, eb, hb⟩ := cl 3 (by decide) _ e2
  have ea : bo B (nk (.w "i")) = some a := ea
  have eb : bo B (nk (.w "")) = some b := eb
  rw [e2] at ea
  rw [e1] at eb
  cases ea
  cases eb
  have ha : bt B (nk (.w "i")) ≤ bt B (nk (.w "")) + 4 := ha
  have hb : bt B (nk (.w "")) ≤ bt B (nk (.w "i")) + -5 := hb
  omega
/-- what the passes find is not below numbers that fit -/
theorem rlx_above {R : List Row} {pot : NK → Int} (hp : ∀ j, j < R.length → pot (pN R j) ≤ pot (qN R j) + mN R j) {o : Kd} {B' : List (Kd × Int)} {C : List (Kd × Nat)} {l : Option Nat} (r : Rlx R [(o, 0)] B' C l) {x : NK} {v : Int} (e : bo B' x = some v) : pot x ≤ v + pot (nk o) := by
  refine r.src (fun x v => pot x ≤ v + pot (nk o)) (fun x v e => ?_) (fun j hj v h => ?_) x v e
  · obtain ⟨y, hy, e1, e2⟩ := bo_mem e
    rw [List.mem_singleton.mp hy] at e1 e2
    have e1 : nk o = x := e1
    have e2 : (0 : Int) = v := e2
    subst e1
    subst e2
    omega
  · have := hp j hj
    show pot (pN R j) ≤ v + mN R j + pot (nk o)
    have h : pot (qN R j) ≤ v + pot (nk o) := h
    omega
theorem rlx_fin {R : List Row} {B B' : List (Kd × Int)} {C : List (Kd × Nat)} {l : Option Nat} (r : Rlx R B B' C l) (n : ¬ hasRing R) : Fd.closed (rws R) (bo B') := by
  cases l with
  | none => exact r.fin
  | some j => exact (n r.has).elim
theorem rlx_at {o : Kd} {R : List Row} {B' : List (Kd × Int)} {C : List (Kd × Nat)} {l : Option Nat} (r : Rlx R [(o, 0)] B' C l) : ∃ v, bo B' (nk o) = some v ∧ v ≤ 0 := r.mono _ _ (by unfold bo; simp)
theorem val1 {B' : List (Kd × Int)} {C : List (Kd × Nat)} {l : Option Nat} (r : Rlx R3 [(.w "", 0)] B' C l) : bo B' (nk (.w "j")) = some 2 ∧ bo B' (nk (.w "i")) = some 4 := by
  have cl := rlx_fin r R3_noring
  obtain ⟨v0, e0, h0⟩ := rlx_at r
  obtain ⟨v1, e1, h1⟩ := cl 0 (by decide) _ e0
  obtain ⟨v2, e2, h2⟩ := cl 1 (by decide) _ e1
  have e1 : bo B' (nk (.w "i")) = some v1 := e1
  have e2 : bo B' (nk (.w "j")) = some v2 := e2
  have h1 : v1 ≤ v0 + 4 := h1
  have h2 : v2 ≤ v1 + -2 := h2
  have g1 := rlx_above pot1_fits r e1
  have g2 := rlx_above pot1_fits r e2
  have p0 : pot1 (nk (.w "")) = 0 := by decide +kernel
  have p1 : pot1 (nk (.w "i")) = 4 := by decide +kernel
  have p2 : pot1 (nk (.w "j")) = 2 := by decide +kernel
  rw [p0, p1] at g1
  rw [p0, p2] at g2
  rw [e1, e2]
  exact ⟨by rw [show v2 = 2 by omega], by rw [show v1 = 4 by omega]⟩
theorem val2 {B' : List (Kd × Int)} {C : List (Kd × Nat)} {l : Option Nat} (r : Rlx R3 [(.w "i", 0)] B' C l) : bo B' (nk (.w "")) = some (-1) := by
  have cl := rlx_fin r R3_noring
  obtain ⟨v0, e0, h0⟩ := rlx_at r
  obtain ⟨v1, e1, h1⟩ := cl 1 (by decide) _ e0
  obtain ⟨v2, e2, h2⟩ := cl 2 (by decide) _ e1
  have e2 : bo B' (nk (.w "")) = some v2 := e2
  have h1 : v1 ≤ v0 + -2 := h1
  have h2 : v2 ≤ v1 + 1 := h2
  have g2 := rlx_above pot2_fits r e2
  have p1 : pot2 (nk (.w "i")) = 0 := by decide +kernel
  have p2 : pot2 (nk (.w "")) = -1 := by decide +kernel
  rw [p1, p2] at g2
  rw [e2]
  rw [show v2 = -1 by omega]
def spLaw (K : PySem.W.Frag) : Sp := fun vs H Q _ => ∃ (ns : List Int) (a : Addr), vs = [.ref a] ∧ SqL K H a (ns.map V.int) ∧ ns.length ≤ 63 ∧ ∀ H', Q (.bl true) H'
section
variable {K : PySem.W.Frag} {mg : Str → Option Value} {base : Heap} {P : Program} {w : World}
abbrev n51 : List Str := ["_law_script", "_law_spot", "_law_dice_here", "_law_turn", "_law_rows_here"]
theorem sc51 : FnScope n51 ["_law_script"] (defScope (topS 51)) := ⟨rfl, rfl, rfl, by decide +kernel, rfl, by decide +kernel, by decide +kernel⟩
theorem ok51 {f C : Addr} {fd : FuncData} (F : Fun K "law" "law" (topS 51) f fd) (B : Blt mg) (c50 : CalG P w K mg base 8 "_law_right" (spRight K w)) (c27 : Cal P w K mg base 1 "_law_dice" (spDice K w)) (c41 : CalX P w K mg base 6 "tightest" (spTight K w C)) (c17 : Cal P w K mg base 6 "fitting" (spFit K w)) (c19 : Cal P w K mg base 6 "ring" (spRing K w)) :
    FnG P w K mg base 9 f fd ["_law_script"] (spLaw K) := by
  refine okG F sc51 (fun vs H Q E h => ?_) (fun cdv A outer s H vs Q E hgd hr h => ?_)
  · obtain ⟨ns, a, rfl, _⟩ := h
    rfl
  · have hu := hu70 hr
    refine ⟨_, pss_cons (ps_for PassesOwn.never rfl (pi_range1 (by rfl) B.range (pa_cons (pe_callB (call_max2 rfl) (by rfl) B.max boot_max (pa_cons pe_int (pa_cons (pe_callB (call_min2 rfl) (by rfl) B.min boot_min (pa_cons pe_int (pa_cons (pe_callB call_len_seq (by rfl) B.len boot_len (pa_cons (pv 0) pa_nil)) pa_nil))) pa_nil))) pa_nil)) (pg_name (i := 1) sc51.nd rfl (Or.inl rfl))
        (pss_cons (ps_set (i := 2) sc51.nd rfl (Or.inl rfl) (pe_c c27 hr (by decide) (by rfl) (pa_cons (pv 0) (pa_cons (pv 1) pa_nil))))
        (pss_one (ps_for PassesOwn.never rfl (pi_range1 (by rfl) B.range (pa_cons pe_int pa_nil)) (pg_name (i := 3) sc51.nd rfl (Or.inl rfl))
          (pss_one (ps_if (pt_not (pt_val (pe_cg c50 hgd hr (by decide) (by rfl) (pa_cons (pv 2) pa_nil)))) (pss_one (ps_ret pe_bl)) pss_nil))))))
      (pss_cons (ps_set (i := 4) sc51.nd rfl (Or.inl rfl) (pe_tup (pa_cons (pe_tup (pa_cons pe_str (pa_cons pe_str (pa_cons pe_int pa_nil)))) (pa_cons (pe_tup (pa_cons pe_str (pa_cons pe_str (pa_cons (pe_un un_neg pe_int) pa_nil)))) (pa_cons (pe_tup (pa_cons pe_str (pa_cons pe_str (pa_cons pe_int pa_nil)))) pa_nil)))))
      (pss_cons (ps_if (pw_or (pt_cmpR op_ne (pe_cx c41 hr (by decide) (by rfl) (pa_cons (pv 4) (pa_cons pe_str (pa_cons pe_str pa_nil)))) pe_int (nomark _)) (pw_or (pt_cmpR op_ne (pe_cx c41 hr (by decide) (by rfl) (pa_cons (pv 4) (pa_cons pe_str (pa_cons pe_str pa_nil)))) (pe_un un_neg pe_int) (nomark _))
          (pw_or1 (pt_cmpR op_ne (pe_cx c41 hr (by decide) (by rfl) (pa_cons (pv 4) (pa_cons pe_str (pa_cons pe_str pa_nil)))) pe_int (nomark _))))).pt (pss_one (ps_ret pe_bl)) pss_nil)
      (pss_one (ps_ret (pe_and (pe_cmpR op_notN (pe_c c19 hr (by decide) (by rfl) (pa_cons (pe_op op_catA (pv 4) (pe_tup (pa_cons (pe_tup (pa_cons pe_str (pa_cons pe_str (pa_cons (pe_un un_neg pe_int) pa_nil)))) pa_nil))) pa_nil)) pe_non (nomark _))
        (pe_and (pe_cmpR (op_eq1 (Nat.lt_of_le_of_lt (Nat.le_add_right _ 64) (hu64 hu))) (pe_c c17 hr (by decide) (by rfl) (pa_cons (pe_tup pa_nil) pa_nil)) (pe_disp (pps_cons pe_str pe_int pps_nil) (by rfl) (by rfl) (by simp) (by decide)) (nomark _))
        (pe_one (pe_cmpR op_isN (pe_c c19 hr (by decide) (by rfl) (pa_cons (pe_tup pa_nil) pa_nil)) pe_non (nomark _))))))))), ?_⟩
    obtain ⟨ns, a, rfl, sa, hl, q⟩ := h
    have sl : sizeLine = 16777216 := sizeLine_eq
    have len : ∀ {n : Nat}, n ≤ 1000 → n ≤ sizeLine := fun h => by rw [sl]; omega
    refine ⟨_, rfl, a, _, rfl, .inl sa, 3, _, rfl, 1, _, rfl, _, rfl, ?_, ?_, ?_⟩
    · split <;> split <;> omega
    · split <;> split <;> omega
    obtain ⟨n, hn⟩ : ∃ n, n = ((if (if ((ns.map V.int).length : Int) < 3 then ((ns.map V.int).length : Int) else 3) > 1 then (if ((ns.map V.int).length : Int) < 3 then ((ns.map V.int).length : Int) else 3) else 1) : Int).toNat := ⟨_, rfl⟩
    have hn3 : n ≤ 3 := by
      rw [hn]
      split <;> split <;> omega
    rw [← hn]
    refine for_steady steady_rng (fun k σ H' => Same H H' ∧ ∃ z1 z2 z3 z4, σ = [some (.ref a), z1, z2, z3, z4]) ⟨Same.refl H, _, _, _, _, rfl⟩ (fun _ _ _ _ _ => trivial) ?_ ?_
    · rintro k σ H1 hk ⟨s1, z1, z2, z3, z4, rfl⟩
      refine ⟨_, rfl, _, rfl, a, ns, 0 + (k : Int), rfl, s1.seq sa, by omega, by omega, by omega, fun D x y z hD => ?_⟩
      have hD0 : H D = none := by
        cases e : H D with
        | none => rfl
        | some o => rw [s1 D o e] at hD; cases hD
      have s2 : Same H (upd H1 D (dicL x y z)) := fun b o e => by rw [upd_ne (ne_of_none (s1 b o e) hD)]; exact s1 b o e
      refine ⟨3, rfl, by decide, by decide, ?_⟩
      refine for_steady steady_rng (fun k2 σ H' => DiceIn H' D ∧ Same H H' ∧ ∃ z3, σ = [some (.ref a), some (.int (0 + (k : Int))), some (.ref D), z3, z4]) ⟨⟨x, y, z, upd_same⟩, s2, _, rfl⟩ (fun _ _ _ _ _ => trivial) ?_ ?_
      · rintro k2 σ H2 hk2 ⟨d2, s2, z3, rfl⟩
        refine ⟨_, rfl, D, rfl, d2, fun H3 b3 d3 => ⟨_, rfl, iteF ⟨d3, fun b o e => b3 b o (ne_of_none e hD0) (s2 b o e), _, rfl⟩⟩⟩
      · rintro σ H2 ⟨d2, s2, z3, rfl⟩
        exact ⟨s2, _, _, _, _, rfl⟩
    · rintro σ H1 ⟨s1, z1, z2, z3, z4, rfl⟩
      clear s1 sa
      refine ⟨len (by simp), fun t1 h1 => ⟨2, rfl, len (by simp), fun t2 h2 => ⟨len (by simp), fun t3 h3 => ⟨len (by simp), fun t h => ?_⟩⟩⟩⟩
      have s3 := same_new (o := .tup [.ref t1, .ref t2, .ref t3]) h
      have s2 := (same_new (o := .tup [.str "", .str "j", .int 1]) h3).trans s3
      have s1 := (same_new (o := .tup [.str "j", .str "i", .int (-2)]) h2).trans s2
      have rt : RowsT K (upd (upd (upd (upd H1 t1 (.tup [.str "i", .str "", .int 4])) t2 (.tup [.str "j", .str "i", .int (-2)])) t3 (.tup [.str "", .str "j", .int 1])) t (.tup [.ref t1, .ref t2, .ref t3])) R3 t := by
        refine ⟨_, .inl (.inl upd_same), .cons ⟨t1, _, _, rfl, .inl (.inl (s1 _ _ upd_same)), rfl, rfl⟩ (.cons ⟨t2, _, _, rfl, .inl (.inl (s2 _ _ upd_same)), rfl, rfl⟩ (.cons ⟨t3, _, _, rfl, .inl (.inl (s3 _ _ upd_same)), rfl, rfl⟩ .nil))⟩
      clear s1 s2 s3
      generalize upd (upd (upd (upd H1 t1 (.tup [.str "i", .str "", .int 4])) t2 (.tup [.str "j", .str "i", .int (-2)])) t3 (.tup [.str "", .str "j", .int 1])) t (.tup [.ref t1, .ref t2, .ref t3]) = H2 at rt
      have tight : ∀ {H : Hp} {x y : Str} {i : Int} {Q : VK}, RowsT K H R3 t → (isPtK (.w x) = true ∧ kdShort (.w x) = true) → (isPtK (.w y) = true ∧ kdShort (.w y) = true) → (∀ B' C l, Rlx R3 [(.w y, 0)] B' C l → bo B' (nk (.w x)) = some i) →
          (∀ H', RowsT K H' R3 t → Q (.int i) H') → spTight K w C [.ref t, .str x, .str y] H Q E0 := fun {H x y i Q} r px py e q =>
        ⟨t, R3, .str x, .str y, .w x, .w y, rfl, r, R3_ok, rfl, rfl, px, py, fun _ _ hr => (R3_noring hr).elim, fun H' B' C l s _ rx => by rw [e B' C l rx]; exact q H' (r.mono (.same s))⟩
      refine ⟨_, rfl, cons_i (tC_i (cons_i (tC_i (nil_i ?_))))⟩
      refine tight rt (by decide +kernel) (by decide +kernel) (fun _ _ _ r => (val1 r).1) fun H3 r3 => ⟨rfl, ?_⟩
      rw [decide_eq_true rfl]
      refine ⟨_, rfl, iteF ?_⟩
      refine ⟨_, rfl, cons_i (tC_i (cons_i (tC_i (nil_i ?_))))⟩
      refine tight r3 (by decide +kernel) (by decide +kernel) (fun _ _ _ r => val2 r) fun H4 r4 => ⟨1, rfl, rfl, ?_⟩
      rw [decide_eq_true rfl]
      refine ⟨_, rfl, iteF ?_⟩
      refine ⟨_, rfl, cons_i (tC_i (cons_i (tC_i (nil_i ?_))))⟩
      refine tight r4 (by decide +kernel) (by decide +kernel) (fun _ _ _ r => (val1 r).2) fun H5 r5 => ⟨rfl, ?_⟩
      rw [decide_eq_true rfl]
      refine ⟨_, rfl, iteF ?_⟩
      refine ⟨_, rfl, 5, rfl, len (by simp), fun p1 hp1 => ⟨len (by simp), fun p2 hp2 => ?_⟩⟩
      have s6 := same_new (o := .tup [.str "", .str "i", .int (-5)]) hp1
      have s7 := same_new (o := .tup [.ref p1]) hp2
      have r7 := (r5.mono (.same s6)).mono (.same s7)
      have g1 : SqT K _ p1 [.str "", .str "i", .int (-5)] := Tups.same (K := K) s7 _ _ (.inl (.inl upd_same))
      refine cat_row (r := (.w "", .w "i", -5)) r7 (by decide) g1 rfl rfl (.inl (.inl upd_same)) fun H8 tt s8 r8 => ?_
      refine ⟨tt, R4, rfl, r8, R4_ok, fun H' s' ⟨B, hk, cl⟩ => (R4_clash B hk cl).elim, fun p H9 js s9 hp _ _ _ _ hj => ⟨rfl, _, rfl, iteT ?_⟩⟩
      refine ⟨len (by simp), fun p3 hp3 => ?_⟩
      have r0 : RowsT K (upd H9 p3 (.tup [])) [] p3 := ⟨[], .inl (.inl upd_same), .nil⟩
      refine ⟨p3, [], rfl, r0, R0_ok, fun H' s' hr => (R0_noring hr).elim, fun D H10 T s10 hD tb hT hnd _ _ _ h0 hord => ?_⟩
      have e1 : T.map (·.1) = [.w ""] := by
        have pm := told_perm R0_ok
        rw [← hord] at pm
        exact List.perm_singleton.mp pm
      have e2 : T = [(.w "", 0)] := by
        obtain ⟨x, rfl⟩ : ∃ x, T = [x] := List.length_eq_one_iff.mp (by rw [← List.length_map (·.1), e1]; rfl)
        obtain ⟨k, v⟩ := x
        have ek : k = .w "" := by simpa using e1
        subst ek
        have ev : v = 0 := by
          have : bt [((.w "" : Kd), v)] (nk (.w "")) = v := by unfold bt; simp
          rw [this] at h0
          exact h0
        subst ev
        rfl
      subst e2
      have tb2 : H10 D = some (MD w D [(nk (.w ""), V.str "", V.int 0)]) := by
        obtain ⟨xs, hxs, pp⟩ := tb
        cases pp with
        | cons h t =>
          cases t
          obtain ⟨a1, a2, a3⟩ := h
          rename_i x
          obtain ⟨x1, x2, x3⟩ := x
          have a1 : x1 = nk (.w "") := a1
          have a2 : x2 = V.str "" := a2
          have a3 : x3 = V.int 0 := a3
          subst a1 a2 a3
          exact hxs
      refine fun c6 hc6 => ⟨upd_same, [(.inr "", .int 0)], rfl, by decide, ?_⟩
      have n6 : D ≠ c6 := fun e => by rw [← e, tb2] at hc6; cases hc6
      refine ⟨D, c6, "", 0, rfl, rfl, by rw [upd_ne n6, upd_ne n6]; exact tb2, upd_same, ⟨_, rfl, iteT ?_⟩⟩
      refine ⟨len (by simp), fun p4 hp4 => ?_⟩
      refine ⟨p4, [], rfl, ⟨[], .inl (.inl upd_same), .nil⟩, R0_ok, fun H' s' _ => ⟨rfl, ?_⟩, fun p H' js _ _ _ _ _ hj => (R0_noring ⟨js, hj⟩).elim⟩
      rw [decide_eq_true rfl]
      exact q H'
end
end Fc
namespace Fc
open PySem L2 PyProof.Rows
theorem all_mk {P : Program} {w : World} {K : PySem.W.Frag} {h : Heap} {mg : Str → Option Value} {fa : Addr} (X : K.In h) (G : h.Ns mainGlobals mg) (hfa : mg "law" = some (.ref fa))
    {f1 f2 f3 f8 f10 f11 f12 f13 f14 f25 f24 f23 f22 f21 f17 f18 f19 f20 f40 f41 f27 f28 f29 f43 f44 f45 f46 f47 f48 f49 f50 f51 C : Addr} {od1 od2 od3 od8 od10 od11 od12 od13 od14 od25 od24 od23 od22 od21 od17 od18 od19 od20 od40 od41 od27 od28 od29 od43 od44 od45 od46 od47 od48 od49 od50 od51 : Option Addr} {an1 an2 an3 an8 an10 an11 an12 an13 an14 an25 an24 an23 an22 an21 an17 an18 an19 an20 an40 an41 an27 an28 an29 an43 an44 an45 an46 an47 an48 an49 an50 an51 : Option Addr} {sl1 sl2 sl3 sl8 sl10 sl11 sl12 sl13 sl14 sl25 sl24 sl23 sl22 sl21 sl17 sl18 sl19 sl20 sl40 sl41 sl27 sl28 sl29 sl43 sl44 sl45 sl46 sl47 sl48 sl49 sl50 sl51 : Array (Option Value)}
    {oc1 kV1 dc1 pm1 cd1 ct1 oc2 kV2 dc2 pm2 cd2 ct2 oc3 kV3 dc3 pm3 cd3 ct3 oc8 kV8 dc8 pm8 cd8 ct8 oc10 kV10 dc10 pm10 cd10 ct10 oc11 kV11 dc11 pm11 cd11 ct11 oc12 kV12 dc12 pm12 cd12 ct12 oc13 kV13 dc13 pm13 cd13 ct13 oc14 kV14 dc14 pm14 cd14 ct14 oc25 kV25 dc25 pm25 cd25 ct25 oc24 kV24 dc24 pm24 cd24 ct24 oc23 kV23 dc23 pm23 cd23 ct23 oc22 kV22 dc22 pm22 cd22 ct22 oc21 kV21 dc21 pm21 cd21 ct21 oc17 kV17 dc17 pm17 cd17 ct17 oc18 kV18 dc18 pm18 cd18 ct18 oc19 kV19 dc19 pm19 cd19 ct19 oc20 kV20 dc20 pm20 cd20 ct20 oc40 kV40 dc40 pm40 cd40 ct40 oc41 kV41 dc41 pm41 cd41 ct41 oc27 kV27 dc27 pm27 cd27 ct27 oc28 kV28 dc28 pm28 cd28 ct28 oc29 kV29 dc29 pm29 cd29 ct29 oc43 kV43 dc43 pm43 cd43 ct43 oc44 kV44 dc44 pm44 cd44 ct44 oc45 kV45 dc45 pm45 cd45 ct45 oc46 kV46 dc46 pm46 cd46 ct46 oc47 kV47 dc47 pm47 cd47 ct47 oc48 kV48 dc48 pm48 cd48 ct48 oc49 kV49 dc49 pm49 cd49 ct49 oc50 kV50 dc50 pm50 cd50 ct50 oc51 kV51 dc51 pm51 cd51 ct51 : Value} {tM : Tok}
    (a1 : PySem.W.nsIn K mainGlobals "is_any_integer" = some (some (.ref f1))) (l1 : K.lookup f1 = some ⟨oc1, od1, .func (PySem.W.fnOf "is_any_integer" "is_any_integer" (defArgs (topS 1)) (defBody (topS 1)) (defScope (topS 1)) .none kV1 dc1 pm1 an1 cd1 ct1), sl1⟩) (c1 : PySem.W.codeIn K cd1 "is_any_integer" = true) (k1 : PySem.W.keepIn K (.ref f1) = true)
    (a2 : PySem.W.nsIn K mainGlobals "is_passed_integer" = some (some (.ref f2))) (l2 : K.lookup f2 = some ⟨oc2, od2, .func (PySem.W.fnOf "is_passed_integer" "is_passed_integer" (defArgs (topS 2)) (defBody (topS 2)) (defScope (topS 2)) .none kV2 dc2 pm2 an2 cd2 ct2), sl2⟩) (c2 : PySem.W.codeIn K cd2 "is_passed_integer" = true) (k2 : PySem.W.keepIn K (.ref f2) = true)
    (a3 : PySem.W.nsIn K mainGlobals "is_index" = some (some (.ref f3))) (l3 : K.lookup f3 = some ⟨oc3, od3, .func (PySem.W.fnOf "is_index" "is_index" (defArgs (topS 3)) (defBody (topS 3)) (defScope (topS 3)) .none kV3 dc3 pm3 an3 cd3 ct3), sl3⟩) (c3 : PySem.W.codeIn K cd3 "is_index" = true) (k3 : PySem.W.keepIn K (.ref f3) = true)
    (a8 : PySem.W.nsIn K mainGlobals "is_name" = some (some (.ref f8))) (l8 : K.lookup f8 = some ⟨oc8, od8, .func (PySem.W.fnOf "is_name" "is_name" (defArgs (topS 8)) (defBody (topS 8)) (defScope (topS 8)) .none kV8 dc8 pm8 an8 cd8 ct8), sl8⟩) (c8 : PySem.W.codeIn K cd8 "is_name" = true) (k8 : PySem.W.keepIn K (.ref f8) = true)
    (a10 : PySem.W.nsIn K mainGlobals "points_of" = some (some (.ref f10))) (l10 : K.lookup f10 = some ⟨oc10, od10, .func (PySem.W.fnOf "points_of" "points_of" (defArgs (topS 10)) (defBody (topS 10)) (defScope (topS 10)) .none kV10 dc10 pm10 an10 cd10 ct10), sl10⟩) (c10 : PySem.W.codeIn K cd10 "points_of" = true) (k10 : PySem.W.keepIn K (.ref f10) = true)
    (a11 : PySem.W.nsIn K mainGlobals "relaxed" = some (some (.ref f11))) (l11 : K.lookup f11 = some ⟨oc11, od11, .func (PySem.W.fnOf "relaxed" "relaxed" (defArgs (topS 11)) (defBody (topS 11)) (defScope (topS 11)) .none kV11 dc11 pm11 an11 cd11 ct11), sl11⟩) (c11 : PySem.W.codeIn K cd11 "relaxed" = true) (k11 : PySem.W.keepIn K (.ref f11) = true)
    (a12 : PySem.W.nsIn K mainGlobals "numbers_that_fit" = some (some (.ref f12))) (l12 : K.lookup f12 = some ⟨oc12, od12, .func (PySem.W.fnOf "numbers_that_fit" "numbers_that_fit" (defArgs (topS 12)) (defBody (topS 12)) (defScope (topS 12)) .none kV12 dc12 pm12 an12 cd12 ct12), sl12⟩) (c12 : PySem.W.codeIn K cd12 "numbers_that_fit" = true) (k12 : PySem.W.keepIn K (.ref f12) = true)
    (a13 : PySem.W.nsIn K mainGlobals "found_ring" = some (some (.ref f13))) (l13 : K.lookup f13 = some ⟨oc13, od13, .func (PySem.W.fnOf "found_ring" "found_ring" (defArgs (topS 13)) (defBody (topS 13)) (defScope (topS 13)) .none kV13 dc13 pm13 an13 cd13 ct13), sl13⟩) (c13 : PySem.W.codeIn K cd13 "found_ring" = true) (k13 : PySem.W.keepIn K (.ref f13) = true)
    (a14 : PySem.W.nsIn K mainGlobals "makes_ring" = some (some (.ref f14))) (l14 : K.lookup f14 = some ⟨oc14, od14, .func (PySem.W.fnOf "makes_ring" "makes_ring" (defArgs (topS 14)) (defBody (topS 14)) (defScope (topS 14)) .none kV14 dc14 pm14 an14 cd14 ct14), sl14⟩) (c14 : PySem.W.codeIn K cd14 "makes_ring" = true) (k14 : PySem.W.keepIn K (.ref f14) = true)
    (a25 : PySem.W.nsIn K mainGlobals "is_new_position" = some (some (.ref f25))) (l25 : K.lookup f25 = some ⟨oc25, od25, .func (PySem.W.fnOf "is_new_position" "is_new_position" (defArgs (topS 25)) (defBody (topS 25)) (defScope (topS 25)) .none kV25 dc25 pm25 an25 cd25 ct25), sl25⟩) (c25 : PySem.W.codeIn K cd25 "is_new_position" = true) (k25 : PySem.W.keepIn K (.ref f25) = true)
    (a24 : PySem.W.nsIn K mainGlobals "is_place" = some (some (.ref f24))) (l24 : K.lookup f24 = some ⟨oc24, od24, .func (PySem.W.fnOf "is_place" "is_place" (defArgs (topS 24)) (defBody (topS 24)) (defScope (topS 24)) .none kV24 dc24 pm24 an24 cd24 ct24), sl24⟩) (c24 : PySem.W.codeIn K cd24 "is_place" = true) (k24 : PySem.W.keepIn K (.ref f24) = true)
    (a23 : PySem.W.nsIn K mainGlobals "is_point" = some (some (.ref f23))) (l23 : K.lookup f23 = some ⟨oc23, od23, .func (PySem.W.fnOf "is_point" "is_point" (defArgs (topS 23)) (defBody (topS 23)) (defScope (topS 23)) .none kV23 dc23 pm23 an23 cd23 ct23), sl23⟩) (c23 : PySem.W.codeIn K cd23 "is_point" = true) (k23 : PySem.W.keepIn K (.ref f23) = true)
    (a22 : PySem.W.nsIn K mainGlobals "is_difference" = some (some (.ref f22))) (l22 : K.lookup f22 = some ⟨oc22, od22, .func (PySem.W.fnOf "is_difference" "is_difference" (defArgs (topS 22)) (defBody (topS 22)) (defScope (topS 22)) .none kV22 dc22 pm22 an22 cd22 ct22), sl22⟩) (c22 : PySem.W.codeIn K cd22 "is_difference" = true) (k22 : PySem.W.keepIn K (.ref f22) = true)
    (a21 : PySem.W.nsIn K mainGlobals "require_differences" = some (some (.ref f21))) (l21 : K.lookup f21 = some ⟨oc21, od21, .func (PySem.W.fnOf "require_differences" "require_differences" (defArgs (topS 21)) (defBody (topS 21)) (defScope (topS 21)) .none kV21 dc21 pm21 an21 cd21 ct21), sl21⟩) (c21 : PySem.W.codeIn K cd21 "require_differences" = true) (k21 : PySem.W.keepIn K (.ref f21) = true)
    (a17 : PySem.W.nsIn K mainGlobals "fitting" = some (some (.ref f17))) (l17 : K.lookup f17 = some ⟨oc17, od17, .func (PySem.W.fnOf "fitting" "fitting" (defArgs (topS 17)) (defBody (topS 17)) (defScope (topS 17)) .none kV17 dc17 pm17 an17 cd17 ct17), sl17⟩) (c17 : PySem.W.codeIn K cd17 "fitting" = true) (k17 : PySem.W.keepIn K (.ref f17) = true)
    (a18 : PySem.W.nsIn K mainGlobals "is_fitting" = some (some (.ref f18))) (l18 : K.lookup f18 = some ⟨oc18, od18, .func (PySem.W.fnOf "is_fitting" "is_fitting" (defArgs (topS 18)) (defBody (topS 18)) (defScope (topS 18)) .none kV18 dc18 pm18 an18 cd18 ct18), sl18⟩) (c18 : PySem.W.codeIn K cd18 "is_fitting" = true) (k18 : PySem.W.keepIn K (.ref f18) = true)
    (a19 : PySem.W.nsIn K mainGlobals "ring" = some (some (.ref f19))) (l19 : K.lookup f19 = some ⟨oc19, od19, .func (PySem.W.fnOf "ring" "ring" (defArgs (topS 19)) (defBody (topS 19)) (defScope (topS 19)) .none kV19 dc19 pm19 an19 cd19 ct19), sl19⟩) (c19 : PySem.W.codeIn K cd19 "ring" = true) (k19 : PySem.W.keepIn K (.ref f19) = true)
    (a20 : PySem.W.nsIn K mainGlobals "is_ring" = some (some (.ref f20))) (l20 : K.lookup f20 = some ⟨oc20, od20, .func (PySem.W.fnOf "is_ring" "is_ring" (defArgs (topS 20)) (defBody (topS 20)) (defScope (topS 20)) .none kV20 dc20 pm20 an20 cd20 ct20), sl20⟩) (c20 : PySem.W.codeIn K cd20 "is_ring" = true) (k20 : PySem.W.keepIn K (.ref f20) = true)
    (a40 : PySem.W.nsIn K mainGlobals "least_bound" = some (some (.ref f40))) (l40 : K.lookup f40 = some ⟨oc40, od40, .func (PySem.W.fnOf "least_bound" "least_bound" (defArgs (topS 40)) (defBody (topS 40)) (defScope (topS 40)) .none kV40 dc40 pm40 an40 cd40 ct40), sl40⟩) (c40 : PySem.W.codeIn K cd40 "least_bound" = true) (k40 : PySem.W.keepIn K (.ref f40) = true)
    (a41 : PySem.W.nsIn K mainGlobals "tightest" = some (some (.ref f41))) (l41 : K.lookup f41 = some ⟨oc41, od41, .func (PySem.W.fnOf "tightest" "tightest" (defArgs (topS 41)) (defBody (topS 41)) (defScope (topS 41)) .none kV41 dc41 pm41 an41 cd41 ct41), sl41⟩) (c41 : PySem.W.codeIn K cd41 "tightest" = true) (k41 : PySem.W.keepIn K (.ref f41) = true)
    (a27 : PySem.W.nsIn K mainGlobals "_law_dice" = some (some (.ref f27))) (l27 : K.lookup f27 = some ⟨oc27, od27, .func (PySem.W.fnOf "_law_dice" "_law_dice" (defArgs (topS 27)) (defBody (topS 27)) (defScope (topS 27)) .none kV27 dc27 pm27 an27 cd27 ct27), sl27⟩) (c27 : PySem.W.codeIn K cd27 "_law_dice" = true) (k27 : PySem.W.keepIn K (.ref f27) = true)
    (a28 : PySem.W.nsIn K mainGlobals "_law_roll" = some (some (.ref f28))) (l28 : K.lookup f28 = some ⟨oc28, od28, .func (PySem.W.fnOf "_law_roll" "_law_roll" (defArgs (topS 28)) (defBody (topS 28)) (defScope (topS 28)) .none kV28 dc28 pm28 an28 cd28 ct28), sl28⟩) (c28 : PySem.W.codeIn K cd28 "_law_roll" = true) (k28 : PySem.W.keepIn K (.ref f28) = true)
    (a29 : PySem.W.nsIn K mainGlobals "_law_pick" = some (some (.ref f29))) (l29 : K.lookup f29 = some ⟨oc29, od29, .func (PySem.W.fnOf "_law_pick" "_law_pick" (defArgs (topS 29)) (defBody (topS 29)) (defScope (topS 29)) .none kV29 dc29 pm29 an29 cd29 ct29), sl29⟩) (c29 : PySem.W.codeIn K cd29 "_law_pick" = true) (k29 : PySem.W.keepIn K (.ref f29) = true)
    (a43 : PySem.W.nsIn K mainGlobals "_law_points" = some (some (.ref f43))) (l43 : K.lookup f43 = some ⟨oc43, od43, .func (PySem.W.fnOf "_law_points" "_law_points" (defArgs (topS 43)) (defBody (topS 43)) (defScope (topS 43)) .none kV43 dc43 pm43 an43 cd43 ct43), sl43⟩) (c43 : PySem.W.codeIn K cd43 "_law_points" = true) (k43 : PySem.W.keepIn K (.ref f43) = true)
    (a44 : PySem.W.nsIn K mainGlobals "_law_rows" = some (some (.ref f44))) (l44 : K.lookup f44 = some ⟨oc44, od44, .func (PySem.W.fnOf "_law_rows" "_law_rows" (defArgs (topS 44)) (defBody (topS 44)) (defScope (topS 44)) .none kV44 dc44 pm44 an44 cd44 ct44), sl44⟩) (c44 : PySem.W.codeIn K cd44 "_law_rows" = true) (k44 : PySem.W.keepIn K (.ref f44) = true)
    (a45 : PySem.W.nsIn K mainGlobals "_law_ends" = some (some (.ref f45))) (l45 : K.lookup f45 = some ⟨oc45, od45, .func (PySem.W.fnOf "_law_ends" "_law_ends" (defArgs (topS 45)) (defBody (topS 45)) (defScope (topS 45)) .none kV45 dc45 pm45 an45 cd45 ct45), sl45⟩) (c45 : PySem.W.codeIn K cd45 "_law_ends" = true) (k45 : PySem.W.keepIn K (.ref f45) = true)
    (a46 : PySem.W.nsIn K mainGlobals "_law_bounds" = some (some (.ref f46))) (l46 : K.lookup f46 = some ⟨oc46, od46, .func (PySem.W.fnOf "_law_bounds" "_law_bounds" (defArgs (topS 46)) (defBody (topS 46)) (defScope (topS 46)) .none kV46 dc46 pm46 an46 cd46 ct46), sl46⟩) (c46 : PySem.W.codeIn K cd46 "_law_bounds" = true) (k46 : PySem.W.keepIn K (.ref f46) = true)
    (a47 : PySem.W.nsIn K mainGlobals "_law_is_order" = some (some (.ref f47))) (l47 : K.lookup f47 = some ⟨oc47, od47, .func (PySem.W.fnOf "_law_is_order" "_law_is_order" (defArgs (topS 47)) (defBody (topS 47)) (defScope (topS 47)) .none kV47 dc47 pm47 an47 cd47 ct47), sl47⟩) (c47 : PySem.W.codeIn K cd47 "_law_is_order" = true) (k47 : PySem.W.keepIn K (.ref f47) = true)
    (a48 : PySem.W.nsIn K mainGlobals "_law_is_chain" = some (some (.ref f48))) (l48 : K.lookup f48 = some ⟨oc48, od48, .func (PySem.W.fnOf "_law_is_chain" "_law_is_chain" (defArgs (topS 48)) (defBody (topS 48)) (defScope (topS 48)) .none kV48 dc48 pm48 an48 cd48 ct48), sl48⟩) (c48 : PySem.W.codeIn K cd48 "_law_is_chain" = true) (k48 : PySem.W.keepIn K (.ref f48) = true)
    (a49 : PySem.W.nsIn K mainGlobals "_law_bound" = some (some (.ref f49))) (l49 : K.lookup f49 = some ⟨oc49, od49, .func (PySem.W.fnOf "_law_bound" "_law_bound" (defArgs (topS 49)) (defBody (topS 49)) (defScope (topS 49)) .none kV49 dc49 pm49 an49 cd49 ct49), sl49⟩) (c49 : PySem.W.codeIn K cd49 "_law_bound" = true) (k49 : PySem.W.keepIn K (.ref f49) = true)
    (a50 : PySem.W.nsIn K mainGlobals "_law_right" = some (some (.ref f50))) (l50 : K.lookup f50 = some ⟨oc50, od50, .func (PySem.W.fnOf "_law_right" "_law_right" (defArgs (topS 50)) (defBody (topS 50)) (defScope (topS 50)) .none kV50 dc50 pm50 an50 cd50 ct50), sl50⟩) (c50 : PySem.W.codeIn K cd50 "_law_right" = true) (k50 : PySem.W.keepIn K (.ref f50) = true)
    (a51 : PySem.W.nsIn K mainGlobals "law" = some (some (.ref f51))) (l51 : K.lookup f51 = some ⟨oc51, od51, .func (PySem.W.fnOf "law" "law" (defArgs (topS 51)) (defBody (topS 51)) (defScope (topS 51)) .none kV51 dc51 pm51 an51 cd51 ct51), sl51⟩) (c51 : PySem.W.codeIn K cd51 "law" = true) (k51 : PySem.W.keepIn K (.ref f51) = true)
    (aM : PySem.W.nsIn K mainGlobals "MAX_DIFFERENCES" = some (some (.int 60 tM)))
    (aC : PySem.W.nsIn K mainGlobals "InvalidOperation" = some (some (.ref C)))
    (xC : PySem.W.excIn K C [.type "ValueError", .type "Exception", .type "BaseException", .type "object"] "ValueError.__new__" = true)
    (kC : PySem.W.keepIn K (.ref C) = true)
    (bC : PySem.W.subIn K (.ref C) (.type "BaseException") = some true)
    (tC : PySem.W.typeIn K (.ref C) = some (.type "type"))
    (dC : PySem.W.hasDictIn K C = true)
    (sC : PySem.W.subIn K (.ref C) (.ref C) = some true)
    (z_isinstance : PySem.W.nsIn K mainGlobals "isinstance" = some none)
    (z_int : PySem.W.nsIn K mainGlobals "int" = some none)
    (z_bool : PySem.W.nsIn K mainGlobals "bool" = some none)
    (z_str : PySem.W.nsIn K mainGlobals "str" = some none)
    (z_tuple : PySem.W.nsIn K mainGlobals "tuple" = some none)
    (z_dict : PySem.W.nsIn K mainGlobals "dict" = some none)
    (z_list : PySem.W.nsIn K mainGlobals "list" = some none)
    (z_len : PySem.W.nsIn K mainGlobals "len" = some none)
    (z_abs : PySem.W.nsIn K mainGlobals "abs" = some none)
    (z_range : PySem.W.nsIn K mainGlobals "range" = some none)
    (z_sorted : PySem.W.nsIn K mainGlobals "sorted" = some none)
    (z_sum : PySem.W.nsIn K mainGlobals "sum" = some none)
    (z_max : PySem.W.nsIn K mainGlobals "max" = some none)
    (z_min : PySem.W.nsIn K mainGlobals "min" = some none)
    (z_repr : PySem.W.nsIn K mainGlobals "repr" = some none)
    : ∃ fd : FuncData, (∀ (s : Shared) (v : Value), BindsTo s fd ⟨[v], []⟩ [("_law_script", v)]) ∧ ∀ base : Heap, K.In base → base.Ns mainGlobals mg → FnG P w K mg base 9 fa fd ["_law_script"] (spLaw K) := by
  have e := hfa.symm.trans (PySem.W.mg_of X G a51)
  cases e
  have B : Blt mg := ⟨PySem.W.mg_none_of X G z_isinstance, PySem.W.mg_none_of X G z_int, PySem.W.mg_none_of X G z_bool, PySem.W.mg_none_of X G z_str, PySem.W.mg_none_of X G z_tuple, PySem.W.mg_none_of X G z_dict, PySem.W.mg_none_of X G z_list, PySem.W.mg_none_of X G z_len, PySem.W.mg_none_of X G z_abs, PySem.W.mg_none_of X G z_range, PySem.W.mg_none_of X G z_sorted, PySem.W.mg_none_of X G z_sum, PySem.W.mg_none_of X G z_max, PySem.W.mg_none_of X G z_min, PySem.W.mg_none_of X G z_repr⟩
  have hM := PySem.W.mg_of X G aM
  have O : OwnX K mg "InvalidOperation" C := ⟨PySem.W.mg_of X G aC, xC, kC, bC, tC, PySem.W.exm_ref bC dC tC sC⟩
  have F1 := fun_mk (st := topS 1) l1 c1 k1
  have F2 := fun_mk (st := topS 2) l2 c2 k2
  have F3 := fun_mk (st := topS 3) l3 c3 k3
  have F8 := fun_mk (st := topS 8) l8 c8 k8
  have F10 := fun_mk (st := topS 10) l10 c10 k10
  have F11 := fun_mk (st := topS 11) l11 c11 k11
  have F12 := fun_mk (st := topS 12) l12 c12 k12
  have F13 := fun_mk (st := topS 13) l13 c13 k13
  have F14 := fun_mk (st := topS 14) l14 c14 k14
  have F25 := fun_mk (st := topS 25) l25 c25 k25
  have F24 := fun_mk (st := topS 24) l24 c24 k24
  have F23 := fun_mk (st := topS 23) l23 c23 k23
  have F22 := fun_mk (st := topS 22) l22 c22 k22
  have F21 := fun_mk (st := topS 21) l21 c21 k21
  have F17 := fun_mk (st := topS 17) l17 c17 k17
  have F18 := fun_mk (st := topS 18) l18 c18 k18
  have F19 := fun_mk (st := topS 19) l19 c19 k19
  have F20 := fun_mk (st := topS 20) l20 c20 k20
  have F40 := fun_mk (st := topS 40) l40 c40 k40
  have F41 := fun_mk (st := topS 41) l41 c41 k41
  have F27 := fun_mk (st := topS 27) l27 c27 k27
  have F28 := fun_mk (st := topS 28) l28 c28 k28
  have F29 := fun_mk (st := topS 29) l29 c29 k29
  have F43 := fun_mk (st := topS 43) l43 c43 k43
  have F44 := fun_mk (st := topS 44) l44 c44 k44
  have F45 := fun_mk (st := topS 45) l45 c45 k45
  have F46 := fun_mk (st := topS 46) l46 c46 k46
  have F47 := fun_mk (st := topS 47) l47 c47 k47
  have F48 := fun_mk (st := topS 48) l48 c48 k48
  have F49 := fun_mk (st := topS 49) l49 c49 k49
  have F50 := fun_mk (st := topS 50) l50 c50 k50
  have F51 := fun_mk (st := topS 51) l51 c51 k51
  refine ⟨PySem.W.fnOf "law" "law" (defArgs (topS 51)) (defBody (topS 51)) (defScope (topS 51)) .none kV51 dc51 pm51 an51 cd51 ct51, fun s v => .of_eq rfl, fun base _ _ => ?_⟩
  have g1 : Cal P w K mg base 1 "is_any_integer" (spInt K w) := ⟨f1, _, ["value"], ok1 F1 B, PySem.W.mg_of X G a1, k1, F1.binds (ps := ["value"]) fun _ _ _ _ _ _ us hl => match us, hl with | [_], _ => rfl⟩
  have g2 : Cal P w K mg base 2 "is_passed_integer" (spPassed K w) := ⟨f2, _, ["value"], ok2 F2 B g1, PySem.W.mg_of X G a2, k2, F2.binds (ps := ["value"]) fun _ _ _ _ _ _ us hl => match us, hl with | [_], _ => rfl⟩
  have g3 : Cal P w K mg base 2 "is_index" (spIndex K w) := ⟨f3, _, ["value", "many"], ok3 F3 B g1, PySem.W.mg_of X G a3, k3, F3.binds (ps := ["value", "many"]) fun _ _ _ _ _ _ us hl => match us, hl with | [_, _], _ => rfl⟩
  have g8 : Cal P w K mg base 1 "is_name" (spName K w) := ⟨f8, _, ["value"], ok8 F8 B, PySem.W.mg_of X G a8, k8, F8.binds (ps := ["value"]) fun _ _ _ _ _ _ us hl => match us, hl with | [_], _ => rfl⟩
  have g10 : Cal P w K mg base 1 "points_of" (spPts K w) := ⟨f10, _, ["differences"], ok10 F10 B, PySem.W.mg_of X G a10, k10, F10.binds (ps := ["differences"]) fun _ _ _ _ _ _ us hl => match us, hl with | [_], _ => rfl⟩
  have g11 : Cal P w K mg base 2 "relaxed" (spRelax K w) := ⟨f11, _, ["differences", "bounds"], ok11 F11 B g10, PySem.W.mg_of X G a11, k11, F11.binds (ps := ["differences", "bounds"]) fun _ _ _ _ _ _ us hl => match us, hl with | [_, _], _ => rfl⟩
  have g12 : Cal P w K mg base 3 "numbers_that_fit" (spNums K w) := ⟨f12, _, ["differences"], ok12 F12 B g10 g11, PySem.W.mg_of X G a12, k12, F12.binds (ps := ["differences"]) fun _ _ _ _ _ _ us hl => match us, hl with | [_], _ => rfl⟩
  have g13 : Cal P w K mg base 3 "found_ring" (spFound K w) := ⟨f13, _, ["differences"], ok13 F13 B g10 g11, PySem.W.mg_of X G a13, k13, F13.binds (ps := ["differences"]) fun _ _ _ _ _ _ us hl => match us, hl with | [_], _ => rfl⟩
  have g14 : Cal P w K mg base 1 "makes_ring" (spMakes K w) := ⟨f14, _, ["chosen"], ok14 F14 B, PySem.W.mg_of X G a14, k14, F14.binds (ps := ["chosen"]) fun _ _ _ _ _ _ us hl => match us, hl with | [_], _ => rfl⟩
  have g25 : Cal P w K mg base 1 "is_new_position" (spNew K w) := ⟨f25, _, ["word"], ok25 F25 B, PySem.W.mg_of X G a25, k25, F25.binds (ps := ["word"]) fun _ _ _ _ _ _ us hl => match us, hl with | [_], _ => rfl⟩
  have g24 : Cal P w K mg base 2 "is_place" (spPlace K w) := ⟨f24, _, ["value"], ok24 F24 B g8 g25, PySem.W.mg_of X G a24, k24, F24.binds (ps := ["value"]) fun _ _ _ _ _ _ us hl => match us, hl with | [_], _ => rfl⟩
  have g23 : Cal P w K mg base 3 "is_point" (spPoint K w) := ⟨f23, _, ["value"], ok23 F23 B g2 g8 g24, PySem.W.mg_of X G a23, k23, F23.binds (ps := ["value"]) fun _ _ _ _ _ _ us hl => match us, hl with | [_], _ => rfl⟩
  have g22 : Cal P w K mg base 4 "is_difference" (spDiff K w) := ⟨f22, _, ["value"], ok22 F22 B g2 g23, PySem.W.mg_of X G a22, k22, F22.binds (ps := ["value"]) fun _ _ _ _ _ _ us hl => match us, hl with | [_], _ => rfl⟩
  have g21 : Cal P w K mg base 5 "require_differences" (spReq K w) := ⟨f21, _, ["value"], ok21 F21 B hM g22, PySem.W.mg_of X G a21, k21, F21.binds (ps := ["value"]) fun _ _ _ _ _ _ us hl => match us, hl with | [_], _ => rfl⟩
  have g17 : Cal P w K mg base 6 "fitting" (spFit K w) := ⟨f17, _, ["differences"], ok17 F17 B g21 g12, PySem.W.mg_of X G a17, k17, F17.binds (ps := ["differences"]) fun _ _ _ _ _ _ us hl => match us, hl with | [_], _ => rfl⟩
  have g18 : Cal P w K mg base 6 "is_fitting" (spIsFit K w) := ⟨f18, _, ["differences", "value"], ok18 F18 B g21 g10 g23 g1, PySem.W.mg_of X G a18, k18, F18.binds (ps := ["differences", "value"]) fun _ _ _ _ _ _ us hl => match us, hl with | [_, _], _ => rfl⟩
  have g19 : Cal P w K mg base 6 "ring" (spRing K w) := ⟨f19, _, ["differences"], ok19 F19 B g21 g13, PySem.W.mg_of X G a19, k19, F19.binds (ps := ["differences"]) fun _ _ _ _ _ _ us hl => match us, hl with | [_], _ => rfl⟩
  have g20 : Cal P w K mg base 6 "is_ring" (spIsRing K w) := ⟨f20, _, ["differences", "value"], ok20 F20 B g21 g3 g14, PySem.W.mg_of X G a20, k20, F20.binds (ps := ["differences", "value"]) fun _ _ _ _ _ _ us hl => match us, hl with | [_, _], _ => rfl⟩
  have g40 : Cal P w K mg base 3 "least_bound" (spLeast K w) := ⟨f40, _, ["differences", "one", "other"], ok40 F40 B g11, PySem.W.mg_of X G a40, k40, F40.binds (ps := ["differences", "one", "other"]) fun _ _ _ _ _ _ us hl => match us, hl with | [_, _, _], _ => rfl⟩
  have g41 : CalX P w K mg base 6 "tightest" (spTight K w C) := ⟨f41, _, ["differences", "one", "other"], ok41 F41 B O g21 g12 g23 g40, PySem.W.mg_of X G a41, k41, F41.binds (ps := ["differences", "one", "other"]) fun _ _ _ _ _ _ us hl => match us, hl with | [_, _, _], _ => rfl⟩
  have g27 : Cal P w K mg base 1 "_law_dice" (spDice K w) := ⟨f27, _, ["_law_script", "_law_spot"], ok27 F27 B, PySem.W.mg_of X G a27, k27, F27.binds (ps := ["_law_script", "_law_spot"]) fun _ _ _ _ _ _ us hl => match us, hl with | [_, _], _ => rfl⟩
  have g28 : Cal P w K mg base 1 "_law_roll" (spRoll K w) := ⟨f28, _, ["_law_dice_here", "_law_total"], ok28 F28 B, PySem.W.mg_of X G a28, k28, F28.binds (ps := ["_law_dice_here", "_law_total"]) fun _ _ _ _ _ _ us hl => match us, hl with | [_, _], _ => rfl⟩
  have g29 : Cal P w K mg base 2 "_law_pick" (spPick K w) := ⟨f29, _, ["_law_dice_here", "_law_items"], ok29 F29 B g28, PySem.W.mg_of X G a29, k29, F29.binds (ps := ["_law_dice_here", "_law_items"]) fun _ _ _ _ _ _ us hl => match us, hl with | [_, _], _ => rfl⟩
  have g43 : Cal P w K mg base 1 "_law_points" (spPoints K w) := ⟨f43, _, [], ok43 F43, PySem.W.mg_of X G a43, k43, F43.binds (ps := []) fun _ _ _ _ _ _ us hl => match us, hl with | [], _ => rfl⟩
  have g44 : Cal P w K mg base 3 "_law_rows" (spRows K w) := ⟨f44, _, ["_law_dice_here"], ok44 F44 B g28 g29 g43, PySem.W.mg_of X G a44, k44, F44.binds (ps := ["_law_dice_here"]) fun _ _ _ _ _ _ us hl => match us, hl with | [_], _ => rfl⟩
  have g45 : Cal P w K mg base 1 "_law_ends" (spEnds K w) := ⟨f45, _, ["_law_rows_here"], ok45 F45 B, PySem.W.mg_of X G a45, k45, F45.binds (ps := ["_law_rows_here"]) fun _ _ _ _ _ _ us hl => match us, hl with | [_], _ => rfl⟩
  have g46 : Cal P w K mg base 2 "_law_bounds" (spBounds K w) := ⟨f46, _, ["_law_rows_here"], ok46 F46 B g45, PySem.W.mg_of X G a46, k46, F46.binds (ps := ["_law_rows_here"]) fun _ _ _ _ _ _ us hl => match us, hl with | [_], _ => rfl⟩
  have g47 : Cal P w K mg base 1 "_law_is_order" (spOrder K w) := ⟨f47, _, ["_law_keys"], ok47 F47 B, PySem.W.mg_of X G a47, k47, F47.binds (ps := ["_law_keys"]) fun _ _ _ _ _ _ us hl => match us, hl with | [_], _ => rfl⟩
  have g48 : Cal P w K mg base 1 "_law_is_chain" (spChain K w) := ⟨f48, _, ["_law_rows_here", "_law_indices"], ok48 F48 B, PySem.W.mg_of X G a48, k48, F48.binds (ps := ["_law_rows_here", "_law_indices"]) fun _ _ _ _ _ _ us hl => match us, hl with | [_, _], _ => rfl⟩
  have g49 : Cal P w K mg base 7 "_law_bound" (spBound K w) := ⟨f49, _, ["_law_rows_here", "_law_one", "_law_other"], ok49 F49 B O g41, PySem.W.mg_of X G a49, k49, F49.binds (ps := ["_law_rows_here", "_law_one", "_law_other"]) fun _ _ _ _ _ _ us hl => match us, hl with | [_, _, _], _ => rfl⟩
  have g50 : CalG P w K mg base 8 "_law_right" (spRight K w) := ⟨f50, _, ["_law_dice_here"], ok50 F50 B g44 g45 g46 g17 g19 g29 g49 g48 g47 g20 g18, PySem.W.mg_of X G a50, k50, F50.binds (ps := ["_law_dice_here"]) fun _ _ _ _ _ _ us hl => match us, hl with | [_], _ => rfl⟩
  exact ok51 F51 B g50 g27 g41 g17 g19
end Fc
open PySem PySem.W PyProof.Rows in
set_option maxRecDepth 100000 in
set_option maxHeartbeats 0 in
theorem PySem.Challenge.cw_forkcells_k09_whole_rings_or_numbers_holds : PySem.Challenge.rw_forkcells_k09_whole_rings_or_numbers.Holds := by
  w_on; o_law; k_head; (case hw => w_witness2)
  k_fill
  refine Fc.walkG (l := PySem.Challenge.rw_forkcells_k09_whole_rings_or_numbers) (n := 63) (k := 9) (x := "_law_script") (sp := Fc.spLaw) rfl (by decide) rfl ⟨rfl, by decide, by decide⟩ (fun w h Y => PySem.W.kIn_of Y) ?F (fun K H a ns hl _ hS => ⟨ns, a, rfl, hS, hl, fun _ => rfl⟩)
  case F =>
    intro w mg fa h KX G hmg
    refine' Fc.all_mk KX G hmg ?a1 ?l1 ?c1 ?k1 ?a2 ?l2 ?c2 ?k2 ?a3 ?l3 ?c3 ?k3 ?a8 ?l8 ?c8 ?k8 ?a10 ?l10 ?c10 ?k10 ?a11 ?l11 ?c11 ?k11 ?a12 ?l12 ?c12 ?k12 ?a13 ?l13 ?c13 ?k13 ?a14 ?l14 ?c14 ?k14 ?a25 ?l25 ?c25 ?k25 ?a24 ?l24 ?c24 ?k24 ?a23 ?l23 ?c23 ?k23 ?a22 ?l22 ?c22 ?k22 ?a21 ?l21 ?c21 ?k21 ?a17 ?l17 ?c17 ?k17 ?a18 ?l18 ?c18 ?k18 ?a19 ?l19 ?c19 ?k19 ?a20 ?l20 ?c20 ?k20 ?a40 ?l40 ?c40 ?k40 ?a41 ?l41 ?c41 ?k41 ?a27 ?l27 ?c27 ?k27 ?a28 ?l28 ?c28 ?k28 ?a29 ?l29 ?c29 ?k29 ?a43 ?l43 ?c43 ?k43 ?a44 ?l44 ?c44 ?k44 ?a45 ?l45 ?c45 ?k45 ?a46 ?l46 ?c46 ?k46 ?a47 ?l47 ?c47 ?k47 ?a48 ?l48 ?c48 ?k48 ?a49 ?l49 ?c49 ?k49 ?a50 ?l50 ?c50 ?k50 ?a51 ?l51 ?c51 ?k51 ?aM ?aC ?xC ?kC ?bC ?tC ?dC ?sC ?z_isinstance ?z_int ?z_bool ?z_str ?z_tuple ?z_dict ?z_list ?z_len ?z_abs ?z_range ?z_sorted ?z_sum ?z_max ?z_min ?z_repr
    (case a1 => k_is)
    (case l1 => k_is)
    (case c1 => k_is)
    (case k1 => k_is)
    (case a2 => k_is)
    (case l2 => k_is)
    (case c2 => k_is)
    (case k2 => k_is)
    (case a3 => k_is)
    (case l3 => k_is)
    (case c3 => k_is)
    (case k3 => k_is)
    (case a8 => k_is)
    (case l8 => k_is)
    (case c8 => k_is)
    (case k8 => k_is)
    (case a10 => k_is)
    (case l10 => k_is)
    (case c10 => k_is)
    (case k10 => k_is)
    (case a11 => k_is)
    (case l11 => k_is)
    (case c11 => k_is)
    (case k11 => k_is)
    (case a12 => k_is)
    (case l12 => k_is)
    (case c12 => k_is)
    (case k12 => k_is)
    (case a13 => k_is)
    (case l13 => k_is)
    (case c13 => k_is)
    (case k13 => k_is)
    (case a14 => k_is)
    (case l14 => k_is)
    (case c14 => k_is)
    (case k14 => k_is)
    (case a25 => k_is)
    (case l25 => k_is)
    (case c25 => k_is)
    (case k25 => k_is)
    (case a24 => k_is)
    (case l24 => k_is)
    (case c24 => k_is)
    (case k24 => k_is)
    (case a23 => k_is)
    (case l23 => k_is)
    (case c23 => k_is)
    (case k23 => k_is)
    (case a22 => k_is)
    (case l22 => k_is)
    (case c22 => k_is)
    (case k22 => k_is)
    (case a21 => k_is)
    (case l21 => k_is)
    (case c21 => k_is)
    (case k21 => k_is)
    (case a17 => k_is)
    (case l17 => k_is)
    (case c17 => k_is)
    (case k17 => k_is)
    (case a18 => k_is)
    (case l18 => k_is)
    (case c18 => k_is)
    (case k18 => k_is)
    (case a19 => k_is)
    (case l19 => k_is)
    (case c19 => k_is)
    (case k19 => k_is)
    (case a20 => k_is)
    (case l20 => k_is)
    (case c20 => k_is)
    (case k20 => k_is)
    (case a40 => k_is)
    (case l40 => k_is)
    (case c40 => k_is)
    (case k40 => k_is)
    (case a41 => k_is)
    (case l41 => k_is)
    (case c41 => k_is)
    (case k41 => k_is)
    (case a27 => k_is)
    (case l27 => k_is)
    (case c27 => k_is)
    (case k27 => k_is)
    (case a28 => k_is)
    (case l28 => k_is)
    (case c28 => k_is)
    (case k28 => k_is)
    (case a29 => k_is)
    (case l29 => k_is)
    (case c29 => k_is)
    (case k29 => k_is)
    (case a43 => k_is)
    (case l43 => k_is)
    (case c43 => k_is)
    (case k43 => k_is)
    (case a44 => k_is)
    (case l44 => k_is)
    (case c44 => k_is)
    (case k44 => k_is)
    (case a45 => k_is)
    (case l45 => k_is)
    (case c45 => k_is)
    (case k45 => k_is)
    (case a46 => k_is)
    (case l46 => k_is)
    (case c46 => k_is)
    (case k46 => k_is)
    (case a47 => k_is)
    (case l47 => k_is)
    (case c47 => k_is)
    (case k47 => k_is)
    (case a48 => k_is)
    (case l48 => k_is)
    (case c48 => k_is)
    (case k48 => k_is)
    (case a49 => k_is)
    (case l49 => k_is)
    (case c49 => k_is)
    (case k49 => k_is)
    (case a50 => k_is)
    (case l50 => k_is)
    (case c50 => k_is)
    (case k50 => k_is)
    (case a51 => k_is)
    (case l51 => k_is)
    (case c51 => k_is)
    (case k51 => k_is)
    (case aM => k_is)
    (case aC => k_is)
    (case xC => k_exc)
    (case kC => k_is)
    (case bC => k_is)
    (case tC => k_is)
    (case dC => k_is)
    (case sC => k_is)
    (case z_isinstance => k_is)
    (case z_int => k_is)
    (case z_bool => k_is)
    (case z_str => k_is)
    (case z_tuple => k_is)
    (case z_dict => k_is)
    (case z_list => k_is)
    (case z_len => k_is)
    (case z_abs => k_is)
    (case z_range => k_is)
    (case z_sorted => k_is)
    (case z_sum => k_is)
    (case z_max => k_is)
    (case z_min => k_is)
    (case z_repr => k_is)
