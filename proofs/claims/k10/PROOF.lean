import PyProof.Rows.All
import Wide.All
import OpenK.AllK
import Wide.FinOn
import HandS.ForMost
import KE.KeyNested
import KE.KDictWalk
import KE.KDictCopyH
import HandS.Conv
import HandS.IsInst
import HandS.DictComp
import HandS.Words
import HandS.Codes
import HandS.Style
import HandS.TupAny
import KE.SortData
import HandS.Deep
import KE.KDictItemsList
import PySem.Challenge.RW_forkcells_k10_near_rings_and_numbers
set_option Elab.async false
set_option linter.all false
set_option maxRecDepth 100000
set_option maxHeartbeats 4000000
/-! Tables whose keys are flat values and tuples together. -/
namespace Fc
open PySem
abbrev NK := NestedKey
/-- the entries es of a table bear the keys ks, one by one -/
structure Tab (w : World) (h : Heap) (ks : List NK) (es : Array DictEntry) : Prop where
  size : es.size = ks.length
  each : ∀ j (hj : j < es.size), ∃ k, ks[j]? = some k ∧ es[j].hash = k.hash w ∧ NestedIs h k es[j].key ∧ k.depth ≤ 8
  nd : ks.Nodup
/-- where a key stands -/
def posK (ks : List NK) (k : NK) : Option Nat := ks.findIdx? fun x => decide (x = k)
theorem posK_none {ks : List NK} {k : NK} (h : ∀ j : Nat, ks[j]? ≠ some k) : posK ks k = none := by
  unfold posK
  rw [List.findIdx?_eq_none_iff]
  intro x hx
  obtain ⟨j, hj⟩ := List.mem_iff_getElem?.mp hx
  exact decide_eq_false fun e => h j (by rw [hj, e])
theorem posK_some {ks : List NK} (nd : ks.Nodup) {k : NK} {j : Nat} (h : ks[j]? = some k) : posK ks k = some j := by
  obtain ⟨hj, e⟩ := List.getElem?_eq_some_iff.mp h
  unfold posK
  refine List.findIdx?_eq_some_iff_getElem.mpr ⟨hj, decide_eq_true e, fun i hi => ?_⟩
  intro q
  have e2 : ks[i] = k := of_decide_eq_true q
  exact Nat.ne_of_lt hi ((List.getElem_inj nd).mp (e2.trans e.symm))
section
variable {A : Around} {P : Program} {w : World} {s : Shared} {E : Value → Shared → Prop}
/-- what the look for k has met among the first i places -/
def Met (ks : List NK) (k : NK) (i : Nat) (hit : Option Nat) : Prop :=
  (hit = none ∧ ∀ j, j < i → ks[j]? ≠ some k) ∨ ∃ j, hit = some j ∧ j < i ∧ ks[j]? = some k
theorem Met.go {ks : List NK} {k : NK} {i i' : Nat} {hit : Option Nat} (m : Met ks k i hit) (hi : i ≤ i') (no : ∀ j, i ≤ j → j < i' → ks[j]? ≠ some k) : Met ks k i' hit := by
  rcases m with ⟨a, b⟩ | ⟨j, a, b, c⟩
  · refine .inl ⟨a, fun j hj => ?_⟩
    rcases Nat.lt_or_ge j i with q | q
    · exact b j q
    · exact no j q hj
  · exact .inr ⟨j, a, Nat.lt_of_lt_of_le b hi, c⟩
theorem Met.fin {ks : List NK} {k : NK} {hit : Option Nat} (nd : ks.Nodup) (m : Met ks k ks.length hit) : hit = posK ks k := by
  rcases m with ⟨a, b⟩ | ⟨j, a, b, c⟩
  · rw [a, posK_none]
    intro j q
    exact b j (List.getElem?_eq_some_iff.mp q).1 q
  · rw [a, posK_some nd c]
theorem may_quiet {k : NK} {key : Value} {st : List Value} {Q : Bool → Shared → Prop} (hk : NestedIs s.heap k key) (hd : k.depth ≤ 8) (hs : ∀ v ∈ st, ∃ k' : NK, NestedIs s.heap k' v ∧ k'.depth ≤ 8) (h : Q false s) :
    wpAny (model P w) A (tableMayTell key st) Q E s := by
  unfold tableMayTell
  by_cases e : st.isEmpty = true
  · rw [if_pos e]
    exact wpAny_pure h
  rw [if_neg e]
  refine wpAny_bind (quiet_key k key 8 s hk hd A E _ ?_)
  simp only [Bool.not_true, Bool.false_eq_true, if_false]
  refine wpAny_bind (wpAny_forIn_list _ (fun l r s' => (s' = s ∧ r = (none, ())) ∧ ∀ v ∈ l, v ∈ st) _ ?_ ?_ _ _ ⟨⟨rfl, rfl⟩, fun _ z => z⟩)
  · rintro v l r s' ⟨⟨rfl, rfl⟩, all⟩
    obtain ⟨k', h1, h2⟩ := hs v (all v List.mem_cons_self)
    refine wpAny_bind (quiet_key k' v 8 s' h1 h2 A E _ ?_)
    simp only [Bool.not_true, Bool.false_eq_true, if_false]
    exact wpAny_pure ⟨⟨rfl, rfl⟩, fun v hv => all v (List.mem_cons_of_mem _ hv)⟩
  · rintro r s' ⟨⟨rfl, rfl⟩, _⟩
    exact wpAny_pure h
/-- the places that are asked: their hash is the key's -/
abbrev hashAt (es : Array DictEntry) (j : Nat) : Option Int := es[j]?.map (·.hash)
theorem Tab.key {h : Heap} {ks : List NK} {es : Array DictEntry} (T : Tab w h ks es) {k : NK} {j : Nat} (e : ks[j]? = some k) : hashAt es j = some (k.hash w) := by
  have hj : j < es.size := by rw [T.size]; exact (List.getElem?_eq_some_iff.mp e).1
  obtain ⟨k', e', hh, _⟩ := T.each j hj
  rw [e] at e'
  cases e'
  unfold hashAt
  rw [Array.getElem?_eq_getElem hj, Option.map_some, hh]
theorem Tab.stored {h : Heap} {ks : List NK} {es : Array DictEntry} (T : Tab w h ks es) (f : Nat → Bool) : ∀ v ∈ ((List.range es.size).filter f).filterMap (fun i => es[i]?.map (·.key)), ∃ k' : NK, NestedIs h k' v ∧ k'.depth ≤ 8 := by
  intro v hv
  obtain ⟨i, _, e⟩ := List.mem_filterMap.mp hv
  cases q : es[i]? with
  | none => rw [q] at e; cases e
  | some en =>
    rw [q] at e
    obtain ⟨hi, e2⟩ := Array.getElem?_eq_some_iff.mp q
    obtain ⟨k, _, _, n, d⟩ := T.each i hi
    rw [e2] at n
    have e3 : en.key = v := by simpa using e
    rw [e3] at n
    exact ⟨k, n, d⟩
theorem dFind {d : Addr} {o : Obj} {es : Array DictEntry} {ep : Nat} {ks : List NK} {k : NK} {key : Value} {Q : Option Nat → Shared → Prop} (hu : A.units + 8 < cLine) (T : Tab w s.heap ks es)
    (hk : NestedIs s.heap k key) (hkd : k.depth ≤ 8) (ho : s.heap.get? d = some o) (hd : o.data = .dict es ep) (h : Q (posK ks k) s) : wpAny (model P w) A (dictFind d key (k.hash w)) Q E s := by
  have hst := T.stored (w := w) (fun i => hashAt es i == some (k.hash w))
  -- one step of the walk: what is between two places of the same hash is another key
  have skip : ∀ (i x : Nat) (hit : Option Nat), Met ks k i hit → i ≤ x → (∀ j, i ≤ j → j < x → (hashAt es j == some (k.hash w)) = false) → Met ks k x hit := fun i x hit m hi no => m.go hi fun j a b e => by
    have q := no j a b
    rw [T.key e] at q
    simp at q
  have eqs : ∀ (x : Nat) (hx : x < es.size) (k' : NK), ks[x]? = some k' → ∀ (Q' : Bool → Shared → Prop), Q' (decide (k' = k)) s → wpAny (model P w) A (eqBool es[x].key key) Q' E s := fun x hx k' e Q' q => by
    obtain ⟨k2, e2, _, n, dd⟩ := T.each x hx
    rw [e] at e2
    cases e2
    exact eqAt_key k' k A s _ _ n hk (by omega) _ _ _ _ (by rw [← NestedKey.decide_eq]; exact q)
  unfold dictFind
  try with_reducible refine wpAny_holding ?_
  refine wpAny_bind (wpAny_dictEntries ho hd ?_)
  dsimp only
  have text : ∀ (x : Str) (t : Tok), key = .str x t → (es.all fun e => isExactStrKey e.key) = true → wpAny (model P w) A (foundByValue d key es x) Q E s := by
    intro x t ek ha
    subst ek
    cases hk
    have exact' : ∀ j (hj : j < es.size) (k' : NK), ks[j]? = some k' → ∃ y u, k' = .text y ∧ es[j].key = .str y u := fun j hj k' e => by
      obtain ⟨k2, e2, _, n, _⟩ := T.each j hj
      rw [e] at e2
      cases e2
      have z : isExactStrKey es[j].key = true := Array.all_eq_true.mp ha j hj
      generalize es[j].key = v at n z
      cases n with
      | text y u => exact ⟨y, u, rfl, rfl⟩
      | none => cases z
      | bool e => cases z
      | int i u => cases z
      | tup a b c e => cases z
    unfold foundByValue
    cases hf : es.findIdx? (fun e => e.key.isStr x) with
    | none =>
      refine wpAny_pure ?_
      rw [posK_none (k := NestedKey.text x) (fun j e => ?_)] at h
      · exact h
      · have hj : j < es.size := by rw [T.size]; exact (List.getElem?_eq_some_iff.mp e).1
        obtain ⟨y, u, e1, e2⟩ := exact' j hj _ e
        cases e1
        have z := Array.findIdx?_eq_none_iff.mp hf es[j] (Array.getElem_mem hj)
        rw [e2] at z
        simp [Value.isStr] at z
    | some i =>
      obtain ⟨hi, z, _⟩ := Array.findIdx?_eq_some_iff_getElem.mp hf
      have hik : i < ks.length := by rw [← T.size]; exact hi
      obtain ⟨y, u, e1, e2⟩ := exact' i hi ks[i] (List.getElem?_eq_getElem hik)
      rw [e2] at z
      have exy : y = x := by
        have z2 : (y == x) = true := z
        exact eq_of_beq z2
      subst exy
      have hki : ks[i]? = some (NestedKey.text y) := by rw [List.getElem?_eq_getElem hik, e1]
      rw [posK_some T.nd hki] at h
      simp only [Array.getElem?_eq_getElem hi]
      refine wpAny_bind (wpAny_dictEpoch ho hd (wpAny_bind (eqs i hi _ hki _ (wpAny_bind (wpAny_dictEpoch ho hd ?_)))))
      simp only [bne_self_eq_false, Bool.false_eq_true, if_false, decide_true, if_true]
      exact wpAny_bind (wpAny_rule (wpAny_pure h))
  have walk : wpAny (model P w) A (dictWalkPlain d key (k.hash w) es (placesWithHash es.size (fun i => es[i]?.map (·.hash)) (k.hash w))) Q E s := by
    unfold dictWalkPlain
    refine wpAny_bind (wpAny_forIn_list _ (fun l r s' => (s' = s ∧ r = (none, ())) ∧ ∃ i, i ≤ es.size ∧ Met ks k i none ∧ l = (List.range' i (es.size - i)).filter (fun j => hashAt es j == some (k.hash w))) _ ?_ ?_ _ _
      ⟨⟨rfl, rfl⟩, 0, Nat.zero_le _, .inl ⟨rfl, fun j hj => absurd hj (Nat.not_lt_zero j)⟩, by rw [placesWithHash, List.range_eq_range', Nat.sub_zero]⟩)
    · rintro x l r s' ⟨⟨rfl, rfl⟩, i, hi, m, el⟩
      obtain ⟨h1, h2, _, h4, h5⟩ := filter_range'_cons _ _ _ _ _ el.symm
      have hx : x < es.size := by omega
      have m1 := skip i x none m h1 h4
      obtain ⟨k', ek, hh, n, dd⟩ := T.each x hx
      have l' : l = (List.range' (x + 1) (es.size - (x + 1))).filter (fun j => hashAt es j == some (k.hash w)) := by rw [h5]; congr 2; omega
      have on : ¬ k' = k → Met ks k (x + 1) none := fun ne => m1.go (Nat.le_succ x) fun j a b q => by
        have e : j = x := by omega
        rw [e, ek] at q
        exact ne (Option.some.inj q)
      simp only [Array.getElem?_eq_getElem hx]
      by_cases eh : (es[x].hash == k.hash w) = true
      · rw [if_pos eh]
        refine wpAny_bind (wpAny_dictEpoch ho hd (wpAny_bind (eqs x hx k' ek _ (wpAny_bind (wpAny_dictEpoch ho hd ?_)))))
        simp only [bne_self_eq_false, Bool.false_eq_true, if_false]
        by_cases q : k' = k
        · rw [q] at ek
          rw [posK_some T.nd ek] at h
          simp only [decide_eq_true q, if_true]
          exact wpAny_bind (wpAny_rule (wpAny_pure (wpAny_pure h)))
        · simp only [decide_eq_false q, Bool.false_eq_true, if_false]
          exact wpAny_bind (wpAny_rule (wpAny_pure ⟨⟨rfl, rfl⟩, x + 1, hx, on q, l'⟩))
      · rw [if_neg eh]
        refine wpAny_pure ⟨⟨rfl, rfl⟩, x + 1, hx, on fun q => ?_, l'⟩
        rw [hh, q] at eh
        exact eh (beq_self_eq_true _)
    · rintro r s' ⟨⟨rfl, rfl⟩, i, hi, m, el⟩
      have m1 := skip i es.size none m hi fun j a b => by
        have z := List.filter_eq_nil_iff.mp el.symm j (List.mem_range'_1.mpr ⟨a, by omega⟩)
        simpa using z
      rw [T.size] at m1
      rw [← m1.fin T.nd] at h
      exact wpAny_pure h
  have noStale : ∀ a : Addr, key = .ref a → ¬ (es.any fun e => e.key == key && e.hash != k.hash w) = true := by
    intro a ek z
    rw [← Array.any_toList, List.any_eq_true] at z
    obtain ⟨e, he, z⟩ := z
    obtain ⟨j, hj, e2⟩ := Array.mem_iff_getElem.mp (Array.mem_toList_iff.mp he)
    obtain ⟨k', ek', hh, n, _⟩ := T.each j hj
    rw [e2] at hh n
    simp only [Bool.and_eq_true, beq_iff_eq, bne_iff_ne] at z
    rw [z.1] at n
    rw [NestedIs.inj _ _ _ n hk] at hh
    exact z.2 hh
  split
  · rename_i x t
    by_cases ha : (es.all fun e => isExactStrKey e.key) = true
    · rw [if_pos ha]
      exact text x t rfl ha
    · rw [if_neg ha]
      by_cases hall : ((Value.str x t :: (placesWithHash es.size (fun i => es[i]?.map (·.hash)) (k.hash w)).filterMap fun i => es[i]?.map (·.key)).all carriedByValue) = true
      · rw [if_pos hall]
        exact walk
      · rw [if_neg hall]
        dsimp only
        by_cases hone : (((placesWithHash es.size (fun i => es[i]?.map (·.hash)) (k.hash w)).filterMap fun i => es[i]?.map (·.key)) == [Value.str x t]) = true
        · rw [if_pos hone]
          refine wpAny_bind (wpAny_pure ?_)
          simp only [Bool.false_and, Bool.false_eq_true, if_false]
          refine wpAny_bind (wpAny_forIn_list _ (fun l r s' => s' = s ∧ ∃ i hit, r = (none, hit) ∧ i ≤ es.size ∧ Met ks k i hit ∧ l = (List.range' i (es.size - i)).filter (fun j => hashAt es j == some (k.hash w))) _ ?_ ?_ _ _
            ⟨rfl, 0, none, rfl, Nat.zero_le _, .inl ⟨rfl, fun j hj => absurd hj (Nat.not_lt_zero j)⟩, by rw [placesWithHash, List.range_eq_range', Nat.sub_zero]⟩)
          · rintro x l r s' ⟨rfl, i, hit, rfl, hi, m, el⟩
            obtain ⟨h1, h2, _, h4, h5⟩ := filter_range'_cons _ _ _ _ _ el.symm
            have hx : x < es.size := by omega
            have m1 := skip i x hit m h1 h4
            obtain ⟨k', ek, hh, n, dd⟩ := T.each x hx
            have l' : l = (List.range' (x + 1) (es.size - (x + 1))).filter (fun j => hashAt es j == some (k.hash w)) := by rw [h5]; congr 2; omega
            have on : ¬ k' = k → Met ks k (x + 1) hit := fun ne => m1.go (Nat.le_succ x) fun j a b q => by
              have e : j = x := by omega
              rw [e, ek] at q
              exact ne (Option.some.inj q)
            simp only [Array.getElem?_eq_getElem hx]
            by_cases eh : (es[x].hash == k.hash w) = true
            · rw [if_pos eh]
              refine wpAny_bind (wpAny_dictEpoch ho hd (wpAny_bind (eqs x hx k' ek _ (wpAny_bind (wpAny_dictEpoch ho hd ?_)))))
              simp only [bne_self_eq_false, Bool.false_eq_true, if_false]
              by_cases q : k' = k
              · rw [q] at ek
                have eh0 : hit = none := by
                  rcases m1 with ⟨z, _⟩ | ⟨j, _, hj, e⟩
                  · exact z
                  · exact absurd ((List.getElem?_inj (List.getElem?_eq_some_iff.mp e).1 T.nd).mp (e.trans ek.symm)) (Nat.ne_of_lt hj)
                subst eh0
                simp only [decide_eq_true q, if_true, Option.isSome_none, Bool.false_eq_true, if_false]
                refine wpAny_bind (wpAny_rule ?_)
                split
                · rw [posK_some T.nd ek] at h
                  exact wpAny_pure (wpAny_pure h)
                · exact wpAny_pure ⟨rfl, x + 1, some x, rfl, hx, .inr ⟨x, rfl, Nat.lt_succ_self x, ek⟩, l'⟩
              · simp only [decide_eq_false q, Bool.false_eq_true, if_false]
                refine wpAny_bind (wpAny_rule ?_)
                exact wpAny_pure ⟨rfl, x + 1, hit, rfl, hx, on q, l'⟩
            · rw [if_neg eh]
              refine wpAny_pure ⟨rfl, x + 1, hit, rfl, hx, on fun q => ?_, l'⟩
              rw [hh, q] at eh
              exact eh (beq_self_eq_true _)
          · rintro r s' ⟨rfl, i, hit, rfl, hi, m, el⟩
            have m1 := skip i es.size hit m hi fun j a b => by
              have z := List.filter_eq_nil_iff.mp el.symm j (List.mem_range'_1.mpr ⟨a, by omega⟩)
              simpa using z
            rw [T.size] at m1
            rw [← m1.fin T.nd] at h
            exact wpAny_pure h
        · rw [if_neg hone]
          refine wpAny_bind (may_quiet hk hkd hst ?_)
          simp only [Bool.false_and, Bool.false_eq_true, if_false]
          refine wpAny_bind (wpAny_forIn_list _ (fun l r s' => s' = s ∧ ∃ i hit, r = (none, hit) ∧ i ≤ es.size ∧ Met ks k i hit ∧ l = (List.range' i (es.size - i)).filter (fun j => hashAt es j == some (k.hash w))) _ ?_ ?_ _ _
            ⟨rfl, 0, none, rfl, Nat.zero_le _, .inl ⟨rfl, fun j hj => absurd hj (Nat.not_lt_zero j)⟩, by rw [placesWithHash, List.range_eq_range', Nat.sub_zero]⟩)
          · rintro x l r s' ⟨rfl, i, hit, rfl, hi, m, el⟩
            obtain ⟨h1, h2, _, h4, h5⟩ := filter_range'_cons _ _ _ _ _ el.symm
            have hx : x < es.size := by omega
            have m1 := skip i x hit m h1 h4
            obtain ⟨k', ek, hh, n, dd⟩ := T.each x hx
            have l' : l = (List.range' (x + 1) (es.size - (x + 1))).filter (fun j => hashAt es j == some (k.hash w)) := by rw [h5]; congr 2; omega
            have on : ¬ k' = k → Met ks k (x + 1) hit := fun ne => m1.go (Nat.le_succ x) fun j a b q => by
              have e : j = x := by omega
              rw [e, ek] at q
              exact ne (Option.some.inj q)
            simp only [Array.getElem?_eq_getElem hx]
            by_cases eh : (es[x].hash == k.hash w) = true
            · rw [if_pos eh]
              refine wpAny_bind (wpAny_dictEpoch ho hd (wpAny_bind (eqs x hx k' ek _ (wpAny_bind (wpAny_dictEpoch ho hd ?_)))))
              simp only [bne_self_eq_false, Bool.false_eq_true, if_false]
              by_cases q : k' = k
              · rw [q] at ek
                have eh0 : hit = none := by
                  rcases m1 with ⟨z, _⟩ | ⟨j, _, hj, e⟩
                  · exact z
                  · exact absurd ((List.getElem?_inj (List.getElem?_eq_some_iff.mp e).1 T.nd).mp (e.trans ek.symm)) (Nat.ne_of_lt hj)
                subst eh0
                simp only [decide_eq_true q, if_true, Option.isSome_none, Bool.false_eq_true, if_false]
                refine wpAny_bind (wpAny_rule ?_)
                split
                · rw [posK_some T.nd ek] at h
                  exact wpAny_pure (wpAny_pure h)
                · exact wpAny_pure ⟨rfl, x + 1, some x, rfl, hx, .inr ⟨x, rfl, Nat.lt_succ_self x, ek⟩, l'⟩
              · simp only [decide_eq_false q, Bool.false_eq_true, if_false]
                refine wpAny_bind (wpAny_rule ?_)
                exact wpAny_pure ⟨rfl, x + 1, hit, rfl, hx, on q, l'⟩
            · rw [if_neg eh]
              refine wpAny_pure ⟨rfl, x + 1, hit, rfl, hx, on fun q => ?_, l'⟩
              rw [hh, q] at eh
              exact eh (beq_self_eq_true _)
          · rintro r s' ⟨rfl, i, hit, rfl, hi, m, el⟩
            have m1 := skip i es.size hit m hi fun j a b => by
              have z := List.filter_eq_nil_iff.mp el.symm j (List.mem_range'_1.mpr ⟨a, by omega⟩)
              simpa using z
            rw [T.size] at m1
            rw [← m1.fin T.nd] at h
            exact wpAny_pure h
  · by_cases hall : ((key :: (placesWithHash es.size (fun i => es[i]?.map (·.hash)) (k.hash w)).filterMap fun i => es[i]?.map (·.key)).all carriedByValue) = true
    · rw [if_pos hall]
      exact walk
    · rw [if_neg hall]
      split
      · rename_i a _z
        rw [if_neg (noStale a rfl)]
        by_cases hone : (((placesWithHash es.size (fun i => es[i]?.map (·.hash)) (k.hash w)).filterMap fun i => es[i]?.map (·.key)) == [Value.ref a]) = true
        · rw [if_pos hone]
          refine wpAny_bind (wpAny_pure ?_)
          simp only [Bool.false_and, Bool.false_eq_true, if_false]
          refine wpAny_bind (wpAny_forIn_list _ (fun l r s' => s' = s ∧ ∃ i hit, r = (none, hit) ∧ i ≤ es.size ∧ Met ks k i hit ∧ l = (List.range' i (es.size - i)).filter (fun j => hashAt es j == some (k.hash w))) _ ?_ ?_ _ _
            ⟨rfl, 0, none, rfl, Nat.zero_le _, .inl ⟨rfl, fun j hj => absurd hj (Nat.not_lt_zero j)⟩, by rw [placesWithHash, List.range_eq_range', Nat.sub_zero]⟩)
          · rintro x l r s' ⟨rfl, i, hit, rfl, hi, m, el⟩
            obtain ⟨h1, h2, _, h4, h5⟩ := filter_range'_cons _ _ _ _ _ el.symm
            have hx : x < es.size := by omega
            have m1 := skip i x hit m h1 h4
            obtain ⟨k', ek, hh, n, dd⟩ := T.each x hx
            have l' : l = (List.range' (x + 1) (es.size - (x + 1))).filter (fun j => hashAt es j == some (k.hash w)) := by rw [h5]; congr 2; omega
            have on : ¬ k' = k → Met ks k (x + 1) hit := fun ne => m1.go (Nat.le_succ x) fun j a b q => by
              have e : j = x := by omega
              rw [e, ek] at q
              exact ne (Option.some.inj q)
            simp only [Array.getElem?_eq_getElem hx]
            by_cases eh : (es[x].hash == k.hash w) = true
            · rw [if_pos eh]
              refine wpAny_bind (wpAny_dictEpoch ho hd (wpAny_bind (eqs x hx k' ek _ (wpAny_bind (wpAny_dictEpoch ho hd ?_)))))
              simp only [bne_self_eq_false, Bool.false_eq_true, if_false]
              by_cases q : k' = k
              · rw [q] at ek
                have eh0 : hit = none := by
                  rcases m1 with ⟨z, _⟩ | ⟨j, _, hj, e⟩
                  · exact z
                  · exact absurd ((List.getElem?_inj (List.getElem?_eq_some_iff.mp e).1 T.nd).mp (e.trans ek.symm)) (Nat.ne_of_lt hj)
                subst eh0
                simp only [decide_eq_true q, if_true, Option.isSome_none, Bool.false_eq_true, if_false]
                refine wpAny_bind (wpAny_rule ?_)
                split
                · rw [posK_some T.nd ek] at h
                  exact wpAny_pure (wpAny_pure h)
                · exact wpAny_pure ⟨rfl, x + 1, some x, rfl, hx, .inr ⟨x, rfl, Nat.lt_succ_self x, ek⟩, l'⟩
              · simp only [decide_eq_false q, Bool.false_eq_true, if_false]
                refine wpAny_bind (wpAny_rule ?_)
                exact wpAny_pure ⟨rfl, x + 1, hit, rfl, hx, on q, l'⟩
            · rw [if_neg eh]
              refine wpAny_pure ⟨rfl, x + 1, hit, rfl, hx, on fun q => ?_, l'⟩
              rw [hh, q] at eh
              exact eh (beq_self_eq_true _)
          · rintro r s' ⟨rfl, i, hit, rfl, hi, m, el⟩
            have m1 := skip i es.size hit m hi fun j a b => by
              have z := List.filter_eq_nil_iff.mp el.symm j (List.mem_range'_1.mpr ⟨a, by omega⟩)
              simpa using z
            rw [T.size] at m1
            rw [← m1.fin T.nd] at h
            exact wpAny_pure h
        · rw [if_neg hone]
          refine wpAny_bind (may_quiet hk hkd hst ?_)
          simp only [Bool.false_and, Bool.false_eq_true, if_false]
          refine wpAny_bind (wpAny_forIn_list _ (fun l r s' => s' = s ∧ ∃ i hit, r = (none, hit) ∧ i ≤ es.size ∧ Met ks k i hit ∧ l = (List.range' i (es.size - i)).filter (fun j => hashAt es j == some (k.hash w))) _ ?_ ?_ _ _
            ⟨rfl, 0, none, rfl, Nat.zero_le _, .inl ⟨rfl, fun j hj => absurd hj (Nat.not_lt_zero j)⟩, by rw [placesWithHash, List.range_eq_range', Nat.sub_zero]⟩)
          · rintro x l r s' ⟨rfl, i, hit, rfl, hi, m, el⟩
            obtain ⟨h1, h2, _, h4, h5⟩ := filter_range'_cons _ _ _ _ _ el.symm
            have hx : x < es.size := by omega
            have m1 := skip i x hit m h1 h4
            obtain ⟨k', ek, hh, n, dd⟩ := T.each x hx
            have l' : l = (List.range' (x + 1) (es.size - (x + 1))).filter (fun j => hashAt es j == some (k.hash w)) := by rw [h5]; congr 2; omega
            have on : ¬ k' = k → Met ks k (x + 1) hit := fun ne => m1.go (Nat.le_succ x) fun j a b q => by
              have e : j = x := by omega
              rw [e, ek] at q
              exact ne (Option.some.inj q)
            simp only [Array.getElem?_eq_getElem hx]
            by_cases eh : (es[x].hash == k.hash w) = true
            · rw [if_pos eh]
              refine wpAny_bind (wpAny_dictEpoch ho hd (wpAny_bind (eqs x hx k' ek _ (wpAny_bind (wpAny_dictEpoch ho hd ?_)))))
              simp only [bne_self_eq_false, Bool.false_eq_true, if_false]
              by_cases q : k' = k
              · rw [q] at ek
                have eh0 : hit = none := by
                  rcases m1 with ⟨z, _⟩ | ⟨j, _, hj, e⟩
                  · exact z
                  · exact absurd ((List.getElem?_inj (List.getElem?_eq_some_iff.mp e).1 T.nd).mp (e.trans ek.symm)) (Nat.ne_of_lt hj)
                subst eh0
                simp only [decide_eq_true q, if_true, Option.isSome_none, Bool.false_eq_true, if_false]
                refine wpAny_bind (wpAny_rule ?_)
                split
                · rw [posK_some T.nd ek] at h
                  exact wpAny_pure (wpAny_pure h)
                · exact wpAny_pure ⟨rfl, x + 1, some x, rfl, hx, .inr ⟨x, rfl, Nat.lt_succ_self x, ek⟩, l'⟩
              · simp only [decide_eq_false q, Bool.false_eq_true, if_false]
                refine wpAny_bind (wpAny_rule ?_)
                exact wpAny_pure ⟨rfl, x + 1, hit, rfl, hx, on q, l'⟩
            · rw [if_neg eh]
              refine wpAny_pure ⟨rfl, x + 1, hit, rfl, hx, on fun q => ?_, l'⟩
              rw [hh, q] at eh
              exact eh (beq_self_eq_true _)
          · rintro r s' ⟨rfl, i, hit, rfl, hi, m, el⟩
            have m1 := skip i es.size hit m hi fun j a b => by
              have z := List.filter_eq_nil_iff.mp el.symm j (List.mem_range'_1.mpr ⟨a, by omega⟩)
              simpa using z
            rw [T.size] at m1
            rw [← m1.fin T.nd] at h
            exact wpAny_pure h
      · by_cases hone : (((placesWithHash es.size (fun i => es[i]?.map (·.hash)) (k.hash w)).filterMap fun i => es[i]?.map (·.key)) == [key]) = true
        · rw [if_pos hone]
          refine wpAny_bind (wpAny_pure ?_)
          simp only [Bool.false_and, Bool.false_eq_true, if_false]
          refine wpAny_bind (wpAny_forIn_list _ (fun l r s' => s' = s ∧ ∃ i hit, r = (none, hit) ∧ i ≤ es.size ∧ Met ks k i hit ∧ l = (List.range' i (es.size - i)).filter (fun j => hashAt es j == some (k.hash w))) _ ?_ ?_ _ _
            ⟨rfl, 0, none, rfl, Nat.zero_le _, .inl ⟨rfl, fun j hj => absurd hj (Nat.not_lt_zero j)⟩, by rw [placesWithHash, List.range_eq_range', Nat.sub_zero]⟩)
          · rintro x l r s' ⟨rfl, i, hit, rfl, hi, m, el⟩
            obtain ⟨h1, h2, _, h4, h5⟩ := filter_range'_cons _ _ _ _ _ el.symm
            have hx : x < es.size := by omega
            have m1 := skip i x hit m h1 h4
            obtain ⟨k', ek, hh, n, dd⟩ := T.each x hx
            have l' : l = (List.range' (x + 1) (es.size - (x + 1))).filter (fun j => hashAt es j == some (k.hash w)) := by rw [h5]; congr 2; omega
            have on : ¬ k' = k → Met ks k (x + 1) hit := fun ne => m1.go (Nat.le_succ x) fun j a b q => by
              have e : j = x := by omega
              rw [e, ek] at q
              exact ne (Option.some.inj q)
            simp only [Array.getElem?_eq_getElem hx]
            by_cases eh : (es[x].hash == k.hash w) = true
            · rw [if_pos eh]
              refine wpAny_bind (wpAny_dictEpoch ho hd (wpAny_bind (eqs x hx k' ek _ (wpAny_bind (wpAny_dictEpoch ho hd ?_)))))
              simp only [bne_self_eq_false, Bool.false_eq_true, if_false]
              by_cases q : k' = k
              · rw [q] at ek
                have eh0 : hit = none := by
                  rcases m1 with ⟨z, _⟩ | ⟨j, _, hj, e⟩
                  · exact z
                  · exact absurd ((List.getElem?_inj (List.getElem?_eq_some_iff.mp e).1 T.nd).mp (e.trans ek.symm)) (Nat.ne_of_lt hj)
                subst eh0
                simp only [decide_eq_true q, if_true, Option.isSome_none, Bool.false_eq_true, if_false]
                refine wpAny_bind (wpAny_rule ?_)
                split
                · rw [posK_some T.nd ek] at h
                  exact wpAny_pure (wpAny_pure h)
                · exact wpAny_pure ⟨rfl, x + 1, some x, rfl, hx, .inr ⟨x, rfl, Nat.lt_succ_self x, ek⟩, l'⟩
              · simp only [decide_eq_false q, Bool.false_eq_true, if_false]
                refine wpAny_bind (wpAny_rule ?_)
                exact wpAny_pure ⟨rfl, x + 1, hit, rfl, hx, on q, l'⟩
            · rw [if_neg eh]
              refine wpAny_pure ⟨rfl, x + 1, hit, rfl, hx, on fun q => ?_, l'⟩
              rw [hh, q] at eh
              exact eh (beq_self_eq_true _)
          · rintro r s' ⟨rfl, i, hit, rfl, hi, m, el⟩
            have m1 := skip i es.size hit m hi fun j a b => by
              have z := List.filter_eq_nil_iff.mp el.symm j (List.mem_range'_1.mpr ⟨a, by omega⟩)
              simpa using z
            rw [T.size] at m1
            rw [← m1.fin T.nd] at h
            exact wpAny_pure h
        · rw [if_neg hone]
          refine wpAny_bind (may_quiet hk hkd hst ?_)
          simp only [Bool.false_and, Bool.false_eq_true, if_false]
          refine wpAny_bind (wpAny_forIn_list _ (fun l r s' => s' = s ∧ ∃ i hit, r = (none, hit) ∧ i ≤ es.size ∧ Met ks k i hit ∧ l = (List.range' i (es.size - i)).filter (fun j => hashAt es j == some (k.hash w))) _ ?_ ?_ _ _
            ⟨rfl, 0, none, rfl, Nat.zero_le _, .inl ⟨rfl, fun j hj => absurd hj (Nat.not_lt_zero j)⟩, by rw [placesWithHash, List.range_eq_range', Nat.sub_zero]⟩)
          · rintro x l r s' ⟨rfl, i, hit, rfl, hi, m, el⟩
            obtain ⟨h1, h2, _, h4, h5⟩ := filter_range'_cons _ _ _ _ _ el.symm
            have hx : x < es.size := by omega
            have m1 := skip i x hit m h1 h4
            obtain ⟨k', ek, hh, n, dd⟩ := T.each x hx
            have l' : l = (List.range' (x + 1) (es.size - (x + 1))).filter (fun j => hashAt es j == some (k.hash w)) := by rw [h5]; congr 2; omega
            have on : ¬ k' = k → Met ks k (x + 1) hit := fun ne => m1.go (Nat.le_succ x) fun j a b q => by
              have e : j = x := by omega
              rw [e, ek] at q
              exact ne (Option.some.inj q)
            simp only [Array.getElem?_eq_getElem hx]
            by_cases eh : (es[x].hash == k.hash w) = true
            · rw [if_pos eh]
              refine wpAny_bind (wpAny_dictEpoch ho hd (wpAny_bind (eqs x hx k' ek _ (wpAny_bind (wpAny_dictEpoch ho hd ?_)))))
              simp only [bne_self_eq_false, Bool.false_eq_true, if_false]
              by_cases q : k' = k
              · rw [q] at ek
                have eh0 : hit = none := by
                  rcases m1 with ⟨z, _⟩ | ⟨j, _, hj, e⟩
                  · exact z
                  · exact absurd ((List.getElem?_inj (List.getElem?_eq_some_iff.mp e).1 T.nd).mp (e.trans ek.symm)) (Nat.ne_of_lt hj)
                subst eh0
                simp only [decide_eq_true q, if_true, Option.isSome_none, Bool.false_eq_true, if_false]
                refine wpAny_bind (wpAny_rule ?_)
                split
                · rw [posK_some T.nd ek] at h
                  exact wpAny_pure (wpAny_pure h)
                · exact wpAny_pure ⟨rfl, x + 1, some x, rfl, hx, .inr ⟨x, rfl, Nat.lt_succ_self x, ek⟩, l'⟩
              · simp only [decide_eq_false q, Bool.false_eq_true, if_false]
                refine wpAny_bind (wpAny_rule ?_)
                exact wpAny_pure ⟨rfl, x + 1, hit, rfl, hx, on q, l'⟩
            · rw [if_neg eh]
              refine wpAny_pure ⟨rfl, x + 1, hit, rfl, hx, on fun q => ?_, l'⟩
              rw [hh, q] at eh
              exact eh (beq_self_eq_true _)
          · rintro r s' ⟨rfl, i, hit, rfl, hi, m, el⟩
            have m1 := skip i es.size hit m hi fun j a b => by
              have z := List.filter_eq_nil_iff.mp el.symm j (List.mem_range'_1.mpr ⟨a, by omega⟩)
              simpa using z
            rw [T.size] at m1
            rw [← m1.fin T.nd] at h
            exact wpAny_pure h
end
end Fc
namespace Fc
open PySem L2
section
variable {A : Around} {P : Program} {w : World} {s : Shared} {E : Value → Shared → Prop}
/-- what stands under a key among the entries -/
def under (ks : List NK) (es : Array DictEntry) (k : NK) : Option Value := (posK ks k).bind fun i => es[i]?.map (·.val)
theorem dGet {d : Addr} {o : Obj} {es : Array DictEntry} {ep : Nat} {ks : List NK} {k : NK} {key : Value} {Q : Option Value → Shared → Prop} (hu : A.units + 8 < cLine) (T : Tab w s.heap ks es)
    (hk : NestedIs s.heap k key) (hkd : k.depth ≤ 8) (ho : s.heap.get? d = some o) (hd : o.data = .dict es ep) (h : ∀ t, Q (under ks es k) { s with toks := t }) : wpAny (model P w) A (dictGet d key) Q E s := by
  have h' := h (s.toks + k.draws)
  unfold dictGet
  try with_reducible refine wpAny_holding ?_
  refine wpAny_bind (pyHash_key k key A s _ hk (by omega) (wpAny_bind (dFind (s := { s with toks := s.toks + k.draws }) hu T hk hkd ho hd ?_)))
  unfold under at h'
  cases e : posK ks k with
  | none =>
    rw [e] at h'
    exact wpAny_pure h'
  | some i =>
    rw [e] at h'
    exact wpAny_bind (wpAny_dictEntries (s := { s with toks := s.toks + k.draws }) ho hd (wpAny_pure h'))
/-- the entries behind a store -/
def put (w : World) (ks : List NK) (es : Array DictEntry) (k : NK) (key v : Value) : Array DictEntry :=
  match posK ks k with
  | some i => es.modify i fun e => { e with val := v }
  | none => es.push ⟨k.hash w, key, v⟩
theorem dSet {d : Addr} {o : Obj} {es : Array DictEntry} {ep : Nat} {ks : List NK} {k : NK} {key v : Value} {Q : Unit → Shared → Prop} (hu : A.units + 8 < cLine) (T : Tab w s.heap ks es)
    (hk : NestedIs s.heap k key) (hkd : k.depth ≤ 8) (ho : s.heap.get? d = some o) (hc : o.ExactDict) (hd : o.data = .dict es ep) (hz : es.size ≤ sizeLine)
    (h : ∀ h' t o' ep', Heap.SameBut d s.heap h' → h'.get? d = some o' → o'.ExactDict → o'.data = .dict (put w ks es k key v) ep' → Q () { s with heap := h', toks := t }) : wpAny (model P w) A (dictSet d key v) Q E s := by
  unfold dictSet
  try with_reducible refine wpAny_holding ?_
  refine wpAny_bind (pyHash_key k key A s _ hk (by omega) ?_)
  unfold dictSetHashed
  try with_reducible refine wpAny_holding ?_
  refine wpAny_bind (dFind (s := { s with toks := s.toks + k.draws }) hu T hk hkd ho hd ?_)
  unfold put at h
  cases e : posK ks k with
  | none =>
    rw [e] at h
    exact wpAny_bind (wpAny_rule (wpAny_updateDictKeys (hz := hz) (s := { s with toks := s.toks + k.draws }) ho hd
      (h _ _ _ (ep + 1) (Heap.SameBut.update ..) (Heap.get?_update_self _ ho (Obj.isFreed_of_dict (Obj.data_mapDictKeys hd _))) (hc.mapDictKeys _) (Obj.data_mapDictKeys hd _))))
  | some i =>
    rw [e] at h
    exact wpAny_bind (wpAny_rule (wpAny_bind (wpAny_updateDict (s := { s with toks := s.toks + k.draws }) ho hd (wpAny_point
      (h _ _ _ ep (Heap.SameBut.update ..) (Heap.get?_update_self _ ho (Obj.isFreed_of_dict (Obj.data_mapDict hd _))) (hc.mapDict _) (Obj.data_mapDict hd _))))))
end
end Fc
namespace Fc
open PySem L2
section
variable {A : Around} {P : Program} {w : World} {s : Shared} {E : Value → Shared → Prop}
theorem dHas {d : Addr} {o : Obj} {es : Array DictEntry} {ep : Nat} {ks : List NK} {k : NK} {key : Value} {Q : Bool → Shared → Prop} (hu : A.units + 9 < cLine) (T : Tab w s.heap ks es)
    (hk : NestedIs s.heap k key) (hkd : k.depth ≤ 8) (ho : s.heap.get? d = some o) (hc : o.ExactDict) (hd : o.data = .dict es ep) (hs : (d == sysModules) = false) (h : ∀ t, Q (under ks es k).isSome { s with toks := t }) :
    wpAny (model P w) A (contains (.ref d) key) Q E s := by
  have hT : s.TypeIs (.ref d) "dict" := ⟨o, ho, hc.1⟩
  unfold contains
  try with_reducible refine wpAny_holding ?_
  refine wpAny_bind (wpAny_specialOf hT slot_dict_contains.lookup ?_)
  simp only [beq_builtin_none, Bool.false_eq_true, if_false]
  refine wpAny_bind (wpAny_callSpecialUnlessNone?_slot (name := Str.ofString "__contains__") hT slot_dict_contains (wpAny_call_entry slot_dict_contains hT entry_dict_contains ?_ (args_dict_contains _ _)))
  show wpAny _ _ (dictGet d key >>= _) _ _ s
  refine wpAny_bind (dGet (by show A.units + 1 + 8 < cLine; omega) T hk hkd ho hd fun t => ?_)
  have h' := h t
  cases e : under ks es k with
  | some v =>
    rw [e] at h'
    show wpAny _ _ (ret (.bool true)) _ _ _
    exact wpAny_pure ⟨_, rfl, wpAny_truthy_bool h'⟩
  | none =>
    rw [e] at h'
    show wpAny _ _ (Builtin.Dict.pendingKey? d key >>= _) _ _ _
    exact wpAny_bind (wpAny_pendingKey_other hs (wpAny_pure ⟨_, rfl, wpAny_truthy_bool h'⟩))
theorem dItem {d : Addr} {o : Obj} {es : Array DictEntry} {ep : Nat} {ks : List NK} {k : NK} {key v : Value} {Q : Value → Shared → Prop} (hu : A.units + 9 < cLine) (T : Tab w s.heap ks es)
    (hk : NestedIs s.heap k key) (hkd : k.depth ≤ 8) (ho : s.heap.get? d = some o) (hc : o.ExactDict) (hd : o.data = .dict es ep) (hv : under ks es k = some v) (h : ∀ t, Q v { s with toks := t }) :
    wpAny (model P w) A (getItem (.ref d) key) Q E s := by
  have hT : s.TypeIs (.ref d) "dict" := ⟨o, ho, hc.1⟩
  unfold getItem
  try with_reducible refine wpAny_holding ?_
  refine wpAny_bind (wpAny_sequenceKey hT (by decide) ?_)
  refine wpAny_bind (wpAny_callSpecial?_slot (name := Str.ofString "__getitem__") hT slot_dict_getitem (wpAny_call_entry slot_dict_getitem hT entry_dict_getitem ?_ (args_dict_getitem _ _)))
  show wpAny _ _ (dictGet d key >>= _) _ _ s
  refine wpAny_bind (dGet (by show A.units + 1 + 8 < cLine; omega) T hk hkd ho hd fun t => ?_)
  rw [hv]
  exact wpAny_pure ⟨v, rfl, wpAny_pure (h t)⟩
theorem dPut {d : Addr} {o : Obj} {es : Array DictEntry} {ep : Nat} {ks : List NK} {k : NK} {key v : Value} {Q : Unit → Shared → Prop} (hu : A.units + 9 < cLine) (T : Tab w s.heap ks es)
    (hk : NestedIs s.heap k key) (hkd : k.depth ≤ 8) (ho : s.heap.get? d = some o) (hc : o.ExactDict) (hd : o.data = .dict es ep) (hz : es.size ≤ sizeLine)
    (h : ∀ h' t o' ep', Heap.SameBut d s.heap h' → h'.get? d = some o' → o'.ExactDict → o'.data = .dict (put w ks es k key v) ep' → Q () { s with heap := h', toks := t }) :
    wpAny (model P w) A (setItem (.ref d) key v) Q E s := by
  have hT : s.TypeIs (.ref d) "dict" := ⟨o, ho, hc.1⟩
  unfold setItem
  try with_reducible refine wpAny_holding ?_
  refine wpAny_bind (wpAny_sequenceKey hT (by decide) ?_)
  refine wpAny_bind (wpAny_callSpecial?_slot (name := Str.ofString "__setitem__") hT slot_dict_setitem (wpAny_call_entry slot_dict_setitem hT entry_dict_setitem ?_ (args_dict_setitem _ _ _)))
  show wpAny _ _ (Builtin.Dict.notOrdered "__setitem__" ⟨[.ref d, key, v], []⟩ >>= _) _ _ s
  refine wpAny_bind (wpAny_notOrdered_dict hT ?_)
  show wpAny _ _ (dictSet d key v >>= _) _ _ s
  exact wpAny_bind (dSet (by show A.units + 1 + 8 < cLine; omega) T hk hkd ho hc hd hz fun h' t o' ep' a b c e => wpAny_pure ⟨.none, rfl, wpAny_pure (h h' t o' ep' a b c e)⟩)
end
end Fc
namespace Fc
open PySem L2
/-! ### tables over the layer's heap -/
inductive FlatK : NK → V → Prop
  | non : FlatK .none .non
  | num (i : Int) : FlatK (.num i) (.int i)
  | bl (b : Bool) : FlatK (.num (if b = true then 1 else 0)) (.bl b)
  | text (x : Str) : FlatK (.text x) (.str x)
/-- the value v is the key k: flat, or a tuple of flat ones -/
def KeyV (K : PySem.W.Frag) (H : Hp) (k : NK) (v : V) : Prop := FlatK k v ∨ ∃ a vs ks, v = .ref a ∧ SqT K H a vs ∧ k = .tup ks ∧ Paired FlatK ks vs
abbrev Ent := NK × V × V
abbrev keys (xs : List Ent) : List NK := xs.map (·.1)
def Ents (w : World) (xs : List Ent) (es : Array DictEntry) : Prop :=
  es.size = xs.length ∧ ∀ (j : Nat) (hj : j < es.size) (x : Ent), xs[j]? = some x → es[j].hash = x.1.hash w ∧ RelV x.2.1 es[j].key ∧ RelV x.2.2 es[j].val
def MDat (w : World) (a : Addr) (xs : List Ent) (h : Heap) : Prop :=
  xs.length ≤ sizeLine ∧ (a == sysModules) = false ∧ (keys xs).Nodup ∧ ∃ o es ep, h.get? a = some o ∧ o.ExactDict ∧ o.data = .dict es ep ∧ Ents w xs es
/-- a dict whose keys are flat values and tuples of such -/
def MD (w : World) (a : Addr) (xs : List Ent) : HO := .ext (MDat w a xs)
theorem MDat.ok {P : Program} {w : World} {H : Hp} {h : Heap} {a : Addr} {xs : List Ent} (m : MDat w a xs h) : ObjOk P w H h a (MD w a xs) := by
  have ⟨_, _, _, o, _, _, e, _⟩ := m
  exact ⟨m, ⟨o, e⟩, fun h1 h2 ⟨z1, z2, z3, o1, es, ep, e1, r⟩ k => ⟨z1, z2, z3, o1, es, ep, k _ e1, r⟩⟩
/-- a table that may be read: its keys stand -/
structure TabAt (K : PySem.W.Frag) (w : World) (H : Hp) (a : Addr) (xs : List Ent) : Prop where
  md : Rd H a (MD w a xs)
  ks : ∀ x ∈ xs, KeyV K H x.1 x.2.1
def posM (xs : List Ent) (k : NK) : Option Nat := posK (keys xs) k
def valM (xs : List Ent) (k : NK) : Option V := (posM xs k).bind fun i => xs[i]?.map (·.2.2)
def putM (xs : List Ent) (k : NK) (kv v : V) : List Ent :=
  match posM xs k with
  | some i => xs.modify i fun x => (x.1, x.2.1, v)
  | none => xs ++ [(k, kv, v)]
section
variable {X : Cx} {pins : List (Addr × Obj)} {σ : St} {H : Hp} {s : Shared} {a : Addr} {xs : List Ent} {k : NK} {v : V} {u : Value}
theorem FlatK.is {h : Heap} (f : FlatK k v) (r : RelV v u) : NestedIs h k u ∧ k.depth = 0 := by
  cases f with
  | non => cases r; exact ⟨.none, rfl⟩
  | num i => obtain ⟨t, rfl⟩ := r; exact ⟨.int i t, rfl⟩
  | bl b => cases r; exact ⟨.bool rfl, rfl⟩
  | text x => obtain ⟨t, rfl⟩ := r; exact ⟨.text x t, rfl⟩
theorem flats_is {h : Heap} : ∀ {ks : List NK} {vs : List V} {us : List Value}, Paired FlatK ks vs → Vals vs us → NestedAll h ks us ∧ NestedKey.depthAll ks = 0
  | _, _, _, .nil, .nil => ⟨.nil, rfl⟩
  | _, _, _, .cons f fs, .cons r rs => by
    obtain ⟨n, d⟩ := f.is (h := h) r
    obtain ⟨ns, ds⟩ := flats_is (h := h) fs rs
    exact ⟨.cons n ns, by simp only [NestedKey.depthAll, d, ds]; rfl⟩
theorem KeyV.is (I : Inv X pins σ H s) (h : KeyV X.K H k v) (r : RelV v u) : NestedIs s.heap k u ∧ k.depth ≤ 8 := by
  rcases h with f | ⟨b, vs, ks, rfl, hs, rfl, fs⟩
  · obtain ⟨n, d⟩ := f.is (h := s.heap) r
    exact ⟨n, by omega⟩
  · obtain rfl : u = Value.ref b := r
    obtain ⟨its, rv, ⟨o, ho, hc, n, hd⟩, _⟩ := I.tuple hs
    obtain ⟨ns, ds⟩ := flats_is (h := s.heap) fs rv
    exact ⟨.tup ho hc hd (by simpa using ns), by simp only [NestedKey.depth, ds]; omega⟩
theorem TabAt.get (I : Inv X pins σ H s) (t : TabAt X.K X.w H a xs) : xs.length ≤ sizeLine ∧ (a == sysModules) = false ∧
    ∃ o es ep, s.heap.get? a = some o ∧ o.ExactDict ∧ o.data = .dict es ep ∧ Ents X.w xs es ∧ Tab X.w s.heap (keys xs) es := by
  have ok : ObjOk X.prog X.w H s.heap a (MD X.w a xs) := t.md.ok I.hok
  obtain ⟨⟨z, sm, nd, o, es, ep, ho, hc, hd, ee⟩, _⟩ := ok
  refine ⟨z, sm, o, es, ep, ho, hc, hd, ee, ⟨by rw [ee.1, List.length_map], fun j hj => ?_, nd⟩⟩
  have hx : j < xs.length := by rw [← ee.1]; exact hj
  obtain ⟨e1, e2, _⟩ := ee.2 j hj xs[j] (List.getElem?_eq_getElem hx)
  obtain ⟨n, d⟩ := (t.ks xs[j] (List.getElem_mem hx)).is I e2
  exact ⟨xs[j].1, by rw [List.getElem?_map, List.getElem?_eq_getElem hx]; rfl, e1, n, d⟩
theorem Ents.val {w : World} {es : Array DictEntry} (ee : Ents w xs es) (k : NK) : RelO (valM xs k) (under (keys xs) es k) := by
  unfold valM under posM
  cases e : posK (keys xs) k with
  | none => trivial
  | some i =>
    show RelO (xs[i]?.map (·.2.2)) (es[i]?.map (·.val))
    by_cases hi : i < es.size
    · have hx : i < xs.length := by rw [← ee.1]; exact hi
      rw [Array.getElem?_eq_getElem hi, List.getElem?_eq_getElem hx]
      exact (ee.2 i hi xs[i] (List.getElem?_eq_getElem hx)).2.2
    · have hx : ¬ i < xs.length := by rw [← ee.1]; exact hi
      rw [Array.getElem?_eq_none (by omega), List.getElem?_eq_none (by omega)]
      trivial
theorem keys_putM (xs : List Ent) (k : NK) (kv v : V) : keys (putM xs k kv v) = match posM xs k with | some _ => keys xs | none => keys xs ++ [k] := by
  unfold putM
  cases e : posM xs k with
  | some i =>
    show (xs.modify i _).map (·.1) = xs.map (·.1)
    apply List.ext_getElem?
    intro j
    rw [List.getElem?_map, List.getElem?_modify, List.getElem?_map]
    cases xs[j]? with
    | none => rfl
    | some x => by_cases q : i = j <;> simp [q]
  | none => show (xs ++ [(k, kv, v)]).map (·.1) = _; rw [List.map_append]; rfl
theorem posK_isSome {ks : List NK} {k : NK} : (posK ks k).isSome = true ↔ k ∈ ks := by
  constructor
  · intro h
    obtain ⟨i, e⟩ := Option.isSome_iff_exists.mp h
    unfold posK at e
    obtain ⟨hi, q, _⟩ := List.findIdx?_eq_some_iff_getElem.mp e
    have q2 : ks[i] = k := of_decide_eq_true q
    rw [← q2]
    exact List.getElem_mem hi
  · intro h
    cases e : posK ks k with
    | some i => rfl
    | none =>
      unfold posK at e
      have q := List.findIdx?_eq_none_iff.mp e k h
      simp at q
theorem nd_putM (xs : List Ent) (k : NK) (kv v : V) (nd : (keys xs).Nodup) : (keys (putM xs k kv v)).Nodup := by
  rw [keys_putM]
  cases e : posM xs k with
  | some i => exact nd
  | none =>
    refine List.nodup_append.mpr ⟨nd, by simp, fun x hx y hy => ?_⟩
    rw [List.mem_singleton] at hy
    rintro rfl
    have q := posK_isSome.mpr (hy ▸ hx)
    unfold posM at e
    rw [e] at q
    cases q
theorem len_putM (xs : List Ent) (k : NK) (kv v : V) : (putM xs k kv v).length ≤ xs.length + 1 := by
  unfold putM
  cases posM xs k with
  | some i => show (xs.modify i _).length ≤ _; rw [List.length_modify]; omega
  | none => show (xs ++ [_]).length ≤ _; rw [List.length_append]; exact Nat.le_refl _
theorem Ents.put {w : World} {es : Array DictEntry} (ee : Ents w xs es) (k : NK) {kv v : V} {key r : Value} (rk : RelV kv key) (rv : RelV v r) : Ents w (putM xs k kv v) (Fc.put w (keys xs) es k key r) := by
  unfold putM Fc.put posM
  cases e : posK (keys xs) k with
  | none =>
    refine ⟨by show (es.push _).size = (xs ++ [_]).length; rw [Array.size_push, ee.1, List.length_append]; rfl, fun j hj x hx => ?_⟩
    have hj' : j < es.size + 1 := by simpa using hj
    show (es.push _)[j].hash = _ ∧ RelV _ (es.push _)[j].key ∧ RelV _ (es.push _)[j].val
    rcases Nat.lt_or_ge j es.size with q | q
    · rw [Array.getElem_push_lt q]
      refine ee.2 j q x ?_
      rw [List.getElem?_append_left (by rw [← ee.1]; exact q)] at hx
      exact hx
    · have ej : j = es.size := by omega
      subst ej
      rw [List.getElem?_append_right (by rw [ee.1]; exact Nat.le_refl _), ee.1, Nat.sub_self] at hx
      cases hx
      rw [Array.getElem_push_eq]
      exact ⟨rfl, rk, rv⟩
  | some i =>
    refine ⟨by show (es.modify i _).size = (xs.modify i _).length; rw [Array.size_modify, List.length_modify]; exact ee.1, fun j hj x hx => ?_⟩
    have hj' : j < es.size := by simpa using hj
    have hxj : j < xs.length := by rw [← ee.1]; exact hj'
    obtain ⟨p1, p2, p3⟩ := ee.2 j hj' xs[j] (List.getElem?_eq_getElem hxj)
    have hx' : (xs.modify i fun x => (x.1, x.2.1, v))[j]? = some x := hx
    rw [List.getElem?_modify, List.getElem?_eq_getElem hxj] at hx'
    replace hx' : (if i = j then (xs[j].1, xs[j].2.1, v) else xs[j]) = x := Option.some.inj hx'
    show (es.modify i _)[j].hash = _ ∧ RelV _ (es.modify i _)[j].key ∧ RelV _ (es.modify i _)[j].val
    rw [Array.getElem_modify]
    by_cases q : i = j
    · rw [if_pos q] at hx' ⊢
      cases hx'
      exact ⟨p1, p2, rv⟩
    · rw [if_neg q] at hx' ⊢
      cases hx'
      exact ⟨p1, p2, p3⟩
end
end Fc
namespace Fc
open PySem L2
/-- tuples stand as they stood -/
def Tups (K : PySem.W.Frag) (H H' : Hp) : Prop := ∀ b ys, SqT K H b ys → SqT K H' b ys
theorem Tups.of {K : PySem.W.Frag} {H H' : Hp} (t : ∀ b ys, Rd H b (.tup ys) → Rd H' b (.tup ys)) : Tups K H H' := fun b ys h => h.elim (fun r => .inl (t b ys r)) .inr
theorem Tups.same {K : PySem.W.Frag} {H H' : Hp} (e : Same H H') : Tups K H H' := .of fun b ys r => r.elim (fun z => .inl (e _ _ z)) fun ⟨o, z⟩ => .inr ⟨o, e _ _ z⟩
theorem Tups.upd {K : PySem.W.Frag} {H : Hp} {a : Addr} {o : HO} (h : ∀ u, H a = some u → Mut (some u)) : Tups K H (upd H a o) := .of fun b ys r => by
  have ne : ∀ u, H b = some u → ¬ Mut (some u) → b ≠ a := fun u e n z => n (h u (z ▸ e))
  rcases r with r | ⟨ob, r⟩
  · exact .inl (by rw [upd_ne (ne _ r fun z => z)]; exact r)
  · exact .inr ⟨ob, by rw [upd_ne (ne _ r fun z => z)]; exact r⟩
theorem Tups.trans {K : PySem.W.Frag} {H H1 H2 : Hp} (a : Tups K H H1) (b : Tups K H1 H2) : Tups K H H2 := fun c ys h => b c ys (a c ys h)
theorem KeyV.mono {K : PySem.W.Frag} {H H' : Hp} {k : NK} {v : V} (t : Tups K H H') (h : KeyV K H k v) : KeyV K H' k v := by
  rcases h with f | ⟨b, vs, ks, e, hs, ek, fs⟩
  · exact .inl f
  · exact .inr ⟨b, vs, ks, e, t _ _ hs, ek, fs⟩
theorem TabAt.mono {K : PySem.W.Frag} {w : World} {H H' : Hp} {a : Addr} {xs : List Ent} (t : Tups K H H') (r : Rd H' a (MD w a xs)) (h : TabAt K w H a xs) : TabAt K w H' a xs := ⟨r, fun x hx => (h.ks x hx).mono t⟩
section
variable {X : Cx}
def rInM (K : PySem.W.Frag) (w : World) (g : Bool → Bool) : R2 := fun x y H Q => ∃ a xs k, y = .ref a ∧ TabAt K w H a xs ∧ KeyV K H k x ∧ Q (.bl (g (valM xs k).isSome)) H
theorem op_inM (hu : X.A.units + 9 < cLine) : OpR X (compareOp .In) (rInM X.K X.w id) := by
  intro pins s σ H x y v u Q I rx ry ⟨a, xs, k, e, t, hk, q⟩
  subst e
  obtain rfl : u = Value.ref a := ry
  obtain ⟨_, sm, o, es, ep, ho, hc, hd, ee, T⟩ := t.get I
  obtain ⟨n, d⟩ := hk.is I rx
  show wpAny _ _ (do return Value.bool (← contains (.ref a) v)) _ _ s
  have eb := (ee.val k).isSome_eq
  exact wpAny_bind (dHas hu T n d ho hc hd sm fun tk => wpAny_pure ⟨.bl (valM xs k).isSome, H, I.tok tk, by rw [eb]; rfl, q⟩)
theorem op_notInM (hu : X.A.units + 9 < cLine) : OpR X (compareOp .NotIn) (rInM X.K X.w not) := by
  intro pins s σ H x y v u Q I rx ry ⟨a, xs, k, e, t, hk, q⟩
  subst e
  obtain rfl : u = Value.ref a := ry
  obtain ⟨_, sm, o, es, ep, ho, hc, hd, ee, T⟩ := t.get I
  obtain ⟨n, d⟩ := hk.is I rx
  show wpAny _ _ (do return Value.bool (!(← contains (.ref a) v))) _ _ s
  have eb := (ee.val k).isSome_eq
  exact wpAny_bind (dHas hu T n d ho hc hd sm fun tk => wpAny_pure ⟨.bl (!(valM xs k).isSome), H, I.tok tk, by rw [eb]; rfl, q⟩)
def rIxM (K : PySem.W.Frag) (w : World) : R2 := fun x y H Q => ∃ a xs k v, x = .ref a ∧ TabAt K w H a xs ∧ KeyV K H k y ∧ valM xs k = some v ∧ Q v H
theorem ix_md (hu : X.A.units + 9 < cLine) : IxR X (rIxM X.K X.w) := by
  intro value slice pins s σ H x y v u Q I rx ry ⟨a, xs, k, z, e, t, hk, hv, q⟩ hs
  subst e
  obtain rfl : v = Value.ref a := rx
  obtain ⟨_, sm, o, es, ep, ho, hc, hd, ee, T⟩ := t.get I
  obtain ⟨n, d⟩ := hk.is I ry
  have r := ee.val k
  rw [hv] at r
  obtain ⟨r', hr, rr⟩ := r.some_of
  exact PyProof.Rows.subscriptTail_builtinR (x := r') ⟨o, ho, hc.1⟩ slot_dict_getitem.lookup (dItem hu T n d ho hc hd hr fun tk => ⟨rfl, z, H, I.tok tk, rr, q⟩) hs
def rSetM (K : PySem.W.Frag) (w : World) : TSet := fun o i v H Q => ∃ a xs k, o = .ref a ∧ H a = some (MD w a xs) ∧ (∀ x ∈ xs, KeyV K H x.1 x.2.1) ∧ KeyV K H k i ∧ xs.length < sizeLine ∧ Q (upd H a (MD w a (putM xs k i v)))
theorem md_write {pins : List (Addr × Obj)} {σ : St} {H : Hp} {s : Shared} {a : Addr} {xs ys : List Ent} {h' : Heap} {t : Nat} (I : Inv X pins σ H s) (hH : H a = some (MD X.w a xs)) (sb : Heap.SameBut a s.heap h') (m : MDat X.w a ys h') :
    Inv X pins σ (upd H a (MD X.w a ys)) { s with heap := h', toks := t } := by
  have ⟨_, _, _, o, _, _, e, _⟩ := m
  exact d_write I (by rw [hH]; exact True.intro) sb ⟨o, e⟩ m.ok
theorem md_put {pins : List (Addr × Obj)} {σ : St} {H : Hp} {s : Shared} {a : Addr} {xs : List Ent} {k : NK} {kv v : V} {key r : Value} {h' : Heap} {o' : Obj} {ep' : Nat} {es : Array DictEntry} (hH : H a = some (MD X.w a xs)) (I : Inv X pins σ H s)
    (hl : xs.length < sizeLine) (ee : Ents X.w xs es) (rk : RelV kv key) (rv : RelV v r) (sb : Heap.SameBut a s.heap h') (e1 : h'.get? a = some o') (e2 : o'.ExactDict) (e3 : o'.data = .dict (put X.w (keys xs) es k key r) ep') (t : Nat) :
    Inv X pins σ (upd H a (MD X.w a (putM xs k kv v))) { s with heap := h', toks := t } := by
  obtain ⟨_, sm, nd, _⟩ := (I.hok a _ hH).1
  exact md_write I hH sb ⟨Nat.le_trans (len_putM xs k kv v) hl, sm, nd_putM xs k kv v nd, o', _, ep', e1, e2, e3, ee.put k rk rv⟩
theorem set_md (hu : X.A.units + 9 < cLine) : PSet X (rSetM X.K X.w) := by
  intro pins s σ H o i v ov iv u Q I ro ri rv ⟨a, xs, k, e, hH, hks, hk, hl, q⟩
  subst e
  obtain rfl : ov = Value.ref a := ro
  have t : TabAt X.K X.w H a xs := ⟨.inl hH, hks⟩
  obtain ⟨z, sm, o, es, ep, ho, hc, hd, ee, T⟩ := t.get I
  obtain ⟨n, d⟩ := hk.is I ri
  exact dPut hu T n d ho hc hd (by rw [ee.1]; exact z) fun h' tk o' ep' sb e1 e2 e3 => ⟨_, md_put hH I hl ee ri rv sb e1 e2 e3 tk, q⟩
/-- len(d) -/
theorem call_lenM : CallR X (.builtin "len") (fun xs H Q => ∃ a es, xs = [.ref a] ∧ TabAt X.K X.w H a es ∧ Q (.int es.length) H) := by
  intro pins s σ H xs us Q I r ⟨a, ys, e, t, q⟩
  subst e
  obtain ⟨u, rfl, rx⟩ := vals1 r
  obtain rfl : u = Value.ref a := rx
  obtain ⟨z, sm, o, es, ep, ho, hc, hd, ee, T⟩ := t.get I
  rw [sizeLine_eq] at z
  refine PyProof.Rows.call_len_slot (n := es.size) ⟨o, ho, hc.1⟩ F.slot_dict_len (fun Q' hq => call_len_raw sm ⟨o, ho, hc, hd⟩ hq) (by omega) (by rw [ee.1]; omega) ?_
  exact ⟨.int ys.length, H, I.tok _, ⟨_, by rw [ee.1]⟩, q⟩
/-- list(d) -/
theorem call_listM (hcalm : X.calm = true) : CallR X (.type "list") (fun xs H Q => ∃ a es, xs = [.ref a] ∧ TabAt X.K X.w H a es ∧ ∀ p, H p = none → Q (.ref p) (upd H p (.lst (es.map (·.2.1))))) := by
  intro pins s σ H xs us Q I r ⟨a, ys, e, t, q⟩
  subst e
  obtain ⟨u, rfl, rx⟩ := vals1 r
  obtain rfl : u = Value.ref a := rx
  obtain ⟨z, sm, o, es, ep, ho, hc, hd, ee, T⟩ := t.get I
  refine PySem.W.kdl_call (kdl_raw sm hc hd) (I.ok.hd hcalm) ho (by rw [ee.1]; exact z) fun h' tk acc' c' kp e it => ?_
  have hl : acc'.toList.length = ys.length := by rw [Array.length_toList, it.1]; exact ee.1
  have rv : Vals (ys.map (·.2.1)) acc'.toList := by
    have gen : ∀ (l1 : List Ent) (l2 : List Value), l1.length = l2.length → (∀ (j : Nat) (x : Ent), l1[j]? = some x → ∀ v : Value, l2[j]? = some v → RelV x.2.1 v) → Vals (l1.map (·.2.1)) l2 := by
      intro l1
      induction l1 with
      | nil => intro l2 hl _; cases l2 with
        | nil => exact .nil
        | cons _ _ => cases hl
      | cons x l1 ih => intro l2 hl h; cases l2 with
        | nil => cases hl
        | cons v l2 => exact .cons (h 0 x rfl v rfl) (ih l2 (by simpa using hl) fun j y hy v hv => h (j + 1) y (by simpa using hy) v (by simpa using hv))
    refine gen ys acc'.toList hl.symm fun j x hx v hv => ?_
    obtain ⟨en, hen, ev⟩ := it.2 j v (by rw [← Array.getElem?_toList]; exact hv)
    obtain ⟨hj, e2⟩ := Array.getElem?_eq_some_iff.mp hen
    have q2 := (ee.2 j hj x hx).2.1
    rw [ev, ← e2]
    exact q2
  refine ⟨.ref s.heap.objs.size, _, I.laid (t' := tk) (o := .lst (ys.map (·.2.1))) kp (Nat.le_refl _) ⟨by rw [List.length_map]; exact z, acc'.toList, c', rv, by rw [Array.toArray_toList]; exact e⟩, rfl, q _ (I.hok.fresh (Nat.le_refl _))⟩
/-- isinstance(d, T) -/
theorem call_isiM : CallR X (.builtin "isinstance") (fun xs H Q => ∃ a es c u b, xs = [.ref a, c] ∧ ClsV c u ∧ TabAt X.K X.w H a es ∧ PySem.W.kitOne X.K (.type "dict") u = some b ∧ Q (.bl b) H) := by
  intro pins s σ H xs us Q I r ⟨a, es, c, u, b, e, k, t, kt, q⟩
  subst e
  obtain ⟨u1, u2, rfl, r1, r2⟩ := vals2 r
  have e2 := k.eq r2
  subst e2
  obtain rfl : u1 = Value.ref a := r1
  obtain ⟨_, _, o, _, _, ho, hc, _⟩ := t.get I
  exact PySem.W.kia_one PySem.W.kitx_dict I.kIn (⟨o, ho, hc.1⟩) kt (fun z => nomatch z) fun tk => ⟨.bl b, H, I.tok tk, rfl, q⟩
end
end Fc
namespace Fc
open PySem L2
/-- the keys of a locked table, one by one -/
def ItM (w : World) (d : Addr) (o : Obj) (xs : List Ent) : It :=
  ⟨fun n H => H d = some (.frz o (MD w d xs)) ∧ n < xs.length, fun n H x H' => H' = H ∧ ∃ e, xs[n]? = some e ∧ x = e.2.1, fun n H => H d = some (.frz o (MD w d xs)) ∧ xs.length ≤ n⟩
theorem frzM {X : Cx} {pins : List (Addr × Obj)} {σ : St} {H : Hp} {s : Shared} {d : Addr} {o : Obj} {xs : List Ent} (I : Inv X pins σ H s) (h : H d = some (.frz o (MD X.w d xs))) :
    (d == sysModules) = false ∧ s.heap.get? d = some o ∧ o.ExactDict ∧ ∃ es ep, o.data = .dict es ep ∧ Ents X.w xs es := by
  obtain ⟨hg, ⟨⟨_, sm, _, o', es, ep, e, c, dt, ee⟩, _⟩⟩ := I.hok d _ h
  rw [hg] at e
  cases e
  exact ⟨sm, hg, c, es, ep, dt, ee⟩
theorem turnM {P : Program} {w : World} {K : PySem.W.Frag} {tg : Expr} {d : Addr} {o : Obj} {es : Array DictEntry} {ep : Nat} {xs : List Ent} (it : Addr) (hod : o.data = .dict es ep) :
    Turn P w K tg (ItM w d o xs) [it] it (fun n h => h.IsKeyIter it d n xs.length ep) := by
  refine ⟨List.mem_singleton.mpr rfl, fun n h st b hb => ?_, fun n h h' st k => st.at fun ob e => k it (List.mem_singleton.mpr rfl) ob e, ?_, ?_, fun A n s Q E st h => ?_⟩
  · rw [List.mem_singleton] at hb
    subst hb
    obtain ⟨ob, e, _, dt⟩ := st
    exact ⟨ob, e, fun v z => by rw [dt] at z; cases z⟩
  · intro X e1 e2 e3 hc n pins s σ H E I hf st hg
    subst e1 e2 e3
    obtain ⟨hd, hn⟩ := hg
    have F := hf it (List.mem_singleton.mpr rfl)
    obtain ⟨_, g, _, es', ep', dt, ee⟩ := frzM I hd
    obtain ⟨q1, q2⟩ := dict_ep hod dt
    subst q1 q2
    have hx : n < es'.size := by rw [ee.1]; exact hn
    refine next_key_item st g hod ee.1 (Array.getElem?_eq_getElem hx) fun h' st' sb => ⟨es'[n].key, rfl, ?_⟩
    have I1 : Inv X pins σ H { s with heap := h' } := I.turned (t' := s.toks) (fun b ob ne e => (sb.2 b ne).trans e) F.1 F.2.1 F.2.2.2.1 F.2.2.2.2.1 F.2.2.2.2.2
    have ⟨ob, e, c, dt'⟩ := st'
    exact go_of (s := { s with heap := h' }) e c dt' (by decide) ⟨xs[n].2.1, H, I1, (ee.2 n hx xs[n] (List.getElem?_eq_getElem hn)).2.1, ⟨rfl, xs[n], List.getElem?_eq_getElem hn, rfl⟩, st', fun b hb => (hf b hb).1⟩
  · intro X e1 e2 e3 hc n pins s σ H E I hf st hg
    subst e1 e2 e3
    obtain ⟨hd, hn⟩ := hg
    have F := hf it (List.mem_singleton.mpr rfl)
    obtain ⟨_, g, _, es', ep', dt, ee⟩ := frzM I hd
    obtain ⟨q1, q2⟩ := dict_ep hod dt
    subst q1 q2
    exact next_key_end (I.ok.hd hc) st g hod ee.1 hn fun h' eb => ⟨rfl, I.turned (t' := s.toks) (fun b ob ne e => eb b ob ne e) F.1 F.2.1 F.2.2.2.1 F.2.2.2.2.1 F.2.2.2.2.2⟩
  · exact wpAny_pyIter_keyiter st h
/-- for k in d, d a locked table -/
def iKeyM (w : World) (td : TE) : TI := fun σ H R => td σ H fun x H1 => ∃ d o xs, x = .ref d ∧ H1 d = some (.frz o (MD w d xs)) ∧ R (ItM w d o xs) H1
theorem pi_keyM {X : Cx} {tg e : Expr} {td : TE} (he : PE X e td) : PI X tg e (iKeyM X.w td) := by
  refine ⟨fun pins s σ H R I h => thn (he.run pins s σ H _ I h) fun u s1 ⟨x, H1, I1, rx, d, o, xs, ex, hd, q⟩ => ?_⟩
  subst ex
  obtain rfl : u = Value.ref d := rx
  obtain ⟨sm, g, c, es, ep, dt, ee⟩ := frzM I1 hd
  refine iter_keys sm g c dt (pi_one (tk := s1.toks) I1 _ (turnM _ dt) ⟨_, Heap.get?_push_size _ rfl, rfl, ?_⟩ q)
  rw [ee.1]
  rfl
/-! ### {k: v for ..}, keys of all kinds -/
def tDcM (K : PySem.W.Frag) (w : World) (wi : TI) (g : TG) (tk tv : TE) (vs : List Nat) : TE := fun σ H Q => wi σ H fun J H1 => ∀ D, H1 D = none → ∃ W : Nat → Nat → Hp → Prop, (∃ m, W 0 m (upd H1 D (MD w D []))) ∧ ∀ i m H, W i m H →
  (J.stop i H ∧ Q (.ref D) H) ∨ (J.go i H ∧ ∃ Nx : Hp → Prop, (∀ H', Nx H' → ∃ m', m' < m ∧ W (i + 1) m' H') ∧ ∀ x H', J.yld i H x H' → g x (wipe σ vs) H' fun σ2 H2 => wipe σ2 vs = wipe σ vs ∧
    tk σ2 H2 fun y H4 => tv σ2 H4 fun z H5 => ∃ xs k, H5 D = some (MD w D xs) ∧ (∀ x ∈ xs, KeyV K H5 x.1 x.2.1) ∧ KeyV K H5 k y ∧ xs.length < sizeLine ∧ Nx (upd H5 D (MD w D (putM xs k y z))))
theorem md_empty {P : Program} {w : World} {H : Hp} (h : Heap) (hb : sysModules < h.objs.size) : ObjOk P w H (h.push { cls := .type "dict", data := .dict #[] }) h.objs.size (MD w h.objs.size []) :=
  MDat.ok ⟨Nat.zero_le _, beq_eq_false_iff_ne.mpr (Nat.ne_of_gt hb), List.nodup_nil, _, #[], 0, Heap.get?_push_size _ rfl, ⟨rfl, rfl, rfl⟩, rfl, rfl, fun j hj => absurd hj (Nat.not_lt_zero j)⟩
theorem dcM_core {X : Cx} {pins : List (Addr × Obj)} {s : Shared} {σ : St} {H : Hp} {Q : VK} {kx vx tg iter : Expr} {scope : Scope} {own : List (Str × Nat)} {pos pos' : Pos} {wi : TI} {g : TG} {tk tv : TE} {use : Option (Value → Sem Unit)} {Qf : Value → Shared → Prop} (hu : X.A.units + 9 < cLine) (hc : X.calm = true) (hN : X.N.Nodup) (I : Inv X pins σ H s) (hi : PI X tg iter wi) (ok : BlkOk X.N X.env.scope scope own)
    (hg : ∀ (s : Shared) (H : Hp) (C : Addr) (cl : List (Str × Addr)) (fp : List Addr), PG (X.blk s H scope (compEnvC scope cl C X.env) fp) tg g)
    (hk : ∀ (s : Shared) (H : Hp) (C : Addr) (cl : List (Str × Addr)) (fp : List Addr), PE (X.blk s H scope (compEnvC scope cl C X.env) fp) kx tk)
    (hv : ∀ (s : Shared) (H : Hp) (C : Addr) (cl : List (Str × Addr)) (fp : List Addr), PE (X.blk s H scope (compEnvC scope cl C X.env) fp) vx tv) (hs : ∀ x, foldedSetIterable iter X.env x = pure x)
    (h : tDcM X.K X.w wi g tk tv (own.map (·.2)) σ H Q)
    (hRR : ∀ D C s' m H', Inv X pins σ H' s' → Q (.ref D) H' → s'.heap.Ns C m → FpOk X pins H' C → compPost (model X.prog X.w) X.A X.xe use Qf (.ref D) C (.ok .next) s') :
    wpAny (model X.prog X.w) X.A (comprehension (.DictComp kx vx [⟨tg, iter, [], 0⟩] scope pos) scope X.env pos' newDict false (eval iter X.env) use) Qf X.xe s := by
  have frees : ∀ y ∈ scope.names, y.2 = .free → ∃ c, X.env.cells.lookup y.1 = some c := fun y hy e => (ok.free y hy e).elim (fun k => I.ok.has _ (.inl k)) fun k => I.ok.has _ (.inr k)
  refine wpAny_comprehension_free (use := use) rfl hs (closure_ok frees) ok.kind (fun y hy e => by rw [ok.uniq y hy, e]) (thn (hi.run pins s σ H _ I h) fun xv s1 hx => thn hx fun itv s2 hh => ?_)
  obtain ⟨it, fp, tn, J, H2, e, I2, T, st2, f2, q⟩ := hh
  subst e
  refine wpAny_newObj_type (newEnv_comp ?_)
  have hDn : H2 s2.heap.objs.size = none := I2.hok.fresh (Nat.le_refl _)
  have new : Inv X pins σ (upd H2 s2.heap.objs.size (MD X.w s2.heap.objs.size [])) { s2 with heap := s2.heap.push { cls := .type "dict", data := .dict #[] } } :=
    I2.laid (t' := s2.toks) (fun b o e => Heap.get?_push_of_some _ e) (Nat.le_refl _) (md_empty s2.heap I2.big)
  obtain ⟨W, ⟨m0, w0⟩, turn⟩ := q s2.heap.objs.size hDn
  have old : ∀ b ∈ fp, b < s2.heap.objs.size := fun b hb => let ⟨o, e, _⟩ := T.obj _ _ st2 b hb; Heap.lt_size e
  have f3 : ∀ b ∈ fp, FpOk X pins (upd H2 s2.heap.objs.size (MD X.w s2.heap.objs.size [])) b ∧ b < (s2.heap.push { cls := .type "dict", data := .dict #[] }).objs.size := fun b hb =>
    ⟨⟨by rw [upd_ne (Nat.ne_of_lt (old b hb))]; exact (f2 b hb).1, (f2 b hb).2⟩, by rw [Heap.size_push]; exact Nat.lt_succ_of_lt (old b hb)⟩
  have st3 : tn 0 (s2.heap.push { cls := .type "dict", data := .dict #[] }) := T.keep _ _ _ st2 fun b _ o e => Heap.get?_push_of_some _ e
  generalize eD : s2.heap.objs.size = D at *
  generalize e3 : ({ s2 with heap := s2.heap.push { cls := .type "dict", data := .dict #[] } } : Shared) = s3 at *
  have h3 : s3.heap = s2.heap.push { cls := .type "dict", data := .dict #[] } := by rw [← e3]
  rw [← h3] at f3 st3
  have B := block_start new ok hN f3
  have pg := hg s3 (upd H2 D (MD X.w D [])) s3.heap.objs.size (cellsFrom (s3.heap.objs.size + 1) scope.names (cloFrom X.env.cells scope.names [])) fp
  have pk := hk s3 (upd H2 D (MD X.w D [])) s3.heap.objs.size (cellsFrom (s3.heap.objs.size + 1) scope.names (cloFrom X.env.cells scope.names [])) fp
  have pw := hv s3 (upd H2 D (MD X.w D [])) s3.heap.objs.size (cellsFrom (s3.heap.objs.size + 1) scope.names (cloFrom X.env.cells scope.names [])) fp
  change codeAny _ _ (.compStart (.DictComp kx vx [⟨tg, iter, [], 0⟩] scope pos) 0 (.ref it) (.ref D) (compEnvC scope (cellsFrom (s3.heap.objs.size + 1) scope.names (cloFrom X.env.cells scope.names [])) s3.heap.objs.size X.env))
    (compPost (model X.prog X.w) X.A X.xe use Qf (.ref D) s3.heap.objs.size) { s3 with heap := pushCells (s3.heap.push { cls := .type "dict", data := .dict #[] }) scope.names }
  generalize ec : compEnvC scope (cellsFrom (s3.heap.objs.size + 1) scope.names (cloFrom X.env.cells scope.names [])) s3.heap.objs.size X.env = ce at B pg pk pw ⊢
  have el : ce.locals = s3.heap.objs.size := by rw [← ec]; rfl
  generalize eH : upd H2 D (MD X.w D []) = H3 at new B pg pk pw w0 f3
  have nfp : ∀ b ∈ fp, H3 b = none := fun b hb => (f3 b hb).1.1
  generalize es4 : ({ s3 with heap := pushCells (s3.heap.push { cls := .type "dict", data := .dict #[] }) scope.names } : Shared) = s4 at B ⊢
  have st4 : tn 0 s4.heap := T.keep _ _ _ st3 fun b _ o e => by rw [← es4]; exact pushCells_keeps _ _ _ _ (Heap.get?_push_of_some _ e)
  have stat : ∀ {τ : St} {G : Hp} {r : Shared}, Inv (X.blk s3 H3 scope ce fp) [] τ G r → (∀ b ∈ fp, G b = none) → ∀ b ∈ fp, FpOk (X.blk s3 H3 scope ce fp) [] G b := fun {τ G r} J' hn b hb =>
    ⟨hn b hb, (J'.ok.exf b hb).1, J'.ok.exfs b hb, .inl hb, fun x c e => (J'.ok.exf b hb).2 x c e, fun p hp => absurd (show p ∈ ([] : List (Addr × Obj)) ++ [] from hp) (by simp)⟩
  have loop : codeAny (model X.prog X.w) X.A (.compLoop (.DictComp kx vx [⟨tg, iter, [], 0⟩] scope pos) 0 (.ref it) (.ref D) ce) (compPost (model X.prog X.w) X.A X.xe use Qf (.ref D) s3.heap.objs.size) s4 := by
    refine compLoop_anyD (fun n r => ∃ i G, Inv (X.blk s3 H3 scope ce fp) [] (wipe σ (own.map (·.2))) G r ∧ tn i r.heap ∧ (∀ b ∈ fp, G b = none) ∧ W i n G) ?_ m0 ⟨0, H3, B, st4, nfp, w0⟩
    rintro n s5 ⟨i, H5, I5, st5, n5, w5⟩
    rcases turn i n H5 w5 with ⟨halt, qq⟩ | ⟨go, Nx, hNx, step⟩
    · refine thnF (T.done (X.blk s3 H3 scope ce fp) rfl rfl rfl hc i [] s5 _ H5 (fun _ _ => False) I5 (stat I5 n5) st5 halt) fun r s6 ⟨hr, I6⟩ => ?_
      subst hr
      have I7 : Inv X pins σ H5 s6 := new.call' (ch := fp) I6.os I6.base I6.hok I6.bare fun b hb => ⟨(f3 b hb).1.2.2.2.1, (f3 b hb).1.2.1, (f3 b hb).1.2.2.2.2.1, (f3 b hb).1.2.2.2.2.2⟩
      have z : H5 ce.locals = none := I6.free
      obtain ⟨m, hn, _⟩ := I6.loc
      replace hn : s6.heap.Ns ce.locals m := hn
      rw [el] at z hn
      exact hRR D s3.heap.objs.size s6 m H5 I7 qq hn (new.fpOk (Nat.le_refl _) z)
    · refine thnF (T.item (X.blk s3 H3 scope ce fp) rfl rfl rfl hc i [] s5 _ H5 (fun _ _ => False) I5 (stat I5 n5) st5 go) fun r s6 ⟨u, hr, h6⟩ => ?_
      subst hr
      refine thnF h6 fun _ s7 got => ?_
      obtain ⟨x, H7, I7, r7, y7, st7, n7⟩ := got
      refine thnF (pg.run _ s7 _ H7 x u _ (I7.pinned (stat I7 n7) (T.obj _ _ st7)) r7 (step x H7 y7)) fun _ s8 ⟨σ8, H8, I8, hw8, q8⟩ => ?_
      refine wpAny_pure ?_
      simp only [if_true]
      refine thnF (pk.run _ s8 σ8 H8 _ I8 q8) fun kz s10 ⟨yk, H10, I10, r10, q10⟩ => ?_
      refine thnF (pw.run _ s10 σ8 H10 _ I10 q10) fun vz s11 ⟨yv, H11, I11, r11, ys, k, hD11, hks, hkey, hl, nx⟩ => ?_
      have I11' : Inv (X.blk s3 H3 scope ce fp) ([] ++ pinsAt fp s7.heap) σ8 H11 s11 := I11
      have tab : TabAt X.K X.w H11 D ys := ⟨.inl hD11, hks⟩
      obtain ⟨z1, sm, o1, es, ep, ho, hcx, hd, ee, T1⟩ := tab.get (X := X.blk s3 H3 scope ce fp) I11
      obtain ⟨nk, dk⟩ := hkey.is (X := X.blk s3 H3 scope ce fp) I11 r10
      refine dSet (by omega) T1 nk dk ho hcx hd (by rw [ee.1]; exact z1) fun h' tk' o' ep' sb e1 e2 e3' => ?_
      have I12 := md_put (X := X.blk s3 H3 scope ce fp) hD11 I11 hl ee r10 r11 sb e1 e2 e3' tk'
      obtain ⟨m', hm, w'⟩ := hNx _ nx
      have pin' : ∀ b ∈ fp, ∀ o, s7.heap.get? b = some o → h'.get? b = some o ∧ (upd H11 D (MD X.w D (putM ys k yk yv))) b = none := fun b hb o e =>
        let z := I12.pin (b, o) (List.mem_append_right _ (List.mem_append_right _ (mem_pinsAt hb e)))
        ⟨z.1, z.2.1⟩
      refine ⟨m', hm, i + 1, _, (I12.unpinned (pins := [])).weak (by rw [← hw8, wipe_length]) (fun j v e => ?_), T.keep _ _ _ st7 fun b hb o e => (pin' b hb o e).1, fun b hb => ?_, w'⟩
      · rw [← hw8] at e
        exact (wipe_some e).1
      · obtain ⟨o, e, _⟩ := T.obj _ _ st7 b hb
        exact (pin' b hb o e).2
  refine codeAny_compStart_dict loop ?_
  exact T.self X.A 0 _ _ _ st4 loop
theorem pe_dcM {X : Cx} {kx vx tg iter : Expr} {scope : Scope} {own : List (Str × Nat)} {pos : Pos} {wi : TI} {g : TG} {tk tv : TE} (hu : X.A.units + 9 < cLine) (hc : X.calm = true) (hN : X.N.Nodup) (hi : PI X tg iter wi) (ok : BlkOk X.N X.env.scope scope own)
    (hg : ∀ (s : Shared) (H : Hp) (C : Addr) (cl : List (Str × Addr)) (fp : List Addr), PG (X.blk s H scope (compEnvC scope cl C X.env) fp) tg g)
    (hk : ∀ (s : Shared) (H : Hp) (C : Addr) (cl : List (Str × Addr)) (fp : List Addr), PE (X.blk s H scope (compEnvC scope cl C X.env) fp) kx tk)
    (hv : ∀ (s : Shared) (H : Hp) (C : Addr) (cl : List (Str × Addr)) (fp : List Addr), PE (X.blk s H scope (compEnvC scope cl C X.env) fp) vx tv) (hs : ∀ x, foldedSetIterable iter X.env x = pure x := by intro _; rfl) :
    PE X (.DictComp kx vx [⟨tg, iter, [], 0⟩] scope pos) (tDcM X.K X.w wi g tk tv (own.map (·.2))) := by
  refine ⟨fun pins s σ H Q I h => ?_⟩
  rw [arm_eval_DictComp]
  refine dcM_core hu hc hN I hi ok hg hk hv hs h fun D C s' m H' I' q hn f => ⟨m, hn, fun h2 sb => ?_⟩
  obtain ⟨a0, a1, a2, a3, a4, a5⟩ := f
  exact ⟨.ref D, H', I'.turned (t' := s'.toks) (fun b o hb e => (sb.2 b hb).trans e) a0 a1 a3 a4 a5, rfl, q⟩
/-- name = {..} on one line, the name a local -/
theorem ps_setDcM {X : Cx} {i : Nat} {y : Str} {py : Pos} {kx vx tg iter : Expr} {scope : Scope} {own : List (Str × Nat)} {pos spos : Pos} {wi : TI} {g : TG} {tk tv : TE} (hu : X.A.units + 9 < cLine) (hc : X.calm = true) (hN : X.N.Nodup) (hy : X.N[i]? = some y) (hyl : X.env.scope.names.lookup y = some .local)
    (hsw : swapsWith (.DictComp kx vx [⟨tg, iter, [], 0⟩] scope pos) (some (.Name y py)) spos.line X.env = pure true) (hi : PI X tg iter wi) (ok : BlkOk X.N X.env.scope scope own)
    (hg : ∀ (s : Shared) (H : Hp) (C : Addr) (cl : List (Str × Addr)) (fp : List Addr), PG (X.blk s H scope (compEnvC scope cl C X.env) fp) tg g)
    (hk : ∀ (s : Shared) (H : Hp) (C : Addr) (cl : List (Str × Addr)) (fp : List Addr), PE (X.blk s H scope (compEnvC scope cl C X.env) fp) kx tk)
    (hv : ∀ (s : Shared) (H : Hp) (C : Addr) (cl : List (Str × Addr)) (fp : List Addr), PE (X.blk s H scope (compEnvC scope cl C X.env) fp) vx tv) (hs : ∀ x, foldedSetIterable iter X.env x = pure x := by intro _; rfl) :
    PS X (.Assign [.Name y py] (.DictComp kx vx [⟨tg, iter, [], 0⟩] scope pos) spos) (tAsg (tDcM X.K X.w wi g tk tv (own.map (·.2))) (gName i)) := by
  refine ⟨fun pins s σ H D I h => ?_⟩
  rw [exec_Assign_Name_used _ _ _ _ hsw]
  refine wpAny_bind (wpAny_standAt ?_)
  refine wpAny_bind ?_
  change wpAny _ X.A (do let _ ← comprehension (.DictComp kx vx [⟨tg, iter, [], 0⟩] scope pos) scope X.env (firstIterPos [⟨tg, iter, [], 0⟩] pos) newDict false (eval iter X.env) (some (assign (.Name y py) X.env))) _ _ s
  have h : tDcM X.K X.w wi g tk tv (own.map (·.2)) σ H (fun x H1 => gName i x σ H1 D.nx) := h
  refine wpAny_bind (thn (dcM_core (Qf := fun _ s' => SP X pins D .next s') hu hc hN I hi ok hg hk hv hs h fun L C s' m H' I' q hn f => ?_) fun _ s' hq => wpAny_pure (wpAny_pure hq))
  change wpAny _ _ (assign (.Name y py) X.env (.ref L)) _ _ _
  obtain ⟨c0, c1, c2, c3, c4, c5⟩ := f
  refine wpAny_assign_Name (store_ok2 I' hN hy (v := .ref L) (.inl hyl) rfl (fun s2 J ⟨at_, same, whose⟩ => ?_) (.inr hyl))
  have apart : C ≠ at_ := whose.elim (fun z => z ▸ c1) fun z e => c4 y at_ z e.symm
  exact ⟨m, hn.sameBut same apart, fun h3 sb => ⟨_, H', J.turned (t' := s2.toks) (fun b o nb g => (sb.2 b nb).trans g) c0 c1 c3 c4 c5, q⟩⟩
theorem sw_trueD {kx vx : Expr} {gs : List Comprehension} {scope : Scope} {pos py : Pos} {y : Str} {l : Nat} {env : Env} (hk : env.scope.kind = .function) (hy : env.scope.names.lookup y = some .local) (hl : (py.line == pos.line) = true)
    (ha : (scope.names.any fun (n, k) => n == y && (k == .local || k == .cell)) = false) : swapsWith (.DictComp kx vx gs scope pos) (some (.Name y py)) l env = pure true := by
  have block : env.blockKind = .function := by simp only [Env.blockKind, hk]; rfl
  have kind : env.kindOf y = some .local := hy
  simp only [swapsWith, block, kind, ha, Expr.pos, hl]
  rfl
end Fc
namespace Fc
open PySem L2 PyProof.Rows
theorem mem_putM {xs : List Ent} {k : NK} {kv v : V} {x : Ent} (h : x ∈ putM xs k kv v) : (x.1 = k ∧ x.2.1 = kv) ∨ ∃ y ∈ xs, x.1 = y.1 ∧ x.2.1 = y.2.1 := by
  unfold putM at h
  cases e : posM xs k with
  | none =>
    rw [e] at h
    rcases List.mem_append.mp h with h | h
    · exact .inr ⟨x, h, rfl, rfl⟩
    · rw [List.mem_singleton] at h
      subst h
      exact .inl ⟨rfl, rfl⟩
  | some i =>
    rw [e] at h
    obtain ⟨j, hj⟩ := List.mem_iff_getElem?.mp (show x ∈ xs.modify i _ from h)
    rw [List.getElem?_modify] at hj
    cases q : xs[j]? with
    | none => rw [q] at hj; cases hj
    | some y =>
      rw [q] at hj
      replace hj : (if i = j then (y.1, y.2.1, v) else y) = x := Option.some.inj hj
      refine .inr ⟨y, List.mem_of_getElem? q, ?_⟩
      by_cases w : i = j
      · rw [if_pos w] at hj; subst hj; exact ⟨rfl, rfl⟩
      · rw [if_neg w] at hj; subst hj; exact ⟨rfl, rfl⟩
theorem keysV_putM {K : PySem.W.Frag} {H : Hp} {xs : List Ent} {k : NK} {kv v : V} (h : ∀ x ∈ xs, KeyV K H x.1 x.2.1) (hk : KeyV K H k kv) : ∀ x ∈ putM xs k kv v, KeyV K H x.1 x.2.1 := by
  intro x hx
  rcases mem_putM hx with ⟨a, b⟩ | ⟨y, hy, a, b⟩
  · rw [a, b]; exact hk
  · rw [a, b]; exact h y hy
def mergeM (acc more : List Ent) : List Ent := more.foldl (fun a x => putM a x.1 x.2.1 x.2.2) acc
theorem keysV_mergeM {K : PySem.W.Frag} {H : Hp} : ∀ {more xs : List Ent}, (∀ x ∈ xs, KeyV K H x.1 x.2.1) → (∀ x ∈ more, KeyV K H x.1 x.2.1) → ∀ x ∈ mergeM xs more, KeyV K H x.1 x.2.1
  | [], _, h, _ => h
  | y :: more, _, h, h2 => keysV_mergeM (more := more) (keysV_putM h (h2 y List.mem_cons_self)) fun x hx => h2 x (List.mem_cons_of_mem _ hx)
/-- the keys, in the heap -/
def KeysH (h : Heap) (xs : List Ent) : Prop := ∀ x ∈ xs, ∀ u, RelV x.2.1 u → NestedIs h x.1 u ∧ x.1.depth ≤ 8
theorem KeysH.at {h h' : Heap} {xs : List Ent} (k : KeysH h xs) (t : ∀ a o vs n, h.get? a = some o → o.data = .seq vs n → h'.get? a = some o) : KeysH h' xs := fun x hx u r => ⟨NestedIs.at t _ _ (k x hx u r).1, (k x hx u r).2⟩
theorem KeysH.put {h : Heap} {xs : List Ent} {k : NK} {kv v : V} (q : KeysH h xs) (hk : ∀ u, RelV kv u → NestedIs h k u ∧ k.depth ≤ 8) : KeysH h (putM xs k kv v) := by
  intro x hx u r
  rcases mem_putM hx with ⟨a, b⟩ | ⟨y, hy, a, b⟩
  · rw [a]; rw [b] at r; exact hk u r
  · rw [a]; rw [b] at r; exact q y hy u r
theorem Ents.tab {w : World} {h : Heap} {xs : List Ent} {es : Array DictEntry} (ee : Ents w xs es) (nd : (keys xs).Nodup) (k : KeysH h xs) : Tab w h (keys xs) es := by
  refine ⟨by rw [ee.1, List.length_map], fun j hj => ?_, nd⟩
  have hx : j < xs.length := by rw [← ee.1]; exact hj
  obtain ⟨e1, e2, _⟩ := ee.2 j hj xs[j] (List.getElem?_eq_getElem hx)
  obtain ⟨n, d⟩ := k xs[j] (List.getElem_mem hx) _ e2
  exact ⟨xs[j].1, by rw [List.getElem?_map, List.getElem?_eq_getElem hx]; rfl, e1, n, d⟩
section
variable {P : Program} {w : World} {A : Around} {E : Value → Shared → Prop}
/-- the pairs of a list go into a table, one by one -/
theorem updM {R : Result → Shared → Prop} {S J l : Addr} {items : Array Value} {res : Value} (hu : A.units + 9 < cLine) (hh : A.handled = none) (hlJ : l ≠ J) (hSJ : S ≠ J) (hSl : S ≠ l) :
    ∀ (rest : List Ent) (i : Nat) (acc : List Ent) (ix : Int) (t : Tok) (s : Shared), items.size = i + rest.length → acc.length + rest.length ≤ sizeLine →
      (∀ (j : Nat) (x : Ent), rest[j]? = some x → ∃ (b : Addr) (u r : Value), items[i + j]? = some (.ref b) ∧ b ≠ S ∧ b ≠ J ∧ IsTup s.heap b #[u, r] ∧ RelV x.2.1 u ∧ RelV x.2.2 r) →
      KeysH s.heap acc → KeysH s.heap rest → s.heap.IsListIter J l i → s.heap.IsList l items → MDat w S acc s.heap →
      (∀ h' tk, MDat w S (mergeM acc rest) h' → (∀ b o, b ≠ S → b ≠ J → s.heap.get? b = some o → h'.get? b = some o) → R (.ok (.ret res)) { s with heap := h', toks := tk }) →
      codeAny (model P w) A (.builtin "dict.update.loop" ⟨[.ref S, .ref J, .int ix t, res], []⟩) R s
  | [], i, acc, ix, t, s, hsz, _, _, _, _, hit, hl, hm, hR => by
    refine codeAny_builtin ud_entry ?_
    rw [Around.under_plainId ud_plain _]
    change wpAny _ A.in1 (pyNext (.ref J) >>= _) _ _ s
    refine wpAny_bind (wpAny_pyNext_list_end (A := A.in1) hh hit hl (Array.getElem?_eq_none (Nat.le_of_eq hsz)) fun h' he => ?_)
    change wpAny _ A.in1 (Builtin.Dict.addKeywords S [] >>= _) _ _ _
    refine wpAny_bind (wpAny_pure (wpAny_pure ?_))
    obtain ⟨z1, z2, z3, o, es, ep, ho, r⟩ := hm
    exact hR h' s.toks ⟨z1, z2, z3, o, es, ep, he S o hSJ ho, r⟩ fun b o _ hb e => he b o hb e
  | x :: rest, i, acc, ix, t, s, hsz, hln, ht, hka, hkr, hit, hl, hm, hR => by
    obtain ⟨b, u, r, hb, hbS, hbJ, htup, r1, r2⟩ := ht 0 x rfl
    rw [List.length_cons] at hsz hln
    refine codeAny_builtin ud_entry ?_
    rw [Around.under_plainId ud_plain _]
    change wpAny _ A.in1 (pyNext (.ref J) >>= _) _ _ s
    have here : items[i]? = some (.ref b) := by simpa using hb
    refine wpAny_bind (wpAny_pyNext_list_item hit hl here fun h1 hit1 hs1 => ?_)
    have seq1 : ∀ a o vs n, s.heap.get? a = some o → o.data = .seq vs n → h1.get? a = some o := fun a o vs n e dt => hs1.extBut a o (by
      rintro rfl
      obtain ⟨o', e', _, d'⟩ := id hit
      rw [e] at e'
      cases e'
      rw [dt] at d'
      cases d') e
    have ht1 : IsTup h1 b #[u, r] := htup.extBut hs1.extBut hbJ
    obtain ⟨z1, z2, z3, oS, es, ep, hoS, cS, dS, ee⟩ := id hm
    have gS : h1.get? S = some oS := hs1.extBut S oS hSJ hoS
    have k1 : KeysH h1 acc := hka.at seq1
    have tyB : Shared.TypeIs { s with heap := h1 } (.ref b) "tuple" := ht1.typeIs
    obtain ⟨ob, gb, _, _, db⟩ := id ht1
    change wpAny _ A.in1 (holding [Value.ref b] _ >>= _) _ _ _
    refine wpAny_bind (wpAny_holding (wpAny_bind (wpAny_tryCatch ?_)))
    unfold Builtin.Dict.pairItems
    refine wpAny_bind (wpAny_typeOf tyB ?_)
    rw [if_pos (by decide)]
    refine wpAny_bind (wpAny_seqItems gb db (wpAny_pure ?_))
    change wpAny _ A.in1 (holding [u, r] (dictSet S u r)) _ _ _
    obtain ⟨nk, dk⟩ := hkr x List.mem_cons_self u r1
    refine wpAny_holding (dSet (s := { s with heap := h1 }) (by show A.units + 1 + 8 < cLine; omega) (ee.tab z3 k1) (NestedIs.at seq1 _ _ nk) dk gS cS dS (by rw [ee.1]; exact z1) fun h2 tk2 o2 ep2 hs2 e1 e2 e3 => ?_)
    replace hs2 : Heap.SameBut S h1 h2 := hs2
    have seq2 : ∀ a o vs n, h1.get? a = some o → o.data = .seq vs n → h2.get? a = some o := fun a o vs n e dt => hs2.extBut a o (by
      rintro rfl
      rw [gS] at e
      cases e
      rw [dt] at dS
      cases dS) e
    have seq12 : ∀ a o vs n, s.heap.get? a = some o → o.data = .seq vs n → h2.get? a = some o := fun a o vs n e dt => seq2 a o vs n (seq1 a o vs n e dt) dt
    have len := len_putM acc x.1 x.2.1 x.2.2
    refine wpAny_pure ⟨plainId_quiet ud_plain _, updM (items := items) hu hh hlJ hSJ hSl rest (i + 1) (putM acc x.1 x.2.1 x.2.2) (ix + 1) 0 _ (by omega) (by omega) (fun j y e => ?_) ?_ (KeysH.at (xs := rest) (fun y hy => hkr y (List.mem_cons_of_mem _ hy)) seq12) ?_ ?_ ?_ fun h' tk hd' k => ?_⟩
    · obtain ⟨b', u', r', q1, q2, q3, q4, q5, q6⟩ := ht (j + 1) y (by simpa using e)
      exact ⟨b', u', r', by rw [show i + 1 + j = i + (j + 1) by omega]; exact q1, q2, q3, (q4.extBut hs1.extBut q3).extBut hs2.extBut q2, q5, q6⟩
    · refine (hka.at seq12).put fun u' ru => ?_
      obtain ⟨a, b⟩ := hkr x List.mem_cons_self u' ru
      exact ⟨NestedIs.at seq12 _ _ a, b⟩
    · exact hit1.at fun o' e => hs2.extBut J o' (Ne.symm hSJ) e
    · exact (hl.extBut hs1.extBut hlJ).extBut hs2.extBut (Ne.symm hSl)
    · exact ⟨by omega, z2, nd_putM acc x.1 x.2.1 x.2.2 z3, o2, _, ep2, e1, e2, e3, ee.put x.1 r1 r2⟩
    · refine hR h' tk hd' fun c oc nS nJ e => k c oc nS nJ ?_
      exact hs2.extBut c oc nS (hs1.extBut c oc nJ e)
/-- dict(l), l a list of pairs -/
theorem dictPairs {s : Shared} {l : Addr} {ol : Obj} {items : Array Value} {n : Nat} {prs : List Ent} {Q : Value → Shared → Prop} (hu : A.units + 10 < cLine) (hh : A.handled = none) (hl : s.heap.get? l = some ol) (hc : ol.cls = .type "list") (hd : ol.dict = none)
    (hdat : ol.data = .seq items n) (hsz : items.size = prs.length) (hln : prs.length ≤ sizeLine) (hk : KeysH s.heap prs) (hb : sysModules < s.heap.objs.size)
    (ht : ∀ (j : Nat) (x : Ent), prs[j]? = some x → ∃ (b : Addr) (u r : Value), items[j]? = some (.ref b) ∧ IsTup s.heap b #[u, r] ∧ RelV x.2.1 u ∧ RelV x.2.2 r)
    (h : ∀ h' tk, MDat w s.heap.objs.size (mergeM [] prs) h' → (∀ b o, s.heap.get? b = some o → h'.get? b = some o) → Q (.ref s.heap.objs.size) { s with heap := h', toks := tk }) :
    wpAny (model P w) A (call (.type "dict") [.ref l]) Q E s := by
  refine callType_codes (Q₁ := fun v s₁ => v = .ref s.heap.objs.size ∧ s₁ = { s with heap := s.heap.push { cls := .type "dict", data := .dict #[] } }) PySem.F.kt_called_dict (PySem.F.kt_typeCall_dict_1 _) PySem.F.entry_dict_init (kt_code_dict_new _ ⟨rfl, rfl⟩) ?_
  rintro v s₁ ⟨e1, e2⟩
  subst e1 e2
  have gD : (s.heap.push { cls := .type "dict", data := .dict #[] }).get? s.heap.objs.size = some { cls := .type "dict", data := .dict #[] } := Heap.get?_push_size _ rfl
  have k0 : ∀ {b : Addr} {o : Obj}, s.heap.get? b = some o → (s.heap.push { cls := .type "dict", data := .dict #[] }).get? b = some o := fun e => Heap.get?_push_of_some _ e
  refine ⟨⟨_, gD, rfl⟩, PySem.F.args_dict_init_2 _ _, ?_⟩
  unfold Builtin.«dict.__init__»
  refine wpAny_bind ?_
  unfold Builtin.Dict.selfAndRest
  refine wpAny_bind (wpAny_notOrdered_dict ⟨_, gD, rfl⟩ (wpAny_pure ?_))
  change wpAny _ _ (Builtin.Dict.updateFrom "dict.__init__" s.heap.objs.size (.ref l) [] .none) _ _ _
  unfold Builtin.Dict.updateFrom
  have gl := k0 hl
  refine wpAny_bind (wpAny_typeOf (v := .ref l) (T := "list") ⟨ol, gl, hc⟩ ?_)
  rw [if_pos (by decide)]
  refine wpAny_bind (miss_list gl hc hdat hd hh fun h1 tk1 hk1 => ?_)
  have plain : (none : Option Value).isNone = true := rfl
  rw [if_pos plain]
  refine wpAny_bind (wpAny_rule ?_)
  have hl1 : h1.IsList l items := ⟨ol, hk1 l ol gl, hc, n, hdat⟩
  have gS : h1.get? s.heap.objs.size = some { cls := .type "dict", data := .dict #[] } := hk1 _ _ gD
  have lt1 : s.heap.objs.size < h1.objs.size := Heap.lt_size gS
  refine wpAny_bind (wpAny_pyIter_list hl1 ?_)
  generalize eh2 : h1.push { cls := .type "list_iterator", data := .fields #[.ref l, .int 0 0] } = h2
  have k2 : ∀ b o, h1.get? b = some o → h2.get? b = some o := fun b o e => by rw [← eh2]; exact Heap.get?_push_of_some _ e
  have k3 : ∀ b o, s.heap.get? b = some o → h2.get? b = some o := fun b o e => k2 _ _ (hk1 _ _ (k0 e))
  have lt : l < s.heap.objs.size := Heap.lt_size hl
  have fin := updM (P := P) (w := w) (A := A.in1) (R := wants (fun r s₂ => r = .none ∧ Q (.ref s.heap.objs.size) s₂) E) (S := s.heap.objs.size) (J := h1.objs.size) (l := l) (items := items) (res := Value.none) (by show A.units + 1 + 9 < cLine; omega) hh
    (Nat.ne_of_lt (Nat.lt_trans lt lt1)) (Nat.ne_of_lt lt1) (Nat.ne_of_gt lt) prs 0 [] 0 0 { s with heap := h2, toks := tk1 } (by rw [hsz, Nat.zero_add]) (by rw [List.length_nil, Nat.zero_add]; exact hln)
    (fun j x e => by
      obtain ⟨b, u, r, q1, q2, q3, q4⟩ := ht j x e
      exact ⟨b, u, r, by rw [Nat.zero_add]; exact q1, Nat.ne_of_lt q2.lt, Nat.ne_of_lt (Nat.lt_trans q2.lt lt1), q2.keeps fun c o z => k3 _ _ z, q3, q4⟩)
    (fun x hx => nomatch hx) (hk.at fun a o vs n e _ => k3 a o e) ⟨_, by rw [← eh2]; exact Heap.get?_push_size _ rfl, rfl, rfl⟩ (hl1.at fun o e => k2 _ _ e)
    ⟨Nat.zero_le _, beq_eq_false_iff_ne.mpr (Nat.ne_of_gt hb), List.nodup_nil, _, #[], 0, k2 _ _ gS, ⟨rfl, rfl, rfl⟩, rfl, rfl, fun j hj => absurd hj (Nat.not_lt_zero j)⟩
    (fun h' tk hd' k => ⟨rfl, h h' tk hd' fun b o e => k b o (Nat.ne_of_lt (Heap.lt_size e)) (Nat.ne_of_lt (Nat.lt_trans (Heap.lt_size e) lt1)) (k3 _ _ e)⟩)
  first
    | exact wpAny_pure ⟨plainId_quiet ud_plain _, fin⟩
    | exact wpAny_bind (wpAny_pure (wpAny_pure ⟨plainId_quiet ud_plain _, fin⟩))
end
section
variable {X : Cx}
/-- a pair of a list of pairs -/
def PairV (K : PySem.W.Frag) (H : Hp) (y : V) (x : Ent) : Prop := ∃ p, y = .ref p ∧ SqT K H p [x.2.1, x.2.2] ∧ KeyV K H x.1 x.2.1
theorem call_dictM (hu : X.A.units + 10 < cLine) (hcalm : X.calm = true) : CallR X (.type "dict") (fun xs H Q => ∃ (a : Addr) (ys : List V) (es : List Ent), xs = [.ref a] ∧ SqL X.K H a ys ∧ Paired (PairV X.K H) ys es ∧
    ∀ p, H p = none → Q (.ref p) (upd H p (MD X.w p (mergeM [] es)))) := by
  intro pins s σ H xs us Q I r ⟨a, ys, es, ex, hq, hp, q⟩
  subst ex
  obtain ⟨u, eu, rx⟩ := vals1 r
  subst eu
  obtain rfl : u = Value.ref a := rx
  obtain ⟨its, rv, ⟨o, n, ho, hc, hd, hdat⟩, hz⟩ := I.list hq
  have hl : ys.length = es.length := Paired.length hp
  have hkv : ∀ x ∈ es, KeyV X.K H x.1 x.2.1 := by
    clear rv hz hl q hdat hq
    induction hp with
    | nil => intro x hx; cases hx
    | cons h _ ih =>
      intro x hx
      rcases List.mem_cons.mp hx with e | hx
      · subst e; obtain ⟨_, _, _, z⟩ := h; exact z
      · exact ih x hx
  refine dictPairs (prs := es) hu (I.ok.hd hcalm) ho hc hd hdat (by rw [← hl, rv.length]; simp) (by rw [← hl]; exact hz) (fun x hx u ru => (hkv x hx).is I ru) I.big (fun j x e => ?_) fun h' tk md k => ?_
  · have hj : j < ys.length := by rw [hl]; exact (List.getElem?_eq_some_iff.mp e).1
    obtain ⟨x', e', p, ey, ht, _⟩ := paired_get hp (List.getElem?_eq_getElem hj)
    rw [e] at e'
    cases e'
    obtain ⟨uy, hy, ry⟩ := rv.get (List.getElem?_eq_getElem hj)
    rw [ey] at ry
    obtain rfl : uy = Value.ref p := ry
    obtain ⟨t2, rt, it, _⟩ := I.tuple ht
    obtain ⟨u1, u2, et, q1, q2⟩ := vals2 rt
    subst et
    exact ⟨p, u1, u2, by rw [List.getElem?_toArray]; exact hy, it, q1, q2⟩
  · exact ⟨.ref s.heap.objs.size, _, I.laid (t' := tk) k (Nat.le_refl _) md.ok, rfl, q _ (I.hok.fresh (Nat.le_refl _))⟩
/-! ### {} and written tables -/
def tDNewM (w : World) : TE := fun _ H Q => ∀ p, H p = none → Q (.ref p) (upd H p (MD w p []))
theorem pe_dnewM {pos : Pos} : PE X (.Dict [] [] pos) (tDNewM X.w) := ⟨fun pins s σ H Q I h =>
  wpAny_Dict_empty ⟨.ref s.heap.objs.size, _, I.laid (a := s.heap.objs.size) (o := MD X.w s.heap.objs.size []) (t' := s.toks) (fun _ _ q => Heap.get?_push_of_some _ q) (Nat.le_refl _) (md_empty s.heap I.big), rfl, h _ (I.hok.fresh (Nat.le_refl _))⟩⟩
def nkK : Key → NK
  | .inl i => .num i
  | .inr x => .text x
theorem nkK_inj {a b : Key} (h : nkK a = nkK b) : a = b := by
  cases a <;> cases b <;> cases h <;> rfl
def entK (kv : Key × V) : Ent := (nkK kv.1, kV kv.1, kv.2)
theorem hash_key {P : Program} {w : World} (k : Key) : (mixKind P w).hash k = (nkK k).hash w := by cases k <;> rfl
/-- a table of ints and texts, told as one of keys of all kinds -/
def tAsM (w : World) (te : TE) : TE := fun σ H Q => te σ H fun v H1 => ∃ p kvs, v = .ref p ∧ H1 p = some (.dK kvs) ∧ Q v (upd H1 p (MD w p (kvs.map entK)))
theorem pe_asM {e : Expr} {te : TE} (he : PE X e te) : PE X e (tAsM X.w te) := by
  refine ⟨fun pins s σ H Q I h => thn (he.run pins s σ H _ I h) fun u s1 ⟨v, H1, I1, rv, p, kvs, ev, hp, q⟩ => ?_⟩
  obtain ⟨z, sm, vs, kv, o, es, ep, ho, hc, hd, hk, hps, nd⟩ := (show ObjOk X.prog X.w H1 s1.heap p (.dK kvs) from I1.hok p _ hp)
  have ks : ∀ x ∈ es.toList, ∃ k, keyIs k x.key = true ∧ x.hash = (mixKind X.prog X.w).hash k := fun x hx => hk x (Array.mem_toList_iff.mp hx)
  have gen : ∀ (l : List DictEntry) (r : List (Key × Value)), Pairs (mixKind X.prog X.w) l r → (∀ x ∈ l, ∃ k, keyIs k x.key = true ∧ x.hash = (mixKind X.prog X.w).hash k) → ∀ (t : List (Key × V)), KV t r →
      l.length = t.length ∧ ∀ (j : Nat) (en : DictEntry) (x : Key × V), l[j]? = some en → t[j]? = some x → en.hash = (nkK x.1).hash X.w ∧ RelV (kV x.1) en.key ∧ RelV x.2 en.val := by
    intro l r hp
    induction hp with
    | nil => intro _ t ht; cases ht; exact ⟨rfl, fun j en x e => by simp at e⟩
    | @cons en kv l r h1 h2 _ ih =>
      intro hks t ht
      cases ht with
      | @cons x _ t _ hx ht =>
        obtain ⟨a, b⟩ := ih (fun y hy => hks y (List.mem_cons_of_mem _ hy)) t ht
        refine ⟨by rw [List.length_cons, List.length_cons, a], fun j en' x' e1 e2 => ?_⟩
        cases j with
        | zero =>
          cases e1
          cases e2
          obtain ⟨k, k1, k2⟩ := hks _ List.mem_cons_self
          have ek : k = kv.1 := (mixKind X.prog X.w).inj _ _ _ k1 h1
          refine ⟨?_, ?_, ?_⟩
          · rw [k2, ek, hx.1]; exact hash_key _
          · rw [hx.1]; exact relV_key h1
          · rw [h2]; exact hx.2
        | succ j => exact b j en' x' (by simpa using e1) (by simpa using e2)
  obtain ⟨len, at_⟩ := gen es.toList vs hps ks kvs kv
  have nd' : (keys (kvs.map entK)).Nodup := by
    have e : keys (kvs.map entK) = (kvs.map (·.1)).map nkK := by unfold keys; rw [List.map_map, List.map_map]; rfl
    rw [e, KV.keys kv]
    exact List.Pairwise.map nkK (fun a b ne e => ne (nkK_inj e)) nd
  have m : MDat X.w p (kvs.map entK) s1.heap := ⟨by rw [List.length_map]; exact z, sm, nd', o, es, ep, ho, hc, hd, by rw [List.length_map, ← len, Array.length_toList], fun j hj x e => by
    rw [List.getElem?_map] at e
    cases q : kvs[j]? with
    | none => rw [q] at e; cases e
    | some y =>
      rw [q] at e
      cases e
      have ej : es.toList[j]? = some es[j] := by rw [Array.getElem?_toList, Array.getElem?_eq_getElem hj]
      exact at_ j es[j] y ej q⟩
  refine ⟨v, _, I1.write (x := p) (e := p) (h' := s1.heap) (t' := s1.toks) (by rw [hp]; exact True.intro) (.inl rfl) (fun _ _ _ e => e) ⟨o, ho⟩ m.ok, rv, q⟩
end
end Fc
namespace Fc
open PySem L2 PyProof.Rows
/-- a def that is called where nothing is being shown (repr) -/
structure FnG (P : Program) (w : World) (K : PySem.W.Frag) (mg : Str → Option Value) (base : Heap) (k : Nat) (f : Addr) (fd : FuncData) (ps : List Str) (sp : Sp) : Prop where
  len : ∀ (vs : List V) (H : Hp) (Q : VK) (E : XK), sp vs H Q E → vs.length = ps.length
  run : ∀ (A : Around) (outer : List Env) (s : Shared) (H : Hp) (args : Args) (us : List Value) (vs : List V) (Q : VK) (E : XK), A.guards = some [] → Room k A → Env0 P w K mg base A outer s H → BindsTo s fd args (ps.zip us) → Vals vs us → sp vs H Q E →
    codeAny (model P w) A (.call (.ref f) args) (CR CX0 outer P w H s Q E) s
section
variable {K : PySem.W.Frag} {mg : Str → Option Value} {base : Heap} {P : Program} {w : World}
theorem okG {x qual : Str} {st : Stmt} {f : Addr} {fd : FuncData} {N ps : List Str} {k : Nat} {sp : Sp} (F : Fun K x qual st f fd) (S : FnScope N ps (defScope st)) (len : ∀ vs H Q E, sp vs H Q E → vs.length = ps.length)
    (body : ∀ (cdv : Value) (A : Around) (outer : List Env) (s : Shared) (H : Hp) (vs : List V) (Q : VK) (E : XK), A.guards = some [] → Room k (A.deeper (envOfC qual (defScope st) s.heap.objs.size f cdv)) → sp vs H Q E →
      ∃ t, PSs (cxOf CX0 P w K mg base N qual (defScope st) f cdv A outer s H E).nox (defBody st) t ∧ t { nx := fun _ H' => Q .non H', rt := Q } (start N vs) H) : FnG P w K mg base (k + 1) f fd ps sp := by
  obtain ⟨oc, od, kV, doc, pm, an, cdv, ct, osl, e, lk, hcd⟩ := F.ex
  subst e
  refine ⟨len, fun A outer s H args us vs Q E hgd hr e0 hb r hsp => ?_⟩
  have old : ∀ b o, base.get? b = some o → s.heap.get? b = some o := fun b o e => (e0.bs b o e).1
  have KX : K.In s.heap := e0.mod.kin.keeps old
  have par : ∀ y ∈ ps.zip us, (defScope st).names.lookup y.1 = some .local ∨ ((defScope st).names.lookup y.1 = some .cell ∧ ((cellsFrom (s.heap.objs.size + 1) (defScope st).names []).lookup y.1).isSome = true) := fun y hy =>
    (S.par y.1 (List.of_mem_zip (a := y.1) (b := y.2) hy).1).imp id fun q => ⟨q, PySem.W.cellsFrom_some _ _ _ (.inl q)⟩
  refine codeAny_call_function hr.depth (KX _ _ lk) rfl S.co S.gen rfl (PySem.W.codeRec_of KX hcd) (hb _ _ _ _ (wpAny_newFunctionEnv_cells S.kind par fun env he s1 z => ?_))
  subst he
  refine ⟨(e0.mod.nolimit.keeps old).keeps z.toInCall.keep, codeAny_func ?_⟩
  obtain ⟨t, ht, hq⟩ := body cdv A outer s H vs Q E hgd (hr.deeper _) hsp
  have I := inv_start (CX := CX0) (E := E) (cd := cdv) S hr.hd e0 (len _ _ _ _ hsp) r z
  refine wpAny_mono (ht.nox.run [] s1 (start N vs) H _ I hq) (fun fl s' hs => ?_) fun e s' hs => hs
  cases fl with
  | ret u => obtain ⟨v, σ', H', J, rv, q⟩ := hs; exact ⟨v, H', J.os, J.bare, J.base, J.hok, rv, q⟩
  | next => obtain ⟨σ', H', J, q⟩ := hs; exact ⟨.non, H', J.os, J.bare, J.base, J.hok, rfl, q⟩
  | brk => obtain ⟨_, _, _, q⟩ := hs; exact q.elim
  | cont => obtain ⟨_, _, _, q⟩ := hs; exact q.elim
end
section
variable {X : Cx} {f : Addr} {fd : FuncData} {ps : List Str} {sp : Sp} {k : Nat}
theorem pe_callG {x : Str} {p pos : Pos} {e : Expr} {es : List Expr} {t : TA} (F : FnG X.prog X.w X.K X.mg X.base k f fd ps sp) (hgd : X.A.guards = some []) (hr : Room k X.A) (hg : Gl X x) (hm : X.mg x = some (.ref f)) (hk : PySem.W.keepIn X.K (.ref f) = true) (hb : Binds X.K fd ps [])
    (ha : PA X (e :: es) t) (hdb : (x == ("__debug__" : Str)) = false := by decide) (st : starEach (e :: es) X.env = (false, eval e X.env) :: starEach es X.env := by rfl)
    (hpl : (backTo pos (starEach es X.env)).any (·.1) = false := by rfl) :
    PE X (.Call (.Name x p) (e :: es) [] pos) (tCall sp [] E0 t) := by
  refine ⟨fun pins s σ H Q I h => wpAny_Call_Name_kw (ld_glob I hg hm ?_ hdb)⟩
  have args := ha.run pos pins s σ H _ I h
  refine PySem.W.callWith_K (h₀ := X.base) I.ok.mod.kin hk (thn args fun us s1 ⟨vs, H1, I1, r, q⟩ => ⟨I1.kIn, ?_⟩) st hpl
  have q' : sp (vs ++ []) H1 Q E0 := q
  rw [List.append_nil] at q'
  have hl : us.length = ps.length := by rw [← r.length]; exact F.len _ _ _ _ q'
  have bd := hb s1 us I1.kIn (by rw [List.append_nil]; exact hl)
  rw [List.append_nil] at bd
  refine wpAny_call (codeAny_mono (F.run X.A X.stack s1 H1 ⟨us, []⟩ us vs Q E0 hgd hr I1.env0 bd r q') fun r s' hq => ?_)
  cases r with
  | error e => exact hq.elim
  | ok fl =>
    cases fl with
    | ret u => exact I1.after hq
    | next => exact hq.elim
    | brk => exact hq.elim
    | cont => exact hq.elim
end
/-! ### what is shown, and how long it is -/
mutual
/-- data without lists and dicts -/
def tupD : PyData → Bool
  | .none | .bool _ | .int _ | .str _ => true
  | .list _ | .dict _ => false
  | .tuple xs => tupDs xs
def tupDs : List PyData → Bool
  | [] => true
  | x :: xs => tupD x && tupDs xs
end
mutual
theorem reads_nil {h : Heap} : ∀ (d : PyData) (v : Value) (as : List Addr), Reads h v d as → tupD d = true → as = []
  | _, _, _, .none, _ => rfl
  | _, _, _, .bool _, _ => rfl
  | _, _, _, .int _ _, _ => rfl
  | _, _, _, .str _ _, _ => rfl
  | _, _, _, .list _ _ _ _, h => by simp [tupD] at h
  | _, _, _, .dict _ _ _ _ _, h => by simp [tupD] at h
  | .tuple ds, _, as, .tuple (vs := vs) _ _ _ r, h => readsAll_nil ds vs.toList as r (by simpa [tupD] using h)
theorem readsAll_nil {h : Heap} : ∀ (ds : List PyData) (vs : List Value) (as : List Addr), ReadsAll h vs ds as → tupDs ds = true → as = []
  | _, _, _, .nil, _ => rfl
  | d :: ds, _, _, .cons (v := v) (vs := vs) (as := as) (bs := bs) r t, h => by
    simp only [tupDs, Bool.and_eq_true] at h
    rw [reads_nil d v as r h.1, readsAll_nil ds vs bs t h.2]
    rfl
end
section
variable {X : Cx}
mutual
theorem Dp.noDict {K : PySem.W.Frag} {H : Hp} : ∀ (d : PyData) (v : V), Dp K H v d → d.hasDict = false
  | .none, _, _ => rfl
  | .bool _, _, _ => rfl
  | .int _, _, _ => rfl
  | .str _, _, _ => rfl
  | .list ds, _, h => by
    cases h with
    | lst _ a => simp only [PyData.hasDict]; exact DpAll.noDict ds _ a
  | .tuple ds, _, h => by
    cases h with
    | tup _ a => simp only [PyData.hasDict]; exact DpAll.noDict ds _ a
  | .dict _, _, h => by cases h
theorem DpAll.noDict {K : PySem.W.Frag} {H : Hp} : ∀ (ds : List PyData) (vs : List V), DpAll K H vs ds → PyData.hasDictAll ds = false
  | [], _, _ => rfl
  | d :: ds, _, h => by
    cases h with
    | cons a b => simp only [PyData.hasDictAll, Bool.or_eq_false_iff]; exact ⟨Dp.noDict d _ a, DpAll.noDict ds _ b⟩
end
/-- data, or a table of such -/
def DV (K : PySem.W.Frag) (w : World) (H : Hp) (v : V) (d : PyData) : Prop := Dp K H v d ∨ ∃ a xs kvs, v = .ref a ∧ TabAt K w H a xs ∧ d = .dict kvs ∧
  Paired (fun (x : Ent) (kv : PyData × PyData) => Dp K H x.2.1 kv.1 ∧ Dp K H x.2.2 kv.2 ∧ tupD kv.1 = true ∧ tupD kv.2 = true) xs kvs
/-- it can be shown, and what is shown is short -/
structure Shows (d : PyData) : Prop where
  show_ : d.showable = true
  leaves : d.leavesShort 2000 = true
  weight : d.weight ≤ 4000
  depth : d.depth ≤ 60
theorem Shows.fits {d : PyData} (h : Shows d) : d.shown.length ≤ sizeLine := by
  have q := PyData.shown_le 2000 (by decide) d h.leaves
  have w : (2000 + 2) * d.weight ≤ (2000 + 2) * 4000 := Nat.mul_le_mul (Nat.le_refl _) h.weight
  rw [sizeLine_eq]
  omega
theorem table_reads {pins : List (Addr × Obj)} {σ : L2.St} {H : Hp} {s : Shared} {a : Addr} {xs : List Ent} {kvs : List (PyData × PyData)} (I : Inv X pins σ H s) (t : TabAt X.K X.w H a xs)
    (p : Paired (fun (x : Ent) (kv : PyData × PyData) => Dp X.K H x.2.1 kv.1 ∧ Dp X.K H x.2.2 kv.2 ∧ tupD kv.1 = true ∧ tupD kv.2 = true) xs kvs) : Reads s.heap (.ref a) (.dict kvs) [a] ∧ a ≠ sysModules := by
  obtain ⟨z, sm, o, es, ep, ho, hc, hd, ee, _⟩ := t.get I
  have gen : ∀ (xs : List Ent) (kvs : List (PyData × PyData)) (l : List DictEntry), Paired (fun (x : Ent) (kv : PyData × PyData) => Dp X.K H x.2.1 kv.1 ∧ Dp X.K H x.2.2 kv.2 ∧ tupD kv.1 = true ∧ tupD kv.2 = true) xs kvs →
      l.length = xs.length → (∀ (j : Nat) (en : DictEntry) (x : Ent), l[j]? = some en → xs[j]? = some x → RelV x.2.1 en.key ∧ RelV x.2.2 en.val) → ReadsAll s.heap (l.map (·.key)) (kvs.map (·.1)) [] ∧ ReadsAll s.heap (l.map (·.val)) (kvs.map (·.2)) [] := by
    intro xs kvs l p
    induction p generalizing l with
    | nil => intro hl _; cases l with
      | nil => exact ⟨.nil, .nil⟩
      | cons _ _ => cases hl
    | cons h _ ih => intro hl r; cases l with
      | nil => cases hl
      | cons en l =>
        obtain ⟨r1, r2⟩ := r 0 en _ rfl rfl
        obtain ⟨q1, q2⟩ := ih l (by simpa using hl) fun j en x e1 e2 => r (j + 1) en x (by simpa using e1) (by simpa using e2)
        obtain ⟨as, ra⟩ := Dp.reads I _ _ _ h.1 r1
        obtain ⟨bs, rb⟩ := Dp.reads I _ _ _ h.2.1 r2
        obtain rfl := reads_nil _ _ _ ra h.2.2.1
        obtain rfl := reads_nil _ _ _ rb h.2.2.2
        exact ⟨.cons ra q1, .cons rb q2⟩
  obtain ⟨q1, q2⟩ := gen xs kvs es.toList p (by rw [Array.length_toList, ee.1]) fun j en x e1 e2 => by
    rw [Array.getElem?_toList] at e1
    obtain ⟨hj, e⟩ := Array.getElem?_eq_some_iff.mp e1
    obtain ⟨_, b, c⟩ := ee.2 j hj x e2
    rw [← e]
    exact ⟨b, c⟩
  exact ⟨Reads.dict ho hc.1 hd q1 q2, fun e => by rw [e] at sm; simp at sm⟩
/-- repr(v) -/
theorem call_reprD (hgd : X.A.guards = some []) (hu : X.A.units + 65 < cLine) : CallR X (.builtin "repr") (fun xs H Q => ∃ v d, xs = [v] ∧ DV X.K X.w H v d ∧ Shows d ∧ Q (.str d.shown) H) := by
  intro pins s σ H xs us Q I r ⟨v, d, ex, hd, S, q⟩
  subst ex
  obtain ⟨u, eu, rv⟩ := vals1 r
  subst eu
  have fin : ∀ {t : Tok} {s' : Shared}, Inv X pins σ H s' → EP X pins σ Q (.str d.shown t) s' := fun I' => ⟨.str d.shown, H, I', ⟨_, rfl⟩, q⟩
  have dep := S.depth
  rcases hd with hd | ⟨a, ys, kvs, ev, t, ed, p⟩
  · have nd := Dp.noDict d v hd
    obtain ⟨as, rd⟩ := Dp.reads I d v u hd rv
    cases hd with
    | non => cases (show u = Value.none from rv); exact P.repr_of_none (fin (I.tok _))
    | bl b => cases (show u = Value.bool b from rv); exact P.repr_of_bool (fin (I.tok _))
    | int i => obtain ⟨t, e⟩ := (show ∃ t, u = Value.int i t from rv); subst e; exact P.repr_of_int (by simpa [PyData.showable] using S.show_) (fin (I.tok _))
    | str x => obtain ⟨t, e⟩ := (show ∃ t, u = Value.str x t from rv); subst e; exact P.repr_of_str (fin (I.tok _)) S.fits
    | @lst a _ _ h1 h2 =>
      cases (show u = Value.ref a from rv)
      exact repr_of_reads' rd S.show_ (fun z => by rw [nd] at z; cases z) hgd (by omega) (fun _ _ e => e) (fun h' u tk k => fin (I.kept (t' := tk) k)) S.fits
    | @tup a _ _ h1 h2 =>
      cases (show u = Value.ref a from rv)
      exact repr_of_reads' rd S.show_ (fun z => by rw [nd] at z; cases z) hgd (by omega) (fun _ _ e => e) (fun h' u tk k => fin (I.kept (t' := tk) k)) S.fits
  · subst ev ed
    cases (show u = Value.ref a from rv)
    obtain ⟨rd, na⟩ := table_reads I t p
    exact repr_of_reads' rd S.show_ (fun _ z => na (List.mem_singleton.mp z).symm) hgd (by omega) (fun _ _ e => e) (fun h' u tk k => fin (I.kept (t' := tk) k)) S.fits
end
end Fc
namespace Fc
open PySem L2 PyProof.Rows
/-- the abstract heap at the law's beginning: the script alone, locked, or nothing -/
def startH (a : Addr) (vs : List Value) (ns : List Int) (t : Bool) : Hp := fun b => if b = a ∧ t = true then some (.frz { cls := .type "list", data := .seq vs.toArray } (.lst (ns.map V.int))) else none
theorem startH_some {a b : Addr} {vs : List Value} {ns : List Int} {t : Bool} {u : HO} (h : startH a vs ns t b = some u) : b = a ∧ t = true ∧ u = .frz { cls := .type "list", data := .seq vs.toArray } (.lst (ns.map V.int)) := by
  unfold startH at h
  by_cases c : b = a ∧ t = true
  · rw [if_pos c] at h; exact ⟨c.1, c.2, (Option.some.inj h).symm⟩
  · rw [if_neg c] at h; cases h
theorem lawG {P : Program} {w : World} {K : PySem.W.Frag} {mg mb : Str → Option Value} {k : Nat} {fa a : Addr} {fd : FuncData} {x : Str} {sp : Sp} {s₁ : Shared} {vs : List Value} {ns : List Int} (KX : K.In s₁.heap) (hns : s₁.heap.Ns mainGlobals mg) (hb : s₁.heap.Ns builtinsNs mb)
    (hbb : ∀ x : Str, x ≠ "__name__" → mb x = bootBuiltins x) (hlim : s₁.heap.NoLimit) (hg : s₁.gens = #[]) (ha : s₁.heap.get? a = some { cls := .type "list", data := .seq vs.toArray }) (hi : IntsAre vs ns) (hl : ns.length ≤ sizeLine) (hr : Room k callerA)
    (F : ∀ base : Heap, K.In base → base.Ns mainGlobals mg → FnG P w K mg base k fa fd [x] sp) (hbind : ∀ (s : Shared) (u : Value), BindsTo s fd ⟨[u], []⟩ [(x, u)])
    (hsp : ∀ H : Hp, Only H → SqL K H a (ns.map V.int) → sp [.ref a] H (fun v _ => v = .bl true) fun _ _ _ => False) :
    codeAny (model P w) callerA (.call (.ref fa) ⟨[.ref a], []⟩) (fun out z => out = .ok (.ret (.bool true)) ∧ OldK s₁.heap z.heap ∧ z.os = s₁.os ∧ AllBare z.gens) s₁ := by
  have rv := vals_of_ints hi
  -- whether the script is tracked: not if it is one of the module's own objects
  obtain ⟨t, ht⟩ : ∃ t : Bool, (t = true → K.lookup a = none) ∧ SqL K (startH a vs ns t) a (ns.map V.int) := by
    cases e : K.lookup a with
    | none => exact ⟨true, ⟨fun _ => rfl, .inl (.inr ⟨_, if_pos ⟨rfl, rfl⟩⟩)⟩⟩
    | some o =>
      have q := KX a o e
      rw [ha] at q
      cases q
      refine ⟨false, ⟨fun z => (nomatch z), .inr ⟨_, vs.toArray, _, e, rfl, rfl, rfl, ?_, by simpa using rv⟩⟩⟩
      have l := hi.length
      rw [List.size_toArray]
      omega
  obtain ⟨htr, hS⟩ := ht
  have hOnly : Only (startH a vs ns t) := fun b => by
    cases e : startH a vs ns t b with
    | none => exact .inl rfl
    | some u => obtain ⟨_, _, rfl⟩ := startH_some e; exact .inr ⟨_, _, rfl⟩
  have hok : HOk P w (startH a vs ns t) s₁.heap := fun b u e => by
    obtain ⟨rfl, _, rfl⟩ := startH_some e
    refine ⟨ha, ?_, vs, _, rv, ha⟩
    simpa using hl
  have keepB : ∀ {b : Addr} {o : Obj}, s₁.heap.get? b = some o → startH a vs ns t b = none → (hidT s₁.heap (startH a vs ns t)).get? b = some o := fun e n => hidT_get e n
  have nsK : ∀ {b : Addr} {m : Str → Option Value}, s₁.heap.Ns b m → (hidT s₁.heap (startH a vs ns t)).Ns b m := fun {b m} ⟨o, es, ep, e, d, r⟩ => ⟨o, es, ep, keepB e (by
    cases q : startH a vs ns t b with
    | none => rfl
    | some u =>
      obtain ⟨rfl, _, _⟩ := startH_some q
      rw [ha] at e
      cases e
      cases d), d, r⟩
  have hKb : K.In (hidT s₁.heap (startH a vs ns t)) := fun b o e => keepB (KX b o e) (by
    cases q : startH a vs ns t b with
    | none => rfl
    | some u =>
      obtain ⟨rfl, tt, _⟩ := startH_some q
      rw [htr tt] at e
      cases e)
  have hM : Mod K mg (hidT s₁.heap (startH a vs ns t)) := ⟨hKb, nsK hns, ⟨mb, nsK hb, hbb⟩, let ⟨mc, h1, h2⟩ := hlim; ⟨mc, nsK h1, h2⟩⟩
  have e0 : Env0 P w K mg (hidT s₁.heap (startH a vs ns t)) callerA [] s₁ (startH a vs ns t) :=
    ⟨rfl, hM, fun b o e => of_hidT e, Nat.le_of_eq (hidT_size _ _), trivial, fun b hb => absurd (show b ∈ ([] : List Addr) from hb) (by simp), hok, .of_eq hg⟩
  refine codeAny_mono ((F _ hKb (nsK hns)).run callerA [] s₁ _ ⟨[.ref a], []⟩ [.ref a] [.ref a] _ _ rfl hr e0 (hbind s₁ (.ref a)) (.cons rfl .nil) (hsp _ hOnly hS)) fun r s' h => ?_
  cases r with
  | error e => exact (show False from h).elim
  | ok fl =>
    cases fl with
    | next => exact (show False from h).elim
    | brk => exact (show False from h).elim
    | cont => exact (show False from h).elim
    | ret u =>
      obtain ⟨v, H', os, bare, un, hok', r', q⟩ := h
      obtain rfl : v = .bl true := q
      obtain rfl : u = Value.bool true := r'
      have bare_ : ∀ b : Addr, b ∉ ([] : List Addr) := fun _ => List.not_mem_nil
      refine ⟨rfl, .of_keep (fun b o e => ?_), os, bare⟩
      cases q : startH a vs ns t b with
      | none => exact un.keep b o e q (bare_ b) (bare_ b)
      | some u =>
        obtain ⟨rfl, _, rfl⟩ := startH_some q
        have z := un.frzs _ _ _ q
        obtain ⟨e2, _⟩ := hok' _ _ z
        rw [ha] at e
        cases e
        exact e2
theorem walkG {l : PySem.W.OpenLaw} {n k : Nat} {q : Program} {loose : List Str} {XP : (Str → Option Value) → Heap → Prop} {YP : World → Heap → Prop} {d : DefRec} {K : Params → PySem.W.Frag} {sp : PySem.W.Frag → Sp} {x : Str} (hn : l.most = some n) (hn2 : n ≤ sizeLine) (hdf : d.params.defaults = [])
    (hr : Room k callerA) (hY : ∀ (w : World) (h : Heap), YP w h → (K w.params).In h)
    (made : ∀ (w : World) (names : Str → Option Value) (at_ : Addr) (h : Heap), (K w.params).In h → h.Ns mainGlobals names → names d.name = some (.ref at_) →
      ∃ fd : FuncData, (∀ (s : Shared) (u : Value), BindsTo s fd ⟨[u], []⟩ [(x, u)]) ∧ ∀ base : Heap, (K w.params).In base → base.Ns mainGlobals names → FnG l.prog w (K w.params) names base k at_ fd [x] (sp (K w.params)))
    (hsp : ∀ (K : PySem.W.Frag) (H : Hp) (a : Addr) (ns : List Int), ns.length ≤ n → Only H → SqL K H a (ns.map V.int) → sp K [.ref a] H (fun v _ => v = .bl true) fun _ _ _ => False) : PySem.W.WalkO q loose XP YP l.row.toRowW d [] (fun f vs => PySem.call f vs) :=
  Att.attach_call hn hdf fun w _ s names _ at_ _ _ _ _ a vs ns G Y _ _ _ here obj whole short bare =>
    let KX := hY w _ Y
    let ⟨_, bind, F⟩ := made w names at_ _ KX G.T.g here
    lawG KX G.T.g G.T.b G.T.builtins G.T.nolimit bare obj whole (Nat.le_trans short hn2) hr F bind fun H only sq => hsp _ H a ns short only sq
end Fc
namespace Fc
open PySem L2 PyProof.Rows
/-! ### keys as data -/
inductive Kd where
  | w (x : Str) | c (a b : Str) (i : Int) | cb (a b : Str) (t : Bool) | n (i : Int) | no
  deriving DecidableEq
def nk : Kd → NK
  | .w x => .text x
  | .c a b i => .tup [.text a, .text b, .num i]
  | .cb a b t => .tup [.text a, .text b, .num (if t = true then 1 else 0)]
  | .n i => .num i
  | .no => .none
def pd : Kd → PyData
  | .w x => .str x
  | .c a b i => .tuple [.str a, .str b, .int i]
  | .cb a b t => .tuple [.str a, .str b, .bool t]
  | .n i => .int i
  | .no => .none
def KdV (K : PySem.W.Frag) (H : Hp) : Kd → V → Prop
  | .w x, v => v = .str x
  | .c a b i, v => ∃ t, v = .ref t ∧ SqT K H t [.str a, .str b, .int i]
  | .cb a b z, v => ∃ t, v = .ref t ∧ SqT K H t [.str a, .str b, .bl z]
  | .n i, v => v = .int i
  | .no, v => v = .non
theorem KdV.mono {K : PySem.W.Frag} {H H' : Hp} {k : Kd} {v : V} (t : Tups K H H') (h : KdV K H k v) : KdV K H' k v := by
  cases k with
  | w x => exact h
  | c a b i => obtain ⟨p, e, s⟩ := h; exact ⟨p, e, t _ _ s⟩
  | cb a b i => obtain ⟨p, e, s⟩ := h; exact ⟨p, e, t _ _ s⟩
  | n i => exact h
  | no => exact h
theorem KdV.key {K : PySem.W.Frag} {H : Hp} {k : Kd} {v : V} (h : KdV K H k v) : KeyV K H (nk k) v := by
  cases k with
  | w x => cases h; exact .inl (.text x)
  | c a b i => obtain ⟨p, rfl, s⟩ := h; exact .inr ⟨p, _, _, rfl, s, rfl, .cons (.text a) (.cons (.text b) (.cons (.num i) .nil))⟩
  | cb a b z => obtain ⟨p, rfl, s⟩ := h; exact .inr ⟨p, _, _, rfl, s, rfl, .cons (.text a) (.cons (.text b) (.cons (.bl z) .nil))⟩
  | n i => cases h; exact .inl (.num i)
  | no => cases h; exact .inl .non
theorem KdV.dp {K : PySem.W.Frag} {H : Hp} {k : Kd} {v : V} (h : KdV K H k v) : Dp K H v (pd k) := by
  cases k with
  | w x => cases h; exact .str x
  | c a b i => obtain ⟨p, rfl, s⟩ := h; exact .tup s (.cons (.str a) (.cons (.str b) (.cons (.int i) .nil)))
  | cb a b z => obtain ⟨p, rfl, s⟩ := h; exact .tup s (.cons (.str a) (.cons (.str b) (.cons (.bl z) .nil)))
  | n i => cases h; exact .int i
  | no => cases h; exact .non
theorem pd_tup (k : Kd) : tupD (pd k) = true := by cases k <;> rfl
/-! ### tables as lists of keys and values -/
def TabR (K : PySem.W.Frag) (H : Hp) (b : Kd × V) (x : Ent) : Prop := x.1 = nk b.1 ∧ KdV K H b.1 x.2.1 ∧ x.2.2 = b.2
/-- at D a table of the keys and values B -/
def TabIs (K : PySem.W.Frag) (w : World) (H : Hp) (D : Addr) (B : List (Kd × V)) : Prop := ∃ xs, H D = some (MD w D xs) ∧ Paired (TabR K H) B xs
theorem tabR_mono {K : PySem.W.Frag} {H H' : Hp} (t : Tups K H H') {B : List (Kd × V)} {xs : List Ent} (p : Paired (TabR K H) B xs) : Paired (TabR K H') B xs := Paired.mapP p fun b x h => ⟨h.1, h.2.1.mono t, h.2.2⟩
theorem tabR_keys {K : PySem.W.Frag} {H : Hp} {B : List (Kd × V)} {xs : List Ent} (p : Paired (TabR K H) B xs) : ∀ x ∈ xs, KeyV K H x.1 x.2.1 := by
  induction p with
  | nil => intro x hx; cases hx
  | cons h _ ih =>
    intro x hx
    rcases List.mem_cons.mp hx with e | hx
    · subst e; rw [h.1]; exact h.2.1.key
    · exact ih x hx
def lookN (B : List (Kd × V)) (k : Kd) : Option V := (B.find? fun e => decide (nk e.1 = nk k)).map (·.2)
def putN : List (Kd × V) → Kd → V → List (Kd × V)
  | [], k, v => [(k, v)]
  | (a, u) :: r, k, v => if nk a = nk k then (a, v) :: r else (a, u) :: putN r k v
theorem posK_cons (x : NK) (ks : List NK) (k : NK) : posK (x :: ks) k = if x = k then some 0 else (posK ks k).map (· + 1) := by
  unfold posK
  rw [List.findIdx?_cons]
  by_cases e : x = k
  · simp [e]
  · simp [e]
theorem valM_cons (x : Ent) (xs : List Ent) (k : NK) : valM (x :: xs) k = if x.1 = k then some x.2.2 else valM xs k := by
  unfold valM posM
  rw [show keys (x :: xs) = x.1 :: keys xs from rfl, posK_cons]
  by_cases e : x.1 = k
  · rw [if_pos e, if_pos e]; rfl
  · rw [if_neg e, if_neg e]
    cases posK (keys xs) k with
    | none => rfl
    | some i => rfl
theorem putM_cons (x : Ent) (xs : List Ent) (k : NK) (kv v : V) : putM (x :: xs) k kv v = if x.1 = k then (x.1, x.2.1, v) :: xs else x :: putM xs k kv v := by
  unfold putM posM
  rw [show keys (x :: xs) = x.1 :: keys xs from rfl, posK_cons]
  by_cases e : x.1 = k
  · rw [if_pos e, if_pos e]; rfl
  · rw [if_neg e, if_neg e]
    cases posK (keys xs) k with
    | none => rfl
    | some i => rfl
theorem tabR_val {K : PySem.W.Frag} {H : Hp} {B : List (Kd × V)} {xs : List Ent} (p : Paired (TabR K H) B xs) (k : Kd) : valM xs (nk k) = lookN B k := by
  induction p with
  | nil => rfl
  | @cons b x B xs h _ ih =>
    rw [valM_cons, h.1, ih, h.2.2]
    unfold lookN
    rw [List.find?_cons]
    by_cases e : nk b.1 = nk k <;> simp [e]
theorem tabR_put {K : PySem.W.Frag} {H : Hp} {k : Kd} {kv v : V} (hk : KdV K H k kv) {B : List (Kd × V)} {xs : List Ent} (p : Paired (TabR K H) B xs) : Paired (TabR K H) (putN B k v) (putM xs (nk k) kv v) := by
  induction p with
  | nil => exact .cons ⟨rfl, hk, rfl⟩ .nil
  | @cons b x B xs h t ih =>
    rw [putM_cons, h.1]
    unfold putN
    by_cases e : nk b.1 = nk k
    · rw [if_pos e, if_pos e]; exact .cons ⟨rfl, h.2.1, rfl⟩ t
    · rw [if_neg e, if_neg e]; exact .cons h ih
theorem TabIs.at {K : PySem.W.Frag} {w : World} {H : Hp} {D : Addr} {B : List (Kd × V)} (t : TabIs K w H D B) : ∃ xs, TabAt K w H D xs ∧ Paired (TabR K H) B xs := let ⟨xs, h, p⟩ := t; ⟨xs, ⟨.inl h, tabR_keys p⟩, p⟩
theorem TabIs.mono {K : PySem.W.Frag} {w : World} {H H' : Hp} {D : Addr} {B : List (Kd × V)} (t : TabIs K w H D B) (tp : Tups K H H') (e : H' D = H D) : TabIs K w H' D B := let ⟨xs, h, p⟩ := t; ⟨xs, e.trans h, tabR_mono tp p⟩
theorem TabIs.same {K : PySem.W.Frag} {w : World} {H H' : Hp} {D : Addr} {B : List (Kd × V)} (t : TabIs K w H D B) (s : Same H H') : TabIs K w H' D B := let ⟨xs, h, p⟩ := t; ⟨xs, s _ _ h, tabR_mono (.same s) p⟩
theorem len_putN (B : List (Kd × V)) (k : Kd) (v : V) : (putN B k v).length ≤ B.length + 1 := by
  induction B with
  | nil => exact Nat.le_refl _
  | cons b B ih =>
    unfold putN
    by_cases e : nk b.1 = nk k
    · rw [if_pos e]; simp
    · rw [if_neg e]; simp only [List.length_cons]; omega
/-! ### the kinds of data -/
def tyName : PyData → String
  | .none => "NoneType" | .bool _ => "bool" | .int _ => "int" | .str _ => "str" | .list _ => "list" | .tuple _ => "tuple" | .dict _ => "dict"
theorem dp_ty {K : PySem.W.Frag} {H : Hp} {v : V} {d : PyData} (h : Dp K H v d) : TyX K H v (.type (tyName d)) := by
  cases h with
  | non => exact .base .non
  | bl b => exact .base (.bl b)
  | int i => exact .base (.int i)
  | str x => exact .base (.str x)
  | lst s _ =>
    rcases s with (s | ⟨o, s⟩) | ⟨o, its, n, e, c, _⟩
    · exact .base (.lst s)
    · exact .base (.frz s)
    · exact .kList e c
  | tup s _ =>
    rcases s with (s | ⟨o, s⟩) | ⟨o, its, n, e, c, _⟩
    · exact .base (.tup s)
    · exact .fTuple s
    · exact .kTuple e c
/-- isinstance(d, T) -/
def isTy (d : PyData) (T : String) : Bool := tyName d == T || (tyName d == "bool" && T == "int")
theorem kit_isTy (d : PyData) (T : String) (hT : T = "int" ∨ T = "bool" ∨ T = "str" ∨ T = "tuple" ∨ T = "dict" ∨ T = "list") : kitB (tyName d) T = some (isTy d T) := by
  have go : ∀ a ∈ ["NoneType", "bool", "int", "str", "list", "tuple", "dict"], ∀ T ∈ ["int", "bool", "str", "tuple", "dict", "list"], kitB a T = some (a == T || (a == "bool" && T == "int")) := by decide +kernel
  refine go (tyName d) ?_ T ?_
  · cases d <;> simp [tyName]
  · rcases hT with h | h | h | h | h | h <;> simp [h]
section
variable {X : Cx}
theorem call_isiD : CallR X (.builtin "isinstance") (fun xs H Q => ∃ v d T, xs = [v, .ty T] ∧ DV X.K X.w H v d ∧ (T = "int" ∨ T = "bool" ∨ T = "str" ∨ T = "tuple" ∨ T = "dict" ∨ T = "list") ∧ Q (.bl (isTy d T)) H) := by
  intro pins s σ H xs us Q I r ⟨v, d, T, ex, hd, hT, q⟩
  rcases hd with hd | ⟨a, ys, kvs, ev, t, ed, _⟩
  · exact call_isi pins s σ H xs us Q I r ⟨v, .ty T, _, _, isTy d T, ex, .ty T, dp_ty hd, kit_ty (kit_isTy d T hT), q⟩
  · subst ed ev
    exact call_isiM pins s σ H xs us Q I r ⟨a, ys, .ty T, _, isTy (.dict kvs) T, ex, .ty T, t, kit_ty (kit_isTy (.dict kvs) T hT), q⟩
theorem op_powW : OpR X (binaryOp .Pow) (rI (fun i j => 0 ≤ j ∧ (Builtin.Int.intBits i : Int) * j ≤ 2 ^ 27) fun i j => .int (i ^ j.toNat)) := opI fun _ _ _ _ _ _ _ hc q => pow_int hc.1 hc.2 q
end
/-- a def of the top, by its name and promise -/
structure Cal (P : Program) (w : World) (K : PySem.W.Frag) (mg : Str → Option Value) (base : Heap) (k : Nat) (x : Str) (sp : Sp) : Prop where
  at_ : ∃ (f : Addr) (fd : FuncData) (ps : List Str), FnOk P w K mg base CX0 k f fd ps sp ∧ mg x = some (.ref f) ∧ PySem.W.keepIn K (.ref f) = true ∧ Binds K fd ps []
def tCal (sp : Sp) (t : TA) : TE := fun σ H Q => t σ H fun vs H1 => sp vs H1 Q E0
theorem pe_c {X : Cx} {k j : Nat} {x : Str} {sp : Sp} {p pos : Pos} {e : Expr} {es : List Expr} {t : TA} (c : Cal X.prog X.w X.K X.mg X.base k x sp) (hr : Room j X.A) (hk : k ≤ j) (hg : Gl X x) (ha : PA X (e :: es) t) (hdb : (x == ("__debug__" : Str)) = false := by decide)
    (he : starEach (e :: es) X.env = (false, eval e X.env) :: starEach es X.env := by rfl) (hpl : (backTo pos (starEach es X.env)).any (·.1) = false := by rfl) : PE X (.Call (.Name x p) (e :: es) [] pos) (tCal sp t) := by
  obtain ⟨f, fd, ps, F, hm, kp, b⟩ := c.at_
  have q := pe_call (p := p) (pos := pos) F (hr.mono hk) hg hm kp b .nil pass0 ha hdb he hpl
  refine ⟨fun pins s σ H Q I h => q.run pins s σ H Q I ?_⟩
  have e : tCall sp [] E0 t = tCal sp t := by funext σ H Q; unfold tCall tCal; simp only [List.append_nil]
  rw [e]
  exact h
theorem hu70 {A : Around} {k : Nat} (hr : Room k A) : A.units + 70 < cLine := by have := hr.un; omega
end Fc
namespace Fc
open PySem L2
/-- an iterator of n items, item by item, where G stands -/
structure Steady (J : It) (n : Nat) (it : Nat → V) (G : Hp → Prop) : Prop where
  go : ∀ i H, G H → i < n → J.go i H
  stop : ∀ H, G H → J.stop n H
  yld : ∀ i H x H', G H → i < n → J.yld i H x H' → H' = H ∧ x = it i
theorem for_steady {J : It} {n : Nat} {it : Nat → V} {G : Hp → Prop} (S : Steady J n it G) {g : TG} {tb : TS} {D : Ends} {σ : L2.St} {H : Hp} (Pv : Nat → L2.St → Hp → Prop) (h0 : Pv 0 σ H) (hl : ∀ i σ H, i ≤ n → Pv i σ H → G H)
    (hs : ∀ i σ H, i < n → Pv i σ H → g (it i) σ H fun σ2 H2 => tb { D with nx := Pv (i + 1), ct := Pv (i + 1), bk := D.nx } σ2 H2) (hd : ∀ σ H, Pv n σ H → D.nx σ H) :
    ∃ W : Nat → Nat → L2.St → Hp → Prop, (∃ m, W 0 m σ H) ∧ ∀ i m σ H, W i m σ H → (J.stop i H ∧ D.nx σ H) ∨
      (J.go i H ∧ ∃ N : L2.St → Hp → Prop, (∀ σ' H', N σ' H' → ∃ m', m' < m ∧ W (i + 1) m' σ' H') ∧ ∀ x H', J.yld i H x H' → g x σ H' fun σ2 H2 => tb { D with nx := N, ct := N, bk := D.nx } σ2 H2) := by
  refine ⟨fun i m σ H => m + i = n ∧ Pv i σ H, ⟨n, rfl, h0⟩, fun i m σ H ⟨e, p⟩ => ?_⟩
  by_cases c : i = n
  · subst c
    exact .inl ⟨S.stop _ (hl _ _ _ (Nat.le_refl _) p), hd _ _ p⟩
  · have lt : i < n := by omega
    have q := hl i σ H (Nat.le_of_lt lt) p
    refine .inr ⟨S.go i H q lt, Pv (i + 1), fun σ' H' p' => ⟨m - 1, by omega, by omega, p'⟩, fun x H' y => ?_⟩
    obtain ⟨e1, e2⟩ := S.yld i H x H' q lt y
    rw [e1, e2]
    exact hs i σ H lt p
theorem lc_steady {J : It} {n : Nat} {it : Nat → V} {G : Hp → Prop} (S : Steady J n it G) {g : TG} {tt : TT} {te : TE} {vs : List Nat} {σ : L2.St} {H1 : Hp} {D : Addr} {Qd : Hp → Prop} (Pv : Nat → Hp → Prop) (h0 : Pv 0 (upd H1 D (.lst []))) (hl : ∀ i H, i ≤ n → Pv i H → G H)
    (hs : ∀ i H, i < n → Pv i H → g (it i) (wipe σ vs) H fun σ2 H2 => wipe σ2 vs = wipe σ vs ∧ tt σ2 H2 fun b H3 => if b = true then te σ2 H3 fun y H4 => ∃ acc, H4 D = some (.lst acc) ∧ acc.length < sizeLine ∧ Pv (i + 1) (upd H4 D (.lst (acc ++ [y]))) else Pv (i + 1) H3)
    (hd : ∀ H, Pv n H → Qd H) : ∃ W : Nat → Nat → Hp → Prop, (∃ m, W 0 m (upd H1 D (.lst []))) ∧ ∀ i m H, W i m H → (J.stop i H ∧ Qd H) ∨
      (J.go i H ∧ ∃ Nx : Hp → Prop, (∀ H', Nx H' → ∃ m', m' < m ∧ W (i + 1) m' H') ∧ ∀ x H', J.yld i H x H' → g x (wipe σ vs) H' fun σ2 H2 => wipe σ2 vs = wipe σ vs ∧ tt σ2 H2 fun b H3 =>
        if b = true then te σ2 H3 fun y H4 => ∃ acc, H4 D = some (.lst acc) ∧ acc.length < sizeLine ∧ Nx (upd H4 D (.lst (acc ++ [y]))) else Nx H3) := by
  refine ⟨fun i m H => m + i = n ∧ Pv i H, ⟨n, rfl, h0⟩, fun i m H ⟨e, p⟩ => ?_⟩
  by_cases c : i = n
  · subst c
    exact .inl ⟨S.stop _ (hl _ _ (Nat.le_refl _) p), hd _ p⟩
  · have lt : i < n := by omega
    have q := hl i H (Nat.le_of_lt lt) p
    refine .inr ⟨S.go i H q lt, Pv (i + 1), fun H' p' => ⟨m - 1, by omega, by omega, p'⟩, fun x H' y => ?_⟩
    obtain ⟨e1, e2⟩ := S.yld i H x H' q lt y
    rw [e1, e2]
    exact hs i H lt p
theorem dc_steady {K : PySem.W.Frag} {w : World} {J : It} {n : Nat} {it : Nat → V} {G : Hp → Prop} (S : Steady J n it G) {g : TG} {tk tv : TE} {vs : List Nat} {σ : L2.St} {H1 : Hp} {D : Addr} {Qd : Hp → Prop} (Pv : Nat → Hp → Prop) (h0 : Pv 0 (upd H1 D (MD w D []))) (hl : ∀ i H, i ≤ n → Pv i H → G H)
    (hs : ∀ i H, i < n → Pv i H → g (it i) (wipe σ vs) H fun σ2 H2 => wipe σ2 vs = wipe σ vs ∧ tk σ2 H2 fun y H4 => tv σ2 H4 fun z H5 => ∃ xs k, H5 D = some (MD w D xs) ∧ (∀ x ∈ xs, KeyV K H5 x.1 x.2.1) ∧ KeyV K H5 k y ∧ xs.length < sizeLine ∧ Pv (i + 1) (upd H5 D (MD w D (putM xs k y z))))
    (hd : ∀ H, Pv n H → Qd H) : ∃ W : Nat → Nat → Hp → Prop, (∃ m, W 0 m (upd H1 D (MD w D []))) ∧ ∀ i m H, W i m H → (J.stop i H ∧ Qd H) ∨
      (J.go i H ∧ ∃ Nx : Hp → Prop, (∀ H', Nx H' → ∃ m', m' < m ∧ W (i + 1) m' H') ∧ ∀ x H', J.yld i H x H' → g x (wipe σ vs) H' fun σ2 H2 => wipe σ2 vs = wipe σ vs ∧
        tk σ2 H2 fun y H4 => tv σ2 H4 fun z H5 => ∃ xs k, H5 D = some (MD w D xs) ∧ (∀ x ∈ xs, KeyV K H5 x.1 x.2.1) ∧ KeyV K H5 k y ∧ xs.length < sizeLine ∧ Nx (upd H5 D (MD w D (putM xs k y z)))) := by
  refine ⟨fun i m H => m + i = n ∧ Pv i H, ⟨n, rfl, h0⟩, fun i m H ⟨e, p⟩ => ?_⟩
  by_cases c : i = n
  · subst c
    exact .inl ⟨S.stop _ (hl _ _ (Nat.le_refl _) p), hd _ p⟩
  · have lt : i < n := by omega
    have q := hl i H (Nat.le_of_lt lt) p
    refine .inr ⟨S.go i H q lt, Pv (i + 1), fun H' p' => ⟨m - 1, by omega, by omega, p'⟩, fun x H' y => ?_⟩
    obtain ⟨e1, e2⟩ := S.yld i H x H' q lt y
    rw [e1, e2]
    exact hs i H lt p
/-! the iterators that we have -/
theorem steady_list {K : PySem.W.Frag} {a : Addr} {xs : List V} : Steady (Itl K a) xs.length (fun i => xs.getD i .non) (fun H => SqL K H a xs) where
  go := fun i H q lt => ⟨xs, xs[i], q, List.getElem?_eq_getElem lt⟩
  stop := fun H q => ⟨xs, q, Nat.le_refl _⟩
  yld := fun i H x H' q lt y => ⟨y.1, by
    have e := y.2 xs q
    rw [List.getD_eq_getElem?_getD, e]; rfl⟩
theorem steady_tup {K : PySem.W.Frag} {a : Addr} {xs : List V} : Steady (Itt K a) xs.length (fun i => xs.getD i .non) (fun H => SqT K H a xs) where
  go := fun i H q lt => ⟨xs, xs[i], q, List.getElem?_eq_getElem lt⟩
  stop := fun H q => ⟨xs, q, Nat.le_refl _⟩
  yld := fun i H x H' q lt y => ⟨y.1, by
    have e := y.2 xs q
    rw [List.getD_eq_getElem?_getD, e]; rfl⟩
theorem steady_str {x : Str} : Steady (Its x) x.cps.size (fun i => .str ⟨#[x.cps.getD i 0]⟩) (fun _ => True) where
  go := fun i H q lt => lt
  stop := fun H q => Nat.le_refl _
  yld := fun i H v H' q lt y => ⟨y.1, by
    obtain ⟨c, e, ev⟩ := y.2
    rw [ev, Array.getD_eq_getD_getElem?, e]; rfl⟩
theorem steady_key {w : World} {d : Addr} {o : Obj} {xs : List Ent} : Steady (ItM w d o xs) xs.length (fun i => (xs.map (·.2.1)).getD i .non) (fun H => H d = some (.frz o (MD w d xs))) where
  go := fun i H q lt => ⟨q, lt⟩
  stop := fun H q => ⟨q, Nat.le_refl _⟩
  yld := fun i H v H' q lt y => ⟨y.1, by
    obtain ⟨e, he, ev⟩ := y.2
    rw [ev, List.getD_eq_getElem?_getD, List.getElem?_map, he]; rfl⟩
end Fc
namespace Fc
open PySem L2 PyProof.Rows
def topS (i : Nat) : Stmt := PySem.Challenge.pw_forkcells_k10_near_rings_and_numbers.main.body.getD i (.Pass ⟨0, 0, 0, 0⟩)
/-- the built-ins are not hidden -/
structure Blt (mg : Str → Option Value) : Prop where
  isinstance : mg "isinstance" = none
  int : mg "int" = none
  bool : mg "bool" = none
  str : mg "str" = none
  tuple : mg "tuple" = none
  dict : mg "dict" = none
  list : mg "list" = none
  len : mg "len" = none
  abs : mg "abs" = none
  range : mg "range" = none
  sorted : mg "sorted" = none
  sum : mg "sum" = none
  max : mg "max" = none
  min : mg "min" = none
  repr : mg "repr" = none
abbrev isInt (d : PyData) : Bool := isTy d "int" && !isTy d "bool"
abbrev small (i : Int) : Bool := decide ((if i < 0 then -i else i) < 10 ^ 60)
def isNum (d : PyData) : Bool := match d with | .int i => small i | _ => false
def isIdx (d : PyData) (m : Int) : Bool := match d with | .int i => decide (0 ≤ i) && decide (i < m) | _ => false
theorem isInt_eq (d : PyData) : isInt d = match d with | .int _ => true | _ => false := by cases d <;> rfl
/-! promises -/
def spInt (K : PySem.W.Frag) (w : World) : Sp := fun vs H Q _ => ∃ v d, vs = [v] ∧ Dp K H v d ∧ Q (.bl (isInt d)) H
def spPassed (K : PySem.W.Frag) (w : World) : Sp := fun vs H Q _ => ∃ v d, vs = [v] ∧ Dp K H v d ∧ Q (.bl (isNum d)) H
def spIndex (K : PySem.W.Frag) (w : World) : Sp := fun vs H Q _ => ∃ v d m, vs = [v, .int m] ∧ Dp K H v d ∧ Q (.bl (isIdx d m)) H
section
variable {K : PySem.W.Frag} {mg : Str → Option Value} {base : Heap} {P : Program} {w : World}
theorem sc1 : FnScope ["value"] ["value"] (defScope (topS 1)) := ⟨rfl, rfl, rfl, by decide +kernel, rfl, by decide +kernel, by decide +kernel⟩
theorem ok1 {f : Addr} {fd : FuncData} (F : Fun K "is_any_integer" "is_any_integer" (topS 1) f fd) (B : Blt mg) : FnOk P w K mg base CX0 1 f fd ["value"] (spInt K w) := by
  refine F.ok sc1 (fun vs H Q E h => ?_) (fun cdv A outer s H vs Q E hr h => ?_)
  · obtain ⟨v, d, rfl, _⟩ := h
    rfl
  · obtain ⟨v, d, rfl, hd, q⟩ := h
    refine ⟨_, pss_one (ps_ret (pe_and (pe_callB call_isiD (by rfl) B.isinstance boot_isinstance (pa_cons (pv 0) (pa_cons (pe_bltn (v := .ty "int") (by rfl) B.int boot_int rfl) pa_nil)))
      (pe_one (pe_not (pe_callB call_isiD (by rfl) B.isinstance boot_isinstance (pa_cons (pv 0) (pa_cons (pe_bltn (v := .ty "bool") (by rfl) B.bool boot_bool rfl) pa_nil))))))), ?_⟩
    refine ⟨_, rfl, v, d, _, rfl, .inl hd, .inl rfl, _, rfl, ?_⟩
    unfold isInt at q
    cases e : isTy d "int" with
    | false =>
      rw [e] at q
      exact iteF q
    | true =>
      rw [e] at q
      exact iteT ⟨_, rfl, v, d, _, rfl, .inl hd, .inr (.inl rfl), _, rfl, q⟩
theorem sc2 : FnScope ["value"] ["value"] (defScope (topS 2)) := ⟨rfl, rfl, rfl, by decide +kernel, rfl, by decide +kernel, by decide +kernel⟩
theorem ok2 {f : Addr} {fd : FuncData} (F : Fun K "is_passed_integer" "is_passed_integer" (topS 2) f fd) (B : Blt mg) (c1 : Cal P w K mg base 1 "is_any_integer" (spInt K w)) : FnOk P w K mg base CX0 2 f fd ["value"] (spPassed K w) := by
  refine F.ok sc2 (fun vs H Q E h => ?_) (fun cdv A outer s H vs Q E hr h => ?_)
  · obtain ⟨v, d, rfl, _⟩ := h
    rfl
  · obtain ⟨v, d, rfl, hd, q⟩ := h
    refine ⟨_, pss_one (ps_ret (pe_and (pe_c c1 hr (by decide) (by rfl) (pa_cons (pv 0) pa_nil))
      (pe_one (pe_cmpR op_lt (pe_callB call_abs (by rfl) B.abs boot_abs (pa_cons (pv 0) pa_nil)) (pe_op op_pow pe_int pe_int) (nomark _))))), ?_⟩
    refine ⟨_, rfl, v, d, rfl, hd, _, rfl, ?_⟩
    rw [isInt_eq]
    cases hd with
    | int i => exact iteT ⟨_, rfl, i, rfl, 10, 60, rfl, rfl, ⟨by decide, by decide, by decide⟩, _, _, rfl, rfl, q⟩
    | non => exact iteF q
    | bl b => exact iteF q
    | str x => exact iteF q
    | lst _ _ => exact iteF q
    | tup _ _ => exact iteF q
theorem sc3 : FnScope ["value", "many"] ["value", "many"] (defScope (topS 3)) := ⟨rfl, rfl, rfl, by decide +kernel, rfl, by decide +kernel, by decide +kernel⟩
theorem ok3 {f : Addr} {fd : FuncData} (F : Fun K "is_index" "is_index" (topS 3) f fd) (B : Blt mg) (c1 : Cal P w K mg base 1 "is_any_integer" (spInt K w)) : FnOk P w K mg base CX0 2 f fd ["value", "many"] (spIndex K w) := by
  refine F.ok sc3 (fun vs H Q E h => ?_) (fun cdv A outer s H vs Q E hr h => ?_)
  · obtain ⟨v, d, m, rfl, _⟩ := h
    rfl
  · obtain ⟨v, d, m, rfl, hd, q⟩ := h
    refine ⟨_, pss_one (ps_ret (pe_and (pe_c c1 hr (by decide) (by rfl) (pa_cons (pv 0) pa_nil)) (pe_one (pe_chain op_le op_lt pe_int (pv 0) (pv 1))))), ?_⟩
    refine ⟨_, rfl, v, d, rfl, hd, _, rfl, ?_⟩
    rw [isInt_eq]
    cases hd with
    | int i =>
      refine iteT ⟨_, rfl, 0, i, rfl, rfl, _, rfl, ?_⟩
      replace q : Q (.bl (decide (0 ≤ i) && decide (i < m))) H := q
      by_cases c : (0 : Int) ≤ i
      · rw [decide_eq_true c] at q ⊢
        exact iteT ⟨_, rfl, i, m, rfl, rfl, q⟩
      · rw [decide_eq_false c] at q ⊢
        exact iteF q
    | non => exact iteF q
    | bl b => exact iteF q
    | str x => exact iteF q
    | lst _ _ => exact iteF q
    | tup _ _ => exact iteF q
/-! names -/
def lowC (c : Nat) : Bool := !decide ([c] < [97]) && !decide ([122] < [c])
def isNameS (x : Str) : Bool := decide (1 ≤ (x.length : Int)) && (decide ((x.length : Int) ≤ 8) && x.cps.toList.all lowC)
def spName (K : PySem.W.Frag) (w : World) : Sp := fun vs H Q _ => ∃ x : Str, vs = [.str x] ∧ x.length ≤ 1000 ∧ Q (.bl (isNameS x)) H
theorem sc8 : FnScope ["value", "letter"] ["value"] (defScope (topS 8)) := ⟨rfl, rfl, rfl, by decide +kernel, rfl, by decide +kernel, by decide +kernel⟩
theorem isTy_str (x : Str) : isTy (.str x) "str" = true := rfl
theorem ok8 {f : Addr} {fd : FuncData} (F : Fun K "is_name" "is_name" (topS 8) f fd) (B : Blt mg) : FnOk P w K mg base CX0 1 f fd ["value"] (spName K w) := by
  refine F.ok sc8 (fun vs H Q E h => ?_) (fun cdv A outer s H vs Q E hr h => ?_)
  · obtain ⟨x, rfl, _⟩ := h
    rfl
  · obtain ⟨x, rfl, hz, q⟩ := h
    refine ⟨_, pss_cons (ps_if (pw_or (pt_not (pt_val (pe_callB call_isiD (by rfl) B.isinstance boot_isinstance (pa_cons (pv 0) (pa_cons (pe_bltn (v := .ty "str") (by rfl) B.str boot_str rfl) pa_nil)))))
        (pw_or1 (pt_not (pt_chain op_le op_le pe_int (pe_callB call_len_str (by rfl) B.len boot_len (pa_cons (pv 0) pa_nil)) pe_int)))).pt (pss_one (ps_ret pe_bl)) pss_nil)
      (pss_cons (ps_for PassesOwn.never rfl (pi_str (pv 0)) (pg_name (i := 1) sc8.nd rfl (Or.inl rfl)) (pss_one (ps_if (pt_not (pt_chain op_le_str op_le_str pe_str (pv 1) pe_str)) (pss_one (ps_ret pe_bl)) pss_nil)))
      (pss_one (ps_ret pe_bl))), ?_⟩
    refine ⟨_, rfl, .str x, _, _, rfl, .inl (.str x), .inr (.inr (.inl rfl)), _, rfl, iteF ?_⟩
    have z1 : x.length ≤ sizeLine := by rw [sizeLine_eq]; omega
    refine ⟨_, rfl, x, rfl, z1, 1, _, rfl, rfl, _, rfl, ?_⟩
    unfold isNameS at q
    by_cases c1 : (1 : Int) ≤ (x.length : Int)
    · rw [decide_eq_true c1] at q ⊢
      refine iteT ⟨_, _, rfl, rfl, _, rfl, ?_⟩
      by_cases c2 : (x.length : Int) ≤ 8
      · rw [decide_eq_true c2] at q ⊢
        refine iteF ⟨_, rfl, x, rfl, ?_⟩
        replace q : Q (.bl (x.cps.toList.all lowC)) H := q
        refine for_steady steady_str (fun i σ H' => H' = H ∧ (∃ v, σ = [some (.str x), v]) ∧ (x.cps.toList.take i).all lowC = true) ⟨rfl, ⟨_, rfl⟩, rfl⟩ (fun _ _ _ _ _ => trivial) ?_ ?_
        · rintro i σ H' hi ⟨rfl, ⟨v, rfl⟩, pre⟩
          have hx : x.cps.getD i 0 = x.cps[i] := by rw [Array.getD_eq_getD_getElem?, Array.getElem?_eq_getElem hi]; rfl
          rw [hx]
          have tk : x.cps.toList.take (i + 1) = x.cps.toList.take i ++ [x.cps[i]] := by rw [List.take_add_one, List.getElem?_eq_getElem (by simpa using hi)]; simp
          refine ⟨_, rfl, _, _, rfl, rfl, _, rfl, ?_⟩
          have e1 : (!decide (({ cps := #[x.cps[i]] } : Str).cps.toList < (Str.ofString "a").cps.toList)) = !decide ([x.cps[i]] < [97]) := rfl
          have e2 : (!decide ((Str.ofString "z").cps.toList < ({ cps := #[x.cps[i]] } : Str).cps.toList)) = !decide ([122] < [x.cps[i]]) := rfl
          have mem : x.cps.toList.all lowC = true → lowC x.cps[i] = true := fun h => List.all_eq_true.mp h _ (by simp)
          have off : lowC x.cps[i] = false → Q (.bl false) H' := fun e => by
            have z : x.cps.toList.all lowC = false := by
              cases q2 : x.cps.toList.all lowC with
              | false => rfl
              | true => rw [mem q2] at e; cases e
            rw [z] at q
            exact q
          rw [e1]
          cases d1 : !decide ([x.cps[i]] < [97]) with
          | false => exact iteF ⟨_, rfl, iteT (off (by unfold lowC; rw [d1]; rfl))⟩
          | true =>
            refine iteT ⟨_, _, rfl, rfl, _, rfl, ?_⟩
            rw [e2]
            cases d2 : !decide ([122] < [x.cps[i]]) with
            | false => exact iteT (off (by unfold lowC; rw [d2, Bool.and_false]))
            | true =>
              refine iteF ⟨rfl, ⟨_, rfl⟩, ?_⟩
              rw [tk, List.all_append, pre]
              simp only [List.all_cons, List.all_nil, Bool.and_true, Bool.true_and]
              unfold lowC
              rw [d1, d2]
              rfl
        · rintro σ H' ⟨rfl, ⟨v, rfl⟩, pre⟩
          rw [List.take_of_length_le (by simp)] at pre
          rw [pre] at q
          exact q
      · rw [decide_eq_false c2] at q ⊢
        exact iteT q
    · rw [decide_eq_false c1] at q ⊢
      exact iteF ⟨_, rfl, iteT q⟩
end
end Fc
namespace Fc
open PySem L2 PyProof.Rows
def digC (c : Nat) : Bool := !decide ([c] < [48]) && !decide ([57] < [c])
/-- a star and a number: by its code points -/
def isNewL : List Nat → Bool
  | a :: b :: r => decide (a = 42) && (!decide (b = 48) && (digC b && r.all digC))
  | _ => false
def isNewS (x : Str) : Bool := isNewL x.cps.toList
def isPlaceS (x : Str) : Bool := decide (x = "") || (isNameS x || isNewS x)
def isPtK : Kd → Bool
  | .w x => isPlaceS x
  | .c a b i => isNameS a && (isPlaceS b && small i)
  | .cb a b t => false
  | .n _ => false
  | .no => false
def kdShort : Kd → Bool
  | .w x => decide (x.length ≤ 1000)
  | .c a b _ => decide (a.length ≤ 1000) && decide (b.length ≤ 1000)
  | .cb a b _ => decide (a.length ≤ 1000) && decide (b.length ≤ 1000)
  | _ => true
def spNew (K : PySem.W.Frag) (w : World) : Sp := fun vs H Q _ => ∃ x : Str, vs = [.str x] ∧ x.length ≤ 1000 ∧ Q (.bl (isNewS x)) H
def spPlace (K : PySem.W.Frag) (w : World) : Sp := fun vs H Q _ => (∃ x : Str, vs = [.str x] ∧ x.length ≤ 1000 ∧ Q (.bl (isPlaceS x)) H) ∨ ∃ v d, vs = [v] ∧ Dp K H v d ∧ isTy d "str" = false ∧ Q (.bl false) H
def spPoint (K : PySem.W.Frag) (w : World) : Sp := fun vs H Q _ => ∃ v k, vs = [v] ∧ KdV K H k v ∧ kdShort k = true ∧ Q (.bl (isPtK k)) H
theorem str_eq {c d : Nat} : decide (V.str ⟨#[c]⟩ = V.str ⟨#[d]⟩) = decide (c = d) := by
  by_cases e : c = d
  · subst e; simp
  · rw [decide_eq_false e]; simp [e]
theorem cut1 (a : Nat) (l : List Nat) : cutS (⟨⟨a :: l⟩⟩ : Str) (some 1) none = ⟨⟨l⟩⟩ := by
  have h0 : HT.sIx (a :: l).length 0 (some 1) = 1 := by
    unfold HT.sIx
    simp
  have h1 : HT.sIx (a :: l).length (a :: l).length none = (a :: l).length := rfl
  show (⟨(((a :: l).drop (HT.sIx (a :: l).length 0 (some 1))).take (HT.sIx (a :: l).length (a :: l).length none - HT.sIx (a :: l).length 0 (some 1))).toArray⟩ : Str) = _
  rw [h0, h1]
  have e : ((a :: l).drop 1).take ((a :: l).length - 1) = l := List.take_of_length_le (by simp)
  rw [e]
section
variable {K : PySem.W.Frag} {mg : Str → Option Value} {base : Heap} {P : Program} {w : World}
theorem sc25 : FnScope ["word", "letter"] ["word"] (defScope (topS 25)) := ⟨rfl, rfl, rfl, by decide +kernel, rfl, by decide +kernel, by decide +kernel⟩
theorem ok25 {f : Addr} {fd : FuncData} (F : Fun K "is_new_position" "is_new_position" (topS 25) f fd) (B : Blt mg) : FnOk P w K mg base CX0 1 f fd ["word"] (spNew K w) := by
  refine F.ok sc25 (fun vs H Q E h => ?_) (fun cdv A outer s H vs Q E hr h => ?_)
  · obtain ⟨x, rfl, _⟩ := h
    rfl
  · obtain ⟨x, rfl, hz, q⟩ := h
    have z1 : x.length ≤ sizeLine := by rw [sizeLine_eq]; omega
    refine ⟨_, pss_cons (ps_if (pw_or (pt_cmpR op_lt (pe_callB call_len_str (by rfl) B.len boot_len (pa_cons (pv 0) pa_nil)) pe_int (nomark _))
        (pw_or (pt_cmpR op_ne (pe_ix ix_str (pv 0) pe_int (fun _ _ => rfl)) pe_str (nomark _)) (pw_or1 (pt_cmpR op_eq (pe_ix ix_str (pv 0) pe_int (fun _ _ => rfl)) pe_str (nomark _))))).pt (pss_one (ps_ret pe_bl)) pss_nil)
      (pss_cons (ps_for PassesOwn.never rfl (pi_str (pe_slice sl_str (pv 0) (po_some pe_int) po_none)) (pg_name (i := 1) sc25.nd rfl (Or.inl rfl)) (pss_one (ps_if (pt_not (pt_chain op_le_str op_le_str pe_str (pv 1) pe_str)) (pss_one (ps_ret pe_bl)) pss_nil)))
      (pss_one (ps_ret pe_bl))), ?_⟩
    refine ⟨_, rfl, x, rfl, z1, _, _, rfl, rfl, _, rfl, ?_⟩
    have lx : x.length = x.cps.toList.length := by show x.cps.size = _; simp
    unfold isNewS at q
    obtain ⟨ar⟩ := x
    obtain ⟨l⟩ := ar
    match l, lx, q with
    | [], lx, q => exact iteT (iteT q)
    | [a], lx, q => exact iteT (iteT q)
    | a :: b :: r, lx, q =>
      have c0 : decide (((({ cps := ⟨a :: b :: r⟩ } : Str).length : Nat) : Int) < 2) = false := decide_eq_false (by rw [lx]; simp only [List.length_cons]; omega)
      rw [c0]
      refine iteF ⟨_, rfl, _, 0, a, rfl, rfl, z1, atI_nat (j := 0) rfl, rfl, _, rfl, ?_⟩
      rw [show decide (V.str ⟨#[a]⟩ = V.str "*") = decide (a = 42) from str_eq]
      replace q : Q (.bl (decide (a = 42) && (!decide (b = 48) && (digC b && r.all digC)))) H := q
      by_cases c1 : a = 42
      · rw [decide_eq_true c1] at q ⊢
        refine iteF ⟨_, rfl, _, 1, b, rfl, rfl, z1, atI_nat (j := 1) rfl, rfl, _, rfl, ?_⟩
        rw [show decide (V.str ⟨#[b]⟩ = V.str "0") = decide (b = 48) from str_eq]
        by_cases c2 : b = 48
        · rw [decide_eq_true c2] at q ⊢
          exact iteT q
        · rw [decide_eq_false c2] at q ⊢
          refine iteF ⟨_, rfl, 1, rfl, _, rfl, z1, ?_⟩
          have ec : cutS (⟨⟨a :: b :: r⟩⟩ : Str) (some 1) none = ⟨⟨b :: r⟩⟩ := cut1 a (b :: r)
          rw [ec]
          refine ⟨_, rfl, ?_⟩
          replace q : Q (.bl ((b :: r).all digC)) H := q
          generalize (b :: r) = l at q
          refine for_steady steady_str (fun i σ H' => H' = H ∧ (∃ v, σ = [some (.str ⟨⟨a :: l⟩⟩), v]) ∧ (l.take i).all digC = true) ⟨rfl, ⟨_, rfl⟩, rfl⟩ (fun _ _ _ _ _ => trivial) ?_ ?_
          · rintro i σ H' hi ⟨rfl, ⟨v, rfl⟩, pre⟩
            have hi' : i < l.length := hi
            have hx : (⟨l⟩ : Array Nat).getD i 0 = l[i] := by rw [Array.getD_eq_getD_getElem?, Array.getElem?_eq_getElem hi]; rfl
            rw [hx]
            have tk : l.take (i + 1) = l.take i ++ [l[i]] := by rw [List.take_add_one, List.getElem?_eq_getElem hi']; simp
            refine ⟨_, rfl, _, _, rfl, rfl, _, rfl, ?_⟩
            have e1 : (!decide (({ cps := #[l[i]] } : Str).cps.toList < (Str.ofString "0").cps.toList)) = !decide ([l[i]] < [48]) := rfl
            have e2 : (!decide ((Str.ofString "9").cps.toList < ({ cps := #[l[i]] } : Str).cps.toList)) = !decide ([57] < [l[i]]) := rfl
            have mem : l.all digC = true → digC l[i] = true := fun h => List.all_eq_true.mp h _ (by simp)
            have off : digC l[i] = false → Q (.bl false) H' := fun e => by
              have z : l.all digC = false := by
                cases q2 : l.all digC with
                | false => rfl
                | true => rw [mem q2] at e; cases e
              rw [z] at q
              exact q
            rw [e1]
            cases d1 : !decide ([l[i]] < [48]) with
            | false => exact iteF ⟨_, rfl, iteT (off (by unfold digC; rw [d1]; rfl))⟩
            | true =>
              refine iteT ⟨_, _, rfl, rfl, _, rfl, ?_⟩
              rw [e2]
              cases d2 : !decide ([57] < [l[i]]) with
              | false => exact iteT (off (by unfold digC; rw [d2, Bool.and_false]))
              | true =>
                refine iteF ⟨rfl, ⟨_, rfl⟩, ?_⟩
                rw [tk, List.all_append, pre]
                simp only [List.all_cons, List.all_nil, Bool.and_true, Bool.true_and]
                unfold digC
                rw [d1, d2]
                rfl
          · rintro σ H' ⟨rfl, ⟨v, rfl⟩, pre⟩
            rw [List.take_of_length_le (Nat.le_of_eq (by simp))] at pre
            rw [pre] at q
            exact q
      · rw [decide_eq_false c1] at q ⊢
        exact iteT (iteT q)
end
end Fc
namespace Fc
open PySem L2 PyProof.Rows
section
variable {K : PySem.W.Frag} {mg : Str → Option Value} {base : Heap} {P : Program} {w : World}
theorem sc24 : FnScope ["value"] ["value"] (defScope (topS 24)) := ⟨rfl, rfl, rfl, by decide +kernel, rfl, by decide +kernel, by decide +kernel⟩
theorem ok24 {f : Addr} {fd : FuncData} (F : Fun K "is_place" "is_place" (topS 24) f fd) (B : Blt mg) (c8 : Cal P w K mg base 1 "is_name" (spName K w)) (c25 : Cal P w K mg base 1 "is_new_position" (spNew K w)) : FnOk P w K mg base CX0 2 f fd ["value"] (spPlace K w) := by
  refine F.ok sc24 (fun vs H Q E h => ?_) (fun cdv A outer s H vs Q E hr h => ?_)
  · rcases h with ⟨x, rfl, _⟩ | ⟨v, d, rfl, _⟩ <;> rfl
  · refine ⟨_, pss_cons (ps_if (pt_not (pt_val (pe_callB call_isiD (by rfl) B.isinstance boot_isinstance (pa_cons (pv 0) (pa_cons (pe_bltn (v := .ty "str") (by rfl) B.str boot_str rfl) pa_nil))))) (pss_one (ps_ret pe_bl)) pss_nil)
      (pss_one (ps_ret (pe_or (pe_cmpR op_eq (pv 0) pe_str (nomark _)) (pe_or (pe_c c8 hr (by decide) (by rfl) (pa_cons (pv 0) pa_nil)) (pe_one (pe_c c25 hr (by decide) (by rfl) (pa_cons (pv 0) pa_nil))))))), ?_⟩
    rcases h with ⟨x, rfl, hz, q⟩ | ⟨v, d, rfl, hd, ht, q⟩
    · refine ⟨_, rfl, .str x, _, _, rfl, .inl (.str x), .inr (.inr (.inl rfl)), _, rfl, iteF ?_⟩
      refine ⟨_, rfl, rfl, _, rfl, ?_⟩
      have e : decide (V.str x = V.str "") = decide (x = "") := by
        by_cases e : x = "" <;> simp [e]
      rw [e]
      unfold isPlaceS at q
      by_cases c1 : x = ""
      · rw [decide_eq_true c1] at q ⊢
        exact iteT q
      · rw [decide_eq_false c1] at q ⊢
        refine iteF ⟨_, rfl, x, rfl, hz, _, rfl, ?_⟩
        cases c2 : isNameS x with
        | true => rw [c2] at q; exact iteT q
        | false => rw [c2] at q; exact iteF ⟨_, rfl, x, rfl, hz, q⟩
    · refine ⟨_, rfl, v, d, _, rfl, .inl hd, .inr (.inr (.inl rfl)), _, rfl, ?_⟩
      rw [ht]
      exact iteT q
theorem sc23 : FnScope ["value"] ["value"] (defScope (topS 23)) := ⟨rfl, rfl, rfl, by decide +kernel, rfl, by decide +kernel, by decide +kernel⟩
theorem ok23 {f : Addr} {fd : FuncData} (F : Fun K "is_point" "is_point" (topS 23) f fd) (B : Blt mg) (c2 : Cal P w K mg base 2 "is_passed_integer" (spPassed K w)) (c8 : Cal P w K mg base 1 "is_name" (spName K w)) (c24 : Cal P w K mg base 2 "is_place" (spPlace K w)) : FnOk P w K mg base CX0 3 f fd ["value"] (spPoint K w) := by
  refine F.ok sc23 (fun vs H Q E h => ?_) (fun cdv A outer s H vs Q E hr h => ?_)
  · obtain ⟨v, k, rfl, _⟩ := h
    rfl
  · refine ⟨_, pss_cons (ps_if (pt_not (pt_val (pe_callB call_isiD (by rfl) B.isinstance boot_isinstance (pa_cons (pv 0) (pa_cons (pe_bltn (v := .ty "tuple") (by rfl) B.tuple boot_tuple rfl) pa_nil))))) (pss_one (ps_ret (pe_c c24 hr (by decide) (by rfl) (pa_cons (pv 0) pa_nil)))) pss_nil)
      (pss_cons (ps_if (pt_cmpR op_ne (pe_callB call_len_seq (by rfl) B.len boot_len (pa_cons (pv 0) pa_nil)) pe_int (nomark _)) (pss_one (ps_ret pe_bl)) pss_nil)
      (pss_one (ps_ret (pe_and (pe_c c8 hr (by decide) (by rfl) (pa_cons (pe_ix ix_tup (pv 0) pe_int (fun _ _ => rfl)) pa_nil)) (pe_and (pe_c c24 hr (by decide) (by rfl) (pa_cons (pe_ix ix_tup (pv 0) pe_int (fun _ _ => rfl)) pa_nil)) (pe_one (pe_c c2 hr (by decide) (by rfl) (pa_cons (pe_ix ix_tup (pv 0) pe_int (fun _ _ => rfl)) pa_nil)))))))), ?_⟩
    obtain ⟨v, k, rfl, hk, hs, q⟩ := h
    refine ⟨_, rfl, v, _, _, rfl, .inl hk.dp, .inr (.inr (.inr (.inl rfl))), _, rfl, ?_⟩
    cases k with
    | w x =>
      cases hk
      exact iteT ⟨_, rfl, .inl ⟨x, rfl, of_decide_eq_true hs, q⟩⟩
    | n i =>
      cases hk
      exact iteT ⟨_, rfl, .inr ⟨_, _, rfl, .int i, rfl, q⟩⟩
    | no =>
      cases hk
      exact iteT ⟨_, rfl, .inr ⟨_, _, rfl, .non, rfl, q⟩⟩
    | c a b i =>
      obtain ⟨t, rfl, st⟩ := hk
      obtain ⟨ha, hb⟩ := (Bool.and_eq_true _ _).mp hs
      refine iteF ⟨_, rfl, t, _, rfl, .inr st, rfl, _, rfl, iteF ⟨_, rfl, t, _, 0, _, rfl, rfl, st, atI_nat (j := 0) rfl, a, rfl, of_decide_eq_true ha, _, rfl, ?_⟩⟩
      have q' : Q (.bl (isNameS a && (isPlaceS b && small i))) H := q
      cases c1 : isNameS a with
      | false => rw [c1] at q'; exact iteF q'
      | true =>
        refine iteT ⟨_, rfl, t, _, 1, _, rfl, rfl, st, atI_nat (j := 1) rfl, .inl ⟨b, rfl, of_decide_eq_true hb, _, rfl, ?_⟩⟩
        cases c2 : isPlaceS b with
        | false => rw [c1, c2] at q'; exact iteF q'
        | true =>
          rw [c1, c2] at q'
          exact iteT ⟨_, rfl, t, _, 2, _, rfl, rfl, st, atI_nat (j := 2) rfl, _, _, rfl, .int i, q'⟩
    | cb a b z =>
      obtain ⟨t, rfl, st⟩ := hk
      obtain ⟨ha, hb⟩ := (Bool.and_eq_true _ _).mp hs
      refine iteF ⟨_, rfl, t, _, rfl, .inr st, rfl, _, rfl, iteF ⟨_, rfl, t, _, 0, _, rfl, rfl, st, atI_nat (j := 0) rfl, a, rfl, of_decide_eq_true ha, _, rfl, ?_⟩⟩
      have q' : Q (.bl (isNameS a && (isPlaceS b && false))) H := by rw [Bool.and_false, Bool.and_false]; exact q
      cases c1 : isNameS a with
      | false => rw [c1] at q'; exact iteF q'
      | true =>
        refine iteT ⟨_, rfl, t, _, 1, _, rfl, rfl, st, atI_nat (j := 1) rfl, .inl ⟨b, rfl, of_decide_eq_true hb, _, rfl, ?_⟩⟩
        cases c2 : isPlaceS b with
        | false => rw [c1, c2] at q'; exact iteF q'
        | true =>
          rw [c1, c2] at q'
          exact iteT ⟨_, rfl, t, _, 2, _, rfl, rfl, st, atI_nat (j := 2) rfl, _, _, rfl, .bl z, q'⟩
end
end Fc
namespace Fc
open PySem L2 PyProof.Rows
abbrev Row := Kd × Kd × Int
def RowV (K : PySem.W.Frag) (H : Hp) (r : Row) (v : V) : Prop := ∃ t a b, v = .ref t ∧ SqT K H t [a, b, .int r.2.2] ∧ KdV K H r.1 a ∧ KdV K H r.2.1 b
theorem RowV.mono {K : PySem.W.Frag} {H H' : Hp} {r : Row} {v : V} (t : Tups K H H') (h : RowV K H r v) : RowV K H' r v := let ⟨p, a, b, e, s, k1, k2⟩ := h; ⟨p, a, b, e, t _ _ s, k1.mono t, k2.mono t⟩
/-- a tuple of rows -/
def RowsT (K : PySem.W.Frag) (H : Hp) (R : List Row) (t : Addr) : Prop := ∃ vs, SqT K H t vs ∧ Paired (RowV K H) R vs
theorem RowsT.mono {K : PySem.W.Frag} {H H' : Hp} {R : List Row} {t : Addr} (tp : Tups K H H') (h : RowsT K H R t) : RowsT K H' R t := let ⟨vs, s, p⟩ := h; ⟨vs, tp _ _ s, Paired.mapP p fun _ _ h => h.mono tp⟩
def okRow (r : Row) : Bool := isPtK r.1 && kdShort r.1 && (isPtK r.2.1 && kdShort r.2.1) && small r.2.2
theorem paired_at {α β : Type} {p : α → β → Prop} {as : List α} {bs : List β} (h : Paired p as bs) {i : Nat} {a : α} {b : β} (ha : as[i]? = some a) (hb : bs[i]? = some b) : p a b := by
  induction h generalizing i with
  | nil => simp at ha
  | cons h _ ih =>
    cases i with
    | zero => simp at ha hb; rw [← ha, ← hb]; exact h
    | succ i => exact ih (by simpa using ha) (by simpa using hb)
theorem paired_len {α β : Type} {p : α → β → Prop} {as : List α} {bs : List β} (h : Paired p as bs) : as.length = bs.length := by
  induction h with
  | nil => rfl
  | cons _ _ ih => simp [ih]
theorem paired_getD {α β : Type} {p : α → β → Prop} {as : List α} {bs : List β} (h : Paired p as bs) {i : Nat} {a0 : α} {b0 : β} (hi : i < as.length) : p (as.getD i a0) (bs.getD i b0) := by
  have hb : i < bs.length := paired_len h ▸ hi
  refine paired_at h (i := i) ?_ ?_
  · rw [List.getD_eq_getElem?_getD, List.getElem?_eq_getElem hi]; rfl
  · rw [List.getD_eq_getElem?_getD, List.getElem?_eq_getElem hb]; rfl
def spDiff (K : PySem.W.Frag) (w : World) : Sp := fun vs H Q _ => ∃ v r, vs = [v] ∧ RowV K H r v ∧ okRow r = true ∧ Q (.bl true) H
def spReq (K : PySem.W.Frag) (w : World) : Sp := fun vs H Q _ => ∃ t R, vs = [.ref t] ∧ RowsT K H R t ∧ R.length ≤ 60 ∧ (∀ r ∈ R, okRow r = true) ∧ Q .non H
section
variable {K : PySem.W.Frag} {mg : Str → Option Value} {base : Heap} {P : Program} {w : World}
theorem sc22 : FnScope ["value"] ["value"] (defScope (topS 22)) := ⟨rfl, rfl, rfl, by decide +kernel, rfl, by decide +kernel, by decide +kernel⟩
theorem isTy_tup (l : List PyData) : isTy (.tuple l) "tuple" = true := rfl
theorem RowV.dp {K : PySem.W.Frag} {H : Hp} {r : Row} {v : V} (h : RowV K H r v) : Dp K H v (.tuple [pd r.1, pd r.2.1, .int r.2.2]) := by
  obtain ⟨t, a, b, rfl, s, k1, k2⟩ := h
  exact .tup s (.cons k1.dp (.cons k2.dp (.cons (.int _) .nil)))
theorem rows_dp {K : PySem.W.Frag} {H : Hp} {R : List Row} {vs : List V} (p : Paired (RowV K H) R vs) : DpAll K H vs (R.map fun r => .tuple [pd r.1, pd r.2.1, .int r.2.2]) := by
  induction p with
  | nil => exact .nil
  | cons h _ ih => exact .cons h.dp ih
theorem ok22 {f : Addr} {fd : FuncData} (F : Fun K "is_difference" "is_difference" (topS 22) f fd) (B : Blt mg) (c2 : Cal P w K mg base 2 "is_passed_integer" (spPassed K w)) (c23 : Cal P w K mg base 3 "is_point" (spPoint K w)) : FnOk P w K mg base CX0 4 f fd ["value"] (spDiff K w) := by
  refine F.ok sc22 (fun vs H Q E h => ?_) (fun cdv A outer s H vs Q E hr h => ?_)
  · obtain ⟨v, k, rfl, _⟩ := h
    rfl
  · refine ⟨_, pss_cons (ps_if (pw_or (pt_not (pt_val (pe_callB call_isiD (by rfl) B.isinstance boot_isinstance (pa_cons (pv 0) (pa_cons (pe_bltn (v := .ty "tuple") (by rfl) B.tuple boot_tuple rfl) pa_nil))))) (pw_or1 (pt_cmpR op_ne (pe_callB call_len_seq (by rfl) B.len boot_len (pa_cons (pv 0) pa_nil)) pe_int (nomark _)))).pt (pss_one (ps_ret pe_bl)) pss_nil)
      (pss_one (ps_ret (pe_and (pe_c c23 hr (by decide) (by rfl) (pa_cons (pe_ix ix_tup (pv 0) pe_int (fun _ _ => rfl)) pa_nil)) (pe_and (pe_c c23 hr (by decide) (by rfl) (pa_cons (pe_ix ix_tup (pv 0) pe_int (fun _ _ => rfl)) pa_nil)) (pe_one (pe_c c2 hr (by decide) (by rfl) (pa_cons (pe_ix ix_tup (pv 0) pe_int (fun _ _ => rfl)) pa_nil))))))), ?_⟩
    obtain ⟨v, r, rfl, hv, ho, q⟩ := h
    refine ⟨_, rfl, v, _, _, rfl, .inl hv.dp, .inr (.inr (.inr (.inl rfl))), _, rfl, iteF ?_⟩
    obtain ⟨t, a, b, rfl, st, k1, k2⟩ := hv
    unfold okRow at ho
    simp only [Bool.and_eq_true] at ho
    obtain ⟨⟨⟨o1, o2⟩, o3, o4⟩, o5⟩ := ho
    refine ⟨_, rfl, t, _, rfl, .inr st, rfl, _, rfl, iteF ⟨_, rfl, t, _, 0, _, rfl, rfl, st, atI_nat (j := 0) rfl, a, _, rfl, k1, o2, _, rfl, ?_⟩⟩
    rw [o1]
    refine iteT ⟨_, rfl, t, _, 1, _, rfl, rfl, st, atI_nat (j := 1) rfl, b, _, rfl, k2, o4, _, rfl, ?_⟩
    rw [o3]
    refine iteT ⟨_, rfl, t, _, 2, _, rfl, rfl, st, atI_nat (j := 2) rfl, _, _, rfl, .int _, ?_⟩
    have e : isNum (.int r.2.2) = true := o5
    rw [e]
    exact q
theorem sc21 : FnScope ["value", "difference"] ["value"] (defScope (topS 21)) := ⟨rfl, rfl, rfl, by decide +kernel, rfl, by decide +kernel, by decide +kernel⟩
theorem ok21 {f : Addr} {fd : FuncData} (F : Fun K "require_differences" "require_differences" (topS 21) f fd) (B : Blt mg) {t60 : Nat} (hM : mg "MAX_DIFFERENCES" = some (.int 60 t60)) (c22 : Cal P w K mg base 4 "is_difference" (spDiff K w)) : FnOk P w K mg base CX0 5 f fd ["value"] (spReq K w) := by
  refine F.ok sc21 (fun vs H Q E h => ?_) (fun cdv A outer s H vs Q E hr h => ?_)
  · obtain ⟨v, k, rfl, _⟩ := h
    rfl
  · refine ⟨_, pss_cons (ps_if (pw_or (pt_not (pt_val (pe_callB call_isiD (by rfl) B.isinstance boot_isinstance (pa_cons (pv 0) (pa_cons (pe_bltn (v := .ty "tuple") (by rfl) B.tuple boot_tuple rfl) pa_nil))))) (pw_or1 (pt_cmpR op_gt (pe_callB call_len_seq (by rfl) B.len boot_len (pa_cons (pv 0) pa_nil)) (pe_glob (v := .int 60) (by rfl) hM ⟨_, rfl⟩) (nomark _)))).pt pss_never pss_nil)
      (pss_one (ps_for PassesOwn.never rfl (pi_tup (pv 0)) (pg_name (i := 1) sc21.nd rfl (Or.inl rfl)) (pss_one (ps_if (pt_not (pt_val (pe_c c22 hr (by decide) (by rfl) (pa_cons (pv 1) pa_nil)))) pss_never pss_nil)))), ?_⟩
    obtain ⟨t, R, rfl, ⟨vs, st, pr⟩, hl, ho, q⟩ := h
    have dp : Dp K H (.ref t) (.tuple (R.map fun r => .tuple [pd r.1, pd r.2.1, .int r.2.2])) := .tup st (rows_dp pr)
    refine ⟨_, rfl, _, _, _, rfl, .inl dp, .inr (.inr (.inr (.inl rfl))), _, rfl, iteF ?_⟩
    refine ⟨_, rfl, t, _, rfl, .inr st, _, _, rfl, rfl, _, rfl, ?_⟩
    have e0 : decide ((60 : Int) < (vs.length : Int)) = false := decide_eq_false (by rw [← paired_len pr]; omega)
    rw [e0]
    refine iteF ⟨_, rfl, t, rfl, ⟨vs, st⟩, ?_⟩
    refine for_steady steady_tup (fun i σ H' => H' = H ∧ ∃ v, σ = [some (.ref t), v]) ⟨rfl, _, rfl⟩ (fun _ _ _ _ h => h.1 ▸ st) ?_ ?_
    · rintro i σ H' hi ⟨rfl, v, rfl⟩
      have hi' : i < R.length := by rw [paired_len pr]; exact hi
      refine ⟨_, rfl, _, R.getD i (.no, .no, 0), rfl, paired_getD pr hi', ho _ ?_, _, rfl, iteF ⟨rfl, _, rfl⟩⟩
      rw [List.getD_eq_getElem?_getD, List.getElem?_eq_getElem hi']
      exact List.getElem_mem hi'
    · rintro σ H' ⟨rfl, v, rfl⟩
      exact q
end
end Fc
namespace Fc
open PySem L2 PyProof.Rows
/-! tables of any kind of values -/
section
variable {α : Type}
def putG : List (Kd × α) → Kd → α → List (Kd × α)
  | [], k, v => [(k, v)]
  | (a, u) :: r, k, v => if nk a = nk k then (a, v) :: r else (a, u) :: putG r k v
def lookG (B : List (Kd × α)) (k : Kd) : Option α := (B.find? fun e => decide (nk e.1 = nk k)).map (·.2)
def asV (f : α → V) (B : List (Kd × α)) : List (Kd × V) := B.map fun e => (e.1, f e.2)
theorem putN_asV (f : α → V) (B : List (Kd × α)) (k : Kd) (v : α) : putN (asV f B) k (f v) = asV f (putG B k v) := by
  induction B with
  | nil => rfl
  | cons b B ih =>
    obtain ⟨a, u⟩ := b
    show putN ((a, f u) :: asV f B) k (f v) = asV f (putG ((a, u) :: B) k v)
    unfold putN putG
    by_cases e : nk a = nk k
    · rw [if_pos e, if_pos e]; rfl
    · rw [if_neg e, if_neg e, ih]; rfl
theorem lookN_asV (f : α → V) (B : List (Kd × α)) (k : Kd) : lookN (asV f B) k = (lookG B k).map f := by
  induction B with
  | nil => rfl
  | cons b B ih =>
    obtain ⟨a, u⟩ := b
    unfold lookN lookG at *
    rw [show asV f ((a, u) :: B) = (a, f u) :: asV f B from rfl, List.find?_cons, List.find?_cons]
    by_cases e : nk a = nk k
    · simp [e]
    · simp only [e, decide_false]; exact ih
theorem lookG_cons (a : Kd) (u : α) (B : List (Kd × α)) (k : Kd) : lookG ((a, u) :: B) k = if nk a = nk k then some u else lookG B k := by
  unfold lookG
  rw [List.find?_cons]
  by_cases e : nk a = nk k <;> simp [e]
theorem look_put (B : List (Kd × α)) (k : Kd) (v : α) (j : Kd) : lookG (putG B k v) j = if nk k = nk j then some v else lookG B j := by
  induction B with
  | nil =>
    unfold putG
    rw [lookG_cons]
  | cons b B ih =>
    obtain ⟨a, u⟩ := b
    unfold putG
    by_cases e : nk a = nk k
    · rw [if_pos e, lookG_cons, lookG_cons, e]
      by_cases e2 : nk k = nk j
      · rw [if_pos e2, if_pos e2]
      · rw [if_neg e2, if_neg e2, if_neg e2]
    · rw [if_neg e, lookG_cons, lookG_cons, ih]
      by_cases e2 : nk k = nk j
      · rw [if_pos e2, if_neg (fun z => e (z.trans e2.symm)), if_pos e2]
      · rw [if_neg e2, if_neg e2]
def addK (l : List Kd) (k : Kd) : List Kd := if (∃ e ∈ l, nk e = nk k) then l else l ++ [k]
theorem keys_put (B : List (Kd × α)) (k : Kd) (v : α) : (putG B k v).map (·.1) = addK (B.map (·.1)) k := by
  induction B with
  | nil => unfold putG addK; simp
  | cons b B ih =>
    obtain ⟨a, u⟩ := b
    unfold putG
    by_cases e : nk a = nk k
    · rw [if_pos e]
      unfold addK
      rw [if_pos ⟨a, by simp, e⟩]
      rfl
    · rw [if_neg e, List.map_cons, ih]
      unfold addK
      by_cases c : ∃ x ∈ B.map (·.1), nk x = nk k
      · obtain ⟨x, hx, ex⟩ := c
        rw [if_pos ⟨x, hx, ex⟩, if_pos ⟨x, by simp only [List.map_cons]; exact List.mem_cons_of_mem _ hx, ex⟩]
        rfl
      · rw [if_neg c, if_neg]
        · rfl
        · rintro ⟨x, hx, ex⟩
          rw [List.map_cons] at hx
          rcases List.mem_cons.mp hx with h | h
          · exact e (by rw [← ex, h])
          · exact c ⟨x, h, ex⟩
theorem lookG_some_iff (B : List (Kd × α)) (k : Kd) : (lookG B k).isSome = true ↔ ∃ e ∈ B.map (·.1), nk e = nk k := by
  induction B with
  | nil => simp [lookG]
  | cons b B ih =>
    obtain ⟨a, u⟩ := b
    rw [lookG_cons]
    by_cases e : nk a = nk k
    · rw [if_pos e]; simp [e]
    · rw [if_neg e, ih, List.map_cons]
      constructor
      · rintro ⟨x, hx, ex⟩; exact ⟨x, List.mem_cons_of_mem _ hx, ex⟩
      · rintro ⟨x, hx, ex⟩
        rcases List.mem_cons.mp hx with h | h
        · exact absurd (by rw [← ex, h]) e
        · exact ⟨x, h, ex⟩
end
/-- the points, one by one -/
def seenOf (R : List Row) : List (Kd × Unit) := R.foldl (fun B r => putG (putG B r.1 ()) r.2.1 ()) [(.w "", ())]
def ptsOf (R : List Row) : List Kd := R.foldl (fun l r => addK (addK l r.1) r.2.1) [.w ""]
theorem keys_seen (R : List Row) : (seenOf R).map (·.1) = ptsOf R := by
  have gen : ∀ (R : List Row) (B : List (Kd × Unit)) (l : List Kd), B.map (·.1) = l → (R.foldl (fun B r => putG (putG B r.1 ()) r.2.1 ()) B).map (·.1) = R.foldl (fun l r => addK (addK l r.1) r.2.1) l := by
    intro R
    induction R with
    | nil => intro B l h; exact h
    | cons r R ih =>
      intro B l h
      rw [List.foldl_cons, List.foldl_cons]
      refine ih _ _ ?_
      rw [keys_put, keys_put, h]
  exact gen R _ _ rfl
theorem len_addK (l : List Kd) (k : Kd) : (addK l k).length ≤ l.length + 1 := by
  unfold addK
  by_cases c : ∃ e ∈ l, nk e = nk k
  · rw [if_pos c]; omega
  · rw [if_neg c]; simp
theorem len_pts (R : List Row) : (ptsOf R).length ≤ 2 * R.length + 1 := by
  have gen : ∀ (R : List Row) (l : List Kd), (R.foldl (fun l r => addK (addK l r.1) r.2.1) l).length ≤ 2 * R.length + l.length := by
    intro R
    induction R with
    | nil => intro l; simp
    | cons r R ih =>
      intro l
      rw [List.foldl_cons]
      have h1 := ih (addK (addK l r.1) r.2.1)
      have h2 := len_addK (addK l r.1) r.2.1
      have h3 := len_addK l r.1
      simp only [List.length_cons]
      omega
  exact gen R [.w ""]
theorem len_seen (R : List Row) : (seenOf R).length ≤ 2 * R.length + 1 := by
  have h := len_pts R
  rw [← keys_seen, List.length_map] at h
  exact h
theorem keys_asV {α : Type} (f : α → V) (B : List (Kd × α)) : (asV f B).map (·.1) = B.map (·.1) := by unfold asV; simp
theorem take_snoc {α : Type} {l : List α} {i : Nat} {a0 : α} (h : i < l.length) : l.take (i + 1) = l.take i ++ [l.getD i a0] := by
  rw [List.take_add_one, List.getD_eq_getElem?_getD, List.getElem?_eq_getElem h]; rfl
theorem same_new {H : Hp} {a : Addr} {o : HO} (h : H a = none) : Same H (upd H a o) := fun b u e => by rw [upd_ne (ne_of_none e h)]; exact e
/-- all but what stands at D -/
def But (D : Addr) (H H' : Hp) : Prop := ∀ b o, b ≠ D → H b = some o → H' b = some o
theorem set_tab {K : PySem.W.Frag} {w : World} {H : Hp} {D : Addr} {B : List (Kd × V)} {k : Kd} {kv v : V} {Q : Hp → Prop} (tb : TabIs K w H D B) (hk : KdV K H k kv) (hl : B.length < sizeLine)
    (q : ∀ H', But D H H' → Tups K H H' → TabIs K w H' D (putN B k v) → Q H') : rSetM K w (.ref D) kv v H Q := by
  obtain ⟨xs, hx, p⟩ := tb
  refine ⟨D, xs, nk k, rfl, hx, tabR_keys p, hk.key, by rw [← paired_len p]; exact hl, ?_⟩
  have tp : Tups K H (upd H D (MD w D (putM xs (nk k) kv v))) := Tups.upd fun u e => by rw [hx] at e; cases e; exact True.intro
  exact q _ (fun b o ne e => by rw [upd_ne ne]; exact e) tp ⟨_, upd_same, tabR_mono tp (tabR_put hk p)⟩
theorem ix_tab {K : PySem.W.Frag} {w : World} {H : Hp} {D : Addr} {B : List (Kd × V)} {k : Kd} {kv v : V} {Q : VK} (tb : TabIs K w H D B) (hk : KdV K H k kv) (hv : lookN B k = some v) (q : Q v H) : rIxM K w (.ref D) kv H Q := by
  obtain ⟨xs, ta, p⟩ := tb.at
  exact ⟨D, xs, nk k, v, rfl, ta, hk.key, by rw [tabR_val p]; exact hv, q⟩
theorem in_tab {K : PySem.W.Frag} {w : World} {H : Hp} {D : Addr} {B : List (Kd × V)} {k : Kd} {kv : V} {g : Bool → Bool} {Q : VK} (tb : TabIs K w H D B) (hk : KdV K H k kv) (q : Q (.bl (g (lookN B k).isSome)) H) : rInM K w g kv (.ref D) H Q := by
  obtain ⟨xs, ta, p⟩ := tb.at
  exact ⟨D, xs, nk k, rfl, ta, hk.key, by rw [tabR_val p]; exact q⟩
theorem len_asV {α : Type} (f : α → V) (B : List (Kd × α)) : (asV f B).length = B.length := by unfold asV; simp
theorem TabIs.len {K : PySem.W.Frag} {w : World} {H : Hp} {D : Addr} {B : List (Kd × V)} {xs : List Ent} (p : Paired (TabR K H) B xs) : xs.length = B.length := (paired_len p).symm
/-- a list of the keys at p -/
def KeysL (K : PySem.W.Frag) (H : Hp) (p : Addr) (l : List Kd) : Prop := ∃ ys, H p = some (.lst ys) ∧ Paired (KdV K H) l ys
theorem keys_of_tab {K : PySem.W.Frag} {H : Hp} {B : List (Kd × V)} {xs : List Ent} (p : Paired (TabR K H) B xs) : Paired (KdV K H) (B.map (·.1)) (xs.map (·.2.1)) := by
  induction p with
  | nil => exact .nil
  | cons h _ ih => exact .cons h.2.1 ih
def spPts (K : PySem.W.Frag) (w : World) : Sp := fun vs H Q _ => ∃ t R, vs = [.ref t] ∧ RowsT K H R t ∧ R.length ≤ 60 ∧ ∀ p H', Same H H' → H p = none → KeysL K H' p (ptsOf R) → Q (.ref p) H'
section
variable {K : PySem.W.Frag} {mg : Str → Option Value} {base : Heap} {P : Program} {w : World}
theorem hu9 {n : Nat} (h : n + 70 < cLine) : n + 9 < cLine := by omega
theorem sc10 : FnScope ["differences", "seen", "one", "other", "_"] ["differences"] (defScope (topS 10)) := ⟨rfl, rfl, rfl, by decide +kernel, rfl, by decide +kernel, by decide +kernel⟩
theorem ok10 {f : Addr} {fd : FuncData} (F : Fun K "points_of" "points_of" (topS 10) f fd) (B : Blt mg) : FnOk P w K mg base CX0 1 f fd ["differences"] (spPts K w) := by
  refine F.ok sc10 (fun vs H Q E h => ?_) (fun cdv A outer s H vs Q E hr h => ?_)
  · obtain ⟨v, k, rfl, _⟩ := h
    rfl
  · have hu := hu70 hr
    refine ⟨_, pss_cons (ps_set (i := 1) sc10.nd rfl (Or.inl rfl) (pe_asM (pe_disp (pps_cons pe_str pe_bl pps_nil) (by rfl) (by rfl) (by simp) (by decide))))
      (pss_cons (ps_for PassesOwn.never rfl (pi_tup (pv 0)) (pg_tup rfl (pgs_cons (pg_name (i := 2) sc10.nd rfl (Or.inl rfl)) (pgs_cons (pg_name (i := 3) sc10.nd rfl (Or.inl rfl)) (pgs_cons (pg_name (i := 4) sc10.nd rfl (Or.inl rfl)) pgs_nil))))
        (pss_cons (ps_asg pe_bl (pg_sub (pv 1) (pv 2) (set_md (hu9 hu)))) (pss_one (ps_asg pe_bl (pg_sub (pv 1) (pv 3) (set_md (hu9 hu)))))))
      (pss_one (ps_ret (pe_callTy (call_listM rfl) (by rfl) B.list boot_list (pa_cons (pv 1) pa_nil))))), ?_⟩
    obtain ⟨t, R, rfl, ⟨vs, st, pr⟩, hl, q⟩ := h
    intro D hD
    refine ⟨upd_same, [(.inr "", .bl true)], rfl, by decide, D, _, rfl, upd_same, ?_⟩
    rw [upd_upd, upd_upd]
    refine ⟨_, rfl, t, rfl, ⟨vs, Tups.same (same_new hD) _ _ st⟩, ?_⟩
    refine for_steady steady_tup (fun i σ H' => Same H H' ∧ TabIs K w H' D (asV (fun _ => .bl true) (seenOf (R.take i))) ∧ ∃ x y z, σ = [some (.ref t), some (.ref D), x, y, z]) ⟨same_new hD, ⟨_, upd_same, .cons ⟨rfl, rfl, rfl⟩ .nil⟩, _, _, _, rfl⟩ (fun _ _ _ _ h => Tups.same h.1 _ _ st) ?_ ?_
    · rintro i σ H' hi ⟨sm, tb, x, y, z, rfl⟩
      have hi' : i < R.length := by rw [paired_len pr]; exact hi
      obtain ⟨b, c, d, e, sb, k1, k2⟩ := (paired_getD pr (a0 := (.no, .no, 0)) (b0 := .non) hi').mono (Tups.same sm)
      rw [e]
      have lb := len_seen (R.take i)
      rw [List.length_take] at lb
      have ll : 122 < sizeLine := by rw [sizeLine_eq]; decide
      refine ⟨b, _, rfl, sb, rfl, _, _, rfl, _, _, rfl, _, _, rfl, rfl, ?_⟩
      refine ⟨_, rfl, _, rfl, set_tab tb k1 (by rw [len_asV]; omega) fun H1 b1 t1 tb1 => ⟨_, rfl, _, rfl, set_tab tb1 (k2.mono t1) (Nat.lt_of_le_of_lt (len_putN _ _ _) (by rw [len_asV]; omega)) fun H2 b2 t2 tb2 => ⟨fun a o ha => b2 a o (ne_of_none ha hD) (b1 a o (ne_of_none ha hD) (sm a o ha)), ?_, _, _, _, rfl⟩⟩⟩
      rw [putN_asV (fun _ => .bl true) _ _ (), putN_asV (fun _ => .bl true) _ _ ()] at tb2
      have e2 : seenOf (R.take (i + 1)) = putG (putG (seenOf (R.take i)) (R.getD i (.no, .no, 0)).1 ()) (R.getD i (.no, .no, 0)).2.1 () := by
        rw [take_snoc hi']
        unfold seenOf
        rw [List.foldl_append]
        rfl
      rw [e2]
      exact tb2
    · rintro σ H' ⟨sm, tb, x, y, z, rfl⟩
      rw [List.take_of_length_le (Nat.le_of_eq (paired_len pr))] at tb
      obtain ⟨xs, ta, pp⟩ := tb.at
      refine ⟨_, rfl, D, xs, rfl, ta, fun p hp => ?_⟩
      refine q p _ (fun a o ha => by rw [upd_ne (ne_of_none (sm a o ha) hp)]; exact sm a o ha) (sm.free hp) ⟨_, upd_same, ?_⟩
      rw [← keys_seen, ← keys_asV (fun _ => .bl true)]
      exact Paired.mapP (keys_of_tab pp) fun k v h => h.mono (Tups.same (same_new hp))
end
end Fc
namespace Fc
open PySem L2 PyProof.Rows
theorem nodup_sub {α : Type} [DecidableEq α] : ∀ (m l : List α), m.Nodup → (∀ x ∈ m, x ∈ l) → m.length ≤ l.length
  | [], _, _, _ => Nat.zero_le _
  | a :: m, l, h, s => by
    rw [List.nodup_cons] at h
    have ha : a ∈ l := s a (by simp)
    have ih := nodup_sub m (l.erase a) h.2 fun x hx => (List.mem_erase_of_ne (fun e => h.1 (by rw [← e]; exact hx))).mpr (s x (List.mem_cons_of_mem _ hx))
    rw [List.length_erase_of_mem ha] at ih
    have : 0 < l.length := List.length_pos_of_mem ha
    simp only [List.length_cons]
    omega
theorem pigeon {α : Type} [DecidableEq α] {N : Nat} {P : List α} (hP : P.length ≤ N) (f : Nat → α) (hf : ∀ t, t ≤ N → f t ∈ P) : ∃ i j, i < j ∧ j ≤ N ∧ f i = f j := by
  refine Classical.byContradiction fun no => ?_
  have nd : ((List.range (N + 1)).map f).Nodup := by
    rw [List.nodup_iff_pairwise_ne, List.pairwise_map]
    have lt : List.Pairwise (· < ·) (List.range (N + 1)) := List.pairwise_lt_range
    refine List.Pairwise.imp_of_mem ?_ lt
    intro a b ha hb l e
    rw [List.mem_range] at ha hb
    exact no ⟨a, b, l, by omega, e⟩
  have h := nodup_sub _ P nd fun x hx => by
    obtain ⟨t, ht, e⟩ := List.mem_map.mp hx
    rw [List.mem_range] at ht
    exact e ▸ hf t (by omega)
  rw [List.length_map, List.length_range] at h
  omega
abbrev rowN (R : List Row) (j : Nat) : Row := R.getD j (.no, .no, 0)
abbrev pN (R : List Row) (j : Nat) : NK := nk (rowN R j).1
abbrev qN (R : List Row) (j : Nat) : NK := nk (rowN R j).2.1
abbrev mN (R : List Row) (j : Nat) : Int := (rowN R j).2.2
/-- within the pass r, ahead of the row k -/
structure Pass (R : List Row) (r k : Nat) (β : NK → Int) (c : NK → Option Nat) (L : NK → Nat) (l : Option Nat) : Prop where
  le : ∀ x, L x ≤ r
  cs : ∀ x, 1 ≤ L x → ∃ j, c x = some j
  cv : ∀ x j, c x = some j → j < R.length ∧ L x ≤ L (qN R j) + 1
  ok1 : ∀ j, j < k → β (pN R j) ≤ β (qN R j) + mN R j ∨ L (qN R j) = r
  ok2 : ∀ j, k ≤ j → j < R.length → β (pN R j) ≤ β (qN R j) + mN R j ∨ r ≤ L (qN R j) + 1
  lt : ∀ j, l = some j → j < R.length ∧ r ≤ L (qN R j) + 1
theorem Pass.start (R : List Row) (β : NK → Int) : Pass R 1 0 β (fun _ => none) (fun _ => 0) none :=
  ⟨fun _ => Nat.zero_le _, fun _ h => absurd h (by simp), fun _ _ h => (nomatch h), fun _ h => absurd h (Nat.not_lt_zero _), fun _ _ _ => .inr (by simp), fun _ h => (nomatch h)⟩
theorem Pass.next {R : List Row} {r : Nat} {β : NK → Int} {c : NK → Option Nat} {L : NK → Nat} {l : Option Nat} (p : Pass R r R.length β c L l) : Pass R (r + 1) 0 β c L none :=
  ⟨fun x => Nat.le_succ_of_le (p.le x), p.cs, p.cv, fun _ h => absurd h (Nat.not_lt_zero _), fun j _ h => (p.ok1 j h).imp id fun e => by omega, fun _ h => (nomatch h)⟩
theorem Pass.stay {R : List Row} {r k : Nat} {β : NK → Int} {c : NK → Option Nat} {L : NK → Nat} {l : Option Nat} (p : Pass R r k β c L l) (h : β (pN R k) ≤ β (qN R k) + mN R k) : Pass R r (k + 1) β c L l :=
  ⟨p.le, p.cs, p.cv, fun j hj => by
    by_cases e : j = k
    · exact .inl (e ▸ h)
    · exact p.ok1 j (by omega), fun j hj hl => p.ok2 j (by omega) hl, p.lt⟩
def setN {α : Type} (f : NK → α) (x : NK) (v : α) : NK → α := fun y => if x = y then v else f y
theorem Pass.low {R : List Row} {r k : Nat} {β : NK → Int} {c : NK → Option Nat} {L : NK → Nat} {l : Option Nat} (p : Pass R r k β c L l) (hk : k < R.length) (hr : 1 ≤ r) (h : β (qN R k) + mN R k < β (pN R k)) :
    Pass R r (k + 1) (setN β (pN R k) (β (qN R k) + mN R k)) (setN c (pN R k) (some k)) (setN L (pN R k) r) (some k) := by
  have mono : ∀ x, L x ≤ setN L (pN R k) r x := fun x => by
    unfold setN
    by_cases e : pN R k = x
    · rw [if_pos e]; exact p.le x
    · rw [if_neg e]; exact Nat.le_refl _
  have hq : r ≤ L (qN R k) + 1 := (p.ok2 k (Nat.le_refl _) hk).resolve_left (by omega)
  have step : ∀ j, β (pN R j) ≤ β (qN R j) + mN R j → setN β (pN R k) (β (qN R k) + mN R k) (pN R j) ≤ setN β (pN R k) (β (qN R k) + mN R k) (qN R j) + mN R j ∨ setN L (pN R k) r (qN R j) = r := fun j hj => by
    unfold setN
    by_cases e : pN R k = qN R j
    · right; rw [if_pos e]
    · left
      rw [if_neg e]
      by_cases e2 : pN R k = pN R j
      · rw [if_pos e2]
        rw [← e2] at hj
        omega
      · rw [if_neg e2]; exact hj
  refine ⟨fun x => ?_, fun x hx => ?_, fun x j hj => ?_, fun j hj => ?_, fun j hj hl => ?_, fun j hj => ?_⟩
  · unfold setN
    by_cases e : pN R k = x
    · rw [if_pos e]; exact Nat.le_refl _
    · rw [if_neg e]; exact p.le x
  · unfold setN at hx ⊢
    by_cases e : pN R k = x
    · rw [if_pos e]; exact ⟨_, rfl⟩
    · rw [if_neg e] at hx ⊢; exact p.cs x hx
  · unfold setN at hj
    by_cases e : pN R k = x
    · rw [if_pos e] at hj
      have ej : k = j := Option.some.inj hj
      subst ej
      refine ⟨hk, ?_⟩
      have e1 : setN L (pN R k) r x = r := by unfold setN; rw [if_pos e]
      rw [e1]
      have := mono (qN R k)
      omega
    · rw [if_neg e] at hj
      obtain ⟨h1, h2⟩ := p.cv x j hj
      refine ⟨h1, ?_⟩
      have e1 : setN L (pN R k) r x = L x := by unfold setN; rw [if_neg e]
      rw [e1]
      have := mono (qN R j)
      omega
  · by_cases e : j = k
    · subst e
      unfold setN
      by_cases e2 : pN R j = qN R j
      · right; rw [if_pos e2]
      · left; rw [if_pos rfl, if_neg e2]; exact Int.le_refl _
    · rcases p.ok1 j (by omega) with h1 | h1
      · exact step j h1
      · right
        have := mono (qN R j)
        have h2 : setN L (pN R k) r (qN R j) ≤ r := by
          unfold setN
          by_cases e : pN R k = qN R j
          · rw [if_pos e]; exact Nat.le_refl _
          · rw [if_neg e]; exact p.le _
        omega
  · rcases p.ok2 j (by omega) hl with h1 | h1
    · exact (step j h1).imp id fun e => by omega
    · right
      have := mono (qN R j)
      omega
  · have ej : k = j := Option.some.inj hj
    subst ej
    have := mono (qN R k)
    exact ⟨hk, by omega⟩
/-- the walk back along the causes comes around -/
structure Cyc (R : List Row) (c : NK → Option Nat) (N : Nat) (j0 : Nat) (idx : Nat → Nat) (d : Nat) : Prop where
  zero : idx 0 = j0
  lt : ∀ t, idx t < R.length
  go : ∀ t, c (qN R (idx t)) = some (idx (t + 1))
  one : 1 ≤ d
  dn : d ≤ N
  back : idx (N + d) = idx N
theorem Pass.cyc {R : List Row} {N : Nat} {β : NK → Int} {c : NK → Option Nat} {L : NK → Nat} {j0 : Nat} (p : Pass R (N + 1) R.length β c L (some j0)) {P : List NK} (hP : P.length ≤ N) (hq : ∀ j, j < R.length → qN R j ∈ P) : ∃ idx d, Cyc R c N j0 idx d := by
  obtain ⟨l1, l2⟩ := p.lt j0 rfl
  let g : Nat → Nat := fun j => (c (qN R j)).getD 0
  let idx : Nat → Nat := fun t => Nat.rec j0 (fun _ v => g v) t
  have e0 : idx 0 = j0 := rfl
  have eS : ∀ t, idx (t + 1) = (c (qN R (idx t))).getD 0 := fun _ => rfl
  clear_value idx
  have A : ∀ t, t ≤ N → idx t < R.length ∧ N ≤ L (qN R (idx t)) + t := by
    intro t
    induction t with
    | zero => intro _; rw [e0]; exact ⟨l1, by omega⟩
    | succ t ih =>
      intro ht
      obtain ⟨h1, h2⟩ := ih (by omega)
      obtain ⟨j, hj⟩ := p.cs (qN R (idx t)) (by omega)
      obtain ⟨h3, h4⟩ := p.cv _ _ hj
      have e : idx (t + 1) = j := by rw [eS, hj]; rfl
      rw [e]
      exact ⟨h3, by omega⟩
  have A' : ∀ t, t < N → c (qN R (idx t)) = some (idx (t + 1)) := fun t ht => by
    obtain ⟨h1, h2⟩ := A t (by omega)
    obtain ⟨j, hj⟩ := p.cs (qN R (idx t)) (by omega)
    rw [eS, hj]; rfl
  obtain ⟨i, j, hij, hjN, e⟩ := pigeon hP (fun t => qN R (idx t)) fun t ht => hq _ (A t ht).1
  have per : ∀ s, qN R (idx (i + s)) = qN R (idx (i + s + (j - i))) := by
    intro s
    induction s with
    | zero =>
      have : i + 0 + (j - i) = j := by omega
      rw [this]
      exact e
    | succ s ih =>
      have e1 : idx (i + (s + 1)) = idx (i + (s + 1) + (j - i)) := by
        have a1 : i + (s + 1) = (i + s) + 1 := by omega
        have a2 : i + (s + 1) + (j - i) = (i + s + (j - i)) + 1 := by omega
        rw [a2, a1, eS, eS, ih]
      rw [e1]
  have all : ∀ t, c (qN R (idx t)) = some (idx (t + 1)) := by
    intro t
    induction t using Nat.strongRecOn with
    | ind t ih =>
      by_cases h : t < N
      · exact A' t h
      · have h1 := ih (t - (j - i)) (by omega)
        have e1 := per (t - (j - i) - i)
        have a1 : i + (t - (j - i) - i) = t - (j - i) := by omega
        have a2 : i + (t - (j - i) - i) + (j - i) = t := by omega
        rw [a2, a1] at e1
        rw [e1] at h1
        rw [eS, h1]; rfl
  refine ⟨idx, j - i, e0, fun t => ?_, all, by omega, by omega, ?_⟩
  · cases t with
    | zero => rw [e0]; exact l1
    | succ t => exact (p.cv _ _ (all t)).1
  · have e1 := per (N - 1 - i)
    have a1 : i + (N - 1 - i) = N - 1 := by omega
    rw [a1] at e1
    have a2 : N + (j - i) = (N - 1 + (j - i)) + 1 := by omega
    have a3 : idx N = idx ((N - 1) + 1) := by congr 1; omega
    rw [a2, a3, eS, eS, e1]
end Fc
namespace Fc
open PySem L2 PyProof.Rows
theorem steady_rng {lo : Int} {n : Nat} : Steady (Itr lo n) n (fun i => .int (lo + i)) (fun _ => True) := ⟨fun _ _ _ h => h, fun _ _ => Nat.le_refl _, fun _ _ _ _ _ _ y => y⟩
abbrev natV : Nat → V := fun n => .int (n : Int)
def lv : Option Nat → V
  | none => .non
  | some j => natV j
def bt (B : List (Kd × Int)) (x : NK) : Int := ((B.find? fun e => decide (nk e.1 = x)).map (·.2)).getD 0
def ct (C : List (Kd × Nat)) (x : NK) : Option Nat := (C.find? fun e => decide (nk e.1 = x)).map (·.2)
theorem look_ne {α : Type} (B : List (Kd × α)) (x : NK) (k : Kd) (v : α) : ((putG B k v).find? fun e => decide (nk e.1 = x)).map (·.2) = if nk k = x then some v else (B.find? fun e => decide (nk e.1 = x)).map (·.2) := by
  induction B with
  | nil =>
    unfold putG
    rw [List.find?_cons]
    by_cases e : nk k = x <;> simp [e]
  | cons b B ih =>
    obtain ⟨a, u⟩ := b
    unfold putG
    by_cases e : nk a = nk k
    · rw [if_pos e, List.find?_cons, List.find?_cons, e]
      by_cases e2 : nk k = x <;> simp [e2]
    · rw [if_neg e, List.find?_cons, List.find?_cons]
      by_cases e2 : nk a = x
      · have e3 : ¬ nk k = x := fun z => e (e2.trans z.symm)
        simp [e2, e3]
      · simp only [e2, decide_false]
        exact ih
theorem bt_put (B : List (Kd × Int)) (k : Kd) (v : Int) : bt (putG B k v) = setN (bt B) (nk k) v := by
  funext x
  unfold bt setN
  rw [look_ne]
  by_cases e : nk k = x
  · rw [if_pos e, if_pos e]; rfl
  · rw [if_neg e, if_neg e]
theorem ct_put (B : List (Kd × Nat)) (k : Kd) (v : Nat) : ct (putG B k v) = setN (ct B) (nk k) (some v) := by
  funext x
  unfold ct setN
  rw [look_ne]
theorem look_bt {B : List (Kd × Int)} {l : List Kd} {k : Kd} (e : B.map (·.1) = l) (h : ∃ x ∈ l, nk x = nk k) : lookN (asV .int B) k = some (.int (bt B (nk k))) := by
  rw [lookN_asV]
  have s := (lookG_some_iff B k).mpr (e ▸ h)
  unfold lookG at *
  unfold bt
  cases q : B.find? fun e => decide (nk e.1 = nk k) with
  | none => rw [q] at s; cases s
  | some y => rfl
theorem addK_has {l : List Kd} {k : Kd} : ∃ e ∈ addK l k, nk e = nk k := by
  unfold addK
  by_cases c : ∃ e ∈ l, nk e = nk k
  · rw [if_pos c]; exact c
  · rw [if_neg c]; exact ⟨k, by simp, rfl⟩
theorem addK_sub {l : List Kd} {k x : Kd} (h : x ∈ l) : x ∈ addK l k := by
  unfold addK
  by_cases c : ∃ e ∈ l, nk e = nk k
  · rw [if_pos c]; exact h
  · rw [if_neg c]; exact List.mem_append_left _ h
theorem pts_sub (R : List Row) : ∀ (l : List Kd) x, x ∈ l → x ∈ R.foldl (fun l r => addK (addK l r.1) r.2.1) l := by
  induction R with
  | nil => intro l x h; exact h
  | cons r R ih => intro l x h; exact ih _ _ (addK_sub (addK_sub h))
theorem pts_row (R : List Row) : ∀ (l : List Kd) r, r ∈ R → (∃ e ∈ R.foldl (fun l r => addK (addK l r.1) r.2.1) l, nk e = nk r.1) ∧ ∃ e ∈ R.foldl (fun l r => addK (addK l r.1) r.2.1) l, nk e = nk r.2.1 := by
  induction R with
  | nil => intro l r h; cases h
  | cons r0 R ih =>
    intro l r h
    rcases List.mem_cons.mp h with e | h
    · subst e
      obtain ⟨x, hx, ex⟩ := addK_has (l := l) (k := r.1)
      obtain ⟨y, hy, ey⟩ := addK_has (l := addK l r.1) (k := r.2.1)
      exact ⟨⟨x, pts_sub R _ x (addK_sub hx), ex⟩, y, pts_sub R _ y hy, ey⟩
    · exact ih _ _ h
theorem rowN_mem {R : List Row} {j : Nat} (h : j < R.length) : rowN R j ∈ R := by
  unfold rowN
  rw [List.getD_eq_getElem?_getD, List.getElem?_eq_getElem h]
  exact List.getElem_mem h
theorem pts_p {R : List Row} {j : Nat} (h : j < R.length) : ∃ e ∈ ptsOf R, nk e = nk (rowN R j).1 := (pts_row R _ _ (rowN_mem h)).1
theorem pts_q {R : List Row} {j : Nat} (h : j < R.length) : ∃ e ∈ ptsOf R, nk e = nk (rowN R j).2.1 := (pts_row R _ _ (rowN_mem h)).2
theorem keys_in {α : Type} {B : List (Kd × α)} {l : List Kd} {k : Kd} {v : α} (e : B.map (·.1) = l) (h : ∃ x ∈ l, nk x = nk k) : (putG B k v).map (·.1) = l := by
  rw [keys_put, e]
  unfold addK
  rw [if_pos h]
theorem len_putG {α : Type} (B : List (Kd × α)) (k : Kd) (v : α) : (putG B k v).length ≤ B.length + 1 := by
  have h := congrArg List.length (keys_put B k v)
  rw [List.length_map] at h
  rw [h]
  have := len_addK (B.map (·.1)) k
  rw [List.length_map] at this
  exact this
theorem but_new {D p : Addr} {H H' : Hp} {o : HO} (h : But D H H') (hp : H' p = none) : But D H (upd H' p o) := fun a u ne e => by rw [upd_ne (ne_of_none (h a u ne e) hp)]; exact h a u ne e
def MM : Int := 10 ^ 60
theorem MM0 : 0 ≤ MM := by unfold MM; decide
/-- within s steps of 0 -/
def bndN (s : Nat) (β : NK → Int) : Prop := ∀ x, -((s : Int) * MM) ≤ β x ∧ β x ≤ (s : Int) * MM
theorem bnd_mono {s s' : Nat} {β : NK → Int} (h : bndN s β) (l : s ≤ s') : bndN s' β := fun x => by
  have h1 := h x
  have h2 : (s : Int) * MM ≤ (s' : Int) * MM := Int.mul_le_mul_of_nonneg_right (by omega) MM0
  omega
theorem bnd_set {s : Nat} {β : NK → Int} {a b : NK} {m : Int} (h : bndN s β) (hm : -MM ≤ m ∧ m ≤ MM) : bndN (s + 1) (setN β a (β b + m)) := fun x => by
  have e : ((s + 1 : Nat) : Int) * MM = (s : Int) * MM + MM := by rw [Int.natCast_add, Int.add_mul]; simp
  rw [e]
  unfold setN
  have h0 := MM0
  by_cases c : a = x
  · rw [if_pos c]
    have h1 := h b
    omega
  · rw [if_neg c]
    have h1 := h x
    omega
theorem small_MM {i : Int} (h : small i = true) : -MM ≤ i ∧ i ≤ MM := by
  unfold small at h
  have h1 := of_decide_eq_true h
  change (if i < 0 then -i else i) < MM at h1
  by_cases c : i < 0
  · rw [if_pos c] at h1; omega
  · rw [if_neg c] at h1; omega
theorem bt_zero (l : List Kd) (x : NK) : bt (l.map fun p => (p, (0 : Int))) x = 0 := by
  unfold bt
  cases q : (l.map fun p => (p, (0 : Int))).find? fun e => decide (nk e.1 = x) with
  | none => rfl
  | some e =>
    obtain ⟨p, _, e1⟩ := List.mem_map.mp (List.mem_of_find?_eq_some q)
    rw [← e1]; rfl
def spRelax (K : PySem.W.Frag) (w : World) : Sp := fun vs H Q _ => ∃ t b R B, vs = [.ref t, .ref b] ∧ RowsT K H R t ∧ R.length ≤ 60 ∧ TabIs K w H b (asV .int B) ∧ B.map (·.1) = ptsOf R ∧ (∀ x, bt B x = 0) ∧ (∀ r ∈ R, small r.2.2 = true) ∧
  ∀ z H' D (B' : List (Kd × Int)) (C : List (Kd × Nat)) l, But b H H' → Tups K H H' → TabIs K w H' b (asV .int B') → B'.map (·.1) = ptsOf R → bndN 7400 (bt B') → H D = none → D ≠ b → TabIs K w H' D (asV natV C) → SqT K H' z [.ref D, lv l] →
    (∀ j, l = some j → ∃ β L, Pass R ((ptsOf R).length + 1) R.length β (ct C) L (some j)) → Q (.ref z) H'
section
variable {K : PySem.W.Frag} {mg : Str → Option Value} {base : Heap} {P : Program} {w : World}
theorem sc11 : FnScope ["differences", "bounds", "causes", "latest", "_", "k", "one", "other", "most"] ["differences", "bounds"] (defScope (topS 11)) := ⟨rfl, rfl, rfl, by decide +kernel, rfl, by decide +kernel, by decide +kernel⟩
theorem ok11 {f : Addr} {fd : FuncData} (F : Fun K "relaxed" "relaxed" (topS 11) f fd) (B : Blt mg) (c10 : Cal P w K mg base 1 "points_of" (spPts K w)) : FnOk P w K mg base CX0 2 f fd ["differences", "bounds"] (spRelax K w) := by
  refine F.ok sc11 (fun vs H Q E h => ?_) (fun cdv A outer s H vs Q E hr h => ?_)
  · obtain ⟨v, k, _, _, rfl, _⟩ := h
    rfl
  · have hu := hu70 hr
    refine ⟨_, pss_cons (ps_set (i := 2) sc11.nd rfl (Or.inl rfl) pe_dnewM) (pss_cons (ps_set (i := 3) sc11.nd rfl (Or.inl rfl) pe_non)
      (pss_cons (ps_for PassesOwn.never rfl (pi_range1 (by rfl) B.range (pa_cons (pe_op op_add (pe_callB call_len_seq (by rfl) B.len boot_len (pa_cons (pe_c c10 hr (by decide) (by rfl) (pa_cons (pv 0) pa_nil)) pa_nil)) pe_int) pa_nil)) (pg_name (i := 4) sc11.nd rfl (Or.inl rfl))
        (pss_cons (ps_set (i := 3) sc11.nd rfl (Or.inl rfl) pe_non)
        (pss_cons (ps_for PassesOwn.never rfl (pi_range1 (by rfl) B.range (pa_cons (pe_callB call_len_seq (by rfl) B.len boot_len (pa_cons (pv 0) pa_nil)) pa_nil)) (pg_name (i := 5) sc11.nd rfl (Or.inl rfl))
          (pss_cons (ps_asg (pe_ix ix_tup (pv 0) (pv 5) (fun _ _ => rfl)) (pg_tup rfl (pgs_cons (pg_name (i := 6) sc11.nd rfl (Or.inl rfl)) (pgs_cons (pg_name (i := 7) sc11.nd rfl (Or.inl rfl)) (pgs_cons (pg_name (i := 8) sc11.nd rfl (Or.inl rfl)) pgs_nil)))))
          (pss_one (ps_if (pw_and (pt_cmpR (op_inM (hu9 hu)) (pv 7) (pv 1) rfl) (pw_and1 (pw_or (pt_cmpR (op_notInM (hu9 hu)) (pv 6) (pv 1) rfl) (pw_or1 (pt_cmpR op_gt (pe_ix (ix_md (hu9 hu)) (pv 1) (pv 6) (fun _ _ => rfl)) (pe_op op_add (pe_ix (ix_md (hu9 hu)) (pv 1) (pv 7) (fun _ _ => rfl)) (pv 8)) (nomark _)))).pt)).pt
            (pss_cons (ps_asg (pe_op op_add (pe_ix (ix_md (hu9 hu)) (pv 1) (pv 7) (fun _ _ => rfl)) (pv 8)) (pg_sub (pv 1) (pv 6) (set_md (hu9 hu)))) (pss_cons (ps_asg (pv 5) (pg_sub (pv 2) (pv 6) (set_md (hu9 hu)))) (pss_one (ps_set (i := 3) sc11.nd rfl (Or.inl rfl) (pv 5))))) pss_nil))))
        (pss_one (ps_if (pt_cmpR op_isN (pv 3) pe_non (nomark _)) (pss_one ps_break) pss_nil)))))
      (pss_one (ps_ret (pe_tup (pa_cons (pv 2) (pa_cons (pv 3) pa_nil))))))), ?_⟩
    obtain ⟨t, b, R, B0, rfl, ⟨vs, st, pr⟩, hl, tb, hk, hz0, hsm, q⟩ := h
    intro D hD
    have hb : H b ≠ none := by obtain ⟨xs, e, _⟩ := tb; rw [e]; exact fun z => nomatch z
    have nDb : D ≠ b := fun z => hb (z ▸ hD)
    have t0 : Tups K H (upd H D (MD w D [])) := Tups.same (same_new hD)
    have tb0 : TabIs K w (upd H D (MD w D [])) b (asV .int B0) := tb.mono t0 (upd_ne (Ne.symm nDb))
    have tc0 : TabIs K w (upd H D (MD w D [])) D (asV natV []) := ⟨[], upd_same, .nil⟩
    have b0 : But b H (upd H D (MD w D [])) := fun x o _ e => same_new hD x o e
    refine ⟨_, rfl, t, R, rfl, ⟨vs, t0 _ _ st, Paired.mapP pr fun _ _ h => h.mono t0⟩, hl, fun pl H1 s1 hpl ⟨ys, hys, pys⟩ => ?_⟩
    refine ⟨pl, ys, rfl, .inl (.inl (.inl hys)), _, _, rfl, rfl, _, rfl, ?_⟩
    have lys : ys.length = (ptsOf R).length := (paired_len pys).symm
    have lN := len_pts R
    have lvs : vs.length = R.length := (paired_len pr).symm
    rw [lys]
    have t1 := t0.trans (Tups.same (K := K) s1)
    have tb1 := tb0.mono (Tups.same s1) (by rw [tb0.choose_spec.1]; exact s1 _ _ tb0.choose_spec.1)
    have tc1 := tc0.same s1
    have b1 : But b H H1 := fun x o ne e => s1 x o (b0 x o ne e)
    have eN : ((((ptsOf R).length : Nat) : Int) + 1).toNat = (ptsOf R).length + 1 := by omega
    refine ⟨by omega, by omega, ?_⟩
    rw [eN]
    generalize hN : (ptsOf R).length = N at *
    refine for_steady steady_rng (fun i σ H' => ∃ (BI : List (Kd × Int)) (C : List (Kd × Nat)) (L : NK → Nat) (l : Option Nat) (z0 z1 z2 z3 z4 : Option V), σ = [some (.ref t), some (.ref b), some (.ref D), some (lv l), z0, z1, z2, z3, z4] ∧ But b H H' ∧ Tups K H H' ∧
      TabIs K w H' b (asV .int BI) ∧ TabIs K w H' D (asV natV C) ∧ BI.map (·.1) = ptsOf R ∧ C.length ≤ i * 60 ∧ bndN (i * 60) (bt BI) ∧ Pass R (i + 1) 0 (bt BI) (ct C) L none ∧ (1 ≤ i → ∃ j, l = some j ∧ Pass R i R.length (bt BI) (ct C) L (some j)))
      ⟨B0, [], fun _ => 0, none, _, _, _, _, _, rfl, b1, t1, tb1, tc1, hk, by simp, fun x => by rw [hz0 x]; simp, Pass.start R _, fun h => absurd h (by decide)⟩ (fun _ _ _ _ _ => trivial) ?_ ?_
    · rintro i σ H2 hi ⟨BI, C, L, l, z0, z1, z2, z3, z4, rfl, b2, t2, tb2, tc2, hk2, hc2, hb2, ps2, _⟩
      refine ⟨_, rfl, t, vs, rfl, .inr (t2 _ _ st), _, rfl, by omega, by omega, ?_⟩
      have en : ((vs.length : Nat) : Int).toNat = R.length := by rw [← paired_len pr]; omega
      rw [en]
      refine for_steady steady_rng (fun k σ H' => ∃ (BI : List (Kd × Int)) (C : List (Kd × Nat)) (L : NK → Nat) (l : Option Nat) (z0 z1 z2 z3 z4 : Option V), σ = [some (.ref t), some (.ref b), some (.ref D), some (lv l), z0, z1, z2, z3, z4] ∧ But b H H' ∧ Tups K H H' ∧
        TabIs K w H' b (asV .int BI) ∧ TabIs K w H' D (asV natV C) ∧ BI.map (·.1) = ptsOf R ∧ C.length ≤ i * 60 + k ∧ bndN (i * 60 + k) (bt BI) ∧ Pass R (i + 1) k (bt BI) (ct C) L l)
        ⟨BI, C, L, none, _, _, _, _, _, rfl, b2, t2, tb2, tc2, hk2, hc2, hb2, ps2⟩ (fun _ _ _ _ _ => trivial) ?_ ?_
      · rintro k σ H3 hi3 ⟨BI, C, L, l, z0, z1, z2, z3, z4, rfl, b3, t3, tb3, tc3, hk3, hc3, hb3, ps3⟩
        obtain ⟨u, x, y, eu, su, kx, ky⟩ := (paired_getD pr (a0 := (.no, .no, 0)) (b0 := .non) hi3).mono t3
        have hvs : vs[k]? = some (.ref u) := by
          rw [← eu, List.getD_eq_getElem?_getD, List.getElem?_eq_getElem (by rw [← paired_len pr]; exact hi3)]; rfl
        have hat : atI vs (0 + (k : Int)) = some (.ref u) := by rw [Int.zero_add]; exact atI_nat hvs
        refine ⟨_, rfl, _, rfl, t, vs, _, _, rfl, rfl, t3 _ _ st, hat, ?_⟩
        refine ⟨u, _, rfl, su, rfl, _, _, rfl, _, _, rfl, _, _, rfl, rfl, ?_⟩
        have lx := look_bt hk3 (pts_p hi3)
        have ly := look_bt hk3 (pts_q hi3)
        refine ⟨_, rfl, _, rfl, in_tab tb3 ky ?_⟩
        rw [ly]
        refine ⟨_, rfl, iteT ⟨_, rfl, _, rfl, in_tab tb3 kx ?_⟩⟩
        rw [lx]
        refine ⟨_, rfl, iteF ⟨_, rfl, _, rfl, ix_tab tb3 kx lx ⟨_, rfl, _, rfl, ix_tab tb3 ky ly ⟨_, rfl, _, _, rfl, rfl, _, _, rfl, rfl, _, rfl, ?_⟩⟩⟩⟩
        by_cases c : bt BI (qN R k) + mN R k < bt BI (pN R k)
        · rw [decide_eq_true c]
          have lC : C.length < sizeLine := by rw [sizeLine_eq]; omega
          have lB : BI.length < sizeLine := by
            have h9 := congrArg List.length hk3
            rw [List.length_map] at h9
            rw [sizeLine_eq]
            omega
          refine iteT ⟨_, rfl, _, rfl, ix_tab tb3 ky ly ⟨_, rfl, _, _, rfl, rfl, _, rfl, _, rfl, set_tab tb3 kx (by rw [len_asV]; exact lB) fun H4 b4 t4 tb4 => ?_⟩⟩
          rw [putN_asV] at tb4
          have tc4 := tc3.mono t4 (by rw [tc3.choose_spec.1]; exact b4 _ _ nDb tc3.choose_spec.1)
          refine ⟨_, rfl, _, rfl, _, rfl, set_tab tc4 (kx.mono t4) (by rw [len_asV]; exact lC) fun H5 b5 t5 tc5 => ?_⟩
          rw [Int.zero_add, putN_asV natV] at tc5
          have tb5 := tb4.mono t5 (by rw [tb4.choose_spec.1]; exact b5 _ _ (Ne.symm nDb) tb4.choose_spec.1)
          refine ⟨_, rfl, ?_⟩
          rw [Int.zero_add]
          refine ⟨_, _, setN L (pN R k) (i + 1), some k, _, _, _, _, _, rfl, fun a o ne e => b5 a o (ne_of_none e hD) (b4 a o ne (b3 a o ne e)), (t3.trans t4).trans t5, tb5, tc5, keys_in hk3 (pts_p hi3), ?_, ?_, ?_⟩
          · exact Nat.le_trans (len_putG _ _ _) (by omega)
          · rw [bt_put]
            exact bnd_set hb3 (small_MM (hsm _ (rowN_mem hi3)))
          · rw [bt_put, ct_put]
            exact ps3.low hi3 (by omega) c
        · rw [decide_eq_false c]
          exact iteF ⟨BI, C, L, l, _, _, _, _, _, rfl, b3, t3, tb3, tc3, hk3, by omega, bnd_mono hb3 (by omega), ps3.stay (by omega)⟩
      · rintro σ H3 ⟨BI, C, L, l, z0, z1, z2, z3, z4, rfl, b3, t3, tb3, tc3, hk3, hc3, hb3, ps3⟩
        refine ⟨_, rfl, rfl, _, rfl, ?_⟩
        cases l with
        | none =>
          refine iteT ⟨_, rfl, _, rfl, ?_, fun z hz => ?_⟩
          · rw [sizeLine_eq]; exact (by decide : (2 : Nat) ≤ 16777216)
          · have sm := same_new (o := .tup [V.ref D, V.non]) hz
            exact q z _ D BI C none (but_new b3 hz) (t3.trans (.same sm)) (tb3.same sm) hk3 (bnd_mono hb3 (by omega)) hD nDb (tc3.same sm) (.inl (.inl upd_same)) fun _ h => nomatch h
        | some j =>
          refine iteF ⟨BI, C, L, some j, _, _, _, _, _, rfl, b3, t3, tb3, tc3, hk3, by omega, bnd_mono hb3 (by omega), Pass.next ps3, fun _ => ⟨j, rfl, ps3⟩⟩
    · rintro σ H3 ⟨BI, C, L, l, z0, z1, z2, z3, z4, rfl, b3, t3, tb3, tc3, hk3, hc3, hb3, ps3, hj⟩
      obtain ⟨j, rfl, pj⟩ := hj (by omega)
      refine ⟨_, rfl, _, rfl, ?_, fun z hz => ?_⟩
      · rw [sizeLine_eq]; exact (by decide : (2 : Nat) ≤ 16777216)
      · have sm := same_new (o := .tup [V.ref D, natV j]) hz
        exact q z _ D BI C (some j) (but_new b3 hz) (t3.trans (.same sm)) (tb3.same sm) hk3 (bnd_mono hb3 (by omega)) hD nDb (tc3.same sm) (.inl (.inl upd_same)) fun j' h => ⟨bt BI, L, by rw [← h]; exact pj⟩
end
end Fc
namespace Fc
open PySem L2 PyProof.Rows
theorem pts_nd (R : List Row) : ((ptsOf R).map nk).Nodup := by
  have one : ∀ (l : List Kd) (k : Kd), (l.map nk).Nodup → ((addK l k).map nk).Nodup := fun l k h => by
    unfold addK
    by_cases c : ∃ e ∈ l, nk e = nk k
    · rw [if_pos c]; exact h
    · rw [if_neg c, List.map_append, List.nodup_append]
      refine ⟨h, by simp, fun a ha b hb => ?_⟩
      obtain ⟨e, he, e1⟩ := List.mem_map.mp ha
      rw [List.map_cons, List.map_nil, List.mem_singleton] at hb
      subst hb
      exact fun z => c ⟨e, he, e1.trans z⟩
  have gen : ∀ (R : List Row) (l : List Kd), (l.map nk).Nodup → ((R.foldl (fun l r => addK (addK l r.1) r.2.1) l).map nk).Nodup := by
    intro R
    induction R with
    | nil => intro l h; exact h
    | cons r R ih => intro l h; exact ih _ (one _ _ (one _ _ h))
  exact gen R _ (by simp)
theorem addK_new {l : List Kd} {k : Kd} (h : nk k ∉ l.map nk) : addK l k = l ++ [k] := by
  unfold addK
  rw [if_neg]
  rintro ⟨e, he, ee⟩
  exact h (List.mem_map.mpr ⟨e, he, ee⟩)
theorem putN_new {B : List (Kd × V)} {k : Kd} {v : V} (h : nk k ∉ (B.map (·.1)).map nk) : putN B k v = B ++ [(k, v)] := by
  induction B with
  | nil => rfl
  | cons b B ih =>
    obtain ⟨a, u⟩ := b
    unfold putN
    rw [List.map_cons, List.map_cons, List.mem_cons, not_or] at h
    rw [if_neg (fun e => h.1 e.symm), ih h.2]
    rfl
theorem nodup_take_getD {l : List Kd} {i : Nat} {k0 : Kd} (nd : (l.map nk).Nodup) (h : i < l.length) : nk (l.getD i k0) ∉ (l.take i).map nk := by
  have e : l.getD i k0 = l[i] := by rw [List.getD_eq_getElem?_getD, List.getElem?_eq_getElem h]; rfl
  rw [e]
  have s : l.map nk = (l.take i).map nk ++ (nk l[i] :: (l.drop (i + 1)).map nk) := by
    rw [← List.map_cons, ← List.map_append]
    congr 1
    rw [← List.drop_eq_getElem_cons h, List.take_append_drop]
  rw [s, List.nodup_append] at nd
  intro z
  exact nd.2.2 _ z _ (by simp) rfl
theorem getD_mem {l : List Kd} {n : Nat} {k : Kd} (h : n < l.length) : l.getD n k ∈ l := by
  rw [List.getD_eq_getElem?_getD, List.getElem?_eq_getElem h]
  exact List.getElem_mem h
theorem tC_i {v : V} {σ : L2.St} {H : Hp} {Q : VK} (h : Q v H) : tC v σ H Q := h
/-- a table that may be read -/
def TabRd (K : PySem.W.Frag) (w : World) (H : Hp) (D : Addr) (B : List (Kd × V)) : Prop := ∃ xs, TabAt K w H D xs ∧ Paired (TabR K H) B xs
theorem ix_rd {K : PySem.W.Frag} {w : World} {H : Hp} {D : Addr} {B : List (Kd × V)} {k : Kd} {kv v : V} {Q : VK} (tb : TabRd K w H D B) (hk : KdV K H k kv) (hv : lookN B k = some v) (q : Q v H) : rIxM K w (.ref D) kv H Q := by
  obtain ⟨xs, ta, p⟩ := tb
  exact ⟨D, xs, nk k, v, rfl, ta, hk.key, by rw [tabR_val p]; exact hv, q⟩
theorem in_rd {K : PySem.W.Frag} {w : World} {H : Hp} {D : Addr} {B : List (Kd × V)} {k : Kd} {kv : V} {g : Bool → Bool} {Q : VK} (tb : TabRd K w H D B) (hk : KdV K H k kv) (q : Q (.bl (g (lookN B k).isSome)) H) : rInM K w g kv (.ref D) H Q := by
  obtain ⟨xs, ta, p⟩ := tb
  exact ⟨D, xs, nk k, rfl, ta, hk.key, by rw [tabR_val p]; exact q⟩
theorem TabRd.mono {K : PySem.W.Frag} {w : World} {H H' : Hp} {D : Addr} {B : List (Kd × V)} (t : TabRd K w H D B) (tp : Tups K H H') (e : ∀ u, Rd H D u → Rd H' D u) : TabRd K w H' D B := let ⟨xs, h, p⟩ := t; ⟨xs, h.mono tp (e _ h.md), tabR_mono tp p⟩
theorem rd_same {H H' : Hp} (s : Same H H') {D : Addr} : ∀ u, Rd H D u → Rd H' D u := fun u r => r.elim (fun e => .inl (s _ _ e)) fun ⟨o, e⟩ => .inr ⟨o, s _ _ e⟩
theorem TabRd.same {K : PySem.W.Frag} {w : World} {H H' : Hp} {D : Addr} {B : List (Kd × V)} (t : TabRd K w H D B) (s : Same H H') : TabRd K w H' D B := t.mono (.same s) (rd_same s)
theorem keys_zero {α : Type} (l : List Kd) (f : Kd → α) : (l.map fun p => (p, f p)).map (·.1) = l := by
  rw [List.map_map]
  exact List.map_id l
/-- {p: f(p) for p in ..} -/
theorem dc_tab {K : PySem.W.Frag} {w : World} {J : It} {it : Nat → V} {G : Hp → Prop} {tv : TE} {i : Nat} {σ : L2.St} {H1 : Hp} {D : Addr} {Qd : Hp → Prop} {pts : List Kd} (f : Kd → Int) (S : Steady J pts.length it G) (hG : ∀ H, Same H1 H → G H) (hi : i < σ.length)
    (py : ∀ n, n < pts.length → KdV K H1 (pts.getD n .no) (it n)) (nd : (pts.map nk).Nodup) (hl : pts.length ≤ 200) (hD : H1 D = none)
    (hv : ∀ n H Q, n < pts.length → Same H1 H → Q (.int (f (pts.getD n .no))) H → tv ((wipe σ [i]).set i (some (it n))) H Q)
    (hd : ∀ H', Same H1 H' → TabIs K w H' D (asV .int (pts.map fun p => (p, f p))) → Qd H') :
    ∃ W : Nat → Nat → Hp → Prop, (∃ m, W 0 m (upd H1 D (MD w D []))) ∧ ∀ n m H, W n m H → (J.stop n H ∧ Qd H) ∨
      (J.go n H ∧ ∃ Nx : Hp → Prop, (∀ H', Nx H' → ∃ m', m' < m ∧ W (n + 1) m' H') ∧ ∀ x H', J.yld n H x H' → gName i x (wipe σ [i]) H' fun σ2 H2 => wipe σ2 [i] = wipe σ [i] ∧
        tVar i σ2 H2 fun y H4 => tv σ2 H4 fun z H5 => ∃ xs k, H5 D = some (MD w D xs) ∧ (∀ x ∈ xs, KeyV K H5 x.1 x.2.1) ∧ KeyV K H5 k y ∧ xs.length < sizeLine ∧ Nx (upd H5 D (MD w D (putM xs k y z)))) := by
  refine dc_steady S (fun n H => Same H1 H ∧ TabIs K w H D (asV .int ((pts.take n).map fun p => (p, f p)))) ⟨same_new hD, [], upd_same, .nil⟩ (fun _ _ _ h => hG _ h.1) (fun n H hn' h => ?_) fun H h => ?_
  · obtain ⟨sm, xs, hx, pp⟩ := h
    have w1 : wipe ((wipe σ [i]).set i (some (it n))) [i] = wipe σ [i] := by
      show ((σ.set i none).set i (some _)).set i none = σ.set i none
      rw [List.set_set, List.set_set]
    have w2 : ((wipe σ [i]).set i (some (it n)))[i]? = some (some (it n)) := by
      show ((σ.set i none).set i (some _))[i]? = _
      rw [List.getElem?_set_self (by rw [List.length_set]; exact hi)]
    refine ⟨w1, it n, w2, hv n H _ hn' sm ?_⟩
    have kk := (py n hn').mono (Tups.same sm)
    have lx : xs.length = n := by
      have := paired_len pp
      rw [len_asV, List.length_map, List.length_take] at this
      omega
    refine ⟨xs, nk (pts.getD n .no), hx, tabR_keys pp, kk.key, by rw [lx, sizeLine_eq]; omega, ?_⟩
    have tp : Tups K H (upd H D (MD w D (putM xs (nk (pts.getD n .no)) (it n) (.int (f (pts.getD n .no)))))) := Tups.upd fun u e => by rw [hx] at e; cases e; exact True.intro
    refine ⟨fun b o e => by rw [upd_ne (ne_of_none e hD)]; exact sm b o e, _, upd_same, tabR_mono tp ?_⟩
    have pq := tabR_put kk (v := V.int (f (pts.getD n .no))) pp
    rw [putN_new] at pq
    · have e : asV V.int ((pts.take (n + 1)).map fun p => (p, f p)) = asV V.int ((pts.take n).map fun p => (p, f p)) ++ [(pts.getD n .no, .int (f (pts.getD n .no)))] := by
        rw [take_snoc hn', List.map_append]
        unfold asV
        rw [List.map_append]
        rfl
      rw [e]
      exact pq
    · rw [keys_asV, keys_zero]
      exact nodup_take_getD nd hn'
  · rw [List.take_of_length_le (Nat.le_refl _)] at h
    exact hd H h.1 h.2
theorem tups_upd {K : PySem.W.Frag} {H : Hp} {a : Addr} {o : HO} (h : ∀ ys, ¬ Rd H a (.tup ys)) : Tups K H (upd H a o) := .of fun b ys r => by
  have ne : b ≠ a := fun z => h ys (z ▸ r)
  rcases r with r | ⟨ob, r⟩
  · exact .inl (by rw [upd_ne ne]; exact r)
  · exact .inr ⟨ob, by rw [upd_ne ne]; exact r⟩
theorem md_notup {w : World} {H : Hp} {D : Addr} {xs : List Ent} (h : H D = some (MD w D xs)) : ∀ ys, ¬ Rd H D (.tup ys) := fun ys r => by
  rcases r with r | ⟨o, r⟩
  · rw [h] at r; cases r
  · rw [h] at r; cases r
theorem frz_notup {w : World} {H : Hp} {D : Addr} {od : Obj} {xs : List Ent} (h : H D = some (.frz od (MD w D xs))) : ∀ ys, ¬ Rd H D (.tup ys) := fun ys r => by
  rcases r with r | ⟨o, r⟩
  · rw [h] at r; cases r
  · rw [h] at r; injection r with r; injection r with _ r; cases r
/-- the table at D locked -/
theorem rd_frz {H : Hp} {D : Addr} {od : Obj} {u : HO} : Rd (upd H D (.frz od u)) D u := .inr ⟨od, upd_same⟩
def midI (v : Int) : Prop := -(14800 * MM) ≤ v ∧ v ≤ 14800 * MM
def spNums (K : PySem.W.Frag) (w : World) : Sp := fun vs H Q _ => ∃ t R, vs = [.ref t] ∧ RowsT K H R t ∧ R.length ≤ 60 ∧ (∀ r ∈ R, small r.2.2 = true) ∧ (∀ H', Same H H' → Q .non H') ∧
  ∀ D H' (B : List (Kd × Int)), Same H H' → H D = none → TabIs K w H' D (asV .int B) → B.map (·.1) = ptsOf R → (∀ e ∈ B, midI e.2) → Q (.ref D) H'
section
variable {K : PySem.W.Frag} {mg : Str → Option Value} {base : Heap} {P : Program} {w : World}
abbrev n12 : List Str := ["differences", "bounds", "_", "latest", "point"]
theorem sc12 : FnScope n12 ["differences"] (defScope (topS 12)) := ⟨rfl, rfl, rfl, by decide +kernel, rfl, by decide +kernel, by decide +kernel⟩
theorem ok12 {f : Addr} {fd : FuncData} (F : Fun K "numbers_that_fit" "numbers_that_fit" (topS 12) f fd) (B : Blt mg) (c10 : Cal P w K mg base 1 "points_of" (spPts K w)) (c11 : Cal P w K mg base 2 "relaxed" (spRelax K w)) : FnOk P w K mg base CX0 3 f fd ["differences"] (spNums K w) := by
  refine F.ok sc12 (fun vs H Q E h => ?_) (fun cdv A outer s H vs Q E hr h => ?_)
  · obtain ⟨t, R, rfl, _⟩ := h
    rfl
  · have hu := hu70 hr
    refine ⟨_, pss_cons (ps_set (i := 1) sc12.nd rfl (Or.inr rfl) (pe_dcM (own := [("point", 4)]) (g := gName 4) (hu9 hu) (by rfl) sc12.nd (pi_list (pe_c c10 hr (by decide) (by rfl) (pa_cons (pv 0) pa_nil))) (blkOk_by (N := n12) (sc := defScope (topS 12)) (by decide +kernel))
        (fun _ _ _ _ _ => pg_name (i := 4) sc12.nd rfl (Or.inl rfl)) (fun _ _ _ _ _ => pv 4) (fun _ _ _ _ _ => pe_int)))
      (pss_cons (ps_asg (pe_c c11 hr (by decide) (by rfl) (pa_cons (pv 0) (pa_cons (pv 1) pa_nil))) (pg_tup rfl (pgs_cons (pg_name (i := 2) sc12.nd rfl (Or.inl rfl)) (pgs_cons (pg_name (i := 3) sc12.nd rfl (Or.inl rfl)) pgs_nil))))
      (pss_cons (ps_if (pt_cmpR op_notN (pv 3) pe_non (nomark _)) (pss_one (ps_ret pe_non)) pss_nil)
      (pss_one (ps_ret (pe_lock (pe_dcM (own := [("point", 4)]) (g := gName 4) (hu9 hu) (by rfl) sc12.nd (pi_keyM (pv 1)) (blkOk_by (N := n12) (sc := defScope (topS 12)) (by decide +kernel))
        (fun _ _ _ _ _ => pg_name (i := 4) sc12.nd rfl (Or.inl rfl)) (fun _ _ _ _ _ => pv 4) (fun _ _ _ _ _ => pe_op op_sub (pe_ix (r := rIxM K w) (ix_md (hu9 hu)) (pv 1) (pv 4) (fun _ _ => rfl)) (pe_ix (r := rIxM K w) (ix_md (hu9 hu)) (pv 1) pe_str (fun _ _ => rfl))))))))), ?_⟩
    obtain ⟨t, R, rfl, ⟨vs, st, pr⟩, hl, hsm, q0, q⟩ := h
    have lN := len_pts R
    have nd := pts_nd R
    refine ⟨_, rfl, t, R, rfl, ⟨vs, st, pr⟩, hl, fun pl H1 s1 hpl ⟨ys, hys, py⟩ => ⟨pl, rfl, ⟨ys, .inl (.inl hys)⟩, fun D hD => ?_⟩⟩
    have ly := paired_len py
    have S := steady_list (K := K) (a := pl) (xs := ys)
    rw [← ly] at S
    refine dc_tab (fun _ => 0) (pts := ptsOf R) S (fun H' h => .inl (.inl (h _ _ hys))) (by exact (by decide : 4 < 5)) (fun n hn => paired_getD py hn) nd (by omega) hD (fun n H Q hn _ q => q) fun H2 s2 tb2 => ?_
    have s12 : Same H H2 := s1.trans s2
    have hDH : H D = none := s1.free hD
    refine ⟨_, rfl, _, rfl, t, D, R, _, rfl, ⟨vs, Tups.same s12 _ _ st, Paired.mapP pr fun _ _ h => h.mono (.same s12)⟩, hl, tb2, keys_zero _ _, bt_zero _, hsm, fun z H3 D3 B' C l b3 t3 tb3 hk3 hbd hD3 nD tc3 sz hp => ?_⟩
    have s3 : Same H H3 := fun a o e => b3 a o (ne_of_none e hDH) (s12 a o e)
    refine ⟨z, _, rfl, sz, rfl, _, _, rfl, _, _, rfl, rfl, _, rfl, rfl, _, rfl, ?_⟩
    cases l with
    | some j => exact iteT (q0 _ s3)
    | none =>
      obtain ⟨xs, hx, pp⟩ := tb3
      refine iteF ⟨D, _, hx, True.intro, fun od => ⟨_, rfl, D, od, xs, rfl, upd_same, fun D4 hD4 => ?_⟩⟩
      have nD4 : D4 ≠ D := fun z => by rw [z, upd_same] at hD4; cases hD4
      have tf : Tups K H3 (upd H3 D (.frz od (MD w D xs))) := tups_upd (md_notup hx)
      have rd : TabRd K w (upd H3 D (.frz od (MD w D xs))) D (asV .int B') := ⟨xs, ⟨rd_frz, tabR_keys (tabR_mono tf pp)⟩, tabR_mono tf pp⟩
      have kx := keys_of_tab (tabR_mono tf pp)
      rw [keys_asV, hk3] at kx
      have lx := paired_len kx
      rw [List.length_map] at lx
      have S2 := steady_key (w := w) (d := D) (o := od) (xs := xs)
      rw [← lx] at S2
      refine dc_tab (fun p => bt B' (nk p) - bt B' (nk (.w ""))) (pts := ptsOf R) S2 (fun H' h => h _ _ upd_same) (by exact (by decide : 4 < 5)) (fun n hn => paired_getD kx hn) nd (by omega) hD4 (fun n H Q hn sm q => ?_) fun H5 s5 tb5 => ⟨s5 _ _ upd_same, ?_⟩
      · have kk := (paired_getD kx (a0 := .no) (b0 := .non) hn).mono (Tups.same sm)
        refine ⟨_, rfl, _, rfl, ix_rd (rd.same sm) kk (look_bt hk3 ⟨_, getD_mem hn, rfl⟩) ⟨_, rfl, ?_⟩⟩
        have e0 : lookN (asV .int B') (.w "") = some (.int (bt B' (nk (.w "")))) := look_bt hk3 ⟨.w "", pts_sub R _ _ (by simp), rfl⟩
        refine tC_i ?_
        refine ix_rd (rd.same sm) (k := .w "") rfl e0 ?_
        exact ⟨_, _, rfl, rfl, q⟩
      · have t5 : Tups K H5 (upd H5 D (MD w D xs)) := tups_upd (frz_notup (s5 _ _ upd_same))
        refine q D4 _ _ (fun a o e => ?_) ?_ (tb5.mono t5 (upd_ne nD4)) (keys_zero _ _) fun e he => ?_
        · have na := ne_of_none e hDH
          rw [upd_ne na]
          refine s5 a o ?_
          rw [upd_ne na]
          exact s3 a o e
        · rw [upd_ne nD4] at hD4
          exact s3.free hD4
        · obtain ⟨p, _, e1⟩ := List.mem_map.mp he
          rw [← e1]
          have h1 := hbd (nk p)
          have h2 := hbd (nk (.w ""))
          unfold midI
          simp only at h1 h2 ⊢
          omega
end
end Fc
namespace Fc
open PySem L2 PyProof.Rows
theorem look_ct {C : List (Kd × Nat)} {k : Kd} {j : Nat} (h : ct C (nk k) = some j) : lookN (asV natV C) k = some (natV j) := by
  rw [lookN_asV]
  have e : lookG C k = ct C (nk k) := rfl
  rw [e, h]; rfl
theorem vs_at {K : PySem.W.Frag} {H : Hp} {R : List Row} {vs : List V} (pr : Paired (RowV K H) R vs) {j : Nat} (hj : j < R.length) : ∃ u x y, vs[j]? = some (.ref u) ∧ SqT K H u [x, y, .int (mN R j)] ∧ KdV K H (rowN R j).1 x ∧ KdV K H (rowN R j).2.1 y := by
  obtain ⟨u, x, y, eu, su, kx, ky⟩ := paired_getD pr (a0 := (.no, .no, 0)) (b0 := .non) hj
  refine ⟨u, x, y, ?_, su, kx, ky⟩
  rw [← eu, List.getD_eq_getElem?_getD, List.getElem?_eq_getElem (by rw [← paired_len pr]; exact hj)]; rfl
theorem walk_step {K : PySem.W.Frag} {w : World} {H : Hp} {t D : Addr} {vs : List V} {R : List Row} {C : List (Kd × Nat)} {j j' : Nat} {Q : VK} {σ : L2.St} (st : SqT K H t vs) (pr : Paired (RowV K H) R vs) (tc : TabIs K w H D (asV natV C)) (hj : j < R.length) (hc : ct C (qN R j) = some j')
    (h0 : σ[0]? = some (some (.ref t))) (h2 : σ[2]? = some (some (.ref D))) (h4 : σ[4]? = some (some (natV j))) (q : Q (natV j') H) : tOp (rIxM K w) (tVar 2) (tOp (rIxT K) (tOp (rIxT K) (tVar 0) (tVar 4)) (tC (.int 1))) σ H Q := by
  obtain ⟨u, x, y, eu, su, kx, ky⟩ := vs_at pr hj
  exact ⟨_, h2, _, h0, _, h4, t, vs, _, .ref u, rfl, rfl, st, atI_nat eu, u, _, 1, y, rfl, rfl, su, atI_nat (j := 1) rfl, ix_tab tc ky (look_ct hc) q⟩
def spFound (K : PySem.W.Frag) (w : World) : Sp := fun vs H Q _ => ∃ t R, vs = [.ref t] ∧ RowsT K H R t ∧ R.length ≤ 60 ∧ (∀ r ∈ R, small r.2.2 = true) ∧ (∀ H', Same H H' → Q .non H') ∧
  ∀ p H' (js : List Nat), Same H H' → H p = none → js ≠ [] → js.length ≤ 200 → (∀ j ∈ js, j < R.length) → H' p = some (.lst (js.map natV)) → Q (.ref p) H'
section
variable {K : PySem.W.Frag} {mg : Str → Option Value} {base : Heap} {P : Program} {w : World}
abbrev n13 : List Str := ["differences", "bounds", "causes", "latest", "index", "_", "indices", "point"]
theorem sc13 : FnScope n13 ["differences"] (defScope (topS 13)) := ⟨rfl, rfl, rfl, by decide +kernel, rfl, by decide +kernel, by decide +kernel⟩
theorem ok13 {f : Addr} {fd : FuncData} (F : Fun K "found_ring" "found_ring" (topS 13) f fd) (B : Blt mg) (c10 : Cal P w K mg base 1 "points_of" (spPts K w)) (c11 : Cal P w K mg base 2 "relaxed" (spRelax K w)) : FnOk P w K mg base CX0 3 f fd ["differences"] (spFound K w) := by
  refine F.ok sc13 (fun vs H Q E h => ?_) (fun cdv A outer s H vs Q E hr h => ?_)
  · obtain ⟨t, R, rfl, _⟩ := h
    rfl
  · have hu := hu70 hr
    refine ⟨_, pss_cons (ps_setDcM (i := 1) (own := [("point", 7)]) (g := gName 7) (hu9 hu) (by rfl) sc13.nd rfl rfl (sw_trueD rfl rfl rfl (by decide +kernel)) (pi_list (pe_c c10 hr (by decide) (by rfl) (pa_cons (pv 0) pa_nil))) (blkOk_by (N := n13) (sc := defScope (topS 13)) (by decide +kernel))
        (fun _ _ _ _ _ => pg_name (i := 7) sc13.nd rfl (Or.inl rfl)) (fun _ _ _ _ _ => pv 7) (fun _ _ _ _ _ => pe_int))
      (pss_cons (ps_asg (pe_c c11 hr (by decide) (by rfl) (pa_cons (pv 0) (pa_cons (pv 1) pa_nil))) (pg_tup rfl (pgs_cons (pg_name (i := 2) sc13.nd rfl (Or.inl rfl)) (pgs_cons (pg_name (i := 3) sc13.nd rfl (Or.inl rfl)) pgs_nil))))
      (pss_cons (ps_if (pt_cmpR op_isN (pv 3) pe_non (nomark _)) (pss_one (ps_ret pe_non)) pss_nil)
      (pss_cons (ps_set (i := 4) sc13.nd rfl (Or.inl rfl) (pv 3))
      (pss_cons (ps_for PassesOwn.never rfl (pi_range1 (by rfl) B.range (pa_cons (pe_callB call_lenM (by rfl) B.len boot_len (pa_cons (pv 1) pa_nil)) pa_nil)) (pg_name (i := 5) sc13.nd rfl (Or.inl rfl))
        (pss_one (ps_set (i := 4) sc13.nd rfl (Or.inl rfl) (pe_ix (ix_md (hu9 hu)) (pv 2) (pe_ix ix_tup (pe_ix ix_tup (pv 0) (pv 4) (fun _ _ => rfl)) pe_int (fun _ _ => rfl)) (fun _ _ => rfl)))))
      (pss_cons (ps_set (i := 6) sc13.nd rfl (Or.inl rfl) (pe_lst (pa_cons (pv 4) pa_nil)))
      (pss_cons (ps_set (i := 4) sc13.nd rfl (Or.inl rfl) (pe_ix (ix_md (hu9 hu)) (pv 2) (pe_ix ix_tup (pe_ix ix_tup (pv 0) (pv 4) (fun _ _ => rfl)) pe_int (fun _ _ => rfl)) (fun _ _ => rfl)))
      (pss_cons (ps_while PassesOwn.never (pt_cmpR op_ne (pv 4) (pe_ix ix_list (pv 6) pe_int (fun _ _ => rfl)) (nomark _))
        (pss_cons (ps_expr (pe_bm PySem.F.plainAttrs_list PySem.F.slot_list_append PySem.F.type_list_append mt_append (pv 6) (pa_cons (pv 4) pa_nil))) (pss_one (ps_set (i := 4) sc13.nd rfl (Or.inl rfl) (pe_ix (ix_md (hu9 hu)) (pv 2) (pe_ix ix_tup (pe_ix ix_tup (pv 0) (pv 4) (fun _ _ => rfl)) pe_int (fun _ _ => rfl)) (fun _ _ => rfl))))))
      (pss_one (ps_ret (pv 6)))))))))), ?_⟩
    obtain ⟨t, R, rfl, ⟨vs, st, pr⟩, hl, hsm, q0, q⟩ := h
    have lN := len_pts R
    have nd := pts_nd R
    refine ⟨_, rfl, t, R, rfl, ⟨vs, st, pr⟩, hl, fun pl H1 s1 hpl ⟨ys, hys, py⟩ => ⟨pl, rfl, ⟨ys, .inl (.inl hys)⟩, fun D hD => ?_⟩⟩
    have ly := paired_len py
    have S := steady_list (K := K) (a := pl) (xs := ys)
    rw [← ly] at S
    refine dc_tab (fun _ => 0) (pts := ptsOf R) S (fun H' h => .inl (.inl (h _ _ hys))) (by exact (by decide : 7 < 8)) (fun n hn => paired_getD py hn) nd (by omega) hD (fun n H Q hn _ q => q) fun H2 s2 tb2 => ?_
    have s12 : Same H H2 := s1.trans s2
    have hDH : H D = none := s1.free hD
    refine ⟨_, rfl, _, rfl, t, D, R, _, rfl, ⟨vs, Tups.same s12 _ _ st, Paired.mapP pr fun _ _ h => h.mono (.same s12)⟩, hl, tb2, keys_zero _ _, bt_zero _, hsm, fun z H3 D3 B' C l b3 t3 tb3 hk3 hbd hD3 nD tc3 sz hp => ?_⟩
    have s3 : Same H H3 := fun a o e => b3 a o (ne_of_none e hDH) (s12 a o e)
    refine ⟨z, _, rfl, sz, rfl, _, _, rfl, _, _, rfl, rfl, _, rfl, rfl, _, rfl, ?_⟩
    cases l with
    | none => exact iteT (q0 _ s3)
    | some j0 =>
      obtain ⟨β, L, pass⟩ := hp j0 rfl
      obtain ⟨idx, d, Y⟩ := pass.cyc (P := (ptsOf R).map nk) (by simp) fun j hj => List.mem_map.mpr (pts_q hj)
      obtain ⟨xs, ta, pp⟩ := tb3.at
      have lx : xs.length = (ptsOf R).length := by
        have h1 := paired_len pp
        have h2 := congrArg List.length hk3
        rw [len_asV] at h1
        rw [List.length_map] at h2
        omega
      refine iteF ⟨_, rfl, _, rfl, D, xs, rfl, ta, _, rfl, by omega, by omega, ?_⟩
      have st3 : SqT K H3 t vs := Tups.same s3 _ _ st
      have pr3 : Paired (RowV K H3) R vs := Paired.mapP pr fun _ _ h => h.mono (.same s3)
      have eN : ((xs.length : Int)).toNat = (ptsOf R).length := by omega
      rw [eN]
      generalize hN : (ptsOf R).length = N at *
      refine for_steady steady_rng (fun n σ H' => H' = H3 ∧ ∃ z5 z6 z7, σ = [some (.ref t), some (.ref D), some (.ref D3), some (natV j0), some (natV (idx n)), z5, z6, z7]) ⟨rfl, _, _, _, by rw [Y.zero]; rfl⟩ (fun _ _ _ _ _ => trivial) ?_ ?_
      · rintro n σ H4 hn ⟨rfl, z5, z6, z7, rfl⟩
        refine walk_step st3 pr3 tc3 (Y.lt n) (Y.go n) rfl rfl rfl ⟨rfl, _, _, _, rfl⟩
      · rintro σ H4 ⟨rfl, z5, z6, z7, rfl⟩
        refine ⟨_, rfl, (by rw [sizeLine_eq]; exact (by decide : (1 : Nat) ≤ 16777216)), fun p hp => ?_⟩
        have sp := same_new (o := .lst [natV (idx N)]) hp
        refine walk_step (Tups.same sp _ _ st3) (Paired.mapP pr3 fun _ _ h => h.mono (.same sp)) (tc3.same sp) (Y.lt N) (Y.go N) rfl rfl rfl ?_
        have nD3 : D3 ≠ p := fun e => by obtain ⟨xs3, e3, _⟩ := tc3; rw [e, hp] at e3; cases e3
        refine ⟨fun m σ H => ∃ n z5 z7, m + n = d ∧ 1 ≤ n ∧ H = upd H4 p (.lst (((List.range n).map fun i => idx (N + i)).map natV)) ∧ σ = [some (.ref t), some (.ref D), some (.ref D3), some (natV j0), some (natV (idx (N + n))), z5, some (.ref p), z7], ⟨d - 1, 1, _, _, by have := Y.one; omega, Nat.le_refl _, rfl, rfl⟩, ?_⟩
        rintro m σ H5 ⟨n, z5, z7, hm, hn, rfl, rfl⟩
        have sp := same_new (o := .lst (((List.range n).map fun i => idx (N + i)).map natV)) hp
        have h0 : atI (((List.range n).map fun i => idx (N + i)).map natV) ((0 : Nat) : Int) = some (natV (idx N)) := atI_nat (by
          rw [List.getElem?_map, List.getElem?_map, List.getElem?_range (by omega)]; rfl)
        have hd := Y.dn
        refine ⟨_, rfl, _, rfl, p, _, 0, _, rfl, rfl, .inl (.inl upd_same), h0, rfl, _, rfl, ?_⟩
        have ee : (!decide (natV (idx (N + n)) = natV (idx N))) = !decide (idx (N + n) = idx N) := by
          by_cases e : idx (N + n) = idx N
          · rw [e]; simp
          · have e2 : ¬ natV (idx (N + n)) = natV (idx N) := fun z => e (by injection z with z; omega)
            rw [decide_eq_false e, decide_eq_false e2]
        rw [ee]
        by_cases e : idx (N + n) = idx N
        · rw [decide_eq_true e]
          refine iteF ⟨_, rfl, q p _ ((List.range n).map fun i => idx (N + i)) (fun a o ha => by rw [upd_ne (ne_of_none (s3 a o ha) hp)]; exact s3 a o ha) (s3.free hp) ?_ (by rw [List.length_map, List.length_range]; omega) (fun j hj => by obtain ⟨i, _, e⟩ := List.mem_map.mp hj; rw [← e]; exact Y.lt _) upd_same⟩
          intro z
          have := congrArg List.length z
          rw [List.length_map, List.length_range] at this
          exact absurd this (by simp; omega)
        · rw [decide_eq_false e]
          have nd : n ≠ d := fun z => e (by rw [z]; exact Y.back)
          refine iteT ⟨fun σ H => ∃ z5 z7, H = upd H4 p (.lst (((List.range (n + 1)).map fun i => idx (N + i)).map natV)) ∧ σ = [some (.ref t), some (.ref D), some (.ref D3), some (natV j0), some (natV (idx (N + (n + 1)))), z5, some (.ref p), z7], ?_, ?_⟩
          · rintro σ' H' ⟨z5, z7, e1, e2⟩
            exact ⟨d - (n + 1), by omega, n + 1, z5, z7, by omega, by omega, e1, e2⟩
          · refine ⟨_, rfl, .inl ⟨rfl, _, .inl (.inl upd_same)⟩, _, rfl, p, _, _, rfl, rfl, upd_same, by rw [List.length_map, List.length_map, List.length_range, sizeLine_eq]; omega, ?_⟩
            rw [upd_upd]
            have el : ((List.range n).map fun i => idx (N + i)).map natV ++ [natV (idx (N + n))] = ((List.range (n + 1)).map fun i => idx (N + i)).map natV := by
              rw [List.range_succ, List.map_append, List.map_append]; rfl
            rw [el]
            have sp2 := same_new (o := .lst (((List.range (n + 1)).map fun i => idx (N + i)).map natV)) hp
            exact walk_step (Tups.same sp2 _ _ st3) (Paired.mapP pr3 fun _ _ h => h.mono (.same sp2)) (tc3.same sp2) (Y.lt (N + n)) (Y.go (N + n)) rfl rfl rfl ⟨_, _, rfl, rfl⟩
end
end Fc
namespace Fc
open PySem L2 PyProof.Rows
/-- sorted(xs): xs reads as data -/
theorem call_sortD {X : Cx} {β : Type} (enc : β → PyData) (hu : X.A.units + 70 < cLine) : CallR X (.builtin "sorted") (fun vs H Q => ∃ (a : Addr) (bs : List (β × V)), vs = [V.ref a] ∧ SqL X.K H a (bs.map (·.2)) ∧ PySem.W.AllAlike (bs.map fun b => enc b.1) ∧ PySem.W.Sortable (bs.map fun b => enc b.1) ∧
    (∀ b ∈ bs, Dp X.K H b.2 (enc b.1)) ∧ bs.length ≤ 200 ∧ (∀ b ∈ bs, (enc b.1).depth ≤ 5) ∧ ∀ (bs' : List (β × V)) (p : Addr), bs'.Perm bs → H p = none → Q (.ref p) (upd H p (.lst (bs'.map (·.2))))) := by
  intro pins s σ H vs us Q I r h
  obtain ⟨a, bs, rfl, hs, hal, hk, hd, hl, hdp, q⟩ := h
  obtain ⟨its, rv, hli, _⟩ := I.list hs
  rw [Vals.ref1 r]
  have each : ∀ (bs : List (β × V)) (us : List Value), (∀ b ∈ bs, Dp X.K H b.2 (enc b.1)) → Vals (bs.map (·.2)) us → PySem.W.EachIs (fun (v : Value) (b : β × V) => RelV b.2 v) us bs ∧ PySem.W.EachIs (fun (v : Value) (b : β × V) => ∃ as, Reads s.heap v (enc b.1) as) us bs := by
    intro bs
    induction bs with
    | nil => intro us _ h; cases h; exact ⟨.nil, .nil⟩
    | cons b bs ih =>
      intro us hd h
      cases h with
      | cons h1 h2 =>
        obtain ⟨e1, e2⟩ := ih _ (fun x hx => hd x (List.mem_cons_of_mem _ hx)) h2
        exact ⟨.cons h1 e1, .cons (Dp.reads I _ _ _ (hd b (by simp)) h1) e2⟩
  have back : ∀ (bs : List (β × V)) (us : List Value), PySem.W.EachIs (fun (v : Value) (b : β × V) => RelV b.2 v) us bs → Vals (bs.map (·.2)) us := by
    intro bs us h
    induction h with
    | nil => exact .nil
    | cons h _ ih => exact .cons h ih
  obtain ⟨e1, e2⟩ := each bs its hd rv
  refine PySem.W.sorted_data (bs := bs) (enc := fun b => enc b.1) (vs := its) (R := fun (v : Value) (b : β × V) => RelV b.2 v) (by simpa using hli.isList) e1 e2 hal hk (by rw [sizeLine_eq]; omega) (fun b hb => ?_) fun out ho eo => ?_
  · have := hdp b hb
    omega
  · obtain ⟨ep, he'⟩ := PyProof.Rows.sortedAll_at s.heap its out.toArray
    have pm : (bs.mergeSort (PySem.W.dataLe false fun b => enc b.1)).Perm bs := List.mergeSort_perm _ _
    generalize bs.mergeSort (PySem.W.dataLe false fun b => enc b.1) = bs' at eo pm
    have hlen : (bs'.map (·.2)).length ≤ sizeLine := by rw [List.length_map, pm.length_eq, sizeLine_eq]; omega
    exact ⟨.ref _, upd H (s.heap.objs.size + 1) (.lst (bs'.map (·.2))), I.laid (t' := s.toks) (fun _ _ => PyProof.Rows.sortedAll_old) (Nat.le_succ _) ⟨hlen, out, ep, back _ _ eo, he'⟩, rfl, q bs' _ pm (I.hok.fresh (Nat.le_succ _))⟩
def eqK (a b : Kd) : Bool := PyData.eqv (pd a) (pd b)
abbrev shK (k : Kd) : Bool := SeqAt.shaped (pd k)
def shRow (r : Row) : Prop := shK r.1 = true ∧ shK r.2.1 = true
theorem KdV.dq {K : PySem.W.Frag} {H : Hp} {a b : Kd} {x y : V} {Q : VK} (ha : KdV K H a x) (hb : KdV K H b y) (sa : shK a = true) (sb : shK b = true) (q : Q (.bl (!eqK a b)) H) : rNeD K x y H Q := ⟨pd a, pd b, ha.dp, hb.dp, sa, sb, q⟩
def prevI (n k : Nat) : Nat := if k = 0 then n - 1 else k - 1
def linkB (R : List Row) (k : Nat) : Bool := eqK (rowN R (prevI R.length k)).2.1 (rowN R k).1
def sumM (R : List Row) : Int := (R.map (·.2.2)).sum
def ringB (R : List Row) : Bool := (List.range R.length).all (linkB R) && decide (sumM R < 0)
theorem at_prev {α : Type} {xs : List α} {k : Nat} {v : α} (hk : k < xs.length) (h : xs[prevI xs.length k]? = some v) : atI xs ((k : Int) - 1) = some v := by
  unfold prevI at h
  unfold atI ixN
  by_cases c : k = 0
  · subst c
    rw [if_pos rfl] at h
    rw [if_neg (by omega), if_pos (by omega)]
    have e : (((0 : Nat) : Int) - 1 + (xs.length : Int)).toNat = xs.length - 1 := by omega
    rw [e]
    exact h
  · rw [if_neg c] at h
    rw [if_pos (by omega), if_pos (by omega)]
    have e : ((k : Int) - 1).toNat = k - 1 := by omega
    rw [e]
    exact h
theorem prevI_lt {n k : Nat} (h : k < n) : prevI n k < n := by
  unfold prevI
  by_cases c : k = 0
  · rw [if_pos c]; omega
  · rw [if_neg c]; omega
theorem sumM_snoc {R : List Row} {k : Nat} (h : k < R.length) : sumM (R.take (k + 1)) = sumM (R.take k) + mN R k := by
  rw [take_snoc (a0 := (.no, .no, 0)) h]
  unfold sumM
  rw [List.map_append, List.sum_append]
  show _ + ((mN R k) + 0) = _
  rw [Int.add_zero]
theorem hu64 {n : Nat} (h : n + 70 < cLine) : n + 64 < cLine := by omega
def spMakes (K : PySem.W.Frag) (w : World) : Sp := fun vs H Q _ => ∃ p ws R, vs = [.ref p] ∧ SqL K H p ws ∧ Paired (RowV K H) R ws ∧ R.length ≤ 1000 ∧ (∀ r ∈ R, shRow r) ∧ Q (.bl (ringB R)) H
section
variable {K : PySem.W.Frag} {mg : Str → Option Value} {base : Heap} {P : Program} {w : World}
theorem sc14 : FnScope ["chosen", "total", "k"] ["chosen"] (defScope (topS 14)) := ⟨rfl, rfl, rfl, by decide +kernel, rfl, by decide +kernel, by decide +kernel⟩
theorem ok14 {f : Addr} {fd : FuncData} (F : Fun K "makes_ring" "makes_ring" (topS 14) f fd) (B : Blt mg) : FnOk P w K mg base CX0 1 f fd ["chosen"] (spMakes K w) := by
  refine F.ok sc14 (fun vs H Q E h => ?_) (fun cdv A outer s H vs Q E hr h => ?_)
  · obtain ⟨t, ws, R, rfl, _⟩ := h
    rfl
  · have hu := hu70 hr
    refine ⟨_, pss_cons (ps_set (i := 1) sc14.nd rfl (Or.inl rfl) pe_int)
      (pss_cons (ps_for PassesOwn.never rfl (pi_range1 (by rfl) B.range (pa_cons (pe_callB call_len_seq (by rfl) B.len boot_len (pa_cons (pv 0) pa_nil)) pa_nil)) (pg_name (i := 2) sc14.nd rfl (Or.inl rfl))
        (pss_cons (ps_if (pt_cmpR (op_neD (hu64 hu)) (pe_ix ix_tup (pe_ix ix_list (pv 0) (pe_op op_sub (pv 2) pe_int) (fun _ _ => rfl)) pe_int (fun _ _ => rfl)) (pe_ix ix_tup (pe_ix ix_list (pv 0) (pv 2) (fun _ _ => rfl)) pe_int (fun _ _ => rfl)) (nomark _)) (pss_one (ps_ret pe_bl)) pss_nil)
        (pss_one (ps_set (i := 1) sc14.nd rfl (Or.inl rfl) (pe_op op_add (pv 1) (pe_ix ix_tup (pe_ix ix_list (pv 0) (pv 2) (fun _ _ => rfl)) pe_int (fun _ _ => rfl)))))))
      (pss_one (ps_ret (pe_cmpR op_lt (pv 1) pe_int (nomark _))))), ?_⟩
    obtain ⟨p, ws, R, rfl, sl, pr, hl, hsh, q⟩ := h
    have lw : ws.length = R.length := (paired_len pr).symm
    refine ⟨_, rfl, p, ws, rfl, .inl sl, _, rfl, by omega, by omega, ?_⟩
    have en : ((ws.length : Nat) : Int).toNat = R.length := by omega
    rw [en]
    unfold ringB at q
    refine for_steady steady_rng (fun k σ H' => H' = H ∧ (∃ z, σ = [some (.ref p), some (.int (sumM (R.take k))), z]) ∧ (List.range k).all (linkB R) = true) ⟨rfl, ⟨_, rfl⟩, rfl⟩ (fun _ _ _ _ _ => trivial) ?_ ?_
    · rintro k σ H' hk ⟨rfl, ⟨z, rfl⟩, pre⟩
      rw [Int.zero_add]
      obtain ⟨u, x, y, eu, su, kx, ky⟩ := vs_at pr hk
      obtain ⟨u2, x2, y2, eu2, su2, kx2, ky2⟩ := vs_at pr (prevI_lt hk)
      have a1 : atI ws ((k : Int) - 1) = some (.ref u2) := at_prev (by omega) (by rw [lw]; exact eu2)
      refine ⟨_, rfl, _, rfl, _, _, rfl, rfl, p, ws, _, _, rfl, rfl, sl, a1, u2, _, 1, y2, rfl, rfl, su2, atI_nat (j := 1) rfl, ?_⟩
      refine ⟨_, rfl, _, rfl, p, ws, _, _, rfl, rfl, sl, atI_nat eu, u, _, 0, x, rfl, rfl, su, atI_nat (j := 0) rfl, ?_⟩
      refine ky2.dq kx (hsh _ (rowN_mem (prevI_lt hk))).2 (hsh _ (rowN_mem hk)).1 ⟨_, rfl, ?_⟩
      have ek : eqK (rowN R (prevI R.length k)).2.1 (rowN R k).1 = linkB R k := rfl
      rw [ek]
      cases c : linkB R k with
      | false =>
        refine iteT ?_
        have e : (List.range R.length).all (linkB R) = false := by
          cases e : (List.range R.length).all (linkB R) with
          | false => rfl
          | true => rw [List.all_eq_true.mp e k (List.mem_range.mpr hk)] at c; cases c
        rw [e] at q
        exact q
      | true =>
        refine iteF ⟨_, rfl, _, rfl, _, rfl, p, ws, _, _, rfl, rfl, sl, atI_nat eu, u, _, 2, _, rfl, rfl, su, atI_nat (j := 2) rfl, _, _, rfl, rfl, rfl, ⟨some (.int (k : Int)), by rw [sumM_snoc hk]; rfl⟩, ?_⟩
        rw [List.range_succ, List.all_append, pre, Bool.true_and]
        simp [c]
    · rintro σ H' ⟨rfl, ⟨z, rfl⟩, pre⟩
      rw [pre, Bool.true_and] at q
      refine ⟨_, rfl, _, _, rfl, rfl, ?_⟩
      rw [List.take_of_length_le (Nat.le_refl _)]
      exact q
end
end Fc
namespace Fc
open PySem L2 PyProof.Rows
/-- what stays true of a value while only D changes -/
def Kept (K : PySem.W.Frag) (Rl : Hp → Nat → V → Prop) : Prop := ∀ H H' k y, Tups K H H' → Rl H k y → Rl H' k y
theorem lc_gen {K : PySem.W.Frag} {J : It} {n : Nat} {it : Nat → V} {G : Hp → Prop} {tt : TT} {te : TE} {i : Nat} {σ : L2.St} {H1 : Hp} {D : Addr} {Qd : Hp → Prop} (b : Nat → Bool) (Rl : Hp → Nat → V → Prop) (S : Steady J n it G) (hm : Kept K Rl) (hG : ∀ H, Same H1 H → G H) (hi : i < σ.length) (hl : n ≤ 5000) (hD : H1 D = none)
    (ht : ∀ k H Q, k < n → Same H1 H → Q (b k) H → tt ((wipe σ [i]).set i (some (it k))) H Q)
    (hv : ∀ k H Q, k < n → b k = true → Same H1 H → (∀ H' y, Same H H' → Rl H' k y → Q y H') → te ((wipe σ [i]).set i (some (it k))) H Q)
    (hd : ∀ H' ys, Same H1 H' → H' D = some (.lst ys) → Paired (Rl H') ((List.range n).filter b) ys → Qd H') :
    ∃ W : Nat → Nat → Hp → Prop, (∃ m, W 0 m (upd H1 D (.lst []))) ∧ ∀ i_1 m H, W i_1 m H → (J.stop i_1 H ∧ Qd H) ∨
      (J.go i_1 H ∧ ∃ Nx : Hp → Prop, (∀ H', Nx H' → ∃ m', m' < m ∧ W (i_1 + 1) m' H') ∧ ∀ x H', J.yld i_1 H x H' → gName i x (wipe σ [i]) H' fun σ2 H2 => wipe σ2 [i] = wipe σ [i] ∧ tt σ2 H2 fun b H3 =>
        if b = true then te σ2 H3 fun y H4 => ∃ acc, H4 D = some (.lst acc) ∧ acc.length < sizeLine ∧ Nx (upd H4 D (.lst (acc ++ [y]))) else Nx H3) := by
  refine lc_steady S (fun k H => Same H1 H ∧ ∃ ys, H D = some (.lst ys) ∧ Paired (Rl H) ((List.range k).filter b) ys) ⟨same_new hD, [], upd_same, .nil⟩ (fun _ _ _ h => hG _ h.1) (fun k H hk h => ?_) fun H h => ?_
  · obtain ⟨sm, ys, hy, pp⟩ := h
    have w1 : wipe ((wipe σ [i]).set i (some (it k))) [i] = wipe σ [i] := by
      show ((σ.set i none).set i (some _)).set i none = σ.set i none
      rw [List.set_set, List.set_set]
    refine ⟨w1, ht k H _ hk sm ?_⟩
    have er : List.range (k + 1) = List.range k ++ [k] := List.range_succ
    have ly : ys.length ≤ k := by
      rw [← paired_len pp]
      have := List.length_filter_le b (List.range k)
      rwa [List.length_range] at this
    cases e : b k with
    | false =>
      refine iteF ⟨sm, ys, hy, ?_⟩
      rw [er, List.filter_append]
      have : [k].filter b = [] := by rw [List.filter_cons, e]; rfl
      rw [this, List.append_nil]
      exact pp
    | true =>
      refine iteT (hv k H _ hk e sm fun H' y sm' rl => ⟨ys, sm' _ _ hy, by rw [sizeLine_eq]; omega, ?_⟩)
      have tp : Tups K H' (upd H' D (.lst (ys ++ [y]))) := Tups.upd fun u e => by rw [sm' _ _ hy] at e; cases e; exact True.intro
      refine ⟨fun a o ha => by rw [upd_ne (ne_of_none ha hD)]; exact sm' _ _ (sm a o ha), _, upd_same, ?_⟩
      rw [er, List.filter_append]
      have : [k].filter b = [k] := by rw [List.filter_cons, e]; rfl
      rw [this]
      have app : ∀ {l : List Nat} {ys : List V}, Paired (Rl (upd H' D (.lst (ys ++ [y])))) l ys → True := fun _ => trivial
      have snoc : ∀ {R : Nat → V → Prop} {l : List Nat} {zs : List V}, Paired R l zs → R k y → Paired R (l ++ [k]) (zs ++ [y]) := by
        intro R l zs p h
        induction p with
        | nil => exact .cons h .nil
        | cons h1 _ ih => exact .cons h1 ih
      exact snoc (Paired.mapP pp fun a v h => hm _ _ _ _ ((Tups.same sm').trans tp) h) (hm _ _ _ _ tp rl)
  · exact hd H h.2.choose h.1 h.2.choose_spec.1 h.2.choose_spec.2
theorem okRow_small {r : Row} (h : okRow r = true) : small r.2.2 = true := by
  unfold okRow at h
  simp only [Bool.and_eq_true] at h
  exact h.2
structure RowsOk (R : List Row) : Prop where
  len : R.length ≤ 20
  ok : ∀ r ∈ R, okRow r = true
  sh : ∀ r ∈ R, shRow r
def spRing (K : PySem.W.Frag) (w : World) : Sp := fun vs H Q _ => ∃ t R, vs = [.ref t] ∧ RowsT K H R t ∧ RowsOk R ∧ (∀ H', Same H H' → Q .non H') ∧
  ∀ p H' (js : List Nat), Same H H' → H p = none → js ≠ [] → js.length ≤ 200 → (∀ j ∈ js, j < R.length) → H' p = some (.tup (js.map natV)) → Q (.ref p) H'
def idxD : PyData → Nat
  | .int i => i.toNat
  | _ => 0
def isRingL (R : List Row) (ds : List PyData) : Bool := ds.all (fun e => isIdx e R.length) && ringB (ds.map fun e => rowN R (idxD e))
def isRing (R : List Row) : PyData → Bool
  | .tuple ds => isRingL R ds
  | _ => false
def shortT : PyData → Prop
  | .tuple ds => ds.length ≤ 1000
  | _ => True
def spIsRing (K : PySem.W.Frag) (w : World) : Sp := fun vs H Q _ => ∃ t v R d, vs = [.ref t, v] ∧ RowsT K H R t ∧ RowsOk R ∧ DV K w H v d ∧ shortT d ∧ ∀ H', Same H H' → Q (.bl (isRing R d)) H'
section
variable {K : PySem.W.Frag} {mg : Str → Option Value} {base : Heap} {P : Program} {w : World}
theorem sc19 : FnScope ["differences", "indices"] ["differences"] (defScope (topS 19)) := ⟨rfl, rfl, rfl, by decide +kernel, rfl, by decide +kernel, by decide +kernel⟩
theorem ok19 {f : Addr} {fd : FuncData} (F : Fun K "ring" "ring" (topS 19) f fd) (B : Blt mg) (c21 : Cal P w K mg base 5 "require_differences" (spReq K w)) (c13 : Cal P w K mg base 3 "found_ring" (spFound K w)) : FnOk P w K mg base CX0 6 f fd ["differences"] (spRing K w) := by
  refine F.ok sc19 (fun vs H Q E h => ?_) (fun cdv A outer s H vs Q E hr h => ?_)
  · obtain ⟨t, R, rfl, _⟩ := h
    rfl
  · refine ⟨_, pss_cons (ps_expr (pe_c c21 hr (by decide) (by rfl) (pa_cons (pv 0) pa_nil))) (pss_cons (ps_set (i := 1) sc19.nd rfl (Or.inl rfl) (pe_c c13 hr (by decide) (by rfl) (pa_cons (pv 0) pa_nil)))
      (pss_one (ps_ret (pe_ifExp (pt_cmpR op_isN (pv 1) pe_non (nomark _)) pe_non (pe_callTy call_tuple_of (by rfl) B.tuple boot_tuple (pa_cons (pv 1) pa_nil)))))), ?_⟩
    obtain ⟨t, R, rfl, rt, ro, q0, q⟩ := h
    have hl := ro.len
    refine ⟨_, rfl, t, R, rfl, rt, by omega, ro.ok, _, rfl, t, R, rfl, rt, by omega, fun r hr => okRow_small (ro.ok r hr), fun H' sm => ?_, fun p H' js sm hp ne hjl hjr hH => ?_⟩
    · exact ⟨_, rfl, rfl, _, rfl, iteT (q0 _ sm)⟩
    · refine ⟨_, rfl, rfl, _, rfl, iteF ⟨_, rfl, p, _, rfl, .inl ⟨.inl (.inl hH), fun l hl2 => ?_⟩⟩⟩
      exact q l _ js (fun a o e => by rw [upd_ne (ne_of_none (sm a o e) hl2)]; exact sm a o e) (sm.free hl2) ne hjl hjr upd_same
end
end Fc
namespace Fc
open PySem L2 PyProof.Rows
theorem dp_len {K : PySem.W.Frag} {H : Hp} {xs : List V} {ds : List PyData} (h : DpAll K H xs ds) : xs.length = ds.length := by
  induction ds generalizing xs with
  | nil => cases h; rfl
  | cons d ds ih => cases h with | cons h1 h2 => simp [ih h2]
theorem dp_at {K : PySem.W.Frag} {H : Hp} {xs : List V} {ds : List PyData} (h : DpAll K H xs ds) {k : Nat} (hk : k < ds.length) : Dp K H (xs.getD k .non) (ds.getD k .none) := by
  induction ds generalizing xs k with
  | nil => simp at hk
  | cons d ds ih =>
    cases h with
    | cons h1 h2 =>
      cases k with
      | zero => exact h1
      | succ k => exact ih h2 (by simpa using hk)
theorem isTy_tupF (d : PyData) : isTy d "tuple" = match d with | .tuple _ => true | _ => false := by cases d <;> rfl
mutual
theorem dp_mono {K : PySem.W.Frag} {H H' : Hp} (s : Same H H') : ∀ (d : PyData) (v : V), Dp K H v d → Dp K H' v d
  | .none, _, h => by cases h; exact .non
  | .bool _, _, h => by cases h; exact .bl _
  | .int _, _, h => by cases h; exact .int _
  | .str _, _, h => by cases h; exact .str _
  | .list ds, _, h => by cases h with | lst a b => exact .lst (s.seq a) (dps_mono s ds _ b)
  | .tuple ds, _, h => by cases h with | tup a b => exact .tup (Tups.same s _ _ a) (dps_mono s ds _ b)
  | .dict _, _, h => by cases h
theorem dps_mono {K : PySem.W.Frag} {H H' : Hp} (s : Same H H') : ∀ (ds : List PyData) (vs : List V), DpAll K H vs ds → DpAll K H' vs ds
  | [], _, h => by cases h; exact .nil
  | d :: ds, _, h => by cases h with | cons h1 h2 => exact .cons (dp_mono s d _ h1) (dps_mono s ds _ h2)
end
mutual
theorem dp_tups {K : PySem.W.Frag} {H H' : Hp} (s : Tups K H H') : ∀ (d : PyData) (v : V), tupD d = true → Dp K H v d → Dp K H' v d
  | .none, _, _, h => by cases h; exact .non
  | .bool _, _, _, h => by cases h; exact .bl _
  | .int _, _, _, h => by cases h; exact .int _
  | .str _, _, _, h => by cases h; exact .str _
  | .list ds, _, e, _ => by cases e
  | .tuple ds, _, e, h => by cases h with | tup a b => exact .tup (s _ _ a) (dps_tups s ds _ e b)
  | .dict _, _, _, h => by cases h
theorem dps_tups {K : PySem.W.Frag} {H H' : Hp} (s : Tups K H H') : ∀ (ds : List PyData) (vs : List V), tupDs ds = true → DpAll K H vs ds → DpAll K H' vs ds
  | [], _, _, h => by cases h; exact .nil
  | d :: ds, _, e, h => by
    obtain ⟨e1, e2⟩ := (Bool.and_eq_true _ _).mp e
    cases h with | cons h1 h2 => exact .cons (dp_tups s d _ e1 h1) (dps_tups s ds _ e2 h2)
end
theorem DV.same {K : PySem.W.Frag} {w : World} {H H' : Hp} {v : V} {d : PyData} (s : Same H H') (h : DV K w H v d) : DV K w H' v d := by
  rcases h with h | ⟨a, xs, kvs, e, t, ed, p⟩
  · exact .inl (dp_mono s _ _ h)
  · exact .inr ⟨a, xs, kvs, e, t.mono (.same s) (rd_same s _ t.md), ed, Paired.mapP p fun x kv h => ⟨dp_mono s _ _ h.1, dp_mono s _ _ h.2.1, h.2.2⟩⟩
section
variable {K : PySem.W.Frag} {mg : Str → Option Value} {base : Heap} {P : Program} {w : World}
theorem sc20 : FnScope ["differences", "value", "index"] ["differences", "value"] (defScope (topS 20)) := ⟨rfl, rfl, rfl, by decide +kernel, rfl, by decide +kernel, by decide +kernel⟩
theorem ok20 {f : Addr} {fd : FuncData} (F : Fun K "is_ring" "is_ring" (topS 20) f fd) (B : Blt mg) (c21 : Cal P w K mg base 5 "require_differences" (spReq K w)) (c3 : Cal P w K mg base 2 "is_index" (spIndex K w)) (c14 : Cal P w K mg base 1 "makes_ring" (spMakes K w)) : FnOk P w K mg base CX0 6 f fd ["differences", "value"] (spIsRing K w) := by
  refine F.ok sc20 (fun vs H Q E h => ?_) (fun cdv A outer s H vs Q E hr h => ?_)
  · obtain ⟨t, v, R, d, rfl, _⟩ := h
    rfl
  · refine ⟨_, pss_cons (ps_expr (pe_c c21 hr (by decide) (by rfl) (pa_cons (pv 0) pa_nil)))
      (pss_cons (ps_if (pt_not (pt_val (pe_callB call_isiD (by rfl) B.isinstance boot_isinstance (pa_cons (pv 1) (pa_cons (pe_bltn (v := .ty "tuple") (by rfl) B.tuple boot_tuple rfl) pa_nil))))) (pss_one (ps_ret pe_bl)) pss_nil)
      (pss_cons (ps_for PassesOwn.never rfl (pi_tup (pv 1)) (pg_name (i := 2) sc20.nd rfl (Or.inl rfl))
        (pss_one (ps_if (pt_not (pt_val (pe_c c3 hr (by decide) (by rfl) (pa_cons (pv 2) (pa_cons (pe_callB call_len_seq (by rfl) B.len boot_len (pa_cons (pv 0) pa_nil)) pa_nil))))) (pss_one (ps_ret pe_bl)) pss_nil)))
      (pss_one (ps_ret (pe_c c14 hr (by decide) (by rfl) (pa_cons (pe_lc (own := [("index", 2)]) (g := gName 2) (by rfl) sc20.nd (pi_tup (pv 1)) (blkOk_by (N := ["differences", "value", "index"]) (sc := defScope (topS 20)) (by decide +kernel))
        (fun _ _ _ _ _ => pg_name (i := 2) sc20.nd rfl (Or.inl rfl)) (fun _ _ _ _ _ => pts_nil) (fun _ _ _ _ _ => pe_ix (r := rIxT K) ix_tup (pv 0) (pv 2) (fun _ _ => rfl))) pa_nil)))))), ?_⟩
    obtain ⟨t, v, R, d, rfl, rt, ro, hd, hsh, q⟩ := h
    have hl := ro.len
    refine ⟨_, rfl, t, R, rfl, rt, by omega, ro.ok, _, rfl, v, d, _, rfl, hd, .inr (.inr (.inr (.inl rfl))), _, rfl, ?_⟩
    have q0 := q H (Same.refl H)
    by_cases ht : isTy d "tuple" = true
    · rw [ht]
      have td : ∃ ds, d = .tuple ds := by cases d <;> first | exact ⟨_, rfl⟩ | (rw [isTy_tupF] at ht; cases ht)
      obtain ⟨ds, rfl⟩ := td
      have dp : Dp K H v (.tuple ds) := by
        rcases hd with h | ⟨_, _, _, _, _, e, _⟩
        · exact h
        · cases e
      obtain ⟨vs, st, pr⟩ := rt
      cases dp with
      | @tup a xs _ sa da =>
        have lx := dp_len da
        change ds.length ≤ 1000 at hsh
        have lv := paired_len pr
        refine iteF ⟨_, rfl, a, rfl, ⟨xs, sa⟩, ?_⟩
        refine for_steady steady_tup (fun k σ H' => H' = H ∧ (∃ z, σ = [some (.ref t), some (.ref a), z]) ∧ (ds.take k).all (fun e => isIdx e R.length) = true) ⟨rfl, ⟨_, rfl⟩, rfl⟩ (fun _ _ _ _ h => h.1 ▸ sa) ?_ ?_
        · rintro k σ H' hk ⟨rfl, ⟨z, rfl⟩, pre⟩
          have hk' : k < ds.length := by omega
          refine ⟨_, rfl, _, rfl, t, _, rfl, .inr st, _, _, _, rfl, dp_at da hk', _, rfl, ?_⟩
          rw [← lv]
          cases c : isIdx (ds.getD k .none) (R.length : Int) with
          | false =>
            refine iteT ?_
            have e : isRing R (.tuple ds) = false := by
              show (ds.all _ && _) = false
              have : ds.all (fun e => isIdx e R.length) = false := by
                cases e : ds.all (fun e => isIdx e R.length) with
                | false => rfl
                | true =>
                  have h1 := List.all_eq_true.mp e (ds.getD k .none) (by rw [List.getD_eq_getElem?_getD, List.getElem?_eq_getElem hk']; exact List.getElem_mem hk')
                  rw [h1] at c
                  cases c
              rw [this, Bool.false_and]
            rw [e] at q0
            exact q0
          | true =>
            refine iteF ⟨rfl, ⟨_, rfl⟩, ?_⟩
            rw [take_snoc (a0 := .none) hk', List.all_append, pre, Bool.true_and]
            simp only [List.all_cons, List.all_nil, Bool.and_true]
            exact c
        · rintro σ H' ⟨rfl, ⟨z, rfl⟩, pre⟩
          rw [List.take_of_length_le (Nat.le_of_eq lx.symm)] at pre
          have inr : ∀ k, k < ds.length → ∃ j : Nat, ds.getD k .none = .int (j : Int) ∧ j < R.length := fun k hk => by
            have h1 := List.all_eq_true.mp pre (ds.getD k .none) (by rw [List.getD_eq_getElem?_getD, List.getElem?_eq_getElem hk]; exact List.getElem_mem hk)
            generalize ds.getD k .none = e at h1
            cases e <;> first | (simp [isIdx] at h1; done) | skip
            rename_i i
            simp only [isIdx, Bool.and_eq_true, decide_eq_true_eq] at h1
            exact ⟨i.toNat, by congr 1; omega, by omega⟩
          refine ⟨_, rfl, a, rfl, ⟨xs, sa⟩, fun D hD => ?_⟩
          refine lc_gen (b := fun _ => true) (fun H k y => RowV K H (rowN R (idxD (ds.getD k .none))) y) steady_tup (fun _ _ _ _ t h => h.mono t) (fun H2 s2 => Tups.same s2 _ _ sa) (by exact (by decide : 2 < 3)) (by omega) hD (fun k H Q hk s2 q => q) (fun k H2 Q hk _ s2 q => ?_) fun H2 ys s2 hy pp => ?_
          · have hk' : k < ds.length := by omega
            obtain ⟨j, ej, lj⟩ := inr k hk'
            have dk := dp_at da hk'
            rw [ej] at dk
            have ex : xs.getD k .non = .int (j : Int) := by
              generalize xs.getD k .non = x at dk
              cases dk; rfl
            obtain ⟨u, x, y, eu, su, kx, ky⟩ := vs_at pr lj
            refine ⟨_, rfl, _, rfl, t, vs, _, _, rfl, by rw [ex], Tups.same s2 _ _ st, atI_nat eu, q H2 _ (Same.refl _) ?_⟩
            have ei : idxD (ds.getD k .none) = j := by rw [ej]; show ((j : Int)).toNat = j; omega
            rw [ei]
            exact ⟨u, x, y, rfl, Tups.same s2 _ _ su, kx.mono (.same s2), ky.mono (.same s2)⟩
          · have el : ds.map (fun e => rowN R (idxD e)) = (List.range xs.length).map fun k => rowN R (idxD (ds.getD k .none)) := by
              rw [lx]
              refine List.ext_getElem (by simp) fun k h1 h2 => ?_
              rw [List.getElem_map, List.getElem_map, List.getElem_range, List.getD_eq_getElem?_getD, List.getElem?_eq_getElem (by simpa using h1)]
              rfl
            have pm : Paired (RowV K H2) (ds.map fun e => rowN R (idxD e)) ys := by
              rw [el]
              have fl : (List.range xs.length).filter (fun _ => true) = List.range xs.length := List.filter_eq_self.mpr fun _ _ => rfl
              rw [fl] at pp
              have gen : ∀ {l : List Nat} {ys : List V}, Paired (fun k y => RowV K H2 (rowN R (idxD (ds.getD k .none))) y) l ys → Paired (RowV K H2) (l.map fun k => rowN R (idxD (ds.getD k .none))) ys := by
                intro l ys p
                induction p with
                | nil => exact .nil
                | cons h _ ih => exact .cons h ih
              exact gen pp
            refine ⟨D, ys, _, rfl, .inl (.inl hy), pm, by rw [List.length_map]; omega, fun r hr => ?_, ?_⟩
            · rw [el] at hr
              obtain ⟨k, hk, e⟩ := List.mem_map.mp hr
              obtain ⟨j, ej, lj⟩ := inr k (by rw [List.mem_range] at hk; omega)
              rw [ej] at e
              have ei : idxD (.int (j : Int)) = j := by show ((j : Int)).toNat = j; omega
              rw [ei] at e
              rw [← e]
              exact ro.sh _ (rowN_mem lj)
            · have qq := q H2 s2
              have e : isRing R (.tuple ds) = ringB (ds.map fun e => rowN R (idxD e)) := by
                show (ds.all _ && _) = _
                rw [pre, Bool.true_and]
              rw [e] at qq
              exact qq
    · have hf : isTy d "tuple" = false := by simpa using ht
      rw [hf]
      refine iteT ?_
      have e : isRing R d = false := by cases d <;> first | rfl | exact absurd rfl ht
      rw [e] at q0
      exact q0
end
end Fc
namespace Fc
open PySem L2 PyProof.Rows
theorem nodup_of_map {α β : Type} {f : α → β} : ∀ {l : List α}, (l.map f).Nodup → l.Nodup
  | [], _ => List.nodup_nil
  | a :: l, h => by
    rw [List.map_cons, List.nodup_cons] at h
    rw [List.nodup_cons]
    exact ⟨fun z => h.1 (List.mem_map.mpr ⟨a, z, rfl⟩), nodup_of_map h.2⟩
theorem nodup_all {α : Type} [DecidableEq α] {m l : List α} (nd : m.Nodup) (s : ∀ x ∈ m, x ∈ l) (h : l.length ≤ m.length) : ∀ x ∈ l, x ∈ m := by
  intro x hx
  refine Classical.byContradiction fun no => ?_
  have h1 := nodup_sub m (l.erase x) nd fun y hy => (List.mem_erase_of_ne (fun e => no (by rw [← e]; exact hy))).mpr (s y hy)
  rw [List.length_erase_of_mem hx] at h1
  have : 0 < l.length := List.length_pos_of_mem hx
  omega
theorem updSelf {H : Hp} {a : Addr} {o : HO} (h : H a = some o) : upd H a o = H := by
  funext b
  by_cases e : b = a
  · rw [e, upd_same, h]
  · rw [upd_ne e]
theorem pts_ind {Pr : Kd → Prop} (R : List Row) (h0 : Pr (.w "")) (hr : ∀ r ∈ R, Pr r.1 ∧ Pr r.2.1) : ∀ p ∈ ptsOf R, Pr p := by
  have one : ∀ (l : List Kd) (k : Kd), (∀ p ∈ l, Pr p) → Pr k → ∀ p ∈ addK l k, Pr p := fun l k h hk p hp => by
    unfold addK at hp
    by_cases c : ∃ e ∈ l, nk e = nk k
    · rw [if_pos c] at hp; exact h p hp
    · rw [if_neg c] at hp
      rcases List.mem_append.mp hp with z | z
      · exact h p z
      · rw [List.mem_singleton.mp z]; exact hk
  have gen : ∀ (R : List Row) (l : List Kd), (∀ r ∈ R, Pr r.1 ∧ Pr r.2.1) → (∀ p ∈ l, Pr p) → ∀ p ∈ R.foldl (fun l r => addK (addK l r.1) r.2.1) l, Pr p := by
    intro R
    induction R with
    | nil => intro l _ h; exact h
    | cons r R ih =>
      intro l hr h
      have h1 := hr r (by simp)
      exact ih _ (fun x hx => hr x (List.mem_cons_of_mem _ hx)) (one _ _ (one _ _ h h1.1) h1.2)
  exact gen R _ hr fun p hp => by rw [List.mem_singleton.mp hp]; exact h0
theorem eqv_pt {p k : Kd} (hp : isPtK p = true) (hk : isPtK k = true) (e : PyData.eqv (pd p) (pd k) = true) : p = k := by
  cases p <;> cases k <;> first | (cases hp; done) | (cases hk; done) | skip
  · simp [pd, PyData.eqv] at e; rw [e]
  · simp [pd, PyData.eqv] at e
  · simp [pd, PyData.eqv] at e
  · simp [pd, PyData.eqv, PyData.eqvAll] at e; rw [e.1, e.2.1, e.2.2]
theorem eqv_self {k : Kd} : PyData.eqv (pd k) (pd k) = true := by
  cases k <;> simp [pd, PyData.eqv, PyData.eqvAll]
def memP (k : Kd) (pts : List Kd) : Bool := pts.any fun p => PyData.eqv (pd p) (pd k)
def lookD (T : List (Kd × PyData)) (k : Kd) : Option PyData := (T.find? fun e => decide (nk e.1 = nk k)).map (·.2)
def intD : PyData → Int
  | .int i => i
  | _ => 0
def ivD (T : List (Kd × PyData)) (k : Kd) : Int := intD ((lookD T k).getD .none)
def keyOk (pts : List Kd) (e : Kd × PyData) : Bool := isPtK e.1 && (memP e.1 pts && isInt e.2)
def rowFits (T : List (Kd × PyData)) (r : Row) : Bool := decide (ivD T r.1 - ivD T r.2.1 ≤ r.2.2)
def isFitT (R : List Row) (T : List (Kd × PyData)) : Bool := decide (T.length = (ptsOf R).length) && (T.all (keyOk (ptsOf R)) && (R.all (rowFits T) && decide (ivD T (.w "") = 0)))
/-- a table of data at a -/
def TD (K : PySem.W.Frag) (H : Hp) (e : Kd × PyData) (x : Ent) : Prop := x.1 = nk e.1 ∧ KdV K H e.1 x.2.1 ∧ Dp K H x.2.2 e.2
def TabD (K : PySem.W.Frag) (w : World) (H : Hp) (a : Addr) (T : List (Kd × PyData)) : Prop := ∃ xs, H a = some (MD w a xs) ∧ Paired (TD K H) T xs
structure TOk (T : List (Kd × PyData)) : Prop where
  nd : (T.map fun e => nk e.1).Nodup
  len : T.length ≤ 200
  sh : ∀ e ∈ T, shK e.1 = true
  short : ∀ e ∈ T, kdShort e.1 = true
theorem isPt0 : isPtK (.w "") = true := by decide +kernel
theorem sh0 : shK (.w "") = true := by decide +kernel
theorem okRow_pt {r : Row} (h : okRow r = true) : isPtK r.1 = true ∧ isPtK r.2.1 = true := by
  unfold okRow at h
  simp only [Bool.and_eq_true] at h
  exact ⟨h.1.1.1, h.1.2.1⟩
theorem RowsOk.pts {R : List Row} (h : RowsOk R) : ∀ p ∈ ptsOf R, isPtK p = true ∧ shK p = true := pts_ind (Pr := fun p => isPtK p = true ∧ shK p = true) R ⟨isPt0, sh0⟩ fun r hr => ⟨⟨(okRow_pt (h.ok r hr)).1, (h.sh r hr).1⟩, (okRow_pt (h.ok r hr)).2, (h.sh r hr).2⟩
/-- if all keys are points, and there are as many, all points are keys -/
theorem keys_all {R : List Row} {T : List (Kd × PyData)} (ro : RowsOk R) (to : TOk T) (hl : T.length = (ptsOf R).length) (h : T.all (keyOk (ptsOf R)) = true) : ∀ p ∈ ptsOf R, ∃ e ∈ T, e.1 = p ∧ isInt e.2 = true := by
  have sub : ∀ e ∈ T, e.1 ∈ ptsOf R ∧ isInt e.2 = true := fun e he => by
    have h1 := List.all_eq_true.mp h e he
    unfold keyOk at h1
    simp only [Bool.and_eq_true] at h1
    obtain ⟨p, hp, e1⟩ := List.any_eq_true.mp h1.2.1
    exact ⟨by rw [← eqv_pt (ro.pts p hp).1 h1.1 e1]; exact hp, by simp [h1.2.2]⟩
  have ndk : (T.map (·.1)).Nodup := by
    have := to.nd
    have e : (T.map fun e => nk e.1) = (T.map (·.1)).map nk := by rw [List.map_map]; rfl
    rw [e] at this
    exact nodup_of_map this
  intro p hp
  have hin := nodup_all ndk (fun x hx => by obtain ⟨e, he, e1⟩ := List.mem_map.mp hx; rw [← e1]; exact (sub e he).1) (by rw [List.length_map]; omega) p hp
  obtain ⟨e, he, e1⟩ := List.mem_map.mp hin
  exact ⟨e, he, e1, (sub e he).2⟩
theorem look_mem {T : List (Kd × PyData)} (nd : (T.map fun e => nk e.1).Nodup) {e : Kd × PyData} (he : e ∈ T) {k : Kd} (hk : nk e.1 = nk k) : lookD T k = some e.2 := by
  induction T with
  | nil => cases he
  | cons x T ih =>
    rw [List.map_cons, List.nodup_cons] at nd
    unfold lookD
    rw [List.find?_cons]
    rcases List.mem_cons.mp he with z | z
    · subst z
      rw [decide_eq_true hk]
      rfl
    · have ne : ¬ nk x.1 = nk k := fun e1 => nd.1 (List.mem_map.mpr ⟨e, z, hk.trans e1.symm⟩)
      rw [decide_eq_false ne]
      exact ih nd.2 z
theorem int_of {d : PyData} (h : isInt d = true) : ∃ i, d = .int i := by
  rw [isInt_eq] at h
  cases d <;> first | exact ⟨_, rfl⟩ | cases h
/-- what is looked up in a table of data -/
theorem ix_td {K : PySem.W.Frag} {w : World} {H : Hp} {a : Addr} {T : List (Kd × PyData)} {xs : List Ent} {k : Kd} {kv : V} {d : PyData} {Q : VK} (ta : TabAt K w H a xs) (pp : Paired (TD K H) T xs) (hk : KdV K H k kv) (hd : lookD T k = some d) (q : ∀ v, Dp K H v d → Q v H) : rIxM K w (.ref a) kv H Q := by
  have gen : ∀ {T : List (Kd × PyData)} {xs : List Ent}, Paired (TD K H) T xs → lookD T k = some d → ∃ v, valM xs (nk k) = some v ∧ Dp K H v d := by
    intro T xs p
    induction p with
    | nil => intro h; cases h
    | @cons b x B xs h _ ih =>
      intro hd
      unfold lookD at hd
      rw [List.find?_cons] at hd
      rw [valM_cons, h.1]
      by_cases e : nk b.1 = nk k
      · rw [decide_eq_true e] at hd
        rw [if_pos e]
        exact ⟨_, rfl, by injection hd with hd; rw [← hd]; exact h.2.2⟩
      · rw [decide_eq_false e] at hd
        rw [if_neg e]
        exact ih hd
  obtain ⟨v, hv, dv⟩ := gen pp hd
  exact ⟨a, xs, nk k, v, rfl, ta, hk.key, hv, q v dv⟩
theorem td_keys {K : PySem.W.Frag} {H : Hp} {T : List (Kd × PyData)} {xs : List Ent} (p : Paired (TD K H) T xs) : ∀ x ∈ xs, KeyV K H x.1 x.2.1 := by
  induction p with
  | nil => intro x hx; cases hx
  | cons h _ ih =>
    intro x hx
    rcases List.mem_cons.mp hx with e | hx
    · subst e; rw [h.1]; exact h.2.1.key
    · exact ih x hx
/-- a near value: data, or a table of data -/
inductive Near where
  | dat (d : PyData) | tab (T : List (Kd × PyData))
def NearV (K : PySem.W.Frag) (w : World) (H : Hp) (v : V) : Near → Prop
  | .dat d => Dp K H v d
  | .tab T => ∃ a, v = .ref a ∧ TabD K w H a T ∧ TOk T ∧ ∀ e ∈ T, tupD e.2 = true
def isFit (R : List Row) : Near → Bool
  | .dat _ => false
  | .tab T => isFitT R T
def spIsFit (K : PySem.W.Frag) (w : World) : Sp := fun vs H Q _ => ∃ t v R n, vs = [.ref t, v] ∧ RowsT K H R t ∧ RowsOk R ∧ NearV K w H v n ∧ ∀ H', Same H H' → Q (.bl (isFit R n)) H'
theorem td_mono {K : PySem.W.Frag} {H H' : Hp} (t : Tups K H H') {T : List (Kd × PyData)} {xs : List Ent} (ht : ∀ e ∈ T, tupD e.2 = true) (p : Paired (TD K H) T xs) : Paired (TD K H') T xs := by
  induction p with
  | nil => exact .nil
  | @cons b x B xs h _ ih => exact .cons ⟨h.1, h.2.1.mono t, dp_tups t _ _ (ht b (by simp)) h.2.2⟩ (ih fun e he => ht e (List.mem_cons_of_mem _ he))
theorem shaped_pts {pts : List Kd} (h : ∀ p ∈ pts, shK p = true) : SeqAt.shaped (.list (pts.map pd)) = true := by
  have dep : ∀ k : Kd, (pd k).depth ≤ 1 := fun k => by cases k <;> simp [pd, PyData.depth, PyData.depthAll]
  have gen : ∀ l : List Kd, (∀ p ∈ l, shK p = true) → PyData.canLayAll0 (l.map pd) = true ∧ PyData.depthAll (l.map pd) ≤ 1 := by
    intro l
    induction l with
    | nil => intro _; exact ⟨rfl, by simp [PyData.depthAll]⟩
    | cons p l ih =>
      intro h
      obtain ⟨h1, h2⟩ := ih fun x hx => h x (List.mem_cons_of_mem _ hx)
      refine ⟨?_, ?_⟩
      · rw [List.map_cons, PyData.canLayAll0, h1, Bool.and_true]
        exact SeqAt.canLay_of_shaped (h p (by simp))
      · rw [List.map_cons, PyData.depthAll]
        have := dep p
        omega
  obtain ⟨h1, h2⟩ := gen pts h
  unfold SeqAt.shaped
  rw [PyData.canLay0, h1, Bool.true_and, decide_eq_true_eq, PyData.depth]
  omega
def Near.data : Near → PyData
  | .dat d => d
  | .tab T => .dict (T.map fun e => (pd e.1, e.2))
theorem near_dv {K : PySem.W.Frag} {w : World} {H : Hp} {v : V} {n : Near} (h : NearV K w H v n) : DV K w H v n.data := by
  cases n with
  | dat d => exact .inl h
  | tab T =>
    obtain ⟨a, rfl, ⟨xs, hx, pp⟩, to, ht⟩ := h
    refine .inr ⟨a, xs, _, rfl, ⟨.inl hx, td_keys pp⟩, rfl, ?_⟩
    clear hx to
    induction pp with
    | nil => exact .nil
    | @cons b x B xs h _ ih => exact .cons ⟨h.2.1.dp, h.2.2, pd_tup _, ht b (by simp)⟩ (ih fun e he => ht e (List.mem_cons_of_mem _ he))
theorem dp_nodict {K : PySem.W.Frag} {H : Hp} {v : V} {d : PyData} (h : Dp K H v d) : isTy d "dict" = false := by cases h <;> rfl
theorem pts_dp {K : PySem.W.Frag} {H : Hp} {l : List Kd} {ys : List V} (p : Paired (KdV K H) l ys) : DpAll K H ys (l.map pd) := by
  induction p with
  | nil => exact .nil
  | cons h _ ih => exact .cons h.dp ih
section
variable {K : PySem.W.Frag} {mg : Str → Option Value} {base : Heap} {P : Program} {w : World}
abbrev n18 : List Str := ["differences", "value", "points", "point", "one", "other", "most"]
theorem sc18 : FnScope n18 ["differences", "value"] (defScope (topS 18)) := ⟨rfl, rfl, rfl, by decide +kernel, rfl, by decide +kernel, by decide +kernel⟩
theorem hu65 {n : Nat} (h : n + 70 < cLine) : n + 65 < cLine := by omega
theorem ok18 {f : Addr} {fd : FuncData} (F : Fun K "is_fitting" "is_fitting" (topS 18) f fd) (B : Blt mg) (c21 : Cal P w K mg base 5 "require_differences" (spReq K w)) (c10 : Cal P w K mg base 1 "points_of" (spPts K w)) (c23 : Cal P w K mg base 3 "is_point" (spPoint K w)) (c1 : Cal P w K mg base 1 "is_any_integer" (spInt K w)) :
    FnOk P w K mg base CX0 6 f fd ["differences", "value"] (spIsFit K w) := by
  refine F.ok sc18 (fun vs H Q E h => ?_) (fun cdv A outer s H vs Q E hr h => ?_)
  · obtain ⟨t, v, R, d, rfl, _⟩ := h
    rfl
  · have hu := hu70 hr
    refine ⟨_, pss_cons (ps_expr (pe_c c21 hr (by decide) (by rfl) (pa_cons (pv 0) pa_nil)))
      (pss_cons (ps_set (i := 2) sc18.nd rfl (Or.inl rfl) (pe_c c10 hr (by decide) (by rfl) (pa_cons (pv 0) pa_nil)))
      (pss_cons (ps_if (pw_or (pt_not (pt_val (pe_callB call_isiD (by rfl) B.isinstance boot_isinstance (pa_cons (pv 1) (pa_cons (pe_bltn (v := .ty "dict") (by rfl) B.dict boot_dict rfl) pa_nil)))))
          (pw_or1 (pt_cmpR op_ne (pe_callB call_lenM (by rfl) B.len boot_len (pa_cons (pv 1) pa_nil)) (pe_callB call_len_seq (by rfl) B.len boot_len (pa_cons (pv 2) pa_nil)) (nomark _)))).pt (pss_one (ps_ret pe_bl)) pss_nil)
      (pss_cons (ps_lock (ps_for PassesOwn.never rfl (pi_keyM (pv 1)) (pg_name (i := 3) sc18.nd rfl (Or.inl rfl))
        (pss_one (ps_if (pw_or (pt_not (pt_val (pe_c c23 hr (by decide) (by rfl) (pa_cons (pv 3) pa_nil)))) (pw_or (pt_cmpR (op_notInD (hu65 hu)) (pv 3) (pv 2) rfl) (pw_or1 (pt_not (pt_val (pe_c c1 hr (by decide) (by rfl) (pa_cons (pe_ix (ix_md (hu9 hu)) (pv 1) (pv 3) (fun _ _ => rfl)) pa_nil))))))).pt (pss_one (ps_ret pe_bl)) pss_nil))))
      (pss_cons (ps_for PassesOwn.never rfl (pi_tup (pv 0)) (pg_tup rfl (pgs_cons (pg_name (i := 4) sc18.nd rfl (Or.inl rfl)) (pgs_cons (pg_name (i := 5) sc18.nd rfl (Or.inl rfl)) (pgs_cons (pg_name (i := 6) sc18.nd rfl (Or.inl rfl)) pgs_nil))))
        (pss_one (ps_if (pt_cmpR op_gt (pe_op op_sub (pe_ix (ix_md (hu9 hu)) (pv 1) (pv 4) (fun _ _ => rfl)) (pe_ix (ix_md (hu9 hu)) (pv 1) (pv 5) (fun _ _ => rfl))) (pv 6) (nomark _)) (pss_one (ps_ret pe_bl)) pss_nil)))
      (pss_one (ps_ret (pe_cmpR op_eq (pe_ix (ix_md (hu9 hu)) (pv 1) pe_str (fun _ _ => rfl)) pe_int (nomark _)))))))), ?_⟩
    obtain ⟨t, v, R, n, rfl, ⟨vs, st, pr⟩, ro, hn, q⟩ := h
    have hl := ro.len
    refine ⟨_, rfl, t, R, rfl, ⟨vs, st, pr⟩, by omega, ro.ok, _, rfl, t, R, rfl, ⟨vs, st, pr⟩, by omega, fun pl H1 s1 hpl ⟨ys, hys, py⟩ => ?_⟩
    have t1 : Tups K H H1 := .same s1
    have q1 := q H1 s1
    have dv := (near_dv hn).same s1
    refine ⟨_, rfl, v, _, _, rfl, dv, .inr (.inr (.inr (.inr (.inl rfl)))), _, rfl, ?_⟩
    cases n with
    | dat d =>
      have e : isTy (Near.dat d).data "dict" = false := dp_nodict (v := v) (K := K) (H := H) hn
      rw [e]
      exact iteT (iteT q1)
    | tab T =>
      obtain ⟨a, rfl, ⟨xs, hx0, pp0⟩, to, ht⟩ := hn
      have hx : H1 a = some (MD w a xs) := s1 _ _ hx0
      have pp := td_mono t1 ht pp0
      have ta : TabAt K w H1 a xs := ⟨.inl hx, td_keys pp⟩
      have lx := paired_len pp
      have ly := paired_len py
      refine iteF ⟨_, rfl, a, xs, rfl, ta, _, rfl, pl, ys, rfl, .inl (.inl (.inl hys)), rfl, _, rfl, ?_⟩
      have e0 : (!decide (V.int (xs.length : Int) = V.int (ys.length : Int))) = !decide (T.length = (ptsOf R).length) := by
        rw [← lx, ← ly]
        by_cases e : T.length = (ptsOf R).length
        · rw [e]; simp
        · have e2 : ¬ V.int (T.length : Int) = V.int ((ptsOf R).length : Int) := fun z => e (by injection z with z; omega)
          rw [decide_eq_false e, decide_eq_false e2]
      rw [e0]
      change Q (.bl (isFitT R T)) H1 at q1
      unfold isFitT at q1
      by_cases c0 : T.length = (ptsOf R).length
      · rw [decide_eq_true c0] at q1 ⊢
        rw [Bool.true_and] at q1
        refine iteF ⟨a, _, hx, True.intro, fun od => ⟨_, rfl, a, od, xs, rfl, upd_same, ?_⟩⟩
        have tf : Tups K H1 (upd H1 a (.frz od (MD w a xs))) := tups_upd (md_notup hx)
        have back : upd (upd H1 a (.frz od (MD w a xs))) a (MD w a xs) = H1 := by rw [upd_upd, updSelf hx]
        have ppf := td_mono tf ht pp
        have taf : TabAt K w (upd H1 a (.frz od (MD w a xs))) a xs := ⟨rd_frz, td_keys ppf⟩
        have npl : pl ≠ a := fun z => by rw [z, hx] at hys; cases hys
        have pyf : Paired (KdV K (upd H1 a (.frz od (MD w a xs)))) (ptsOf R) ys := Paired.mapP py fun _ _ h => h.mono tf
        refine for_steady steady_key (fun k σ H' => H' = upd H1 a (.frz od (MD w a xs)) ∧ (∃ z3 z4 z5 z6, σ = [some (.ref t), some (.ref a), some (.ref pl), z3, z4, z5, z6]) ∧ (T.take k).all (keyOk (ptsOf R)) = true) ⟨rfl, ⟨_, _, _, _, rfl⟩, rfl⟩ (fun _ _ _ _ h => h.1 ▸ upd_same) ?_ ?_
        · rintro k σ H' hk ⟨rfl, ⟨z3, z4, z5, z6, rfl⟩, pre⟩
          have hk' : k < T.length := by omega
          have gx : (xs.map (·.2.1)).getD k .non = (xs.getD k (.none, .non, .non)).2.1 := by
            rw [List.getD_eq_getElem?_getD, List.getD_eq_getElem?_getD, List.getElem?_map, List.getElem?_eq_getElem hk]; rfl
          rw [gx]
          obtain ⟨x1, x2, x3⟩ := paired_getD ppf (a0 := (.no, .none)) (b0 := (.none, .non, .non)) hk'
          have hem : T.getD k (.no, .none) ∈ T := by
            rw [List.getD_eq_getElem?_getD, List.getElem?_eq_getElem hk']
            exact List.getElem_mem hk'
          generalize he : T.getD k (.no, .none) = e at x1 x2 x3 hem
          generalize xs.getD k (.none, .non, .non) = x at x1 x2 x3
          have off : keyOk (ptsOf R) e = false → (if true = true then (upd H1 a (.frz od (MD w a xs))) a = some (.frz od (MD w a xs)) ∧ Q (.bl false) (upd (upd H1 a (.frz od (MD w a xs))) a (MD w a xs)) else False) := fun z => by
            have z2 : T.all (keyOk (ptsOf R)) = false := by
              cases z2 : T.all (keyOk (ptsOf R)) with
              | false => rfl
              | true => rw [List.all_eq_true.mp z2 e hem] at z; cases z
            rw [z2, Bool.false_and] at q1
            rw [back]
            exact iteT ⟨upd_same, q1⟩
          refine ⟨_, rfl, x.2.1, e.1, rfl, x2, to.short e hem, _, rfl, ?_⟩
          have ku : keyOk (ptsOf R) e = (isPtK e.1 && (memP e.1 (ptsOf R) && isInt e.2)) := rfl
          cases c1 : isPtK e.1 with
          | false => exact iteT (off (by rw [ku, c1]; rfl))
          | true =>
            refine iteF ⟨_, rfl, _, rfl, pd e.1, (ptsOf R).map pd, x2.dp, .lst (.inl (.inl (by rw [upd_ne npl]; exact hys))) (pts_dp pyf), to.sh e hem, shaped_pts fun p hp => (ro.pts p hp).2, _, rfl, ?_⟩
            have em : ((ptsOf R).map pd).any (fun z => PyData.eqv z (pd e.1)) = memP e.1 (ptsOf R) := by rw [List.any_map]; rfl
            rw [em]
            cases c2 : memP e.1 (ptsOf R) with
            | false => exact iteT (off (by rw [ku, c1, c2]; rfl))
            | true =>
              refine iteF ⟨_, rfl, _, rfl, ix_td taf ppf x2 (look_mem to.nd hem rfl) fun v dv => ⟨v, e.2, rfl, dv, _, rfl, ?_⟩⟩
              cases c3 : isInt e.2 with
              | false => exact iteT (off (by rw [ku, c1, c2, c3]; rfl))
              | true =>
                refine iteF ⟨rfl, ⟨_, _, _, _, rfl⟩, ?_⟩
                rw [take_snoc (a0 := (.no, .none)) hk', List.all_append, pre, Bool.true_and, he]
                simp [ku, c1, c2, c3]
        · rintro σ H' ⟨rfl, ⟨z3, z4, z5, z6, rfl⟩, pre⟩
          refine ⟨upd_same, ?_⟩
          rw [back]
          rw [List.take_of_length_le (Nat.le_of_eq lx)] at pre
          rw [pre, Bool.true_and] at q1
          have all := keys_all ro to c0 pre
          have val : ∀ k, (∃ x ∈ ptsOf R, nk x = nk k) → ∃ i, lookD T k = some (.int i) ∧ ivD T k = i := fun k ⟨x, hx, ex⟩ => by
            obtain ⟨e, he, e1, e2⟩ := all x hx
            obtain ⟨i, hi⟩ := int_of e2
            have h1 := look_mem to.nd he (k := k) (by rw [e1]; exact ex)
            rw [hi] at h1
            exact ⟨i, h1, by unfold ivD; rw [h1]; rfl⟩
          have pr1 : Paired (RowV K H1) R vs := Paired.mapP pr fun _ _ h => h.mono t1
          have lv := paired_len pr
          refine ⟨_, rfl, t, rfl, ⟨vs, t1 _ _ st⟩, ?_⟩
          refine for_steady steady_tup (fun k σ H' => H' = H1 ∧ (∃ z3 z4 z5 z6, σ = [some (.ref t), some (.ref a), some (.ref pl), z3, z4, z5, z6]) ∧ (R.take k).all (rowFits T) = true) ⟨rfl, ⟨_, _, _, _, rfl⟩, rfl⟩ (fun _ _ _ _ h => h.1 ▸ t1 _ _ st) ?_ ?_
          · rintro k σ H' hk ⟨rfl, ⟨z3, z4, z5, z6, rfl⟩, pre2⟩
            have hk' : k < R.length := by omega
            obtain ⟨u, x, y, eu, su, kx, ky⟩ := paired_getD pr1 (a0 := (.no, .no, 0)) (b0 := .non) hk'
            rw [eu]
            refine ⟨u, _, rfl, su, rfl, _, _, rfl, _, _, rfl, _, _, rfl, rfl, ?_⟩
            obtain ⟨i1, l1, v1⟩ := val _ (pts_p hk')
            obtain ⟨i2, l2, v2⟩ := val _ (pts_q hk')
            refine ⟨_, rfl, _, rfl, ix_td ta pp kx l1 fun v dv => ?_⟩
            cases dv
            refine ⟨_, rfl, _, rfl, ix_td ta pp ky l2 fun v dv => ?_⟩
            cases dv
            refine ⟨_, _, rfl, rfl, _, rfl, _, _, rfl, rfl, _, rfl, ?_⟩
            have rf : rowFits T (rowN R k) = decide (i1 - i2 ≤ mN R k) := by unfold rowFits; rw [v1, v2]
            by_cases c : mN R k < i1 - i2
            · rw [decide_eq_true c]
              refine iteT ?_
              have z : R.all (rowFits T) = false := by
                cases z : R.all (rowFits T) with
                | false => rfl
                | true =>
                  have h1 := List.all_eq_true.mp z _ (rowN_mem hk')
                  rw [rf, decide_eq_true_eq] at h1
                  omega
              rw [z, Bool.false_and] at q1
              exact q1
            · rw [decide_eq_false c]
              refine iteF ⟨rfl, ⟨_, _, _, _, rfl⟩, ?_⟩
              rw [take_snoc (a0 := (.no, .no, 0)) hk', List.all_append, pre2, Bool.true_and]
              simp only [List.all_cons, List.all_nil, Bool.and_true]
              rw [rf, decide_eq_true_eq]
              omega
          · rintro σ H' ⟨rfl, ⟨z3, z4, z5, z6, rfl⟩, pre2⟩
            rw [List.take_of_length_le (Nat.le_of_eq lv)] at pre2
            rw [pre2, Bool.true_and] at q1
            obtain ⟨i0, l0, v0⟩ := val (.w "") ⟨.w "", pts_sub R _ _ (by simp), rfl⟩
            refine ⟨_, rfl, tC_i ?_⟩
            refine ix_td (k := .w "") ta pp rfl l0 fun v dv => ?_
            cases dv
            refine ⟨rfl, ?_⟩
            rw [v0] at q1
            have e1 : decide (V.int i0 = V.int 0) = decide (i0 = 0) := by
              by_cases e : i0 = 0
              · rw [e]; simp
              · rw [decide_eq_false e, decide_eq_false (fun z => e (by injection z))]
            rw [e1]
            exact q1
      · rw [decide_eq_false c0] at q1 ⊢
        exact iteT q1
end
end Fc
namespace Fc
open PySem L2 PyProof.Rows
theorem pair_zip {α β : Type} {p : α → β → Prop} {l : List α} {ys : List β} (h : Paired p l ys) : ∃ bs : List (α × β), bs.map (·.1) = l ∧ bs.map (·.2) = ys ∧ ∀ b ∈ bs, p b.1 b.2 := by
  induction h with
  | nil => exact ⟨[], rfl, rfl, fun _ h => nomatch h⟩
  | @cons a b l ys h _ ih =>
    obtain ⟨bs, e1, e2, e3⟩ := ih
    refine ⟨(a, b) :: bs, by rw [List.map_cons, e1], by rw [List.map_cons, e2], fun x hx => ?_⟩
    rcases List.mem_cons.mp hx with z | z
    · rw [z]; exact h
    · exact e3 x z
theorem zip_pair {α β : Type} {p : α → β → Prop} {bs : List (α × β)} (h : ∀ b ∈ bs, p b.1 b.2) : Paired p (bs.map (·.1)) (bs.map (·.2)) := by
  induction bs with
  | nil => exact .nil
  | cons b bs ih => exact .cons (h b (by simp)) (ih fun x hx => h x (List.mem_cons_of_mem _ hx))
theorem range_getD {α : Type} (l : List α) (a0 : α) : (List.range l.length).map (fun k => l.getD k a0) = l := by
  refine List.ext_getElem (by simp) fun k h1 h2 => ?_
  rw [List.getElem_map, List.getElem_range, List.getD_eq_getElem?_getD, List.getElem?_eq_getElem h2]
  rfl
/-- the same list of indices as a filtered list -/
theorem filt_pair {β : Type} {l : List Kd} {p : Kd → β → Prop} {c : Kd → Bool} {ys : List β} (h : Paired (fun k y => p (l.getD k .no) y) ((List.range l.length).filter fun k => c (l.getD k .no)) ys) : Paired p (l.filter c) ys := by
  have e : l.filter c = ((List.range l.length).filter fun k => c (l.getD k .no)).map fun k => l.getD k .no := by
    have h1 := List.filter_map (f := fun k => l.getD k .no) (p := c) (l := List.range l.length)
    rw [range_getD] at h1
    exact h1
  rw [e]
  generalize (List.range l.length).filter _ = is at h
  induction h with
  | nil => exact .nil
  | cons h _ ih => exact .cons h ih
def isW : Kd → Bool
  | .w _ => true
  | _ => false
def isC : Kd → Bool
  | .c _ _ _ => true
  | _ => false
theorem ty_w (k : Kd) : isTy (pd k) "str" = isW k := by cases k <;> rfl
theorem ty_c {k : Kd} (h : isPtK k = true) : isTy (pd k) "tuple" = isC k := by cases k <;> first | rfl | cases h
theorem sort_w {l : List Kd} (h : ∀ k ∈ l, isW k = true) : PySem.W.AllAlike (l.map pd) ∧ PySem.W.Sortable (l.map pd) := by
  refine ⟨fun d hd e he => ?_, .inr fun d hd => ?_⟩
  · obtain ⟨k, hk, e1⟩ := List.mem_map.mp hd
    obtain ⟨j, hj, e2⟩ := List.mem_map.mp he
    have h1 := h k hk
    have h2 := h j hj
    subst e1 e2
    cases k <;> first | (cases h1; done) | skip
    cases j <;> first | (cases h2; done) | rfl
  · obtain ⟨k, hk, e1⟩ := List.mem_map.mp hd
    have h1 := h k hk
    subst e1
    cases k <;> first | (cases h1; done) | skip
    exact ⟨by simp [pd], fun xs => by simp [pd]⟩
theorem sort_c {l : List Kd} (h : ∀ k ∈ l, isC k = true) : PySem.W.AllAlike (l.map pd) ∧ PySem.W.Sortable (l.map pd) := by
  refine ⟨fun d hd e he => ?_, .inl fun d hd => ?_⟩
  · obtain ⟨k, hk, e1⟩ := List.mem_map.mp hd
    obtain ⟨j, hj, e2⟩ := List.mem_map.mp he
    have h1 := h k hk
    have h2 := h j hj
    subst e1 e2
    cases k <;> first | (cases h1; done) | skip
    cases j <;> first | (cases h2; done) | rfl
  · obtain ⟨k, hk, e1⟩ := List.mem_map.mp hd
    have h1 := h k hk
    subst e1
    cases k <;> first | (cases h1; done) | skip
    exact ⟨_, _, rfl⟩
theorem pd_depth (k : Kd) : (pd k).depth ≤ 5 := by cases k <;> simp [pd, PyData.depth, PyData.depthAll]
theorem nx_i {D : Ends} {σ : L2.St} {H : Hp} (h : D.nx σ H) : tNext D σ H := h
theorem seq_i {te : TE} {g : TG} {u : TS} {D : Ends} {σ : L2.St} {H : Hp} (h : te σ H fun x H1 => g x σ H1 fun σ' H' => u D σ' H') : tSeq (tAsg te g) u D σ H := h
/-- sorted([p for p in d if ..]) -/
theorem sort_part {K : PySem.W.Frag} {w : World} {σ : L2.St} {H : Hp} {D : Addr} {B : List (Kd × V)} {pts : List Kd} {c : Kd → Bool} {tt : TT} {Q : VK} (tb : TabIs K w H D B) (hk : B.map (·.1) = pts) (hl : pts.length ≤ 200) (h1 : σ[1]? = some (some (.ref D))) (h4 : 4 < σ.length)
    (hs : PySem.W.AllAlike ((pts.filter c).map pd) ∧ PySem.W.Sortable ((pts.filter c).map pd))
    (ht : ∀ (y : V) (p : Kd) H' Q, p ∈ pts → KdV K H' p y → Q (c p) H' → tt ((wipe σ [4]).set 4 (some y)) H' Q)
    (q : ∀ H' p (bs : List (Kd × V)), Same H H' → H p = none → H' p = some (.lst (bs.map (·.2))) → (bs.map (·.1)).Perm (pts.filter c) → (∀ b ∈ bs, KdV K H' b.1 b.2) → Q (.ref p) H') :
    tCB (fun vs H Q => ∃ (a : Addr) (bs : List (Kd × V)), vs = [V.ref a] ∧ SqL K H a (bs.map (·.2)) ∧ PySem.W.AllAlike (bs.map fun b => pd b.1) ∧ PySem.W.Sortable (bs.map fun b => pd b.1) ∧
    (∀ b ∈ bs, Dp K H b.2 (pd b.1)) ∧ bs.length ≤ 200 ∧ (∀ b ∈ bs, (pd b.1).depth ≤ 5) ∧ ∀ (bs' : List (Kd × V)) (p : Addr), bs'.Perm bs → H p = none → Q (.ref p) (upd H p (.lst (bs'.map (·.2)))))
      (tCons (tLockE (tLc (iKeyM w (tVar 1)) (gName 4) tt (tVar 4) [4])) tNil) σ H Q := by
  obtain ⟨xs, hx, pp⟩ := tb
  refine ⟨D, _, hx, True.intro, fun od => ⟨_, h1, D, od, xs, rfl, upd_same, fun L hL => ?_⟩⟩
  have nL : L ≠ D := fun z => by rw [z, upd_same] at hL; cases hL
  have hLH : H L = none := by rw [upd_ne nL] at hL; exact hL
  have tf : Tups K H (upd H D (.frz od (MD w D xs))) := tups_upd (md_notup hx)
  have kx := keys_of_tab (tabR_mono tf pp)
  rw [hk] at kx
  have lx := paired_len kx
  rw [List.length_map] at lx
  have S2 := steady_key (w := w) (d := D) (o := od) (xs := xs)
  rw [← lx] at S2
  refine lc_gen (K := K) (b := fun k => c (pts.getD k .no)) (fun H k y => KdV K H (pts.getD k .no) y) S2 (fun _ _ _ _ t h => h.mono t) (fun H' s => s _ _ upd_same) h4 (by omega) hL (fun k H' Q hk' s q => ?_) (fun k H' Q hk' _ s q => ?_) fun H' ys s hy py => ?_
  · exact ht _ _ H' Q (getD_mem hk') ((paired_getD kx (a0 := .no) (b0 := .non) hk').mono (.same s)) q
  · refine ⟨_, ?_, q H' _ (Same.refl _) ((paired_getD kx (a0 := .no) (b0 := .non) hk').mono (.same s))⟩
    show ((σ.set 4 none).set 4 (some _))[4]? = _
    rw [List.getElem?_set_self (by rw [List.length_set]; exact h4)]
  · have pf := filt_pair py
    obtain ⟨bs, e1, e2, e3⟩ := pair_zip pf
    have tu : Tups K H' (upd H' D (MD w D xs)) := tups_upd (frz_notup (s _ _ upd_same))
    have sH : Same H (upd H' D (MD w D xs)) := fun a o e => by
      by_cases z : a = D
      · rw [z, hx] at e; rw [z, upd_same, e]
      · rw [upd_ne z]
        refine s a o ?_
        rw [upd_ne z]; exact e
    have eb : (bs.map fun b => pd b.1) = (pts.filter c).map pd := by rw [← e1, List.map_map]; rfl
    have lb : bs.length ≤ 200 := by
      have h5 := congrArg List.length e1
      rw [List.length_map] at h5
      have := List.length_filter_le c pts
      omega
    refine ⟨s _ _ upd_same, L, bs, rfl, .inl (.inl (by rw [upd_ne nL, e2]; exact hy)), by rw [eb]; exact hs.1, by rw [eb]; exact hs.2, fun b hb => ((e3 b hb).mono tu).dp, lb, fun b _ => pd_depth _, fun bs' p pm hp => ?_⟩
    have sp := same_new (o := .lst (bs'.map (·.2))) hp
    refine q _ p bs' (sH.trans sp) (sH.free hp) upd_same ?_ fun b hb => ((e3 b (pm.mem_iff.mp hb)).mono tu).mono (.same sp)
    rw [← e1]
    exact pm.map _
theorem bt_mid {B : List (Kd × Int)} (h : ∀ e ∈ B, midI e.2) (x : NK) : midI (bt B x) := by
  unfold bt
  cases q : B.find? fun e => decide (nk e.1 = x) with
  | none => exact ⟨by have := MM0; show -(14800 * MM) ≤ 0; omega, by have := MM0; show 0 ≤ 14800 * MM; omega⟩
  | some e => exact h e (List.mem_of_find?_eq_some q)
def spFit (K : PySem.W.Frag) (w : World) : Sp := fun vs H Q _ => ∃ t R, vs = [.ref t] ∧ RowsT K H R t ∧ RowsOk R ∧ (∀ H', Same H H' → Q .non H') ∧
  ∀ D H' (T : List (Kd × Int)), Same H H' → H D = none → TabIs K w H' D (asV .int T) → T ≠ [] → (T.map fun e => nk e.1).Nodup → (∀ e ∈ T, e.1 ∈ ptsOf R) → (∀ e ∈ T, midI e.2) → Q (.ref D) H'
section
variable {K : PySem.W.Frag} {mg : Str → Option Value} {base : Heap} {P : Program} {w : World}
abbrev n17 : List Str := ["differences", "numbers", "words", "cells", "point"]
theorem sc17 : FnScope n17 ["differences"] (defScope (topS 17)) := ⟨rfl, rfl, rfl, by decide +kernel, rfl, by decide +kernel, by decide +kernel⟩
theorem ok17 {f : Addr} {fd : FuncData} (F : Fun K "fitting" "fitting" (topS 17) f fd) (B : Blt mg) (c21 : Cal P w K mg base 5 "require_differences" (spReq K w)) (c12 : Cal P w K mg base 3 "numbers_that_fit" (spNums K w)) : FnOk P w K mg base CX0 6 f fd ["differences"] (spFit K w) := by
  refine F.ok sc17 (fun vs H Q E h => ?_) (fun cdv A outer s H vs Q E hr h => ?_)
  · obtain ⟨t, R, rfl, _⟩ := h
    rfl
  · have hu := hu70 hr
    refine ⟨_, pss_cons (ps_expr (pe_c c21 hr (by decide) (by rfl) (pa_cons (pv 0) pa_nil)))
      (pss_cons (ps_set (i := 1) sc17.nd rfl (Or.inr rfl) (pe_c c12 hr (by decide) (by rfl) (pa_cons (pv 0) pa_nil)))
      (pss_cons (ps_if (pt_cmpR op_isN (pv 1) pe_non (nomark _)) (pss_one (ps_ret pe_non)) pss_nil)
      (pss_cons (ps_set (i := 2) sc17.nd rfl (Or.inl rfl) (pe_callB (call_sortD pd hu) (by rfl) B.sorted boot_sorted (pa_cons (pe_lock (pe_lc (own := [("point", 4)]) (g := gName 4) (by rfl) sc17.nd (pi_keyM (pv 1)) (blkOk_by (N := n17) (sc := defScope (topS 17)) (by decide +kernel))
        (fun _ _ _ _ _ => pg_name (i := 4) sc17.nd rfl (Or.inl rfl)) (fun _ _ _ _ _ => pts_one (pt_val (pe_callB (r := fun xs H Q => ∃ v d T, xs = [v, .ty T] ∧ DV K w H v d ∧ (T = "int" ∨ T = "bool" ∨ T = "str" ∨ T = "tuple" ∨ T = "dict" ∨ T = "list") ∧ Q (.bl (isTy d T)) H) call_isiD (by rfl) B.isinstance boot_isinstance (pa_cons (pv 4) (pa_cons (pe_bltn (v := .ty "str") (by rfl) B.str boot_str rfl) pa_nil))))) (fun _ _ _ _ _ => pv 4))) pa_nil)))
      (pss_cons (ps_set (i := 3) sc17.nd rfl (Or.inl rfl) (pe_callB (call_sortD pd hu) (by rfl) B.sorted boot_sorted (pa_cons (pe_lock (pe_lc (own := [("point", 4)]) (g := gName 4) (by rfl) sc17.nd (pi_keyM (pv 1)) (blkOk_by (N := n17) (sc := defScope (topS 17)) (by decide +kernel))
        (fun _ _ _ _ _ => pg_name (i := 4) sc17.nd rfl (Or.inl rfl)) (fun _ _ _ _ _ => pts_one (pt_val (pe_callB (r := fun xs H Q => ∃ v d T, xs = [v, .ty T] ∧ DV K w H v d ∧ (T = "int" ∨ T = "bool" ∨ T = "str" ∨ T = "tuple" ∨ T = "dict" ∨ T = "list") ∧ Q (.bl (isTy d T)) H) call_isiD (by rfl) B.isinstance boot_isinstance (pa_cons (pv 4) (pa_cons (pe_bltn (v := .ty "tuple") (by rfl) B.tuple boot_tuple rfl) pa_nil))))) (fun _ _ _ _ _ => pv 4))) pa_nil)))
      (pss_one (ps_ret (pe_dcM (own := [("point", 4)]) (g := gName 4) (hu9 hu) (by rfl) sc17.nd (pi_list (pe_op op_cat (pv 2) (pv 3))) (blkOk_by (N := n17) (sc := defScope (topS 17)) (by decide +kernel))
        (fun _ _ _ _ _ => pg_name (i := 4) sc17.nd rfl (Or.inl rfl)) (fun _ _ _ _ _ => pv 4) (fun _ _ _ _ _ => pe_ix (r := rIxM K w) (ix_md (hu9 hu)) (pv 1) (pv 4) (fun _ _ => rfl))))))))), ?_⟩
    obtain ⟨t, R, rfl, rt, ro, q0, q⟩ := h
    have hl := ro.len
    have lN := len_pts R
    have nd := pts_nd R
    refine ⟨_, rfl, t, R, rfl, rt, by omega, ro.ok, _, rfl, t, R, rfl, rt, by omega, fun r hr => okRow_small (ro.ok r hr), fun H1 s1 => ?_, fun D H1 BN s1 hD tb hk hmid => ?_⟩
    · exact ⟨_, rfl, rfl, _, rfl, iteT (q0 _ s1)⟩
    · refine ⟨_, rfl, rfl, _, rfl, iteF ?_⟩
      have hkN : (asV V.int BN).map (·.1) = ptsOf R := by rw [keys_asV]; exact hk
      refine nx_i ?_
      dsimp only
      refine seq_i ?_
      refine sort_part (c := isW) tb hkN (by omega) rfl (by exact (by decide : 4 < 5)) (sort_w fun k hk => (List.mem_filter.mp hk).2) (fun y p H' Q hp ky q => ⟨_, rfl, y, pd p, _, rfl, .inl ky.dp, .inr (.inr (.inl rfl)), _, rfl, by rw [ty_w]; exact q⟩) fun H2 p2 b2 s2 hp2 hH2 pm2 kv2 => ?_
      have tb2 := tb.same s2
      refine seq_i ?_
      refine sort_part (c := isC) tb2 hkN (by omega) rfl (by exact (by decide : 4 < 5)) (sort_c fun k hk => (List.mem_filter.mp hk).2) (fun y p H' Q hp ky q => ⟨_, rfl, y, pd p, _, rfl, .inl ky.dp, .inr (.inr (.inr (.inl rfl))), _, rfl, by rw [ty_c (ro.pts p hp).1]; exact q⟩) fun H3 p3 b3 s3 hp3 hH3 pm3 kv3 => ?_
      have tb3 := tb2.same s3
      have l2 : b2.length ≤ 41 := by
        have h5 := pm2.length_eq
        rw [List.length_map] at h5
        have := List.length_filter_le isW (ptsOf R)
        omega
      have l3 : b3.length ≤ 41 := by
        have h5 := pm3.length_eq
        rw [List.length_map] at h5
        have := List.length_filter_le isC (ptsOf R)
        omega
      refine ⟨_, rfl, _, rfl, p2, p3, _, _, rfl, rfl, s3 _ _ hH2, hH3, by rw [List.length_map, List.length_map, sizeLine_eq]; omega, fun p hp => ⟨p, rfl, ⟨_, .inl (.inl upd_same)⟩, fun D4 hD4 => ?_⟩⟩
      have sp := same_new (o := .lst (b2.map (·.2) ++ b3.map (·.2))) hp
      have e4 : b2.map (·.2) ++ b3.map (·.2) = (b2 ++ b3).map (·.2) := by rw [List.map_append]
      have kv4 : ∀ b ∈ b2 ++ b3, KdV K (upd H3 p (.lst (b2.map (·.2) ++ b3.map (·.2)))) b.1 b.2 := fun b hb => by
        rcases List.mem_append.mp hb with z | z
        · exact ((kv2 b z).mono (.same s3)).mono (.same sp)
        · exact (kv3 b z).mono (.same sp)
      have tb4 := tb3.same sp
      rw [e4] at sp kv4 tb4 hD4 ⊢
      have py := zip_pair (p := KdV K (upd H3 p (.lst ((b2 ++ b3).map (·.2))))) kv4
      have lp := paired_len py
      have S := steady_list (K := K) (a := p) (xs := (b2 ++ b3).map (·.2))
      rw [← lp] at S
      have pmk : ((b2 ++ b3).map (·.1)).Perm ((ptsOf R).filter isW ++ (ptsOf R).filter isC) := by rw [List.map_append]; exact pm2.append pm3
      have inp : ∀ k ∈ (b2 ++ b3).map (·.1), k ∈ ptsOf R := fun k hk => by
        rcases List.mem_append.mp (pmk.mem_iff.mp hk) with z | z <;> exact (List.mem_filter.mp z).1
      have ndk : (((b2 ++ b3).map (·.1)).map nk).Nodup := by
        refine (pmk.map nk).nodup_iff.mpr ?_
        rw [List.map_append, List.nodup_append]
        refine ⟨nd.sublist ((List.filter_sublist).map nk), nd.sublist ((List.filter_sublist).map nk), fun a ha b hb => ?_⟩
        obtain ⟨x, hx, e1⟩ := List.mem_map.mp ha
        obtain ⟨y, hy, e2⟩ := List.mem_map.mp hb
        have h1 := (List.mem_filter.mp hx).2
        have h2 := (List.mem_filter.mp hy).2
        subst e1 e2
        cases x <;> first | (cases h1; done) | skip
        cases y <;> first | (cases h2; done) | skip
        exact fun z => nomatch z
      have lk : ((b2 ++ b3).map (·.1)).length ≤ 200 := by rw [List.length_map, List.length_append]; omega
      generalize hks : (b2 ++ b3).map (·.1) = ks at *
      refine dc_tab (fun k => bt BN (nk k)) (pts := ks) S (fun H' h => .inl (.inl (h _ _ upd_same))) (by exact (by decide : 4 < 5)) (fun n hn => paired_getD py hn) ndk lk hD4 (fun n H' Q hn sm q => ?_) fun H5 s5 tb5 => ?_
      · have kk := (paired_getD py (a0 := .no) (b0 := .non) hn).mono (Tups.same sm)
        exact ⟨_, rfl, _, rfl, ix_tab (tb4.same sm) kk (look_bt hk ⟨_, inp _ (getD_mem hn), rfl⟩) q⟩
      · have sAll : Same H (upd H3 p (.lst ((b2 ++ b3).map (·.2)))) := ((s1.trans s2).trans s3).trans sp
        refine q D4 H5 _ (sAll.trans s5) (sAll.free hD4) tb5 ?_ ?_ ?_ ?_
        · intro z
          have h0 : (.w "" : Kd) ∈ ks := pmk.mem_iff.mpr (List.mem_append_left _ (List.mem_filter.mpr ⟨pts_sub R _ _ (List.mem_singleton.mpr rfl), rfl⟩))
          rw [List.map_eq_nil_iff.mp z] at h0
          cases h0
        · rw [List.map_map]
          exact ndk
        · intro e he
          obtain ⟨k, hk2, e1⟩ := List.mem_map.mp he
          rw [← e1]
          exact inp k hk2
        · intro e he
          obtain ⟨k, hk2, e1⟩ := List.mem_map.mp he
          rw [← e1]
          exact bt_mid hmid (nk k)
end
end Fc
namespace Fc
open PySem L2 PyProof.Rows
/-- the dice at D -/
abbrev dicL (a b c : Int) : HO := .lst [.int a, .int b, .int c]
theorem pos61 : (0 : Int) < (10 ^ Int.toNat 61) ^ Int.toNat 4 := by decide +kernel
theorem pos21 : (0 : Int) < 2147483543 := by decide
theorem pos07 : (0 : Int) < 2305843009213693907 := by decide
theorem pos21b : (0 : Int) < 2305843009213693921 := by decide
def spDice (K : PySem.W.Frag) (w : World) : Sp := fun vs H Q _ => ∃ (a : Addr) (ns : List Int) (i : Int), vs = [.ref a, .int i] ∧ SqL K H a (ns.map V.int) ∧ 0 ≤ i ∧ i < 100 ∧ ns.length ≤ 1000 ∧ ∀ D x y z, H D = none → Q (.ref D) (upd H D (dicL x y z))
def spRoll (K : PySem.W.Frag) (w : World) : Sp := fun vs H Q _ => ∃ D t x y z, vs = [.ref D, .int t] ∧ 0 < t ∧ t < 1000 ∧ H D = some (dicL x y z) ∧ ∀ r x' y' z', 0 ≤ r → r < t → Q (.int r) (upd H D (dicL x' y' z'))
def spPick (K : PySem.W.Frag) (w : World) : Sp := fun vs H Q _ => ∃ D p xs x y z, vs = [.ref D, .ref p] ∧ SqL K H p xs ∧ p ≠ D ∧ xs ≠ [] ∧ xs.length < 1000 ∧ H D = some (dicL x y z) ∧ ∀ v x' y' z', v ∈ xs → Q v (upd H D (dicL x' y' z'))
section
variable {K : PySem.W.Frag} {mg : Str → Option Value} {base : Heap} {P : Program} {w : World}
abbrev n27 : List Str := ["_law_script", "_law_spot", "_law_cell", "_law_great"]
theorem sc27 : FnScope n27 ["_law_script", "_law_spot"] (defScope (topS 27)) := ⟨rfl, rfl, rfl, by decide +kernel, rfl, by decide +kernel, by decide +kernel⟩
theorem ok27 {f : Addr} {fd : FuncData} (F : Fun K "_law_dice" "_law_dice" (topS 27) f fd) (B : Blt mg) : FnOk P w K mg base CX0 1 f fd ["_law_script", "_law_spot"] (spDice K w) := by
  refine F.ok sc27 (fun vs H Q E h => ?_) (fun cdv A outer s H vs Q E hr h => ?_)
  · obtain ⟨a, ns, i, rfl, _⟩ := h
    rfl
  · refine ⟨_, pss_cons (ps_set (i := 2) sc27.nd rfl (Or.inl rfl) (pe_ifExp (pt_cmpR op_lt (pv 1) (pe_callB call_len_seq (by rfl) B.len boot_len (pa_cons (pv 0) pa_nil)) (nomark _)) (pe_ix ix_list (pv 0) (pv 1) (fun _ _ => rfl)) (pe_op op_add (pe_op op_mul pe_int (pv 1)) pe_int)))
      (pss_cons (ps_set (i := 3) sc27.nd rfl (Or.inl rfl) (pe_op op_mod (pe_callB call_abs (by rfl) B.abs boot_abs (pa_cons (pe_callTy call_int1 (by rfl) B.int boot_int (pa_cons (pv 2) pa_nil)) pa_nil)) (pe_op op_powW (pe_op op_pow pe_int pe_int) pe_int)))
      (pss_one (ps_ret (pe_lst (pa_cons (pe_callB (call_max2 rfl) (by rfl) B.max boot_max (pa_cons pe_int (pa_cons (pe_op op_sub (pv 3) (pe_op op_pow pe_int pe_int)) pa_nil)))
        (pa_cons (pe_op op_add (pe_op op_add (pe_op op_add (pe_op op_mul (pe_op op_mod (pv 3) pe_int) pe_int) (pe_op op_mul pe_int (pv 1))) (pe_op op_mul pe_int (pe_callTy call_int1 (by rfl) B.int boot_int (pa_cons (pe_cmpR op_lt (pv 2) pe_int (nomark _)) pa_nil)))) pe_int) (pa_cons pe_int pa_nil))))))), ?_⟩
    obtain ⟨a, ns, i, rfl, sl, h0, h1, hl, q⟩ := h
    have hz : (ns.map V.int).length = ns.length := List.length_map _
    refine ⟨_, rfl, _, rfl, a, _, rfl, .inl sl, _, _, rfl, rfl, _, rfl, ?_⟩
    rw [hz]
    by_cases c0 : i < (ns.length : Int)
    · rw [decide_eq_true c0]
      have hat : atI (ns.map V.int) i = some (.int (ns.getD i.toNat 0)) := by
        have e : i = ((i.toNat : Nat) : Int) := by omega
        rw [e]
        refine atI_nat ?_
        have hlt : i.toNat < ns.length := by omega
        have e2 : ((i.toNat : Nat) : Int).toNat = i.toNat := by omega
        rw [e2, List.getElem?_map, List.getD_eq_getElem?_getD, List.getElem?_eq_getElem hlt]
        rfl
      refine iteT ⟨_, rfl, _, rfl, a, _, i, _, rfl, rfl, sl, hat, ?_⟩
      generalize ns.getD i.toNat 0 = c
      refine ⟨_, rfl, .inl ⟨_, rfl, _, rfl, 10, 61, rfl, rfl, ⟨by decide, by decide, by decide⟩, _, 4, rfl, rfl, ⟨by decide, by decide +kernel⟩, _, _, rfl, rfl, pos61, ?_⟩⟩
      generalize (if c < 0 then -c else c) % ((10 ^ Int.toNat 61) ^ Int.toNat 4 : Int) = g
      refine ⟨_, rfl, 10, 15, rfl, rfl, ⟨by decide, by decide, by decide⟩, _, _, rfl, rfl, _, _, rfl, ?_⟩
      refine ⟨_, rfl, _, _, rfl, rfl, pos21, _, _, rfl, rfl, .inr ⟨by decide, by decide⟩, _, rfl, _, _, rfl, rfl, .inl ⟨by decide, by decide⟩, _, _, rfl, rfl, _, rfl, _, _, rfl, rfl, .inr ⟨_, rfl, _, _, rfl, rfl, .inl ⟨by decide, by decide⟩, _, _, rfl, rfl, _, _, rfl, rfl, ?_⟩⟩
      refine ⟨by rw [sizeLine_eq]; exact (by decide : 3 ≤ 16777216), fun D hD => q D _ _ _ hD⟩
    · rw [decide_eq_false c0]
      refine iteF ⟨_, rfl, 37, i, rfl, rfl, .inl ⟨by decide, by decide⟩, _, _, rfl, rfl, ?_⟩
      generalize 37 * i + 23 = c
      refine ⟨_, rfl, .inl ⟨_, rfl, _, rfl, 10, 61, rfl, rfl, ⟨by decide, by decide, by decide⟩, _, 4, rfl, rfl, ⟨by decide, by decide +kernel⟩, _, _, rfl, rfl, pos61, ?_⟩⟩
      generalize (if c < 0 then -c else c) % ((10 ^ Int.toNat 61) ^ Int.toNat 4 : Int) = g
      refine ⟨_, rfl, 10, 15, rfl, rfl, ⟨by decide, by decide, by decide⟩, _, _, rfl, rfl, _, _, rfl, ?_⟩
      refine ⟨_, rfl, _, _, rfl, rfl, pos21, _, _, rfl, rfl, .inr ⟨by decide, by decide⟩, _, rfl, _, _, rfl, rfl, .inl ⟨by decide, by decide⟩, _, _, rfl, rfl, _, rfl, _, _, rfl, rfl, .inr ⟨_, rfl, _, _, rfl, rfl, .inl ⟨by decide, by decide⟩, _, _, rfl, rfl, _, _, rfl, rfl, ?_⟩⟩
      refine ⟨by rw [sizeLine_eq]; exact (by decide : 3 ≤ 16777216), fun D hD => q D _ _ _ hD⟩
abbrev n28 : List Str := ["_law_dice_here", "_law_total", "_law_found", "_law_one", "_law_two"]
theorem sc28 : FnScope n28 ["_law_dice_here", "_law_total"] (defScope (topS 28)) := ⟨rfl, rfl, rfl, by decide +kernel, rfl, by decide +kernel, by decide +kernel⟩
theorem ok28 {f : Addr} {fd : FuncData} (F : Fun K "_law_roll" "_law_roll" (topS 28) f fd) (B : Blt mg) : FnOk P w K mg base CX0 1 f fd ["_law_dice_here", "_law_total"] (spRoll K w) := by
  refine F.ok sc28 (fun vs H Q E h => ?_) (fun cdv A outer s H vs Q E hr h => ?_)
  · obtain ⟨a, t, x, y, z, rfl, _⟩ := h
    rfl
  · refine ⟨_, pss_cons (ps_if (pt_cmpR op_gt (pe_ix ix_list (pv 0) pe_int (fun _ _ => rfl)) pe_int (nomark _))
        (pss_cons (ps_set (i := 2) sc28.nd rfl (Or.inl rfl) (pe_op op_mod (pe_callTy call_int1 (by rfl) B.int boot_int (pa_cons (pe_ix ix_list (pv 0) pe_int (fun _ _ => rfl)) pa_nil)) (pv 1)))
        (pss_cons (ps_asg (pe_op op_fdiv (pe_ix ix_list (pv 0) pe_int (fun _ _ => rfl)) (pv 1)) (pg_sub (pv 0) pe_int set_list))
        (pss_one (ps_ret (pv 2))))) pss_nil)
      (pss_cons (ps_asg (pe_op op_add (pe_ix ix_list (pv 0) pe_int (fun _ _ => rfl)) pe_int) (pg_sub (pv 0) pe_int set_list))
      (pss_cons (ps_set (i := 3) sc28.nd rfl (Or.inl rfl) (pe_op op_mod (pe_callTy call_int1 (by rfl) B.int boot_int (pa_cons (pe_op op_add (pe_ix ix_list (pv 0) pe_int (fun _ _ => rfl)) (pe_op op_mul pe_int (pe_ix ix_list (pv 0) pe_int (fun _ _ => rfl)))) pa_nil)) pe_int))
      (pss_cons (ps_set (i := 4) sc28.nd rfl (Or.inl rfl) (pe_op op_add (pe_op op_mul (pe_op op_mod (pe_callTy call_int1 (by rfl) B.int boot_int (pa_cons (pe_op op_add (pe_op op_mul (pv 3) (pv 3)) (pe_op op_mul pe_int (pe_ix ix_list (pv 0) pe_int (fun _ _ => rfl)))) pa_nil)) pe_int) pe_int) (pv 3)))
      (pss_one (ps_ret (pe_op op_mod (pe_callTy call_int1 (by rfl) B.int boot_int (pa_cons (pe_op op_fdiv (pv 4) pe_int) pa_nil)) (pv 1))))))), ?_⟩
    obtain ⟨D, t, x, y, z, rfl, h0, h1, hD, q⟩ := h
    have i0 : ∀ a b c : Int, atI [V.int a, V.int b, V.int c] 0 = some (.int a) := fun a b c => atI_nat (j := 0) rfl
    have i1 : ∀ a b c : Int, atI [V.int a, V.int b, V.int c] 1 = some (.int b) := fun a b c => atI_nat (j := 1) rfl
    have i2 : ∀ a b c : Int, atI [V.int a, V.int b, V.int c] 2 = some (.int c) := fun a b c => atI_nat (j := 2) rfl
    refine ⟨_, rfl, D, _, 0, _, rfl, rfl, .inl (.inl hD), i0 _ _ _, _, _, rfl, rfl, _, rfl, ?_⟩
    by_cases c : (0 : Int) < x
    · rw [decide_eq_true c]
      refine iteT ⟨_, rfl, D, _, 0, _, rfl, rfl, .inl (.inl hD), i0 _ _ _, .inl ⟨_, rfl, _, rfl, _, _, rfl, rfl, h0, ?_⟩⟩
      refine ⟨_, rfl, D, _, 0, _, rfl, rfl, .inl (.inl hD), i0 _ _ _, _, rfl, _, _, rfl, rfl, ⟨h0, by omega⟩, _, rfl, D, _, 0, 0, rfl, rfl, hD, rfl, ?_⟩
      refine ⟨_, rfl, q _ _ _ _ (Int.emod_nonneg _ (by omega)) (Int.emod_lt_of_pos _ h0)⟩
    · rw [decide_eq_false c]
      refine iteF ⟨_, rfl, D, _, 2, _, rfl, rfl, .inl (.inl hD), i2 _ _ _, _, _, rfl, rfl, _, rfl, D, _, 2, 2, rfl, rfl, hD, rfl, ?_⟩
      have hD2 : (upd H D (.lst ([V.int x, V.int y, V.int z].set 2 (.int (z + 1))))) D = some (dicL x y (z + 1)) := upd_same
      refine ⟨_, rfl, D, _, 1, _, rfl, rfl, .inl (.inl hD2), i1 _ _ _, _, rfl, D, _, 2, _, rfl, rfl, .inl (.inl hD2), i2 _ _ _, _, _, rfl, rfl, .inl ⟨by decide, by decide⟩, _, _, rfl, rfl, .inl ⟨_, rfl, _, _, rfl, rfl, pos07, ?_⟩⟩
      have g0 : 0 ≤ (y + 8209 * (z + 1)) % 2305843009213693907 := Int.emod_nonneg _ (by decide)
      have g1 : (y + 8209 * (z + 1)) % 2305843009213693907 < 2305843009213693907 := Int.emod_lt_of_pos _ (by decide)
      have m0 : -(2 ^ 64) < (y + 8209 * (z + 1)) % 2305843009213693907 := by omega
      have m1 : (y + 8209 * (z + 1)) % 2305843009213693907 < 2 ^ 64 := by omega
      refine ⟨_, rfl, _, rfl, _, _, rfl, rfl, .inl ⟨m0, m1⟩, _, rfl, D, _, 2, _, rfl, rfl, .inl (.inl hD2), i2 _ _ _, _, _, rfl, rfl, .inl ⟨by decide, by decide⟩, _, _, rfl, rfl, .inl ⟨_, rfl, _, _, rfl, rfl, pos21b, _, _, rfl, rfl, .inr ⟨by decide, by decide⟩, _, rfl, _, _, rfl, rfl, ?_⟩⟩
      refine ⟨_, rfl, _, _, rfl, rfl, ⟨by decide, by decide⟩, .inl ⟨_, rfl, _, rfl, _, _, rfl, rfl, h0, ?_⟩⟩
      exact q _ x y (z + 1) (Int.emod_nonneg _ (by omega)) (Int.emod_lt_of_pos _ h0)
abbrev n29 : List Str := ["_law_dice_here", "_law_items"]
theorem sc29 : FnScope n29 n29 (defScope (topS 29)) := ⟨rfl, rfl, rfl, by decide +kernel, rfl, by decide +kernel, by decide +kernel⟩
theorem ok29 {f : Addr} {fd : FuncData} (F : Fun K "_law_pick" "_law_pick" (topS 29) f fd) (B : Blt mg) (c28 : Cal P w K mg base 1 "_law_roll" (spRoll K w)) : FnOk P w K mg base CX0 2 f fd n29 (spPick K w) := by
  refine F.ok sc29 (fun vs H Q E h => ?_) (fun cdv A outer s H vs Q E hr h => ?_)
  · obtain ⟨a, t, x, y, z, _, rfl, _⟩ := h
    rfl
  · refine ⟨_, pss_one (ps_ret (pe_ix ix_list (pv 1) (pe_c c28 hr (by decide) (by rfl) (pa_cons (pv 0) (pa_cons (pe_callB call_len_seq (by rfl) B.len boot_len (pa_cons (pv 1) pa_nil)) pa_nil))) (fun _ _ => rfl))), ?_⟩
    obtain ⟨D, p, xs, x, y, z, rfl, sl, ne, nn, hl, hD, q⟩ := h
    have pos : 0 < xs.length := List.length_pos_iff.mpr nn
    refine ⟨_, rfl, _, rfl, _, rfl, p, xs, rfl, .inl sl, D, _, x, y, z, rfl, by omega, by omega, hD, fun r x' y' z' h0 h1 => ?_⟩
    have hr : r.toNat < xs.length := by omega
    have sl2 : SqL K (upd H D (dicL x' y' z')) p xs := by
      rcases sl with (h | ⟨o, h⟩) | h
      · exact .inl (.inl (by rw [upd_ne ne]; exact h))
      · exact .inl (.inr ⟨o, by rw [upd_ne ne]; exact h⟩)
      · exact .inr h
    have hat : atI xs r = some xs[r.toNat] := by
      have h := atI_nat (List.getElem?_eq_getElem hr)
      have e : ((r.toNat : Nat) : Int) = r := by omega
      rw [e] at h
      exact h
    exact ⟨p, xs, r, xs[r.toNat], rfl, rfl, sl2, hat, q _ x' y' z' (List.getElem_mem hr)⟩
theorem sc30 : FnScope ["_law_value"] ["_law_value"] (defScope (topS 30)) := ⟨rfl, rfl, rfl, by decide +kernel, rfl, by decide +kernel, by decide +kernel⟩
theorem ok30 {f : Addr} {fd : FuncData} (F : Fun K "_law_is_integer" "_law_is_integer" (topS 30) f fd) (B : Blt mg) : FnOk P w K mg base CX0 1 f fd ["_law_value"] (spInt K w) := by
  refine F.ok sc30 (fun vs H Q E h => ?_) (fun cdv A outer s H vs Q E hr h => ?_)
  · obtain ⟨v, d, rfl, _⟩ := h
    rfl
  · obtain ⟨v, d, rfl, hd, q⟩ := h
    refine ⟨_, pss_one (ps_ret (pe_and (pe_callB call_isiD (by rfl) B.isinstance boot_isinstance (pa_cons (pv 0) (pa_cons (pe_bltn (v := .ty "int") (by rfl) B.int boot_int rfl) pa_nil)))
      (pe_one (pe_not (pe_callB call_isiD (by rfl) B.isinstance boot_isinstance (pa_cons (pv 0) (pa_cons (pe_bltn (v := .ty "bool") (by rfl) B.bool boot_bool rfl) pa_nil))))))), ?_⟩
    refine ⟨_, rfl, v, d, _, rfl, .inl hd, .inl rfl, _, rfl, ?_⟩
    unfold isInt at q
    cases e : isTy d "int" with
    | false =>
      rw [e] at q
      exact iteF q
    | true =>
      rw [e] at q
      exact iteT ⟨_, rfl, v, d, _, rfl, .inl hd, .inr (.inl rfl), _, rfl, q⟩
end
end Fc
namespace Fc
open PySem L2 PyProof.Rows
def five : List Kd := [.w "", .w "i", .w "*1", .c "a" "i" 0, .c "b" "" 1]
def mosts : List Int := [0, 0, 1, -1, -1, 3, -4]
def rowL (r : Row) : Prop := r.1 ∈ five ∧ r.2.1 ∈ five ∧ r.2.2 ∈ mosts
/-- rows as the law draws them -/
structure LRows (R : List Row) : Prop where
  one : 1 ≤ R.length
  six : R.length ≤ 6
  all : ∀ r ∈ R, rowL r
def DiceIn (H : Hp) (D : Addr) : Prop := ∃ x y z, H D = some (dicL x y z)
theorem DiceIn.mut {H : Hp} {D : Addr} (h : DiceIn H D) : ∀ u, H D = some u → Mut (some u) := fun u e => by obtain ⟨x, y, z, e2⟩ := h; rw [e2] at e; cases e; exact True.intro
theorem DiceIn.tups {K : PySem.W.Frag} {H : Hp} {D : Addr} {o : HO} (h : DiceIn H D) : Tups K H (upd H D o) := Tups.upd h.mut
theorem But.refl (D : Addr) (H : Hp) : But D H H := fun _ _ _ e => e
theorem But.upd {D : Addr} {H H' : Hp} {o : HO} (h : But D H H') : But D H (upd H' D o) := fun b u ne e => by rw [upd_ne ne]; exact h b u ne e
theorem But.same {D : Addr} {H H' H2 : Hp} (h : But D H H') (s : Same H' H2) : But D H H2 := fun b u ne e => s b u (h b u ne e)
theorem But.trans {D : Addr} {H H' H2 : Hp} (h : But D H H') (s : But D H' H2) : But D H H2 := fun b u ne e => s b u ne (h b u ne e)
theorem But.tups {K : PySem.W.Frag} {D : Addr} {H H' : Hp} (h : But D H H') (d : DiceIn H D) : Tups K H H' := .of fun b ys r => by
  obtain ⟨x, y, z, e⟩ := d
  have ne : b ≠ D := fun c => by
    subst c
    rcases r with r | ⟨o, r⟩ <;> (rw [e] at r; cases r)
  rcases r with r | ⟨o, r⟩
  · exact .inl (h _ _ ne r)
  · exact .inr ⟨o, h _ _ ne r⟩
structure In31 (K : PySem.W.Frag) (H : Hp) (D p1 p2 : Addr) (R : List Row) (H' : Hp) : Prop where
  but : But D H H'
  dice : DiceIn H' D
  pts : ∃ ys, H' p1 = some (.lst ys) ∧ ys ≠ [] ∧ ys.length < 1000 ∧ ∀ y ∈ ys, ∃ k ∈ five, KdV K H' k y
  rows : ∃ ws, H' p2 = some (.lst ws) ∧ Paired (RowV K H') R ws
  n1 : p1 ≠ D
  n2 : p2 ≠ D
  n12 : p1 ≠ p2
  good : ∀ r ∈ R, rowL r
theorem In31.roll {K : PySem.W.Frag} {H : Hp} {D p1 p2 : Addr} {R : List Row} {H' : Hp} (h : In31 K H D p1 p2 R H') (x y z : Int) : In31 K H D p1 p2 R (upd H' D (dicL x y z)) := by
  have t : Tups K H' (upd H' D (dicL x y z)) := h.dice.tups
  obtain ⟨ys, e1, e2, e3, e4⟩ := h.pts
  obtain ⟨ws, f1, f2⟩ := h.rows
  exact ⟨h.but.upd, ⟨x, y, z, upd_same⟩, ⟨ys, by rw [upd_ne h.n1]; exact e1, e2, e3, fun v hv => let ⟨k, hk, kv⟩ := e4 v hv; ⟨k, hk, kv.mono t⟩⟩, ⟨ws, by rw [upd_ne h.n2]; exact f1, Paired.mapP f2 fun _ _ h => h.mono t⟩, h.n1, h.n2, h.n12, h.good⟩
theorem In31.new {K : PySem.W.Frag} {H : Hp} {D p1 p2 q : Addr} {R : List Row} {H' : Hp} {o : HO} (h : In31 K H D p1 p2 R H') (hq : H' q = none) : In31 K H D p1 p2 R (upd H' q o) := by
  have s := same_new (o := o) hq
  have t : Tups K H' (upd H' q o) := .same s
  obtain ⟨ys, e1, e2, e3, e4⟩ := h.pts
  obtain ⟨ws, f1, f2⟩ := h.rows
  obtain ⟨x, y, z, e⟩ := h.dice
  exact ⟨h.but.same s, ⟨x, y, z, s _ _ e⟩, ⟨ys, s _ _ e1, e2, e3, fun v hv => let ⟨k, hk, kv⟩ := e4 v hv; ⟨k, hk, kv.mono t⟩⟩, ⟨ws, s _ _ f1, Paired.mapP f2 fun _ _ h => h.mono t⟩, h.n1, h.n2, h.n12, h.good⟩
theorem paired_snoc {α β : Type} {p : α → β → Prop} {l : List α} {ys : List β} {a : α} {b : β} (h : Paired p l ys) (hab : p a b) : Paired p (l ++ [a]) (ys ++ [b]) := by
  induction h with
  | nil => exact .cons hab .nil
  | cons h1 _ ih => exact .cons h1 ih
theorem In31.push {K : PySem.W.Frag} {H : Hp} {D p1 p2 : Addr} {R : List Row} {H' : Hp} {r : Row} {v : V} {ws : List V} (h : In31 K H D p1 p2 R H') (hw : H' p2 = some (.lst ws)) (hr : RowV K H' r v) (g : rowL r) (hn : H p2 = none) : In31 K H D p1 p2 (R ++ [r]) (upd H' p2 (.lst (ws ++ [v]))) := by
  have t : Tups K H' (upd H' p2 (.lst (ws ++ [v]))) := Tups.upd fun u e => by rw [hw] at e; cases e; exact True.intro
  obtain ⟨ys, e1, e2, e3, e4⟩ := h.pts
  obtain ⟨ws2, f1, f2⟩ := h.rows
  obtain ⟨x, y, z, e⟩ := h.dice
  have ew : ws2 = ws := by rw [hw] at f1; injection f1 with f1; injection f1 with f1; exact f1.symm
  subst ew
  refine ⟨fun b u ne e => by rw [upd_ne (ne_of_none e hn)]; exact h.but b u ne e, ⟨x, y, z, by rw [upd_ne (Ne.symm h.n2)]; exact e⟩, ⟨ys, by rw [upd_ne h.n12]; exact e1, e2, e3, fun v hv => let ⟨k, hk, kv⟩ := e4 v hv; ⟨k, hk, kv.mono t⟩⟩, ⟨_, upd_same, paired_snoc (Paired.mapP f2 fun _ _ h => h.mono t) (hr.mono t)⟩, h.n1, h.n2, h.n12, fun r' hr' => ?_⟩
  rcases List.mem_append.mp hr' with z | z
  · exact h.good r' z
  · rw [List.mem_singleton.mp z]; exact g
def spRows (K : PySem.W.Frag) (w : World) : Sp := fun vs H Q _ => ∃ D, vs = [.ref D] ∧ DiceIn H D ∧ ∀ H' t R, But D H H' → DiceIn H' D → RowsT K H' R t → LRows R → Q (.ref t) H'
section
variable {K : PySem.W.Frag} {mg : Str → Option Value} {base : Heap} {P : Program} {w : World}
abbrev n31 : List Str := ["_law_dice_here", "_law_points", "_law_found", "_law_turn"]
theorem sc31 : FnScope n31 ["_law_dice_here"] (defScope (topS 31)) := ⟨rfl, rfl, rfl, by decide +kernel, rfl, by decide +kernel, by decide +kernel⟩
theorem ok31 {f : Addr} {fd : FuncData} (F : Fun K "_law_rows" "_law_rows" (topS 31) f fd) (B : Blt mg) (c28 : Cal P w K mg base 1 "_law_roll" (spRoll K w)) (c29 : Cal P w K mg base 2 "_law_pick" (spPick K w)) : FnOk P w K mg base CX0 3 f fd ["_law_dice_here"] (spRows K w) := by
  refine F.ok sc31 (fun vs H Q E h => ?_) (fun cdv A outer s H vs Q E hr h => ?_)
  · obtain ⟨D, rfl, _⟩ := h
    rfl
  · refine ⟨_, pss_cons (ps_par (i := 1) (j := 2) rfl sc31.nd rfl rfl (by decide) rfl rfl (pa_cons (pe_slice sl_list (pe_lst (pa_cons pe_str (pa_cons pe_str (pa_cons pe_str (pa_cons (pe_tup (pa_cons pe_str (pa_cons pe_str (pa_cons pe_int pa_nil)))) (pa_cons (pe_tup (pa_cons pe_str (pa_cons pe_str (pa_cons pe_int pa_nil)))) pa_nil)))))) po_none
          (po_some (pe_c c29 hr (by decide) (by rfl) (pa_cons (pv 0) (pa_cons (pe_lst (pa_cons pe_int (pa_cons pe_int (pa_cons pe_int pa_nil)))) pa_nil))))) (pa_cons (pe_lst pa_nil) pa_nil)) (by rfl))
      (pss_cons (ps_for PassesOwn.never rfl (pi_range1 (by rfl) B.range (pa_cons (pe_op op_add pe_int (pe_c c28 hr (by decide) (by rfl) (pa_cons (pv 0) (pa_cons pe_int pa_nil)))) pa_nil)) (pg_name (i := 3) sc31.nd rfl (Or.inl rfl))
        (pss_one (ps_expr (pe_bm PySem.F.plainAttrs_list PySem.F.slot_list_append PySem.F.type_list_append mt_append (pv 2) (pa_cons (pe_tup (pa_cons (pe_c c29 hr (by decide) (by rfl) (pa_cons (pv 0) (pa_cons (pv 1) pa_nil))) (pa_cons (pe_c c29 hr (by decide) (by rfl) (pa_cons (pv 0) (pa_cons (pv 1) pa_nil)))
          (pa_cons (pe_c c29 hr (by decide) (by rfl) (pa_cons (pv 0) (pa_cons (pe_lst (pa_cons pe_int (pa_cons pe_int (pa_cons pe_int (pa_cons (pe_un un_neg pe_int) (pa_cons (pe_un un_neg pe_int) (pa_cons pe_int (pa_cons (pe_un un_neg pe_int) pa_nil)))))))) pa_nil))) pa_nil)))) pa_nil)))))
      (pss_one (ps_ret (pe_callTy call_tuple_of (by rfl) B.tuple boot_tuple (pa_cons (pv 2) pa_nil))))), ?_⟩
    obtain ⟨D, rfl, hD, q⟩ := h
    have hDn : H D ≠ none := by obtain ⟨x, y, z, e⟩ := hD; rw [e]; exact fun z => nomatch z
    have sl : sizeLine = 16777216 := sizeLine_eq
    refine ⟨by rw [sl]; exact (by decide : 3 ≤ 16777216), fun t1 h1 => ⟨by rw [sl]; exact (by decide : 3 ≤ 16777216), fun t2 h2 => ⟨by rw [sl]; exact (by decide : 5 ≤ 16777216), fun p0 h0 => ?_⟩⟩⟩
    have s1 := same_new (o := .tup [.str "a", .str "i", .int 0]) h1
    have s2 := same_new (o := .tup [.str "b", .str "", .int 1]) h2
    have s0 := same_new (o := .lst [.str "", .str "i", .str "*1", .ref t1, .ref t2]) h0
    have k1 : SqT K (upd H t1 (.tup [.str "a", .str "i", .int 0])) t1 [.str "a", .str "i", .int 0] := .inl (.inl upd_same)
    have k2 : SqT K (upd (upd H t1 (.tup [.str "a", .str "i", .int 0])) t2 (.tup [.str "b", .str "", .int 1])) t2 [.str "b", .str "", .int 1] := .inl (.inl upd_same)
    have sa := (s1.trans s2).trans s0
    have k1' := Tups.same (s2.trans s0) _ _ k1
    have k2' := Tups.same s0 _ _ k2
    have hl0 : (upd (upd (upd H t1 (.tup [.str "a", .str "i", .int 0])) t2 (.tup [.str "b", .str "", .int 1])) p0 (.lst [.str "", .str "i", .str "*1", .ref t1, .ref t2])) p0 = some (.lst [.str "", .str "i", .str "*1", .ref t1, .ref t2]) := upd_same
    have hnone : ∀ {b : Addr}, (upd (upd (upd H t1 (.tup [.str "a", .str "i", .int 0])) t2 (.tup [.str "b", .str "", .int 1])) p0 (.lst [.str "", .str "i", .str "*1", .ref t1, .ref t2])) b = none → H b = none := fun hb => sa.free hb
    generalize (upd (upd (upd H t1 (.tup [.str "a", .str "i", .int 0])) t2 (.tup [.str "b", .str "", .int 1])) p0 (.lst [.str "", .str "i", .str "*1", .ref t1, .ref t2])) = H0 at *
    refine ⟨_, rfl, by rw [sl]; exact (by decide : 3 ≤ 16777216), fun p3 h3 => ?_⟩
    obtain ⟨x, y, z, eD⟩ := hD
    have s3 := same_new (o := .lst [.int 2, .int 3, .int 5]) h3
    have n3 : p3 ≠ D := fun e => hDn (hnone (e ▸ h3))
    have n0 : p0 ≠ D := fun e => by subst e; rw [sa _ _ eD] at hl0; cases hl0
    refine ⟨D, p3, [.int 2, .int 3, .int 5], x, y, z, rfl, .inl (.inl upd_same), n3, by simp, by simp, s3 _ _ (sa _ _ eD), fun v x' y' z' hv => ?_⟩
    have b4 : But D H (upd (upd H0 p3 (.lst [.int 2, .int 3, .int 5])) D (dicL x' y' z')) := (((But.refl D H).same sa).same s3).upd
    have d4 : DiceIn (upd (upd H0 p3 (.lst [.int 2, .int 3, .int 5])) D (dicL x' y' z')) D := ⟨_, _, _, upd_same⟩
    have t4 : Tups K H0 (upd (upd H0 p3 (.lst [.int 2, .int 3, .int 5])) D (dicL x' y' z')) := (Tups.same s3).trans (Tups.upd fun u e => by rw [s3 _ _ (sa _ _ eD)] at e; cases e; exact True.intro)
    have l4 : (upd (upd H0 p3 (.lst [.int 2, .int 3, .int 5])) D (dicL x' y' z')) p0 = some (.lst [.str "", .str "i", .str "*1", .ref t1, .ref t2]) := by rw [upd_ne n0]; exact s3 _ _ hl0
    have k1'' := t4 _ _ k1'
    have k2'' := t4 _ _ k2'
    generalize (upd (upd H0 p3 (.lst [.int 2, .int 3, .int 5])) D (dicL x' y' z')) = H4 at *
    have all : ∀ y ∈ [V.str "", V.str "i", V.str "*1", V.ref t1, V.ref t2], ∃ k ∈ five, KdV K H4 k y := fun y hy => by
      simp only [List.mem_cons, List.not_mem_nil, or_false] at hy
      rcases hy with e | e | e | e | e
      · exact ⟨.w "", by simp [five], e⟩
      · exact ⟨.w "i", by simp [five], e⟩
      · exact ⟨.w "*1", by simp [five], e⟩
      · exact ⟨.c "a" "i" 0, by simp [five], t1, e, k1''⟩
      · exact ⟨.c "b" "" 1, by simp [five], t2, e, k2''⟩
    obtain ⟨i, ei, ys, ey, ny, ly, iy⟩ : ∃ i, v = .int i ∧ ∃ ys, cutV [V.str "", V.str "i", V.str "*1", V.ref t1, V.ref t2] none (some i) = ys ∧ ys ≠ [] ∧ ys.length < 1000 ∧ ∀ y ∈ ys, y ∈ [V.str "", V.str "i", V.str "*1", V.ref t1, V.ref t2] := by
      simp only [List.mem_cons, List.not_mem_nil, or_false] at hv
      rcases hv with e | e | e
      · exact ⟨2, e, [V.str "", V.str "i"], rfl, by simp, by simp, fun y hy => by simp at hy ⊢; rcases hy with h | h <;> simp [h]⟩
      · exact ⟨3, e, [V.str "", V.str "i", V.str "*1"], rfl, by simp, by simp, fun y hy => by simp at hy ⊢; rcases hy with h | h | h <;> simp [h]⟩
      · exact ⟨5, e, [V.str "", V.str "i", V.str "*1", V.ref t1, V.ref t2], rfl, by simp, by simp, fun y hy => hy⟩
    subst ei
    refine ⟨i, rfl, p0, _, rfl, .inl (.inl l4), fun p1 hp1 => ?_⟩
    rw [ey]
    refine ⟨by rw [sl]; exact (by decide : 0 ≤ 16777216), fun p2 hp2 => ⟨_, _, rfl, ?_⟩⟩
    have s5 := same_new (o := .lst ys) hp1
    have s6 := same_new (o := .lst []) hp2
    have n12 : p1 ≠ p2 := fun e => by subst e; rw [upd_same] at hp2; cases hp2
    have hDn4 : ∀ {b : Addr}, H4 b = none → b ≠ D := fun hb e => by obtain ⟨_, _, _, e4⟩ := d4; rw [e, e4] at hb; cases hb
    have n1 : p1 ≠ D := hDn4 hp1
    have n2 : p2 ≠ D := hDn4 (s5.free hp2)
    have hp2H : H p2 = none := by
      cases e : H p2 with
      | none => rfl
      | some u => rw [(b4.same s5) _ _ n2 e] at hp2; cases hp2
    have I0 : In31 K H D p1 p2 [] (upd (upd H4 p1 (.lst ys)) p2 (.lst [])) := by
      obtain ⟨_, _, _, e4⟩ := d4
      exact ⟨(b4.same s5).same s6, ⟨_, _, _, s6 _ _ (s5 _ _ e4)⟩, ⟨ys, s6 _ _ upd_same, ny, ly, fun y hy => let ⟨k, hk, kv⟩ := all y (iy y hy); ⟨k, hk, kv.mono (.same (s5.trans s6))⟩⟩, ⟨[], upd_same, .nil⟩, n1, n2, n12, fun r hr => nomatch hr⟩
    generalize (upd (upd H4 p1 (.lst ys)) p2 (.lst [])) = H5 at I0
    obtain ⟨x5, y5, z5, e5⟩ := I0.dice
    refine ⟨_, rfl, D, 6, x5, y5, z5, rfl, by decide, by decide, e5, fun r x' y' z' r0 r6 => ?_⟩
    have I1 := I0.roll x' y' z'
    generalize upd H5 D (dicL x' y' z') = H6 at I1
    refine ⟨_, _, rfl, rfl, _, rfl, by omega, by omega, ?_⟩
    obtain ⟨n, hn⟩ : ∃ n, (1 + r).toNat = n := ⟨_, rfl⟩
    have hn1 : 1 ≤ n := by omega
    have hn6 : n ≤ 6 := by omega
    rw [hn]
    refine for_steady steady_rng (fun k σ H' => ∃ R z3, σ = [some (.ref D), some (.ref p1), some (.ref p2), z3] ∧ In31 K H D p1 p2 R H' ∧ R.length = k) ⟨[], _, rfl, I1, rfl⟩ (fun _ _ _ _ _ => trivial) ?_ ?_
    · rintro k σ H7 hk ⟨R, z3, rfl, I7, lR⟩
      obtain ⟨ys7, a1, a2, a3, a4⟩ := I7.pts
      obtain ⟨x7, y7, z7, e7⟩ := I7.dice
      obtain ⟨ws7, c1, c2⟩ := I7.rows
      refine ⟨_, rfl, .inl ⟨rfl, _, .inl (.inl c1)⟩, _, rfl, _, rfl, D, p1, ys7, x7, y7, z7, rfl, .inl (.inl a1), I7.n1, a2, a3, e7, fun v1 x8 y8 z8 hv1 => ?_⟩
      obtain ⟨j1, hj1, kv1⟩ := a4 v1 hv1
      have kv1 := kv1.mono (K := K) (I7.dice.tups (o := dicL x8 y8 z8))
      have I8 := I7.roll x8 y8 z8
      generalize upd H7 D (dicL x8 y8 z8) = H8 at I8 kv1
      obtain ⟨ys8, a1, a2, a3, a4⟩ := I8.pts
      obtain ⟨x8, y8, z8, e8⟩ := I8.dice
      refine ⟨_, rfl, _, rfl, D, p1, ys8, x8, y8, z8, rfl, .inl (.inl a1), I8.n1, a2, a3, e8, fun v2 x9 y9 z9 hv2 => ?_⟩
      obtain ⟨j2, hj2, kv2⟩ := a4 v2 hv2
      have kv2 := kv2.mono (K := K) (I8.dice.tups (o := dicL x9 y9 z9))
      have kv1 := kv1.mono (K := K) (I8.dice.tups (o := dicL x9 y9 z9))
      have I9 := I8.roll x9 y9 z9
      generalize upd H8 D (dicL x9 y9 z9) = H9 at I9 kv1 kv2
      refine ⟨_, rfl, _, rfl, _, rfl, _, rfl, by rw [sl]; exact (by decide : 7 ≤ 16777216), fun p4 hp4 => ?_⟩
      have sA := same_new (o := .lst [.int 0, .int 0, .int 1, .int (-1), .int (-1), .int 3, .int (-4)]) hp4
      have kv1 := kv1.mono (K := K) (.same sA)
      have kv2 := kv2.mono (K := K) (.same sA)
      have IA := I9.new (o := .lst [.int 0, .int 0, .int 1, .int (-1), .int (-1), .int 3, .int (-4)]) hp4
      have hl4 : (upd H9 p4 (.lst [.int 0, .int 0, .int 1, .int (-1), .int (-1), .int 3, .int (-4)])) p4 = some (.lst [.int 0, .int 0, .int 1, .int (-1), .int (-1), .int 3, .int (-4)]) := upd_same
      have n4 : p4 ≠ D := fun e => by obtain ⟨_, _, _, e9⟩ := I9.dice; rw [e, e9] at hp4; cases hp4
      obtain ⟨xA, yA, zA, eA⟩ := IA.dice
      refine ⟨D, p4, _, xA, yA, zA, rfl, .inl (.inl hl4), n4, by simp, by simp, eA, fun v3 xB yB zB hv3 => ?_⟩
      have kv1 := kv1.mono (K := K) (IA.dice.tups (o := dicL xB yB zB))
      have kv2 := kv2.mono (K := K) (IA.dice.tups (o := dicL xB yB zB))
      have IB := IA.roll xB yB zB
      generalize upd (upd H9 p4 (.lst [.int 0, .int 0, .int 1, .int (-1), .int (-1), .int 3, .int (-4)])) D (dicL xB yB zB) = HB at IB kv1 kv2
      obtain ⟨m, em, hm⟩ : ∃ m, v3 = .int m ∧ m ∈ mosts := by
        simp only [List.mem_cons, List.not_mem_nil, or_false] at hv3
        rcases hv3 with e | e | e | e | e | e | e <;> exact ⟨_, e, by simp [mosts]⟩
      subst em
      refine ⟨by rw [sl]; exact (by decide : 3 ≤ 16777216), fun q4 hq4 => ?_⟩
      have sC := same_new (o := .tup [v1, v2, .int m]) hq4
      have IC := IB.new (o := .tup [v1, v2, .int m]) hq4
      have rv : RowV K (upd HB q4 (.tup [v1, v2, .int m])) (j1, j2, m) (.ref q4) := ⟨q4, v1, v2, rfl, .inl (.inl upd_same), kv1.mono (.same sC), kv2.mono (.same sC)⟩
      obtain ⟨wsC, w1, w2⟩ := IC.rows
      have lw := paired_len w2
      exact ⟨p2, wsC, .ref q4, rfl, rfl, w1, by rw [sl, ← lw, lR]; omega, R ++ [(j1, j2, m)], _, rfl, IC.push w1 rv ⟨hj1, hj2, hm⟩ hp2H, by rw [List.length_append, lR]; rfl⟩
    · rintro σ H7 ⟨R, z3, rfl, I7, lR⟩
      obtain ⟨ws7, c1, c2⟩ := I7.rows
      refine ⟨_, rfl, p2, ws7, rfl, .inl ⟨.inl (.inl c1), fun l hl => ?_⟩⟩
      have s7 := same_new (o := .tup ws7) hl
      obtain ⟨x7, y7, z7, e7⟩ := I7.dice
      exact q _ l R (I7.but.same s7) ⟨x7, y7, z7, s7 _ _ e7⟩ ⟨ws7, .inl (.inl upd_same), Paired.mapP c2 fun _ _ h => h.mono (.same s7)⟩ ⟨by omega, by omega, I7.good⟩
end
end Fc
namespace Fc
open PySem L2 PyProof.Rows
theorem filt_pairG {α β : Type} {l : List α} (a0 : α) {p : α → β → Prop} {c : α → Bool} {ys : List β} (h : Paired (fun k y => p (l.getD k a0) y) ((List.range l.length).filter fun k => c (l.getD k a0)) ys) : Paired p (l.filter c) ys := by
  have e : l.filter c = ((List.range l.length).filter fun k => c (l.getD k a0)).map fun k => l.getD k a0 := by
    have h1 := List.filter_map (f := fun k => l.getD k a0) (p := c) (l := List.range l.length)
    rw [range_getD] at h1
    exact h1
  rw [e]
  generalize (List.range l.length).filter _ = is at h
  induction h with
  | nil => exact .nil
  | cons h _ ih => exact .cons h ih
theorem pair_dp {K : PySem.W.Frag} {H : Hp} {ds : List PyData} {ys : List V} (h : Paired (fun d y => Dp K H y d) ds ys) : DpAll K H ys ds := by
  induction h with
  | nil => exact .nil
  | cons h _ ih => exact .cons h ih
theorem canAll_iff : ∀ ds : List PyData, PyData.canLayAll0 ds = true ↔ ∀ d ∈ ds, PyData.canLay0 d = true
  | [] => by simp [PyData.canLayAll0]
  | d :: ds => by rw [PyData.canLayAll0, Bool.and_eq_true, canAll_iff ds]; simp
theorem depAll_iff (n : Nat) : ∀ ds : List PyData, PyData.depthAll ds ≤ n ↔ ∀ d ∈ ds, PyData.depth d ≤ n
  | [] => by simp [PyData.depthAll]
  | d :: ds => by
    rw [PyData.depthAll]
    have := depAll_iff n ds
    simp only [List.mem_cons, forall_eq_or_imp, ← this]
    omega
theorem shaped_sub {ds es : List PyData} (h : SeqAt.shaped (.tuple ds) = true) (s : ∀ d ∈ es, d ∈ ds) : SeqAt.shaped (.list es) = true := by
  have h1 := SeqAt.canLay_of_shaped h
  have h2 := SeqAt.depth_of_shaped h
  rw [PyData.canLay0, canAll_iff] at h1
  rw [PyData.depth] at h2
  have h3 := (depAll_iff 63 ds).mp (by omega)
  unfold SeqAt.shaped
  rw [PyData.canLay0, (canAll_iff es).mpr fun d hd => h1 d (s d hd), Bool.true_and, decide_eq_true_eq, PyData.depth]
  have := (depAll_iff 63 es).mpr fun d hd => h3 d (s d hd)
  omega
theorem shaped_ints (l : List Int) : SeqAt.shaped (.list (l.map .int)) = true := by
  unfold SeqAt.shaped
  have h1 : PyData.canLayAll0 (l.map .int) = true := (canAll_iff _).mpr fun d hd => by obtain ⟨i, _, e⟩ := List.mem_map.mp hd; rw [← e]; rfl
  have h2 : PyData.depthAll (l.map .int) ≤ 0 := (depAll_iff 0 _).mpr fun d hd => by obtain ⟨i, _, e⟩ := List.mem_map.mp hd; rw [← e]; simp [PyData.depth]
  rw [PyData.canLay0, h1, Bool.true_and, decide_eq_true_eq, PyData.depth]
  omega
theorem shaped_nil : SeqAt.shaped (.list []) = true := by decide +kernel
theorem shaped_tnil : SeqAt.shaped (.tuple []) = true := by decide +kernel
theorem eqv_nil (l : List PyData) : PyData.eqv (.list l) (.list []) = l.isEmpty := by cases l <;> simp [PyData.eqv, PyData.eqvAll]
theorem eqv_tnil (l : List PyData) : PyData.eqv (.tuple l) (.tuple []) = l.isEmpty := by cases l <;> simp [PyData.eqv, PyData.eqvAll]
theorem filter_empty {α : Type} (l : List α) (c : α → Bool) : (l.filter c).isEmpty = l.all fun x => !c x := by
  induction l with
  | nil => rfl
  | cons a l ih =>
    rw [List.filter_cons, List.all_cons]
    cases c a with
    | true => simp
    | false => simpa using ih
/-- the links one by one, from here on or from the one ahead -/
theorem links_turn (R : List Row) : ((List.range R.length).all fun k => eqK (rowN R k).2.1 (rowN R ((k + 1) % R.length)).1) = (List.range R.length).all (linkB R) := by
  rw [Bool.eq_iff_iff, List.all_eq_true, List.all_eq_true]
  constructor
  · intro h k hk
    rw [List.mem_range] at hk
    have h1 := h (prevI R.length k) (List.mem_range.mpr (prevI_lt hk))
    have e : (prevI R.length k + 1) % R.length = k := by
      unfold prevI
      by_cases c : k = 0
      · subst c
        rw [if_pos rfl, Nat.sub_add_cancel (by omega), Nat.mod_self]
      · rw [if_neg c, Nat.sub_add_cancel (by omega), Nat.mod_eq_of_lt hk]
    rw [e] at h1
    exact h1
  · intro h k hk
    rw [List.mem_range] at hk
    have hm : (k + 1) % R.length < R.length := Nat.mod_lt _ (by omega)
    have h1 := h ((k + 1) % R.length) (List.mem_range.mpr hm)
    unfold linkB at h1
    have e : prevI R.length ((k + 1) % R.length) = k := by
      unfold prevI
      by_cases c : k + 1 = R.length
      · rw [c, Nat.mod_self, if_pos rfl]; omega
      · rw [Nat.mod_eq_of_lt (by omega), if_neg (by omega)]; omega
    rw [e] at h1
    exact h1
/-- tuples hold what never changes -/
def flatT : PyData → Prop
  | .tuple ds => tupDs ds = true
  | _ => True
theorem pair_map {α β : Type} {f : α → β} {l : List α} {ys : List β} (h : Paired (fun k y => y = f k) l ys) : ys = l.map f := by
  induction h with
  | nil => rfl
  | cons h _ ih => rw [h, ih]; rfl
theorem pair_via {α β γ : Type} {f : α → γ} {p : γ → β → Prop} {l : List α} {ys : List β} (h : Paired (fun k y => p (f k) y) l ys) : Paired p (l.map f) ys := by
  induction h with
  | nil => exact .nil
  | cons h _ ih => exact .cons h ih
theorem filter_yes {α : Type} (l : List α) : l.filter (fun _ => true) = l := List.filter_eq_self.mpr fun _ _ => rfl
theorem chosen_eq {R : List Row} (ds : List PyData) : ds.map (fun e => rowN R (idxD e)) = (List.range ds.length).map fun k => rowN R (idxD (ds.getD k .none)) := by
  refine List.ext_getElem (by simp) fun k h1 h2 => ?_
  rw [List.getElem_map, List.getElem_map, List.getElem_range, List.getD_eq_getElem?_getD, List.getElem?_eq_getElem (by simpa using h1)]
  rfl
def spChain (K : PySem.W.Frag) (w : World) : Sp := fun vs H Q _ => ∃ t v R d, vs = [.ref t, v] ∧ RowsT K H R t ∧ RowsOk R ∧ Dp K H v d ∧ shortT d ∧ flatT d ∧ SeqAt.shaped d = true ∧ ∀ H', Same H H' → Q (.bl (isRing R d)) H'
abbrev rLenS (K : PySem.W.Frag) : List V → Hp → VK → Prop := fun xs H Q => ∃ p ys, xs = [.ref p] ∧ (SqL K H p ys ∨ SqT K H p ys) ∧ Q (.int ys.length) H
section
variable {K : PySem.W.Frag} {mg : Str → Option Value} {base : Heap} {P : Program} {w : World}
abbrev n32 : List Str := ["_law_rows_here", "_law_value", "_law_chosen", "_law_one", "_law_index", "_law_row", "_law_spot"]
theorem sc32 : FnScope n32 ["_law_rows_here", "_law_value"] (defScope (topS 32)) := ⟨rfl, rfl, rfl, by decide +kernel, rfl, by decide +kernel, by decide +kernel⟩
theorem ok32 {f : Addr} {fd : FuncData} (F : Fun K "_law_is_chain" "_law_is_chain" (topS 32) f fd) (B : Blt mg) (c30 : Cal P w K mg base 1 "_law_is_integer" (spInt K w)) : FnOk P w K mg base CX0 2 f fd ["_law_rows_here", "_law_value"] (spChain K w) := by
  refine F.ok sc32 (fun vs H Q E h => ?_) (fun cdv A outer s H vs Q E hr h => ?_)
  · obtain ⟨t, v, R, d, rfl, _⟩ := h
    rfl
  · have hu := hu70 hr
    refine ⟨_, pss_cons (ps_if (pw_or (pt_not (pt_val (pe_callB call_isiD (by rfl) B.isinstance boot_isinstance (pa_cons (pv 1) (pa_cons (pe_bltn (v := .ty "tuple") (by rfl) B.tuple boot_tuple rfl) pa_nil))))) (pw_or1 (pt_cmpR (op_eqD (hu64 hu)) (pv 1) (pe_tup pa_nil) (nomark _)))).pt (pss_one (ps_ret pe_bl)) pss_nil)
      (pss_cons (ps_if (pt_cmpR (op_neD (hu64 hu)) (pe_lc (own := [("_law_one", 3)]) (g := gName 3) (by rfl) sc32.nd (pi_tup (pv 1)) (blkOk_by (N := n32) (sc := defScope (topS 32)) (by decide +kernel))
          (fun _ _ _ _ _ => pg_name (i := 3) sc32.nd rfl (Or.inl rfl)) (fun _ _ _ _ _ => pts_one (pw_or (pt_not (pt_val (pe_c c30 hr (by decide) (by rfl) (pa_cons (pv 3) pa_nil)))) (pw_or1 (pt_not (pt_chain op_le op_lt pe_int (pv 3) (pe_callB (r := rLenS K) call_len_seq (by rfl) B.len boot_len (pa_cons (pv 0) pa_nil)))))).pt) (fun _ _ _ _ _ => pv 3)) (pe_lst pa_nil) (nomark _)) (pss_one (ps_ret pe_bl)) pss_nil)
      (pss_cons (ps_set (i := 2) sc32.nd rfl (Or.inr rfl) (pe_lc (own := [("_law_index", 4)]) (g := gName 4) (by rfl) sc32.nd (pi_tup (pv 1)) (blkOk_by (N := n32) (sc := defScope (topS 32)) (by decide +kernel))
          (fun _ _ _ _ _ => pg_name (i := 4) sc32.nd rfl (Or.inl rfl)) (fun _ _ _ _ _ => pts_nil) (fun _ _ _ _ _ => pe_ix (r := rIxT K) ix_tup (pv 0) (pv 4) (fun _ _ => rfl))))
      (pss_cons (ps_if (pt_cmpR op_ge (pe_callB (cr_sum rfl) (by rfl) B.sum boot_sum (pa_cons (pe_lc (own := [("_law_row", 5)]) (g := gName 5) (by rfl) sc32.nd (pi_list (pv 2)) (blkOk_by (N := n32) (sc := defScope (topS 32)) (by decide +kernel))
          (fun _ _ _ _ _ => pg_name (i := 5) sc32.nd rfl (Or.inl rfl)) (fun _ _ _ _ _ => pts_nil) (fun _ _ _ _ _ => pe_ix (r := rIxT K) ix_tup (pv 5) pe_int (fun _ _ => rfl))) pa_nil)) pe_int (nomark _)) (pss_one (ps_ret pe_bl)) pss_nil)
      (pss_one (ps_ret (pe_cmpR (op_eqD (hu64 hu)) (pe_lc (own := [("_law_spot", 6)]) (g := gName 6) (by rfl) sc32.nd (pi_range1 (by rfl) B.range (pa_cons (pe_callB call_len_seq (by rfl) B.len boot_len (pa_cons (pv 2) pa_nil)) pa_nil)) (blkOk_by (N := n32) (sc := defScope (topS 32)) (by decide +kernel))
          (fun _ _ _ _ _ => pg_name (i := 6) sc32.nd rfl (Or.inl rfl)) (fun _ _ _ _ _ => pts_one (pt_cmpR (r := rNeD K) (op_neD (hu64 hu)) (pe_ix (r := rIxT K) ix_tup (pe_ix (r := rIxL K) ix_list (pv 2) (pv 6) (fun _ _ => rfl)) pe_int (fun _ _ => rfl)) (pe_ix (r := rIxT K) ix_tup (pe_ix (r := rIxL K) ix_list (pv 2) (pe_op op_mod (pe_op op_add (pv 6) pe_int) (pe_callB (r := rLenS K) call_len_seq (by rfl) B.len boot_len (pa_cons (pv 2) pa_nil))) (fun _ _ => rfl)) pe_int (fun _ _ => rfl)) (nomark _))) (fun _ _ _ _ _ => pv 6)) (pe_lst pa_nil) (nomark _))))))), ?_⟩
    obtain ⟨t, v, R, d, rfl, ⟨vs, st, pr⟩, ro, hd, hsh, hfl, hsp, q⟩ := h
    have sl : sizeLine = 16777216 := sizeLine_eq
    have hl := ro.len
    have lv := paired_len pr
    refine ⟨_, rfl, v, d, _, rfl, .inl hd, .inr (.inr (.inr (.inl rfl))), _, rfl, ?_⟩
    by_cases ht : isTy d "tuple" = true
    · rw [ht]
      obtain ⟨ds, rfl⟩ : ∃ ds, d = .tuple ds := by cases d <;> first | exact ⟨_, rfl⟩ | (rw [isTy_tupF] at ht; cases ht)
      cases hd with
      | @tup a xs _ sa da =>
      have lx := dp_len da
      change ds.length ≤ 1000 at hsh
      change tupDs ds = true at hfl
      refine iteF ⟨_, rfl, by rw [sl]; exact (by decide : 0 ≤ 16777216), fun p0 h0 => ?_⟩
      have s0 := same_new (o := .tup []) h0
      have q0 := q _ s0
      have sa0 := Tups.same (K := K) s0 _ _ sa
      have da0 := dps_mono s0 _ _ da
      have st0 := Tups.same (K := K) s0 _ _ st
      have pr0 : Paired (RowV K (upd H p0 (.tup []))) R vs := Paired.mapP pr fun _ _ h => h.mono (.same s0)
      have tn0 : SqT K (upd H p0 (.tup [])) p0 [] := .inl (.inl upd_same)
      replace q : ∀ H', Same (upd H p0 (.tup [])) H' → Q (.bl (isRing R (.tuple ds))) H' := fun H' s => q H' (s0.trans s)
      clear s0 h0 st pr sa da
      generalize upd H p0 (.tup []) = H0 at *
      refine ⟨_, .tuple [], .tup sa0 da0, .tup tn0 .nil, hsp, shaped_tnil, _, rfl, ?_⟩
      rw [eqv_tnil]
      by_cases hnil : ds = []
      · subst hnil
        exact iteT q0
      · have e0 : ds.isEmpty = false := by cases ds with
          | nil => exact absurd rfl hnil
          | cons _ _ => rfl
        rw [e0]
        have tD : ∀ k, tupD (ds.getD k .none) = true := by
          have gen : ∀ (ds : List PyData), tupDs ds = true → ∀ k, tupD (ds.getD k .none) = true := by
            intro ds
            induction ds with
            | nil => intro _ k; simp [tupD]
            | cons d ds ih =>
              intro h k
              obtain ⟨h1, h2⟩ := (Bool.and_eq_true _ _).mp h
              cases k with
              | zero => exact h1
              | succ k => exact ih h2 k
          exact gen ds hfl
        refine iteF ⟨_, rfl, a, rfl, ⟨xs, sa0⟩, fun L1 hL1 => ?_⟩
        refine lc_gen (K := K) (b := fun k => !isIdx (ds.getD k .none) (R.length : Int)) (fun H k y => Dp K H y (ds.getD k .none)) steady_tup (fun _ _ k _ t h => dp_tups t _ _ (tD k) h) (fun H2 s2 => Tups.same s2 _ _ sa0) (by exact (by decide : 3 < 7)) (by omega) hL1 (fun k H2 Q hk s2 q => ?_) (fun k H2 Q hk _ s2 q => ?_) fun H2 ys s2 hy pp => ?_
        · have hk' : k < ds.length := by omega
          have dk := dp_mono s2 _ _ (dp_at da0 hk')
          refine ⟨_, rfl, _, _, rfl, dk, _, rfl, ?_⟩
          cases c : isInt (ds.getD k .none) with
          | false =>
            refine iteT ?_
            have e : isIdx (ds.getD k .none) (R.length : Int) = false := by
              rw [isInt_eq] at c
              generalize ds.getD k .none = e at c
              cases e <;> first | rfl | cases c
            rw [e] at q
            exact q
          | true =>
            obtain ⟨i, ei⟩ := int_of c
            have ex : xs.getD k .non = .int i := by
              rw [ei] at dk
              generalize xs.getD k .non = x at dk
              cases dk; rfl
            rw [ei] at q
            refine iteF ⟨_, rfl, _, i, rfl, ex, _, rfl, ?_⟩
            replace q : Q (!(decide (0 ≤ i) && decide (i < (R.length : Int)))) H2 := q
            by_cases c1 : (0 : Int) ≤ i
            · rw [decide_eq_true c1] at q ⊢
              refine iteT ⟨_, rfl, t, vs, rfl, .inr (Tups.same s2 _ _ st0), i, _, ex, rfl, _, rfl, ?_⟩
              rw [← lv]
              exact q
            · rw [decide_eq_false c1] at q ⊢
              exact iteF ⟨_, rfl, q⟩
        · exact ⟨_, rfl, q H2 _ (Same.refl _) (dp_mono s2 _ _ (dp_at da0 (by omega)))⟩
        · rw [lx] at pp
          have pd1 := pair_dp (filt_pairG (c := fun e => !isIdx e (R.length : Int)) (p := fun d y => Dp K H2 y d) (.none : PyData) pp)
          refine ⟨by rw [sl]; exact (by decide : 0 ≤ 16777216), fun p2 hp2 => ?_⟩
          have s3 := same_new (o := .lst []) hp2
          refine ⟨.list (ds.filter fun e => !isIdx e (R.length : Int)), .list [], .lst (.inl (.inl (s3 _ _ hy))) (dps_mono s3 _ _ pd1), .lst (.inl (.inl upd_same)) .nil, shaped_sub hsp fun d hd => (List.mem_filter.mp hd).1, shaped_nil, _, rfl, ?_⟩
          rw [eqv_nil, filter_empty]
          have s30 : Same H0 (upd H2 p2 (.lst [])) := s2.trans s3
          have q3 := q _ s30
          have sa3 := Tups.same (K := K) s30 _ _ sa0
          have da3 := dps_mono s30 _ _ da0
          have st3 := Tups.same (K := K) s30 _ _ st0
          have pr3 : Paired (RowV K (upd H2 p2 (.lst []))) R vs := Paired.mapP pr0 fun _ _ h => h.mono (.same s30)
          replace q : ∀ H', Same (upd H2 p2 (.lst [])) H' → Q (.bl (isRing R (.tuple ds))) H' := fun H' s => q H' (s30.trans s)
          clear s3 hp2 s30 sa0 da0 st0 pr0 tn0 q0 pd1 pp hy s2
          generalize upd H2 p2 (.lst []) = H3 at *
          have eal : (ds.all fun x => !!isIdx x (R.length : Int)) = ds.all fun x => isIdx x (R.length : Int) := by simp
          rw [eal]
          change Q (.bl (isRingL R ds)) H3 at q3
          have q4 := q3
          unfold isRingL at q3
          cases pre : ds.all fun x => isIdx x (R.length : Int) with
          | false =>
            rw [pre, Bool.false_and] at q3
            exact iteT q3
          | true =>
            have inr : ∀ k, k < ds.length → ∃ j : Nat, ds.getD k .none = .int (j : Int) ∧ j < R.length := fun k hk => by
              have h1 := List.all_eq_true.mp pre (ds.getD k .none) (by rw [List.getD_eq_getElem?_getD, List.getElem?_eq_getElem hk]; exact List.getElem_mem hk)
              generalize ds.getD k .none = e at h1
              cases e <;> first | (simp [isIdx] at h1; done) | skip
              rename_i i
              simp only [isIdx, Bool.and_eq_true, decide_eq_true_eq] at h1
              exact ⟨i.toNat, by congr 1; omega, by omega⟩
            refine iteF ⟨_, rfl, a, rfl, ⟨xs, sa3⟩, fun D hD => ?_⟩
            refine lc_gen (K := K) (b := fun _ => true) (fun H k y => RowV K H (rowN R (idxD (ds.getD k .none))) y) steady_tup (fun _ _ _ _ t h => h.mono t) (fun H2 s2 => Tups.same s2 _ _ sa3) (by exact (by decide : 4 < 7)) (by omega) hD (fun k H Q hk s2 q => q) (fun k H2 Q hk _ s2 q => ?_) fun H4 ys4 s4 hy4 pp4 => ?_
            · have hk' : k < ds.length := by omega
              obtain ⟨j, ej, lj⟩ := inr k hk'
              have dk := dp_at da3 hk'
              rw [ej] at dk
              have ex : xs.getD k .non = .int (j : Int) := by
                generalize xs.getD k .non = x at dk
                cases dk; rfl
              obtain ⟨u, x, y, eu, su, kx, ky⟩ := vs_at pr3 lj
              refine ⟨_, rfl, _, rfl, t, vs, _, _, rfl, by rw [ex], Tups.same s2 _ _ st3, atI_nat eu, q H2 _ (Same.refl _) ?_⟩
              have ei : idxD (ds.getD k .none) = j := by rw [ej]; show ((j : Int)).toNat = j; omega
              rw [ei]
              exact ⟨u, x, y, rfl, Tups.same s2 _ _ su, kx.mono (.same s2), ky.mono (.same s2)⟩
            · rw [filter_yes, lx] at pp4
              have pc : Paired (RowV K H4) (ds.map fun e => rowN R (idxD e)) ys4 := by
                rw [chosen_eq]
                exact pair_via pp4
              have q5 := q H4 s4
              have shc : ∀ r ∈ ds.map (fun e => rowN R (idxD e)), shRow r := fun r hr => by
                rw [chosen_eq] at hr
                obtain ⟨k, hk, e⟩ := List.mem_map.mp hr
                obtain ⟨j, ej, lj⟩ := inr k (by rw [List.mem_range] at hk; omega)
                rw [ej] at e
                have ei : idxD (.int (j : Int)) = j := by show ((j : Int)).toNat = j; omega
                rw [ei] at e
                rw [← e]
                exact ro.sh _ (rowN_mem lj)
              have lC : (ds.map fun e => rowN R (idxD e)).length = ds.length := List.length_map _
              replace q : ∀ H', Same H4 H' → Q (.bl (ringB (ds.map fun e => rowN R (idxD e)))) H' := fun H' s => by
                have h := q H' (s4.trans s)
                change Q (.bl (ds.all _ && ringB _)) H' at h
                rw [pre, Bool.true_and] at h
                exact h
              clear q3 q4 q5 sa3 da3 st3 pr3 pp4 s4 inr pre eal
              have pos : 0 < ds.length := List.length_pos_iff.mpr hnil
              generalize (ds.map fun e => rowN R (idxD e)) = CH at pc shc lC q
              have ly4 : ys4.length = CH.length := (paired_len pc).symm
              refine ⟨_, rfl, D, rfl, ⟨ys4, .inl (.inl hy4)⟩, fun D5 hD5 => ?_⟩
              refine lc_gen (K := K) (b := fun _ => true) (fun H k y => y = .int (mN CH k)) steady_list (fun _ _ _ _ _ h => h) (fun H2 s2 => .inl (.inl (s2 _ _ hy4))) (by exact (by decide : 5 < 7)) (by omega) hD5 (fun k H Q hk s2 q => q) (fun k H5 Q hk _ s5 q => ?_) fun H6 ys6 s6 hy6 pp6 => ?_
              · obtain ⟨u, x, y, eu, su, kx, ky⟩ := vs_at pc (by omega : k < CH.length)
                have ex : ys4.getD k .non = .ref u := by rw [List.getD_eq_getElem?_getD, eu]; rfl
                refine ⟨_, rfl, u, _, 2, _, by rw [ex], rfl, Tups.same s5 _ _ su, atI_nat (j := 2) rfl, q H5 _ (Same.refl _) rfl⟩
              · rw [filter_yes] at pp6
                have e6 : ys6 = (CH.map (·.2.2)).map V.int := by
                  rw [pair_map (f := fun k => V.int (mN CH k)) pp6, ly4]
                  refine List.ext_getElem (by simp) fun k h1 h2 => ?_
                  rw [List.getElem_map, List.getElem_map, List.getElem_map, List.getElem_range]
                  show V.int (CH.getD k _).2.2 = _
                  rw [List.getD_eq_getElem?_getD, List.getElem?_eq_getElem (by simpa using h2)]
                  rfl
                rw [e6] at hy6
                refine ⟨D5, _, rfl, .inl (.inl hy6), _, _, rfl, rfl, _, rfl, ?_⟩
                change ite (decide (0 ≤ sumM CH) = true) _ _
                have q6 := q H6 s6
                by_cases c : (0 : Int) ≤ sumM CH
                · rw [decide_eq_true c]
                  have e : ringB CH = false := by
                    unfold ringB
                    rw [decide_eq_false (by omega), Bool.and_false]
                  rw [e] at q6
                  exact iteT q6
                · rw [decide_eq_false c]
                  have e : ringB CH = (List.range CH.length).all fun k => eqK (rowN CH k).2.1 (rowN CH ((k + 1) % CH.length)).1 := by
                    unfold ringB
                    rw [decide_eq_true (by omega), Bool.and_true, links_turn]
                  refine iteF ⟨_, rfl, D, ys4, rfl, .inl (.inl (.inl (s6 _ _ hy4))), _, rfl, by omega, by omega, fun D7 hD7 => ?_⟩
                  have en : ((ys4.length : Nat) : Int).toNat = CH.length := by omega
                  rw [en]
                  have pc6 : Paired (RowV K H6) CH ys4 := Paired.mapP pc fun _ _ h => h.mono (.same s6)
                  refine lc_gen (K := K) (b := fun k => !eqK (rowN CH k).2.1 (rowN CH ((k + 1) % CH.length)).1) (fun H k y => y = .int (k : Int)) steady_rng (fun _ _ _ _ _ h => h) (fun H2 s2 => trivial) (by exact (by decide : 6 < 7)) (by omega) hD7 (fun k H7 Q hk s7 q => ?_) (fun k H7 Q hk _ s7 q => ?_) fun H8 ys8 s8 hy8 pp8 => ?_
                  · have hk2 : (k + 1) % CH.length < CH.length := Nat.mod_lt _ (by omega)
                    obtain ⟨u, x, y, eu, su, kx, ky⟩ := vs_at pc6 hk
                    obtain ⟨u2, x2, y2, eu2, su2, kx2, ky2⟩ := vs_at pc6 hk2
                    have hy7 := s7 _ _ (s6 _ _ hy4)
                    have pos9 : (0 : Int) < (ys4.length : Int) := by omega
                    have t7 : Tups K H6 H7 := .same s7
                    have a1 : atI ys4 (0 + (k : Int)) = some (.ref u) := by rw [Int.zero_add]; exact atI_nat eu
                    have a2 : atI ys4 ((0 + (k : Int) + 1) % (ys4.length : Int)) = some (.ref u2) := by
                      have e9 : (0 + (k : Int) + 1) % (ys4.length : Int) = (((k + 1) % CH.length : Nat) : Int) := by
                        rw [ly4]
                        simp
                      rw [e9]
                      exact atI_nat eu2
                    refine ⟨_, rfl, _, rfl, D, ys4, _, _, rfl, rfl, .inl (.inl hy7), a1, u, _, 1, y, rfl, rfl, t7 _ _ su, atI_nat (j := 1) rfl, ?_⟩
                    refine ⟨_, rfl, _, rfl, _, _, rfl, rfl, _, rfl, D, ys4, rfl, .inl (.inl (.inl hy7)), _, _, rfl, rfl, pos9, D, ys4, _, _, rfl, rfl, .inl (.inl hy7), a2, u2, _, 0, x2, rfl, rfl, t7 _ _ su2, atI_nat (j := 0) rfl, ?_⟩
                    exact (ky.mono t7).dq (kx2.mono t7) (shc _ (rowN_mem hk)).2 (shc _ (rowN_mem hk2)).1 ⟨_, rfl, q⟩
                  · exact ⟨_, rfl, q H7 _ (Same.refl _) (by rw [Int.zero_add])⟩
                  · have e8 := pair_map (f := fun k : Nat => V.int (k : Int)) pp8
                    refine ⟨by rw [sl]; exact (by decide : 0 ≤ 16777216), fun p9 hp9 => ?_⟩
                    have s9 := same_new (o := .lst []) hp9
                    generalize hfl : (List.range CH.length).filter (fun k => !eqK (rowN CH k).2.1 (rowN CH ((k + 1) % CH.length)).1) = fl at e8
                    have dp9 : ∀ (H : Hp) (l : List Nat), DpAll K H (l.map fun k : Nat => V.int (k : Int)) ((l.map fun k : Nat => (k : Int)).map .int) := fun H l => by
                      induction l with
                      | nil => exact .nil
                      | cons a l ih => exact .cons (.int _) ih
                    rw [e8] at hy8
                    refine ⟨_, .list [], .lst (.inl (.inl (s9 _ _ hy8))) (dp9 _ fl), .lst (.inl (.inl upd_same)) .nil, shaped_ints _, shaped_nil, ?_⟩
                    have q9 := q _ ((s6.trans s8).trans s9)
                    rw [e, ← Bool.not_not ((List.range CH.length).all _)] at q9
                    have ee : PyData.eqv (.list ((fl.map fun k : Nat => (k : Int)).map .int)) (.list []) = (List.range CH.length).all fun k => eqK (rowN CH k).2.1 (rowN CH ((k + 1) % CH.length)).1 := by
                      rw [eqv_nil, List.isEmpty_map, List.isEmpty_map, ← hfl, filter_empty]
                      simp
                    rw [ee]
                    rw [Bool.not_not] at q9
                    exact q9
    · have hf : isTy d "tuple" = false := by simpa using ht
      rw [hf]
      refine iteT (iteT ?_)
      have e : isRing R d = false := by cases d <;> first | rfl | exact absurd rfl ht
      have q0 := q H (Same.refl H)
      rw [e] at q0
      exact q0
end
end Fc
namespace Fc
open PySem L2 PyProof.Rows
theorem eqK_nk {a b : Kd} (ha : isPtK a = true) (hb : isPtK b = true) : eqK a b = decide (nk a = nk b) := by
  by_cases e : nk a = nk b
  · rw [decide_eq_true e]
    have e2 : a = b := by
      cases a <;> first | (cases ha; done) | skip
      · cases b <;> first | (cases hb; done) | skip
        · injection e with e; rw [e]
        · cases e
      · cases b <;> first | (cases hb; done) | skip
        · cases e
        · injection e with e; injection e with e1 e; injection e with e2 e; injection e with e3 e
          injection e1 with e1; injection e2 with e2; injection e3 with e3
          rw [e1, e2, e3]
    rw [e2]
    exact eqv_self
  · rw [decide_eq_false e]
    cases h : eqK a b with
    | false => rfl
    | true => exact absurd (congrArg nk (eqv_pt ha hb h)) e
/-- what the law adds for a row -/
def moreK (a b : Kd) : List Kd := [a] ++ (if eqK b a = true then [] else [b])
theorem more_add {l : List Kd} {a b : Kd} (hl : ∀ p ∈ l, isPtK p = true) (ha : isPtK a = true) (hb : isPtK b = true) : l ++ (moreK a b).filter (fun k => !memP k l) = addK (addK l a) b := by
  have mem : ∀ k, isPtK k = true → memP k l = decide (∃ e ∈ l, nk e = nk k) := fun k hk => by
    rw [Bool.eq_iff_iff, decide_eq_true_eq]
    unfold memP
    rw [List.any_eq_true]
    constructor
    · rintro ⟨p, hp, e⟩
      have h1 := eqK_nk (hl p hp) hk
      unfold eqK at h1
      rw [e] at h1
      exact ⟨p, hp, of_decide_eq_true h1.symm⟩
    · rintro ⟨p, hp, e⟩
      have h1 := eqK_nk (hl p hp) hk
      unfold eqK at h1
      rw [decide_eq_true e] at h1
      exact ⟨p, hp, h1⟩
  have hab := eqK_nk hb ha
  unfold moreK
  by_cases c1 : ∃ e ∈ l, nk e = nk a
  · have e1 : addK l a = l := by unfold addK; rw [if_pos c1]
    have m1 : memP a l = true := by rw [mem a ha]; exact decide_eq_true c1
    rw [e1]
    by_cases c2 : nk b = nk a
    · rw [hab, decide_eq_true c2]
      have e2 : addK l b = l := by unfold addK; rw [if_pos (by rw [c2]; exact c1)]
      rw [e2]
      simp [m1]
    · rw [hab, decide_eq_false c2]
      by_cases c3 : ∃ e ∈ l, nk e = nk b
      · have m2 : memP b l = true := by rw [mem b hb]; exact decide_eq_true c3
        have e2 : addK l b = l := by unfold addK; rw [if_pos c3]
        rw [e2]
        simp [m1, m2]
      · have m2 : memP b l = false := by rw [mem b hb]; exact decide_eq_false c3
        have e2 : addK l b = l ++ [b] := by unfold addK; rw [if_neg c3]
        rw [e2]
        simp [m1, m2]
  · have e1 : addK l a = l ++ [a] := by unfold addK; rw [if_neg c1]
    have m1 : memP a l = false := by rw [mem a ha]; exact decide_eq_false c1
    rw [e1]
    by_cases c2 : nk b = nk a
    · rw [hab, decide_eq_true c2]
      have e2 : addK (l ++ [a]) b = l ++ [a] := by unfold addK; rw [if_pos ⟨a, by simp, c2.symm⟩]
      rw [e2]
      simp [m1]
    · rw [hab, decide_eq_false c2]
      by_cases c3 : ∃ e ∈ l, nk e = nk b
      · have m2 : memP b l = true := by rw [mem b hb]; exact decide_eq_true c3
        have e2 : addK (l ++ [a]) b = l ++ [a] := by
          obtain ⟨x, hx, ex⟩ := c3
          unfold addK
          rw [if_pos ⟨x, List.mem_append_left _ hx, ex⟩]
        rw [e2]
        simp [m1, m2]
      · have m2 : memP b l = false := by rw [mem b hb]; exact decide_eq_false c3
        have e2 : addK (l ++ [a]) b = l ++ [a] ++ [b] := by
          unfold addK
          rw [if_neg]
          rintro ⟨x, hx, ex⟩
          rcases List.mem_append.mp hx with z | z
          · exact c3 ⟨x, z, ex⟩
          · rw [List.mem_singleton] at z
            subst z
            exact c2 ex.symm
        rw [e2]
        simp [m1, m2]
/-- keys of a table that are told apart from points -/
def Near.apart (R : List Row) : Near → Prop
  | .dat _ => True
  | .tab T => ∀ e ∈ T, ∀ p ∈ ptsOf R, nk e.1 = nk p → e.1 = p
theorem shaped_rows {R : List Row} (h : ∀ r ∈ R, shRow r) : SeqAt.shaped (.list (R.map fun r => .tuple [pd r.1, pd r.2.1, .int r.2.2])) = true := by
  unfold SeqAt.shaped
  have h1 : PyData.canLayAll0 (R.map fun r => .tuple [pd r.1, pd r.2.1, .int r.2.2]) = true := (canAll_iff _).mpr fun d hd => by
    obtain ⟨r, hr, e⟩ := List.mem_map.mp hd
    have h2 := h r hr
    rw [← e, PyData.canLay0, canAll_iff]
    intro x hx
    simp only [List.mem_cons, List.not_mem_nil, or_false] at hx
    rcases hx with z | z | z
    · rw [z]; exact SeqAt.canLay_of_shaped h2.1
    · rw [z]; exact SeqAt.canLay_of_shaped h2.2
    · rw [z]; rfl
  have h2 : PyData.depthAll (R.map fun r => .tuple [pd r.1, pd r.2.1, .int r.2.2]) ≤ 6 := (depAll_iff 6 _).mpr fun d hd => by
    obtain ⟨r, hr, e⟩ := List.mem_map.mp hd
    rw [← e, PyData.depth]
    have := (depAll_iff 5 [pd r.1, pd r.2.1, .int r.2.2]).mpr fun x hx => by
      simp only [List.mem_cons, List.not_mem_nil, or_false] at hx
      rcases hx with z | z | z
      · rw [z]; exact pd_depth _
      · rw [z]; exact pd_depth _
      · rw [z]; simp [PyData.depth]
    omega
  rw [PyData.canLay0, h1, Bool.true_and, decide_eq_true_eq, PyData.depth]
  omega
def spNumbers (K : PySem.W.Frag) (w : World) : Sp := fun vs H Q _ => ∃ t v R n, vs = [.ref t, v] ∧ RowsT K H R t ∧ RowsOk R ∧ NearV K w H v n ∧ n.apart R ∧ ∀ H', Same H H' → Q (.bl (isFit R n)) H'
/-- if all points are keys with integers, and there are as many, all keys are in order -/
theorem keys_back {R : List Row} {T : List (Kd × PyData)} (ro : RowsOk R) (to : TOk T) (ap : Near.apart R (.tab T)) (hl : T.length = (ptsOf R).length) (h : ∀ p ∈ ptsOf R, ∃ d, lookD T p = some d ∧ isInt d = true) : T.all (keyOk (ptsOf R)) = true := by
  have has : ∀ p ∈ ptsOf R, nk p ∈ T.map fun e => nk e.1 := fun p hp => by
    obtain ⟨d, hd, _⟩ := h p hp
    unfold lookD at hd
    cases q : T.find? fun e => decide (nk e.1 = nk p) with
    | none => rw [q] at hd; cases hd
    | some e => exact List.mem_map.mpr ⟨e, List.mem_of_find?_eq_some q, of_decide_eq_true (List.find?_some (p := fun e : Kd × PyData => decide (nk e.1 = nk p)) q)⟩
  have back := nodup_all (pts_nd R) (l := T.map fun e => nk e.1) (fun x hx => by obtain ⟨p, hp, e⟩ := List.mem_map.mp hx; rw [← e]; exact has p hp) (by rw [List.length_map, List.length_map]; omega)
  refine List.all_eq_true.mpr fun e he => ?_
  obtain ⟨p, hp, e1⟩ := List.mem_map.mp (back _ (List.mem_map.mpr ⟨e, he, rfl⟩))
  have e2 := ap e he p hp e1.symm
  obtain ⟨d, hd, hi⟩ := h p hp
  rw [look_mem to.nd he (k := p) e1.symm] at hd
  injection hd with hd
  unfold keyOk
  rw [e2, (ro.pts p hp).1, Bool.true_and, Bool.and_eq_true]
  refine ⟨List.any_eq_true.mpr ⟨p, hp, eqv_self⟩, by rw [hd]; exact hi⟩
section
variable {K : PySem.W.Frag} {mg : Str → Option Value} {base : Heap} {P : Program} {w : World}
abbrev n33 : List Str := ["_law_rows_here", "_law_value", "_law_points", "_law_one", "_law_other", "_law_most", "_law_point", "_law_row"]
theorem sc33 : FnScope n33 ["_law_rows_here", "_law_value"] (defScope (topS 33)) := ⟨rfl, rfl, rfl, by decide +kernel, rfl, by decide +kernel, by decide +kernel⟩
theorem ok33 {f : Addr} {fd : FuncData} (F : Fun K "_law_are_numbers" "_law_are_numbers" (topS 33) f fd) (B : Blt mg) (c30 : Cal P w K mg base 1 "_law_is_integer" (spInt K w)) : FnOk P w K mg base CX0 2 f fd ["_law_rows_here", "_law_value"] (spNumbers K w) := by
  refine F.ok sc33 (fun vs H Q E h => ?_) (fun cdv A outer s H vs Q E hr h => ?_)
  · obtain ⟨t, v, R, d, rfl, _⟩ := h
    rfl
  · have hu := hu70 hr
    refine ⟨_, pss_cons (ps_set (i := 2) sc33.nd rfl (Or.inr rfl) (pe_lst (pa_cons pe_str pa_nil)))
      (pss_cons (ps_for PassesOwn.never rfl (pi_tup (pv 0)) (pg_tup rfl (pgs_cons (pg_name (i := 3) sc33.nd rfl (Or.inl rfl)) (pgs_cons (pg_name (i := 4) sc33.nd rfl (Or.inl rfl)) (pgs_cons (pg_name (i := 5) sc33.nd rfl (Or.inl rfl)) pgs_nil))))
        (pss_one (ps_set (i := 2) sc33.nd rfl (Or.inr rfl) (pe_op op_cat (pv 2) (pe_lc (own := [("_law_point", 6)]) (g := gName 6) (by rfl) sc33.nd (pi_list (pe_op op_cat (pe_lst (pa_cons (pv 3) pa_nil)) (pe_op op_rep (pe_lst (pa_cons (pv 4) pa_nil)) (pe_callTy call_int1 (by rfl) B.int boot_int (pa_cons (pe_cmpR (op_neD (hu64 hu)) (pv 4) (pv 3) (nomark _)) pa_nil)))))
            (blkOk_by (N := n33) (sc := defScope (topS 33)) (by decide +kernel)) (fun _ _ _ _ _ => pg_name (i := 6) sc33.nd rfl (Or.inl rfl)) (fun _ _ _ _ _ => pts_one (pt_cmpR (r := rNotInD K) (op_notInD (hu65 hu)) (pv 6) (pv 2) rfl)) (fun _ _ _ _ _ => pv 6))))))
      (pss_cons (ps_if (pw_or (pt_not (pt_val (pe_callB call_isiD (by rfl) B.isinstance boot_isinstance (pa_cons (pv 1) (pa_cons (pe_bltn (v := .ty "dict") (by rfl) B.dict boot_dict rfl) pa_nil)))))
          (pw_or (pt_cmpR op_ne (pe_callB call_lenM (by rfl) B.len boot_len (pa_cons (pv 1) pa_nil)) (pe_callB call_len_seq (by rfl) B.len boot_len (pa_cons (pv 2) pa_nil)) (nomark _))
          (pw_or1 (pt_cmpR (op_neD (hu64 hu)) (pe_lc (own := [("_law_point", 6)]) (g := gName 6) (by rfl) sc33.nd (pi_list (pv 2)) (blkOk_by (N := n33) (sc := defScope (topS 33)) (by decide +kernel)) (fun _ _ _ _ _ => pg_name (i := 6) sc33.nd rfl (Or.inl rfl))
            (fun _ _ _ _ _ => pts_one (pt_cmpR (r := rInM K w not) (op_notInM (hu9 hu)) (pv 6) (pv 1) rfl)) (fun _ _ _ _ _ => pv 6)) (pe_lst pa_nil) (nomark _))))).pt (pss_one (ps_ret pe_bl)) pss_nil)
      (pss_cons (ps_if (pw_or (pt_cmpR (op_neD (hu64 hu)) (pe_lc (own := [("_law_point", 6)]) (g := gName 6) (by rfl) sc33.nd (pi_list (pv 2)) (blkOk_by (N := n33) (sc := defScope (topS 33)) (by decide +kernel)) (fun _ _ _ _ _ => pg_name (i := 6) sc33.nd rfl (Or.inl rfl))
            (fun _ _ _ _ _ => pts_one (pt_not (pt_val (pe_c c30 hr (by decide) (by rfl) (pa_cons (pe_ix (r := rIxM K w) (ix_md (hu9 hu)) (pv 1) (pv 6) (fun _ _ => rfl)) pa_nil))))) (fun _ _ _ _ _ => pv 6)) (pe_lst pa_nil) (nomark _))
          (pw_or1 (pt_cmpR op_ne (pe_ix (ix_md (hu9 hu)) (pv 1) pe_str (fun _ _ => rfl)) pe_int (nomark _)))).pt (pss_one (ps_ret pe_bl)) pss_nil)
      (pss_one (ps_ret (pe_cmpR (op_eqD (hu64 hu)) (pe_lc (own := [("_law_row", 7)]) (g := gName 7) (by rfl) sc33.nd (pi_tup (pv 0)) (blkOk_by (N := n33) (sc := defScope (topS 33)) (by decide +kernel)) (fun _ _ _ _ _ => pg_name (i := 7) sc33.nd rfl (Or.inl rfl))
            (fun _ _ _ _ _ => pts_one (pt_cmpR (r := rI0 fun i j => .bl (decide (j < i))) op_gt (pe_op (r := rI0 fun i j => .int (i - j)) op_sub (pe_ix (r := rIxM K w) (ix_md (hu9 hu)) (pv 1) (pe_ix (r := rIxT K) ix_tup (pv 7) pe_int (fun _ _ => rfl)) (fun _ _ => rfl)) (pe_ix (r := rIxM K w) (ix_md (hu9 hu)) (pv 1) (pe_ix (r := rIxT K) ix_tup (pv 7) pe_int (fun _ _ => rfl)) (fun _ _ => rfl)))
              (pe_ix (r := rIxT K) ix_tup (pv 7) pe_int (fun _ _ => rfl)) (nomark _))) (fun _ _ _ _ _ => pv 7)) (pe_lst pa_nil) (nomark _))))))), ?_⟩
    obtain ⟨t, v, R, n, rfl, ⟨vs, st, pr⟩, ro, hn, ap, q⟩ := h
    have sl : sizeLine = 16777216 := sizeLine_eq
    have hl := ro.len
    have lv := paired_len pr
    have len1 : 1 ≤ sizeLine := by rw [sl]; decide
    have len0 : 0 ≤ sizeLine := Nat.zero_le _
    refine ⟨len1, fun p1 hp1 => ?_⟩
    have s1 := same_new (o := .lst [.str ""]) hp1
    refine ⟨_, rfl, t, rfl, ⟨vs, Tups.same s1 _ _ st⟩, ?_⟩
    refine for_steady steady_tup (fun i σ H' => Same H H' ∧ ∃ pl ys z3 z4 z5 z6 z7, σ = [some (.ref t), some v, some (.ref pl), z3, z4, z5, z6, z7] ∧ H' pl = some (.lst ys) ∧ Paired (KdV K H') (ptsOf (R.take i)) ys) ⟨s1, p1, _, _, _, _, _, _, rfl, upd_same, .cons rfl .nil⟩ (fun _ _ _ _ h => Tups.same h.1 _ _ st) ?_ ?_
    · rintro i σ H2 hi ⟨s2, pl, ys, z3, z4, z5, z6, z7, rfl, hys, py⟩
      have hi' : i < R.length := by omega
      obtain ⟨u, x, y, eu, su, kx, ky⟩ := (paired_getD pr (a0 := (.no, .no, 0)) (b0 := .non) hi').mono (Tups.same s2)
      rw [eu]
      have rk := ro.ok _ (rowN_mem hi')
      have rs := ro.sh _ (rowN_mem hi')
      obtain ⟨pa, pb⟩ := okRow_pt rk
      have ptl : ∀ p ∈ ptsOf (R.take i), isPtK p = true ∧ shK p = true := pts_ind (Pr := fun p => isPtK p = true ∧ shK p = true) _ ⟨isPt0, sh0⟩ fun r hr => have hr' := List.mem_of_mem_take hr; ⟨⟨(okRow_pt (ro.ok r hr')).1, (ro.sh r hr').1⟩, (okRow_pt (ro.ok r hr')).2, (ro.sh r hr').2⟩
      have lpt := len_pts (R.take i)
      rw [List.length_take] at lpt
      refine ⟨u, _, rfl, su, rfl, _, _, rfl, _, _, rfl, _, _, rfl, rfl, ?_⟩
      refine ⟨_, rfl, _, rfl, len1, fun q1 h1 => ⟨_, rfl, len1, fun q2 h2 => ⟨_, rfl, _, rfl, ?_⟩⟩⟩
      have sA := (same_new (o := .lst [x]) h1).trans (same_new (o := .lst [y]) h2)
      have e1 : (upd (upd H2 q1 (.lst [x])) q2 (.lst [y])) q1 = some (.lst [x]) := same_new h2 _ _ upd_same
      have e2 : (upd (upd H2 q1 (.lst [x])) q2 (.lst [y])) q2 = some (.lst [y]) := upd_same
      generalize upd (upd H2 q1 (.lst [x])) q2 (.lst [y]) = H3 at *
      have kx3 := kx.mono (K := K) (.same sA)
      have ky3 := ky.mono (K := K) (.same sA)
      refine ky3.dq kx3 rs.2 rs.1 (.inr ⟨_, rfl, q2, _, [y], rfl, rfl, e2, ?_, ?_, ?_, fun q3 h3 => ?_⟩)
      · cases eqK (rowN R i).2.1 (rowN R i).1 <;> decide
      · cases eqK (rowN R i).2.1 (rowN R i).1 <;> decide
      · cases eqK (rowN R i).2.1 (rowN R i).1 <;> (rw [sl]; simp)
      obtain ⟨mv, emv⟩ : ∃ mv, mv = (List.replicate (if (!eqK (rowN R i).2.1 (rowN R i).1) = true then 1 else 0 : Int).toNat [y]).flatten := ⟨_, rfl⟩
      rw [← emv]
      have mk3 : Paired (KdV K H3) (moreK (rowN R i).1 (rowN R i).2.1) ([x] ++ mv) := by
        unfold moreK
        rw [emv]
        cases eqK (rowN R i).2.1 (rowN R i).1 with
        | true => exact .cons kx3 .nil
        | false => exact .cons kx3 (.cons ky3 .nil)
      have lmv : mv.length ≤ 1 := by
        have h := paired_len mk3
        have h2 : (moreK (rowN R i).1 (rowN R i).2.1).length ≤ 2 := by
          unfold moreK
          cases eqK (rowN R i).2.1 (rowN R i).1 <;> simp
        rw [List.length_append] at h
        simp only [List.length_cons, List.length_nil] at h
        omega
      have sB := same_new (o := .lst mv) h3
      refine ⟨q1, q3, [x], mv, rfl, rfl, sB _ _ e1, upd_same, by simp only [List.length_cons, List.length_nil]; rw [sl]; omega, fun q4 h4 => ?_⟩
      have sC := same_new (o := .lst ([x] ++ mv)) h4
      refine ⟨q4, rfl, ⟨_, .inl (.inl upd_same)⟩, fun D hD => ?_⟩
      have e4 : (upd (upd H3 q3 (.lst mv)) q4 (.lst ([x] ++ mv))) q4 = some (.lst ([x] ++ mv)) := upd_same
      have sD := (sA.trans sB).trans sC
      have mk4 : Paired (KdV K (upd (upd H3 q3 (.lst mv)) q4 (.lst ([x] ++ mv)))) (moreK (rowN R i).1 (rowN R i).2.1) ([x] ++ mv) := Paired.mapP mk3 fun _ _ h => h.mono (.same (sB.trans sC))
      generalize upd (upd H3 q3 (.lst mv)) q4 (.lst ([x] ++ mv)) = H4 at *
      clear sA sB sC e1 e2 mk3 h1 h2 h3 h4 kx3 ky3
      generalize ([x] ++ mv) = mvs at *
      have lm := paired_len mk4
      have shm : ∀ k ∈ moreK (rowN R i).1 (rowN R i).2.1, isPtK k = true ∧ shK k = true := fun k hk => by
        unfold moreK at hk
        rcases List.mem_append.mp hk with z | z
        · rw [List.mem_singleton.mp z]; exact ⟨pa, rs.1⟩
        · cases c : eqK (rowN R i).2.1 (rowN R i).1 with
          | true => rw [c] at z; cases z
          | false => rw [c] at z; rw [List.mem_singleton.mp z]; exact ⟨pb, rs.2⟩
      have py4 : Paired (KdV K H4) (ptsOf (R.take i)) ys := Paired.mapP py fun _ _ h => h.mono (.same sD)
      have S := steady_list (K := K) (a := q4) (xs := mvs)
      rw [← lm] at S
      have hmore := more_add (fun p hp => (ptl p hp).1) pa pb
      have lmo : (moreK (rowN R i).1 (rowN R i).2.1).length ≤ 2 := by
        unfold moreK
        cases eqK (rowN R i).2.1 (rowN R i).1 <;> simp
      generalize moreK (rowN R i).1 (rowN R i).2.1 = mo at *
      refine lc_gen (K := K) (b := fun k => !memP (mo.getD k .no) (ptsOf (R.take i))) (fun H k y => KdV K H (mo.getD k .no) y) S (fun _ _ _ _ t h => h.mono t) (fun H2 s => .inl (.inl (s _ _ e4))) (by exact (by decide : 6 < 8)) (by omega) hD (fun k H5 Q hk s5 q => ?_) (fun k H5 Q hk _ s5 q => ⟨_, rfl, q H5 _ (Same.refl _) ((paired_getD mk4 (a0 := .no) (b0 := .non) hk).mono (.same s5))⟩) fun H5 ys5 s5 hy5 pp5 => ?_
      · have kk := (paired_getD mk4 (a0 := .no) (b0 := .non) hk).mono (K := K) (.same s5)
        have py5 : Paired (KdV K H5) (ptsOf (R.take i)) ys := Paired.mapP py4 fun _ _ h => h.mono (.same s5)
        refine ⟨_, rfl, _, rfl, pd (mo.getD k .no), (ptsOf (R.take i)).map pd, kk.dp, .lst (.inl (.inl (s5 _ _ (sD _ _ hys)))) (pts_dp py5), (shm _ (getD_mem hk)).2, shaped_pts fun p hp => (ptl p hp).2, _, rfl, ?_⟩
        have em : ((ptsOf (R.take i)).map pd).any (fun z => PyData.eqv z (pd (mo.getD k .no))) = memP (mo.getD k .no) (ptsOf (R.take i)) := by rw [List.any_map]; rfl
        rw [em]
        exact q
      · have pf := filt_pairG (c := fun k => !memP k (ptsOf (R.take i))) (p := KdV K H5) (.no : Kd) pp5
        have py5 : Paired (KdV K H5) (ptsOf (R.take i)) ys := Paired.mapP py4 fun _ _ h => h.mono (.same s5)
        have l5 := paired_len pf
        have lys := paired_len py5
        have lf := List.length_filter_le (fun k => !memP k (ptsOf (R.take i))) mo
        refine ⟨pl, D, ys, ys5, rfl, rfl, s5 _ _ (sD _ _ hys), hy5, by rw [sl]; omega, fun p6 h6 => ?_⟩
        have s6 := same_new (o := .lst (ys ++ ys5)) h6
        refine ⟨((s2.trans sD).trans s5).trans s6, p6, ys ++ ys5, _, _, _, _, _, rfl, upd_same, ?_⟩
        have e : ptsOf (R.take (i + 1)) = ptsOf (R.take i) ++ mo.filter (fun k => !memP k (ptsOf (R.take i))) := by
          rw [hmore, take_snoc (a0 := (.no, .no, 0)) hi']
          unfold ptsOf
          rw [List.foldl_append]
          rfl
        rw [e]
        have app : ∀ {p : Kd → V → Prop} {a b : List Kd} {c d : List V}, Paired p a c → Paired p b d → Paired p (a ++ b) (c ++ d) := by
          intro p a b c d h1 h2
          induction h1 with
          | nil => exact h2
          | cons h _ ih => exact .cons h ih
        exact app (Paired.mapP py5 fun _ _ h => h.mono (.same s6)) (Paired.mapP pf fun _ _ h => h.mono (.same s6))
    · rintro σ H2 ⟨s2, pl, ys, z3, z4, z5, z6, z7, rfl, hys, py⟩
      rw [List.take_of_length_le (Nat.le_of_eq lv)] at py
      have t2 : Tups K H H2 := .same s2
      have q2 := q H2 s2
      have dv := (near_dv hn).same s2
      have lN := len_pts R
      refine ⟨_, rfl, v, _, _, rfl, dv, .inr (.inr (.inr (.inr (.inl rfl)))), _, rfl, ?_⟩
      cases n with
      | dat d =>
        have e : isTy (Near.dat d).data "dict" = false := dp_nodict (v := v) (K := K) (H := H) hn
        rw [e]
        exact iteT (iteT q2)
      | tab T =>
        obtain ⟨a, rfl, ⟨xs, hx0, pp0⟩, to, ht⟩ := hn
        have hx : H2 a = some (MD w a xs) := s2 _ _ hx0
        have pp := td_mono t2 ht pp0
        have ta : TabAt K w H2 a xs := ⟨.inl hx, td_keys pp⟩
        have lx := paired_len pp
        have ly := paired_len py
        refine iteF ⟨_, rfl, a, xs, rfl, ta, _, rfl, pl, ys, rfl, .inl (.inl (.inl hys)), rfl, _, rfl, ?_⟩
        have e0 : (!decide (V.int (xs.length : Int) = V.int (ys.length : Int))) = !decide (T.length = (ptsOf R).length) := by
          rw [← lx, ← ly]
          by_cases e : T.length = (ptsOf R).length
          · rw [e]; simp
          · have e2 : ¬ V.int (T.length : Int) = V.int ((ptsOf R).length : Int) := fun z => e (by injection z with z; omega)
            rw [decide_eq_false e, decide_eq_false e2]
        rw [e0]
        replace q : ∀ H', Same H2 H' → Q (.bl (isFitT R T)) H' := fun H' s => q H' (s2.trans s)
        change Q (.bl (isFitT R T)) H2 at q2
        have bad : T.all (keyOk (ptsOf R)) = false → isFitT R T = false := fun z => by unfold isFitT; rw [z]; simp
        by_cases c0 : T.length = (ptsOf R).length
        · rw [decide_eq_true c0]
          refine iteF ⟨_, rfl, pl, rfl, ⟨ys, .inl (.inl hys)⟩, fun D hD => ?_⟩
          have S := steady_list (K := K) (a := pl) (xs := ys)
          rw [← ly] at S
          have val : ∀ p : Kd, (valM xs (nk p)).isSome = (lookD T p).isSome := by
            have gen : ∀ {T : List (Kd × PyData)} {xs : List Ent}, Paired (TD K H2) T xs → ∀ p : Kd, (valM xs (nk p)).isSome = (lookD T p).isSome := by
              intro T xs h
              induction h with
              | nil => intro p; rfl
              | @cons b x B xs h _ ih =>
                intro p
                rw [valM_cons, h.1]
                unfold lookD at ih ⊢
                rw [List.find?_cons]
                by_cases e : nk b.1 = nk p
                · rw [decide_eq_true e, if_pos e]; rfl
                · rw [decide_eq_false e, if_neg e]; exact ih p
            exact gen pp
          refine lc_gen (K := K) (b := fun k => !(lookD T ((ptsOf R).getD k .no)).isSome) (fun H k y => KdV K H ((ptsOf R).getD k .no) y) S (fun _ _ _ _ t h => h.mono t) (fun H2 s => .inl (.inl (s _ _ hys))) (by exact (by decide : 6 < 8)) (by omega) hD (fun k H5 Q hk s5 q => ?_) (fun k H5 Q hk _ s5 q => ⟨_, rfl, q H5 _ (Same.refl _) ((paired_getD py (a0 := .no) (b0 := .non) hk).mono (.same s5))⟩) fun H5 ys5 s5 hy5 pp5 => ?_
          · have kk := (paired_getD py (a0 := .no) (b0 := .non) hk).mono (K := K) (.same s5)
            refine ⟨_, rfl, _, rfl, a, xs, nk ((ptsOf R).getD k .no), rfl, ta.mono (.same s5) (rd_same s5 _ ta.md), kk.key, _, rfl, ?_⟩
            rw [val]
            exact q
          · have pf := filt_pairG (c := fun k => !(lookD T k).isSome) (p := KdV K H5) (.no : Kd) pp5
            refine ⟨len0, fun p6 h6 => ?_⟩
            have s6 := same_new (o := .lst []) h6
            refine ⟨_, .list [], .lst (.inl (.inl (s6 _ _ hy5))) (dps_mono s6 _ _ (pts_dp pf)), .lst (.inl (.inl upd_same)) .nil, shaped_pts fun p hp => (ro.pts p (List.mem_filter.mp hp).1).2, shaped_nil, _, rfl, ?_⟩
            rw [eqv_nil, List.isEmpty_map, filter_empty]
            have s26 := s5.trans s6
            have q6 := q _ s26
            have eal : ((ptsOf R).all fun x => !!(lookD T x).isSome) = (ptsOf R).all fun x => (lookD T x).isSome := by simp
            rw [eal]
            cases c1 : (ptsOf R).all fun x => (lookD T x).isSome with
            | false =>
              refine iteT ?_
              have z : T.all (keyOk (ptsOf R)) = false := by
                cases z : T.all (keyOk (ptsOf R)) with
                | false => rfl
                | true =>
                  have all := keys_all ro to c0 z
                  have : ((ptsOf R).all fun x => (lookD T x).isSome) = true := List.all_eq_true.mpr fun p hp => by
                    obtain ⟨e, he, e1, _⟩ := all p hp
                    rw [look_mem to.nd he (k := p) (by rw [e1])]; rfl
                  rw [this] at c1
                  cases c1
              rw [bad z] at q6
              exact q6
            | true =>
              have hx6 := s26 _ _ hx
              have t6 : Tups K H2 (upd H5 p6 (.lst [])) := .same s26
              have pp6 := td_mono t6 ht pp
              have py6 : Paired (KdV K (upd H5 p6 (.lst []))) (ptsOf R) ys := Paired.mapP py fun _ _ h => h.mono t6
              have hys6 := s26 _ _ hys
              have pr6 : Paired (RowV K (upd H5 p6 (.lst []))) R vs := Paired.mapP pr fun _ _ h => (h.mono t2).mono t6
              have st6 := t6 _ _ (t2 _ _ st)
              replace q : ∀ H', Same (upd H5 p6 (.lst [])) H' → Q (.bl (isFitT R T)) H' := fun H' s => q H' (s26.trans s)
              clear q2 q6 s26 t6 s6 h6 pp5 pf hy5 s5 hys py pp ta val hD hx
              generalize upd H5 p6 (.lst []) = H6 at *
              have ta6 : TabAt K w H6 a xs := ⟨.inl hx6, td_keys pp6⟩
              have has : ∀ p ∈ ptsOf R, ∃ d, lookD T p = some d := fun p hp => by
                have h := List.all_eq_true.mp c1 p hp
                cases e : lookD T p with
                | none => rw [e] at h; cases h
                | some d => exact ⟨d, rfl⟩
              refine iteF ⟨_, rfl, pl, rfl, ⟨ys, .inl (.inl hys6)⟩, fun D7 hD7 => ?_⟩
              refine lc_gen (K := K) (b := fun k => !isInt ((lookD T ((ptsOf R).getD k .no)).getD .none)) (fun H k y => KdV K H ((ptsOf R).getD k .no) y) S (fun _ _ _ _ t h => h.mono t) (fun H2 s => .inl (.inl (s _ _ hys6))) (by exact (by decide : 6 < 8)) (by omega) hD7 (fun k H7 Q hk s7 q => ?_) (fun k H7 Q hk _ s7 q => ⟨_, rfl, q H7 _ (Same.refl _) ((paired_getD py6 (a0 := .no) (b0 := .non) hk).mono (.same s7))⟩) fun H7 ys7 s7 hy7 pp7 => ?_
              · have kk := (paired_getD py6 (a0 := .no) (b0 := .non) hk).mono (K := K) (.same s7)
                obtain ⟨d, hd⟩ := has _ (getD_mem hk (k := .no))
                rw [hd] at q
                refine ⟨_, rfl, _, rfl, ix_td (ta6.mono (.same s7) (rd_same s7 _ ta6.md)) (td_mono (.same s7) ht pp6) kk hd fun v dv => ⟨v, d, rfl, dv, _, rfl, q⟩⟩
              · have pf := filt_pairG (c := fun k => !isInt ((lookD T k).getD .none)) (p := KdV K H7) (.no : Kd) pp7
                refine ⟨len0, fun p8 h8 => ?_⟩
                have s8 := same_new (o := .lst []) h8
                refine ⟨_, .list [], .lst (.inl (.inl (s8 _ _ hy7))) (dps_mono s8 _ _ (pts_dp pf)), .lst (.inl (.inl upd_same)) .nil, shaped_pts fun p hp => (ro.pts p (List.mem_filter.mp hp).1).2, shaped_nil, _, rfl, ?_⟩
                rw [eqv_nil, List.isEmpty_map, filter_empty]
                have s68 := s7.trans s8
                have q8 := q _ s68
                have eal : ((ptsOf R).all fun x => !!isInt ((lookD T x).getD .none)) = (ptsOf R).all fun x => isInt ((lookD T x).getD .none) := by simp
                rw [eal]
                cases c2 : (ptsOf R).all fun x => isInt ((lookD T x).getD .none) with
                | false =>
                  refine iteT (iteT ?_)
                  have z : T.all (keyOk (ptsOf R)) = false := by
                    cases z : T.all (keyOk (ptsOf R)) with
                    | false => rfl
                    | true =>
                      have all := keys_all ro to c0 z
                      have : ((ptsOf R).all fun x => isInt ((lookD T x).getD .none)) = true := List.all_eq_true.mpr fun p hp => by
                        obtain ⟨e, he, e1, e2⟩ := all p hp
                        rw [look_mem to.nd he (k := p) (by rw [e1])]; exact e2
                      rw [this] at c2
                      cases c2
                  rw [bad z] at q8
                  exact q8
                | true =>
                  have ok : T.all (keyOk (ptsOf R)) = true := keys_back ro to ap c0 fun p hp => by
                    obtain ⟨d, hd⟩ := has p hp
                    have h := List.all_eq_true.mp c2 p hp
                    rw [hd] at h
                    exact ⟨d, hd, h⟩
                  have val : ∀ k, (∃ x ∈ ptsOf R, nk x = nk k) → ∃ i, lookD T k = some (.int i) ∧ ivD T k = i := fun k ⟨x, hx, ex⟩ => by
                    obtain ⟨e, he, e1, e2⟩ := keys_all ro to c0 ok x hx
                    obtain ⟨i, hi⟩ := int_of e2
                    have h1 := look_mem to.nd he (k := k) (by rw [e1]; exact ex)
                    rw [hi] at h1
                    exact ⟨i, h1, by unfold ivD; rw [h1]; rfl⟩
                  have fin : isFitT R T = (R.all (rowFits T) && decide (ivD T (.w "") = 0)) := by
                    unfold isFitT
                    rw [ok, decide_eq_true c0, Bool.true_and, Bool.true_and]
                  obtain ⟨i0, l0, v0⟩ := val (.w "") ⟨.w "", pts_sub R _ _ (List.mem_singleton.mpr rfl), rfl⟩
                  have hx8 := s68 _ _ hx6
                  have t8 : Tups K H6 (upd H7 p8 (.lst [])) := .same s68
                  have pp8 := td_mono t8 ht pp6
                  have pr8 : Paired (RowV K (upd H7 p8 (.lst []))) R vs := Paired.mapP pr6 fun _ _ h => h.mono t8
                  have st8 := t8 _ _ st6
                  replace q : ∀ H', Same (upd H7 p8 (.lst [])) H' → Q (.bl (isFitT R T)) H' := fun H' s => q H' (s68.trans s)
                  clear s68 t8 s8 h8 pp7 pf hy7 s7 hys6 py6 pp6 ta6 hD7 hx6 pr6 st6
                  generalize upd H7 p8 (.lst []) = H8 at *
                  have ta8 : TabAt K w H8 a xs := ⟨.inl hx8, td_keys pp8⟩
                  refine iteF ⟨_, rfl, tC_i ?_⟩
                  refine ix_td (k := .w "") ta8 pp8 rfl l0 fun v dv => ?_
                  cases dv
                  refine ⟨rfl, _, rfl, ?_⟩
                  have e1 : (!decide (V.int i0 = V.int 0)) = !decide (i0 = 0) := by
                    by_cases e : i0 = 0
                    · rw [e]; simp
                    · rw [decide_eq_false e, decide_eq_false (fun z => e (by injection z))]
                  rw [e1]
                  by_cases c3 : i0 = 0
                  · rw [decide_eq_true c3]
                    rw [fin, v0, decide_eq_true c3, Bool.and_true] at q
                    refine iteF ⟨_, rfl, t, rfl, ⟨vs, st8⟩, fun D9 hD9 => ?_⟩
                    have S9 := steady_tup (K := K) (a := t) (xs := vs)
                    rw [← lv] at S9
                    refine lc_gen (K := K) (b := fun k => !rowFits T (R.getD k (.no, .no, 0))) (fun H k y => RowV K H (R.getD k (.no, .no, 0)) y) S9 (fun _ _ _ _ t h => h.mono t) (fun H2 s => Tups.same s _ _ st8) (by exact (by decide : 7 < 8)) (by omega) hD9 (fun k H9 Q hk s9 q => ?_) (fun k H9 Q hk _ s9 q => ⟨_, rfl, q H9 _ (Same.refl _) ((paired_getD pr8 (a0 := (.no, .no, 0)) (b0 := .non) hk).mono (.same s9))⟩) fun H9 ys9 s9 hy9 pp9 => ?_
                    · obtain ⟨u, x, y, eu, su, kx, ky⟩ := (paired_getD pr8 (a0 := (.no, .no, 0)) (b0 := .non) hk).mono (K := K) (.same s9)
                      obtain ⟨i1, l1, v1⟩ := val _ (pts_p hk)
                      obtain ⟨i2, l2, v2⟩ := val _ (pts_q hk)
                      have ta9 := ta8.mono (.same s9) (rd_same s9 _ ta8.md)
                      have pp9 := td_mono (.same s9) ht pp8
                      refine ⟨_, rfl, _, rfl, u, _, 0, x, by rw [eu], rfl, su, atI_nat (j := 0) rfl, ix_td ta9 pp9 kx l1 fun v dv => ?_⟩
                      cases dv
                      refine ⟨_, rfl, _, rfl, u, _, 1, y, by rw [eu], rfl, su, atI_nat (j := 1) rfl, ix_td ta9 pp9 ky l2 fun v dv => ?_⟩
                      cases dv
                      refine ⟨_, _, rfl, rfl, _, rfl, u, _, 2, _, by rw [eu], rfl, su, atI_nat (j := 2) rfl, _, _, rfl, rfl, _, rfl, ?_⟩
                      have rf : (!rowFits T (rowN R k)) = decide (mN R k < i1 - i2) := by
                        unfold rowFits
                        rw [v1, v2]
                        change (!decide (i1 - i2 ≤ mN R k)) = _
                        by_cases c : mN R k < i1 - i2
                        · rw [decide_eq_true c, decide_eq_false (by omega)]; rfl
                        · rw [decide_eq_false c, decide_eq_true (by omega)]; rfl
                      rw [rf] at q
                      exact q
                    · have pf := filt_pairG (c := fun r => !rowFits T r) (p := RowV K H9) ((.no, .no, 0) : Row) pp9
                      refine ⟨len0, fun p10 h10 => ?_⟩
                      have s10 := same_new (o := .lst []) h10
                      refine ⟨_, .list [], .lst (.inl (.inl (s10 _ _ hy9))) (dps_mono s10 _ _ (rows_dp pf)), .lst (.inl (.inl upd_same)) .nil, shaped_rows fun r hr => ro.sh r (List.mem_filter.mp hr).1, shaped_nil, ?_⟩
                      rw [eqv_nil, List.isEmpty_map, filter_empty]
                      have eal : (R.all fun x => !!rowFits T x) = R.all (rowFits T) := by simp
                      rw [eal]
                      exact q _ (s9.trans s10)
                  · rw [decide_eq_false c3]
                    have q8 := q H8 (Same.refl _)
                    rw [fin, v0, decide_eq_false c3, Bool.and_false] at q8
                    exact iteT q8
        · rw [decide_eq_false c0]
          unfold isFitT at q2
          rw [decide_eq_false c0] at q2
          exact iteT (iteT q2)
end
end Fc
namespace Fc
open PySem L2 PyProof.Rows
def numI (i : Int) : Prop := -(2 ^ 220) < i ∧ i < 2 ^ 220
theorem numI_log {i : Int} (h : numI i) : i.natAbs.log2 < 220 := by
  have h1 : i.natAbs < 2 ^ 220 := by
    obtain ⟨a, b⟩ := h
    omega
  by_cases c : i.natAbs = 0
  · rw [c]; decide
  · exact (Nat.log2_lt c).mpr h1
theorem numI_len {i : Int} (h : numI i) : (PyData.shown (.int i)).length ≤ 100 := by
  obtain ⟨a, b⟩ := h
  have e10 : (2 : Int) ^ 220 < 10 ^ 70 := by decide
  show (Str.ofString (toString i)).length ≤ 100
  cases i with
  | ofNat n => exact Nat.le_trans (toString_length_le (k := 70) (Int.natCast_nonneg n) (by decide) (Int.lt_trans b e10)) (by decide)
  | negSucc n =>
    have e : toString (Int.negSucc n) = "-" ++ toString ((n + 1 : Nat) : Int) := rfl
    have h1 := toString_length_le (v := ((n + 1 : Nat) : Int)) (k := 70) (by omega) (by decide) (by omega)
    rw [e]
    rw [PyProof.Rows.ofString_length] at h1 ⊢
    rw [String.toList_append, List.length_append]
    have : "-".toList.length = 1 := by decide
    omega
/-- data that is shown shortly: no list, no dict -/
structure Sc (d : PyData) : Prop where
  show_ : d.showable = true
  leaves : d.leavesShort 2000 = true
  weight : d.weight ≤ 230
  depth : d.depth ≤ 5
  lay : d.canLay0 = true
  flat : tupD d = true
theorem Sc.none : Sc .none := ⟨rfl, rfl, by decide, by decide, rfl, rfl⟩
theorem Sc.bool (b : Bool) : Sc (.bool b) := ⟨rfl, rfl, by simp [PyData.weight], by simp [PyData.depth], rfl, rfl⟩
theorem weight_int {i : Int} (h : numI i) : (PyData.int i).weight ≤ 220 := by
  have := numI_log h
  rw [PyData.weight]
  split <;> omega
theorem Sc.int {i : Int} (h : numI i) : Sc (.int i) := by
  refine ⟨?_, ?_, Nat.le_trans (weight_int h) (by decide), by simp [PyData.depth], rfl, rfl⟩
  · have := numI_log h
    rw [PyData.showable, decide_eq_true_eq]
    omega
  · have := numI_len h
    rw [PyData.leavesShort, decide_eq_true_eq]
    omega
theorem weight_idx {j : Nat} (h : j < 60) : (PyData.int (j : Int)).weight ≤ 6 := by
  rw [PyData.weight]
  split
  · omega
  · have e : ((j : Int)).natAbs = j := by omega
    rw [e]
    have : j.log2 < 6 := by
      by_cases c : j = 0
      · rw [c]; decide
      · exact (Nat.log2_lt c).mpr (by omega)
    omega
theorem numI_idx {j : Nat} (h : j < 60) : numI (j : Int) := by
  have : (60 : Int) < 2 ^ 220 := by decide
  constructor <;> omega
/-- such data in a row, all together shown shortly -/
structure ScL (ds : List PyData) : Prop where
  all : ∀ d ∈ ds, Sc d
  wt : PyData.weightAll ds ≤ 3800
  len : ds.length ≤ 1000
theorem ScL.parts {ds : List PyData} (h : ∀ d ∈ ds, Sc d) : PyData.showableAll ds = true ∧ PyData.leavesShortAll 2000 ds = true ∧ PyData.depthAll ds ≤ 5 ∧ PyData.canLayAll0 ds = true ∧ tupDs ds = true := by
  induction ds with
  | nil => exact ⟨rfl, rfl, by simp [PyData.depthAll], rfl, rfl⟩
  | cons d ds ih =>
    obtain ⟨a, b, c, e, f⟩ := ih fun x hx => h x (List.mem_cons_of_mem _ hx)
    have s := h d (by simp)
    refine ⟨?_, ?_, ?_, ?_, ?_⟩
    · rw [PyData.showableAll, a, s.show_]; rfl
    · rw [PyData.leavesShortAll, b, s.leaves]; rfl
    · rw [PyData.depthAll]; have := s.depth; omega
    · rw [PyData.canLayAll0, e, s.lay]; rfl
    · rw [tupDs, f, s.flat]; rfl
/-- what is_ring is asked of -/
structure GoodC (d : PyData) : Prop where
  shows_ : Shows d
  shaped : SeqAt.shaped d = true
  short : shortT d
  flat : flatT d
theorem Sc.shows {d : PyData} (s : Sc d) : Shows d := ⟨s.show_, s.leaves, Nat.le_trans s.weight (by decide), Nat.le_trans s.depth (by decide)⟩
theorem Sc.shaped {d : PyData} (s : Sc d) : SeqAt.shaped d = true := by
  unfold SeqAt.shaped
  rw [s.lay, Bool.true_and, decide_eq_true_eq]
  have := s.depth
  omega
theorem ScL.tup {ds : List PyData} (h : ScL ds) : GoodC (.tuple ds) := by
  obtain ⟨a, b, c, e, f⟩ := ScL.parts h.all
  refine ⟨⟨?_, ?_, ?_, ?_⟩, ?_, h.len, f⟩
  · rw [PyData.showable]; exact a
  · rw [PyData.leavesShort]; exact b
  · rw [PyData.weight]; exact Nat.le_trans h.wt (by decide)
  · rw [PyData.depth]; omega
  · unfold SeqAt.shaped
    rw [PyData.canLay0, e, Bool.true_and, decide_eq_true_eq, PyData.depth]
    omega
theorem ScL.lst {ds : List PyData} (h : ScL ds) : GoodC (.list ds) := by
  obtain ⟨a, b, c, e, f⟩ := ScL.parts h.all
  refine ⟨⟨?_, ?_, ?_, ?_⟩, ?_, trivial, trivial⟩
  · rw [PyData.showable]; exact a
  · rw [PyData.leavesShort]; exact b
  · rw [PyData.weight]; exact Nat.le_trans h.wt (by decide)
  · rw [PyData.depth]; omega
  · unfold SeqAt.shaped
    rw [PyData.canLay0, e, Bool.true_and, decide_eq_true_eq, PyData.depth]
    omega
theorem wt_app (a b : List PyData) : PyData.weightAll (a ++ b) = PyData.weightAll a + PyData.weightAll b := by
  induction a with
  | nil => simp [PyData.weightAll]
  | cons x a ih => rw [List.cons_append, PyData.weightAll, PyData.weightAll, ih]; omega
abbrev idxs (js : List Nat) : List PyData := js.map fun j : Nat => .int (j : Int)
theorem idxs_wt {js : List Nat} (h : ∀ j ∈ js, j < 60) : PyData.weightAll (idxs js) ≤ 7 * js.length := by
  induction js with
  | nil => simp [PyData.weightAll]
  | cons j js ih =>
    have h1 := ih fun x hx => h x (List.mem_cons_of_mem _ hx)
    have h2 := weight_idx (h j (by simp))
    show (PyData.int (j : Int)).weight + 1 + PyData.weightAll (idxs js) ≤ _
    rw [List.length_cons]
    omega
theorem idxs_sc {js : List Nat} (h : ∀ j ∈ js, j < 60) : ∀ d ∈ idxs js, Sc d := fun d hd => by
  obtain ⟨j, hj, e⟩ := List.mem_map.mp hd
  rw [← e]
  exact Sc.int (numI_idx (h j hj))
theorem scl {js : List Nat} {es : List PyData} (h : ∀ j ∈ js, j < 60) (hl : js.length ≤ 400) (he : ∀ d ∈ es, Sc d) (hel : es.length ≤ 4) : ScL (idxs js ++ es) := by
  have w1 := idxs_wt h
  have w2 : PyData.weightAll es ≤ 231 * es.length := by
    clear hel
    induction es with
    | nil => simp [PyData.weightAll]
    | cons d es ih =>
      have h1 := ih fun x hx => he x (List.mem_cons_of_mem _ hx)
      have h2 := (he d (by simp)).weight
      rw [PyData.weightAll, List.length_cons]
      omega
  refine ⟨fun d hd => ?_, by rw [wt_app]; omega, by rw [List.length_append, List.length_map]; omega⟩
  rcases List.mem_append.mp hd with z | z
  · exact idxs_sc h d z
  · exact he d z
theorem sc_good {d : PyData} (h : Sc d) : GoodC d := by
  refine ⟨h.shows, h.shaped, ?_, ?_⟩
  · cases d <;> first | trivial | skip
    rename_i ds
    show ds.length ≤ 1000
    have h1 := h.weight
    rw [PyData.weight] at h1
    have gen : ∀ ds : List PyData, ds.length ≤ PyData.weightAll ds := by
      intro ds
      induction ds with
      | nil => simp
      | cons d ds ih => rw [PyData.weightAll, List.length_cons]; omega
    have := gen ds
    omega
  · cases d <;> first | trivial | skip
    exact h.flat
end Fc
namespace Fc
open PySem L2 PyProof.Rows HT
/-! ### a tuple from its end: t[::-1] -/
/-- where such a slice begins, where it ends, how many places it has -/
theorem ends_rev (n : Nat) : Builtin.Slice.sliceAdjust none none (-1) (n : Int) = ((n : Int) - 1, -1) ∧ Builtin.Slice.slicePlaces ((n : Int) - 1) (-1) (-1) = n := by
  constructor
  · simp [Builtin.Slice.sliceAdjust]
  · have up : ¬ (0 : Int) < -1 := by decide
    have q1 : ((n : Int) - 1 - -1 - 1) / (- -1) = (n : Int) - 1 := by rw [show (- -1 : Int) = 1 by decide, Int.ediv_one]; omega
    have q2 : ((n : Int) - 1 - -1 - -1 - 1) / (- -1) = (n : Int) := by rw [show (- -1 : Int) = 1 by decide, Int.ediv_one]; omega
    simp only [Builtin.Slice.slicePlaces, gt_iff_lt, up, if_false, q1, q2]
    split <;> omega
theorem filterMap_some {α β : Type} {f : α → Option β} {g : α → β} : ∀ {l : List α}, (∀ x ∈ l, f x = some (g x)) → l.filterMap f = l.map g
  | [], _ => rfl
  | a :: l, h => by
    rw [List.filterMap_cons, h a (by simp), List.map_cons, filterMap_some fun x hx => h x (List.mem_cons_of_mem _ hx)]
/-- the items at these places -/
theorem items_rev (xs : Array Value) : ((List.range xs.size).filterMap fun (m : Nat) => xs[((xs.size : Int) - 1 + (m : Int) * (-1)).toNat]?).toArray = xs.toList.reverse.toArray := by
  have place : ∀ m : Nat, m < xs.size → ((xs.size : Int) - 1 + (m : Int) * (-1)).toNat = xs.size - 1 - m := fun m _ => by omega
  congr 1
  rw [filterMap_some (g := fun m => xs.toList.getD (xs.size - 1 - m) .none) fun m hm => by
    rw [List.mem_range] at hm
    rw [place m hm, List.getD_eq_getElem?_getD, Array.getElem?_toList, Array.getElem?_eq_getElem (by omega)]; rfl]
  refine List.ext_getElem (by simp) fun k h1 h2 => ?_
  have hk : k < xs.toList.length := by simpa using h1
  have hl : xs.toList.length = xs.size := Array.length_toList
  rw [List.getElem_reverse, List.getElem_map, List.getElem_range, List.getD_eq_getElem?_getD, List.getElem?_eq_getElem (by omega)]
  simp
section
variable {A : Around} {prog : Program} {w : World} {s : Shared} {E : Value → Shared → Prop}
/-- what the slice's three parts come to -/
theorem parts_rev {sl : Addr} {v1 v2 v3 : Value} {n : Nat} {Q : Int × Int × Nat → Shared → Prop} (hs : s.heap.IsSliceOf sl v1 v2 v3) (k1 : IsPart v1 none) (k2 : IsPart v2 none) (k3 : IsPart v3 (some (-1)))
    (h : Q ((n : Int) - 1, -1, n) s) : wpAny (model prog w) A (Builtin.Slice.sliceApplied (.ref sl) (pure (n : Int))) Q E s := by
  obtain ⟨o, ho, _, fs⟩ := hs
  obtain ⟨e1, e2⟩ := ends_rev n
  have fin : wpAny (model prog w) A (match Builtin.Slice.sliceAdjust none none (-1) (n : Int) with | (lo, hi) => pure (lo, (-1 : Int), Builtin.Slice.slicePlaces lo hi (-1))) Q E s := by
    rw [e1]
    change wpAny _ _ (pure ((n : Int) - 1, (-1 : Int), Builtin.Slice.slicePlaces ((n : Int) - 1) (-1) (-1))) _ _ s
    rw [e2]
    exact wpAny_pure h
  have step : ¬ ((-1 : Int) == 0) = true := by decide
  simp only [Builtin.Slice.sliceApplied, Builtin.Slice.sliceFields]
  refine wpAny_bind (wpAny_bind (wpAny_field ho fs (x := v1) rfl (wpAny_bind (wpAny_field ho fs (x := v2) rfl (wpAny_bind (wpAny_field ho fs (x := v3) rfl (wpAny_pure (wpAny_bind (slicePart_ k3 ?_)))))))))
  change wpAny _ _ (if ((-1 : Int) == 0) = true then _ else _) _ _ s
  rw [if_neg step]
  exact wpAny_bind (slicePart_ k1 (wpAny_bind (slicePart_ k2 (wpAny_bind (wpAny_pure fin)))))
theorem getItem_rev {t sl : Addr} {xs : Array Value} {v1 v2 v3 : Value} {Q : Value → Shared → Prop} (ht : IsTup s.heap t xs) (hs : s.heap.IsSliceOf sl v1 v2 v3) (k1 : IsPart v1 none) (k2 : IsPart v2 none) (k3 : IsPart v3 (some (-1))) (z : xs.size ≤ sizeLine)
    (h : Q (.ref s.heap.objs.size) { s with heap := s.heap.push { cls := .type "tuple", data := .seq xs.toList.reverse.toArray } }) : wpAny (model prog w) A (getItem (.ref t) (.ref sl)) Q E s := by
  have tyS : s.TypeIs (.ref sl) "slice" := let ⟨o, ho, hc, _⟩ := hs; ⟨o, ho, hc⟩
  have fits : sizeOk (.seq xs.toList.reverse.toArray) := (by simpa using z : xs.toList.reverse.toArray.size ≤ sizeLine)
  have part : ¬ (((xs.size : Int) - 1 == 0 && (-1 : Int) == 1 && xs.size == xs.size) = true) := by simp
  refine wpAny_getItem_slot ht.typeIs (by decide) PyProof.Rows.slot_tuple_getitem (wpAny_call_entry PyProof.Rows.slot_tuple_getitem ht.typeIs entry_tuple_getitem ?_ (args_tuple_getitem _ _))
  change wpAny _ _ (Builtin.Tuple.tupleItemsOf (.ref t) >>= _) _ _ s
  refine wpAny_bind (tupleItemsOf_ ht (wpAny_bind (wpAny_typeOf tyS ?_)))
  rw [if_pos (by decide)]
  refine wpAny_bind (parts_rev hs k1 k2 k3 ?_)
  change wpAny _ _ (if ((xs.size : Int) - 1 == 0 && (-1 : Int) == 1 && xs.size == xs.size) = true then _ else _) _ _ s
  rw [if_neg part, items_rev]
  change wpAny _ _ (Builtin.Tuple.tupleExact xs.toList.reverse.toArray >>= fun v => ret v) _ _ s
  refine wpAny_bind (wpAny_newObj_type ?_ fits)
  exact wpAny_pure ⟨_, rfl, h⟩
end
/-- t[::-1] of a tuple -/
def tRevT (K : PySem.W.Frag) (te : TE) : TE := fun σ H Q => te σ H fun x H1 => ∃ a xs, x = .ref a ∧ SqT K H1 a xs ∧ ∀ p, H1 p = none → Q (.ref p) (upd H1 p (.tup xs.reverse))
/-- a slice's part that is left out, or that is minus one: its value, with nothing changed -/
theorem part_is {X : Cx} {pins : List (Addr × Obj)} {σ : L2.St} {H : Hp} {s : Shared} {e : Option Expr} {t : TO} {o : Option Int} {R : Value → Shared → Prop} (pe : PO X e t) (at_ : ∀ q : Option Int → Hp → Prop, q o H → t σ H q) (I : Inv X pins σ H s)
    (h : ∀ v s', Inv X pins σ H s' → IsPart v o → R v s') : wpAny (model X.prog X.w) X.A (evalPart e X.env) R X.xe s := by
  exact thn (pe.run pins s σ H (fun o' H' => o' = o ∧ H' = H) I (at_ _ ⟨rfl, rfl⟩)) fun v s' ⟨_, _, J, p, eo, eH⟩ => h v s' (eH ▸ J) (eo ▸ p)
theorem pe_revT {X : Cx} {e : Expr} {te : TE} {k : Nat} {p1 p2 p3 pos : Pos} (he : PE X e te) : PE X (.Subscript e (.Slice none none (some (.UnaryOp .USub (.Constant (.int 1) k p1) p2)) p3) pos) (tRevT X.K te) := by
  refine ⟨fun pins s σ H Q J w => Subscript_ (thn (he.run pins s σ H _ J w) fun v s1 ⟨x, H1, J1, rx, a, xs, ex, ht, q⟩ => ?_)⟩
  subst ex
  obtain rfl : v = Value.ref a := rx
  have back : PO X (some (.UnaryOp .USub (.Constant (.int 1) k p1) p2)) _ := po_some (pe_un un_neg pe_int)
  refine wpAny_Slice (part_is po_none (fun _ h => h) J1 fun v1 s2 J2 k1 => part_is po_none (fun _ h => h) J2 fun v2 s3 J3 k2 => part_is back (fun q h => ⟨1, rfl, -1, rfl, h⟩) J3 fun v3 s4 J4 k3 => ?_)
  have J5 : Inv X pins σ H1 { s4 with heap := s4.heap.push { cls := .type "slice", data := .fields #[v1, v2, v3] } } := J4.kept (t' := s4.toks) fun _ _ => Heap.get?_push_of_some _
  obtain ⟨us, ru, tp, z⟩ := J5.tuple ht
  have zl : xs.length ≤ sizeLine := z
  refine tail_any (ops := [.ref a, .ref s4.heap.objs.size]) tp.typeIs PyProof.Rows.slot_tuple_getitem.lookup (getItem_rev tp (Heap.IsSliceOf.new _ v1 v2 v3) k1 k2 k3 (by rw [List.size_toArray, ← ru.length]; exact zl) ?_) (by with_unfolding_all rfl)
  refine ⟨.ref _, _, J5.laid (t' := s4.toks) (o := .tup xs.reverse) (fun _ _ => Heap.get?_push_of_some _) (Nat.le_refl _) ⟨by rw [List.length_reverse]; exact zl, _, ru.reverse, IsTup.new _ _⟩, rfl, q _ (J5.hok.fresh (Nat.le_refl _))⟩
end Fc
namespace Fc
open PySem L2 PyProof.Rows
/-- all but what stands at D -/
def hide (D : Addr) (H : Hp) : Hp := fun b => if b = D then none else H b
theorem hide_sub (D : Addr) (H : Hp) : Same (hide D H) H := fun b o e => by
  unfold hide at e
  by_cases c : b = D
  · rw [if_pos c] at e; cases e
  · rw [if_neg c] at e; exact e
theorem but_hide {D : Addr} {H H' : Hp} (h : But D H H') : Same (hide D H) (hide D H') := fun b o e => by
  unfold hide at e ⊢
  by_cases c : b = D
  · rw [if_pos c] at e; cases e
  · rw [if_neg c] at e ⊢; exact h b o c e
theorem same_but {D : Addr} {H H' : Hp} (h : Same H H') : But D H H' := fun b o _ e => h b o e
theorem hide_at {D p : Addr} {H : Hp} (h : p ≠ D) : hide D H p = H p := by unfold hide; rw [if_neg h]
structure Nc (K : PySem.W.Frag) (H0 : Hp) (D a t : Addr) (xs : List V) (tvs : List V) (odd : V) (od : PyData) (vs : List V) (ds : List PyData) (H : Hp) : Prop where
  but : But D H0 H
  dice : DiceIn H D
  val : SqT K (hide D H) a xs
  rows : SqT K (hide D H) t tvs
  odd : Dp K (hide D H) odd od
  its : Paired (fun d v => Dp K (hide D H) v d) ds vs
section
variable {K : PySem.W.Frag} {H0 : Hp} {D a t : Addr} {xs tvs : List V} {odd : V} {od : PyData} {vs : List V} {ds : List PyData} {H : Hp}
theorem Nc.to (h : Nc K H0 D a t xs tvs odd od vs ds H) {H' : Hp} (b : But D H H') (d : DiceIn H' D) : Nc K H0 D a t xs tvs odd od vs ds H' := by
  have s := but_hide b
  exact ⟨h.but.trans b, d, Tups.same s _ _ h.val, Tups.same s _ _ h.rows, dp_mono s _ _ h.odd, Paired.mapP h.its fun d v h => dp_mono s _ _ h⟩
theorem Nc.new (h : Nc K H0 D a t xs tvs odd od vs ds H) {p : Addr} {o : HO} (hp : H p = none) : Nc K H0 D a t xs tvs odd od vs ds (upd H p o) := by
  have s := same_new (o := o) hp
  obtain ⟨x, y, z, e⟩ := h.dice
  exact h.to (same_but s) ⟨x, y, z, s _ _ e⟩
theorem Nc.roll (h : Nc K H0 D a t xs tvs odd od vs ds H) (x y z : Int) : Nc K H0 D a t xs tvs odd od vs ds (upd H D (dicL x y z)) := h.to (But.refl D H).upd ⟨x, y, z, upd_same⟩
theorem Nc.ne (h : Nc K H0 D a t xs tvs odd od vs ds H) {p : Addr} (hp : H p = none) : p ≠ D := fun e => by
  obtain ⟨x, y, z, e2⟩ := h.dice
  rw [e, e2] at hp
  cases hp
theorem Nc.push (h : Nc K H0 D a t xs tvs odd od vs ds H) {v : V} {d : PyData} (hd : Dp K (hide D H) v d) : Nc K H0 D a t xs tvs odd od (vs ++ [v]) (ds ++ [d]) H := ⟨h.but, h.dice, h.val, h.rows, h.odd, paired_snoc h.its hd⟩
/-- a new tuple -/
theorem Nc.tup (h : Nc K H0 D a t xs tvs odd od vs ds H) {p : Addr} {ys : List V} {es : List PyData} (hp : H p = none) (hd : DpAll K (hide D H) ys es) : Dp K (hide D (upd H p (.tup ys))) (.ref p) (.tuple es) := by
  have s := but_hide (D := D) (same_but (same_new (o := .tup ys) hp))
  exact .tup (.inl (.inl (by rw [hide_at (h.ne hp)]; exact upd_same))) (dps_mono s _ _ hd)
theorem Nc.lst (h : Nc K H0 D a t xs tvs odd od vs ds H) {p : Addr} {ys : List V} {es : List PyData} (hp : H p = none) (hd : DpAll K (hide D H) ys es) : Dp K (hide D (upd H p (.lst ys))) (.ref p) (.list es) := by
  have s := but_hide (D := D) (same_but (same_new (o := .lst ys) hp))
  exact .lst (.inl (.inl (by rw [hide_at (h.ne hp)]; exact upd_same))) (dps_mono s _ _ hd)
theorem Nc.valT (h : Nc K H0 D a t xs tvs odd od vs ds H) : SqT K H a xs := Tups.same (hide_sub D H) _ _ h.val
end
theorem idx_dp {K : PySem.W.Frag} {H : Hp} (js : List Nat) : DpAll K H (js.map natV) (idxs js) := by
  induction js with
  | nil => exact .nil
  | cons j js ih => exact .cons (.int _) ih
theorem dps_app {K : PySem.W.Frag} {H : Hp} {xs ys : List V} {ds es : List PyData} (h : DpAll K H xs ds) (g : DpAll K H ys es) : DpAll K H (xs ++ ys) (ds ++ es) := by
  induction ds generalizing xs with
  | nil => cases h; exact g
  | cons d ds ih => cases h with | cons h1 h2 => exact .cons h1 (ih h2)
theorem cut_tail (js : List Nat) (h : js ≠ []) : cutV (js.map natV) (some 1) none = (js.drop 1).map natV ∧ ¬ (HT.sIx (js.map natV).length 0 (some 1) = 0 ∧ HT.sIx (js.map natV).length (js.map natV).length none = (js.map natV).length) := by
  have hl : 0 < (js.map natV).length := by rw [List.length_map]; exact List.length_pos_iff.mpr h
  have e1 : HT.sIx (js.map natV).length 0 (some 1) = 1 := by
    have h1 := HT.sIx_nat (js.map natV).length 0 1
    rw [show ((1 : Nat) : Int) = 1 from rfl] at h1
    rw [h1]
    omega
  have e2 : HT.sIx (js.map natV).length (js.map natV).length none = (js.map natV).length := rfl
  constructor
  · unfold cutV
    rw [e1, e2, List.map_drop, List.take_of_length_le (by rw [List.length_drop]; omega)]
  · rw [e1]
    exact fun z => absurd z.1 (by decide)
theorem cut_init (js : List Nat) (h : js ≠ []) : cutV (js.map natV) none (some (-1)) = (js.take (js.length - 1)).map natV ∧ ¬ (HT.sIx (js.map natV).length 0 none = 0 ∧ HT.sIx (js.map natV).length (js.map natV).length (some (-1)) = (js.map natV).length) := by
  have hl : 0 < (js.map natV).length := by rw [List.length_map]; exact List.length_pos_iff.mpr h
  have e1 : HT.sIx (js.map natV).length (js.map natV).length (some (-1)) = js.length - 1 := by
    show (if (-1 : Int) < 0 then (-1 + ((js.map natV).length : Int)).toNat else min (-1 : Int).toNat (js.map natV).length) = _
    rw [if_pos (by decide)]
    rw [List.length_map] at hl ⊢
    omega
  have e2 : HT.sIx (js.map natV).length 0 none = 0 := rfl
  constructor
  · unfold cutV
    rw [e1, e2, List.map_take]
    simp
  · rw [e1]
    intro z
    have z2 := z.2
    rw [List.length_map] at z2 hl
    omega
theorem scStr0 : Sc (.str "0") := ⟨by decide +kernel, by decide +kernel, by decide +kernel, by decide +kernel, by decide +kernel, by decide +kernel⟩
theorem scT0 : Sc (.tuple [.int 0]) := ⟨by decide +kernel, by decide +kernel, by decide +kernel, by decide +kernel, by decide +kernel, by decide +kernel⟩
theorem paired_mem {α β : Type} {p : α → β → Prop} {l : List α} {ys : List β} (h : Paired p l ys) {y : β} (hy : y ∈ ys) : ∃ a ∈ l, p a y := by
  induction h with
  | nil => cases hy
  | cons h _ ih =>
    rcases List.mem_cons.mp hy with e | e
    · exact ⟨_, by simp, e ▸ h⟩
    · obtain ⟨a, ha, pa⟩ := ih e
      exact ⟨a, List.mem_cons_of_mem _ ha, pa⟩
theorem near_init {K : PySem.W.Frag} {H0 H : Hp} {D a t : Addr} {js : List Nat} {tvs : List V} {odd : V} {od : PyData} {vs : List V} {ds : List PyData} {σ : L2.St} {Q : VK} (I : Nc K H0 D a t (js.map natV) tvs odd od vs ds H) (jn : js ≠ []) (jl : js.length ≤ 200) (h2 : σ[2]? = some (some (.ref a))) (h4 : σ[4]? = some (some odd))
    (q : ∀ v H', Nc K H0 D a t (js.map natV) tvs odd od (vs ++ [v]) (ds ++ [.tuple (idxs (js.take (js.length - 1)) ++ [od])]) H' → Q v H') :
    tOp (rCatA K) (tSl (rSlA K) (tVar 2) tNoPart (tPart (tUn (rU fun i => .int (-i)) (tC (.int 1))))) (tTup (tCons (tVar 4) tNil)) σ H Q := by
  have sl : sizeLine = 16777216 := sizeLine_eq
  obtain ⟨c1, c2⟩ := cut_init js jn
  refine ⟨_, h2, 1, rfl, -1, rfl, a, _, rfl, I.valT, fun w => absurd w c2, fun _ p hp => ?_⟩
  rw [c1]
  have I1 := I.new (o := .tup ((js.take (js.length - 1)).map natV)) hp
  have d1 := I.tup (ys := (js.take (js.length - 1)).map natV) hp (idx_dp _)
  generalize upd H p (.tup ((js.take (js.length - 1)).map natV)) = H1 at I1 d1
  refine ⟨_, h4, by rw [sl]; exact (by decide : 1 ≤ 16777216), fun p2 hp2 => ?_⟩
  have I2 := I1.new (o := .tup [odd]) hp2
  have d2 := I1.tup (ys := [odd]) hp2 (.cons I1.odd .nil)
  have d1' := dp_mono (but_hide (D := D) (same_but (same_new (o := .tup [odd]) hp2))) _ _ d1
  generalize upd H1 p2 (.tup [odd]) = H2 at I2 d2 d1'
  cases d1' with
  | @tup _ xs1 _ s1 a1 =>
  cases d2 with
  | @tup _ xs2 _ s2 a2 =>
  have l1 := dp_len a1
  have l2 := dp_len a2
  have lt : xs1.length ≤ 200 := by rw [l1, List.length_map, List.length_take]; omega
  refine ⟨p, p2, xs1, xs2, rfl, rfl, Tups.same (hide_sub D H2) _ _ s1, Tups.same (hide_sub D H2) _ _ s2, ?_, fun e => ?_, fun _ e => ?_, fun _ _ p3 hp3 => ?_⟩
  · rw [l2, sl]; simp only [List.length_cons, List.length_nil]; omega
  · have e1 : idxs (js.take (js.length - 1)) = [] := by
      subst e
      exact List.length_eq_zero_iff.mp l1.symm
    refine q _ _ ?_
    rw [e1]
    exact I2.push (.tup s2 a2)
  · subst e; cases l2
  · have I3 := I2.new (o := .tup (xs1 ++ xs2)) hp3
    exact q _ _ (I3.push (I2.tup hp3 (dps_app a1 a2)))
def spNearC (K : PySem.W.Frag) (w : World) : Sp := fun vs H Q _ => ∃ (D t a : Addr) (tvs : List V) (js : List Nat), vs = [.ref D, .ref t, .ref a] ∧ DiceIn H D ∧ SqT K H t tvs ∧ 0 < tvs.length ∧ tvs.length ≤ 20 ∧ SqT K H a (js.map natV) ∧ js ≠ [] ∧ js.length ≤ 200 ∧ (∀ j ∈ js, j < 20) ∧
  ∀ H' v d, But D H H' → DiceIn H' D → Dp K (hide D H') v d → GoodC d → Q v H'
section
variable {K : PySem.W.Frag} {mg : Str → Option Value} {base : Heap} {P : Program} {w : World}
abbrev n34 : List Str := ["_law_dice_here", "_law_rows_here", "_law_value", "_law_many", "_law_odd", "_law_some"]
theorem sc34 : FnScope n34 ["_law_dice_here", "_law_rows_here", "_law_value"] (defScope (topS 34)) := ⟨rfl, rfl, rfl, by decide +kernel, rfl, by decide +kernel, by decide +kernel⟩
theorem ok34 {f : Addr} {fd : FuncData} (F : Fun K "_law_near_chain" "_law_near_chain" (topS 34) f fd) (B : Blt mg) (c28 : Cal P w K mg base 1 "_law_roll" (spRoll K w)) (c29 : Cal P w K mg base 2 "_law_pick" (spPick K w)) : FnOk P w K mg base CX0 3 f fd ["_law_dice_here", "_law_rows_here", "_law_value"] (spNearC K w) := by
  refine F.ok sc34 (fun vs H Q E h => ?_) (fun cdv A outer s H vs Q E hr h => ?_)
  · obtain ⟨D, t, a, tvs, js, rfl, _⟩ := h
    rfl
  · refine ⟨_, pss_cons (ps_set (i := 3) sc34.nd rfl (Or.inl rfl) (pe_callB call_len_seq (by rfl) B.len boot_len (pa_cons (pv 1) pa_nil)))
      (pss_cons (ps_set (i := 4) sc34.nd rfl (Or.inl rfl) (pe_c c29 hr (by decide) (by rfl) (pa_cons (pv 0) (pa_cons (pe_lst (pa_cons pe_non (pa_cons pe_bl (pa_cons (pe_un un_neg pe_int) (pa_cons (pv 3) (pa_cons pe_str (pa_cons (pe_tup (pa_cons pe_int pa_nil)) (pa_cons (pe_op op_pow pe_int pe_int) pa_nil)))))))) pa_nil))))
      (pss_cons (ps_set (i := 5) sc34.nd rfl (Or.inl rfl) (pe_lst (pa_cons (pe_op op_catA (pv 2) (pv 2)) (pa_cons (pe_revT (pv 2)) (pa_cons (pe_op op_catA (pv 2) (pe_tup (pa_cons pe_int pa_nil))) (pa_cons (pe_slice sl_tupA (pv 2) (po_some pe_int) po_none)
        (pa_cons (pe_tup (pa_cons (pv 4) pa_nil)) (pa_cons (pe_op op_catA (pe_slice sl_tupA (pv 2) po_none (po_some (pe_un un_neg pe_int))) (pe_tup (pa_cons (pv 4) pa_nil))) (pa_cons (pe_callTy call_list_of (by rfl) B.list boot_list (pa_cons (pv 2) pa_nil)) (pa_cons (pv 4) (pa_cons (pe_tup pa_nil) pa_nil)))))))))))
      (pss_one (ps_ret (pe_c c29 hr (by decide) (by rfl) (pa_cons (pv 0) (pa_cons (pe_op op_cat (pv 5) (pe_lst (pa_cons (pe_tup (pa_cons (pe_c c28 hr (by decide) (by rfl) (pa_cons (pv 0) (pa_cons (pv 3) pa_nil))) pa_nil))
        (pa_cons (pe_tup (pa_cons (pe_c c28 hr (by decide) (by rfl) (pa_cons (pv 0) (pa_cons (pv 3) pa_nil))) (pa_cons (pe_c c28 hr (by decide) (by rfl) (pa_cons (pv 0) (pa_cons (pv 3) pa_nil))) pa_nil))) (pa_cons (pe_tup (pa_cons pe_bl pa_nil)) (pa_cons (pv 2) pa_nil)))))) pa_nil))))))), ?_⟩
    obtain ⟨D, t, a, tvs, js, rfl, hD, st, ht0, ht1, sa, jn, jl, jb, q⟩ := h
    have sl : sizeLine = 16777216 := sizeLine_eq
    have jb60 : ∀ j ∈ js, j < 60 := fun j hj => Nat.lt_of_lt_of_le (jb j hj) (by decide)
    have xn : js.map natV ≠ [] := fun e => jn (List.map_eq_nil_iff.mp e)
    have xl : (js.map natV).length = js.length := List.length_map _
    obtain ⟨x, y, z, eD⟩ := hD
    have hid : ∀ {b : Addr} {ys : List V}, SqT K H b ys → SqT K (hide D H) b ys := fun {b ys} h => by
      rcases h with (h | ⟨o, h⟩) | h
      · exact .inl (.inl (by rw [hide_at (fun e => by rw [e, eD] at h; cases h)]; exact h))
      · exact .inl (.inr ⟨o, by rw [hide_at (fun e => by rw [e, eD] at h; cases h)]; exact h⟩)
      · exact .inr h
    refine ⟨_, rfl, t, tvs, rfl, .inr st, ?_⟩
    refine ⟨_, rfl, _, rfl, _, rfl, by rw [sl]; exact (by decide : 1 ≤ 16777216), fun t0 h0 => ⟨10, 61, rfl, rfl, ⟨by decide, by decide, by decide⟩, by rw [sl]; exact (by decide : 7 ≤ 16777216), fun p0 hp0 => ?_⟩⟩
    have s0 := same_new (o := .tup [.int 0]) h0
    have s1 := same_new (o := .lst [.non, .bl true, .int (-1), .int (tvs.length : Int), .str "0", .ref t0, .int (10 ^ Int.toNat 61)]) hp0
    have n0 : p0 ≠ D := fun e => by rw [e, s0 _ _ eD] at hp0; cases hp0
    refine ⟨D, p0, _, x, y, z, rfl, .inl (.inl upd_same), n0, by simp, by simp, s1 _ _ (s0 _ _ eD), fun odd x1 y1 z1 hodd => ?_⟩
    have t0T : SqT K (upd H t0 (.tup [.int 0])) t0 [.int 0] := .inl (.inl upd_same)
    have nt0 : t0 ≠ D := fun e => by rw [e, eD] at h0; cases h0
    have b2 : But D H (upd (upd (upd H t0 (.tup [.int 0])) p0 (.lst [.non, .bl true, .int (-1), .int (tvs.length : Int), .str "0", .ref t0, .int (10 ^ Int.toNat 61)])) D (dicL x1 y1 z1)) := (same_but (s0.trans s1)).trans (But.refl D _).upd
    have d2 : DiceIn (upd (upd (upd H t0 (.tup [.int 0])) p0 (.lst [.non, .bl true, .int (-1), .int (tvs.length : Int), .str "0", .ref t0, .int (10 ^ Int.toNat 61)])) D (dicL x1 y1 z1)) D := ⟨x1, y1, z1, upd_same⟩
    have t02 : SqT K (hide D (upd (upd (upd H t0 (.tup [.int 0])) p0 (.lst [.non, .bl true, .int (-1), .int (tvs.length : Int), .str "0", .ref t0, .int (10 ^ Int.toNat 61)])) D (dicL x1 y1 z1))) t0 [.int 0] := by
      refine .inl (.inl ?_)
      rw [hide_at nt0, upd_ne nt0]
      exact s1 _ _ upd_same
    generalize (upd (upd (upd H t0 (.tup [.int 0])) p0 (.lst [.non, .bl true, .int (-1), .int (tvs.length : Int), .str "0", .ref t0, .int (10 ^ Int.toNat 61)])) D (dicL x1 y1 z1)) = H2 at *
    obtain ⟨od, dod, sod⟩ : ∃ od, Dp K (hide D H2) odd od ∧ Sc od := by
      simp only [List.mem_cons, List.not_mem_nil, or_false] at hodd
      rcases hodd with e | e | e | e | e | e | e <;> subst e
      · exact ⟨.none, .non, Sc.none⟩
      · exact ⟨.bool true, .bl true, Sc.bool _⟩
      · exact ⟨.int (-1), .int (-1), Sc.int ⟨by decide, by decide⟩⟩
      · exact ⟨.int (tvs.length : Int), .int _, Sc.int (numI_idx (by omega))⟩
      · exact ⟨.str "0", .str "0", scStr0⟩
      · exact ⟨.tuple [.int 0], .tup t02 (.cons (.int 0) .nil), scT0⟩
      · exact ⟨.int (10 ^ Int.toNat 61), .int _, Sc.int ⟨by decide +kernel, by decide +kernel⟩⟩
    have sh2 := but_hide b2
    have I0 : Nc K H D a t (js.map natV) tvs odd od [] [] H2 := ⟨b2, d2, Tups.same sh2 _ _ (hid sa), Tups.same sh2 _ _ (hid st), dod, .nil⟩
    clear sh2 t02 d2 b2 nt0 t0T hodd n0 s1 s0 hp0 h0 hid sa eD
    have len : ∀ {n : Nat}, n ≤ 1000 → n ≤ sizeLine := fun h => by rw [sl]; omega
    have noX : ∀ {p : Prop}, js.map natV = [] → p := fun e => absurd e xn
    -- value + value
    refine ⟨_, rfl, _, rfl, a, a, _, _, rfl, rfl, I0.valT, I0.valT, len (by omega), fun e => noX e, fun _ e => noX e, fun _ _ p1 hp1 => ?_⟩
    have I1 := (I0.new (o := .tup (js.map natV ++ js.map natV)) hp1).push (I0.tup hp1 (dps_app (idx_dp js) (idx_dp js)))
    generalize upd H2 p1 (.tup (js.map natV ++ js.map natV)) = H3 at I1
    -- value[::-1]
    refine ⟨_, rfl, a, _, rfl, I1.valT, fun p2 hp2 => ?_⟩
    have er : (js.map natV).reverse = js.reverse.map natV := (List.map_reverse).symm
    rw [er]
    have I2 := (I1.new (o := .tup (js.reverse.map natV)) hp2).push (I1.tup hp2 (idx_dp js.reverse))
    generalize upd H3 p2 (.tup (js.reverse.map natV)) = H4 at I2
    -- value + (0,)
    refine ⟨_, rfl, len (by simp), fun q3 hq3 => ?_⟩
    have I3a := I2.new (o := .tup [.int 0]) hq3
    have s3 : SqT K (upd H4 q3 (.tup [.int 0])) q3 [.int 0] := .inl (.inl upd_same)
    generalize upd H4 q3 (.tup [.int 0]) = H5 at I3a s3
    refine ⟨a, q3, _, _, rfl, rfl, I3a.valT, s3, len (by simp only [List.length_cons, List.length_nil]; omega), fun e => noX e, (fun _ e => nomatch e), fun _ _ p3 hp3 => ?_⟩
    have I3 := (I3a.new (o := .tup (js.map natV ++ [.int 0])) hp3).push (I3a.tup hp3 (dps_app (idx_dp js) (.cons (.int 0) .nil)))
    generalize upd H5 p3 (.tup (js.map natV ++ [.int 0])) = H6 at I3
    -- value[1:]
    obtain ⟨c1, c2⟩ := cut_tail js jn
    refine ⟨_, rfl, 1, rfl, a, _, rfl, I3.valT, fun w => absurd w c2, fun _ p4 hp4 => ?_⟩
    rw [c1]
    have I4 := (I3.new (o := .tup ((js.drop 1).map natV)) hp4).push (I3.tup hp4 (idx_dp (js.drop 1)))
    generalize upd H6 p4 (.tup ((js.drop 1).map natV)) = H7 at I4
    -- (odd,)
    refine ⟨_, rfl, len (by simp), fun p5 hp5 => ?_⟩
    have I5 := (I4.new (o := .tup [odd]) hp5).push (I4.tup hp5 (.cons I4.odd .nil))
    generalize upd H7 p5 (.tup [odd]) = H8 at I5
    -- value[:-1] + (odd,)
    refine near_init I5 jn jl rfl rfl fun v6 H9 I6 => ?_
    -- list(value)
    refine ⟨_, rfl, a, _, rfl, .inr I6.valT, fun p7 hp7 => ?_⟩
    have I7 := (I6.new (o := .lst (js.map natV)) hp7).push (I6.lst hp7 (idx_dp js))
    generalize upd H9 p7 (.lst (js.map natV)) = H10 at I7
    -- odd, ()
    refine ⟨_, rfl, len (by simp), fun p9 hp9 => ?_⟩
    have I8 := I7.push I7.odd
    have I9 := (I8.new (o := .tup []) hp9).push (I8.tup (ys := []) hp9 .nil)
    generalize upd H10 p9 (.tup []) = H11 at I9
    refine ⟨len (by simp), fun pS hpS => ?_⟩
    have IS := I9.new (o := .lst ([] ++ [V.ref p1] ++ [V.ref p2] ++ [V.ref p3] ++ [V.ref p4] ++ [V.ref p5] ++ [v6] ++ [V.ref p7] ++ [odd] ++ [V.ref p9])) hpS
    have lf : hide D (upd H11 pS (.lst ([] ++ [V.ref p1] ++ [V.ref p2] ++ [V.ref p3] ++ [V.ref p4] ++ [V.ref p5] ++ [v6] ++ [V.ref p7] ++ [odd] ++ [V.ref p9]))) pS = some (.lst ([] ++ [V.ref p1] ++ [V.ref p2] ++ [V.ref p3] ++ [V.ref p4] ++ [V.ref p5] ++ [v6] ++ [V.ref p7] ++ [odd] ++ [V.ref p9])) := by
      rw [hide_at (I9.ne hpS)]; exact upd_same
    change Nc K H D a t (js.map natV) tvs odd od _ _ (upd H11 pS (.lst [V.ref p1, V.ref p2, V.ref p3, V.ref p4, V.ref p5, v6, V.ref p7, odd, V.ref p9])) at IS
    change hide D (upd H11 pS (.lst [V.ref p1, V.ref p2, V.ref p3, V.ref p4, V.ref p5, v6, V.ref p7, odd, V.ref p9])) pS = _ at lf
    generalize upd H11 pS (.lst [V.ref p1, V.ref p2, V.ref p3, V.ref p4, V.ref p5, v6, V.ref p7, odd, V.ref p9]) = H12 at IS lf
    clear I0 I1 I2 I3a s3 I3 I4 I5 I6 I7 I8 I9
    have tp : (0 : Int) < (tvs.length : Int) := by omega
    have tq : (tvs.length : Int) < 1000 := by omega
    have rollN : ∀ r : Int, 0 ≤ r → r < (tvs.length : Int) → ∃ k : Nat, r = (k : Int) ∧ k < 60 := fun r h1 h2 => ⟨r.toNat, by omega, by omega⟩
    -- (roll,)
    obtain ⟨xA, yA, zA, eA⟩ := IS.dice
    refine ⟨_, rfl, _, rfl, _, rfl, _, rfl, D, _, xA, yA, zA, rfl, tp, tq, eA, fun r1 x1 y1 z1 a1 b1 => ⟨len (by simp), fun pA hpA => ?_⟩⟩
    have JA := IS.roll x1 y1 z1
    have lA := but_hide (D := D) ((But.refl D H12).upd (o := dicL x1 y1 z1)) _ _ lf
    generalize upd H12 D (dicL x1 y1 z1) = H13 at JA lA hpA ⊢
    have J1 := (JA.new (o := .tup [.int r1]) hpA).push (JA.tup (ys := [.int r1]) hpA (.cons (.int r1) .nil))
    have l1 := but_hide (D := D) (same_but (same_new (o := .tup [.int r1]) hpA)) _ _ lA
    generalize upd H13 pA (.tup [.int r1]) = H14 at J1 l1
    -- (roll, roll)
    obtain ⟨xB, yB, zB, eB⟩ := J1.dice
    refine ⟨_, rfl, _, rfl, D, _, xB, yB, zB, rfl, tp, tq, eB, fun r2 x2 y2 z2 a2 b2 => ?_⟩
    have JB := J1.roll x2 y2 z2
    have lB := but_hide (D := D) ((But.refl D H14).upd (o := dicL x2 y2 z2)) _ _ l1
    generalize upd H14 D (dicL x2 y2 z2) = H15 at JB lB
    obtain ⟨xC, yC, zC, eC⟩ := JB.dice
    refine ⟨_, rfl, _, rfl, D, _, xC, yC, zC, rfl, tp, tq, eC, fun r3 x3 y3 z3 a3 b3 => ⟨len (by simp), fun pC hpC => ?_⟩⟩
    have JC := JB.roll x3 y3 z3
    have lC := but_hide (D := D) ((But.refl D H15).upd (o := dicL x3 y3 z3)) _ _ lB
    generalize upd H15 D (dicL x3 y3 z3) = H16 at JC lC hpC ⊢
    have J2 := (JC.new (o := .tup [.int r2, .int r3]) hpC).push (JC.tup (ys := [.int r2, .int r3]) hpC (.cons (.int r2) (.cons (.int r3) .nil)))
    have l2 := but_hide (D := D) (same_but (same_new (o := .tup [.int r2, .int r3]) hpC)) _ _ lC
    generalize upd H16 pC (.tup [.int r2, .int r3]) = H17 at J2 l2
    -- (False,), value
    refine ⟨len (by simp), fun pD hpD => ?_⟩
    have J3 := (J2.new (o := .tup [.bl false]) hpD).push (J2.tup (ys := [.bl false]) hpD (.cons (.bl false) .nil))
    have l3 := but_hide (D := D) (same_but (same_new (o := .tup [.bl false]) hpD)) _ _ l2
    generalize upd H17 pD (.tup [.bl false]) = H18 at J3 l3
    have J4 := J3.push (v := .ref a) (.tup J3.val (idx_dp js))
    refine ⟨_, rfl, len (by simp), fun pE hpE => ?_⟩
    have J5 := J4.new (o := .lst [V.ref pA, V.ref pC, V.ref pD, V.ref a]) hpE
    have l5 := but_hide (D := D) (same_but (same_new (o := .lst [V.ref pA, V.ref pC, V.ref pD, V.ref a]) hpE)) _ _ l3
    have e5 : (upd H18 pE (.lst [V.ref pA, V.ref pC, V.ref pD, V.ref a])) pE = some (.lst [V.ref pA, V.ref pC, V.ref pD, V.ref a]) := upd_same
    generalize upd H18 pE (.lst [V.ref pA, V.ref pC, V.ref pD, V.ref a]) = H19 at J5 l5 e5
    refine ⟨pS, pE, _, _, rfl, rfl, hide_sub D _ _ _ l5, e5, len (by simp), fun pF hpF => ?_⟩
    have J6 := J5.new (o := .lst ([V.ref p1, V.ref p2, V.ref p3, V.ref p4, V.ref p5, v6, V.ref p7, odd, V.ref p9] ++ [V.ref pA, V.ref pC, V.ref pD, V.ref a])) hpF
    have nF := J5.ne hpF
    obtain ⟨xF, yF, zF, eF⟩ := J6.dice
    refine ⟨D, pF, _, xF, yF, zF, rfl, .inl (.inl upd_same), nF, by simp, by simp, eF, fun v x9 y9 z9 hv => ?_⟩
    have J7 := J6.roll x9 y9 z9
    obtain ⟨d, hd, dv⟩ := paired_mem J7.its (y := v) (by simpa using hv)
    refine q _ v d J7.but J7.dice dv ?_
    have nb : ∀ (l : List Nat), (∀ j ∈ l, j ∈ js) → ∀ j ∈ l, j < 60 := fun l h j hj => jb60 j (h j hj)
    have cat : ∀ (l : List Nat) (es : List PyData), (∀ j ∈ l, j ∈ js) → l.length ≤ 400 → (∀ d ∈ es, Sc d) → es.length ≤ 4 → ScL (idxs l ++ es) := fun l es h1 h2 h3 h4 => scl (nb l h1) h2 h3 h4
    have scn : ∀ d ∈ ([] : List PyData), Sc d := fun d h => nomatch h
    simp only [List.append_assoc, List.cons_append, List.nil_append, List.mem_cons, List.not_mem_nil, or_false] at hd
    rcases hd with e | e | e | e | e | e | e | e | e | e | e | e | e <;> subst e
    · have h := cat (js ++ js) [] (fun j hj => by rcases List.mem_append.mp hj with z | z <;> exact z) (by rw [List.length_append]; omega) scn (by simp)
      rw [List.append_nil, show idxs (js ++ js) = idxs js ++ idxs js from List.map_append] at h
      exact h.tup
    · have h := cat js.reverse [] (fun j hj => List.mem_reverse.mp hj) (by rw [List.length_reverse]; omega) scn (by simp)
      rw [List.append_nil] at h
      exact h.tup
    · exact (cat js [.int 0] (fun j hj => hj) (by omega) (fun d hd => by rw [List.mem_singleton.mp hd]; exact Sc.int ⟨by decide, by decide⟩) (by simp)).tup
    · have h := cat (js.drop 1) [] (fun j hj => List.mem_of_mem_drop hj) (by rw [List.length_drop]; omega) scn (by simp)
      rw [List.append_nil] at h
      exact h.tup
    · exact (cat [] [od] (fun j hj => nomatch hj) (by simp) (fun d hd => by rw [List.mem_singleton.mp hd]; exact sod) (by simp)).tup
    · exact (cat (js.take (js.length - 1)) [od] (fun j hj => List.mem_of_mem_take hj) (by rw [List.length_take]; omega) (fun d hd => by rw [List.mem_singleton.mp hd]; exact sod) (by simp)).tup
    · have h := cat js [] (fun j hj => hj) (by omega) scn (by simp)
      rw [List.append_nil] at h
      exact h.lst
    · exact sc_good sod
    · exact (cat [] [] (fun j hj => nomatch hj) (by simp) scn (by simp)).tup
    · obtain ⟨k, ek, hk⟩ := rollN r1 a1 b1
      subst ek
      exact (cat [] [.int (k : Int)] (fun j hj => nomatch hj) (by simp) (fun d hd => by rw [List.mem_singleton.mp hd]; exact Sc.int (numI_idx hk)) (by simp)).tup
    · obtain ⟨k, ek, hk⟩ := rollN r2 a2 b2
      obtain ⟨m, em, hm⟩ := rollN r3 a3 b3
      subst ek em
      refine (cat [] [.int (k : Int), .int (m : Int)] (fun j hj => nomatch hj) (by simp) (fun d hd => ?_) (by simp)).tup
      simp only [List.mem_cons, List.not_mem_nil, or_false] at hd
      rcases hd with e | e <;> subst e
      · exact Sc.int (numI_idx hk)
      · exact Sc.int (numI_idx hm)
    · exact (cat [] [.bool false] (fun j hj => nomatch hj) (by simp) (fun d hd => by rw [List.mem_singleton.mp hd]; exact Sc.bool _) (by simp)).tup
    · have h := cat js [] (fun j hj => hj) (by omega) scn (by simp)
      rw [List.append_nil] at h
      exact h.tup
end
end Fc
namespace Fc
open PySem PySem.Spec L2 PyProof.Rows
/-! ### list(d.items()) of a table -/
/-- what the zip of two rows finds -/
theorem zip_look {α β : Type} [BEq α] [LawfulBEq α] : ∀ (as : List α) (xs : List β), as.Nodup → as.length = xs.length → ∀ (j : Nat) (a : α), as[j]? = some a → ∃ x, xs[j]? = some x ∧ (as.zip xs).lookup a = some x
  | [], _, _, _, j, a, h => by simp at h
  | c :: as, xs, nd, hl, j, a, h => by
    obtain ⟨n1, n2⟩ := List.nodup_cons.mp nd
    match xs, hl with
    | [], hl => cases hl
    | x :: xs, hl =>
      cases j with
      | zero =>
        have : c = a := by simpa using h
        subst this
        exact ⟨x, rfl, by simp⟩
      | succ j =>
        have ha : as[j]? = some a := by simpa using h
        obtain ⟨y, e1, e2⟩ := zip_look as xs n2 (by simpa using hl) j a ha
        have ne : (a == c) = false := beq_eq_false_iff_ne.mpr fun e => n1 (e ▸ List.mem_of_getElem? ha)
        exact ⟨y, by simpa using e1, by rw [List.zip_cons_cons, List.lookup_cons, ne]; exact e2⟩
theorem zip_found {α β : Type} [BEq α] [LawfulBEq α] {b : α} {x : β} : ∀ (as : List α) (xs : List β), (as.zip xs).lookup b = some x → ∃ j : Nat, as[j]? = some b ∧ xs[j]? = some x
  | [], _, h => by simp at h
  | _ :: _, [], h => by simp at h
  | c :: as, y :: xs, h => by
    rw [List.zip_cons_cons, List.lookup_cons] at h
    cases e : b == c with
    | true =>
      rw [e] at h
      exact ⟨0, by rw [eq_of_beq e]; rfl, h⟩
    | false =>
      rw [e] at h
      obtain ⟨j, e1, e2⟩ := zip_found as xs h
      exact ⟨j + 1, e1, e2⟩
/-- a list at S of the pairs at as -/
def withPairs (H : Hp) (S : Addr) (as : List Addr) (xs : List Ent) : Hp := fun b =>
  if b = S then some (.lst (as.map V.ref)) else match (as.zip xs).lookup b with
    | some x => some (.tup [x.2.1, x.2.2])
    | none => H b
/-- many new things at once -/
theorem grown {X : Cx} {pins : List (Addr × Obj)} {σ : L2.St} {H H' : Hp} {s : Shared} {h' : Heap} {tk : Nat} (J : Inv X pins σ H s) (keep : ∀ b o, s.heap.get? b = some o → h'.get? b = some o) (ext : Same H H') (old : ∀ b o, s.heap.get? b = some o → H' b = H b)
    (new : ∀ b u, H' b = some u → H b = some u ∨ ObjOk X.prog X.w H' h' b u) : Inv X pins σ H' { s with heap := h', toks := tk } :=
  J.call' (ch := []) rfl
    { keep := fun b o g _ _ _ => keep b o g, slot := fun b o g _ _ _ => ⟨o.slots, keep b o g⟩, free := fun b o g n _ => (old b o g).trans n, there := fun b o g _ => ⟨o, keep b o g⟩, tups := fun b xs g => ext b _ g, frzs := fun b o u g => ext b _ g, tbls := fun b ps g => ⟨#[], by rw [ext b _ g]; simp⟩ }
    (fun b u g => (new b u g).elim (fun e => (J.hok b u e).stay (fun c v _ y => keep c v y) (fun c y => ext c _ y) fun c xs y => ext c _ y) id) J.bare fun b z => by simp at z
def rItemsM (w : World) : V → Hp → VK → Prop := fun x H Q => ∃ (d : Addr) (xs : List Ent), x = .ref d ∧ H d = some (MD w d xs) ∧
  ∀ (H' : Hp) (p : Addr) (ts : List Addr), Same H H' → H p = none → H' p = some (.lst (ts.map V.ref)) → Paired (fun (t : Addr) (x : Ent) => H' t = some (.tup [x.2.1, x.2.2])) ts xs → Q (.ref p) H'
def tItemsM (w : World) (te : TE) : TE := fun σ H Q => te σ H fun x H1 => rItemsM w x H1 Q
theorem refs_vals (as : List Addr) : Vals (as.map V.ref) (as.map Value.ref) := by
  induction as with
  | nil => exact .nil
  | cons a as ih => exact .cons rfl ih
theorem pairs_laid {X : Cx} {pins : List (Addr × Obj)} {σ : L2.St} {H : Hp} {s : Shared} {h' : Heap} {tk : Nat} {xs : List Ent} {es : Array DictEntry} {acc : Array Value} {c : Nat} {as : List Addr} (J : Inv X pins σ H s) (z : xs.length ≤ sizeLine) (ee : Ents X.w xs es) (keep : ∀ b o, s.heap.get? b = some o → h'.get? b = some o)
    (atS : h'.get? s.heap.objs.size = some { cls := .type "list", dict := none, data := .seq acc c, slots := #[] }) (n : as.length = es.size) (g : PySem.W.DilG es s.heap.objs.size h' as) (ea : acc.toList = as.map Value.ref) :
    ∃ H' : Hp, Same H H' ∧ H s.heap.objs.size = none ∧ H' s.heap.objs.size = some (.lst (as.map V.ref)) ∧ Paired (fun (t : Addr) (x : Ent) => H' t = some (.tup [x.2.1, x.2.2])) as xs ∧ Inv X pins σ H' { s with heap := h', toks := tk } := by
  obtain ⟨S, eS⟩ : ∃ S, S = s.heap.objs.size := ⟨_, rfl⟩
  rw [← eS] at atS g ⊢
  have nd : as.Nodup := g.rise.imp fun l => Nat.ne_of_lt l
  have hl : as.length = xs.length := n.trans ee.1
  have fresh : ∀ b, S ≤ b → H b = none := fun b l => J.hok.fresh (eS ▸ l)
  have under : ∀ b, b ∉ as → b ≠ S → withPairs H S as xs b = H b := fun b h1 h2 => by
    unfold withPairs
    rw [if_neg h2]
    cases e : (as.zip xs).lookup b with
    | none => rfl
    | some x =>
      obtain ⟨j, e1, _⟩ := zip_found as xs e
      exact absurd (List.mem_of_getElem? e1) h1
  have low : ∀ b, b < S → b ∉ as ∧ b ≠ S := fun b l => ⟨fun m => Nat.lt_asymm l (g.above b m), Nat.ne_of_lt l⟩
  have pair : ∀ (j : Nat) (t : Addr), as[j]? = some t → ∃ x, xs[j]? = some x ∧ withPairs H S as xs t = some (.tup [x.2.1, x.2.2]) := fun j t ht => by
    obtain ⟨x, e1, e2⟩ := zip_look as xs nd hl j t ht
    refine ⟨x, e1, ?_⟩
    unfold withPairs
    have ne : t ≠ S := fun e => Nat.lt_irrefl S (by have l := g.above t (List.mem_of_getElem? ht); rw [e] at l; exact l)
    rw [if_neg ne, e2]
  have ext : Same H (withPairs H S as xs) := fun b u e => by
    have lb : b < S := Nat.lt_of_not_le fun l => by rw [fresh b l] at e; cases e
    rw [under b (low b lb).1 (low b lb).2]; exact e
  have here : withPairs H S as xs S = some (.lst (as.map V.ref)) := if_pos rfl
  have all : ∀ {as : List Addr} {xs : List Ent} {F : Hp}, as.length = xs.length → (∀ (j : Nat) (t : Addr), as[j]? = some t → ∃ x, xs[j]? = some x ∧ F t = some (.tup [x.2.1, x.2.2])) → Paired (fun (t : Addr) (x : Ent) => F t = some (.tup [x.2.1, x.2.2])) as xs := by
    intro as
    induction as with
    | nil => intro xs F l _; cases xs with
      | nil => exact .nil
      | cons _ _ => cases l
    | cons t as ih => intro xs F l h; cases xs with
      | nil => cases l
      | cons x xs =>
        obtain ⟨y, e1, e2⟩ := h 0 t rfl
        have : x = y := by simpa using e1
        exact .cons (this ▸ e2) (ih (by simpa using l) fun j u hu => by simpa using h (j + 1) u (by simpa using hu))
  refine ⟨withPairs H S as xs, ext, fresh S (Nat.le_refl S), here, all hl pair, grown J keep ext (fun b o e => under b (low b (eS ▸ Heap.lt_size e)).1 (low b (eS ▸ Heap.lt_size e)).2) fun b u e => ?_⟩
  by_cases m : b ∈ as
  · right
    obtain ⟨j, hj⟩ := List.mem_iff_getElem?.mp m
    obtain ⟨x, e1, e2⟩ := pair j b hj
    rw [e2] at e
    cases e
    obtain ⟨lj, at_⟩ := g.pairs j b hj
    have ent := ee.2 j lj x e1
    exact ⟨by show 2 ≤ sizeLine; decide, [es[j].key, es[j].val], .cons ent.2.1 (.cons ent.2.2 .nil), _, at_, rfl, _, rfl⟩
  · by_cases eb : b = S
    · right
      subst eb
      rw [here] at e
      cases e
      refine ⟨by rw [List.length_map, hl]; exact z, acc.toList, c, ea ▸ refs_vals as, ?_⟩
      rw [Array.toArray_toList]
      exact atS
    · left
      rw [under b m eb] at e
      exact e
/-- list(e.items()) -/
theorem pe_itemsM {X : Cx} {e : Expr} {te : TE} {p apos cpos pos : Pos} (hc : X.calm = true) (he : PE X e te) (hg : Gl X "list") (hm : X.mg "list" = none) (hv : bootBuiltins "list" = some (.type "list")) (base : attributeBase e "items" X.env (eval e X.env) = eval e X.env := by rfl) (row : (apos.endLine == cpos.line) = true := by rfl)
    (st : starEach [.Call (.Attribute e "items" apos) [] [] cpos] X.env = (false, eval (.Call (.Attribute e "items" apos) [] [] cpos) X.env) :: starEach [] X.env := by rfl) :
    PE X (.Call (.Name "list" p) [.Call (.Attribute e "items" apos) [] [] cpos] [] pos) (tItemsM X.w te) := by
  have view : ∀ (pins : List (Addr × Obj)) (s : Shared) (σ : L2.St) (H : Hp) (Q : VK), Inv X pins σ H s → tItemsM X.w te σ H Q → wpAny (model X.prog X.w) X.A (eval (.Call (.Attribute e "items" apos) [] [] cpos) X.env)
      (fun v s' => wpAny (model X.prog X.w) X.A (call (.type "list") [v]) (EP X pins σ Q) X.xe s') X.xe s := fun pins s σ H Q J w => by
    refine wpAny_Call_method (T := "dict") (id := "dict.items") base rfl row F.plainAttrs_dict F.slot_dict_items F.type_dict_items (thn (he.run pins s σ H _ J w) fun u s1 ⟨x, H1, J1, rx, d, xs, ex, hd, q⟩ => ?_)
    subst ex
    obtain rfl : u = .ref d := rx
    have ⟨⟨z, sm, _, o, es, ep, ho, ox, dt, ee⟩, _⟩ := J1.hok d _ hd
    have raw : s1.heap.DictRaw d es ep := ⟨o, ho, ox, dt⟩
    refine ⟨raw.typeIs, fun v ev => by cases ev; exact ⟨o, ho, ox.2.1⟩, ?_⟩
    refine method_meetsIn F.slot_dict_items F.entry_dict_items rfl (PySem.evalArgs_none ⟨rfl, raw.typeIs, F.args_dict_items_1 _, _, PySem.meets_dict_items_raw d sm, ⟨es, ep, raw⟩, ?_⟩)
    have J2 : Inv X pins σ H1 { s1 with heap := s1.heap.push { cls := .type "dict_items", data := .fields #[.ref d] } } := J1.kept (t' := s1.toks) fun _ _ => Heap.get?_push_of_some _
    exact PySem.W.dil_call (es := es) (ep := ep) (J1.ok.hd hc) ⟨_, Heap.get?_push_size _ rfl, rfl, rfl⟩ (raw.push _) (ee.1 ▸ z) fun h' tk acc c as k1 k2 k3 k4 k5 =>
      let ⟨H', m1, m2, m3, m4, J3⟩ := pairs_laid (tk := tk) J2 z ee k1 k2 k3 k4 k5
      ⟨.ref _, H', J3, rfl, q H' _ as m1 m2 m3 m4⟩
  refine ⟨fun pins s σ H Q J w => wpAny_Call_Name_kw (ld_blt J hg hm hv (PyProof.Rows.callWith_type1 ?_ st rfl))⟩
  rw [st]
  exact Calls.spliced_cons (thn (view pins s σ H Q J w) fun v s' h => Calls.spliced_nil h)
end Fc
namespace Fc
open PySem L2 PyProof.Rows
def keysL : List Kd := five ++ [.w "far", .w "*9", .c "a" "i" 7, .cb "a" "i" true, .n 0, .no]
structure KeyOk (k : Kd) : Prop where
  sc : Sc (pd k)
  wt : (pd k).weight ≤ 20
  sh : shK k = true
  short : kdShort k = true
theorem keysL_ok : ∀ k ∈ keysL, KeyOk k := by
  have one : ∀ k, ((pd k).showable && ((pd k).leavesShort 2000 && (decide ((pd k).weight ≤ 20) && (decide ((pd k).depth ≤ 5) && ((pd k).canLay0 && (tupD (pd k) && kdShort k)))))) = true → KeyOk k := fun k h => by
    simp only [Bool.and_eq_true, decide_eq_true_eq] at h
    obtain ⟨a, b, c, d, e, f, g⟩ := h
    have s : Sc (pd k) := ⟨a, b, by omega, d, e, f⟩
    exact ⟨s, c, s.shaped, g⟩
  have all : keysL.all (fun k => (pd k).showable && ((pd k).leavesShort 2000 && (decide ((pd k).weight ≤ 20) && (decide ((pd k).depth ≤ 5) && ((pd k).canLay0 && (tupD (pd k) && kdShort k)))))) = true := by decide +kernel
  exact fun k hk => one k (List.all_eq_true.mp all k hk)
theorem keysL_apart : ∀ k ∈ keysL, ∀ p ∈ five, nk k = nk p → k = p := by
  have all : keysL.all (fun k => five.all fun p => decide (nk k = nk p → k = p)) = true := by decide +kernel
  exact fun k hk p hp => of_decide_eq_true (List.all_eq_true.mp (List.all_eq_true.mp all k hk) p hp)
def mergeG {α : Type} (B L : List (Kd × α)) : List (Kd × α) := L.foldl (fun B e => putG B e.1 e.2) B
theorem nd_putG {α : Type} {B : List (Kd × α)} {k : Kd} {v : α} (h : (B.map fun e => nk e.1).Nodup) : ((putG B k v).map fun e => nk e.1).Nodup := by
  have e1 : ∀ B : List (Kd × α), (B.map fun e => nk e.1) = (B.map (·.1)).map nk := fun B => by rw [List.map_map]; rfl
  rw [e1] at h ⊢
  rw [keys_put]
  unfold addK
  by_cases c : ∃ e ∈ B.map (·.1), nk e = nk k
  · rw [if_pos c]; exact h
  · rw [if_neg c, List.map_append, List.nodup_append]
    refine ⟨h, by simp, fun a ha b hb => ?_⟩
    obtain ⟨e, he, ee⟩ := List.mem_map.mp ha
    rw [List.map_cons, List.map_nil, List.mem_singleton] at hb
    subst hb
    exact fun z => c ⟨e, he, ee.trans z⟩
theorem mem_putG {α : Type} {B : List (Kd × α)} {k : Kd} {v : α} {e : Kd × α} (h : e ∈ putG B k v) : (e.1 = k ∨ ∃ x ∈ B, x.1 = e.1) ∧ (e.2 = v ∨ ∃ x ∈ B, x.2 = e.2) := by
  induction B with
  | nil =>
    unfold putG at h
    rw [List.mem_singleton] at h
    subst h
    exact ⟨.inl rfl, .inl rfl⟩
  | cons b B ih =>
    obtain ⟨a, u⟩ := b
    unfold putG at h
    by_cases c : nk a = nk k
    · rw [if_pos c] at h
      rcases List.mem_cons.mp h with z | z
      · subst z; exact ⟨.inr ⟨(a, u), by simp, rfl⟩, .inl rfl⟩
      · exact ⟨.inr ⟨e, List.mem_cons_of_mem _ z, rfl⟩, .inr ⟨e, List.mem_cons_of_mem _ z, rfl⟩⟩
    · rw [if_neg c] at h
      rcases List.mem_cons.mp h with z | z
      · subst z; exact ⟨.inr ⟨(a, u), by simp, rfl⟩, .inr ⟨(a, u), by simp, rfl⟩⟩
      · obtain ⟨h1, h2⟩ := ih z
        exact ⟨h1.imp id fun ⟨x, hx, e⟩ => ⟨x, List.mem_cons_of_mem _ hx, e⟩, h2.imp id fun ⟨x, hx, e⟩ => ⟨x, List.mem_cons_of_mem _ hx, e⟩⟩
/-- a short table of keys and data in order -/
structure GoodT (T : List (Kd × PyData)) : Prop where
  nd : (T.map fun e => nk e.1).Nodup
  len : T.length ≤ 8
  keys : ∀ e ∈ T, e.1 ∈ keysL
  vals : ∀ e ∈ T, Sc e.2
theorem merge_good {L : List (Kd × PyData)} (hl : L.length ≤ 8) (h : ∀ e ∈ L, e.1 ∈ keysL ∧ Sc e.2) : GoodT (mergeG [] L) := by
  have gen : ∀ (L B : List (Kd × PyData)), (B.map fun e => nk e.1).Nodup → (∀ e ∈ B, e.1 ∈ keysL ∧ Sc e.2) → (∀ e ∈ L, e.1 ∈ keysL ∧ Sc e.2) →
      ((mergeG B L).map fun e => nk e.1).Nodup ∧ (mergeG B L).length ≤ B.length + L.length ∧ ∀ e ∈ mergeG B L, e.1 ∈ keysL ∧ Sc e.2 := by
    intro L
    induction L with
    | nil => intro B h1 h2 _; exact ⟨h1, by simp [mergeG], h2⟩
    | cons x L ih =>
      intro B h1 h2 h3
      have hx := h3 x (by simp)
      obtain ⟨a, b, c⟩ := ih (putG B x.1 x.2) (nd_putG h1) (fun e he => by
        obtain ⟨z1, z2⟩ := mem_putG he
        refine ⟨?_, ?_⟩
        · rcases z1 with z | ⟨y, hy, z⟩
          · rw [z]; exact hx.1
          · rw [← z]; exact (h2 y hy).1
        · rcases z2 with z | ⟨y, hy, z⟩
          · rw [z]; exact hx.2
          · rw [← z]; exact (h2 y hy).2) fun e he => h3 e (List.mem_cons_of_mem _ he)
      refine ⟨a, ?_, c⟩
      have := len_putG B x.1 x.2
      show (mergeG (putG B x.1 x.2) L).length ≤ _
      rw [List.length_cons]
      omega
  obtain ⟨a, b, c⟩ := gen L [] (by simp) (fun e he => nomatch he) h
  exact ⟨a, by simp at b; omega, fun e he => (c e he).1, fun e he => (c e he).2⟩
theorem GoodT.ok {T : List (Kd × PyData)} (h : GoodT T) : TOk T := ⟨h.nd, by have := h.len; omega, fun e he => (keysL_ok _ (h.keys e he)).sh, fun e he => (keysL_ok _ (h.keys e he)).short⟩
theorem GoodT.flat {T : List (Kd × PyData)} (h : GoodT T) : ∀ e ∈ T, tupD e.2 = true := fun e he => (h.vals e he).flat
theorem kv_parts {T : List (Kd × PyData)} (hk : ∀ e ∈ T, e.1 ∈ keysL) (hv : ∀ e ∈ T, Sc e.2) : PyData.showableKv (T.map fun e => (pd e.1, e.2)) = true ∧ PyData.leavesShortKv 2000 (T.map fun e => (pd e.1, e.2)) = true ∧ PyData.weightKv (T.map fun e => (pd e.1, e.2)) ≤ 252 * T.length ∧ PyData.depthKv (T.map fun e => (pd e.1, e.2)) ≤ 5 := by
  induction T with
  | nil => exact ⟨rfl, rfl, by simp [PyData.weightKv], by simp [PyData.depthKv]⟩
  | cons e T ih =>
    obtain ⟨a, b, c, d⟩ := ih (fun x hx => hk x (List.mem_cons_of_mem _ hx)) fun x hx => hv x (List.mem_cons_of_mem _ hx)
    have k := keysL_ok _ (hk e (by simp))
    have v := hv e (by simp)
    rw [List.map_cons]
    refine ⟨?_, ?_, ?_, ?_⟩
    · rw [PyData.showableKv, a, k.sc.show_, v.show_]; rfl
    · rw [PyData.leavesShortKv, b, k.sc.leaves, v.leaves]; rfl
    · rw [PyData.weightKv, List.length_cons]
      have := k.wt
      have := v.weight
      omega
    · rw [PyData.depthKv]
      have := k.sc.depth
      have := v.depth
      omega
/-- what is_fitting is asked of -/
def GoodN : Near → Prop
  | .dat d => Shows d
  | .tab T => GoodT T
theorem GoodN.shows : ∀ {n : Near}, GoodN n → Shows n.data
  | .dat _, h => h
  | .tab T, h => by
    obtain ⟨a, b, c, d⟩ := kv_parts h.keys h.vals
    have l := h.len
    refine ⟨?_, ?_, ?_, ?_⟩
    · show PyData.showable (.dict _) = true
      rw [PyData.showable]; exact a
    · show PyData.leavesShort 2000 (.dict _) = true
      rw [PyData.leavesShort]; exact b
    · show PyData.weight (.dict _) ≤ 4000
      rw [PyData.weight]; omega
    · show PyData.depth (.dict _) ≤ 60
      rw [PyData.depth]; omega
theorem GoodN.apart {R : List Row} (hR : ∀ p ∈ ptsOf R, p ∈ five) : ∀ {n : Near}, GoodN n → n.apart R
  | .dat _, _ => trivial
  | .tab T, h => fun e he p hp => keysL_apart _ (h.keys e he) p (hR p hp)
theorem near_same {K : PySem.W.Frag} {w : World} {H H' : Hp} (s : Same H H') {v : V} : ∀ {n : Near}, NearV K w H v n → NearV K w H' v n
  | .dat d, h => dp_mono s _ _ h
  | .tab T, ⟨a, e, ⟨xs, hx, pp⟩, to, ht⟩ => ⟨a, e, ⟨xs, s _ _ hx, td_mono (.same s) ht pp⟩, to, ht⟩
theorem td_put {K : PySem.W.Frag} {H : Hp} {k : Kd} {kv v : V} {d : PyData} (hk : KdV K H k kv) (hv : Dp K H v d) {T : List (Kd × PyData)} {xs : List Ent} (p : Paired (TD K H) T xs) : Paired (TD K H) (putG T k d) (putM xs (nk k) kv v) := by
  induction p with
  | nil => exact .cons ⟨rfl, hk, hv⟩ .nil
  | @cons b x B xs h t ih =>
    obtain ⟨a, u⟩ := b
    rw [putM_cons, h.1]
    unfold putG
    by_cases e : nk a = nk k
    · rw [if_pos e, if_pos e]; exact .cons ⟨rfl, h.2.1, hv⟩ t
    · rw [if_neg e, if_neg e]; exact .cons h ih
/-- a pair -/
def PR (K : PySem.W.Frag) (H : Hp) (e : Kd × PyData) (y : V) : Prop := ∃ p kv vv, y = .ref p ∧ SqT K H p [kv, vv] ∧ KdV K H e.1 kv ∧ Dp K H vv e.2
theorem PR.same {K : PySem.W.Frag} {H H' : Hp} (s : Same H H') {e : Kd × PyData} {y : V} (h : PR K H e y) : PR K H' e y := let ⟨p, kv, vv, a, b, c, d⟩ := h; ⟨p, kv, vv, a, Tups.same s _ _ b, c.mono (.same s), dp_mono s _ _ d⟩
theorem merge_td {K : PySem.W.Frag} {H : Hp} {L : List (Kd × PyData)} {ys : List V} (h : Paired (PR K H) L ys) : ∃ es : List Ent, Paired (PairV K H) ys es ∧ Paired (TD K H) (mergeG [] L) (mergeM [] es) := by
  have gen : ∀ {L : List (Kd × PyData)} {ys : List V}, Paired (PR K H) L ys → ∀ (T : List (Kd × PyData)) (xs : List Ent), Paired (TD K H) T xs → ∃ es : List Ent, Paired (PairV K H) ys es ∧ Paired (TD K H) (mergeG T L) (mergeM xs es) := by
    intro L ys h
    induction h with
    | nil => intro T xs p; exact ⟨[], .nil, p⟩
    | @cons e y L ys h _ ih =>
      intro T xs p
      obtain ⟨q, kv, vv, a, b, c, d⟩ := h
      obtain ⟨es, h1, h2⟩ := ih (putG T e.1 e.2) (putM xs (nk e.1) kv vv) (td_put c d p)
      exact ⟨(nk e.1, kv, vv) :: es, .cons ⟨q, a, b, c.key⟩ h1, h2⟩
  exact gen h [] [] .nil
end Fc
namespace Fc
open PySem L2 PyProof.Rows
abbrev asD (T : List (Kd × Int)) : List (Kd × PyData) := T.map fun e => (e.1, .int e.2)
def rDictM (K : PySem.W.Frag) (w : World) : List V → Hp → VK → Prop := fun xs H Q => ∃ (a : Addr) (ys : List V) (es : List Ent), xs = [.ref a] ∧ SqL K H a ys ∧ Paired (PairV K H) ys es ∧ ∀ p, H p = none → Q (.ref p) (upd H p (MD w p (mergeM [] es)))
theorem call_dictR {X : Cx} (hu : X.A.units + 10 < cLine) (hcalm : X.calm = true) : CallR X (.type "dict") (rDictM X.K X.w) := call_dictM hu hcalm
structure Nn (K : PySem.W.Frag) (w : World) (H0 : Hp) (D a : Addr) (T : List (Kd × Int)) (vs : List V) (H : Hp) : Prop where
  but : But D H0 H
  dice : DiceIn H D
  val : TabIs K w (hide D H) a (asV .int T)
  its : ∀ v ∈ vs, ∃ n, NearV K w (hide D H) v n ∧ GoodN n
section
variable {K : PySem.W.Frag} {w : World} {H0 : Hp} {D a : Addr} {T : List (Kd × Int)} {vs : List V} {H : Hp}
theorem Nn.to (h : Nn K w H0 D a T vs H) {H' : Hp} (b : But D H H') (d : DiceIn H' D) : Nn K w H0 D a T vs H' := by
  have s := but_hide b
  exact ⟨h.but.trans b, d, h.val.same s, fun v hv => let ⟨n, h1, h2⟩ := h.its v hv; ⟨n, near_same s h1, h2⟩⟩
theorem Nn.same (h : Nn K w H0 D a T vs H) {H' : Hp} (s : Same H H') : Nn K w H0 D a T vs H' := by
  obtain ⟨x, y, z, e⟩ := h.dice
  exact h.to (same_but s) ⟨x, y, z, s _ _ e⟩
theorem Nn.new (h : Nn K w H0 D a T vs H) {p : Addr} {o : HO} (hp : H p = none) : Nn K w H0 D a T vs (upd H p o) := h.same (same_new hp)
theorem Nn.roll (h : Nn K w H0 D a T vs H) (x y z : Int) : Nn K w H0 D a T vs (upd H D (dicL x y z)) := h.to (But.refl D H).upd ⟨x, y, z, upd_same⟩
theorem Nn.ne (h : Nn K w H0 D a T vs H) {p : Addr} (hp : H p = none) : p ≠ D := fun e => by
  obtain ⟨x, y, z, e2⟩ := h.dice
  rw [e, e2] at hp
  cases hp
theorem Nn.push (h : Nn K w H0 D a T vs H) {v : V} {n : Near} (hv : NearV K w (hide D H) v n) (g : GoodN n) : Nn K w H0 D a T (vs ++ [v]) H := ⟨h.but, h.dice, h.val, fun u hu => by
  rcases List.mem_append.mp hu with z | z
  · exact h.its u z
  · rw [List.mem_singleton.mp z]; exact ⟨n, hv, g⟩⟩
theorem Nn.tab (h : Nn K w H0 D a T vs H) : TabIs K w H a (asV .int T) := h.val.same (hide_sub D H)
/-- dict(l), l a list of pairs -/
theorem Nn.dict (I : Nn K w H0 D a T vs H) {l : Addr} {ys : List V} {L : List (Kd × PyData)} {Q : VK} (hl : H l = some (.lst ys)) (pr : Paired (PR K (hide D H)) L ys) (ll : L.length ≤ 8) (g : ∀ e ∈ L, e.1 ∈ keysL ∧ Sc e.2) (q : ∀ p H', Same H H' → Nn K w H0 D a T (vs ++ [.ref p]) H' → Q (.ref p) H') :
    rDictM K w [V.ref l] H Q := by
  obtain ⟨es, h1, h2⟩ := merge_td pr
  have G := merge_good ll g
  refine ⟨l, ys, es, rfl, .inl (.inl hl), Paired.mapP h1 fun y x ⟨p, e1, e2, e3⟩ => ⟨p, e1, Tups.same (hide_sub D H) _ _ e2, e3.mono (.same (hide_sub D H))⟩, fun p hp => ?_⟩
  have s := same_new (o := MD w p (mergeM [] es)) hp
  have sh := but_hide (D := D) (same_but s)
  refine q p _ s ((I.same s).push (n := .tab (mergeG [] L)) ⟨p, rfl, ⟨_, ?_, td_mono (.same sh) G.flat h2⟩, G.ok, G.flat⟩ G)
  rw [hide_at (I.ne hp)]
  exact upd_same
/-- list(value.items()) -/
theorem Nn.items (I : Nn K w H0 D a T vs H) {σ : L2.St} {Q : VK} (h1 : σ[1]? = some (some (.ref a))) (q : ∀ H' p ys, Same H H' → Nn K w H0 D a T vs H' → H p = none → H' p = some (.lst ys) → Paired (PR K (hide D H')) (asD T) ys → Q (.ref p) H') : tItemsM w (tVar 1) σ H Q := by
  obtain ⟨xs, hx, pp⟩ := I.val
  refine ⟨_, h1, a, xs, rfl, hide_sub D H _ _ hx, fun H' p ts s hp hl pt => ?_⟩
  have I' := I.same s
  refine q H' p _ s I' hp hl ?_
  have sh := but_hide (D := D) (same_but s)
  obtain ⟨xD, yD, zD, eD⟩ := I'.dice
  have gen : ∀ {T : List (Kd × Int)} {xs : List Ent} {ts : List Addr}, Paired (TabR K (hide D H)) (asV .int T) xs → Paired (fun (t : Addr) (x : Ent) => H' t = some (.tup [x.2.1, x.2.2])) ts xs → Paired (PR K (hide D H')) (asD T) (ts.map V.ref) := by
    intro T
    induction T with
    | nil =>
      intro xs ts h1 h2
      cases h1
      cases h2
      exact .nil
    | cons e T ih =>
      intro xs ts h1 h2
      cases h1 with
      | @cons b x B xs g1 g2 =>
        cases h2 with
        | @cons t _ ts _ k1 k2 =>
          refine .cons ⟨t, x.2.1, x.2.2, rfl, .inl (.inl ?_), g1.2.1.mono (.same sh), ?_⟩ (ih g2 k2)
          · rw [hide_at (fun e => by rw [e, eD] at k1; cases k1)]; exact k1
          · rw [g1.2.2]; exact .int _
  exact gen pp pt
theorem dice_sqt {H : Hp} (d : DiceIn H D) {b : Addr} {ys : List V} (h : SqT K H b ys) : SqT K (hide D H) b ys := by
  obtain ⟨x, y, z, eD⟩ := d
  rcases h with (h | ⟨o, h⟩) | h
  · exact .inl (.inl (by rw [hide_at (fun e => by rw [e, eD] at h; cases h)]; exact h))
  · exact .inl (.inr ⟨o, by rw [hide_at (fun e => by rw [e, eD] at h; cases h)]; exact h⟩)
  · exact .inr h
theorem dice_kdv {H : Hp} (d : DiceIn H D) {k : Kd} {v : V} (h : KdV K H k v) : KdV K (hide D H) k v := h.mono fun _ _ s => dice_sqt d s
/-- a list of pairs, by a walk through value -/
theorem Nn.comp (I : Nn K w H0 D a T vs H) {σ : L2.St} {Q : VK} {tt : TT} {te : TE} (c : Kd → Bool) (f : Int → Int) (nd : (T.map fun e => nk e.1).Nodup) (len : T.length ≤ 8) (h1 : σ[1]? = some (some (.ref a))) (h9 : 9 < σ.length)
    (ht : ∀ y p H' Q, p ∈ T.map (·.1) → KdV K H' p y → Tups K H H' → Q (c p) H' → tt ((wipe σ [9]).set 9 (some y)) H' Q)
    (hv : ∀ y p v H' Q, KdV K H' p y → TabRd K w H' a (asV .int T) → lookN (asV .int T) p = some (.int v) → (∀ q, H' q = none → Q (.ref q) (upd H' q (.tup [y, .int (f v)]))) → te ((wipe σ [9]).set 9 (some y)) H' Q)
    (q : ∀ H' l ys, Same H H' → H' l = some (.lst ys) → Paired (PR K (hide D H')) ((T.filter fun e => c e.1).map fun e => (e.1, .int (f e.2))) ys → Q (.ref l) H') :
    tLockE (tLc (iKeyM w (tVar 1)) (gName 9) tt te [9]) σ H Q := by
  obtain ⟨xs, hx, pp⟩ := I.tab
  refine ⟨a, _, hx, True.intro, fun od => ⟨_, h1, a, od, xs, rfl, upd_same, fun L hL => ?_⟩⟩
  have nL : L ≠ a := fun z => by rw [z, upd_same] at hL; cases hL
  have tf : Tups K H (upd H a (.frz od (MD w a xs))) := tups_upd (md_notup hx)
  have ppf := tabR_mono tf pp
  have kx := keys_of_tab ppf
  have lx := paired_len pp
  rw [len_asV] at lx
  have S2 := steady_key (w := w) (d := a) (o := od) (xs := xs)
  rw [← lx] at S2
  have rd : TabRd K w (upd H a (.frz od (MD w a xs))) a (asV .int T) := ⟨xs, ⟨rd_frz, tabR_keys ppf⟩, ppf⟩
  have kat : ∀ k, k < T.length → KdV K (upd H a (.frz od (MD w a xs))) (T.getD k (.no, 0)).1 ((xs.map (·.2.1)).getD k .non) := fun k hk => by
    have h := paired_getD kx (a0 := .no) (b0 := .non) (i := k) (by rw [List.length_map, len_asV]; exact hk)
    have e : ((asV V.int T).map (·.1)).getD k .no = (T.getD k (.no, 0)).1 := by
      rw [keys_asV, List.getD_eq_getElem?_getD, List.getD_eq_getElem?_getD, List.getElem?_map, List.getElem?_eq_getElem hk]; rfl
    rw [e] at h
    exact h
  have look : ∀ k, k < T.length → lookN (asV .int T) (T.getD k (.no, 0)).1 = some (.int (T.getD k (.no, 0)).2) := fun k hk => by
    have hm : T.getD k (.no, 0) ∈ T := by rw [List.getD_eq_getElem?_getD, List.getElem?_eq_getElem hk]; exact List.getElem_mem hk
    rw [lookN_asV]
    generalize T.getD k (.no, 0) = e at hm
    have gen : ∀ {T : List (Kd × Int)}, (T.map fun e => nk e.1).Nodup → e ∈ T → lookG T e.1 = some e.2 := by
      intro T
      induction T with
      | nil => intro _ h; cases h
      | cons x T ih =>
        intro nd h
        obtain ⟨b, u⟩ := x
        rw [List.map_cons, List.nodup_cons] at nd
        rw [lookG_cons]
        rcases List.mem_cons.mp h with z | z
        · subst z; rw [if_pos rfl]
        · rw [if_neg (fun e1 => nd.1 (List.mem_map.mpr ⟨e, z, e1.symm⟩))]
          exact ih nd.2 z
    rw [gen nd hm]
    rfl
  refine lc_gen (K := K) (b := fun k => c (T.getD k (.no, 0)).1) (fun H k y => ∃ q kv, y = .ref q ∧ SqT K H q [kv, .int (f (T.getD k (.no, 0)).2)] ∧ KdV K H (T.getD k (.no, 0)).1 kv) S2 (fun _ _ _ _ t ⟨q, kv, e1, e2, e3⟩ => ⟨q, kv, e1, t _ _ e2, e3.mono t⟩) (fun H' s => s _ _ upd_same) h9 (by omega) hL (fun k H' Q hk s q => ?_) (fun k H' Q hk _ s q => ?_) fun H' ys s hy py => ?_
  · have hm : (T.getD k (.no, 0)).1 ∈ T.map (·.1) := List.mem_map.mpr ⟨_, by rw [List.getD_eq_getElem?_getD, List.getElem?_eq_getElem hk]; exact List.getElem_mem hk, rfl⟩
    exact ht _ _ H' Q hm ((kat k hk).mono (.same s)) (tf.trans (.same s)) q
  · refine hv _ _ _ H' Q ((kat k hk).mono (.same s)) (rd.same s) (look k hk) fun q2 hq2 => ?_
    have s2 := same_new (o := .tup [(xs.map (·.2.1)).getD k .non, .int (f (T.getD k (.no, 0)).2)]) hq2
    exact q _ _ s2 ⟨q2, _, rfl, .inl (.inl upd_same), ((kat k hk).mono (.same s)).mono (.same s2)⟩
  · have tu : Tups K H' (upd H' a (MD w a xs)) := tups_upd (frz_notup (s _ _ upd_same))
    have sH : Same H (upd H' a (MD w a xs)) := fun b o e => by
      by_cases z : b = a
      · rw [z, hx] at e; rw [z, upd_same, e]
      · rw [upd_ne z]
        refine s b o ?_
        rw [upd_ne z]; exact e
    obtain ⟨xD, yD, zD, eD⟩ := I.dice
    have dH : DiceIn (upd H' a (MD w a xs)) D := ⟨xD, yD, zD, sH _ _ eD⟩
    refine ⟨s _ _ upd_same, q _ L ys sH (by rw [upd_ne nL]; exact hy) ?_⟩
    have pf := filt_pairG (c := fun e : Kd × Int => c e.1) (p := fun (e : Kd × Int) (y : V) => ∃ q kv, y = V.ref q ∧ SqT K H' q [kv, .int (f e.2)] ∧ KdV K H' e.1 kv) ((.no, 0) : Kd × Int) py
    generalize T.filter (fun e => c e.1) = F at pf
    clear hy py
    induction pf with
    | nil => exact .nil
    | cons h _ ih =>
      obtain ⟨q, kv, e1, e2, e3⟩ := h
      exact .cons ⟨q, kv, _, e1, dice_sqt dH (tu _ _ e2), dice_kdv dH (e3.mono tu), .int _⟩ ih
end
theorem cb_i {r : List V → Hp → VK → Prop} {t : TA} {σ : L2.St} {H : Hp} {Q : VK} (h : t σ H fun vs H1 => r vs H1 Q) : tCB r t σ H Q := h
theorem cons_i {ta : TE} {tr : TA} {σ : L2.St} {H : Hp} {Q : List V → Hp → Prop} (h : ta σ H fun x H1 => tr σ H1 fun xs H2 => Q (x :: xs) H2) : tCons ta tr σ H Q := h
theorem op_i {r : R2} {ta tb : TE} {σ : L2.St} {H : Hp} {Q : VK} (h : ta σ H fun x H1 => tb σ H1 fun y H2 => r x y H2 Q) : tOp r ta tb σ H Q := h
theorem nil_i {σ : L2.St} {H : Hp} {Q : List V → Hp → Prop} (h : Q [] H) : tNil σ H Q := h
theorem rev_i {K : PySem.W.Frag} {te : TE} {σ : L2.St} {H : Hp} {Q : VK} (h : te σ H fun x H1 => ∃ a xs, x = .ref a ∧ SqL K H1 a xs ∧ ∀ p, H1 p = none → Q (.ref p) (upd H1 p (.lst xs.reverse))) : tRevL K te σ H Q := h
theorem paired_rev {α β : Type} {p : α → β → Prop} {l : List α} {ys : List β} (h : Paired p l ys) : Paired p l.reverse ys.reverse := by
  induction h with
  | nil => exact .nil
  | cons h _ ih => rw [List.reverse_cons, List.reverse_cons]; exact paired_snoc ih h
theorem pr_dp {K : PySem.W.Frag} {H : Hp} {L : List (Kd × PyData)} {ys : List V} (h : Paired (PR K H) L ys) : DpAll K H ys (L.map fun e => .tuple [pd e.1, e.2]) := by
  induction h with
  | nil => exact .nil
  | cons h _ ih =>
    obtain ⟨p, kv, vv, e1, e2, e3, e4⟩ := h
    subst e1
    exact .cons (.tup e2 (.cons e3.dp (.cons e4 .nil))) ih
theorem pairs_show {L : List (Kd × PyData)} (h : ∀ e ∈ L, e.1 ∈ keysL ∧ Sc e.2) : PyData.showableAll (L.map fun e => .tuple [pd e.1, e.2]) = true ∧ PyData.leavesShortAll 2000 (L.map fun e => .tuple [pd e.1, e.2]) = true ∧ PyData.weightAll (L.map fun e => .tuple [pd e.1, e.2]) ≤ 254 * L.length ∧ PyData.depthAll (L.map fun e => .tuple [pd e.1, e.2]) ≤ 6 := by
  induction L with
  | nil => exact ⟨rfl, rfl, by simp [PyData.weightAll], by simp [PyData.depthAll]⟩
  | cons e L ih =>
    obtain ⟨a, b, c, d⟩ := ih fun x hx => h x (List.mem_cons_of_mem _ hx)
    obtain ⟨h1, v⟩ := h e (by simp)
    have k := keysL_ok _ h1
    rw [List.map_cons]
    refine ⟨?_, ?_, ?_, ?_⟩
    · rw [PyData.showableAll, a, PyData.showable, PyData.showableAll, PyData.showableAll, PyData.showableAll, k.sc.show_, v.show_]; rfl
    · rw [PyData.leavesShortAll, b, PyData.leavesShort, PyData.leavesShortAll, PyData.leavesShortAll, PyData.leavesShortAll, k.sc.leaves, v.leaves]; rfl
    · rw [PyData.weightAll, PyData.weight, PyData.weightAll, PyData.weightAll, PyData.weightAll, List.length_cons]
      have := k.wt
      have := v.weight
      omega
    · rw [PyData.depthAll, PyData.depth, PyData.depthAll, PyData.depthAll, PyData.depthAll]
      have := k.sc.depth
      have := v.depth
      omega
theorem pairs_shows {L : List (Kd × PyData)} (hl : L.length ≤ 8) (h : ∀ e ∈ L, e.1 ∈ keysL ∧ Sc e.2) : Shows (.list (L.map fun e => .tuple [pd e.1, e.2])) := by
  obtain ⟨a, b, c, d⟩ := pairs_show h
  refine ⟨?_, ?_, ?_, ?_⟩
  · rw [PyData.showable]; exact a
  · rw [PyData.leavesShort]; exact b
  · rw [PyData.weight]; omega
  · rw [PyData.depth]; omega
theorem tab_td {K : PySem.W.Frag} {H : Hp} {T : List (Kd × Int)} {xs : List Ent} (h : Paired (TabR K H) (asV .int T) xs) : Paired (TD K H) (asD T) xs := by
  induction T generalizing xs with
  | nil => cases h; exact .nil
  | cons e T ih =>
    cases h with
    | cons g1 g2 => exact .cons ⟨g1.1, g1.2.1, by rw [g1.2.2]; exact .int _⟩ (ih g2)
theorem gn_i {i : Nat} {v : V} {σ : L2.St} {H : Hp} {Q : L2.St → Hp → Prop} (h : Q (σ.set i (some v)) H) : gName i v σ H Q := h
/-- what the law's numbers are, as the law draws them -/
structure LNums (T : List (Kd × Int)) : Prop where
  nn : T ≠ []
  nd : (T.map fun e => nk e.1).Nodup
  len : T.length ≤ 5
  keys : ∀ e ∈ T, e.1 ∈ five
  mid : ∀ e ∈ T, midI e.2
def spNearN (K : PySem.W.Frag) (w : World) : Sp := fun vs H Q _ => ∃ (D a : Addr) (T : List (Kd × Int)), vs = [.ref D, .ref a] ∧ DiceIn H D ∧ TabIs K w (hide D H) a (asV .int T) ∧ LNums T ∧
  ∀ H' v n, But D H H' → DiceIn H' D → NearV K w (hide D H') v n → GoodN n → Q v H'
theorem five_keys : ∀ k ∈ five, k ∈ keysL := fun k hk => List.mem_append_left _ hk
theorem mid_num {v : Int} (h : midI v) : numI v ∧ numI (v + 1) ∧ numI (v - 1) := by
  obtain ⟨a, b⟩ := h
  have e : (14800 : Int) * MM < 2 ^ 219 := by decide +kernel
  have e2 : (2 : Int) ^ 219 + 5 < 2 ^ 220 := by decide +kernel
  refine ⟨⟨by omega, by omega⟩, ⟨by omega, by omega⟩, ⟨by omega, by omega⟩⟩
theorem LNums.pairs {T : List (Kd × Int)} (h : LNums T) : ∀ e ∈ asD T, e.1 ∈ keysL ∧ Sc e.2 := fun e he => by
  obtain ⟨x, hx, ex⟩ := List.mem_map.mp he
  rw [← ex]
  exact ⟨five_keys _ (h.keys x hx), Sc.int (mid_num (h.mid x hx)).1⟩
theorem hu10 {n : Nat} (h : n + 70 < cLine) : n + 10 < cLine := by omega
section
variable {K : PySem.W.Frag} {mg : Str → Option Value} {base : Heap} {P : Program} {w : World}
abbrev n35 : List Str := ["_law_dice_here", "_law_value", "_law_key", "_law_odd", "_law_bent", "_law_more", "_law_less", "_law_turned", "_law_shifted", "_law_one"]
theorem sc35 : FnScope n35 ["_law_dice_here", "_law_value"] (defScope (topS 35)) := ⟨rfl, rfl, rfl, by decide +kernel, rfl, by decide +kernel, by decide +kernel⟩
theorem ok35 {f : Addr} {fd : FuncData} (F : Fun K "_law_near_numbers" "_law_near_numbers" (topS 35) f fd) (B : Blt mg) (c29 : Cal P w K mg base 2 "_law_pick" (spPick K w)) : FnOk P w K mg base CX0 3 f fd ["_law_dice_here", "_law_value"] (spNearN K w) := by
  refine F.ok sc35 (fun vs H Q E h => ?_) (fun cdv A outer s H vs Q E hr h => ?_)
  · obtain ⟨D, a, T, rfl, _⟩ := h
    rfl
  · have hu := hu70 hr
    refine ⟨_, pss_cons (ps_set (i := 2) sc35.nd rfl (Or.inr rfl) (pe_c c29 hr (by decide) (by rfl) (pa_cons (pv 0) (pa_cons (pe_callTy (call_listM rfl) (by rfl) B.list boot_list (pa_cons (pv 1) pa_nil)) pa_nil))))
      (pss_cons (ps_set (i := 3) sc35.nd rfl (Or.inl rfl) (pe_c c29 hr (by decide) (by rfl) (pa_cons (pv 0) (pa_cons (pe_lst (pa_cons pe_non (pa_cons pe_bl (pa_cons pe_str (pa_cons (pe_tup (pa_cons pe_int pa_nil)) (pa_cons (pe_op op_add (pe_ix (ix_md (hu9 hu)) (pv 1) (pv 2) (fun _ _ => rfl)) pe_int)
        (pa_cons (pe_op op_sub (pe_ix (ix_md (hu9 hu)) (pv 1) (pv 2) (fun _ _ => rfl)) pe_int) (pa_cons (pe_op op_pow pe_int pe_int) (pa_cons pe_int pa_nil))))))))) pa_nil))))
      (pss_cons (ps_set (i := 4) sc35.nd rfl (Or.inl rfl) (pe_callTy (r := rDictM K w) (call_dictR (hu10 hu) rfl) (by rfl) B.dict boot_dict (pa_cons (pe_op op_cat (pe_itemsM rfl (pv 1) (by rfl) B.list boot_list) (pe_lst (pa_cons (pe_tup (pa_cons (pv 2) (pa_cons (pv 3) pa_nil))) pa_nil))) pa_nil)))
      (pss_cons (ps_set (i := 5) sc35.nd rfl (Or.inl rfl) (pe_callTy (r := rDictM K w) (call_dictR (hu10 hu) rfl) (by rfl) B.dict boot_dict (pa_cons (pe_op op_cat (pe_itemsM rfl (pv 1) (by rfl) B.list boot_list) (pe_lst (pa_cons (pe_tup (pa_cons (pe_c c29 hr (by decide) (by rfl) (pa_cons (pv 0) (pa_cons (pe_lst (pa_cons pe_str (pa_cons pe_str
          (pa_cons (pe_tup (pa_cons pe_str (pa_cons pe_str (pa_cons pe_int pa_nil)))) (pa_cons (pe_tup (pa_cons pe_str (pa_cons pe_str (pa_cons pe_bl pa_nil)))) (pa_cons pe_int (pa_cons pe_non pa_nil))))))) pa_nil))) (pa_cons pe_int pa_nil))) pa_nil))) pa_nil)))
      (pss_cons (ps_set (i := 6) sc35.nd rfl (Or.inl rfl) (pe_callTy (r := rDictM K w) (call_dictR (hu10 hu) rfl) (by rfl) B.dict boot_dict (pa_cons (pe_lock (pe_lc (own := [("_law_one", 9)]) (g := gName 9) (by rfl) sc35.nd (pi_keyM (pv 1)) (blkOk_by (N := n35) (sc := defScope (topS 35)) (by decide +kernel)) (fun _ _ _ _ _ => pg_name (i := 9) sc35.nd rfl (Or.inl rfl))
          (fun _ _ _ _ _ => pts_one (pt_cmpR (r := rNeD K) (op_neD (hu64 hu)) (pv 9) (pv 2) (nomark _))) (fun _ _ _ _ _ => pe_tup (pa_cons (pv 9) (pa_cons (pe_ix (r := rIxM K w) (ix_md (hu9 hu)) (pv 1) (pv 9) (fun _ _ => rfl)) pa_nil))))) pa_nil)))
      (pss_cons (ps_set (i := 7) sc35.nd rfl (Or.inl rfl) (pe_callTy (r := rDictM K w) (call_dictR (hu10 hu) rfl) (by rfl) B.dict boot_dict (pa_cons (pe_revL (pe_itemsM rfl (pv 1) (by rfl) B.list boot_list)) pa_nil)))
      (pss_cons (ps_set (i := 8) sc35.nd rfl (Or.inl rfl) (pe_callTy (r := rDictM K w) (call_dictR (hu10 hu) rfl) (by rfl) B.dict boot_dict (pa_cons (pe_lock (pe_lc (own := [("_law_one", 9)]) (g := gName 9) (by rfl) sc35.nd (pi_keyM (pv 1)) (blkOk_by (N := n35) (sc := defScope (topS 35)) (by decide +kernel)) (fun _ _ _ _ _ => pg_name (i := 9) sc35.nd rfl (Or.inl rfl))
          (fun _ _ _ _ _ => pts_nil) (fun _ _ _ _ _ => pe_tup (pa_cons (pv 9) (pa_cons (pe_op (r := rI0 fun i j => .int (i + j)) op_add (pe_ix (r := rIxM K w) (ix_md (hu9 hu)) (pv 1) (pv 9) (fun _ _ => rfl)) pe_int) pa_nil))))) pa_nil)))
      (pss_one (ps_ret (pe_c c29 hr (by decide) (by rfl) (pa_cons (pv 0) (pa_cons (pe_lst (pa_cons (pv 4) (pa_cons (pv 4) (pa_cons (pv 4) (pa_cons (pv 5) (pa_cons (pv 6) (pa_cons (pv 7) (pa_cons (pv 8) (pa_cons (pe_itemsM rfl (pv 1) (by rfl) B.list boot_list) (pa_cons (pv 3) (pa_cons (pv 1) pa_nil))))))))))) pa_nil))))))))))), ?_⟩
    obtain ⟨D, a, T, rfl, hD, hv, ln, q⟩ := h
    have sl : sizeLine = 16777216 := sizeLine_eq
    have len : ∀ {n : Nat}, n ≤ 1000 → n ≤ sizeLine := fun h => by rw [sl]; omega
    have I0 : Nn K w H D a T [] H := ⟨But.refl D H, hD, hv, fun v hv => nomatch hv⟩
    -- the key
    obtain ⟨xs, ta, pp⟩ := I0.tab.at
    have kx := keys_of_tab pp
    rw [keys_asV] at kx
    have lx := paired_len kx
    rw [List.length_map, List.length_map] at lx
    refine ⟨_, rfl, _, rfl, a, xs, rfl, ta, fun p0 hp0 => ?_⟩
    have s0 := same_new (o := .lst (xs.map (·.2.1))) hp0
    have n0 := I0.ne hp0
    have I1 := I0.new (o := .lst (xs.map (·.2.1))) hp0
    obtain ⟨x1, y1, z1, e1⟩ := I1.dice
    refine ⟨D, p0, xs.map (·.2.1), x1, y1, z1, rfl, .inl (.inl upd_same), n0, ?_, ?_, e1, fun kv xA yA zA hkv => ?_⟩
    · intro z
      rw [List.map_eq_nil_iff.mp z] at lx
      exact ln.nn (List.length_eq_zero_iff.mp lx)
    · rw [List.length_map]
      have := ln.len
      omega
    obtain ⟨kk, hkk, kkv⟩ := paired_mem kx hkv
    have k5 : kk ∈ five := by
      obtain ⟨e, he, ee⟩ := List.mem_map.mp hkk
      rw [← ee]; exact ln.keys e he
    have KO := keysL_ok kk (five_keys kk k5)
    have I2 := I1.roll xA yA zA
    have k2 : KdV K (hide D (upd (upd H p0 (.lst (xs.map (·.2.1)))) D (dicL xA yA zA))) kk kv := (dice_kdv hD kkv).mono (.same (but_hide I2.but))
    generalize upd (upd H p0 (.lst (xs.map (·.2.1)))) D (dicL xA yA zA) = H2 at I2 k2
    clear I1 e1 n0 s0 hkv kkv kx lx ta pp hp0
    -- odd
    have e7 : ∃ v, lookN (asV .int T) kk = some (.int v) ∧ midI v := by
      have h := (lookG_some_iff T kk).mpr ⟨kk, hkk, rfl⟩
      rw [lookN_asV]
      unfold lookG at h ⊢
      cases q : T.find? fun e => decide (nk e.1 = nk kk) with
      | none => rw [q] at h; cases h
      | some e => exact ⟨e.2, rfl, ln.mid e (List.mem_of_find?_eq_some q)⟩
    obtain ⟨kvv, lkv, mkv⟩ := e7
    have sub2 := Tups.same (K := K) (hide_sub D H2)
    refine ⟨_, rfl, len (by simp), fun t0 ht0 => ?_⟩
    have s3 := same_new (o := .tup [.int 0]) ht0
    have I3 := I2.new (o := .tup [.int 0]) ht0
    have k3 := k2.mono (K := K) (.same (but_hide (D := D) (same_but s3)))
    have t03 : SqT K (hide D (upd H2 t0 (.tup [.int 0]))) t0 [.int 0] := .inl (.inl (by rw [hide_at (I2.ne ht0)]; exact upd_same))
    generalize upd H2 t0 (.tup [.int 0]) = H3 at I3 k3 t03
    have k3' := k3.mono (K := K) (.same (hide_sub D H3))
    refine ⟨_, rfl, _, rfl, ix_tab I3.tab k3' lkv ⟨_, _, rfl, rfl, _, rfl, _, rfl, ix_tab I3.tab k3' lkv ⟨_, _, rfl, rfl, 10, 63, rfl, rfl, ⟨by decide, by decide, by decide⟩, len (by simp), fun p1 hp1 => ?_⟩⟩⟩
    have s4 := same_new (o := .lst [.non, .bl true, .str "0", .ref t0, .int (kvv + 1), .int (kvv - 1), .int (10 ^ Int.toNat 63), .int 0]) hp1
    have I4 := I3.new (o := .lst [.non, .bl true, .str "0", .ref t0, .int (kvv + 1), .int (kvv - 1), .int (10 ^ Int.toNat 63), .int 0]) hp1
    obtain ⟨x4, y4, z4, e4⟩ := I4.dice
    refine ⟨D, p1, _, x4, y4, z4, rfl, .inl (.inl upd_same), I3.ne hp1, by simp, by simp, e4, fun odd xB yB zB hodd => ?_⟩
    have I5 := I4.roll xB yB zB
    have sh5 : Same (hide D H3) (hide D (upd (upd H3 p1 (.lst [.non, .bl true, .str "0", .ref t0, .int (kvv + 1), .int (kvv - 1), .int (10 ^ Int.toNat 63), .int 0])) D (dicL xB yB zB))) := but_hide ((same_but s4).trans (But.refl D _).upd)
    have k5v := k3.mono (K := K) (.same sh5)
    have t05 := Tups.same (K := K) sh5 _ _ t03
    generalize upd (upd H3 p1 (.lst [.non, .bl true, .str "0", .ref t0, .int (kvv + 1), .int (kvv - 1), .int (10 ^ Int.toNat 63), .int 0])) D (dicL xB yB zB) = H5 at I5 sh5 k5v t05
    obtain ⟨m1, m2, m3⟩ := mid_num mkv
    obtain ⟨od, dod, sod⟩ : ∃ od, Dp K (hide D H5) odd od ∧ Sc od := by
      simp only [List.mem_cons, List.not_mem_nil, or_false] at hodd
      rcases hodd with e | e | e | e | e | e | e | e <;> subst e
      · exact ⟨.none, .non, Sc.none⟩
      · exact ⟨.bool true, .bl true, Sc.bool _⟩
      · exact ⟨.str "0", .str "0", scStr0⟩
      · exact ⟨.tuple [.int 0], .tup t05 (.cons (.int 0) .nil), scT0⟩
      · exact ⟨.int (kvv + 1), .int _, Sc.int m2⟩
      · exact ⟨.int (kvv - 1), .int _, Sc.int m3⟩
      · exact ⟨.int (10 ^ Int.toNat 63), .int _, Sc.int ⟨by decide +kernel, by decide +kernel⟩⟩
      · exact ⟨.int 0, .int _, Sc.int ⟨by decide, by decide⟩⟩
    clear t05 sh5 hodd I4 e4 s4 hp1 k3' k3 t03 I3 s3 ht0 sub2 k2 I2
    have lT := ln.len
    have lD : (asD T).length = T.length := List.length_map _
    -- bent
    refine gn_i ?_
    dsimp only
    refine seq_i (cb_i (cons_i (op_i (I5.items rfl fun H6 p6 ys6 s6 I6 hp6 hl6 pr6 => ?_))))
    have dk6 := k5v.mono (K := K) (.same (but_hide (D := D) (same_but s6)))
    have do6 := dp_mono (but_hide (D := D) (same_but s6)) _ _ dod
    refine ⟨_, rfl, _, rfl, len (by simp), fun q6 hq6 => ⟨len (by simp), fun l6 hl6b => ?_⟩⟩
    have s7 := (same_new (o := .tup [kv, odd]) hq6).trans (same_new (o := .lst [V.ref q6]) hl6b)
    have sq6 : (upd (upd H6 q6 (.tup [kv, odd])) l6 (.lst [V.ref q6])) q6 = some (.tup [kv, odd]) := same_new hl6b _ _ upd_same
    have sl6 : (upd (upd H6 q6 (.tup [kv, odd])) l6 (.lst [V.ref q6])) l6 = some (.lst [V.ref q6]) := upd_same
    have I7 := I6.same s7
    have nq6 := I6.ne hq6
    have pr7 := Paired.mapP pr6 fun _ _ h => h.same (but_hide (D := D) (same_but s7))
    have dk7 := dk6.mono (K := K) (.same (but_hide (D := D) (same_but s7)))
    have do7 := dp_mono (but_hide (D := D) (same_but s7)) _ _ do6
    have hl7 := s7 _ _ hl6
    generalize upd (upd H6 q6 (.tup [kv, odd])) l6 (.lst [V.ref q6]) = H7 at I7 pr7 dk7 do7 hl7 sq6 sl6 s7
    have sq7 : PR K (hide D H7) (kk, od) (.ref q6) := ⟨q6, kv, odd, rfl, .inl (.inl (by rw [hide_at nq6]; exact sq6)), dk7, do7⟩
    have ly6 := paired_len pr7
    rw [lD] at ly6
    refine ⟨p6, l6, ys6, [V.ref q6], rfl, rfl, hl7, sl6, by rw [sl]; simp only [List.length_cons, List.length_nil]; omega, fun p8 hp8 => ?_⟩
    have s8 := same_new (o := .lst (ys6 ++ [V.ref q6])) hp8
    have I8 := I7.same s8
    have pr8 : Paired (PR K (hide D (upd H7 p8 (.lst (ys6 ++ [V.ref q6]))))) (asD T ++ [(kk, od)]) (ys6 ++ [V.ref q6]) := paired_snoc (Paired.mapP pr7 fun _ _ h => h.same (but_hide (D := D) (same_but s8))) (sq7.same (but_hide (D := D) (same_but s8)))
    have h8l : (upd H7 p8 (.lst (ys6 ++ [V.ref q6]))) p8 = some (.lst (ys6 ++ [V.ref q6])) := upd_same
    have sh8 : Same (hide D H5) (hide D (upd H7 p8 (.lst (ys6 ++ [V.ref q6])))) := but_hide (same_but ((s6.trans s7).trans s8))
    generalize upd H7 p8 (.lst (ys6 ++ [V.ref q6])) = H8 at I8 pr8 h8l sh8
    have do8 := dp_mono sh8 _ _ dod
    have dk8 := k5v.mono (K := K) (.same sh8)
    clear s8 s7 sq6 sl6 I7 nq6 pr7 dk7 do7 hl7 sq7 ly6 I6 hl6 pr6 dk6 do6 s6 hp6 hq6 hl6b hp8 dod k5v I5 sh8
    refine nil_i (I8.dict h8l pr8 (by rw [List.length_append, lD]; simp only [List.length_cons, List.length_nil]; omega) (fun e he => by
      rcases List.mem_append.mp he with z | z
      · exact ln.pairs e z
      · rw [List.mem_singleton.mp z]; exact ⟨five_keys _ k5, sod⟩) fun pb H9 s9 I9 => ?_)
    have do9 := dp_mono (but_hide (D := D) (same_but s9)) _ _ do8
    have dk9 := dk8.mono (K := K) (.same (but_hide (D := D) (same_but s9)))
    clear s9 I8 pr8 h8l do8 dk8
    -- more
    refine gn_i (seq_i (cb_i (cons_i (op_i (I9.items rfl fun H10 p10 ys10 s10 I10 hp10 hl10 pr10 => ?_)))))
    refine ⟨_, rfl, len (by simp), fun t1 ht1 => ⟨len (by simp), fun t2 ht2 => ⟨len (by simp), fun l3 hl3 => ?_⟩⟩⟩
    have sA := same_new (o := .tup [.str "a", .str "i", .int 7]) ht1
    have sB := same_new (o := .tup [.str "a", .str "i", .bl true]) ht2
    have sC := same_new (o := .lst [.str "far", .str "*9", .ref t1, .ref t2, .int 0, .non]) hl3
    have nt1 := I10.ne ht1
    have nt2 := (I10.same sA).ne ht2
    have nl3 := ((I10.same sA).same sB).ne hl3
    have a1 : (upd (upd (upd H10 t1 (.tup [.str "a", .str "i", .int 7])) t2 (.tup [.str "a", .str "i", .bl true])) l3 (.lst [.str "far", .str "*9", .ref t1, .ref t2, .int 0, .non])) t1 = some (.tup [.str "a", .str "i", .int 7]) := sC _ _ (sB _ _ upd_same)
    have a2 : (upd (upd (upd H10 t1 (.tup [.str "a", .str "i", .int 7])) t2 (.tup [.str "a", .str "i", .bl true])) l3 (.lst [.str "far", .str "*9", .ref t1, .ref t2, .int 0, .non])) t2 = some (.tup [.str "a", .str "i", .bl true]) := sC _ _ upd_same
    have a3 : (upd (upd (upd H10 t1 (.tup [.str "a", .str "i", .int 7])) t2 (.tup [.str "a", .str "i", .bl true])) l3 (.lst [.str "far", .str "*9", .ref t1, .ref t2, .int 0, .non])) l3 = some (.lst [.str "far", .str "*9", .ref t1, .ref t2, .int 0, .non]) := upd_same
    have sABC := (sA.trans sB).trans sC
    have I11 := I10.same sABC
    generalize upd (upd (upd H10 t1 (.tup [.str "a", .str "i", .int 7])) t2 (.tup [.str "a", .str "i", .bl true])) l3 (.lst [.str "far", .str "*9", .ref t1, .ref t2, .int 0, .non]) = H11 at I11 sABC a1 a2 a3
    obtain ⟨x4, y4, z4, e4⟩ := I11.dice
    refine ⟨D, l3, _, x4, y4, z4, rfl, .inl (.inl a3), nl3, by simp, by simp, e4, fun kv2 xB yB zB hkv2 => ?_⟩
    have I12 := I11.roll xB yB zB
    have b12 : But D H10 (upd H11 D (dicL xB yB zB)) := (same_but sABC).trans (But.refl D _).upd
    have a1' : SqT K (hide D (upd H11 D (dicL xB yB zB))) t1 [.str "a", .str "i", .int 7] := .inl (.inl (by rw [hide_at nt1, upd_ne nt1]; exact a1))
    have a2' : SqT K (hide D (upd H11 D (dicL xB yB zB))) t2 [.str "a", .str "i", .bl true] := .inl (.inl (by rw [hide_at nt2, upd_ne nt2]; exact a2))
    generalize upd H11 D (dicL xB yB zB) = H12 at I12 b12 a1' a2'
    obtain ⟨k2, hk2, kkv2⟩ : ∃ k ∈ keysL, KdV K (hide D H12) k kv2 := by
      simp only [List.mem_cons, List.not_mem_nil, or_false] at hkv2
      rcases hkv2 with e | e | e | e | e | e <;> subst e
      · exact ⟨.w "far", by decide +kernel, rfl⟩
      · exact ⟨.w "*9", by decide +kernel, rfl⟩
      · exact ⟨.c "a" "i" 7, by decide +kernel, t1, rfl, a1'⟩
      · exact ⟨.cb "a" "i" true, by decide +kernel, t2, rfl, a2'⟩
      · exact ⟨.n 0, by decide +kernel, rfl⟩
      · exact ⟨.no, by decide +kernel, rfl⟩
    refine ⟨len (by simp), fun q6 hq6 => ⟨len (by simp), fun l6 hl6b => ?_⟩⟩
    have s7 := (same_new (o := .tup [kv2, .int 0]) hq6).trans (same_new (o := .lst [V.ref q6]) hl6b)
    have sq6 : (upd (upd H12 q6 (.tup [kv2, .int 0])) l6 (.lst [V.ref q6])) q6 = some (.tup [kv2, .int 0]) := same_new hl6b _ _ upd_same
    have sl6 : (upd (upd H12 q6 (.tup [kv2, .int 0])) l6 (.lst [V.ref q6])) l6 = some (.lst [V.ref q6]) := upd_same
    have nq6 := I12.ne hq6
    have np10 : p10 ≠ D := I9.ne hp10
    have b13 := b12.same s7
    have I13 := I12.same s7
    have kkv3 := kkv2.mono (K := K) (.same (but_hide (D := D) (same_but s7)))
    generalize upd (upd H12 q6 (.tup [kv2, .int 0])) l6 (.lst [V.ref q6]) = H13 at I13 sq6 sl6 s7 b13 kkv3
    have pr13 := Paired.mapP pr10 fun _ _ h => h.same (but_hide b13)
    have sq7 : PR K (hide D H13) (k2, .int 0) (.ref q6) := ⟨q6, kv2, _, rfl, .inl (.inl (by rw [hide_at nq6]; exact sq6)), kkv3, .int 0⟩
    have ly6 := paired_len pr13
    rw [lD] at ly6
    refine ⟨p10, l6, ys10, [V.ref q6], rfl, rfl, b13 _ _ np10 hl10, sl6, by rw [sl]; simp only [List.length_cons, List.length_nil]; omega, fun p8 hp8 => ?_⟩
    have s8 := same_new (o := .lst (ys10 ++ [V.ref q6])) hp8
    have I14 := I13.same s8
    have pr14 : Paired (PR K (hide D (upd H13 p8 (.lst (ys10 ++ [V.ref q6]))))) (asD T ++ [(k2, .int 0)]) (ys10 ++ [V.ref q6]) := paired_snoc (Paired.mapP pr13 fun _ _ h => h.same (but_hide (D := D) (same_but s8))) (sq7.same (but_hide (D := D) (same_but s8)))
    have h14l : (upd H13 p8 (.lst (ys10 ++ [V.ref q6]))) p8 = some (.lst (ys10 ++ [V.ref q6])) := upd_same
    have sh14 : Same (hide D H9) (hide D (upd H13 p8 (.lst (ys10 ++ [V.ref q6])))) := but_hide ((same_but s10).trans (b13.same s8))
    generalize upd H13 p8 (.lst (ys10 ++ [V.ref q6])) = H14 at I14 pr14 h14l sh14
    have do14 := dp_mono sh14 _ _ do9
    have dk14 := dk9.mono (K := K) (.same sh14)
    clear s8 sq6 sl6 I13 nq6 pr13 sq7 ly6 I12 kkv3 kkv2 b13 b12 a1' a2' hkv2 I11 e4 a1 a2 a3 sABC nt1 nt2 nl3 sA sB sC ht1 ht2 hl3 I10 hp10 hl10 pr10 s10 I9 do9 dk9 sh14 s7 hq6 hl6b hp8 np10
    refine nil_i (I14.dict h14l pr14 (by rw [List.length_append, lD]; simp only [List.length_cons, List.length_nil]; omega) (fun e he => by
      rcases List.mem_append.mp he with z | z
      · exact ln.pairs e z
      · rw [List.mem_singleton.mp z]; exact ⟨hk2, Sc.int ⟨by decide, by decide⟩⟩) fun pm H15 s15 I15 => ?_)
    have do15 := dp_mono (but_hide (D := D) (same_but s15)) _ _ do14
    have dk15 := dk14.mono (K := K) (.same (but_hide (D := D) (same_but s15)))
    clear s15 I14 pr14 h14l do14 dk14
    -- less
    have dkr := dk15.mono (K := K) (.same (hide_sub D H15))
    refine gn_i (seq_i (cb_i (cons_i (I15.comp (c := fun p => !eqK p kk) (f := id) ln.nd (by omega) rfl (by exact (by decide : 9 < 10)) (fun y p H' Q hp ky t q => ?_) (fun y p v H' Q ky rd lk q => ?_) fun H16 l16 ys16 s16 hl16 pr16 => ?_))))
    · obtain ⟨e, he, ee⟩ := List.mem_map.mp hp
      exact ⟨_, rfl, _, rfl, ky.dq (dkr.mono t) (keysL_ok _ (five_keys _ (by rw [← ee]; exact ln.keys e he))).sh KO.sh ⟨_, rfl, q⟩⟩
    · exact ⟨_, rfl, _, rfl, _, rfl, ix_rd rd ky lk ⟨len (by simp), q⟩⟩
    have I16 := I15.same s16
    have do16 := dp_mono (but_hide (D := D) (same_but s16)) _ _ do15
    clear s16 I15 do15 dk15 dkr
    refine nil_i (I16.dict hl16 pr16 (by rw [List.length_map]; exact Nat.le_trans (List.length_filter_le _ _) (by omega)) (fun e he => by
      obtain ⟨x, hx, ex⟩ := List.mem_map.mp he
      have hx2 := (List.mem_filter.mp hx).1
      rw [← ex]
      exact ⟨five_keys _ (ln.keys x hx2), Sc.int (mid_num (ln.mid x hx2)).1⟩) fun pl H17 s17 I17 => ?_)
    have do17 := dp_mono (but_hide (D := D) (same_but s17)) _ _ do16
    clear s17 I16 pr16 hl16 do16
    -- turned
    refine gn_i (seq_i (cb_i (cons_i (rev_i (I17.items rfl fun H18 p18 ys18 s18 I18 hp18 hl18 pr18 => ⟨p18, ys18, rfl, .inl (.inl hl18), fun p19 hp19 => ?_⟩)))))
    have s19 := same_new (o := .lst ys18.reverse) hp19
    have I19 := I18.same s19
    have pr19 : Paired (PR K (hide D (upd H18 p19 (.lst ys18.reverse)))) (asD T).reverse ys18.reverse := paired_rev (Paired.mapP pr18 fun _ _ h => h.same (but_hide (D := D) (same_but s19)))
    have do19 := dp_mono (but_hide (D := D) (same_but (s18.trans s19))) _ _ do17
    have hl19 : (upd H18 p19 (.lst ys18.reverse)) p19 = some (.lst ys18.reverse) := upd_same
    generalize upd H18 p19 (.lst ys18.reverse) = H19 at I19 pr19 do19 hl19
    clear s19 s18 I18 I17 do17 hp18 hl18 pr18 hp19
    refine nil_i (I19.dict hl19 pr19 (by rw [List.length_reverse, lD]; omega) (fun e he => ln.pairs e (List.mem_reverse.mp he)) fun pt H20 s20 I20 => ?_)
    have do20 := dp_mono (but_hide (D := D) (same_but s20)) _ _ do19
    clear s20 I19 pr19 hl19 do19
    -- shifted
    refine gn_i (seq_i (cb_i (cons_i (I20.comp (c := fun _ => true) (f := fun v => v + 1) ln.nd (by omega) rfl (by exact (by decide : 9 < 10)) (fun y p H' Q hp ky t q => q) (fun y p v H' Q ky rd lk q => ?_) fun H21 l21 ys21 s21 hl21 pr21 => ?_))))
    · exact ⟨_, rfl, _, rfl, _, rfl, ix_rd rd ky lk ⟨_, _, rfl, rfl, len (by simp), q⟩⟩
    have I21 := I20.same s21
    have do21 := dp_mono (but_hide (D := D) (same_but s21)) _ _ do20
    clear s21 I20 do20
    refine nil_i (I21.dict hl21 pr21 (by rw [List.length_map]; exact Nat.le_trans (List.length_filter_le _ _) (by omega)) (fun e he => by
      obtain ⟨x, hx, ex⟩ := List.mem_map.mp he
      have hx2 := (List.mem_filter.mp hx).1
      rw [← ex]
      exact ⟨five_keys _ (ln.keys x hx2), Sc.int (mid_num (ln.mid x hx2)).2.1⟩) fun ps H22 s22 I22 => ?_)
    have do22 := dp_mono (but_hide (D := D) (same_but s22)) _ _ do21
    clear s22 I21 pr21 hl21 do21
    refine gn_i ?_
    have gT : GoodT (asD T) := by
      refine ⟨?_, by rw [lD]; omega, fun e he => (ln.pairs e he).1, fun e he => (ln.pairs e he).2⟩
      have e : ((asD T).map fun e => nk e.1) = T.map fun e => nk e.1 := by rw [List.map_map]; rfl
      rw [e]
      exact ln.nd
    refine ⟨_, rfl, _, rfl, _, rfl, _, rfl, _, rfl, _, rfl, _, rfl, _, rfl, ?_⟩
    refine I22.items rfl fun H23 p23 ys23 s23 I23 hp23 hl23 pr23 => ⟨_, rfl, _, rfl, len (by simp), fun pz hpz => ?_⟩
    have do23 := dp_mono (but_hide (D := D) (same_but s23)) _ _ do22
    have n23 : p23 ≠ D := I22.ne hp23
    have J1 := I23.push (v := .ref p23) (n := .dat (.list ((asD T).map fun e : Kd × PyData => .tuple [pd e.1, e.2]))) (.lst (.inl (.inl (by rw [hide_at n23]; exact hl23))) (pr_dp pr23)) (pairs_shows (by rw [lD]; omega) ln.pairs)
    have J2 := J1.push (v := odd) (n := .dat od) do23 sod.shows
    have J3 := J2.push (v := .ref a) (n := .tab (asD T)) (by
      obtain ⟨xs, hx, pp⟩ := J2.val
      exact ⟨a, rfl, ⟨xs, hx, tab_td pp⟩, gT.ok, gT.flat⟩) gT
    have J4 := J3.new (o := .lst [V.ref pb, V.ref pb, V.ref pb, V.ref pm, V.ref pl, V.ref pt, V.ref ps, V.ref p23, odd, V.ref a]) hpz
    obtain ⟨xF, yF, zF, eF⟩ := J4.dice
    refine ⟨D, pz, _, xF, yF, zF, rfl, .inl (.inl upd_same), J3.ne hpz, by simp, by simp, eF, fun v x9 y9 z9 hv9 => ?_⟩
    have J5 := J4.roll x9 y9 z9
    obtain ⟨n, h1, h2⟩ := J5.its v (by
      simp only [List.nil_append, List.cons_append, List.append_assoc, List.mem_cons, List.not_mem_nil, or_false] at hv9 ⊢
      rcases hv9 with e | e | e | e | e | e | e | e | e | e <;> simp [e])
    exact q _ v n J5.but J5.dice h1 h2
end
end Fc
namespace Fc
open PySem L2 PyProof.Rows
def ToldV (K : PySem.W.Frag) (w : World) (R : List Row) (H : Hp) (v : V) : Prop := v = .non ∨ ∃ D T, v = .ref D ∧ TabIs K w H D (asV .int T) ∧ T ≠ [] ∧ (T.map fun e => nk e.1).Nodup ∧ (∀ e ∈ T, e.1 ∈ ptsOf R) ∧ ∀ e ∈ T, midI e.2
def MetV (K : PySem.W.Frag) (R : List Row) (H : Hp) (v : V) : Prop := v = .non ∨ ∃ (p : Addr) (js : List Nat), v = .ref p ∧ SqT K H p (js.map natV) ∧ js ≠ [] ∧ js.length ≤ 200 ∧ ∀ j ∈ js, j < R.length
section
variable {K : PySem.W.Frag} {w : World}
theorem ToldV.same {R : List Row} {H H' : Hp} (s : Same H H') {v : V} (h : ToldV K w R H v) : ToldV K w R H' v := h.imp id fun ⟨D, T, e, t, r⟩ => ⟨D, T, e, t.same s, r⟩
theorem fit_i {t : Addr} {R : List Row} {H : Hp} {Q : VK} {E : XK} (rt : RowsT K H R t) (ro : RowsOk R) (q : ∀ v H', Same H H' → ToldV K w R H' v → Q v H') : spFit K w [.ref t] H Q E :=
  ⟨t, R, rfl, rt, ro, fun H' s => q _ H' s (.inl rfl), fun D H' T s _ tb h1 h2 h3 h4 => q _ H' s (.inr ⟨D, T, rfl, tb, h1, h2, h3, h4⟩)⟩
theorem ring_i {t : Addr} {R : List Row} {H : Hp} {Q : VK} {E : XK} (rt : RowsT K H R t) (ro : RowsOk R) (q : ∀ v H', Same H H' → MetV K R H' v → Q v H') : spRing K w [.ref t] H Q E :=
  ⟨t, R, rfl, rt, ro, fun H' s => q _ H' s (.inl rfl), fun p H' js s _ h1 h2 h3 h4 => q _ H' s (.inr ⟨p, js, rfl, .inl (.inl h4), h1, h2, h3⟩)⟩
def OneV (K : PySem.W.Frag) (H : Hp) (c : Addr) (js : List Nat) : Prop := SqT K H c (js.map natV) ∧ js ≠ [] ∧ js.length ≤ 200 ∧ ∀ j ∈ js, j < 20
theorem chain_i {R : List Row} {H : Hp} {σ : L2.St} {v : V} {Q : VK} (h3 : σ[3]? = some (some v)) (m : MetV K R H v) (hR : R.length ≤ 20) (q : ∀ c js H', Same H H' → OneV K H' c js → Q (.ref c) H') :
    tIf (tTest (tOp (fun x y H Q => y = .non ∧ Q (.bl (!decide (x = .non))) H) (tVar 3) (tC .non))) (tVar 3) (tTup (tCons (tC (.int 0)) tNil)) σ H Q := by
  rcases m with e | ⟨p, js, e, s, n, l, b⟩
  · subst e
    refine ⟨_, h3, rfl, _, rfl, iteF ⟨by rw [sizeLine_eq]; exact (by decide : 1 ≤ 16777216), fun c hc => ?_⟩⟩
    exact q c [0] _ (same_new hc) ⟨.inl (.inl upd_same), by simp, by simp, by simp⟩
  · subst e
    refine ⟨_, h3, rfl, _, rfl, iteT ⟨_, h3, q p js H (Same.refl H) ⟨s, n, l, fun j hj => Nat.lt_of_lt_of_le (b j hj) hR⟩⟩⟩
theorem nums_i {R : List Row} {H : Hp} {σ : L2.St} {v : V} {Q : VK} (h2 : σ[2]? = some (some v)) (m : ToldV K w R H v) (hR : ∀ p ∈ ptsOf R, p ∈ five) (q : ∀ c T H', Same H H' → TabIs K w H' c (asV .int T) → LNums T → Q (.ref c) H') :
    tIf (tTest (tOp (fun x y H Q => y = .non ∧ Q (.bl (!decide (x = .non))) H) (tVar 2) (tC .non))) (tVar 2) (tAsM w (tDisp [(tC (.str ""), tC (.int 0)), (tC (.str "i"), tUn (rU fun i => .int (-i)) (tC (.int 3)))])) σ H Q := by
  rcases m with e | ⟨p, T, e, tb, n, nd, ks, mid⟩
  · subst e
    refine ⟨_, h2, rfl, _, rfl, iteF fun c hc => ?_⟩
    refine ⟨3, rfl, upd_same, [(.inr "", .int 0), (.inr "i", .int (-3))], rfl, by decide, c, _, rfl, upd_same, ?_⟩
    rw [upd_upd, upd_upd]
    refine q c [(.w "", 0), (.w "i", -3)] _ (same_new hc) ⟨_, upd_same, .cons ⟨rfl, rfl, rfl⟩ (.cons ⟨rfl, rfl, rfl⟩ .nil)⟩ ⟨by simp, by decide +kernel, by simp, by decide +kernel, ?_⟩
    have h0 : (0 : Int) < 14800 * MM := by decide +kernel
    have h3 : (3 : Int) < 14800 * MM := by decide +kernel
    intro e he
    simp only [List.mem_cons, List.not_mem_nil, or_false] at he
    rcases he with z | z <;> subst z <;> exact ⟨by simp only; omega, by simp only; omega⟩
  · subst e
    refine ⟨_, h2, rfl, _, rfl, iteT ⟨_, h2, q p T H (Same.refl H) tb ⟨n, nd, ?_, fun e he => hR _ (ks e he), mid⟩⟩⟩
    have ndk : (T.map (·.1)).Nodup := by
      have e : (T.map fun e => nk e.1) = (T.map (·.1)).map nk := by rw [List.map_map]; rfl
      rw [e] at nd
      exact nodup_of_map nd
    have := nodup_sub (T.map (·.1)) five ndk fun x hx => by obtain ⟨e, he, ee⟩ := List.mem_map.mp hx; rw [← ee]; exact hR _ (ks e he)
    rw [List.length_map] at this
    exact this
/-- what stays through a turn -/
structure Tn (K : PySem.W.Frag) (w : World) (H0 : Hp) (D t c n : Addr) (R : List Row) (js : List Nat) (T : List (Kd × Int)) (H : Hp) : Prop where
  but : But D H0 H
  dice : DiceIn H D
  rows : RowsT K (hide D H) R t
  chain : OneV K (hide D H) c js
  nums : TabIs K w (hide D H) n (asV .int T)
variable {H0 : Hp} {D t c n : Addr} {R : List Row} {js : List Nat} {T : List (Kd × Int)} {H : Hp}
theorem Tn.to (h : Tn K w H0 D t c n R js T H) {H' : Hp} (b : But D H H') (d : DiceIn H' D) : Tn K w H0 D t c n R js T H' := by
  have s := but_hide b
  exact ⟨h.but.trans b, d, h.rows.mono (.same s), ⟨Tups.same s _ _ h.chain.1, h.chain.2⟩, h.nums.same s⟩
theorem Tn.same (h : Tn K w H0 D t c n R js T H) {H' : Hp} (s : Same H H') : Tn K w H0 D t c n R js T H' := by
  obtain ⟨x, y, z, e⟩ := h.dice
  exact h.to (same_but s) ⟨x, y, z, s _ _ e⟩
theorem Tn.rowsT (h : Tn K w H0 D t c n R js T H) : RowsT K H R t := h.rows.mono (.same (hide_sub D H))
theorem nearC_i {σ : L2.St} {Q : VK} {k : Int} (I : Tn K w H0 D t c n R js T H) (hR1 : 1 ≤ R.length) (hR : R.length ≤ 20) (h0 : σ[0]? = some (some (.ref D))) (h1 : σ[1]? = some (some (.ref t))) (h4 : σ[4]? = some (some (.ref c))) (h6 : σ[6]? = some (some (.int k)))
    (q : ∀ v H' d, But D H H' → DiceIn H' D → Dp K (hide D H') v d → GoodC d → Q v H') : tIf (tTest (tOp rEq (tVar 6) (tC (.int 0)))) (tVar 4) (tCal (spNearC K w) (tCons (tVar 0) (tCons (tVar 1) (tCons (tVar 4) tNil)))) σ H Q := by
  obtain ⟨cs, cn, cl, cb⟩ := I.chain
  have g : GoodC (.tuple (idxs js)) := by
    have h := scl (es := []) (fun j hj => Nat.lt_of_lt_of_le (cb j hj) (by decide)) (by omega) (fun d hd => nomatch hd) (by simp)
    rw [List.append_nil] at h
    exact h.tup
  refine ⟨_, h6, rfl, _, rfl, ?_⟩
  cases decide (V.int k = V.int 0) with
  | true => exact iteT ⟨_, h4, q _ H _ (But.refl D H) I.dice (.tup cs (idx_dp js)) g⟩
  | false =>
    obtain ⟨tvs, st, pr⟩ := I.rowsT
    have lt := paired_len pr
    exact iteF ⟨_, h0, _, h1, _, h4, D, t, c, tvs, js, rfl, I.dice, st, by omega, by omega, Tups.same (hide_sub D H) _ _ cs, cn, cl, cb, fun H' v d => q v H' d⟩
theorem nearN_i {σ : L2.St} {Q : VK} {k : Int} (I : Tn K w H0 D t c n R js T H) (ln : LNums T) (h0 : σ[0]? = some (some (.ref D))) (h5 : σ[5]? = some (some (.ref n))) (h6 : σ[6]? = some (some (.int k)))
    (q : ∀ v H' m, But D H H' → DiceIn H' D → NearV K w (hide D H') v m → GoodN m → Q v H') : tIf (tTest (tOp rEq (tVar 6) (tC (.int 0)))) (tVar 5) (tCal (spNearN K w) (tCons (tVar 0) (tCons (tVar 5) tNil))) σ H Q := by
  have gT : GoodT (asD T) := by
    refine ⟨?_, by rw [List.length_map]; have := ln.len; omega, fun e he => (ln.pairs e he).1, fun e he => (ln.pairs e he).2⟩
    have e : ((asD T).map fun e => nk e.1) = T.map fun e => nk e.1 := by rw [List.map_map]; rfl
    rw [e]
    exact ln.nd
  refine ⟨_, h6, rfl, _, rfl, ?_⟩
  cases decide (V.int k = V.int 0) with
  | true =>
    obtain ⟨xs, hx, pp⟩ := I.nums
    exact iteT ⟨_, h5, q _ H (.tab (asD T)) (But.refl D H) I.dice ⟨n, rfl, ⟨xs, hx, tab_td pp⟩, gT.ok, gT.flat⟩ gT⟩
  | false => exact iteF ⟨_, h0, _, h5, D, n, T, rfl, I.dice, I.nums, ln, fun H' v m => q v H' m⟩
theorem dice_tab {a : Addr} {B : List (Kd × V)} (d : DiceIn H D) (h : TabIs K w H a B) : TabIs K w (hide D H) a B := by
  obtain ⟨xs, hx, pp⟩ := h
  obtain ⟨x, y, z, eD⟩ := d
  refine ⟨xs, by rw [hide_at (fun e => by rw [e, eD] at hx; cases hx)]; exact hx, tabR_mono (fun b ys s => dice_sqt ⟨x, y, z, eD⟩ s) pp⟩
theorem dice_rows {a : Addr} {R : List Row} (d : DiceIn H D) (h : RowsT K H R a) : RowsT K (hide D H) R a := h.mono fun b ys s => dice_sqt d s
end
theorem rowL_ok : ∀ r, rowL r → okRow r = true ∧ shRow r := fun r ⟨h1, h2, h3⟩ => by
  have all : five.all (fun k => isPtK k && kdShort k && shK k) = true := by decide +kernel
  have alm : mosts.all (fun m => small m) = true := by decide +kernel
  have a := List.all_eq_true.mp all _ h1
  have b := List.all_eq_true.mp all _ h2
  have m := List.all_eq_true.mp alm _ h3
  simp only [Bool.and_eq_true] at a b
  unfold okRow
  simp only [Bool.and_eq_true]
  exact ⟨⟨⟨⟨a.1.1, a.1.2⟩, b.1.1, b.1.2⟩, m⟩, a.2, b.2⟩
theorem LRows.ok {R : List Row} (h : LRows R) : RowsOk R := ⟨by have := h.six; omega, fun r hr => (rowL_ok r (h.all r hr)).1, fun r hr => (rowL_ok r (h.all r hr)).2⟩
theorem five0 : (.w "" : Kd) ∈ five := by decide +kernel
theorem LRows.inFive {R : List Row} (h : LRows R) : ∀ p ∈ ptsOf R, p ∈ five := pts_ind (Pr := fun p => p ∈ five) R five0 fun r hr => ⟨(h.all r hr).1, (h.all r hr).2.1⟩
end Fc
namespace Fc
open PySem L2 PyProof.Rows
def spRight (K : PySem.W.Frag) (w : World) : Sp := fun vs H Q _ => ∃ D, vs = [.ref D] ∧ DiceIn H D ∧ ∀ H', But D H H' → Q (.bl true) H'
abbrev rRep (K : PySem.W.Frag) (w : World) : List V → Hp → VK → Prop := fun xs H Q => ∃ v d, xs = [v] ∧ DV K w H v d ∧ Shows d ∧ Q (.str d.shown) H
theorem cal_i {sp : Sp} {t : TA} {σ : L2.St} {H : Hp} {Q : VK} (h : t σ H fun vs H1 => sp vs H1 Q E0) : tCal sp t σ H Q := h
theorem var_i {i : Nat} {v : V} {σ : L2.St} {H : Hp} {Q : VK} (e : σ[i]? = some (some v)) (h : Q v H) : tVar i σ H Q := ⟨v, e, h⟩
theorem seqp_i {i j : Nat} {ta : TA} {u : TS} {D : Ends} {σ : L2.St} {H : Hp} (h : ta σ H fun vs H1 => ∃ v w, vs = [v, w] ∧ u D ((σ.set i (some v)).set j (some w)) H1) : tSeq (tPar i j ta) u D σ H := h
section
variable {K : PySem.W.Frag} {mg : Str → Option Value} {base : Heap} {P : Program} {w : World}
abbrev n36 : List Str := ["_law_dice_here", "_law_rows_here", "_law_told", "_law_met", "_law_chain", "_law_numbers", "_law_turn", "_law_near", "_law_text", "_law_due"]
theorem sc36 : FnScope n36 ["_law_dice_here"] (defScope (topS 36)) := ⟨rfl, rfl, rfl, by decide +kernel, rfl, by decide +kernel, by decide +kernel⟩
theorem ok36 {f : Addr} {fd : FuncData} (F : Fun K "_law_right" "_law_right" (topS 36) f fd) (B : Blt mg) (c31 : Cal P w K mg base 3 "_law_rows" (spRows K w)) (c17 : Cal P w K mg base 6 "fitting" (spFit K w)) (c19 : Cal P w K mg base 6 "ring" (spRing K w)) (c34 : Cal P w K mg base 3 "_law_near_chain" (spNearC K w))
    (c35 : Cal P w K mg base 3 "_law_near_numbers" (spNearN K w)) (c32 : Cal P w K mg base 2 "_law_is_chain" (spChain K w)) (c33 : Cal P w K mg base 2 "_law_are_numbers" (spNumbers K w)) (c20 : Cal P w K mg base 6 "is_ring" (spIsRing K w)) (c18 : Cal P w K mg base 6 "is_fitting" (spIsFit K w)) :
    FnG P w K mg base 7 f fd ["_law_dice_here"] (spRight K w) := by
  refine okG F sc36 (fun vs H Q E h => ?_) (fun cdv A outer s H vs Q E hgd hr h => ?_)
  · obtain ⟨D, rfl, _⟩ := h
    rfl
  · have hu := hu70 hr
    refine ⟨_, pss_cons (ps_set (i := 1) sc36.nd rfl (Or.inl rfl) (pe_c c31 hr (by decide) (by rfl) (pa_cons (pv 0) pa_nil)))
      (pss_cons (ps_par (i := 2) (j := 3) rfl sc36.nd rfl rfl (by decide) rfl rfl (pa_cons (pe_c c17 hr (by decide) (by rfl) (pa_cons (pv 1) pa_nil)) (pa_cons (pe_c c19 hr (by decide) (by rfl) (pa_cons (pv 1) pa_nil)) pa_nil)) (by rfl))
      (pss_cons (ps_par (i := 4) (j := 5) rfl sc36.nd rfl rfl (by decide) rfl rfl (pa_cons (pe_ifExp (pt_cmpR op_notN (pv 3) pe_non (nomark _)) (pv 3) (pe_tup (pa_cons pe_int pa_nil))) (pa_cons (pe_ifExp (pt_cmpR op_notN (pv 2) pe_non (nomark _)) (pv 2) (pe_asM (pe_disp (pps_cons pe_str pe_int (pps_cons pe_str (pe_un un_neg pe_int) pps_nil)) (by rfl) (by rfl) (by simp) (by decide)))) pa_nil)) (by rfl))
      (pss_cons (ps_for PassesOwn.never rfl (pi_range1 (by rfl) B.range (pa_cons pe_int pa_nil)) (pg_name (i := 6) sc36.nd rfl (Or.inl rfl))
        (pss_cons (ps_set (i := 7) sc36.nd rfl (Or.inl rfl) (pe_ifExp (pt_cmpR op_eq (pv 6) pe_int (nomark _)) (pv 4) (pe_c c34 hr (by decide) (by rfl) (pa_cons (pv 0) (pa_cons (pv 1) (pa_cons (pv 4) pa_nil))))))
        (pss_cons (ps_par (i := 8) (j := 9) rfl sc36.nd rfl rfl (by decide) rfl rfl (pa_cons (pe_callB (r := rRep K w) (call_reprD hgd (hu65 hu)) (by rfl) B.repr boot_repr (pa_cons (pv 7) pa_nil)) (pa_cons (pe_c c32 hr (by decide) (by rfl) (pa_cons (pv 1) (pa_cons (pv 7) pa_nil))) pa_nil)) (by rfl))
        (pss_cons (ps_if (pw_or (pt_cmpR op_ne (pe_callB (r := rRep K w) (call_reprD hgd (hu65 hu)) (by rfl) B.repr boot_repr (pa_cons (pe_c c20 hr (by decide) (by rfl) (pa_cons (pv 1) (pa_cons (pv 7) pa_nil))) pa_nil)) (pe_callB (r := rRep K w) (call_reprD hgd (hu65 hu)) (by rfl) B.repr boot_repr (pa_cons (pv 9) pa_nil)) (nomark _))
            (pw_or1 (pt_cmpR op_ne (pe_callB (r := rRep K w) (call_reprD hgd (hu65 hu)) (by rfl) B.repr boot_repr (pa_cons (pv 7) pa_nil)) (pv 8) (nomark _)))).pt (pss_one (ps_ret pe_bl)) pss_nil)
        (pss_cons (ps_set (i := 7) sc36.nd rfl (Or.inl rfl) (pe_ifExp (pt_cmpR op_eq (pv 6) pe_int (nomark _)) (pv 5) (pe_c c35 hr (by decide) (by rfl) (pa_cons (pv 0) (pa_cons (pv 5) pa_nil)))))
        (pss_cons (ps_par (i := 8) (j := 9) rfl sc36.nd rfl rfl (by decide) rfl rfl (pa_cons (pe_callB (r := rRep K w) (call_reprD hgd (hu65 hu)) (by rfl) B.repr boot_repr (pa_cons (pv 7) pa_nil)) (pa_cons (pe_c c33 hr (by decide) (by rfl) (pa_cons (pv 1) (pa_cons (pv 7) pa_nil))) pa_nil)) (by rfl))
        (pss_one (ps_if (pw_or (pt_cmpR op_ne (pe_callB (r := rRep K w) (call_reprD hgd (hu65 hu)) (by rfl) B.repr boot_repr (pa_cons (pe_c c18 hr (by decide) (by rfl) (pa_cons (pv 1) (pa_cons (pv 7) pa_nil))) pa_nil)) (pe_callB (r := rRep K w) (call_reprD hgd (hu65 hu)) (by rfl) B.repr boot_repr (pa_cons (pv 9) pa_nil)) (nomark _))
            (pw_or1 (pt_cmpR op_ne (pe_callB (r := rRep K w) (call_reprD hgd (hu65 hu)) (by rfl) B.repr boot_repr (pa_cons (pv 7) pa_nil)) (pv 8) (nomark _)))).pt (pss_one (ps_ret pe_bl)) pss_nil))))))))
      (pss_one (ps_ret pe_bl))))), ?_⟩
    obtain ⟨D, rfl, hD, q⟩ := h
    refine ⟨_, rfl, D, rfl, hD, fun H1 t R b1 d1 rt lr => ?_⟩
    have ro := lr.ok
    have hR := ro.len
    refine gn_i ?_
    dsimp only
    refine seqp_i (cons_i (cal_i (cons_i (var_i (v := .ref t) rfl (nil_i ?_)))))
    refine fit_i rt ro fun tv H2 s2 tv2 => ?_
    refine cons_i (cal_i (cons_i (var_i (v := .ref t) rfl (nil_i ?_))))
    refine ring_i (rt.mono (.same s2)) ro fun mv H3 s3 mv3 => nil_i ⟨_, _, rfl, ?_⟩
    refine seqp_i (cons_i (chain_i (R := R) rfl mv3 hR fun c js H4 s4 one4 => ?_))
    refine cons_i (nums_i (R := R) rfl (tv2.same (s3.trans s4)) lr.inFive fun n T H5 s5 tb5 ln => nil_i ⟨_, _, rfl, ?_⟩)
    have s15 := ((s2.trans s3).trans s4).trans s5
    obtain ⟨xD, yD, zD, eD⟩ := d1
    have d5 : DiceIn H5 D := ⟨_, _, _, s15 _ _ eD⟩
    have I5 : Tn K w H D t c n R js T H5 := ⟨b1.same s15, d5, dice_rows d5 (rt.mono (.same s15)), ⟨dice_sqt d5 (Tups.same s5 _ _ one4.1), one4.2⟩, dice_tab d5 tb5⟩
    clear s15 d5 eD tb5 s5 one4 s4 mv3 s3 tv2 s2 b1 rt
    refine ⟨8, rfl, by decide, by decide, ?_⟩
    refine for_steady steady_rng (fun k σ H' => ∃ z6 z7 z8 z9, σ = [some (.ref D), some (.ref t), some tv, some mv, some (.ref c), some (.ref n), z6, z7, z8, z9] ∧ Tn K w H D t c n R js T H') ⟨_, _, _, _, rfl, I5⟩ (fun _ _ _ _ _ => trivial) ?_ ?_
    · rintro k σ H6 hk ⟨z6, z7, z8, z9, rfl, I6⟩
      refine gn_i ?_
      refine seq_i (nearC_i (k := 0 + (k : Int)) I6 lr.one hR rfl rfl rfl rfl fun v H7 d b7 d7 dv g => ?_)
      have I7 := I6.to b7 d7
      have dw := dp_mono (hide_sub D H7) _ _ dv
      refine gn_i ?_
      refine seqp_i ⟨_, rfl, v, d, rfl, .inl dw, g.shows_, _, rfl, _, rfl, t, v, R, d, rfl, I7.rowsT, ro, dw, g.short, g.flat, g.shaped, fun H8 s8 => ⟨_, _, rfl, ?_⟩⟩
      have I8 := I7.same s8
      have dw8 := dp_mono s8 _ _ dw
      refine ⟨_, rfl, _, rfl, t, v, R, d, rfl, I8.rowsT, ro, .inl dw8, g.short, fun H9 s9 => ⟨.bl _, .bool (isRing R d), rfl, .inl (.bl _), (Sc.bool _).shows, _, rfl, .bl _, .bool (isRing R d), rfl, .inl (.bl _), (Sc.bool _).shows, rfl, _, rfl, ?_⟩⟩
      have I9 := I8.same s9
      have dw9 := dp_mono s9 _ _ dw8
      rw [decide_eq_true rfl]
      refine iteF ⟨_, rfl, v, d, rfl, .inl dw9, g.shows_, _, rfl, rfl, _, rfl, ?_⟩
      rw [decide_eq_true rfl]
      refine iteF ?_
      refine nx_i ?_
      dsimp only
      refine seq_i (nearN_i (k := 0 + (k : Int)) I9 ln rfl rfl rfl fun v2 H10 m b10 d10 nv gm => ?_)
      have I10 := I9.to b10 d10
      have nw := near_same (hide_sub D H10) nv
      refine gn_i ?_
      refine seqp_i ⟨_, rfl, v2, m.data, rfl, near_dv nw, gm.shows, _, rfl, _, rfl, t, v2, R, m, rfl, I10.rowsT, ro, nw, GoodN.apart lr.inFive gm, fun H11 s11 => ⟨_, _, rfl, ?_⟩⟩
      have I11 := I10.same s11
      have nw11 := near_same s11 nw
      refine ⟨_, rfl, _, rfl, t, v2, R, m, rfl, I11.rowsT, ro, nw11, fun H12 s12 => ⟨.bl _, .bool (isFit R m), rfl, .inl (.bl _), (Sc.bool _).shows, _, rfl, .bl _, .bool (isFit R m), rfl, .inl (.bl _), (Sc.bool _).shows, rfl, _, rfl, ?_⟩⟩
      have I12 := I11.same s12
      have nw12 := near_same s12 nw11
      rw [decide_eq_true rfl]
      refine iteF ⟨_, rfl, v2, m.data, rfl, near_dv nw12, gm.shows, _, rfl, rfl, _, rfl, ?_⟩
      rw [decide_eq_true rfl]
      exact iteF ⟨_, _, _, _, rfl, I12⟩
    · rintro σ H6 ⟨z6, z7, z8, z9, rfl, I6⟩
      exact q H6 I6.but
end
end Fc
namespace Fc
open PySem L2 PyProof.Rows
structure CalG (P : Program) (w : World) (K : PySem.W.Frag) (mg : Str → Option Value) (base : Heap) (k : Nat) (x : Str) (sp : Sp) : Prop where
  at_ : ∃ (f : Addr) (fd : FuncData) (ps : List Str), FnG P w K mg base k f fd ps sp ∧ mg x = some (.ref f) ∧ PySem.W.keepIn K (.ref f) = true ∧ Binds K fd ps []
theorem pe_cg {X : Cx} {k j : Nat} {x : Str} {sp : Sp} {p pos : Pos} {e : Expr} {es : List Expr} {t : TA} (c : CalG X.prog X.w X.K X.mg X.base k x sp) (hgd : X.A.guards = some []) (hr : Room j X.A) (hk : k ≤ j) (hg : Gl X x) (ha : PA X (e :: es) t) (hdb : (x == ("__debug__" : Str)) = false := by decide)
    (he : starEach (e :: es) X.env = (false, eval e X.env) :: starEach es X.env := by rfl) (hpl : (backTo pos (starEach es X.env)).any (·.1) = false := by rfl) : PE X (.Call (.Name x p) (e :: es) [] pos) (tCal sp t) := by
  obtain ⟨f, fd, ps, F, hm, kp, b⟩ := c.at_
  have q := pe_callG (p := p) (pos := pos) F hgd (hr.mono hk) hg hm kp b ha hdb he hpl
  refine ⟨fun pins s σ H Q I h => q.run pins s σ H Q I ?_⟩
  have e : tCall sp [] E0 t = tCal sp t := by funext σ H Q; unfold tCall tCal; simp only [List.append_nil]
  rw [e]
  exact h
def R5 : List Row := [(.w "i", .w "", 4), (.w "j", .w "i", -2), (.w "", .w "j", 1), (.w "i", .w "j", 1), (.w "i", .w "i", -1)]
theorem R5_ok : RowsOk R5 := by
  have a1 : R5.all (fun r => okRow r) = true := by decide +kernel
  have a2 : R5.all (fun r => shK r.1 && shK r.2.1) = true := by decide +kernel
  exact ⟨by decide, fun r hr => List.all_eq_true.mp a1 r hr, fun r hr => (Bool.and_eq_true _ _).mp (List.all_eq_true.mp a2 r hr)⟩
theorem R0_ok : RowsOk [] := ⟨by decide, fun r hr => (nomatch hr), fun r hr => nomatch hr⟩
theorem ring1 : isRing R5 (.tuple [.int 3, .int 1]) = true := by decide +kernel
theorem ring2 : isRing R5 (.tuple [.int 1, .int 3, .int 1, .int 3]) = true := by decide +kernel
theorem ring3 : isRing R5 (.tuple [.int 4]) = true := by decide +kernel
theorem ring4 : isRing R5 (.tuple [.int 3]) = false := by decide +kernel
theorem ring5 : isRing R5 (.tuple []) = false := by decide +kernel
theorem fit1 : GoodT [(.w "", .int 0)] := ⟨by simp, by simp, fun e he => by rw [List.mem_singleton.mp he]; exact five_keys _ five0, fun e he => by rw [List.mem_singleton.mp he]; exact Sc.int ⟨by decide, by decide⟩⟩
theorem fit2 : isFit [] (.tab [(.w "", .int 0)]) = true := by decide +kernel
theorem fit3 : GoodT [] := ⟨by simp, by simp, fun e he => (nomatch he), fun e he => nomatch he⟩
theorem fit4 : isFit [] (.tab []) = false := by decide +kernel
def spLaw (K : PySem.W.Frag) : Sp := fun vs H Q _ => ∃ (ns : List Int) (a : Addr), vs = [.ref a] ∧ SqL K H a (ns.map V.int) ∧ ns.length ≤ 63 ∧ ∀ H', Q (.bl true) H'
section
variable {K : PySem.W.Frag} {mg : Str → Option Value} {base : Heap} {P : Program} {w : World}
abbrev n37 : List Str := ["_law_script", "_law_spot", "_law_rows_here", "_law_told"]
theorem sc37 : FnScope n37 ["_law_script"] (defScope (topS 37)) := ⟨rfl, rfl, rfl, by decide +kernel, rfl, by decide +kernel, by decide +kernel⟩
theorem ok37 {f : Addr} {fd : FuncData} (F : Fun K "law" "law" (topS 37) f fd) (B : Blt mg) (c36 : CalG P w K mg base 7 "_law_right" (spRight K w)) (c27 : Cal P w K mg base 1 "_law_dice" (spDice K w)) (c20 : Cal P w K mg base 6 "is_ring" (spIsRing K w)) (c18 : Cal P w K mg base 6 "is_fitting" (spIsFit K w)) :
    FnG P w K mg base 8 f fd ["_law_script"] (spLaw K) := by
  refine okG F sc37 (fun vs H Q E h => ?_) (fun cdv A outer s H vs Q E hgd hr h => ?_)
  · obtain ⟨ns, a, rfl, _⟩ := h
    rfl
  · have hu := hu70 hr
    refine ⟨_, pss_cons (ps_for PassesOwn.never rfl (pi_range1 (by rfl) B.range (pa_cons (pe_callB (call_max2 rfl) (by rfl) B.max boot_max (pa_cons pe_int (pa_cons (pe_callB (call_min2 rfl) (by rfl) B.min boot_min (pa_cons pe_int (pa_cons (pe_callB call_len_seq (by rfl) B.len boot_len (pa_cons (pv 0) pa_nil)) pa_nil))) pa_nil))) pa_nil)) (pg_name (i := 1) sc37.nd rfl (Or.inl rfl))
        (pss_one (ps_if (pt_not (pt_val (pe_cg c36 hgd hr (by decide) (by rfl) (pa_cons (pe_c c27 hr (by decide) (by rfl) (pa_cons (pv 0) (pa_cons (pv 1) pa_nil))) pa_nil)))) (pss_one (ps_ret pe_bl)) pss_nil)))
      (pss_cons (ps_set (i := 2) sc37.nd rfl (Or.inl rfl) (pe_tup (pa_cons (pe_tup (pa_cons pe_str (pa_cons pe_str (pa_cons pe_int pa_nil)))) (pa_cons (pe_tup (pa_cons pe_str (pa_cons pe_str (pa_cons (pe_un un_neg pe_int) pa_nil)))) (pa_cons (pe_tup (pa_cons pe_str (pa_cons pe_str (pa_cons pe_int pa_nil))))
        (pa_cons (pe_tup (pa_cons pe_str (pa_cons pe_str (pa_cons pe_int pa_nil)))) (pa_cons (pe_tup (pa_cons pe_str (pa_cons pe_str (pa_cons (pe_un un_neg pe_int) pa_nil)))) pa_nil)))))))
      (pss_cons (ps_set (i := 3) sc37.nd rfl (Or.inl rfl) (pe_lst (pa_cons (pe_c c20 hr (by decide) (by rfl) (pa_cons (pv 2) (pa_cons (pe_tup (pa_cons pe_int (pa_cons pe_int pa_nil))) pa_nil))) (pa_cons (pe_c c20 hr (by decide) (by rfl) (pa_cons (pv 2) (pa_cons (pe_tup (pa_cons pe_int (pa_cons pe_int (pa_cons pe_int (pa_cons pe_int pa_nil))))) pa_nil)))
        (pa_cons (pe_c c20 hr (by decide) (by rfl) (pa_cons (pv 2) (pa_cons (pe_tup (pa_cons pe_int pa_nil)) pa_nil))) (pa_cons (pe_c c20 hr (by decide) (by rfl) (pa_cons (pv 2) (pa_cons (pe_tup (pa_cons pe_int pa_nil)) pa_nil))) (pa_cons (pe_c c20 hr (by decide) (by rfl) (pa_cons (pv 2) (pa_cons (pe_tup pa_nil) pa_nil))) pa_nil)))))))
      (pss_one (ps_ret (pe_and (pe_cmpR (op_eqD (hu64 hu)) (pv 3) (pe_lst (pa_cons pe_bl (pa_cons pe_bl (pa_cons pe_bl (pa_cons pe_bl (pa_cons pe_bl pa_nil)))))) (nomark _)) (pe_and (pe_c c18 hr (by decide) (by rfl) (pa_cons (pe_tup pa_nil) (pa_cons (pe_asM (pe_disp (pps_cons pe_str pe_int pps_nil) (by rfl) (by rfl) (by simp) (by decide))) pa_nil)))
        (pe_one (pe_not (pe_c c18 hr (by decide) (by rfl) (pa_cons (pe_tup pa_nil) (pa_cons pe_dnewM pa_nil))))))))))), ?_⟩
    obtain ⟨ns, a, rfl, sa, hl, q⟩ := h
    have sl : sizeLine = 16777216 := sizeLine_eq
    have len : ∀ {n : Nat}, n ≤ 1000 → n ≤ sizeLine := fun h => by rw [sl]; omega
    refine ⟨_, rfl, a, _, rfl, .inl sa, 3, _, rfl, 1, _, rfl, _, rfl, ?_, ?_, ?_⟩
    · split <;> split <;> omega
    · split <;> split <;> omega
    obtain ⟨n, hn⟩ : ∃ n, n = ((if (if ((ns.map V.int).length : Int) < 3 then ((ns.map V.int).length : Int) else 3) > 1 then (if ((ns.map V.int).length : Int) < 3 then ((ns.map V.int).length : Int) else 3) else 1) : Int).toNat := ⟨_, rfl⟩
    have hn3 : n ≤ 3 := by
      rw [hn]
      split <;> split <;> omega
    rw [← hn]
    refine for_steady steady_rng (fun k σ H' => Same H H' ∧ ∃ z1 z2 z3, σ = [some (.ref a), z1, z2, z3]) ⟨Same.refl H, _, _, _, rfl⟩ (fun _ _ _ _ _ => trivial) ?_ ?_
    · rintro k σ H1 hk ⟨s1, z1, z2, z3, rfl⟩
      refine gn_i ?_
      refine ⟨_, rfl, _, rfl, a, ns, 0 + (k : Int), rfl, s1.seq sa, by omega, by omega, by omega, fun D x y z hD => ⟨D, rfl, ⟨x, y, z, upd_same⟩, fun H3 b3 => ⟨_, rfl, iteF ⟨fun b o e => ?_, _, _, _, rfl⟩⟩⟩⟩
      have ne := ne_of_none (s1 b o e) hD
      exact b3 b o ne (by rw [upd_ne ne]; exact s1 b o e)
    · rintro σ H1 ⟨s1, z1, z2, z3, rfl⟩
      clear s1 sa
      refine ⟨len (by simp), fun t1 h1 => ⟨2, rfl, len (by simp), fun t2 h2 => ⟨len (by simp), fun t3 h3 => ⟨len (by simp), fun t4 h4 => ⟨1, rfl, len (by simp), fun t5 h5 => ⟨len (by simp), fun t h => ?_⟩⟩⟩⟩⟩⟩
      have s5 := same_new (o := .tup [.ref t1, .ref t2, .ref t3, .ref t4, .ref t5]) h
      have s4 := (same_new (o := .tup [.str "i", .str "i", .int (-1)]) h5).trans s5
      have s3 := (same_new (o := .tup [.str "i", .str "j", .int 1]) h4).trans s4
      have s2 := (same_new (o := .tup [.str "", .str "j", .int 1]) h3).trans s3
      have s1 := (same_new (o := .tup [.str "j", .str "i", .int (-2)]) h2).trans s2
      have rt : RowsT K (upd (upd (upd (upd (upd (upd H1 t1 (.tup [.str "i", .str "", .int 4])) t2 (.tup [.str "j", .str "i", .int (-2)])) t3 (.tup [.str "", .str "j", .int 1])) t4 (.tup [.str "i", .str "j", .int 1])) t5 (.tup [.str "i", .str "i", .int (-1)])) t (.tup [.ref t1, .ref t2, .ref t3, .ref t4, .ref t5])) R5 t := by
        refine ⟨_, .inl (.inl upd_same), .cons ⟨t1, _, _, rfl, .inl (.inl (s1 _ _ upd_same)), rfl, rfl⟩ (.cons ⟨t2, _, _, rfl, .inl (.inl (s2 _ _ upd_same)), rfl, rfl⟩ (.cons ⟨t3, _, _, rfl, .inl (.inl (s3 _ _ upd_same)), rfl, rfl⟩ (.cons ⟨t4, _, _, rfl, .inl (.inl (s4 _ _ upd_same)), rfl, rfl⟩ (.cons ⟨t5, _, _, rfl, .inl (.inl (s5 _ _ upd_same)), rfl, rfl⟩ .nil))))⟩
      clear s1 s2 s3 s4 s5
      generalize upd (upd (upd (upd (upd (upd H1 t1 (.tup [.str "i", .str "", .int 4])) t2 (.tup [.str "j", .str "i", .int (-2)])) t3 (.tup [.str "", .str "j", .int 1])) t4 (.tup [.str "i", .str "j", .int 1])) t5 (.tup [.str "i", .str "i", .int (-1)])) t (.tup [.ref t1, .ref t2, .ref t3, .ref t4, .ref t5]) = H2 at rt
      have call : ∀ {H : Hp} {xs : List V} {ds : List PyData} {b : Bool} {Q : VK} {E : XK} {p : Addr}, RowsT K H R5 t → H p = none → DpAll K (upd H p (.tup xs)) xs ds → ds.length ≤ 1000 → isRing R5 (.tuple ds) = b → (∀ H', RowsT K H' R5 t → Q (.bl b) H') → spIsRing K w [.ref t, .ref p] (upd H p (.tup xs)) Q E := fun {H xs ds b Q E p} r hp hd hl e q => by
        have s := same_new (o := .tup xs) hp
        have r2 := r.mono (.same s)
        exact ⟨t, .ref p, R5, .tuple ds, rfl, r2, R5_ok, .inl (.tup (.inl (.inl upd_same)) hd), hl, fun H' s' => by rw [e]; exact q H' (r2.mono (.same s'))⟩
      refine ⟨_, rfl, len (by simp), fun p1 hp1 => ?_⟩
      refine nil_i ?_
      refine call rt hp1 (.cons (.int 3) (.cons (.int 1) .nil)) (by simp) ring1 fun H3 r3 => ?_
      refine ⟨_, rfl, len (by simp), fun p2 hp2 => ?_⟩
      refine nil_i ?_
      refine call r3 hp2 (.cons (.int 1) (.cons (.int 3) (.cons (.int 1) (.cons (.int 3) .nil)))) (by simp) ring2 fun H4 r4 => ?_
      refine ⟨_, rfl, len (by simp), fun p3 hp3 => ?_⟩
      refine nil_i ?_
      refine call r4 hp3 (.cons (.int 4) .nil) (by simp) ring3 fun H5 r5 => ?_
      refine ⟨_, rfl, len (by simp), fun p4 hp4 => ?_⟩
      refine nil_i ?_
      refine call r5 hp4 (.cons (.int 3) .nil) (by simp) ring4 fun H6 r6 => ?_
      refine ⟨_, rfl, len (by simp), fun p5 hp5 => ?_⟩
      refine nil_i ?_
      refine call r6 hp5 .nil (by simp) ring5 fun H7 r7 => ?_
      refine ⟨len (by simp), fun l hl7 => ?_⟩
      refine ⟨_, rfl, len (by simp), fun l2 hl8 => ?_⟩
      have s8 := same_new (o := .lst [.bl true, .bl true, .bl true, .bl false, .bl false]) hl8
      refine ⟨.list [.bool true, .bool true, .bool true, .bool false, .bool false], .list [.bool true, .bool true, .bool true, .bool false, .bool false], .lst (.inl (.inl (s8 _ _ upd_same))) (.cons (.bl _) (.cons (.bl _) (.cons (.bl _) (.cons (.bl _) (.cons (.bl _) .nil))))), .lst (.inl (.inl upd_same)) (.cons (.bl _) (.cons (.bl _) (.cons (.bl _) (.cons (.bl _) (.cons (.bl _) .nil))))), by decide +kernel, by decide +kernel, true, by decide +kernel, ?_⟩
      refine iteT ⟨len (by simp), fun p6 hp6 c6 hc6 => ⟨upd_same, [(.inr "", .int 0)], rfl, by decide, c6, _, rfl, upd_same, ?_⟩⟩
      rw [upd_upd, upd_upd]
      have sc6 := same_new (o := MD w c6 ([((.inr "" : Key), V.int 0)].map entK)) hc6
      refine ⟨p6, .ref c6, [], .tab [(.w "", .int 0)], rfl, ⟨[], .inl (.inl (sc6 _ _ upd_same)), .nil⟩, R0_ok, ⟨c6, rfl, ⟨_, upd_same, .cons ⟨rfl, rfl, .int 0⟩ .nil⟩, fit1.ok, fit1.flat⟩, fun H9 s9 => ⟨_, rfl, ?_⟩⟩
      rw [fit2]
      refine iteT ⟨len (by simp), fun p7 hp7 c7 hc7 => ?_⟩
      have sc7 := same_new (o := MD w c7 []) hc7
      refine ⟨p7, .ref c7, [], .tab [], rfl, ⟨[], .inl (.inl (sc7 _ _ upd_same)), .nil⟩, R0_ok, ⟨c7, rfl, ⟨[], upd_same, .nil⟩, fit3.ok, fit3.flat⟩, fun H10 s10 => ⟨_, rfl, ?_⟩⟩
      rw [fit4]
      exact q H10
end
end Fc
namespace Fc
open PySem L2 PyProof.Rows
theorem all_mk {P : Program} {w : World} {K : PySem.W.Frag} {h : Heap} {mg : Str → Option Value} {fa : Addr} (X : K.In h) (G : h.Ns mainGlobals mg) (hfa : mg "law" = some (.ref fa))
    {f1 f2 f3 f8 f10 f11 f12 f13 f14 f25 f24 f23 f22 f21 f17 f18 f19 f20 f27 f28 f29 f30 f31 f32 f33 f34 f35 f36 f37 : Addr} {od1 od2 od3 od8 od10 od11 od12 od13 od14 od25 od24 od23 od22 od21 od17 od18 od19 od20 od27 od28 od29 od30 od31 od32 od33 od34 od35 od36 od37 : Option Addr} {an1 an2 an3 an8 an10 an11 an12 an13 an14 an25 an24 an23 an22 an21 an17 an18 an19 an20 an27 an28 an29 an30 an31 an32 an33 an34 an35 an36 an37 : Option Addr} {sl1 sl2 sl3 sl8 sl10 sl11 sl12 sl13 sl14 sl25 sl24 sl23 sl22 sl21 sl17 sl18 sl19 sl20 sl27 sl28 sl29 sl30 sl31 sl32 sl33 sl34 sl35 sl36 sl37 : Array (Option Value)}
    {oc1 kV1 dc1 pm1 cd1 ct1 oc2 kV2 dc2 pm2 cd2 ct2 oc3 kV3 dc3 pm3 cd3 ct3 oc8 kV8 dc8 pm8 cd8 ct8 oc10 kV10 dc10 pm10 cd10 ct10 oc11 kV11 dc11 pm11 cd11 ct11 oc12 kV12 dc12 pm12 cd12 ct12 oc13 kV13 dc13 pm13 cd13 ct13 oc14 kV14 dc14 pm14 cd14 ct14 oc25 kV25 dc25 pm25 cd25 ct25 oc24 kV24 dc24 pm24 cd24 ct24 oc23 kV23 dc23 pm23 cd23 ct23 oc22 kV22 dc22 pm22 cd22 ct22 oc21 kV21 dc21 pm21 cd21 ct21 oc17 kV17 dc17 pm17 cd17 ct17 oc18 kV18 dc18 pm18 cd18 ct18 oc19 kV19 dc19 pm19 cd19 ct19 oc20 kV20 dc20 pm20 cd20 ct20 oc27 kV27 dc27 pm27 cd27 ct27 oc28 kV28 dc28 pm28 cd28 ct28 oc29 kV29 dc29 pm29 cd29 ct29 oc30 kV30 dc30 pm30 cd30 ct30 oc31 kV31 dc31 pm31 cd31 ct31 oc32 kV32 dc32 pm32 cd32 ct32 oc33 kV33 dc33 pm33 cd33 ct33 oc34 kV34 dc34 pm34 cd34 ct34 oc35 kV35 dc35 pm35 cd35 ct35 oc36 kV36 dc36 pm36 cd36 ct36 oc37 kV37 dc37 pm37 cd37 ct37 : Value} {tM : Tok}
    (a1 : PySem.W.nsIn K mainGlobals "is_any_integer" = some (some (.ref f1))) (l1 : K.lookup f1 = some ⟨oc1, od1, .func (PySem.W.fnOf "is_any_integer" "is_any_integer" (defArgs (topS 1)) (defBody (topS 1)) (defScope (topS 1)) .none kV1 dc1 pm1 an1 cd1 ct1), sl1⟩) (c1 : PySem.W.codeIn K cd1 "is_any_integer" = true) (k1 : PySem.W.keepIn K (.ref f1) = true)
    (a2 : PySem.W.nsIn K mainGlobals "is_passed_integer" = some (some (.ref f2))) (l2 : K.lookup f2 = some ⟨oc2, od2, .func (PySem.W.fnOf "is_passed_integer" "is_passed_integer" (defArgs (topS 2)) (defBody (topS 2)) (defScope (topS 2)) .none kV2 dc2 pm2 an2 cd2 ct2), sl2⟩) (c2 : PySem.W.codeIn K cd2 "is_passed_integer" = true) (k2 : PySem.W.keepIn K (.ref f2) = true)
    (a3 : PySem.W.nsIn K mainGlobals "is_index" = some (some (.ref f3))) (l3 : K.lookup f3 = some ⟨oc3, od3, .func (PySem.W.fnOf "is_index" "is_index" (defArgs (topS 3)) (defBody (topS 3)) (defScope (topS 3)) .none kV3 dc3 pm3 an3 cd3 ct3), sl3⟩) (c3 : PySem.W.codeIn K cd3 "is_index" = true) (k3 : PySem.W.keepIn K (.ref f3) = true)
    (a8 : PySem.W.nsIn K mainGlobals "is_name" = some (some (.ref f8))) (l8 : K.lookup f8 = some ⟨oc8, od8, .func (PySem.W.fnOf "is_name" "is_name" (defArgs (topS 8)) (defBody (topS 8)) (defScope (topS 8)) .none kV8 dc8 pm8 an8 cd8 ct8), sl8⟩) (c8 : PySem.W.codeIn K cd8 "is_name" = true) (k8 : PySem.W.keepIn K (.ref f8) = true)
    (a10 : PySem.W.nsIn K mainGlobals "points_of" = some (some (.ref f10))) (l10 : K.lookup f10 = some ⟨oc10, od10, .func (PySem.W.fnOf "points_of" "points_of" (defArgs (topS 10)) (defBody (topS 10)) (defScope (topS 10)) .none kV10 dc10 pm10 an10 cd10 ct10), sl10⟩) (c10 : PySem.W.codeIn K cd10 "points_of" = true) (k10 : PySem.W.keepIn K (.ref f10) = true)
    (a11 : PySem.W.nsIn K mainGlobals "relaxed" = some (some (.ref f11))) (l11 : K.lookup f11 = some ⟨oc11, od11, .func (PySem.W.fnOf "relaxed" "relaxed" (defArgs (topS 11)) (defBody (topS 11)) (defScope (topS 11)) .none kV11 dc11 pm11 an11 cd11 ct11), sl11⟩) (c11 : PySem.W.codeIn K cd11 "relaxed" = true) (k11 : PySem.W.keepIn K (.ref f11) = true)
    (a12 : PySem.W.nsIn K mainGlobals "numbers_that_fit" = some (some (.ref f12))) (l12 : K.lookup f12 = some ⟨oc12, od12, .func (PySem.W.fnOf "numbers_that_fit" "numbers_that_fit" (defArgs (topS 12)) (defBody (topS 12)) (defScope (topS 12)) .none kV12 dc12 pm12 an12 cd12 ct12), sl12⟩) (c12 : PySem.W.codeIn K cd12 "numbers_that_fit" = true) (k12 : PySem.W.keepIn K (.ref f12) = true)
    (a13 : PySem.W.nsIn K mainGlobals "found_ring" = some (some (.ref f13))) (l13 : K.lookup f13 = some ⟨oc13, od13, .func (PySem.W.fnOf "found_ring" "found_ring" (defArgs (topS 13)) (defBody (topS 13)) (defScope (topS 13)) .none kV13 dc13 pm13 an13 cd13 ct13), sl13⟩) (c13 : PySem.W.codeIn K cd13 "found_ring" = true) (k13 : PySem.W.keepIn K (.ref f13) = true)
    (a14 : PySem.W.nsIn K mainGlobals "makes_ring" = some (some (.ref f14))) (l14 : K.lookup f14 = some ⟨oc14, od14, .func (PySem.W.fnOf "makes_ring" "makes_ring" (defArgs (topS 14)) (defBody (topS 14)) (defScope (topS 14)) .none kV14 dc14 pm14 an14 cd14 ct14), sl14⟩) (c14 : PySem.W.codeIn K cd14 "makes_ring" = true) (k14 : PySem.W.keepIn K (.ref f14) = true)
    (a25 : PySem.W.nsIn K mainGlobals "is_new_position" = some (some (.ref f25))) (l25 : K.lookup f25 = some ⟨oc25, od25, .func (PySem.W.fnOf "is_new_position" "is_new_position" (defArgs (topS 25)) (defBody (topS 25)) (defScope (topS 25)) .none kV25 dc25 pm25 an25 cd25 ct25), sl25⟩) (c25 : PySem.W.codeIn K cd25 "is_new_position" = true) (k25 : PySem.W.keepIn K (.ref f25) = true)
    (a24 : PySem.W.nsIn K mainGlobals "is_place" = some (some (.ref f24))) (l24 : K.lookup f24 = some ⟨oc24, od24, .func (PySem.W.fnOf "is_place" "is_place" (defArgs (topS 24)) (defBody (topS 24)) (defScope (topS 24)) .none kV24 dc24 pm24 an24 cd24 ct24), sl24⟩) (c24 : PySem.W.codeIn K cd24 "is_place" = true) (k24 : PySem.W.keepIn K (.ref f24) = true)
    (a23 : PySem.W.nsIn K mainGlobals "is_point" = some (some (.ref f23))) (l23 : K.lookup f23 = some ⟨oc23, od23, .func (PySem.W.fnOf "is_point" "is_point" (defArgs (topS 23)) (defBody (topS 23)) (defScope (topS 23)) .none kV23 dc23 pm23 an23 cd23 ct23), sl23⟩) (c23 : PySem.W.codeIn K cd23 "is_point" = true) (k23 : PySem.W.keepIn K (.ref f23) = true)
    (a22 : PySem.W.nsIn K mainGlobals "is_difference" = some (some (.ref f22))) (l22 : K.lookup f22 = some ⟨oc22, od22, .func (PySem.W.fnOf "is_difference" "is_difference" (defArgs (topS 22)) (defBody (topS 22)) (defScope (topS 22)) .none kV22 dc22 pm22 an22 cd22 ct22), sl22⟩) (c22 : PySem.W.codeIn K cd22 "is_difference" = true) (k22 : PySem.W.keepIn K (.ref f22) = true)
    (a21 : PySem.W.nsIn K mainGlobals "require_differences" = some (some (.ref f21))) (l21 : K.lookup f21 = some ⟨oc21, od21, .func (PySem.W.fnOf "require_differences" "require_differences" (defArgs (topS 21)) (defBody (topS 21)) (defScope (topS 21)) .none kV21 dc21 pm21 an21 cd21 ct21), sl21⟩) (c21 : PySem.W.codeIn K cd21 "require_differences" = true) (k21 : PySem.W.keepIn K (.ref f21) = true)
    (a17 : PySem.W.nsIn K mainGlobals "fitting" = some (some (.ref f17))) (l17 : K.lookup f17 = some ⟨oc17, od17, .func (PySem.W.fnOf "fitting" "fitting" (defArgs (topS 17)) (defBody (topS 17)) (defScope (topS 17)) .none kV17 dc17 pm17 an17 cd17 ct17), sl17⟩) (c17 : PySem.W.codeIn K cd17 "fitting" = true) (k17 : PySem.W.keepIn K (.ref f17) = true)
    (a18 : PySem.W.nsIn K mainGlobals "is_fitting" = some (some (.ref f18))) (l18 : K.lookup f18 = some ⟨oc18, od18, .func (PySem.W.fnOf "is_fitting" "is_fitting" (defArgs (topS 18)) (defBody (topS 18)) (defScope (topS 18)) .none kV18 dc18 pm18 an18 cd18 ct18), sl18⟩) (c18 : PySem.W.codeIn K cd18 "is_fitting" = true) (k18 : PySem.W.keepIn K (.ref f18) = true)
    (a19 : PySem.W.nsIn K mainGlobals "ring" = some (some (.ref f19))) (l19 : K.lookup f19 = some ⟨oc19, od19, .func (PySem.W.fnOf "ring" "ring" (defArgs (topS 19)) (defBody (topS 19)) (defScope (topS 19)) .none kV19 dc19 pm19 an19 cd19 ct19), sl19⟩) (c19 : PySem.W.codeIn K cd19 "ring" = true) (k19 : PySem.W.keepIn K (.ref f19) = true)
    (a20 : PySem.W.nsIn K mainGlobals "is_ring" = some (some (.ref f20))) (l20 : K.lookup f20 = some ⟨oc20, od20, .func (PySem.W.fnOf "is_ring" "is_ring" (defArgs (topS 20)) (defBody (topS 20)) (defScope (topS 20)) .none kV20 dc20 pm20 an20 cd20 ct20), sl20⟩) (c20 : PySem.W.codeIn K cd20 "is_ring" = true) (k20 : PySem.W.keepIn K (.ref f20) = true)
    (a27 : PySem.W.nsIn K mainGlobals "_law_dice" = some (some (.ref f27))) (l27 : K.lookup f27 = some ⟨oc27, od27, .func (PySem.W.fnOf "_law_dice" "_law_dice" (defArgs (topS 27)) (defBody (topS 27)) (defScope (topS 27)) .none kV27 dc27 pm27 an27 cd27 ct27), sl27⟩) (c27 : PySem.W.codeIn K cd27 "_law_dice" = true) (k27 : PySem.W.keepIn K (.ref f27) = true)
    (a28 : PySem.W.nsIn K mainGlobals "_law_roll" = some (some (.ref f28))) (l28 : K.lookup f28 = some ⟨oc28, od28, .func (PySem.W.fnOf "_law_roll" "_law_roll" (defArgs (topS 28)) (defBody (topS 28)) (defScope (topS 28)) .none kV28 dc28 pm28 an28 cd28 ct28), sl28⟩) (c28 : PySem.W.codeIn K cd28 "_law_roll" = true) (k28 : PySem.W.keepIn K (.ref f28) = true)
    (a29 : PySem.W.nsIn K mainGlobals "_law_pick" = some (some (.ref f29))) (l29 : K.lookup f29 = some ⟨oc29, od29, .func (PySem.W.fnOf "_law_pick" "_law_pick" (defArgs (topS 29)) (defBody (topS 29)) (defScope (topS 29)) .none kV29 dc29 pm29 an29 cd29 ct29), sl29⟩) (c29 : PySem.W.codeIn K cd29 "_law_pick" = true) (k29 : PySem.W.keepIn K (.ref f29) = true)
    (a30 : PySem.W.nsIn K mainGlobals "_law_is_integer" = some (some (.ref f30))) (l30 : K.lookup f30 = some ⟨oc30, od30, .func (PySem.W.fnOf "_law_is_integer" "_law_is_integer" (defArgs (topS 30)) (defBody (topS 30)) (defScope (topS 30)) .none kV30 dc30 pm30 an30 cd30 ct30), sl30⟩) (c30 : PySem.W.codeIn K cd30 "_law_is_integer" = true) (k30 : PySem.W.keepIn K (.ref f30) = true)
    (a31 : PySem.W.nsIn K mainGlobals "_law_rows" = some (some (.ref f31))) (l31 : K.lookup f31 = some ⟨oc31, od31, .func (PySem.W.fnOf "_law_rows" "_law_rows" (defArgs (topS 31)) (defBody (topS 31)) (defScope (topS 31)) .none kV31 dc31 pm31 an31 cd31 ct31), sl31⟩) (c31 : PySem.W.codeIn K cd31 "_law_rows" = true) (k31 : PySem.W.keepIn K (.ref f31) = true)
    (a32 : PySem.W.nsIn K mainGlobals "_law_is_chain" = some (some (.ref f32))) (l32 : K.lookup f32 = some ⟨oc32, od32, .func (PySem.W.fnOf "_law_is_chain" "_law_is_chain" (defArgs (topS 32)) (defBody (topS 32)) (defScope (topS 32)) .none kV32 dc32 pm32 an32 cd32 ct32), sl32⟩) (c32 : PySem.W.codeIn K cd32 "_law_is_chain" = true) (k32 : PySem.W.keepIn K (.ref f32) = true)
    (a33 : PySem.W.nsIn K mainGlobals "_law_are_numbers" = some (some (.ref f33))) (l33 : K.lookup f33 = some ⟨oc33, od33, .func (PySem.W.fnOf "_law_are_numbers" "_law_are_numbers" (defArgs (topS 33)) (defBody (topS 33)) (defScope (topS 33)) .none kV33 dc33 pm33 an33 cd33 ct33), sl33⟩) (c33 : PySem.W.codeIn K cd33 "_law_are_numbers" = true) (k33 : PySem.W.keepIn K (.ref f33) = true)
    (a34 : PySem.W.nsIn K mainGlobals "_law_near_chain" = some (some (.ref f34))) (l34 : K.lookup f34 = some ⟨oc34, od34, .func (PySem.W.fnOf "_law_near_chain" "_law_near_chain" (defArgs (topS 34)) (defBody (topS 34)) (defScope (topS 34)) .none kV34 dc34 pm34 an34 cd34 ct34), sl34⟩) (c34 : PySem.W.codeIn K cd34 "_law_near_chain" = true) (k34 : PySem.W.keepIn K (.ref f34) = true)
    (a35 : PySem.W.nsIn K mainGlobals "_law_near_numbers" = some (some (.ref f35))) (l35 : K.lookup f35 = some ⟨oc35, od35, .func (PySem.W.fnOf "_law_near_numbers" "_law_near_numbers" (defArgs (topS 35)) (defBody (topS 35)) (defScope (topS 35)) .none kV35 dc35 pm35 an35 cd35 ct35), sl35⟩) (c35 : PySem.W.codeIn K cd35 "_law_near_numbers" = true) (k35 : PySem.W.keepIn K (.ref f35) = true)
    (a36 : PySem.W.nsIn K mainGlobals "_law_right" = some (some (.ref f36))) (l36 : K.lookup f36 = some ⟨oc36, od36, .func (PySem.W.fnOf "_law_right" "_law_right" (defArgs (topS 36)) (defBody (topS 36)) (defScope (topS 36)) .none kV36 dc36 pm36 an36 cd36 ct36), sl36⟩) (c36 : PySem.W.codeIn K cd36 "_law_right" = true) (k36 : PySem.W.keepIn K (.ref f36) = true)
    (a37 : PySem.W.nsIn K mainGlobals "law" = some (some (.ref f37))) (l37 : K.lookup f37 = some ⟨oc37, od37, .func (PySem.W.fnOf "law" "law" (defArgs (topS 37)) (defBody (topS 37)) (defScope (topS 37)) .none kV37 dc37 pm37 an37 cd37 ct37), sl37⟩) (c37 : PySem.W.codeIn K cd37 "law" = true) (k37 : PySem.W.keepIn K (.ref f37) = true)
    (aM : PySem.W.nsIn K mainGlobals "MAX_DIFFERENCES" = some (some (.int 60 tM)))
    (z_isinstance : PySem.W.nsIn K mainGlobals "isinstance" = some none)
    (z_int : PySem.W.nsIn K mainGlobals "int" = some none)
    (z_bool : PySem.W.nsIn K mainGlobals "bool" = some none)
    (z_str : PySem.W.nsIn K mainGlobals "str" = some none)
    (z_tuple : PySem.W.nsIn K mainGlobals "tuple" = some none)
    (z_dict : PySem.W.nsIn K mainGlobals "dict" = some none)
    (z_list : PySem.W.nsIn K mainGlobals "list" = some none)
    (z_len : PySem.W.nsIn K mainGlobals "len" = some none)
    (z_abs : PySem.W.nsIn K mainGlobals "abs" = some none)
    (z_range : PySem.W.nsIn K mainGlobals "range" = some none)
    (z_sorted : PySem.W.nsIn K mainGlobals "sorted" = some none)
    (z_sum : PySem.W.nsIn K mainGlobals "sum" = some none)
    (z_max : PySem.W.nsIn K mainGlobals "max" = some none)
    (z_min : PySem.W.nsIn K mainGlobals "min" = some none)
    (z_repr : PySem.W.nsIn K mainGlobals "repr" = some none)
    : ∃ fd : FuncData, (∀ (s : Shared) (v : Value), BindsTo s fd ⟨[v], []⟩ [("_law_script", v)]) ∧ ∀ base : Heap, K.In base → base.Ns mainGlobals mg → FnG P w K mg base 8 fa fd ["_law_script"] (spLaw K) := by
  have e := hfa.symm.trans (PySem.W.mg_of X G a37)
  cases e
  have B : Blt mg := ⟨PySem.W.mg_none_of X G z_isinstance, PySem.W.mg_none_of X G z_int, PySem.W.mg_none_of X G z_bool, PySem.W.mg_none_of X G z_str, PySem.W.mg_none_of X G z_tuple, PySem.W.mg_none_of X G z_dict, PySem.W.mg_none_of X G z_list, PySem.W.mg_none_of X G z_len, PySem.W.mg_none_of X G z_abs, PySem.W.mg_none_of X G z_range, PySem.W.mg_none_of X G z_sorted, PySem.W.mg_none_of X G z_sum, PySem.W.mg_none_of X G z_max, PySem.W.mg_none_of X G z_min, PySem.W.mg_none_of X G z_repr⟩
  have hM := PySem.W.mg_of X G aM
  have F1 := fun_mk (st := topS 1) l1 c1 k1
  have F2 := fun_mk (st := topS 2) l2 c2 k2
  have F3 := fun_mk (st := topS 3) l3 c3 k3
  have F8 := fun_mk (st := topS 8) l8 c8 k8
  have F10 := fun_mk (st := topS 10) l10 c10 k10
  have F11 := fun_mk (st := topS 11) l11 c11 k11
  have F12 := fun_mk (st := topS 12) l12 c12 k12
  have F13 := fun_mk (st := topS 13) l13 c13 k13
  have F14 := fun_mk (st := topS 14) l14 c14 k14
  have F25 := fun_mk (st := topS 25) l25 c25 k25
  have F24 := fun_mk (st := topS 24) l24 c24 k24
  have F23 := fun_mk (st := topS 23) l23 c23 k23
  have F22 := fun_mk (st := topS 22) l22 c22 k22
  have F21 := fun_mk (st := topS 21) l21 c21 k21
  have F17 := fun_mk (st := topS 17) l17 c17 k17
  have F18 := fun_mk (st := topS 18) l18 c18 k18
  have F19 := fun_mk (st := topS 19) l19 c19 k19
  have F20 := fun_mk (st := topS 20) l20 c20 k20
  have F27 := fun_mk (st := topS 27) l27 c27 k27
  have F28 := fun_mk (st := topS 28) l28 c28 k28
  have F29 := fun_mk (st := topS 29) l29 c29 k29
  have F30 := fun_mk (st := topS 30) l30 c30 k30
  have F31 := fun_mk (st := topS 31) l31 c31 k31
  have F32 := fun_mk (st := topS 32) l32 c32 k32
  have F33 := fun_mk (st := topS 33) l33 c33 k33
  have F34 := fun_mk (st := topS 34) l34 c34 k34
  have F35 := fun_mk (st := topS 35) l35 c35 k35
  have F36 := fun_mk (st := topS 36) l36 c36 k36
  have F37 := fun_mk (st := topS 37) l37 c37 k37
  refine ⟨PySem.W.fnOf "law" "law" (defArgs (topS 37)) (defBody (topS 37)) (defScope (topS 37)) .none kV37 dc37 pm37 an37 cd37 ct37, fun s v => .of_eq rfl, fun base _ _ => ?_⟩
  have g1 : Cal P w K mg base 1 "is_any_integer" (spInt K w) := ⟨f1, _, ["value"], ok1 F1 B , PySem.W.mg_of X G a1, k1, F1.binds (ps := ["value"]) fun _ _ _ _ _ _ us hl => match us, hl with | [_], _ => rfl⟩
  have g2 : Cal P w K mg base 2 "is_passed_integer" (spPassed K w) := ⟨f2, _, ["value"], ok2 F2 B g1, PySem.W.mg_of X G a2, k2, F2.binds (ps := ["value"]) fun _ _ _ _ _ _ us hl => match us, hl with | [_], _ => rfl⟩
  have g3 : Cal P w K mg base 2 "is_index" (spIndex K w) := ⟨f3, _, ["value", "many"], ok3 F3 B g1, PySem.W.mg_of X G a3, k3, F3.binds (ps := ["value", "many"]) fun _ _ _ _ _ _ us hl => match us, hl with | [_, _], _ => rfl⟩
  have g8 : Cal P w K mg base 1 "is_name" (spName K w) := ⟨f8, _, ["value"], ok8 F8 B , PySem.W.mg_of X G a8, k8, F8.binds (ps := ["value"]) fun _ _ _ _ _ _ us hl => match us, hl with | [_], _ => rfl⟩
  have g10 : Cal P w K mg base 1 "points_of" (spPts K w) := ⟨f10, _, ["differences"], ok10 F10 B , PySem.W.mg_of X G a10, k10, F10.binds (ps := ["differences"]) fun _ _ _ _ _ _ us hl => match us, hl with | [_], _ => rfl⟩
  have g11 : Cal P w K mg base 2 "relaxed" (spRelax K w) := ⟨f11, _, ["differences", "bounds"], ok11 F11 B g10, PySem.W.mg_of X G a11, k11, F11.binds (ps := ["differences", "bounds"]) fun _ _ _ _ _ _ us hl => match us, hl with | [_, _], _ => rfl⟩
  have g12 : Cal P w K mg base 3 "numbers_that_fit" (spNums K w) := ⟨f12, _, ["differences"], ok12 F12 B g10 g11, PySem.W.mg_of X G a12, k12, F12.binds (ps := ["differences"]) fun _ _ _ _ _ _ us hl => match us, hl with | [_], _ => rfl⟩
  have g13 : Cal P w K mg base 3 "found_ring" (spFound K w) := ⟨f13, _, ["differences"], ok13 F13 B g10 g11, PySem.W.mg_of X G a13, k13, F13.binds (ps := ["differences"]) fun _ _ _ _ _ _ us hl => match us, hl with | [_], _ => rfl⟩
  have g14 : Cal P w K mg base 1 "makes_ring" (spMakes K w) := ⟨f14, _, ["chosen"], ok14 F14 B , PySem.W.mg_of X G a14, k14, F14.binds (ps := ["chosen"]) fun _ _ _ _ _ _ us hl => match us, hl with | [_], _ => rfl⟩
  have g25 : Cal P w K mg base 1 "is_new_position" (spNew K w) := ⟨f25, _, ["word"], ok25 F25 B , PySem.W.mg_of X G a25, k25, F25.binds (ps := ["word"]) fun _ _ _ _ _ _ us hl => match us, hl with | [_], _ => rfl⟩
  have g24 : Cal P w K mg base 2 "is_place" (spPlace K w) := ⟨f24, _, ["value"], ok24 F24 B g8 g25, PySem.W.mg_of X G a24, k24, F24.binds (ps := ["value"]) fun _ _ _ _ _ _ us hl => match us, hl with | [_], _ => rfl⟩
  have g23 : Cal P w K mg base 3 "is_point" (spPoint K w) := ⟨f23, _, ["value"], ok23 F23 B g2 g8 g24, PySem.W.mg_of X G a23, k23, F23.binds (ps := ["value"]) fun _ _ _ _ _ _ us hl => match us, hl with | [_], _ => rfl⟩
  have g22 : Cal P w K mg base 4 "is_difference" (spDiff K w) := ⟨f22, _, ["value"], ok22 F22 B g2 g23, PySem.W.mg_of X G a22, k22, F22.binds (ps := ["value"]) fun _ _ _ _ _ _ us hl => match us, hl with | [_], _ => rfl⟩
  have g21 : Cal P w K mg base 5 "require_differences" (spReq K w) := ⟨f21, _, ["value"], ok21 F21 B hM g22, PySem.W.mg_of X G a21, k21, F21.binds (ps := ["value"]) fun _ _ _ _ _ _ us hl => match us, hl with | [_], _ => rfl⟩
  have g17 : Cal P w K mg base 6 "fitting" (spFit K w) := ⟨f17, _, ["differences"], ok17 F17 B g21 g12, PySem.W.mg_of X G a17, k17, F17.binds (ps := ["differences"]) fun _ _ _ _ _ _ us hl => match us, hl with | [_], _ => rfl⟩
  have g18 : Cal P w K mg base 6 "is_fitting" (spIsFit K w) := ⟨f18, _, ["differences", "value"], ok18 F18 B g21 g10 g23 g1, PySem.W.mg_of X G a18, k18, F18.binds (ps := ["differences", "value"]) fun _ _ _ _ _ _ us hl => match us, hl with | [_, _], _ => rfl⟩
  have g19 : Cal P w K mg base 6 "ring" (spRing K w) := ⟨f19, _, ["differences"], ok19 F19 B g21 g13, PySem.W.mg_of X G a19, k19, F19.binds (ps := ["differences"]) fun _ _ _ _ _ _ us hl => match us, hl with | [_], _ => rfl⟩
  have g20 : Cal P w K mg base 6 "is_ring" (spIsRing K w) := ⟨f20, _, ["differences", "value"], ok20 F20 B g21 g3 g14, PySem.W.mg_of X G a20, k20, F20.binds (ps := ["differences", "value"]) fun _ _ _ _ _ _ us hl => match us, hl with | [_, _], _ => rfl⟩
  have g27 : Cal P w K mg base 1 "_law_dice" (spDice K w) := ⟨f27, _, ["_law_script", "_law_spot"], ok27 F27 B , PySem.W.mg_of X G a27, k27, F27.binds (ps := ["_law_script", "_law_spot"]) fun _ _ _ _ _ _ us hl => match us, hl with | [_, _], _ => rfl⟩
  have g28 : Cal P w K mg base 1 "_law_roll" (spRoll K w) := ⟨f28, _, ["_law_dice_here", "_law_total"], ok28 F28 B , PySem.W.mg_of X G a28, k28, F28.binds (ps := ["_law_dice_here", "_law_total"]) fun _ _ _ _ _ _ us hl => match us, hl with | [_, _], _ => rfl⟩
  have g29 : Cal P w K mg base 2 "_law_pick" (spPick K w) := ⟨f29, _, ["_law_dice_here", "_law_items"], ok29 F29 B g28, PySem.W.mg_of X G a29, k29, F29.binds (ps := ["_law_dice_here", "_law_items"]) fun _ _ _ _ _ _ us hl => match us, hl with | [_, _], _ => rfl⟩
  have g30 : Cal P w K mg base 1 "_law_is_integer" (spInt K w) := ⟨f30, _, ["_law_value"], ok30 F30 B , PySem.W.mg_of X G a30, k30, F30.binds (ps := ["_law_value"]) fun _ _ _ _ _ _ us hl => match us, hl with | [_], _ => rfl⟩
  have g31 : Cal P w K mg base 3 "_law_rows" (spRows K w) := ⟨f31, _, ["_law_dice_here"], ok31 F31 B g28 g29, PySem.W.mg_of X G a31, k31, F31.binds (ps := ["_law_dice_here"]) fun _ _ _ _ _ _ us hl => match us, hl with | [_], _ => rfl⟩
  have g32 : Cal P w K mg base 2 "_law_is_chain" (spChain K w) := ⟨f32, _, ["_law_rows_here", "_law_value"], ok32 F32 B g30, PySem.W.mg_of X G a32, k32, F32.binds (ps := ["_law_rows_here", "_law_value"]) fun _ _ _ _ _ _ us hl => match us, hl with | [_, _], _ => rfl⟩
  have g33 : Cal P w K mg base 2 "_law_are_numbers" (spNumbers K w) := ⟨f33, _, ["_law_rows_here", "_law_value"], ok33 F33 B g30, PySem.W.mg_of X G a33, k33, F33.binds (ps := ["_law_rows_here", "_law_value"]) fun _ _ _ _ _ _ us hl => match us, hl with | [_, _], _ => rfl⟩
  have g34 : Cal P w K mg base 3 "_law_near_chain" (spNearC K w) := ⟨f34, _, ["_law_dice_here", "_law_rows_here", "_law_value"], ok34 F34 B g28 g29, PySem.W.mg_of X G a34, k34, F34.binds (ps := ["_law_dice_here", "_law_rows_here", "_law_value"]) fun _ _ _ _ _ _ us hl => match us, hl with | [_, _, _], _ => rfl⟩
  have g35 : Cal P w K mg base 3 "_law_near_numbers" (spNearN K w) := ⟨f35, _, ["_law_dice_here", "_law_value"], ok35 F35 B g29, PySem.W.mg_of X G a35, k35, F35.binds (ps := ["_law_dice_here", "_law_value"]) fun _ _ _ _ _ _ us hl => match us, hl with | [_, _], _ => rfl⟩
  have g36 : CalG P w K mg base 7 "_law_right" (spRight K w) := ⟨f36, _, ["_law_dice_here"], ok36 F36 B g31 g17 g19 g34 g35 g32 g33 g20 g18, PySem.W.mg_of X G a36, k36, F36.binds (ps := ["_law_dice_here"]) fun _ _ _ _ _ _ us hl => match us, hl with | [_], _ => rfl⟩
  exact ok37 F37 B g36 g27 g20 g18
end Fc
open PySem PySem.W PyProof.Rows in
set_option maxRecDepth 100000 in
set_option maxHeartbeats 0 in
theorem PySem.Challenge.cw_forkcells_k10_near_rings_and_numbers_holds : PySem.Challenge.rw_forkcells_k10_near_rings_and_numbers.Holds := by
  w_on; o_law; k_head; (case hw => w_witness2)
  k_fill
  refine Fc.walkG (l := PySem.Challenge.rw_forkcells_k10_near_rings_and_numbers) (n := 63) (k := 8) (x := "_law_script") (sp := Fc.spLaw) rfl (by decide) rfl ⟨rfl, by decide, by decide⟩ (fun w h Y => PySem.W.kIn_of Y) ?F (fun K H a ns hl _ hS => ⟨ns, a, rfl, hS, hl, fun _ => rfl⟩)
  case F =>
    intro w mg fa h KX G hmg
    refine' Fc.all_mk KX G hmg ?a1 ?l1 ?c1 ?k1 ?a2 ?l2 ?c2 ?k2 ?a3 ?l3 ?c3 ?k3 ?a8 ?l8 ?c8 ?k8 ?a10 ?l10 ?c10 ?k10 ?a11 ?l11 ?c11 ?k11 ?a12 ?l12 ?c12 ?k12 ?a13 ?l13 ?c13 ?k13 ?a14 ?l14 ?c14 ?k14 ?a25 ?l25 ?c25 ?k25 ?a24 ?l24 ?c24 ?k24 ?a23 ?l23 ?c23 ?k23 ?a22 ?l22 ?c22 ?k22 ?a21 ?l21 ?c21 ?k21 ?a17 ?l17 ?c17 ?k17 ?a18 ?l18 ?c18 ?k18 ?a19 ?l19 ?c19 ?k19 ?a20 ?l20 ?c20 ?k20 ?a27 ?l27 ?c27 ?k27 ?a28 ?l28 ?c28 ?k28 ?a29 ?l29 ?c29 ?k29 ?a30 ?l30 ?c30 ?k30 ?a31 ?l31 ?c31 ?k31 ?a32 ?l32 ?c32 ?k32 ?a33 ?l33 ?c33 ?k33 ?a34 ?l34 ?c34 ?k34 ?a35 ?l35 ?c35 ?k35 ?a36 ?l36 ?c36 ?k36 ?a37 ?l37 ?c37 ?k37 ?aM ?z_isinstance ?z_int ?z_bool ?z_str ?z_tuple ?z_dict ?z_list ?z_len ?z_abs ?z_range ?z_sorted ?z_sum ?z_max ?z_min ?z_repr
    (case a1 => k_is)
    (case l1 => k_is)
    (case c1 => k_is)
    (case k1 => k_is)
    (case a2 => k_is)
    (case l2 => k_is)
    (case c2 => k_is)
    (case k2 => k_is)
    (case a3 => k_is)
    (case l3 => k_is)
    (case c3 => k_is)
    (case k3 => k_is)
    (case a8 => k_is)
    (case l8 => k_is)
    (case c8 => k_is)
    (case k8 => k_is)
    (case a10 => k_is)
    (case l10 => k_is)
    (case c10 => k_is)
    (case k10 => k_is)
    (case a11 => k_is)
    (case l11 => k_is)
    (case c11 => k_is)
    (case k11 => k_is)
    (case a12 => k_is)
    (case l12 => k_is)
    (case c12 => k_is)
    (case k12 => k_is)
    (case a13 => k_is)
    (case l13 => k_is)
    (case c13 => k_is)
    (case k13 => k_is)
    (case a14 => k_is)
    (case l14 => k_is)
    (case c14 => k_is)
    (case k14 => k_is)
    (case a25 => k_is)
    (case l25 => k_is)
    (case c25 => k_is)
    (case k25 => k_is)
    (case a24 => k_is)
    (case l24 => k_is)
    (case c24 => k_is)
    (case k24 => k_is)
    (case a23 => k_is)
    (case l23 => k_is)
    (case c23 => k_is)
    (case k23 => k_is)
    (case a22 => k_is)
    (case l22 => k_is)
    (case c22 => k_is)
    (case k22 => k_is)
    (case a21 => k_is)
    (case l21 => k_is)
    (case c21 => k_is)
    (case k21 => k_is)
    (case a17 => k_is)
    (case l17 => k_is)
    (case c17 => k_is)
    (case k17 => k_is)
    (case a18 => k_is)
    (case l18 => k_is)
    (case c18 => k_is)
    (case k18 => k_is)
    (case a19 => k_is)
    (case l19 => k_is)
    (case c19 => k_is)
    (case k19 => k_is)
    (case a20 => k_is)
    (case l20 => k_is)
    (case c20 => k_is)
    (case k20 => k_is)
    (case a27 => k_is)
    (case l27 => k_is)
    (case c27 => k_is)
    (case k27 => k_is)
    (case a28 => k_is)
    (case l28 => k_is)
    (case c28 => k_is)
    (case k28 => k_is)
    (case a29 => k_is)
    (case l29 => k_is)
    (case c29 => k_is)
    (case k29 => k_is)
    (case a30 => k_is)
    (case l30 => k_is)
    (case c30 => k_is)
    (case k30 => k_is)
    (case a31 => k_is)
    (case l31 => k_is)
    (case c31 => k_is)
    (case k31 => k_is)
    (case a32 => k_is)
    (case l32 => k_is)
    (case c32 => k_is)
    (case k32 => k_is)
    (case a33 => k_is)
    (case l33 => k_is)
    (case c33 => k_is)
    (case k33 => k_is)
    (case a34 => k_is)
    (case l34 => k_is)
    (case c34 => k_is)
    (case k34 => k_is)
    (case a35 => k_is)
    (case l35 => k_is)
    (case c35 => k_is)
    (case k35 => k_is)
    (case a36 => k_is)
    (case l36 => k_is)
    (case c36 => k_is)
    (case k36 => k_is)
    (case a37 => k_is)
    (case l37 => k_is)
    (case c37 => k_is)
    (case k37 => k_is)
    (case aM => k_is)
    (case z_isinstance => k_is)
    (case z_int => k_is)
    (case z_bool => k_is)
    (case z_str => k_is)
    (case z_tuple => k_is)
    (case z_dict => k_is)
    (case z_list => k_is)
    (case z_len => k_is)
    (case z_abs => k_is)
    (case z_range => k_is)
    (case z_sorted => k_is)
    (case z_sum => k_is)
    (case z_max => k_is)
    (case z_min => k_is)
    (case z_repr => k_is)
