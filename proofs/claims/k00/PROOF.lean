import PyProof.Rows.All
import Wide.All
import OpenK.AllK
import Wide.FinOn
import HandS.ForMost
import KE.KeyNested
import KE.KDictWalk
import KE.KDictCopyH
import HandS.Conv
import HandS.IsInst
import HandS.DictComp
import HandS.Words
import HandS.Codes
import HandS.Style
import HandS.TupAny
import HandS.Wide
import HandS.OwnEq
import HandS.Property
import HandS.Defaults
import HandS.FStr
import HandS.ForExc
import PyProof.SetRoads
import HandS.Strs
import HandS.SetBool
import KE.KCallOwn
import KE.KFmtOwn
import PyProof.InstEq
import KE.DataEq
import HandS.StrMore
import HandS.TryOnly
import PyProof.StrOps2
import HandS.ExcValue
import HandS.ExcField
import HandS.ExcInit
import HandS.ExcIs
import KE.KExcInit
import KE.KExcIs
import HandS.TryMany
import HandS.Lambda
import KE.GoesMore
import PyProof.TupleOfStr
import HandS.NestedK
import HandS.EndTab
import KE.KNestM
import PySem.Challenge.RW_forkcells_k00_errors_names_and_frames
set_option Elab.async false
set_option linter.all false
set_option maxRecDepth 100000
set_option maxHeartbeats 4000000
/-! Tables whose keys are flat values and tuples together. -/
namespace Fc
open PySem
abbrev NK := NestedKey
/-- the entries es of a table bear the keys ks, one by one -/
structure Tab (w : World) (h : Heap) (ks : List NK) (es : Array DictEntry) : Prop where
  size : es.size = ks.length
  each : ∀ j (hj : j < es.size), ∃ k, ks[j]? = some k ∧ es[j].hash = k.hash w ∧ NestedIs h k es[j].key ∧ k.depth ≤ 8
  nd : ks.Nodup
/-- where a key stands -/
def posK (ks : List NK) (k : NK) : Option Nat := ks.findIdx? fun x => decide (x = k)
theorem posK_none {ks : List NK} {k : NK} (h : ∀ j : Nat, ks[j]? ≠ some k) : posK ks k = none := by
  unfold posK
  rw [List.findIdx?_eq_none_iff]
  intro x hx
  obtain ⟨j, hj⟩ := List.mem_iff_getElem?.mp hx
  exact decide_eq_false fun e => h j (by rw [hj, e])
theorem posK_some {ks : List NK} (nd : ks.Nodup) {k : NK} {j : Nat} (h : ks[j]? = some k) : posK ks k = some j := by
  obtain ⟨hj, e⟩ := List.getElem?_eq_some_iff.mp h
  unfold posK
  refine List.findIdx?_eq_some_iff_getElem.mpr ⟨hj, decide_eq_true e, fun i hi => ?_⟩
  intro q
  have e2 : ks[i] = k := of_decide_eq_true q
  exact Nat.ne_of_lt hi ((List.getElem_inj nd).mp (e2.trans e.symm))
section
variable {A : Around} {P : Program} {w : World} {s : Shared} {E : Value → Shared → Prop}
/-- what the look for k has met among the first i places -/
def Met (ks : List NK) (k : NK) (i : Nat) (hit : Option Nat) : Prop :=
  (hit = none ∧ ∀ j, j < i → ks[j]? ≠ some k) ∨ ∃ j, hit = some j ∧ j < i ∧ ks[j]? = some k
theorem Met.go {ks : List NK} {k : NK} {i i' : Nat} {hit : Option Nat} (m : Met ks k i hit) (hi : i ≤ i') (no : ∀ j, i ≤ j → j < i' → ks[j]? ≠ some k) : Met ks k i' hit := by
  rcases m with ⟨a, b⟩ | ⟨j, a, b, c⟩
  · refine .inl ⟨a, fun j hj => ?_⟩
    rcases Nat.lt_or_ge j i with q | q
    · exact b j q
    · exact no j q hj
  · exact .inr ⟨j, a, Nat.lt_of_lt_of_le b hi, c⟩
theorem Met.fin {ks : List NK} {k : NK} {hit : Option Nat} (nd : ks.Nodup) (m : Met ks k ks.length hit) : hit = posK ks k := by
  rcases m with ⟨a, b⟩ | ⟨j, a, b, c⟩
  · rw [a, posK_none]
    intro j q
    exact b j (List.getElem?_eq_some_iff.mp q).1 q
  · rw [a, posK_some nd c]
theorem may_quiet {k : NK} {key : Value} {st : List Value} {Q : Bool → Shared → Prop} (hk : NestedIs s.heap k key) (hd : k.depth ≤ 8) (hs : ∀ v ∈ st, ∃ k' : NK, NestedIs s.heap k' v ∧ k'.depth ≤ 8) (h : Q false s) :
    wpAny (model P w) A (tableMayTell key st) Q E s := by
  unfold tableMayTell
  by_cases e : st.isEmpty = true
  · rw [if_pos e]
    exact wpAny_pure h
  rw [if_neg e]
  refine wpAny_bind (quiet_key k key 8 s hk hd A E _ ?_)
  simp only [Bool.not_true, Bool.false_eq_true, if_false]
  refine wpAny_bind (wpAny_forIn_list _ (fun l r s' => (s' = s ∧ r = (none, ())) ∧ ∀ v ∈ l, v ∈ st) _ ?_ ?_ _ _ ⟨⟨rfl, rfl⟩, fun _ z => z⟩)
  · rintro v l r s' ⟨⟨rfl, rfl⟩, all⟩
    obtain ⟨k', h1, h2⟩ := hs v (all v List.mem_cons_self)
    refine wpAny_bind (quiet_key k' v 8 s' h1 h2 A E _ ?_)
    simp only [Bool.not_true, Bool.false_eq_true, if_false]
    exact wpAny_pure ⟨⟨rfl, rfl⟩, fun v hv => all v (List.mem_cons_of_mem _ hv)⟩
  · rintro r s' ⟨⟨rfl, rfl⟩, _⟩
    exact wpAny_pure h
/-- the places that are asked: their hash is the key's -/
abbrev hashAt (es : Array DictEntry) (j : Nat) : Option Int := es[j]?.map (·.hash)
theorem Tab.key {h : Heap} {ks : List NK} {es : Array DictEntry} (T : Tab w h ks es) {k : NK} {j : Nat} (e : ks[j]? = some k) : hashAt es j = some (k.hash w) := by
  have hj : j < es.size := by rw [T.size]; exact (List.getElem?_eq_some_iff.mp e).1
  obtain ⟨k', e', hh, _⟩ := T.each j hj
  rw [e] at e'
  cases e'
  unfold hashAt
  rw [Array.getElem?_eq_getElem hj, Option.map_some, hh]
theorem Tab.stored {h : Heap} {ks : List NK} {es : Array DictEntry} (T : Tab w h ks es) (f : Nat → Bool) : ∀ v ∈ ((List.range es.size).filter f).filterMap (fun i => es[i]?.map (·.key)), ∃ k' : NK, NestedIs h k' v ∧ k'.depth ≤ 8 := by
  intro v hv
  obtain ⟨i, _, e⟩ := List.mem_filterMap.mp hv
  cases q : es[i]? with
  | none => rw [q] at e; cases e
  | some en =>
    rw [q] at e
    obtain ⟨hi, e2⟩ := Array.getElem?_eq_some_iff.mp q
    obtain ⟨k, _, _, n, d⟩ := T.each i hi
    rw [e2] at n
    have e3 : en.key = v := by simpa using e
    rw [e3] at n
    exact ⟨k, n, d⟩
theorem dFind {d : Addr} {o : Obj} {es : Array DictEntry} {ep : Nat} {ks : List NK} {k : NK} {key : Value} {Q : Option Nat → Shared → Prop} (hu : A.units + 8 < cLine) (T : Tab w s.heap ks es)
    (hk : NestedIs s.heap k key) (hkd : k.depth ≤ 8) (ho : s.heap.get? d = some o) (hd : o.data = .dict es ep) (h : Q (posK ks k) s) : wpAny (model P w) A (dictFind d key (k.hash w)) Q E s := by
  have hst := T.stored (w := w) (fun i => hashAt es i == some (k.hash w))
  -- one step of the walk: what is between two places of the same hash is another key
  have skip : ∀ (i x : Nat) (hit : Option Nat), Met ks k i hit → i ≤ x → (∀ j, i ≤ j → j < x → (hashAt es j == some (k.hash w)) = false) → Met ks k x hit := fun i x hit m hi no => m.go hi fun j a b e => by
    have q := no j a b
    rw [T.key e] at q
    simp at q
  have eqs : ∀ (x : Nat) (hx : x < es.size) (k' : NK), ks[x]? = some k' → ∀ (Q' : Bool → Shared → Prop), Q' (decide (k' = k)) s → wpAny (model P w) A (eqBool es[x].key key) Q' E s := fun x hx k' e Q' q => by
    obtain ⟨k2, e2, _, n, dd⟩ := T.each x hx
    rw [e] at e2
    cases e2
    exact eqAt_key k' k A s _ _ n hk (by omega) _ _ _ _ (by rw [← NestedKey.decide_eq]; exact q)
  unfold dictFind
  try with_reducible refine wpAny_holding ?_
  refine wpAny_bind (wpAny_dictEntries ho hd ?_)
  dsimp only
  have text : ∀ (x : Str) (t : Tok), key = .str x t → (es.all fun e => isExactStrKey e.key) = true → wpAny (model P w) A (foundByValue d key es x) Q E s := by
    intro x t ek ha
    subst ek
    cases hk
    have exact' : ∀ j (hj : j < es.size) (k' : NK), ks[j]? = some k' → ∃ y u, k' = .text y ∧ es[j].key = .str y u := fun j hj k' e => by
      obtain ⟨k2, e2, _, n, _⟩ := T.each j hj
      rw [e] at e2
      cases e2
      have z : isExactStrKey es[j].key = true := Array.all_eq_true.mp ha j hj
      generalize es[j].key = v at n z
      cases n with
      | text y u => exact ⟨y, u, rfl, rfl⟩
      | none => cases z
      | bool e => cases z
      | int i u => cases z
      | tup a b c e => cases z
    unfold foundByValue
    cases hf : es.findIdx? (fun e => e.key.isStr x) with
    | none =>
      refine wpAny_pure ?_
      rw [posK_none (k := NestedKey.text x) (fun j e => ?_)] at h
      · exact h
      · have hj : j < es.size := by rw [T.size]; exact (List.getElem?_eq_some_iff.mp e).1
        obtain ⟨y, u, e1, e2⟩ := exact' j hj _ e
        cases e1
        have z := Array.findIdx?_eq_none_iff.mp hf es[j] (Array.getElem_mem hj)
        rw [e2] at z
        simp [Value.isStr] at z
    | some i =>
      obtain ⟨hi, z, _⟩ := Array.findIdx?_eq_some_iff_getElem.mp hf
      have hik : i < ks.length := by rw [← T.size]; exact hi
      obtain ⟨y, u, e1, e2⟩ := exact' i hi ks[i] (List.getElem?_eq_getElem hik)
      rw [e2] at z
      have exy : y = x := by
        have z2 : (y == x) = true := z
        exact eq_of_beq z2
      subst exy
      have hki : ks[i]? = some (NestedKey.text y) := by rw [List.getElem?_eq_getElem hik, e1]
      rw [posK_some T.nd hki] at h
      simp only [Array.getElem?_eq_getElem hi]
      refine wpAny_bind (wpAny_dictEpoch ho hd (wpAny_bind (eqs i hi _ hki _ (wpAny_bind (wpAny_dictEpoch ho hd ?_)))))
      simp only [bne_self_eq_false, Bool.false_eq_true, if_false, decide_true, if_true]
      exact wpAny_bind (wpAny_rule (wpAny_pure h))
  have walk : wpAny (model P w) A (dictWalkPlain d key (k.hash w) es (placesWithHash es.size (fun i => es[i]?.map (·.hash)) (k.hash w))) Q E s := by
    unfold dictWalkPlain
    refine wpAny_bind (wpAny_forIn_list _ (fun l r s' => (s' = s ∧ r = (none, ())) ∧ ∃ i, i ≤ es.size ∧ Met ks k i none ∧ l = (List.range' i (es.size - i)).filter (fun j => hashAt es j == some (k.hash w))) _ ?_ ?_ _ _
      ⟨⟨rfl, rfl⟩, 0, Nat.zero_le _, .inl ⟨rfl, fun j hj => absurd hj (Nat.not_lt_zero j)⟩, by rw [placesWithHash, List.range_eq_range', Nat.sub_zero]⟩)
    · rintro x l r s' ⟨⟨rfl, rfl⟩, i, hi, m, el⟩
      obtain ⟨h1, h2, _, h4, h5⟩ := filter_range'_cons _ _ _ _ _ el.symm
      have hx : x < es.size := by omega
      have m1 := skip i x none m h1 h4
      obtain ⟨k', ek, hh, n, dd⟩ := T.each x hx
      have l' : l = (List.range' (x + 1) (es.size - (x + 1))).filter (fun j => hashAt es j == some (k.hash w)) := by rw [h5]; congr 2; omega
      have on : ¬ k' = k → Met ks k (x + 1) none := fun ne => m1.go (Nat.le_succ x) fun j a b q => by
        have e : j = x := by omega
        rw [e, ek] at q
        exact ne (Option.some.inj q)
      simp only [Array.getElem?_eq_getElem hx]
      by_cases eh : (es[x].hash == k.hash w) = true
      · rw [if_pos eh]
        refine wpAny_bind (wpAny_dictEpoch ho hd (wpAny_bind (eqs x hx k' ek _ (wpAny_bind (wpAny_dictEpoch ho hd ?_)))))
        simp only [bne_self_eq_false, Bool.false_eq_true, if_false]
        by_cases q : k' = k
        · rw [q] at ek
          rw [posK_some T.nd ek] at h
          simp only [decide_eq_true q, if_true]
          exact wpAny_bind (wpAny_rule (wpAny_pure (wpAny_pure h)))
        · simp only [decide_eq_false q, Bool.false_eq_true, if_false]
          exact wpAny_bind (wpAny_rule (wpAny_pure ⟨⟨rfl, rfl⟩, x + 1, hx, on q, l'⟩))
      · rw [if_neg eh]
        refine wpAny_pure ⟨⟨rfl, rfl⟩, x + 1, hx, on fun q => ?_, l'⟩
        rw [hh, q] at eh
        exact eh (beq_self_eq_true _)
    · rintro r s' ⟨⟨rfl, rfl⟩, i, hi, m, el⟩
      have m1 := skip i es.size none m hi fun j a b => by
        have z := List.filter_eq_nil_iff.mp el.symm j (List.mem_range'_1.mpr ⟨a, by omega⟩)
        simpa using z
      rw [T.size] at m1
      rw [← m1.fin T.nd] at h
      exact wpAny_pure h
  have noStale : ∀ a : Addr, key = .ref a → ¬ (es.any fun e => e.key == key && e.hash != k.hash w) = true := by
    intro a ek z
    rw [← Array.any_toList, List.any_eq_true] at z
    obtain ⟨e, he, z⟩ := z
    obtain ⟨j, hj, e2⟩ := Array.mem_iff_getElem.mp (Array.mem_toList_iff.mp he)
    obtain ⟨k', ek', hh, n, _⟩ := T.each j hj
    rw [e2] at hh n
    simp only [Bool.and_eq_true, beq_iff_eq, bne_iff_ne] at z
    rw [z.1] at n
    rw [NestedIs.inj _ _ _ n hk] at hh
    exact z.2 hh
  split
  · rename_i x t
    by_cases ha : (es.all fun e => isExactStrKey e.key) = true
    · rw [if_pos ha]
      exact text x t rfl ha
    · rw [if_neg ha]
      by_cases hall : ((Value.str x t :: (placesWithHash es.size (fun i => es[i]?.map (·.hash)) (k.hash w)).filterMap fun i => es[i]?.map (·.key)).all carriedByValue) = true
      · rw [if_pos hall]
        exact walk
      · rw [if_neg hall]
        dsimp only
        by_cases hone : (((placesWithHash es.size (fun i => es[i]?.map (·.hash)) (k.hash w)).filterMap fun i => es[i]?.map (·.key)) == [Value.str x t]) = true
        · rw [if_pos hone]
          refine wpAny_bind (wpAny_pure ?_)
          simp only [Bool.false_and, Bool.false_eq_true, if_false]
          refine wpAny_bind (wpAny_forIn_list _ (fun l r s' => s' = s ∧ ∃ i hit, r = (none, hit) ∧ i ≤ es.size ∧ Met ks k i hit ∧ l = (List.range' i (es.size - i)).filter (fun j => hashAt es j == some (k.hash w))) _ ?_ ?_ _ _
            ⟨rfl, 0, none, rfl, Nat.zero_le _, .inl ⟨rfl, fun j hj => absurd hj (Nat.not_lt_zero j)⟩, by rw [placesWithHash, List.range_eq_range', Nat.sub_zero]⟩)
          · rintro x l r s' ⟨rfl, i, hit, rfl, hi, m, el⟩
            obtain ⟨h1, h2, _, h4, h5⟩ := filter_range'_cons _ _ _ _ _ el.symm
            have hx : x < es.size := by omega
            have m1 := skip i x hit m h1 h4
            obtain ⟨k', ek, hh, n, dd⟩ := T.each x hx
            have l' : l = (List.range' (x + 1) (es.size - (x + 1))).filter (fun j => hashAt es j == some (k.hash w)) := by rw [h5]; congr 2; omega
            have on : ¬ k' = k → Met ks k (x + 1) hit := fun ne => m1.go (Nat.le_succ x) fun j a b q => by
              have e : j = x := by omega
              rw [e, ek] at q
              exact ne (Option.some.inj q)
            simp only [Array.getElem?_eq_getElem hx]
            by_cases eh : (es[x].hash == k.hash w) = true
            · rw [if_pos eh]
              refine wpAny_bind (wpAny_dictEpoch ho hd (wpAny_bind (eqs x hx k' ek _ (wpAny_bind (wpAny_dictEpoch ho hd ?_)))))
              simp only [bne_self_eq_false, Bool.false_eq_true, if_false]
              by_cases q : k' = k
              · rw [q] at ek
                have eh0 : hit = none := by
                  rcases m1 with ⟨z, _⟩ | ⟨j, _, hj, e⟩
                  · exact z
                  · exact absurd ((List.getElem?_inj (List.getElem?_eq_some_iff.mp e).1 T.nd).mp (e.trans ek.symm)) (Nat.ne_of_lt hj)
                subst eh0
                simp only [decide_eq_true q, if_true, Option.isSome_none, Bool.false_eq_true, if_false]
                refine wpAny_bind (wpAny_rule ?_)
                split
                · rw [posK_some T.nd ek] at h
                  exact wpAny_pure (wpAny_pure h)
                · exact wpAny_pure ⟨rfl, x + 1, some x, rfl, hx, .inr ⟨x, rfl, Nat.lt_succ_self x, ek⟩, l'⟩
              · simp only [decide_eq_false q, Bool.false_eq_true, if_false]
                refine wpAny_bind (wpAny_rule ?_)
                exact wpAny_pure ⟨rfl, x + 1, hit, rfl, hx, on q, l'⟩
            · rw [if_neg eh]
              refine wpAny_pure ⟨rfl, x + 1, hit, rfl, hx, on fun q => ?_, l'⟩
              rw [hh, q] at eh
              exact eh (beq_self_eq_true _)
          · rintro r s' ⟨rfl, i, hit, rfl, hi, m, el⟩
            have m1 := skip i es.size hit m hi fun j a b => by
              have z := List.filter_eq_nil_iff.mp el.symm j (List.mem_range'_1.mpr ⟨a, by omega⟩)
              simpa using z
            rw [T.size] at m1
            rw [← m1.fin T.nd] at h
            exact wpAny_pure h
        · rw [if_neg hone]
          refine wpAny_bind (may_quiet hk hkd hst ?_)
          simp only [Bool.false_and, Bool.false_eq_true, if_false]
          refine wpAny_bind (wpAny_forIn_list _ (fun l r s' => s' = s ∧ ∃ i hit, r = (none, hit) ∧ i ≤ es.size ∧ Met ks k i hit ∧ l = (List.range' i (es.size - i)).filter (fun j => hashAt es j == some (k.hash w))) _ ?_ ?_ _ _
            ⟨rfl, 0, none, rfl, Nat.zero_le _, .inl ⟨rfl, fun j hj => absurd hj (Nat.not_lt_zero j)⟩, by rw [placesWithHash, List.range_eq_range', Nat.sub_zero]⟩)
          · rintro x l r s' ⟨rfl, i, hit, rfl, hi, m, el⟩
            obtain ⟨h1, h2, _, h4, h5⟩ := filter_range'_cons _ _ _ _ _ el.symm
            have hx : x < es.size := by omega
            have m1 := skip i x hit m h1 h4
            obtain ⟨k', ek, hh, n, dd⟩ := T.each x hx
            have l' : l = (List.range' (x + 1) (es.size - (x + 1))).filter (fun j => hashAt es j == some (k.hash w)) := by rw [h5]; congr 2; omega
            have on : ¬ k' = k → Met ks k (x + 1) hit := fun ne => m1.go (Nat.le_succ x) fun j a b q => by
              have e : j = x := by omega
              rw [e, ek] at q
              exact ne (Option.some.inj q)
            simp only [Array.getElem?_eq_getElem hx]
            by_cases eh : (es[x].hash == k.hash w) = true
            · rw [if_pos eh]
              refine wpAny_bind (wpAny_dictEpoch ho hd (wpAny_bind (eqs x hx k' ek _ (wpAny_bind (wpAny_dictEpoch ho hd ?_)))))
              simp only [bne_self_eq_false, Bool.false_eq_true, if_false]
              by_cases q : k' = k
              · rw [q] at ek
                have eh0 : hit = none := by
                  rcases m1 with ⟨z, _⟩ | ⟨j, _, hj, e⟩
                  · exact z
                  · exact absurd ((List.getElem?_inj (List.getElem?_eq_some_iff.mp e).1 T.nd).mp (e.trans ek.symm)) (Nat.ne_of_lt hj)
                subst eh0
                simp only [decide_eq_true q, if_true, Option.isSome_none, Bool.false_eq_true, if_false]
                refine wpAny_bind (wpAny_rule ?_)
                split
                · rw [posK_some T.nd ek] at h
                  exact wpAny_pure (wpAny_pure h)
                · exact wpAny_pure ⟨rfl, x + 1, some x, rfl, hx, .inr ⟨x, rfl, Nat.lt_succ_self x, ek⟩, l'⟩
              · simp only [decide_eq_false q, Bool.false_eq_true, if_false]
                refine wpAny_bind (wpAny_rule ?_)
                exact wpAny_pure ⟨rfl, x + 1, hit, rfl, hx, on q, l'⟩
            · rw [if_neg eh]
              refine wpAny_pure ⟨rfl, x + 1, hit, rfl, hx, on fun q => ?_, l'⟩
              rw [hh, q] at eh
              exact eh (beq_self_eq_true _)
          · rintro r s' ⟨rfl, i, hit, rfl, hi, m, el⟩
            have m1 := skip i es.size hit m hi fun j a b => by
              have z := List.filter_eq_nil_iff.mp el.symm j (List.mem_range'_1.mpr ⟨a, by omega⟩)
              simpa using z
            rw [T.size] at m1
            rw [← m1.fin T.nd] at h
            exact wpAny_pure h
  · by_cases hall : ((key :: (placesWithHash es.size (fun i => es[i]?.map (·.hash)) (k.hash w)).filterMap fun i => es[i]?.map (·.key)).all carriedByValue) = true
    · rw [if_pos hall]
      exact walk
    · rw [if_neg hall]
      split
      · rename_i a _z
        rw [if_neg (noStale a rfl)]
        by_cases hone : (((placesWithHash es.size (fun i => es[i]?.map (·.hash)) (k.hash w)).filterMap fun i => es[i]?.map (·.key)) == [Value.ref a]) = true
        · rw [if_pos hone]
          refine wpAny_bind (wpAny_pure ?_)
          simp only [Bool.false_and, Bool.false_eq_true, if_false]
          refine wpAny_bind (wpAny_forIn_list _ (fun l r s' => s' = s ∧ ∃ i hit, r = (none, hit) ∧ i ≤ es.size ∧ Met ks k i hit ∧ l = (List.range' i (es.size - i)).filter (fun j => hashAt es j == some (k.hash w))) _ ?_ ?_ _ _
            ⟨rfl, 0, none, rfl, Nat.zero_le _, .inl ⟨rfl, fun j hj => absurd hj (Nat.not_lt_zero j)⟩, by rw [placesWithHash, List.range_eq_range', Nat.sub_zero]⟩)
          · rintro x l r s' ⟨rfl, i, hit, rfl, hi, m, el⟩
            obtain ⟨h1, h2, _, h4, h5⟩ := filter_range'_cons _ _ _ _ _ el.symm
            have hx : x < es.size := by omega
            have m1 := skip i x hit m h1 h4
            obtain ⟨k', ek, hh, n, dd⟩ := T.each x hx
            have l' : l = (List.range' (x + 1) (es.size - (x + 1))).filter (fun j => hashAt es j == some (k.hash w)) := by rw [h5]; congr 2; omega
            have on : ¬ k' = k → Met ks k (x + 1) hit := fun ne => m1.go (Nat.le_succ x) fun j a b q => by
              have e : j = x := by omega
              rw [e, ek] at q
              exact ne (Option.some.inj q)
            simp only [Array.getElem?_eq_getElem hx]
            by_cases eh : (es[x].hash == k.hash w) = true
            · rw [if_pos eh]
              refine wpAny_bind (wpAny_dictEpoch ho hd (wpAny_bind (eqs x hx k' ek _ (wpAny_bind (wpAny_dictEpoch ho hd ?_)))))
              simp only [bne_self_eq_false, Bool.false_eq_true, if_false]
              by_cases q : k' = k
              · rw [q] at ek
                have eh0 : hit = none := by
                  rcases m1 with ⟨z, _⟩ | ⟨j, _, hj, e⟩
                  · exact z
                  · exact absurd ((List.getElem?_inj (List.getElem?_eq_some_iff.mp e).1 T.nd).mp (e.trans ek.symm)) (Nat.ne_of_lt hj)
                subst eh0
                simp only [decide_eq_true q, if_true, Option.isSome_none, Bool.false_eq_true, if_false]
                refine wpAny_bind (wpAny_rule ?_)
                split
                · rw [posK_some T.nd ek] at h
                  exact wpAny_pure (wpAny_pure h)
                · exact wpAny_pure ⟨rfl, x + 1, some x, rfl, hx, .inr ⟨x, rfl, Nat.lt_succ_self x, ek⟩, l'⟩
              · simp only [decide_eq_false q, Bool.false_eq_true, if_false]
                refine wpAny_bind (wpAny_rule ?_)
                exact wpAny_pure ⟨rfl, x + 1, hit, rfl, hx, on q, l'⟩
            · rw [if_neg eh]
              refine wpAny_pure ⟨rfl, x + 1, hit, rfl, hx, on fun q => ?_, l'⟩
              rw [hh, q] at eh
              exact eh (beq_self_eq_true _)
          · rintro r s' ⟨rfl, i, hit, rfl, hi, m, el⟩
            have m1 := skip i es.size hit m hi fun j a b => by
              have z := List.filter_eq_nil_iff.mp el.symm j (List.mem_range'_1.mpr ⟨a, by omega⟩)
              simpa using z
            rw [T.size] at m1
            rw [← m1.fin T.nd] at h
            exact wpAny_pure h
        · rw [if_neg hone]
          refine wpAny_bind (may_quiet hk hkd hst ?_)
          simp only [Bool.false_and, Bool.false_eq_true, if_false]
          refine wpAny_bind (wpAny_forIn_list _ (fun l r s' => s' = s ∧ ∃ i hit, r = (none, hit) ∧ i ≤ es.size ∧ Met ks k i hit ∧ l = (List.range' i (es.size - i)).filter (fun j => hashAt es j == some (k.hash w))) _ ?_ ?_ _ _
            ⟨rfl, 0, none, rfl, Nat.zero_le _, .inl ⟨rfl, fun j hj => absurd hj (Nat.not_lt_zero j)⟩, by rw [placesWithHash, List.range_eq_range', Nat.sub_zero]⟩)
          · rintro x l r s' ⟨rfl, i, hit, rfl, hi, m, el⟩
            obtain ⟨h1, h2, _, h4, h5⟩ := filter_range'_cons _ _ _ _ _ el.symm
            have hx : x < es.size := by omega
            have m1 := skip i x hit m h1 h4
            obtain ⟨k', ek, hh, n, dd⟩ := T.each x hx
            have l' : l = (List.range' (x + 1) (es.size - (x + 1))).filter (fun j => hashAt es j == some (k.hash w)) := by rw [h5]; congr 2; omega
            have on : ¬ k' = k → Met ks k (x + 1) hit := fun ne => m1.go (Nat.le_succ x) fun j a b q => by
              have e : j = x := by omega
              rw [e, ek] at q
              exact ne (Option.some.inj q)
            simp only [Array.getElem?_eq_getElem hx]
            by_cases eh : (es[x].hash == k.hash w) = true
            · rw [if_pos eh]
              refine wpAny_bind (wpAny_dictEpoch ho hd (wpAny_bind (eqs x hx k' ek _ (wpAny_bind (wpAny_dictEpoch ho hd ?_)))))
              simp only [bne_self_eq_false, Bool.false_eq_true, if_false]
              by_cases q : k' = k
              · rw [q] at ek
                have eh0 : hit = none := by
                  rcases m1 with ⟨z, _⟩ | ⟨j, _, hj, e⟩
                  · exact z
                  · exact absurd ((List.getElem?_inj (List.getElem?_eq_some_iff.mp e).1 T.nd).mp (e.trans ek.symm)) (Nat.ne_of_lt hj)
                subst eh0
                simp only [decide_eq_true q, if_true, Option.isSome_none, Bool.false_eq_true, if_false]
                refine wpAny_bind (wpAny_rule ?_)
                split
                · rw [posK_some T.nd ek] at h
                  exact wpAny_pure (wpAny_pure h)
                · exact wpAny_pure ⟨rfl, x + 1, some x, rfl, hx, .inr ⟨x, rfl, Nat.lt_succ_self x, ek⟩, l'⟩
              · simp only [decide_eq_false q, Bool.false_eq_true, if_false]
                refine wpAny_bind (wpAny_rule ?_)
                exact wpAny_pure ⟨rfl, x + 1, hit, rfl, hx, on q, l'⟩
            · rw [if_neg eh]
              refine wpAny_pure ⟨rfl, x + 1, hit, rfl, hx, on fun q => ?_, l'⟩
              rw [hh, q] at eh
              exact eh (beq_self_eq_true _)
          · rintro r s' ⟨rfl, i, hit, rfl, hi, m, el⟩
            have m1 := skip i es.size hit m hi fun j a b => by
              have z := List.filter_eq_nil_iff.mp el.symm j (List.mem_range'_1.mpr ⟨a, by omega⟩)
              simpa using z
            rw [T.size] at m1
            rw [← m1.fin T.nd] at h
            exact wpAny_pure h
      · by_cases hone : (((placesWithHash es.size (fun i => es[i]?.map (·.hash)) (k.hash w)).filterMap fun i => es[i]?.map (·.key)) == [key]) = true
        · rw [if_pos hone]
          refine wpAny_bind (wpAny_pure ?_)
          simp only [Bool.false_and, Bool.false_eq_true, if_false]
          refine wpAny_bind (wpAny_forIn_list _ (fun l r s' => s' = s ∧ ∃ i hit, r = (none, hit) ∧ i ≤ es.size ∧ Met ks k i hit ∧ l = (List.range' i (es.size - i)).filter (fun j => hashAt es j == some (k.hash w))) _ ?_ ?_ _ _
            ⟨rfl, 0, none, rfl, Nat.zero_le _, .inl ⟨rfl, fun j hj => absurd hj (Nat.not_lt_zero j)⟩, by rw [placesWithHash, List.range_eq_range', Nat.sub_zero]⟩)
          · rintro x l r s' ⟨rfl, i, hit, rfl, hi, m, el⟩
            obtain ⟨h1, h2, _, h4, h5⟩ := filter_range'_cons _ _ _ _ _ el.symm
            have hx : x < es.size := by omega
            have m1 := skip i x hit m h1 h4
            obtain ⟨k', ek, hh, n, dd⟩ := T.each x hx
            have l' : l = (List.range' (x + 1) (es.size - (x + 1))).filter (fun j => hashAt es j == some (k.hash w)) := by rw [h5]; congr 2; omega
            have on : ¬ k' = k → Met ks k (x + 1) hit := fun ne => m1.go (Nat.le_succ x) fun j a b q => by
              have e : j = x := by omega
              rw [e, ek] at q
              exact ne (Option.some.inj q)
            simp only [Array.getElem?_eq_getElem hx]
            by_cases eh : (es[x].hash == k.hash w) = true
            · rw [if_pos eh]
              refine wpAny_bind (wpAny_dictEpoch ho hd (wpAny_bind (eqs x hx k' ek _ (wpAny_bind (wpAny_dictEpoch ho hd ?_)))))
              simp only [bne_self_eq_false, Bool.false_eq_true, if_false]
              by_cases q : k' = k
              · rw [q] at ek
                have eh0 : hit = none := by
                  rcases m1 with ⟨z, _⟩ | ⟨j, _, hj, e⟩
                  · exact z
                  · exact absurd ((List.getElem?_inj (List.getElem?_eq_some_iff.mp e).1 T.nd).mp (e.trans ek.symm)) (Nat.ne_of_lt hj)
                subst eh0
                simp only [decide_eq_true q, if_true, Option.isSome_none, Bool.false_eq_true, if_false]
                refine wpAny_bind (wpAny_rule ?_)
                split
                · rw [posK_some T.nd ek] at h
                  exact wpAny_pure (wpAny_pure h)
                · exact wpAny_pure ⟨rfl, x + 1, some x, rfl, hx, .inr ⟨x, rfl, Nat.lt_succ_self x, ek⟩, l'⟩
              · simp only [decide_eq_false q, Bool.false_eq_true, if_false]
                refine wpAny_bind (wpAny_rule ?_)
                exact wpAny_pure ⟨rfl, x + 1, hit, rfl, hx, on q, l'⟩
            · rw [if_neg eh]
              refine wpAny_pure ⟨rfl, x + 1, hit, rfl, hx, on fun q => ?_, l'⟩
              rw [hh, q] at eh
              exact eh (beq_self_eq_true _)
          · rintro r s' ⟨rfl, i, hit, rfl, hi, m, el⟩
            have m1 := skip i es.size hit m hi fun j a b => by
              have z := List.filter_eq_nil_iff.mp el.symm j (List.mem_range'_1.mpr ⟨a, by omega⟩)
              simpa using z
            rw [T.size] at m1
            rw [← m1.fin T.nd] at h
            exact wpAny_pure h
        · rw [if_neg hone]
          refine wpAny_bind (may_quiet hk hkd hst ?_)
          simp only [Bool.false_and, Bool.false_eq_true, if_false]
          refine wpAny_bind (wpAny_forIn_list _ (fun l r s' => s' = s ∧ ∃ i hit, r = (none, hit) ∧ i ≤ es.size ∧ Met ks k i hit ∧ l = (List.range' i (es.size - i)).filter (fun j => hashAt es j == some (k.hash w))) _ ?_ ?_ _ _
            ⟨rfl, 0, none, rfl, Nat.zero_le _, .inl ⟨rfl, fun j hj => absurd hj (Nat.not_lt_zero j)⟩, by rw [placesWithHash, List.range_eq_range', Nat.sub_zero]⟩)
          · rintro x l r s' ⟨rfl, i, hit, rfl, hi, m, el⟩
            obtain ⟨h1, h2, _, h4, h5⟩ := filter_range'_cons _ _ _ _ _ el.symm
            have hx : x < es.size := by omega
            have m1 := skip i x hit m h1 h4
            obtain ⟨k', ek, hh, n, dd⟩ := T.each x hx
            have l' : l = (List.range' (x + 1) (es.size - (x + 1))).filter (fun j => hashAt es j == some (k.hash w)) := by rw [h5]; congr 2; omega
            have on : ¬ k' = k → Met ks k (x + 1) hit := fun ne => m1.go (Nat.le_succ x) fun j a b q => by
              have e : j = x := by omega
              rw [e, ek] at q
              exact ne (Option.some.inj q)
            simp only [Array.getElem?_eq_getElem hx]
            by_cases eh : (es[x].hash == k.hash w) = true
            · rw [if_pos eh]
              refine wpAny_bind (wpAny_dictEpoch ho hd (wpAny_bind (eqs x hx k' ek _ (wpAny_bind (wpAny_dictEpoch ho hd ?_)))))
              simp only [bne_self_eq_false, Bool.false_eq_true, if_false]
              by_cases q : k' = k
              · rw [q] at ek
                have eh0 : hit = none := by
                  rcases m1 with ⟨z, _⟩ | ⟨j, _, hj, e⟩
                  · exact z
                  · exact absurd ((List.getElem?_inj (List.getElem?_eq_some_iff.mp e).1 T.nd).mp (e.trans ek.symm)) (Nat.ne_of_lt hj)
                subst eh0
                simp only [decide_eq_true q, if_true, Option.isSome_none, Bool.false_eq_true, if_false]
                refine wpAny_bind (wpAny_rule ?_)
                split
                · rw [posK_some T.nd ek] at h
                  exact wpAny_pure (wpAny_pure h)
                · exact wpAny_pure ⟨rfl, x + 1, some x, rfl, hx, .inr ⟨x, rfl, Nat.lt_succ_self x, ek⟩, l'⟩
              · simp only [decide_eq_false q, Bool.false_eq_true, if_false]
                refine wpAny_bind (wpAny_rule ?_)
                exact wpAny_pure ⟨rfl, x + 1, hit, rfl, hx, on q, l'⟩
            · rw [if_neg eh]
              refine wpAny_pure ⟨rfl, x + 1, hit, rfl, hx, on fun q => ?_, l'⟩
              rw [hh, q] at eh
              exact eh (beq_self_eq_true _)
          · rintro r s' ⟨rfl, i, hit, rfl, hi, m, el⟩
            have m1 := skip i es.size hit m hi fun j a b => by
              have z := List.filter_eq_nil_iff.mp el.symm j (List.mem_range'_1.mpr ⟨a, by omega⟩)
              simpa using z
            rw [T.size] at m1
            rw [← m1.fin T.nd] at h
            exact wpAny_pure h
end
end Fc
namespace Fc
open PySem L2
section
variable {A : Around} {P : Program} {w : World} {s : Shared} {E : Value → Shared → Prop}
/-- what stands under a key among the entries -/
def under (ks : List NK) (es : Array DictEntry) (k : NK) : Option Value := (posK ks k).bind fun i => es[i]?.map (·.val)
theorem dGet {d : Addr} {o : Obj} {es : Array DictEntry} {ep : Nat} {ks : List NK} {k : NK} {key : Value} {Q : Option Value → Shared → Prop} (hu : A.units + 8 < cLine) (T : Tab w s.heap ks es)
    (hk : NestedIs s.heap k key) (hkd : k.depth ≤ 8) (ho : s.heap.get? d = some o) (hd : o.data = .dict es ep) (h : ∀ t, Q (under ks es k) { s with toks := t }) : wpAny (model P w) A (dictGet d key) Q E s := by
  have h' := h (s.toks + k.draws)
  unfold dictGet
  try with_reducible refine wpAny_holding ?_
  refine wpAny_bind (pyHash_key k key A s _ hk (by omega) (wpAny_bind (dFind (s := { s with toks := s.toks + k.draws }) hu T hk hkd ho hd ?_)))
  unfold under at h'
  cases e : posK ks k with
  | none =>
    rw [e] at h'
    exact wpAny_pure h'
  | some i =>
    rw [e] at h'
    exact wpAny_bind (wpAny_dictEntries (s := { s with toks := s.toks + k.draws }) ho hd (wpAny_pure h'))
/-- the entries behind a store -/
def put (w : World) (ks : List NK) (es : Array DictEntry) (k : NK) (key v : Value) : Array DictEntry :=
  match posK ks k with
  | some i => es.modify i fun e => { e with val := v }
  | none => es.push ⟨k.hash w, key, v⟩
theorem dSet {d : Addr} {o : Obj} {es : Array DictEntry} {ep : Nat} {ks : List NK} {k : NK} {key v : Value} {Q : Unit → Shared → Prop} (hu : A.units + 8 < cLine) (T : Tab w s.heap ks es)
    (hk : NestedIs s.heap k key) (hkd : k.depth ≤ 8) (ho : s.heap.get? d = some o) (hc : o.ExactDict) (hd : o.data = .dict es ep) (hz : es.size ≤ sizeLine)
    (h : ∀ h' t o' ep', Heap.SameBut d s.heap h' → h'.get? d = some o' → o'.ExactDict → o'.data = .dict (put w ks es k key v) ep' → Q () { s with heap := h', toks := t }) : wpAny (model P w) A (dictSet d key v) Q E s := by
  unfold dictSet
  try with_reducible refine wpAny_holding ?_
  refine wpAny_bind (pyHash_key k key A s _ hk (by omega) ?_)
  unfold dictSetHashed
  try with_reducible refine wpAny_holding ?_
  refine wpAny_bind (dFind (s := { s with toks := s.toks + k.draws }) hu T hk hkd ho hd ?_)
  unfold put at h
  cases e : posK ks k with
  | none =>
    rw [e] at h
    exact wpAny_bind (wpAny_rule (wpAny_updateDictKeys (hz := hz) (s := { s with toks := s.toks + k.draws }) ho hd
      (h _ _ _ (ep + 1) (Heap.SameBut.update ..) (Heap.get?_update_self _ ho (Obj.isFreed_of_dict (Obj.data_mapDictKeys hd _))) (hc.mapDictKeys _) (Obj.data_mapDictKeys hd _))))
  | some i =>
    rw [e] at h
    exact wpAny_bind (wpAny_rule (wpAny_bind (wpAny_updateDict (s := { s with toks := s.toks + k.draws }) ho hd (wpAny_point
      (h _ _ _ ep (Heap.SameBut.update ..) (Heap.get?_update_self _ ho (Obj.isFreed_of_dict (Obj.data_mapDict hd _))) (hc.mapDict _) (Obj.data_mapDict hd _))))))
end
end Fc
namespace Fc
open PySem L2
section
variable {A : Around} {P : Program} {w : World} {s : Shared} {E : Value → Shared → Prop}
theorem dHas {d : Addr} {o : Obj} {es : Array DictEntry} {ep : Nat} {ks : List NK} {k : NK} {key : Value} {Q : Bool → Shared → Prop} (hu : A.units + 9 < cLine) (T : Tab w s.heap ks es)
    (hk : NestedIs s.heap k key) (hkd : k.depth ≤ 8) (ho : s.heap.get? d = some o) (hc : o.ExactDict) (hd : o.data = .dict es ep) (hs : (d == sysModules) = false) (h : ∀ t, Q (under ks es k).isSome { s with toks := t }) :
    wpAny (model P w) A (contains (.ref d) key) Q E s := by
  have hT : s.TypeIs (.ref d) "dict" := ⟨o, ho, hc.1⟩
  unfold contains
  try with_reducible refine wpAny_holding ?_
  refine wpAny_bind (wpAny_specialOf hT slot_dict_contains.lookup ?_)
  simp only [beq_builtin_none, Bool.false_eq_true, if_false]
  refine wpAny_bind (wpAny_callSpecialUnlessNone?_slot (name := Str.ofString "__contains__") hT slot_dict_contains (wpAny_call_entry slot_dict_contains hT entry_dict_contains ?_ (args_dict_contains _ _)))
  show wpAny _ _ (dictGet d key >>= _) _ _ s
  refine wpAny_bind (dGet (by show A.units + 1 + 8 < cLine; omega) T hk hkd ho hd fun t => ?_)
  have h' := h t
  cases e : under ks es k with
  | some v =>
    rw [e] at h'
    show wpAny _ _ (ret (.bool true)) _ _ _
    exact wpAny_pure ⟨_, rfl, wpAny_truthy_bool h'⟩
  | none =>
    rw [e] at h'
    show wpAny _ _ (Builtin.Dict.pendingKey? d key >>= _) _ _ _
    exact wpAny_bind (wpAny_pendingKey_other hs (wpAny_pure ⟨_, rfl, wpAny_truthy_bool h'⟩))
theorem dItem {d : Addr} {o : Obj} {es : Array DictEntry} {ep : Nat} {ks : List NK} {k : NK} {key v : Value} {Q : Value → Shared → Prop} (hu : A.units + 9 < cLine) (T : Tab w s.heap ks es)
    (hk : NestedIs s.heap k key) (hkd : k.depth ≤ 8) (ho : s.heap.get? d = some o) (hc : o.ExactDict) (hd : o.data = .dict es ep) (hv : under ks es k = some v) (h : ∀ t, Q v { s with toks := t }) :
    wpAny (model P w) A (getItem (.ref d) key) Q E s := by
  have hT : s.TypeIs (.ref d) "dict" := ⟨o, ho, hc.1⟩
  unfold getItem
  try with_reducible refine wpAny_holding ?_
  refine wpAny_bind (wpAny_sequenceKey hT (by decide) ?_)
  refine wpAny_bind (wpAny_callSpecial?_slot (name := Str.ofString "__getitem__") hT slot_dict_getitem (wpAny_call_entry slot_dict_getitem hT entry_dict_getitem ?_ (args_dict_getitem _ _)))
  show wpAny _ _ (dictGet d key >>= _) _ _ s
  refine wpAny_bind (dGet (by show A.units + 1 + 8 < cLine; omega) T hk hkd ho hd fun t => ?_)
  rw [hv]
  exact wpAny_pure ⟨v, rfl, wpAny_pure (h t)⟩
theorem dPut {d : Addr} {o : Obj} {es : Array DictEntry} {ep : Nat} {ks : List NK} {k : NK} {key v : Value} {Q : Unit → Shared → Prop} (hu : A.units + 9 < cLine) (T : Tab w s.heap ks es)
    (hk : NestedIs s.heap k key) (hkd : k.depth ≤ 8) (ho : s.heap.get? d = some o) (hc : o.ExactDict) (hd : o.data = .dict es ep) (hz : es.size ≤ sizeLine)
    (h : ∀ h' t o' ep', Heap.SameBut d s.heap h' → h'.get? d = some o' → o'.ExactDict → o'.data = .dict (put w ks es k key v) ep' → Q () { s with heap := h', toks := t }) :
    wpAny (model P w) A (setItem (.ref d) key v) Q E s := by
  have hT : s.TypeIs (.ref d) "dict" := ⟨o, ho, hc.1⟩
  unfold setItem
  try with_reducible refine wpAny_holding ?_
  refine wpAny_bind (wpAny_sequenceKey hT (by decide) ?_)
  refine wpAny_bind (wpAny_callSpecial?_slot (name := Str.ofString "__setitem__") hT slot_dict_setitem (wpAny_call_entry slot_dict_setitem hT entry_dict_setitem ?_ (args_dict_setitem _ _ _)))
  show wpAny _ _ (Builtin.Dict.notOrdered "__setitem__" ⟨[.ref d, key, v], []⟩ >>= _) _ _ s
  refine wpAny_bind (wpAny_notOrdered_dict hT ?_)
  show wpAny _ _ (dictSet d key v >>= _) _ _ s
  exact wpAny_bind (dSet (by show A.units + 1 + 8 < cLine; omega) T hk hkd ho hc hd hz fun h' t o' ep' a b c e => wpAny_pure ⟨.none, rfl, wpAny_pure (h h' t o' ep' a b c e)⟩)
end
end Fc
namespace Fc
open PySem L2
/-! ### tables over the layer's heap -/
inductive FlatK : NK → V → Prop
  | non : FlatK .none .non
  | num (i : Int) : FlatK (.num i) (.int i)
  | bl (b : Bool) : FlatK (.num (if b = true then 1 else 0)) (.bl b)
  | text (x : Str) : FlatK (.text x) (.str x)
/-- the value v is the key k: flat, or a tuple of flat ones -/
def Key1 (K : PySem.W.Frag) (H : Hp) (k : NK) (v : V) : Prop := FlatK k v ∨ ∃ a vs ks, v = .ref a ∧ SqT K H a vs ∧ k = .tup ks ∧ Paired FlatK ks vs
/-- .. or a tuple of such -/
def KeyV (K : PySem.W.Frag) (H : Hp) (k : NK) (v : V) : Prop := Key1 K H k v ∨ ∃ a vs ks, v = .ref a ∧ SqT K H a vs ∧ k = .tup ks ∧ Paired (Key1 K H) ks vs
abbrev Ent := NK × V × V
abbrev keys (xs : List Ent) : List NK := xs.map (·.1)
def Ents (w : World) (xs : List Ent) (es : Array DictEntry) : Prop :=
  es.size = xs.length ∧ ∀ (j : Nat) (hj : j < es.size) (x : Ent), xs[j]? = some x → es[j].hash = x.1.hash w ∧ RelV x.2.1 es[j].key ∧ RelV x.2.2 es[j].val
def MDat (w : World) (a : Addr) (xs : List Ent) (h : Heap) : Prop :=
  xs.length ≤ sizeLine ∧ (a == sysModules) = false ∧ (keys xs).Nodup ∧ ∃ o es ep, h.get? a = some o ∧ o.ExactDict ∧ o.data = .dict es ep ∧ Ents w xs es
/-- a dict whose keys are flat values and tuples of such -/
def MD (w : World) (a : Addr) (xs : List Ent) : HO := .ext (MDat w a xs)
theorem MDat.ok {P : Program} {w : World} {H : Hp} {h : Heap} {a : Addr} {xs : List Ent} (m : MDat w a xs h) : ObjOk P w H h a (MD w a xs) := by
  have ⟨_, _, _, o, _, _, e, _⟩ := m
  exact ⟨m, ⟨o, e⟩, fun h1 h2 ⟨z1, z2, z3, o1, es, ep, e1, r⟩ k => ⟨z1, z2, z3, o1, es, ep, k _ e1, r⟩⟩
/-- a table that may be read: its keys stand -/
structure TabAt (K : PySem.W.Frag) (w : World) (H : Hp) (a : Addr) (xs : List Ent) : Prop where
  md : Rd H a (MD w a xs)
  ks : ∀ x ∈ xs, KeyV K H x.1 x.2.1
def posM (xs : List Ent) (k : NK) : Option Nat := posK (keys xs) k
def valM (xs : List Ent) (k : NK) : Option V := (posM xs k).bind fun i => xs[i]?.map (·.2.2)
def putM (xs : List Ent) (k : NK) (kv v : V) : List Ent :=
  match posM xs k with
  | some i => xs.modify i fun x => (x.1, x.2.1, v)
  | none => xs ++ [(k, kv, v)]
section
variable {X : Cx} {pins : List (Addr × Obj)} {σ : St} {H : Hp} {s : Shared} {a : Addr} {xs : List Ent} {k : NK} {v : V} {u : Value}
theorem FlatK.is {h : Heap} (f : FlatK k v) (r : RelV v u) : NestedIs h k u ∧ k.depth = 0 := by
  cases f with
  | non => cases r; exact ⟨.none, rfl⟩
  | num i => obtain ⟨t, rfl⟩ := r; exact ⟨.int i t, rfl⟩
  | bl b => cases r; exact ⟨.bool rfl, rfl⟩
  | text x => obtain ⟨t, rfl⟩ := r; exact ⟨.text x t, rfl⟩
theorem flats_is {h : Heap} : ∀ {ks : List NK} {vs : List V} {us : List Value}, Paired FlatK ks vs → Vals vs us → NestedAll h ks us ∧ NestedKey.depthAll ks = 0
  | _, _, _, .nil, .nil => ⟨.nil, rfl⟩
  | _, _, _, .cons f fs, .cons r rs => by
    obtain ⟨n, d⟩ := f.is (h := h) r
    obtain ⟨ns, ds⟩ := flats_is (h := h) fs rs
    exact ⟨.cons n ns, by simp only [NestedKey.depthAll, d, ds]; rfl⟩
theorem Key1.is (I : Inv X pins σ H s) (h : Key1 X.K H k v) (r : RelV v u) : NestedIs s.heap k u ∧ k.depth ≤ 1 := by
  rcases h with f | ⟨b, vs, ks, rfl, hs, rfl, fs⟩
  · obtain ⟨n, d⟩ := f.is (h := s.heap) r
    exact ⟨n, by omega⟩
  · obtain rfl : u = Value.ref b := r
    obtain ⟨its, rv, ⟨o, ho, hc, n, hd⟩, _⟩ := I.tuple hs
    obtain ⟨ns, ds⟩ := flats_is (h := s.heap) fs rv
    exact ⟨.tup ho hc hd (by simpa using ns), by simp only [NestedKey.depth, ds]; omega⟩
theorem key1s_is (I : Inv X pins σ H s) : ∀ {ks : List NK} {vs : List V} {us : List Value}, Paired (Key1 X.K H) ks vs → Vals vs us → NestedAll s.heap ks us ∧ NestedKey.depthAll ks ≤ 1
  | _, _, _, .nil, .nil => ⟨.nil, Nat.zero_le _⟩
  | _, _, _, .cons f fs, .cons r rs => by
    obtain ⟨n, d⟩ := f.is I r
    obtain ⟨ns, ds⟩ := key1s_is I fs rs
    exact ⟨.cons n ns, by simp only [NestedKey.depthAll]; omega⟩
theorem KeyV.is (I : Inv X pins σ H s) (h : KeyV X.K H k v) (r : RelV v u) : NestedIs s.heap k u ∧ k.depth ≤ 8 := by
  rcases h with f | ⟨b, vs, ks, rfl, hs, rfl, fs⟩
  · obtain ⟨n, d⟩ := f.is I r
    exact ⟨n, by omega⟩
  · obtain rfl : u = Value.ref b := r
    obtain ⟨its, rv, ⟨o, ho, hc, n, hd⟩, _⟩ := I.tuple hs
    obtain ⟨ns, ds⟩ := key1s_is I fs rv
    exact ⟨.tup ho hc hd (by simpa using ns), by simp only [NestedKey.depth]; omega⟩
theorem TabAt.get (I : Inv X pins σ H s) (t : TabAt X.K X.w H a xs) : xs.length ≤ sizeLine ∧ (a == sysModules) = false ∧
    ∃ o es ep, s.heap.get? a = some o ∧ o.ExactDict ∧ o.data = .dict es ep ∧ Ents X.w xs es ∧ Tab X.w s.heap (keys xs) es := by
  have ok : ObjOk X.prog X.w H s.heap a (MD X.w a xs) := t.md.ok I.hok
  obtain ⟨⟨z, sm, nd, o, es, ep, ho, hc, hd, ee⟩, _⟩ := ok
  refine ⟨z, sm, o, es, ep, ho, hc, hd, ee, ⟨by rw [ee.1, List.length_map], fun j hj => ?_, nd⟩⟩
  have hx : j < xs.length := by rw [← ee.1]; exact hj
  obtain ⟨e1, e2, _⟩ := ee.2 j hj xs[j] (List.getElem?_eq_getElem hx)
  obtain ⟨n, d⟩ := (t.ks xs[j] (List.getElem_mem hx)).is I e2
  exact ⟨xs[j].1, by rw [List.getElem?_map, List.getElem?_eq_getElem hx]; rfl, e1, n, d⟩
theorem Ents.val {w : World} {es : Array DictEntry} (ee : Ents w xs es) (k : NK) : RelO (valM xs k) (under (keys xs) es k) := by
  unfold valM under posM
  cases e : posK (keys xs) k with
  | none => trivial
  | some i =>
    show RelO (xs[i]?.map (·.2.2)) (es[i]?.map (·.val))
    by_cases hi : i < es.size
    · have hx : i < xs.length := by rw [← ee.1]; exact hi
      rw [Array.getElem?_eq_getElem hi, List.getElem?_eq_getElem hx]
      exact (ee.2 i hi xs[i] (List.getElem?_eq_getElem hx)).2.2
    · have hx : ¬ i < xs.length := by rw [← ee.1]; exact hi
      rw [Array.getElem?_eq_none (by omega), List.getElem?_eq_none (by omega)]
      trivial
theorem keys_putM (xs : List Ent) (k : NK) (kv v : V) : keys (putM xs k kv v) = match posM xs k with | some _ => keys xs | none => keys xs ++ [k] := by
  unfold putM
  cases e : posM xs k with
  | some i =>
    show (xs.modify i _).map (·.1) = xs.map (·.1)
    apply List.ext_getElem?
    intro j
    rw [List.getElem?_map, List.getElem?_modify, List.getElem?_map]
    cases xs[j]? with
    | none => rfl
    | some x => by_cases q : i = j <;> simp [q]
  | none => show (xs ++ [(k, kv, v)]).map (·.1) = _; rw [List.map_append]; rfl
theorem posK_isSome {ks : List NK} {k : NK} : (posK ks k).isSome = true ↔ k ∈ ks := by
  constructor
  · intro h
    obtain ⟨i, e⟩ := Option.isSome_iff_exists.mp h
    unfold posK at e
    obtain ⟨hi, q, _⟩ := List.findIdx?_eq_some_iff_getElem.mp e
    have q2 : ks[i] = k := of_decide_eq_true q
    rw [← q2]
    exact List.getElem_mem hi
  · intro h
    cases e : posK ks k with
    | some i => rfl
    | none =>
      unfold posK at e
      have q := List.findIdx?_eq_none_iff.mp e k h
      simp at q
theorem nd_putM (xs : List Ent) (k : NK) (kv v : V) (nd : (keys xs).Nodup) : (keys (putM xs k kv v)).Nodup := by
  rw [keys_putM]
  cases e : posM xs k with
  | some i => exact nd
  | none =>
    refine List.nodup_append.mpr ⟨nd, by simp, fun x hx y hy => ?_⟩
    rw [List.mem_singleton] at hy
    rintro rfl
    have q := posK_isSome.mpr (hy ▸ hx)
    unfold posM at e
    rw [e] at q
    cases q
theorem len_putM (xs : List Ent) (k : NK) (kv v : V) : (putM xs k kv v).length ≤ xs.length + 1 := by
  unfold putM
  cases posM xs k with
  | some i => show (xs.modify i _).length ≤ _; rw [List.length_modify]; omega
  | none => show (xs ++ [_]).length ≤ _; rw [List.length_append]; exact Nat.le_refl _
theorem Ents.put {w : World} {es : Array DictEntry} (ee : Ents w xs es) (k : NK) {kv v : V} {key r : Value} (rk : RelV kv key) (rv : RelV v r) : Ents w (putM xs k kv v) (Fc.put w (keys xs) es k key r) := by
  unfold putM Fc.put posM
  cases e : posK (keys xs) k with
  | none =>
    refine ⟨by show (es.push _).size = (xs ++ [_]).length; rw [Array.size_push, ee.1, List.length_append]; rfl, fun j hj x hx => ?_⟩
    have hj' : j < es.size + 1 := by simpa using hj
    show (es.push _)[j].hash = _ ∧ RelV _ (es.push _)[j].key ∧ RelV _ (es.push _)[j].val
    rcases Nat.lt_or_ge j es.size with q | q
    · rw [Array.getElem_push_lt q]
      refine ee.2 j q x ?_
      rw [List.getElem?_append_left (by rw [← ee.1]; exact q)] at hx
      exact hx
    · have ej : j = es.size := by omega
      subst ej
      rw [List.getElem?_append_right (by rw [ee.1]; exact Nat.le_refl _), ee.1, Nat.sub_self] at hx
      cases hx
      rw [Array.getElem_push_eq]
      exact ⟨rfl, rk, rv⟩
  | some i =>
    refine ⟨by show (es.modify i _).size = (xs.modify i _).length; rw [Array.size_modify, List.length_modify]; exact ee.1, fun j hj x hx => ?_⟩
    have hj' : j < es.size := by simpa using hj
    have hxj : j < xs.length := by rw [← ee.1]; exact hj'
    obtain ⟨p1, p2, p3⟩ := ee.2 j hj' xs[j] (List.getElem?_eq_getElem hxj)
    have hx' : (xs.modify i fun x => (x.1, x.2.1, v))[j]? = some x := hx
    rw [List.getElem?_modify, List.getElem?_eq_getElem hxj] at hx'
    replace hx' : (if i = j then (xs[j].1, xs[j].2.1, v) else xs[j]) = x := Option.some.inj hx'
    show (es.modify i _)[j].hash = _ ∧ RelV _ (es.modify i _)[j].key ∧ RelV _ (es.modify i _)[j].val
    rw [Array.getElem_modify]
    by_cases q : i = j
    · rw [if_pos q] at hx' ⊢
      cases hx'
      exact ⟨p1, p2, rv⟩
    · rw [if_neg q] at hx' ⊢
      cases hx'
      exact ⟨p1, p2, p3⟩
end
end Fc
namespace Fc
open PySem L2
/-- tuples stand as they stood -/
def Tups (K : PySem.W.Frag) (H H' : Hp) : Prop := ∀ b ys, SqT K H b ys → SqT K H' b ys
theorem Tups.of {K : PySem.W.Frag} {H H' : Hp} (t : ∀ b ys, Rd H b (.tup ys) → Rd H' b (.tup ys)) : Tups K H H' := fun b ys h => h.elim (fun r => .inl (t b ys r)) .inr
theorem Tups.same {K : PySem.W.Frag} {H H' : Hp} (e : Same H H') : Tups K H H' := .of fun b ys r => r.elim (fun z => .inl (e _ _ z)) fun ⟨o, z⟩ => .inr ⟨o, e _ _ z⟩
theorem Tups.upd {K : PySem.W.Frag} {H : Hp} {a : Addr} {o : HO} (h : ∀ u, H a = some u → Mut (some u)) : Tups K H (upd H a o) := .of fun b ys r => by
  have ne : ∀ u, H b = some u → ¬ Mut (some u) → b ≠ a := fun u e n z => n (h u (z ▸ e))
  rcases r with r | ⟨ob, r⟩
  · exact .inl (by rw [upd_ne (ne _ r fun z => z)]; exact r)
  · exact .inr ⟨ob, by rw [upd_ne (ne _ r fun z => z)]; exact r⟩
theorem Tups.trans {K : PySem.W.Frag} {H H1 H2 : Hp} (a : Tups K H H1) (b : Tups K H1 H2) : Tups K H H2 := fun c ys h => b c ys (a c ys h)
theorem Key1.mono {K : PySem.W.Frag} {H H' : Hp} {k : NK} {v : V} (t : Tups K H H') (h : Key1 K H k v) : Key1 K H' k v := by
  rcases h with f | ⟨b, vs, ks, e, hs, ek, fs⟩
  · exact .inl f
  · exact .inr ⟨b, vs, ks, e, t _ _ hs, ek, fs⟩
theorem KeyV.mono {K : PySem.W.Frag} {H H' : Hp} {k : NK} {v : V} (t : Tups K H H') (h : KeyV K H k v) : KeyV K H' k v := by
  rcases h with f | ⟨b, vs, ks, e, hs, ek, fs⟩
  · exact .inl (f.mono t)
  · refine .inr ⟨b, vs, ks, e, t _ _ hs, ek, ?_⟩
    clear hs e ek
    induction fs with
    | nil => exact .nil
    | cons h _ ih => exact .cons (h.mono t) ih
theorem TabAt.mono {K : PySem.W.Frag} {w : World} {H H' : Hp} {a : Addr} {xs : List Ent} (t : Tups K H H') (r : Rd H' a (MD w a xs)) (h : TabAt K w H a xs) : TabAt K w H' a xs := ⟨r, fun x hx => (h.ks x hx).mono t⟩
section
variable {X : Cx}
def rInM (K : PySem.W.Frag) (w : World) (g : Bool → Bool) : R2 := fun x y H Q => ∃ a xs k, y = .ref a ∧ TabAt K w H a xs ∧ KeyV K H k x ∧ Q (.bl (g (valM xs k).isSome)) H
theorem op_inM (hu : X.A.units + 9 < cLine) : OpR X (compareOp .In) (rInM X.K X.w id) := by
  intro pins s σ H x y v u Q I rx ry ⟨a, xs, k, e, t, hk, q⟩
  subst e
  obtain rfl : u = Value.ref a := ry
  obtain ⟨_, sm, o, es, ep, ho, hc, hd, ee, T⟩ := t.get I
  obtain ⟨n, d⟩ := hk.is I rx
  show wpAny _ _ (do return Value.bool (← contains (.ref a) v)) _ _ s
  have eb := (ee.val k).isSome_eq
  exact wpAny_bind (dHas hu T n d ho hc hd sm fun tk => wpAny_pure ⟨.bl (valM xs k).isSome, H, I.tok tk, by rw [eb]; rfl, q⟩)
theorem op_notInM (hu : X.A.units + 9 < cLine) : OpR X (compareOp .NotIn) (rInM X.K X.w not) := by
  intro pins s σ H x y v u Q I rx ry ⟨a, xs, k, e, t, hk, q⟩
  subst e
  obtain rfl : u = Value.ref a := ry
  obtain ⟨_, sm, o, es, ep, ho, hc, hd, ee, T⟩ := t.get I
  obtain ⟨n, d⟩ := hk.is I rx
  show wpAny _ _ (do return Value.bool (!(← contains (.ref a) v))) _ _ s
  have eb := (ee.val k).isSome_eq
  exact wpAny_bind (dHas hu T n d ho hc hd sm fun tk => wpAny_pure ⟨.bl (!(valM xs k).isSome), H, I.tok tk, by rw [eb]; rfl, q⟩)
def rIxM (K : PySem.W.Frag) (w : World) : R2 := fun x y H Q => ∃ a xs k v, x = .ref a ∧ TabAt K w H a xs ∧ KeyV K H k y ∧ valM xs k = some v ∧ Q v H
theorem ix_md (hu : X.A.units + 9 < cLine) : IxR X (rIxM X.K X.w) := by
  intro value slice pins s σ H x y v u Q I rx ry ⟨a, xs, k, z, e, t, hk, hv, q⟩ hs
  subst e
  obtain rfl : v = Value.ref a := rx
  obtain ⟨_, sm, o, es, ep, ho, hc, hd, ee, T⟩ := t.get I
  obtain ⟨n, d⟩ := hk.is I ry
  have r := ee.val k
  rw [hv] at r
  obtain ⟨r', hr, rr⟩ := r.some_of
  exact PyProof.Rows.subscriptTail_builtinR (x := r') ⟨o, ho, hc.1⟩ slot_dict_getitem.lookup (dItem hu T n d ho hc hd hr fun tk => ⟨rfl, z, H, I.tok tk, rr, q⟩) hs
def rSetM (K : PySem.W.Frag) (w : World) : TSet := fun o i v H Q => ∃ a xs k, o = .ref a ∧ H a = some (MD w a xs) ∧ (∀ x ∈ xs, KeyV K H x.1 x.2.1) ∧ KeyV K H k i ∧ xs.length < sizeLine ∧ Q (upd H a (MD w a (putM xs k i v)))
theorem md_write {pins : List (Addr × Obj)} {σ : St} {H : Hp} {s : Shared} {a : Addr} {xs ys : List Ent} {h' : Heap} {t : Nat} (I : Inv X pins σ H s) (hH : H a = some (MD X.w a xs)) (sb : Heap.SameBut a s.heap h') (m : MDat X.w a ys h') :
    Inv X pins σ (upd H a (MD X.w a ys)) { s with heap := h', toks := t } := by
  have ⟨_, _, _, o, _, _, e, _⟩ := m
  exact d_write I (by rw [hH]; exact True.intro) sb ⟨o, e⟩ m.ok
theorem md_put {pins : List (Addr × Obj)} {σ : St} {H : Hp} {s : Shared} {a : Addr} {xs : List Ent} {k : NK} {kv v : V} {key r : Value} {h' : Heap} {o' : Obj} {ep' : Nat} {es : Array DictEntry} (hH : H a = some (MD X.w a xs)) (I : Inv X pins σ H s)
    (hl : xs.length < sizeLine) (ee : Ents X.w xs es) (rk : RelV kv key) (rv : RelV v r) (sb : Heap.SameBut a s.heap h') (e1 : h'.get? a = some o') (e2 : o'.ExactDict) (e3 : o'.data = .dict (put X.w (keys xs) es k key r) ep') (t : Nat) :
    Inv X pins σ (upd H a (MD X.w a (putM xs k kv v))) { s with heap := h', toks := t } := by
  obtain ⟨_, sm, nd, _⟩ := (I.hok a _ hH).1
  exact md_write I hH sb ⟨Nat.le_trans (len_putM xs k kv v) hl, sm, nd_putM xs k kv v nd, o', _, ep', e1, e2, e3, ee.put k rk rv⟩
theorem set_md (hu : X.A.units + 9 < cLine) : PSet X (rSetM X.K X.w) := by
  intro pins s σ H o i v ov iv u Q I ro ri rv ⟨a, xs, k, e, hH, hks, hk, hl, q⟩
  subst e
  obtain rfl : ov = Value.ref a := ro
  have t : TabAt X.K X.w H a xs := ⟨.inl hH, hks⟩
  obtain ⟨z, sm, o, es, ep, ho, hc, hd, ee, T⟩ := t.get I
  obtain ⟨n, d⟩ := hk.is I ri
  exact dPut hu T n d ho hc hd (by rw [ee.1]; exact z) fun h' tk o' ep' sb e1 e2 e3 => ⟨_, md_put hH I hl ee ri rv sb e1 e2 e3 tk, q⟩
/-- len(d) -/
theorem call_lenM : CallR X (.builtin "len") (fun xs H Q => ∃ a es, xs = [.ref a] ∧ TabAt X.K X.w H a es ∧ Q (.int es.length) H) := by
  intro pins s σ H xs us Q I r ⟨a, ys, e, t, q⟩
  subst e
  obtain ⟨u, rfl, rx⟩ := vals1 r
  obtain rfl : u = Value.ref a := rx
  obtain ⟨z, sm, o, es, ep, ho, hc, hd, ee, T⟩ := t.get I
  rw [sizeLine_eq] at z
  refine PyProof.Rows.call_len_slot (n := es.size) ⟨o, ho, hc.1⟩ F.slot_dict_len (fun Q' hq => call_len_raw sm ⟨o, ho, hc, hd⟩ hq) (by omega) (by rw [ee.1]; omega) ?_
  exact ⟨.int ys.length, H, I.tok _, ⟨_, by rw [ee.1]⟩, q⟩
/-- list(d) -/
theorem call_listM (hcalm : X.calm = true) : CallR X (.type "list") (fun xs H Q => ∃ a es, xs = [.ref a] ∧ TabAt X.K X.w H a es ∧ ∀ p, H p = none → Q (.ref p) (upd H p (.lst (es.map (·.2.1))))) := by
  intro pins s σ H xs us Q I r ⟨a, ys, e, t, q⟩
  subst e
  obtain ⟨u, rfl, rx⟩ := vals1 r
  obtain rfl : u = Value.ref a := rx
  obtain ⟨z, sm, o, es, ep, ho, hc, hd, ee, T⟩ := t.get I
  refine PySem.W.kdl_call (kdl_raw sm hc hd) (I.ok.hd hcalm) ho (by rw [ee.1]; exact z) fun h' tk acc' c' kp e it => ?_
  have hl : acc'.toList.length = ys.length := by rw [Array.length_toList, it.1]; exact ee.1
  have rv : Vals (ys.map (·.2.1)) acc'.toList := by
    have gen : ∀ (l1 : List Ent) (l2 : List Value), l1.length = l2.length → (∀ (j : Nat) (x : Ent), l1[j]? = some x → ∀ v : Value, l2[j]? = some v → RelV x.2.1 v) → Vals (l1.map (·.2.1)) l2 := by
      intro l1
      induction l1 with
      | nil => intro l2 hl _; cases l2 with
        | nil => exact .nil
        | cons _ _ => cases hl
      | cons x l1 ih => intro l2 hl h; cases l2 with
        | nil => cases hl
        | cons v l2 => exact .cons (h 0 x rfl v rfl) (ih l2 (by simpa using hl) fun j y hy v hv => h (j + 1) y (by simpa using hy) v (by simpa using hv))
    refine gen ys acc'.toList hl.symm fun j x hx v hv => ?_
    obtain ⟨en, hen, ev⟩ := it.2 j v (by rw [← Array.getElem?_toList]; exact hv)
    obtain ⟨hj, e2⟩ := Array.getElem?_eq_some_iff.mp hen
    have q2 := (ee.2 j hj x hx).2.1
    rw [ev, ← e2]
    exact q2
  refine ⟨.ref s.heap.objs.size, _, I.laid (t' := tk) (o := .lst (ys.map (·.2.1))) kp (Nat.le_refl _) ⟨by rw [List.length_map]; exact z, acc'.toList, c', rv, by rw [Array.toArray_toList]; exact e⟩, rfl, q _ (I.hok.fresh (Nat.le_refl _))⟩
/-- isinstance(d, T) -/
theorem call_isiM : CallR X (.builtin "isinstance") (fun xs H Q => ∃ a es c u b, xs = [.ref a, c] ∧ ClsV c u ∧ TabAt X.K X.w H a es ∧ PySem.W.kitOne X.K (.type "dict") u = some b ∧ Q (.bl b) H) := by
  intro pins s σ H xs us Q I r ⟨a, es, c, u, b, e, k, t, kt, q⟩
  subst e
  obtain ⟨u1, u2, rfl, r1, r2⟩ := vals2 r
  have e2 := k.eq r2
  subst e2
  obtain rfl : u1 = Value.ref a := r1
  obtain ⟨_, _, o, _, _, ho, hc, _⟩ := t.get I
  exact PySem.W.kia_one PySem.W.kitx_dict I.kIn (⟨o, ho, hc.1⟩) kt (fun z => nomatch z) fun tk => ⟨.bl b, H, I.tok tk, rfl, q⟩
end
end Fc
namespace Fc
open PySem L2
/-- the keys of a locked table, one by one -/
def ItM (w : World) (d : Addr) (o : Obj) (xs : List Ent) : It :=
  ⟨fun n H => H d = some (.frz o (MD w d xs)) ∧ n < xs.length, fun n H x H' => H' = H ∧ ∃ e, xs[n]? = some e ∧ x = e.2.1, fun n H => H d = some (.frz o (MD w d xs)) ∧ xs.length ≤ n⟩
theorem frzM {X : Cx} {pins : List (Addr × Obj)} {σ : St} {H : Hp} {s : Shared} {d : Addr} {o : Obj} {xs : List Ent} (I : Inv X pins σ H s) (h : H d = some (.frz o (MD X.w d xs))) :
    (d == sysModules) = false ∧ s.heap.get? d = some o ∧ o.ExactDict ∧ ∃ es ep, o.data = .dict es ep ∧ Ents X.w xs es := by
  obtain ⟨hg, ⟨⟨_, sm, _, o', es, ep, e, c, dt, ee⟩, _⟩⟩ := I.hok d _ h
  rw [hg] at e
  cases e
  exact ⟨sm, hg, c, es, ep, dt, ee⟩
theorem turnM {P : Program} {w : World} {K : PySem.W.Frag} {tg : Expr} {d : Addr} {o : Obj} {es : Array DictEntry} {ep : Nat} {xs : List Ent} (it : Addr) (hod : o.data = .dict es ep) :
    Turn P w K tg (ItM w d o xs) [it] it (fun n h => h.IsKeyIter it d n xs.length ep) := by
  refine ⟨List.mem_singleton.mpr rfl, fun n h st b hb => ?_, fun n h h' st k => st.at fun ob e => k it (List.mem_singleton.mpr rfl) ob e, ?_, ?_, fun A n s Q E st h => ?_⟩
  · rw [List.mem_singleton] at hb
    subst hb
    obtain ⟨ob, e, _, dt⟩ := st
    exact ⟨ob, e, fun v z => by rw [dt] at z; cases z⟩
  · intro X e1 e2 e3 hc n pins s σ H E I hf st hg
    subst e1 e2 e3
    obtain ⟨hd, hn⟩ := hg
    have F := hf it (List.mem_singleton.mpr rfl)
    obtain ⟨_, g, _, es', ep', dt, ee⟩ := frzM I hd
    obtain ⟨q1, q2⟩ := dict_ep hod dt
    subst q1 q2
    have hx : n < es'.size := by rw [ee.1]; exact hn
    refine next_key_item st g hod ee.1 (Array.getElem?_eq_getElem hx) fun h' st' sb => ⟨es'[n].key, rfl, ?_⟩
    have I1 : Inv X pins σ H { s with heap := h' } := I.turned (t' := s.toks) (fun b ob ne e => (sb.2 b ne).trans e) F.1 F.2.1 F.2.2.2.1 F.2.2.2.2.1 F.2.2.2.2.2
    have ⟨ob, e, c, dt'⟩ := st'
    exact go_of (s := { s with heap := h' }) e c dt' (by decide) ⟨xs[n].2.1, H, I1, (ee.2 n hx xs[n] (List.getElem?_eq_getElem hn)).2.1, ⟨rfl, xs[n], List.getElem?_eq_getElem hn, rfl⟩, st', fun b hb => (hf b hb).1⟩
  · intro X e1 e2 e3 hc n pins s σ H E I hf st hg
    subst e1 e2 e3
    obtain ⟨hd, hn⟩ := hg
    have F := hf it (List.mem_singleton.mpr rfl)
    obtain ⟨_, g, _, es', ep', dt, ee⟩ := frzM I hd
    obtain ⟨q1, q2⟩ := dict_ep hod dt
    subst q1 q2
    exact next_key_end (I.ok.hd hc) st g hod ee.1 hn fun h' eb => ⟨rfl, I.turned (t' := s.toks) (fun b ob ne e => eb b ob ne e) F.1 F.2.1 F.2.2.2.1 F.2.2.2.2.1 F.2.2.2.2.2⟩
  · exact wpAny_pyIter_keyiter st h
/-- for k in d, d a locked table -/
def iKeyM (w : World) (td : TE) : TI := fun σ H R => td σ H fun x H1 => ∃ d o xs, x = .ref d ∧ H1 d = some (.frz o (MD w d xs)) ∧ R (ItM w d o xs) H1
theorem pi_keyM {X : Cx} {tg e : Expr} {td : TE} (he : PE X e td) : PI X tg e (iKeyM X.w td) := by
  refine ⟨fun pins s σ H R I h => thn (he.run pins s σ H _ I h) fun u s1 ⟨x, H1, I1, rx, d, o, xs, ex, hd, q⟩ => ?_⟩
  subst ex
  obtain rfl : u = Value.ref d := rx
  obtain ⟨sm, g, c, es, ep, dt, ee⟩ := frzM I1 hd
  refine iter_keys sm g c dt (pi_one (tk := s1.toks) I1 _ (turnM _ dt) ⟨_, Heap.get?_push_size _ rfl, rfl, ?_⟩ q)
  rw [ee.1]
  rfl
/-! ### {k: v for ..}, keys of all kinds -/
def tDcM (K : PySem.W.Frag) (w : World) (wi : TI) (g : TG) (tk tv : TE) (vs : List Nat) : TE := fun σ H Q => wi σ H fun J H1 => ∀ D, H1 D = none → ∃ W : Nat → Nat → Hp → Prop, (∃ m, W 0 m (upd H1 D (MD w D []))) ∧ ∀ i m H, W i m H →
  (J.stop i H ∧ Q (.ref D) H) ∨ (J.go i H ∧ ∃ Nx : Hp → Prop, (∀ H', Nx H' → ∃ m', m' < m ∧ W (i + 1) m' H') ∧ ∀ x H', J.yld i H x H' → g x (wipe σ vs) H' fun σ2 H2 => wipe σ2 vs = wipe σ vs ∧
    tk σ2 H2 fun y H4 => tv σ2 H4 fun z H5 => ∃ xs k, H5 D = some (MD w D xs) ∧ (∀ x ∈ xs, KeyV K H5 x.1 x.2.1) ∧ KeyV K H5 k y ∧ xs.length < sizeLine ∧ Nx (upd H5 D (MD w D (putM xs k y z))))
theorem md_empty {P : Program} {w : World} {H : Hp} (h : Heap) (hb : sysModules < h.objs.size) : ObjOk P w H (h.push { cls := .type "dict", data := .dict #[] }) h.objs.size (MD w h.objs.size []) :=
  MDat.ok ⟨Nat.zero_le _, beq_eq_false_iff_ne.mpr (Nat.ne_of_gt hb), List.nodup_nil, _, #[], 0, Heap.get?_push_size _ rfl, ⟨rfl, rfl, rfl⟩, rfl, rfl, fun j hj => absurd hj (Nat.not_lt_zero j)⟩
theorem dcM_core {X : Cx} {pins : List (Addr × Obj)} {s : Shared} {σ : St} {H : Hp} {Q : VK} {kx vx tg iter : Expr} {scope : Scope} {own : List (Str × Nat)} {pos pos' : Pos} {wi : TI} {g : TG} {tk tv : TE} {use : Option (Value → Sem Unit)} {Qf : Value → Shared → Prop} (hu : X.A.units + 9 < cLine) (hc : X.calm = true) (hN : X.N.Nodup) (I : Inv X pins σ H s) (hi : PI X tg iter wi) (ok : BlkOk X.N X.env.scope scope own)
    (hg : ∀ (s : Shared) (H : Hp) (C : Addr) (cl : List (Str × Addr)) (fp : List Addr), PG (X.blk s H scope (compEnvC scope cl C X.env) fp) tg g)
    (hk : ∀ (s : Shared) (H : Hp) (C : Addr) (cl : List (Str × Addr)) (fp : List Addr), PE (X.blk s H scope (compEnvC scope cl C X.env) fp) kx tk)
    (hv : ∀ (s : Shared) (H : Hp) (C : Addr) (cl : List (Str × Addr)) (fp : List Addr), PE (X.blk s H scope (compEnvC scope cl C X.env) fp) vx tv) (hs : ∀ x, foldedSetIterable iter X.env x = pure x)
    (h : tDcM X.K X.w wi g tk tv (own.map (·.2)) σ H Q)
    (hRR : ∀ D C s' m H', Inv X pins σ H' s' → Q (.ref D) H' → s'.heap.Ns C m → FpOk X pins H' C → compPost (model X.prog X.w) X.A X.xe use Qf (.ref D) C (.ok .next) s') :
    wpAny (model X.prog X.w) X.A (comprehension (.DictComp kx vx [⟨tg, iter, [], 0⟩] scope pos) scope X.env pos' newDict false (eval iter X.env) use) Qf X.xe s := by
  have frees : ∀ y ∈ scope.names, y.2 = .free → ∃ c, X.env.cells.lookup y.1 = some c := fun y hy e => (ok.free y hy e).elim (fun k => I.ok.has _ (.inl k)) fun k => I.ok.has _ (.inr k)
  refine wpAny_comprehension_free (use := use) rfl hs (closure_ok frees) ok.kind (fun y hy e => by rw [ok.uniq y hy, e]) (thn (hi.run pins s σ H _ I h) fun xv s1 hx => thn hx fun itv s2 hh => ?_)
  obtain ⟨it, fp, tn, J, H2, e, I2, T, st2, f2, q⟩ := hh
  subst e
  refine wpAny_newObj_type (newEnv_comp ?_)
  have hDn : H2 s2.heap.objs.size = none := I2.hok.fresh (Nat.le_refl _)
  have new : Inv X pins σ (upd H2 s2.heap.objs.size (MD X.w s2.heap.objs.size [])) { s2 with heap := s2.heap.push { cls := .type "dict", data := .dict #[] } } :=
    I2.laid (t' := s2.toks) (fun b o e => Heap.get?_push_of_some _ e) (Nat.le_refl _) (md_empty s2.heap I2.big)
  obtain ⟨W, ⟨m0, w0⟩, turn⟩ := q s2.heap.objs.size hDn
  have old : ∀ b ∈ fp, b < s2.heap.objs.size := fun b hb => let ⟨o, e, _⟩ := T.obj _ _ st2 b hb; Heap.lt_size e
  have f3 : ∀ b ∈ fp, FpOk X pins (upd H2 s2.heap.objs.size (MD X.w s2.heap.objs.size [])) b ∧ b < (s2.heap.push { cls := .type "dict", data := .dict #[] }).objs.size := fun b hb =>
    ⟨⟨by rw [upd_ne (Nat.ne_of_lt (old b hb))]; exact (f2 b hb).1, (f2 b hb).2⟩, by rw [Heap.size_push]; exact Nat.lt_succ_of_lt (old b hb)⟩
  have st3 : tn 0 (s2.heap.push { cls := .type "dict", data := .dict #[] }) := T.keep _ _ _ st2 fun b _ o e => Heap.get?_push_of_some _ e
  generalize eD : s2.heap.objs.size = D at *
  generalize e3 : ({ s2 with heap := s2.heap.push { cls := .type "dict", data := .dict #[] } } : Shared) = s3 at *
  have h3 : s3.heap = s2.heap.push { cls := .type "dict", data := .dict #[] } := by rw [← e3]
  rw [← h3] at f3 st3
  have B := block_start new ok hN f3
  have pg := hg s3 (upd H2 D (MD X.w D [])) s3.heap.objs.size (cellsFrom (s3.heap.objs.size + 1) scope.names (cloFrom X.env.cells scope.names [])) fp
  have pk := hk s3 (upd H2 D (MD X.w D [])) s3.heap.objs.size (cellsFrom (s3.heap.objs.size + 1) scope.names (cloFrom X.env.cells scope.names [])) fp
  have pw := hv s3 (upd H2 D (MD X.w D [])) s3.heap.objs.size (cellsFrom (s3.heap.objs.size + 1) scope.names (cloFrom X.env.cells scope.names [])) fp
  change codeAny _ _ (.compStart (.DictComp kx vx [⟨tg, iter, [], 0⟩] scope pos) 0 (.ref it) (.ref D) (compEnvC scope (cellsFrom (s3.heap.objs.size + 1) scope.names (cloFrom X.env.cells scope.names [])) s3.heap.objs.size X.env))
    (compPost (model X.prog X.w) X.A X.xe use Qf (.ref D) s3.heap.objs.size) { s3 with heap := pushCells (s3.heap.push { cls := .type "dict", data := .dict #[] }) scope.names }
  generalize ec : compEnvC scope (cellsFrom (s3.heap.objs.size + 1) scope.names (cloFrom X.env.cells scope.names [])) s3.heap.objs.size X.env = ce at B pg pk pw ⊢
  have el : ce.locals = s3.heap.objs.size := by rw [← ec]; rfl
  generalize eH : upd H2 D (MD X.w D []) = H3 at new B pg pk pw w0 f3
  have nfp : ∀ b ∈ fp, H3 b = none := fun b hb => (f3 b hb).1.1
  generalize es4 : ({ s3 with heap := pushCells (s3.heap.push { cls := .type "dict", data := .dict #[] }) scope.names } : Shared) = s4 at B ⊢
  have st4 : tn 0 s4.heap := T.keep _ _ _ st3 fun b _ o e => by rw [← es4]; exact pushCells_keeps _ _ _ _ (Heap.get?_push_of_some _ e)
  have stat : ∀ {τ : St} {G : Hp} {r : Shared}, Inv (X.blk s3 H3 scope ce fp) [] τ G r → (∀ b ∈ fp, G b = none) → ∀ b ∈ fp, FpOk (X.blk s3 H3 scope ce fp) [] G b := fun {τ G r} J' hn b hb =>
    ⟨hn b hb, (J'.ok.exf b hb).1, J'.ok.exfs b hb, .inl hb, fun x c e => (J'.ok.exf b hb).2 x c e, fun p hp => absurd (show p ∈ ([] : List (Addr × Obj)) ++ [] from hp) (by simp)⟩
  have loop : codeAny (model X.prog X.w) X.A (.compLoop (.DictComp kx vx [⟨tg, iter, [], 0⟩] scope pos) 0 (.ref it) (.ref D) ce) (compPost (model X.prog X.w) X.A X.xe use Qf (.ref D) s3.heap.objs.size) s4 := by
    refine compLoop_anyD (fun n r => ∃ i G, Inv (X.blk s3 H3 scope ce fp) [] (wipe σ (own.map (·.2))) G r ∧ tn i r.heap ∧ (∀ b ∈ fp, G b = none) ∧ W i n G) ?_ m0 ⟨0, H3, B, st4, nfp, w0⟩
    rintro n s5 ⟨i, H5, I5, st5, n5, w5⟩
    rcases turn i n H5 w5 with ⟨halt, qq⟩ | ⟨go, Nx, hNx, step⟩
    · refine thnF (T.done (X.blk s3 H3 scope ce fp) rfl rfl rfl hc i [] s5 _ H5 (fun _ _ => False) I5 (stat I5 n5) st5 halt) fun r s6 ⟨hr, I6⟩ => ?_
      subst hr
      have I7 : Inv X pins σ H5 s6 := new.call' (ch := fp) I6.os I6.base I6.hok I6.bare fun b hb => ⟨(f3 b hb).1.2.2.2.1, (f3 b hb).1.2.1, (f3 b hb).1.2.2.2.2.1, (f3 b hb).1.2.2.2.2.2⟩
      have z : H5 ce.locals = none := I6.free
      obtain ⟨m, hn, _⟩ := I6.loc
      replace hn : s6.heap.Ns ce.locals m := hn
      rw [el] at z hn
      exact hRR D s3.heap.objs.size s6 m H5 I7 qq hn (new.fpOk (Nat.le_refl _) z)
    · refine thnF (T.item (X.blk s3 H3 scope ce fp) rfl rfl rfl hc i [] s5 _ H5 (fun _ _ => False) I5 (stat I5 n5) st5 go) fun r s6 ⟨u, hr, h6⟩ => ?_
      subst hr
      refine thnF h6 fun _ s7 got => ?_
      obtain ⟨x, H7, I7, r7, y7, st7, n7⟩ := got
      refine thnF (pg.run _ s7 _ H7 x u _ (I7.pinned (stat I7 n7) (T.obj _ _ st7)) r7 (step x H7 y7)) fun _ s8 ⟨σ8, H8, I8, hw8, q8⟩ => ?_
      refine wpAny_pure ?_
      simp only [if_true]
      refine thnF (pk.run _ s8 σ8 H8 _ I8 q8) fun kz s10 ⟨yk, H10, I10, r10, q10⟩ => ?_
      refine thnF (pw.run _ s10 σ8 H10 _ I10 q10) fun vz s11 ⟨yv, H11, I11, r11, ys, k, hD11, hks, hkey, hl, nx⟩ => ?_
      have I11' : Inv (X.blk s3 H3 scope ce fp) ([] ++ pinsAt fp s7.heap) σ8 H11 s11 := I11
      have tab : TabAt X.K X.w H11 D ys := ⟨.inl hD11, hks⟩
      obtain ⟨z1, sm, o1, es, ep, ho, hcx, hd, ee, T1⟩ := tab.get (X := X.blk s3 H3 scope ce fp) I11
      obtain ⟨nk, dk⟩ := hkey.is (X := X.blk s3 H3 scope ce fp) I11 r10
      refine dSet (by omega) T1 nk dk ho hcx hd (by rw [ee.1]; exact z1) fun h' tk' o' ep' sb e1 e2 e3' => ?_
      have I12 := md_put (X := X.blk s3 H3 scope ce fp) hD11 I11 hl ee r10 r11 sb e1 e2 e3' tk'
      obtain ⟨m', hm, w'⟩ := hNx _ nx
      have pin' : ∀ b ∈ fp, ∀ o, s7.heap.get? b = some o → h'.get? b = some o ∧ (upd H11 D (MD X.w D (putM ys k yk yv))) b = none := fun b hb o e =>
        let z := I12.pin (b, o) (List.mem_append_right _ (List.mem_append_right _ (mem_pinsAt hb e)))
        ⟨z.1, z.2.1⟩
      refine ⟨m', hm, i + 1, _, (I12.unpinned (pins := [])).weak (by rw [← hw8, wipe_length]) (fun j v e => ?_), T.keep _ _ _ st7 fun b hb o e => (pin' b hb o e).1, fun b hb => ?_, w'⟩
      · rw [← hw8] at e
        exact (wipe_some e).1
      · obtain ⟨o, e, _⟩ := T.obj _ _ st7 b hb
        exact (pin' b hb o e).2
  refine codeAny_compStart_dict loop ?_
  exact T.self X.A 0 _ _ _ st4 loop
theorem pe_dcM {X : Cx} {kx vx tg iter : Expr} {scope : Scope} {own : List (Str × Nat)} {pos : Pos} {wi : TI} {g : TG} {tk tv : TE} (hu : X.A.units + 9 < cLine) (hc : X.calm = true) (hN : X.N.Nodup) (hi : PI X tg iter wi) (ok : BlkOk X.N X.env.scope scope own)
    (hg : ∀ (s : Shared) (H : Hp) (C : Addr) (cl : List (Str × Addr)) (fp : List Addr), PG (X.blk s H scope (compEnvC scope cl C X.env) fp) tg g)
    (hk : ∀ (s : Shared) (H : Hp) (C : Addr) (cl : List (Str × Addr)) (fp : List Addr), PE (X.blk s H scope (compEnvC scope cl C X.env) fp) kx tk)
    (hv : ∀ (s : Shared) (H : Hp) (C : Addr) (cl : List (Str × Addr)) (fp : List Addr), PE (X.blk s H scope (compEnvC scope cl C X.env) fp) vx tv) (hs : ∀ x, foldedSetIterable iter X.env x = pure x := by intro _; rfl) :
    PE X (.DictComp kx vx [⟨tg, iter, [], 0⟩] scope pos) (tDcM X.K X.w wi g tk tv (own.map (·.2))) := by
  refine ⟨fun pins s σ H Q I h => ?_⟩
  rw [arm_eval_DictComp]
  refine dcM_core hu hc hN I hi ok hg hk hv hs h fun D C s' m H' I' q hn f => ⟨m, hn, fun h2 sb => ?_⟩
  obtain ⟨a0, a1, a2, a3, a4, a5⟩ := f
  exact ⟨.ref D, H', I'.turned (t' := s'.toks) (fun b o hb e => (sb.2 b hb).trans e) a0 a1 a3 a4 a5, rfl, q⟩
/-- name = {..} on one line, the name a local -/
theorem ps_setDcM {X : Cx} {i : Nat} {y : Str} {py : Pos} {kx vx tg iter : Expr} {scope : Scope} {own : List (Str × Nat)} {pos spos : Pos} {wi : TI} {g : TG} {tk tv : TE} (hu : X.A.units + 9 < cLine) (hc : X.calm = true) (hN : X.N.Nodup) (hy : X.N[i]? = some y) (hyl : X.env.scope.names.lookup y = some .local)
    (hsw : swapsWith (.DictComp kx vx [⟨tg, iter, [], 0⟩] scope pos) (some (.Name y py)) spos.line X.env = pure true) (hi : PI X tg iter wi) (ok : BlkOk X.N X.env.scope scope own)
    (hg : ∀ (s : Shared) (H : Hp) (C : Addr) (cl : List (Str × Addr)) (fp : List Addr), PG (X.blk s H scope (compEnvC scope cl C X.env) fp) tg g)
    (hk : ∀ (s : Shared) (H : Hp) (C : Addr) (cl : List (Str × Addr)) (fp : List Addr), PE (X.blk s H scope (compEnvC scope cl C X.env) fp) kx tk)
    (hv : ∀ (s : Shared) (H : Hp) (C : Addr) (cl : List (Str × Addr)) (fp : List Addr), PE (X.blk s H scope (compEnvC scope cl C X.env) fp) vx tv) (hs : ∀ x, foldedSetIterable iter X.env x = pure x := by intro _; rfl) :
    PS X (.Assign [.Name y py] (.DictComp kx vx [⟨tg, iter, [], 0⟩] scope pos) spos) (tAsg (tDcM X.K X.w wi g tk tv (own.map (·.2))) (gName i)) := by
  refine ⟨fun pins s σ H D I h => ?_⟩
  rw [exec_Assign_Name_used _ _ _ _ hsw]
  refine wpAny_bind (wpAny_standAt ?_)
  refine wpAny_bind ?_
  change wpAny _ X.A (do let _ ← comprehension (.DictComp kx vx [⟨tg, iter, [], 0⟩] scope pos) scope X.env (firstIterPos [⟨tg, iter, [], 0⟩] pos) newDict false (eval iter X.env) (some (assign (.Name y py) X.env))) _ _ s
  have h : tDcM X.K X.w wi g tk tv (own.map (·.2)) σ H (fun x H1 => gName i x σ H1 D.nx) := h
  refine wpAny_bind (thn (dcM_core (Qf := fun _ s' => SP X pins D .next s') hu hc hN I hi ok hg hk hv hs h fun L C s' m H' I' q hn f => ?_) fun _ s' hq => wpAny_pure (wpAny_pure hq))
  change wpAny _ _ (assign (.Name y py) X.env (.ref L)) _ _ _
  obtain ⟨c0, c1, c2, c3, c4, c5⟩ := f
  refine wpAny_assign_Name (store_ok2 I' hN hy (v := .ref L) (.inl hyl) rfl (fun s2 J ⟨at_, same, whose⟩ => ?_) (.inr hyl))
  have apart : C ≠ at_ := whose.elim (fun z => z ▸ c1) fun z e => c4 y at_ z e.symm
  exact ⟨m, hn.sameBut same apart, fun h3 sb => ⟨_, H', J.turned (t' := s2.toks) (fun b o nb g => (sb.2 b nb).trans g) c0 c1 c3 c4 c5, q⟩⟩
theorem sw_trueD {kx vx : Expr} {gs : List Comprehension} {scope : Scope} {pos py : Pos} {y : Str} {l : Nat} {env : Env} (hk : env.scope.kind = .function) (hy : env.scope.names.lookup y = some .local) (hl : (py.line == pos.line) = true)
    (ha : (scope.names.any fun (n, k) => n == y && (k == .local || k == .cell)) = false) : swapsWith (.DictComp kx vx gs scope pos) (some (.Name y py)) l env = pure true := by
  have block : env.blockKind = .function := by simp only [Env.blockKind, hk]; rfl
  have kind : env.kindOf y = some .local := hy
  simp only [swapsWith, block, kind, ha, Expr.pos, hl]
  rfl
end Fc
namespace Fc
open PySem L2 PyProof.Rows
theorem mem_putM {xs : List Ent} {k : NK} {kv v : V} {x : Ent} (h : x ∈ putM xs k kv v) : (x.1 = k ∧ x.2.1 = kv) ∨ ∃ y ∈ xs, x.1 = y.1 ∧ x.2.1 = y.2.1 := by
  unfold putM at h
  cases e : posM xs k with
  | none =>
    rw [e] at h
    rcases List.mem_append.mp h with h | h
    · exact .inr ⟨x, h, rfl, rfl⟩
    · rw [List.mem_singleton] at h
      subst h
      exact .inl ⟨rfl, rfl⟩
  | some i =>
    rw [e] at h
    obtain ⟨j, hj⟩ := List.mem_iff_getElem?.mp (show x ∈ xs.modify i _ from h)
    rw [List.getElem?_modify] at hj
    cases q : xs[j]? with
    | none => rw [q] at hj; cases hj
    | some y =>
      rw [q] at hj
      replace hj : (if i = j then (y.1, y.2.1, v) else y) = x := Option.some.inj hj
      refine .inr ⟨y, List.mem_of_getElem? q, ?_⟩
      by_cases w : i = j
      · rw [if_pos w] at hj; subst hj; exact ⟨rfl, rfl⟩
      · rw [if_neg w] at hj; subst hj; exact ⟨rfl, rfl⟩
theorem keysV_putM {K : PySem.W.Frag} {H : Hp} {xs : List Ent} {k : NK} {kv v : V} (h : ∀ x ∈ xs, KeyV K H x.1 x.2.1) (hk : KeyV K H k kv) : ∀ x ∈ putM xs k kv v, KeyV K H x.1 x.2.1 := by
  intro x hx
  rcases mem_putM hx with ⟨a, b⟩ | ⟨y, hy, a, b⟩
  · rw [a, b]; exact hk
  · rw [a, b]; exact h y hy
def mergeM (acc more : List Ent) : List Ent := more.foldl (fun a x => putM a x.1 x.2.1 x.2.2) acc
theorem keysV_mergeM {K : PySem.W.Frag} {H : Hp} : ∀ {more xs : List Ent}, (∀ x ∈ xs, KeyV K H x.1 x.2.1) → (∀ x ∈ more, KeyV K H x.1 x.2.1) → ∀ x ∈ mergeM xs more, KeyV K H x.1 x.2.1
  | [], _, h, _ => h
  | y :: more, _, h, h2 => keysV_mergeM (more := more) (keysV_putM h (h2 y List.mem_cons_self)) fun x hx => h2 x (List.mem_cons_of_mem _ hx)
/-- the keys, in the heap -/
def KeysH (h : Heap) (xs : List Ent) : Prop := ∀ x ∈ xs, ∀ u, RelV x.2.1 u → NestedIs h x.1 u ∧ x.1.depth ≤ 8
theorem KeysH.at {h h' : Heap} {xs : List Ent} (k : KeysH h xs) (t : ∀ a o vs n, h.get? a = some o → o.data = .seq vs n → h'.get? a = some o) : KeysH h' xs := fun x hx u r => ⟨NestedIs.at t _ _ (k x hx u r).1, (k x hx u r).2⟩
theorem KeysH.put {h : Heap} {xs : List Ent} {k : NK} {kv v : V} (q : KeysH h xs) (hk : ∀ u, RelV kv u → NestedIs h k u ∧ k.depth ≤ 8) : KeysH h (putM xs k kv v) := by
  intro x hx u r
  rcases mem_putM hx with ⟨a, b⟩ | ⟨y, hy, a, b⟩
  · rw [a]; rw [b] at r; exact hk u r
  · rw [a]; rw [b] at r; exact q y hy u r
theorem Ents.tab {w : World} {h : Heap} {xs : List Ent} {es : Array DictEntry} (ee : Ents w xs es) (nd : (keys xs).Nodup) (k : KeysH h xs) : Tab w h (keys xs) es := by
  refine ⟨by rw [ee.1, List.length_map], fun j hj => ?_, nd⟩
  have hx : j < xs.length := by rw [← ee.1]; exact hj
  obtain ⟨e1, e2, _⟩ := ee.2 j hj xs[j] (List.getElem?_eq_getElem hx)
  obtain ⟨n, d⟩ := k xs[j] (List.getElem_mem hx) _ e2
  exact ⟨xs[j].1, by rw [List.getElem?_map, List.getElem?_eq_getElem hx]; rfl, e1, n, d⟩
section
variable {P : Program} {w : World} {A : Around} {E : Value → Shared → Prop}
/-- the pairs of a list go into a table, one by one -/
theorem updM {R : Result → Shared → Prop} {S J l : Addr} {items : Array Value} {res : Value} (hu : A.units + 9 < cLine) (hh : A.handled = none) (hlJ : l ≠ J) (hSJ : S ≠ J) (hSl : S ≠ l) :
    ∀ (rest : List Ent) (i : Nat) (acc : List Ent) (ix : Int) (t : Tok) (s : Shared), items.size = i + rest.length → acc.length + rest.length ≤ sizeLine →
      (∀ (j : Nat) (x : Ent), rest[j]? = some x → ∃ (b : Addr) (u r : Value), items[i + j]? = some (.ref b) ∧ b ≠ S ∧ b ≠ J ∧ IsTup s.heap b #[u, r] ∧ RelV x.2.1 u ∧ RelV x.2.2 r) →
      KeysH s.heap acc → KeysH s.heap rest → s.heap.IsListIter J l i → s.heap.IsList l items → MDat w S acc s.heap →
      (∀ h' tk, MDat w S (mergeM acc rest) h' → (∀ b o, b ≠ S → b ≠ J → s.heap.get? b = some o → h'.get? b = some o) → R (.ok (.ret res)) { s with heap := h', toks := tk }) →
      codeAny (model P w) A (.builtin "dict.update.loop" ⟨[.ref S, .ref J, .int ix t, res], []⟩) R s
  | [], i, acc, ix, t, s, hsz, _, _, _, _, hit, hl, hm, hR => by
    refine codeAny_builtin ud_entry ?_
    rw [Around.under_plainId ud_plain _]
    change wpAny _ A.in1 (pyNext (.ref J) >>= _) _ _ s
    refine wpAny_bind (wpAny_pyNext_list_end (A := A.in1) hh hit hl (Array.getElem?_eq_none (Nat.le_of_eq hsz)) fun h' he => ?_)
    change wpAny _ A.in1 (Builtin.Dict.addKeywords S [] >>= _) _ _ _
    refine wpAny_bind (wpAny_pure (wpAny_pure ?_))
    obtain ⟨z1, z2, z3, o, es, ep, ho, r⟩ := hm
    exact hR h' s.toks ⟨z1, z2, z3, o, es, ep, he S o hSJ ho, r⟩ fun b o _ hb e => he b o hb e
  | x :: rest, i, acc, ix, t, s, hsz, hln, ht, hka, hkr, hit, hl, hm, hR => by
    obtain ⟨b, u, r, hb, hbS, hbJ, htup, r1, r2⟩ := ht 0 x rfl
    rw [List.length_cons] at hsz hln
    refine codeAny_builtin ud_entry ?_
    rw [Around.under_plainId ud_plain _]
    change wpAny _ A.in1 (pyNext (.ref J) >>= _) _ _ s
    have here : items[i]? = some (.ref b) := by simpa using hb
    refine wpAny_bind (wpAny_pyNext_list_item hit hl here fun h1 hit1 hs1 => ?_)
    have seq1 : ∀ a o vs n, s.heap.get? a = some o → o.data = .seq vs n → h1.get? a = some o := fun a o vs n e dt => hs1.extBut a o (by
      rintro rfl
      obtain ⟨o', e', _, d'⟩ := id hit
      rw [e] at e'
      cases e'
      rw [dt] at d'
      cases d') e
    have ht1 : IsTup h1 b #[u, r] := htup.extBut hs1.extBut hbJ
    obtain ⟨z1, z2, z3, oS, es, ep, hoS, cS, dS, ee⟩ := id hm
    have gS : h1.get? S = some oS := hs1.extBut S oS hSJ hoS
    have k1 : KeysH h1 acc := hka.at seq1
    have tyB : Shared.TypeIs { s with heap := h1 } (.ref b) "tuple" := ht1.typeIs
    obtain ⟨ob, gb, _, _, db⟩ := id ht1
    change wpAny _ A.in1 (holding [Value.ref b] _ >>= _) _ _ _
    refine wpAny_bind (wpAny_holding (wpAny_bind (wpAny_tryCatch ?_)))
    unfold Builtin.Dict.pairItems
    refine wpAny_bind (wpAny_typeOf tyB ?_)
    rw [if_pos (by decide)]
    refine wpAny_bind (wpAny_seqItems gb db (wpAny_pure ?_))
    change wpAny _ A.in1 (holding [u, r] (dictSet S u r)) _ _ _
    obtain ⟨nk, dk⟩ := hkr x List.mem_cons_self u r1
    refine wpAny_holding (dSet (s := { s with heap := h1 }) (by show A.units + 1 + 8 < cLine; omega) (ee.tab z3 k1) (NestedIs.at seq1 _ _ nk) dk gS cS dS (by rw [ee.1]; exact z1) fun h2 tk2 o2 ep2 hs2 e1 e2 e3 => ?_)
    replace hs2 : Heap.SameBut S h1 h2 := hs2
    have seq2 : ∀ a o vs n, h1.get? a = some o → o.data = .seq vs n → h2.get? a = some o := fun a o vs n e dt => hs2.extBut a o (by
      rintro rfl
      rw [gS] at e
      cases e
      rw [dt] at dS
      cases dS) e
    have seq12 : ∀ a o vs n, s.heap.get? a = some o → o.data = .seq vs n → h2.get? a = some o := fun a o vs n e dt => seq2 a o vs n (seq1 a o vs n e dt) dt
    have len := len_putM acc x.1 x.2.1 x.2.2
    refine wpAny_pure ⟨plainId_quiet ud_plain _, updM (items := items) hu hh hlJ hSJ hSl rest (i + 1) (putM acc x.1 x.2.1 x.2.2) (ix + 1) 0 _ (by omega) (by omega) (fun j y e => ?_) ?_ (KeysH.at (xs := rest) (fun y hy => hkr y (List.mem_cons_of_mem _ hy)) seq12) ?_ ?_ ?_ fun h' tk hd' k => ?_⟩
    · obtain ⟨b', u', r', q1, q2, q3, q4, q5, q6⟩ := ht (j + 1) y (by simpa using e)
      exact ⟨b', u', r', by rw [show i + 1 + j = i + (j + 1) by omega]; exact q1, q2, q3, (q4.extBut hs1.extBut q3).extBut hs2.extBut q2, q5, q6⟩
    · refine (hka.at seq12).put fun u' ru => ?_
      obtain ⟨a, b⟩ := hkr x List.mem_cons_self u' ru
      exact ⟨NestedIs.at seq12 _ _ a, b⟩
    · exact hit1.at fun o' e => hs2.extBut J o' (Ne.symm hSJ) e
    · exact (hl.extBut hs1.extBut hlJ).extBut hs2.extBut (Ne.symm hSl)
    · exact ⟨by omega, z2, nd_putM acc x.1 x.2.1 x.2.2 z3, o2, _, ep2, e1, e2, e3, ee.put x.1 r1 r2⟩
    · refine hR h' tk hd' fun c oc nS nJ e => k c oc nS nJ ?_
      exact hs2.extBut c oc nS (hs1.extBut c oc nJ e)
/-- dict(l), l a list of pairs -/
theorem dictPairs {s : Shared} {l : Addr} {ol : Obj} {items : Array Value} {n : Nat} {prs : List Ent} {Q : Value → Shared → Prop} (hu : A.units + 10 < cLine) (hh : A.handled = none) (hl : s.heap.get? l = some ol) (hc : ol.cls = .type "list") (hd : ol.dict = none)
    (hdat : ol.data = .seq items n) (hsz : items.size = prs.length) (hln : prs.length ≤ sizeLine) (hk : KeysH s.heap prs) (hb : sysModules < s.heap.objs.size)
    (ht : ∀ (j : Nat) (x : Ent), prs[j]? = some x → ∃ (b : Addr) (u r : Value), items[j]? = some (.ref b) ∧ IsTup s.heap b #[u, r] ∧ RelV x.2.1 u ∧ RelV x.2.2 r)
    (h : ∀ h' tk, MDat w s.heap.objs.size (mergeM [] prs) h' → (∀ b o, s.heap.get? b = some o → h'.get? b = some o) → Q (.ref s.heap.objs.size) { s with heap := h', toks := tk }) :
    wpAny (model P w) A (call (.type "dict") [.ref l]) Q E s := by
  refine callType_codes (Q₁ := fun v s₁ => v = .ref s.heap.objs.size ∧ s₁ = { s with heap := s.heap.push { cls := .type "dict", data := .dict #[] } }) PySem.F.kt_called_dict (PySem.F.kt_typeCall_dict_1 _) PySem.F.entry_dict_init (kt_code_dict_new _ ⟨rfl, rfl⟩) ?_
  rintro v s₁ ⟨e1, e2⟩
  subst e1 e2
  have gD : (s.heap.push { cls := .type "dict", data := .dict #[] }).get? s.heap.objs.size = some { cls := .type "dict", data := .dict #[] } := Heap.get?_push_size _ rfl
  have k0 : ∀ {b : Addr} {o : Obj}, s.heap.get? b = some o → (s.heap.push { cls := .type "dict", data := .dict #[] }).get? b = some o := fun e => Heap.get?_push_of_some _ e
  refine ⟨⟨_, gD, rfl⟩, PySem.F.args_dict_init_2 _ _, ?_⟩
  unfold Builtin.«dict.__init__»
  refine wpAny_bind ?_
  unfold Builtin.Dict.selfAndRest
  refine wpAny_bind (wpAny_notOrdered_dict ⟨_, gD, rfl⟩ (wpAny_pure ?_))
  change wpAny _ _ (Builtin.Dict.updateFrom "dict.__init__" s.heap.objs.size (.ref l) [] .none) _ _ _
  unfold Builtin.Dict.updateFrom
  have gl := k0 hl
  refine wpAny_bind (wpAny_typeOf (v := .ref l) (T := "list") ⟨ol, gl, hc⟩ ?_)
  rw [if_pos (by decide)]
  refine wpAny_bind (miss_list gl hc hdat hd hh fun h1 tk1 hk1 => ?_)
  have plain : (none : Option Value).isNone = true := rfl
  rw [if_pos plain]
  refine wpAny_bind (wpAny_rule ?_)
  have hl1 : h1.IsList l items := ⟨ol, hk1 l ol gl, hc, n, hdat⟩
  have gS : h1.get? s.heap.objs.size = some { cls := .type "dict", data := .dict #[] } := hk1 _ _ gD
  have lt1 : s.heap.objs.size < h1.objs.size := Heap.lt_size gS
  refine wpAny_bind (wpAny_pyIter_list hl1 ?_)
  generalize eh2 : h1.push { cls := .type "list_iterator", data := .fields #[.ref l, .int 0 0] } = h2
  have k2 : ∀ b o, h1.get? b = some o → h2.get? b = some o := fun b o e => by rw [← eh2]; exact Heap.get?_push_of_some _ e
  have k3 : ∀ b o, s.heap.get? b = some o → h2.get? b = some o := fun b o e => k2 _ _ (hk1 _ _ (k0 e))
  have lt : l < s.heap.objs.size := Heap.lt_size hl
  have fin := updM (P := P) (w := w) (A := A.in1) (R := wants (fun r s₂ => r = .none ∧ Q (.ref s.heap.objs.size) s₂) E) (S := s.heap.objs.size) (J := h1.objs.size) (l := l) (items := items) (res := Value.none) (by show A.units + 1 + 9 < cLine; omega) hh
    (Nat.ne_of_lt (Nat.lt_trans lt lt1)) (Nat.ne_of_lt lt1) (Nat.ne_of_gt lt) prs 0 [] 0 0 { s with heap := h2, toks := tk1 } (by rw [hsz, Nat.zero_add]) (by rw [List.length_nil, Nat.zero_add]; exact hln)
    (fun j x e => by
      obtain ⟨b, u, r, q1, q2, q3, q4⟩ := ht j x e
      exact ⟨b, u, r, by rw [Nat.zero_add]; exact q1, Nat.ne_of_lt q2.lt, Nat.ne_of_lt (Nat.lt_trans q2.lt lt1), q2.keeps fun c o z => k3 _ _ z, q3, q4⟩)
    (fun x hx => nomatch hx) (hk.at fun a o vs n e _ => k3 a o e) ⟨_, by rw [← eh2]; exact Heap.get?_push_size _ rfl, rfl, rfl⟩ (hl1.at fun o e => k2 _ _ e)
    ⟨Nat.zero_le _, beq_eq_false_iff_ne.mpr (Nat.ne_of_gt hb), List.nodup_nil, _, #[], 0, k2 _ _ gS, ⟨rfl, rfl, rfl⟩, rfl, rfl, fun j hj => absurd hj (Nat.not_lt_zero j)⟩
    (fun h' tk hd' k => ⟨rfl, h h' tk hd' fun b o e => k b o (Nat.ne_of_lt (Heap.lt_size e)) (Nat.ne_of_lt (Nat.lt_trans (Heap.lt_size e) lt1)) (k3 _ _ e)⟩)
  first
    | exact wpAny_pure ⟨plainId_quiet ud_plain _, fin⟩
    | exact wpAny_bind (wpAny_pure (wpAny_pure ⟨plainId_quiet ud_plain _, fin⟩))
end
section
variable {X : Cx}
/-- a pair of a list of pairs -/
def PairV (K : PySem.W.Frag) (H : Hp) (y : V) (x : Ent) : Prop := ∃ p, y = .ref p ∧ SqT K H p [x.2.1, x.2.2] ∧ KeyV K H x.1 x.2.1
theorem call_dictM (hu : X.A.units + 10 < cLine) (hcalm : X.calm = true) : CallR X (.type "dict") (fun xs H Q => ∃ (a : Addr) (ys : List V) (es : List Ent), xs = [.ref a] ∧ SqL X.K H a ys ∧ Paired (PairV X.K H) ys es ∧
    ∀ p, H p = none → Q (.ref p) (upd H p (MD X.w p (mergeM [] es)))) := by
  intro pins s σ H xs us Q I r ⟨a, ys, es, ex, hq, hp, q⟩
  subst ex
  obtain ⟨u, eu, rx⟩ := vals1 r
  subst eu
  obtain rfl : u = Value.ref a := rx
  obtain ⟨its, rv, ⟨o, n, ho, hc, hd, hdat⟩, hz⟩ := I.list hq
  have hl : ys.length = es.length := Paired.length hp
  have hkv : ∀ x ∈ es, KeyV X.K H x.1 x.2.1 := by
    clear rv hz hl q hdat hq
    induction hp with
    | nil => intro x hx; cases hx
    | cons h _ ih =>
      intro x hx
      rcases List.mem_cons.mp hx with e | hx
      · subst e; obtain ⟨_, _, _, z⟩ := h; exact z
      · exact ih x hx
  refine dictPairs (prs := es) hu (I.ok.hd hcalm) ho hc hd hdat (by rw [← hl, rv.length]; simp) (by rw [← hl]; exact hz) (fun x hx u ru => (hkv x hx).is I ru) I.big (fun j x e => ?_) fun h' tk md k => ?_
  · have hj : j < ys.length := by rw [hl]; exact (List.getElem?_eq_some_iff.mp e).1
    obtain ⟨x', e', p, ey, ht, _⟩ := paired_get hp (List.getElem?_eq_getElem hj)
    rw [e] at e'
    cases e'
    obtain ⟨uy, hy, ry⟩ := rv.get (List.getElem?_eq_getElem hj)
    rw [ey] at ry
    obtain rfl : uy = Value.ref p := ry
    obtain ⟨t2, rt, it, _⟩ := I.tuple ht
    obtain ⟨u1, u2, et, q1, q2⟩ := vals2 rt
    subst et
    exact ⟨p, u1, u2, by rw [List.getElem?_toArray]; exact hy, it, q1, q2⟩
  · exact ⟨.ref s.heap.objs.size, _, I.laid (t' := tk) k (Nat.le_refl _) md.ok, rfl, q _ (I.hok.fresh (Nat.le_refl _))⟩
/-! ### {} and written tables -/
def tDNewM (w : World) : TE := fun _ H Q => ∀ p, H p = none → Q (.ref p) (upd H p (MD w p []))
theorem pe_dnewM {pos : Pos} : PE X (.Dict [] [] pos) (tDNewM X.w) := ⟨fun pins s σ H Q I h =>
  wpAny_Dict_empty ⟨.ref s.heap.objs.size, _, I.laid (a := s.heap.objs.size) (o := MD X.w s.heap.objs.size []) (t' := s.toks) (fun _ _ q => Heap.get?_push_of_some _ q) (Nat.le_refl _) (md_empty s.heap I.big), rfl, h _ (I.hok.fresh (Nat.le_refl _))⟩⟩
def nkK : Key → NK
  | .inl i => .num i
  | .inr x => .text x
theorem nkK_inj {a b : Key} (h : nkK a = nkK b) : a = b := by
  cases a <;> cases b <;> cases h <;> rfl
def entK (kv : Key × V) : Ent := (nkK kv.1, kV kv.1, kv.2)
theorem hash_key {P : Program} {w : World} (k : Key) : (mixKind P w).hash k = (nkK k).hash w := by cases k <;> rfl
/-- a table of ints and texts, told as one of keys of all kinds -/
def tAsM (w : World) (te : TE) : TE := fun σ H Q => te σ H fun v H1 => ∃ p kvs, v = .ref p ∧ H1 p = some (.dK kvs) ∧ Q v (upd H1 p (MD w p (kvs.map entK)))
theorem pe_asM {e : Expr} {te : TE} (he : PE X e te) : PE X e (tAsM X.w te) := by
  refine ⟨fun pins s σ H Q I h => thn (he.run pins s σ H _ I h) fun u s1 ⟨v, H1, I1, rv, p, kvs, ev, hp, q⟩ => ?_⟩
  obtain ⟨z, sm, vs, kv, o, es, ep, ho, hc, hd, hk, hps, nd⟩ := (show ObjOk X.prog X.w H1 s1.heap p (.dK kvs) from I1.hok p _ hp)
  have ks : ∀ x ∈ es.toList, ∃ k, keyIs k x.key = true ∧ x.hash = (mixKind X.prog X.w).hash k := fun x hx => hk x (Array.mem_toList_iff.mp hx)
  have gen : ∀ (l : List DictEntry) (r : List (Key × Value)), Pairs (mixKind X.prog X.w) l r → (∀ x ∈ l, ∃ k, keyIs k x.key = true ∧ x.hash = (mixKind X.prog X.w).hash k) → ∀ (t : List (Key × V)), KV t r →
      l.length = t.length ∧ ∀ (j : Nat) (en : DictEntry) (x : Key × V), l[j]? = some en → t[j]? = some x → en.hash = (nkK x.1).hash X.w ∧ RelV (kV x.1) en.key ∧ RelV x.2 en.val := by
    intro l r hp
    induction hp with
    | nil => intro _ t ht; cases ht; exact ⟨rfl, fun j en x e => by simp at e⟩
    | @cons en kv l r h1 h2 _ ih =>
      intro hks t ht
      cases ht with
      | @cons x _ t _ hx ht =>
        obtain ⟨a, b⟩ := ih (fun y hy => hks y (List.mem_cons_of_mem _ hy)) t ht
        refine ⟨by rw [List.length_cons, List.length_cons, a], fun j en' x' e1 e2 => ?_⟩
        cases j with
        | zero =>
          cases e1
          cases e2
          obtain ⟨k, k1, k2⟩ := hks _ List.mem_cons_self
          have ek : k = kv.1 := (mixKind X.prog X.w).inj _ _ _ k1 h1
          refine ⟨?_, ?_, ?_⟩
          · rw [k2, ek, hx.1]; exact hash_key _
          · rw [hx.1]; exact relV_key h1
          · rw [h2]; exact hx.2
        | succ j => exact b j en' x' (by simpa using e1) (by simpa using e2)
  obtain ⟨len, at_⟩ := gen es.toList vs hps ks kvs kv
  have nd' : (keys (kvs.map entK)).Nodup := by
    have e : keys (kvs.map entK) = (kvs.map (·.1)).map nkK := by unfold keys; rw [List.map_map, List.map_map]; rfl
    rw [e, KV.keys kv]
    exact List.Pairwise.map nkK (fun a b ne e => ne (nkK_inj e)) nd
  have m : MDat X.w p (kvs.map entK) s1.heap := ⟨by rw [List.length_map]; exact z, sm, nd', o, es, ep, ho, hc, hd, by rw [List.length_map, ← len, Array.length_toList], fun j hj x e => by
    rw [List.getElem?_map] at e
    cases q : kvs[j]? with
    | none => rw [q] at e; cases e
    | some y =>
      rw [q] at e
      cases e
      have ej : es.toList[j]? = some es[j] := by rw [Array.getElem?_toList, Array.getElem?_eq_getElem hj]
      exact at_ j es[j] y ej q⟩
  refine ⟨v, _, I1.write (x := p) (e := p) (h' := s1.heap) (t' := s1.toks) (by rw [hp]; exact True.intro) (.inl rfl) (fun _ _ _ e => e) ⟨o, ho⟩ m.ok, rv, q⟩
end
end Fc
namespace Fc
open PySem L2 PyProof.Rows
/-- a def that is called where nothing is being shown (repr) -/
structure FnG (P : Program) (w : World) (K : PySem.W.Frag) (mg : Str → Option Value) (base : Heap) (k : Nat) (f : Addr) (fd : FuncData) (ps : List Str) (sp : Sp) : Prop where
  len : ∀ (vs : List V) (H : Hp) (Q : VK) (E : XK), sp vs H Q E → vs.length = ps.length
  run : ∀ (A : Around) (outer : List Env) (s : Shared) (H : Hp) (args : Args) (us : List Value) (vs : List V) (Q : VK) (E : XK), A.guards = some [] → Room k A → Env0 P w K mg base A outer s H → BindsTo s fd args (ps.zip us) → Vals vs us → sp vs H Q E →
    codeAny (model P w) A (.call (.ref f) args) (CR CX0 outer P w H s Q E) s
section
variable {K : PySem.W.Frag} {mg : Str → Option Value} {base : Heap} {P : Program} {w : World}
theorem okG {x qual : Str} {st : Stmt} {f : Addr} {fd : FuncData} {N ps : List Str} {k : Nat} {sp : Sp} (F : Fun K x qual st f fd) (S : FnScope N ps (defScope st)) (len : ∀ vs H Q E, sp vs H Q E → vs.length = ps.length)
    (body : ∀ (cdv : Value) (A : Around) (outer : List Env) (s : Shared) (H : Hp) (vs : List V) (Q : VK) (E : XK), A.guards = some [] → Room k (A.deeper (envOfC qual (defScope st) s.heap.objs.size f cdv)) → sp vs H Q E →
      ∃ t, PSs (cxOf CX0 P w K mg base N qual (defScope st) f cdv A outer s H E).nox (defBody st) t ∧ t { nx := fun _ H' => Q .non H', rt := Q } (start N vs) H) : FnG P w K mg base (k + 1) f fd ps sp := by
  obtain ⟨oc, od, kV, doc, pm, an, cdv, ct, osl, e, lk, hcd⟩ := F.ex
  subst e
  refine ⟨len, fun A outer s H args us vs Q E hgd hr e0 hb r hsp => ?_⟩
  have old : ∀ b o, base.get? b = some o → s.heap.get? b = some o := fun b o e => (e0.bs b o e).1
  have KX : K.In s.heap := e0.mod.kin.keeps old
  have par : ∀ y ∈ ps.zip us, (defScope st).names.lookup y.1 = some .local ∨ ((defScope st).names.lookup y.1 = some .cell ∧ ((cellsFrom (s.heap.objs.size + 1) (defScope st).names []).lookup y.1).isSome = true) := fun y hy =>
    (S.par y.1 (List.of_mem_zip (a := y.1) (b := y.2) hy).1).imp id fun q => ⟨q, PySem.W.cellsFrom_some _ _ _ (.inl q)⟩
  refine codeAny_call_function hr.depth (KX _ _ lk) rfl S.co S.gen rfl (PySem.W.codeRec_of KX hcd) (hb _ _ _ _ (wpAny_newFunctionEnv_cells S.kind par fun env he s1 z => ?_))
  subst he
  refine ⟨(e0.mod.nolimit.keeps old).keeps z.toInCall.keep, codeAny_func ?_⟩
  obtain ⟨t, ht, hq⟩ := body cdv A outer s H vs Q E hgd (hr.deeper _) hsp
  have I := inv_start (CX := CX0) (E := E) (cd := cdv) S hr.hd e0 (len _ _ _ _ hsp) r z
  refine wpAny_mono (ht.nox.run [] s1 (start N vs) H _ I hq) (fun fl s' hs => ?_) fun e s' hs => hs
  cases fl with
  | ret u => obtain ⟨v, σ', H', J, rv, q⟩ := hs; exact ⟨v, H', J.os, J.bare, J.base, J.hok, rv, q⟩
  | next => obtain ⟨σ', H', J, q⟩ := hs; exact ⟨.non, H', J.os, J.bare, J.base, J.hok, rfl, q⟩
  | brk => obtain ⟨_, _, _, q⟩ := hs; exact q.elim
  | cont => obtain ⟨_, _, _, q⟩ := hs; exact q.elim
end
section
variable {X : Cx} {f : Addr} {fd : FuncData} {ps : List Str} {sp : Sp} {k : Nat}
theorem pe_callG {x : Str} {p pos : Pos} {e : Expr} {es : List Expr} {t : TA} (F : FnG X.prog X.w X.K X.mg X.base k f fd ps sp) (hgd : X.A.guards = some []) (hr : Room k X.A) (hg : Gl X x) (hm : X.mg x = some (.ref f)) (hk : PySem.W.keepIn X.K (.ref f) = true) (hb : Binds X.K fd ps [])
    (ha : PA X (e :: es) t) (hdb : (x == ("__debug__" : Str)) = false := by decide) (st : starEach (e :: es) X.env = (false, eval e X.env) :: starEach es X.env := by rfl)
    (hpl : (backTo pos (starEach es X.env)).any (·.1) = false := by rfl) :
    PE X (.Call (.Name x p) (e :: es) [] pos) (tCall sp [] E0 t) := by
  refine ⟨fun pins s σ H Q I h => wpAny_Call_Name_kw (ld_glob I hg hm ?_ hdb)⟩
  have args := ha.run pos pins s σ H _ I h
  refine PySem.W.callWith_K (h₀ := X.base) I.ok.mod.kin hk (thn args fun us s1 ⟨vs, H1, I1, r, q⟩ => ⟨I1.kIn, ?_⟩) st hpl
  have q' : sp (vs ++ []) H1 Q E0 := q
  rw [List.append_nil] at q'
  have hl : us.length = ps.length := by rw [← r.length]; exact F.len _ _ _ _ q'
  have bd := hb s1 us I1.kIn (by rw [List.append_nil]; exact hl)
  rw [List.append_nil] at bd
  refine wpAny_call (codeAny_mono (F.run X.A X.stack s1 H1 ⟨us, []⟩ us vs Q E0 hgd hr I1.env0 bd r q') fun r s' hq => ?_)
  cases r with
  | error e => exact hq.elim
  | ok fl =>
    cases fl with
    | ret u => exact I1.after hq
    | next => exact hq.elim
    | brk => exact hq.elim
    | cont => exact hq.elim
end
/-! ### what is shown, and how long it is -/
mutual
/-- data without lists and dicts -/
def tupD : PyData → Bool
  | .none | .bool _ | .int _ | .str _ => true
  | .list _ | .dict _ => false
  | .tuple xs => tupDs xs
def tupDs : List PyData → Bool
  | [] => true
  | x :: xs => tupD x && tupDs xs
end
mutual
theorem reads_nil {h : Heap} : ∀ (d : PyData) (v : Value) (as : List Addr), Reads h v d as → tupD d = true → as = []
  | _, _, _, .none, _ => rfl
  | _, _, _, .bool _, _ => rfl
  | _, _, _, .int _ _, _ => rfl
  | _, _, _, .str _ _, _ => rfl
  | _, _, _, .list _ _ _ _, h => by simp [tupD] at h
  | _, _, _, .dict _ _ _ _ _, h => by simp [tupD] at h
  | .tuple ds, _, as, .tuple (vs := vs) _ _ _ r, h => readsAll_nil ds vs.toList as r (by simpa [tupD] using h)
theorem readsAll_nil {h : Heap} : ∀ (ds : List PyData) (vs : List Value) (as : List Addr), ReadsAll h vs ds as → tupDs ds = true → as = []
  | _, _, _, .nil, _ => rfl
  | d :: ds, _, _, .cons (v := v) (vs := vs) (as := as) (bs := bs) r t, h => by
    simp only [tupDs, Bool.and_eq_true] at h
    rw [reads_nil d v as r h.1, readsAll_nil ds vs bs t h.2]
    rfl
end
section
variable {X : Cx}
mutual
theorem Dp.noDict {K : PySem.W.Frag} {H : Hp} : ∀ (d : PyData) (v : V), Dp K H v d → d.hasDict = false
  | .none, _, _ => rfl
  | .bool _, _, _ => rfl
  | .int _, _, _ => rfl
  | .str _, _, _ => rfl
  | .list ds, _, h => by
    cases h with
    | lst _ a => simp only [PyData.hasDict]; exact DpAll.noDict ds _ a
  | .tuple ds, _, h => by
    cases h with
    | tup _ a => simp only [PyData.hasDict]; exact DpAll.noDict ds _ a
  | .dict _, _, h => by cases h
theorem DpAll.noDict {K : PySem.W.Frag} {H : Hp} : ∀ (ds : List PyData) (vs : List V), DpAll K H vs ds → PyData.hasDictAll ds = false
  | [], _, _ => rfl
  | d :: ds, _, h => by
    cases h with
    | cons a b => simp only [PyData.hasDictAll, Bool.or_eq_false_iff]; exact ⟨Dp.noDict d _ a, DpAll.noDict ds _ b⟩
end
/-- data, or a table of such -/
def DV (K : PySem.W.Frag) (w : World) (H : Hp) (v : V) (d : PyData) : Prop := Dp K H v d ∨ ∃ a xs kvs, v = .ref a ∧ TabAt K w H a xs ∧ d = .dict kvs ∧
  Paired (fun (x : Ent) (kv : PyData × PyData) => Dp K H x.2.1 kv.1 ∧ Dp K H x.2.2 kv.2 ∧ tupD kv.1 = true ∧ tupD kv.2 = true) xs kvs
/-- it can be shown, and what is shown is short -/
structure Shows (d : PyData) : Prop where
  show_ : d.showable = true
  leaves : d.leavesShort 2000 = true
  weight : d.weight ≤ 4000
  depth : d.depth ≤ 60
theorem Shows.fits {d : PyData} (h : Shows d) : d.shown.length ≤ sizeLine := by
  have q := PyData.shown_le 2000 (by decide) d h.leaves
  have w : (2000 + 2) * d.weight ≤ (2000 + 2) * 4000 := Nat.mul_le_mul (Nat.le_refl _) h.weight
  rw [sizeLine_eq]
  omega
theorem table_reads {pins : List (Addr × Obj)} {σ : L2.St} {H : Hp} {s : Shared} {a : Addr} {xs : List Ent} {kvs : List (PyData × PyData)} (I : Inv X pins σ H s) (t : TabAt X.K X.w H a xs)
    (p : Paired (fun (x : Ent) (kv : PyData × PyData) => Dp X.K H x.2.1 kv.1 ∧ Dp X.K H x.2.2 kv.2 ∧ tupD kv.1 = true ∧ tupD kv.2 = true) xs kvs) : Reads s.heap (.ref a) (.dict kvs) [a] ∧ a ≠ sysModules := by
  obtain ⟨z, sm, o, es, ep, ho, hc, hd, ee, _⟩ := t.get I
  have gen : ∀ (xs : List Ent) (kvs : List (PyData × PyData)) (l : List DictEntry), Paired (fun (x : Ent) (kv : PyData × PyData) => Dp X.K H x.2.1 kv.1 ∧ Dp X.K H x.2.2 kv.2 ∧ tupD kv.1 = true ∧ tupD kv.2 = true) xs kvs →
      l.length = xs.length → (∀ (j : Nat) (en : DictEntry) (x : Ent), l[j]? = some en → xs[j]? = some x → RelV x.2.1 en.key ∧ RelV x.2.2 en.val) → ReadsAll s.heap (l.map (·.key)) (kvs.map (·.1)) [] ∧ ReadsAll s.heap (l.map (·.val)) (kvs.map (·.2)) [] := by
    intro xs kvs l p
    induction p generalizing l with
    | nil => intro hl _; cases l with
      | nil => exact ⟨.nil, .nil⟩
      | cons _ _ => cases hl
    | cons h _ ih => intro hl r; cases l with
      | nil => cases hl
      | cons en l =>
        obtain ⟨r1, r2⟩ := r 0 en _ rfl rfl
        obtain ⟨q1, q2⟩ := ih l (by simpa using hl) fun j en x e1 e2 => r (j + 1) en x (by simpa using e1) (by simpa using e2)
        obtain ⟨as, ra⟩ := Dp.reads I _ _ _ h.1 r1
        obtain ⟨bs, rb⟩ := Dp.reads I _ _ _ h.2.1 r2
        obtain rfl := reads_nil _ _ _ ra h.2.2.1
        obtain rfl := reads_nil _ _ _ rb h.2.2.2
        exact ⟨.cons ra q1, .cons rb q2⟩
  obtain ⟨q1, q2⟩ := gen xs kvs es.toList p (by rw [Array.length_toList, ee.1]) fun j en x e1 e2 => by
    rw [Array.getElem?_toList] at e1
    obtain ⟨hj, e⟩ := Array.getElem?_eq_some_iff.mp e1
    obtain ⟨_, b, c⟩ := ee.2 j hj x e2
    rw [← e]
    exact ⟨b, c⟩
  exact ⟨Reads.dict ho hc.1 hd q1 q2, fun e => by rw [e] at sm; simp at sm⟩
/-- repr(v) -/
theorem call_reprD (hgd : X.A.guards = some []) (hu : X.A.units + 65 < cLine) : CallR X (.builtin "repr") (fun xs H Q => ∃ v d, xs = [v] ∧ DV X.K X.w H v d ∧ Shows d ∧ Q (.str d.shown) H) := by
  intro pins s σ H xs us Q I r ⟨v, d, ex, hd, S, q⟩
  subst ex
  obtain ⟨u, eu, rv⟩ := vals1 r
  subst eu
  have fin : ∀ {t : Tok} {s' : Shared}, Inv X pins σ H s' → EP X pins σ Q (.str d.shown t) s' := fun I' => ⟨.str d.shown, H, I', ⟨_, rfl⟩, q⟩
  have dep := S.depth
  rcases hd with hd | ⟨a, ys, kvs, ev, t, ed, p⟩
  · have nd := Dp.noDict d v hd
    obtain ⟨as, rd⟩ := Dp.reads I d v u hd rv
    cases hd with
    | non => cases (show u = Value.none from rv); exact P.repr_of_none (fin (I.tok _))
    | bl b => cases (show u = Value.bool b from rv); exact P.repr_of_bool (fin (I.tok _))
    | int i => obtain ⟨t, e⟩ := (show ∃ t, u = Value.int i t from rv); subst e; exact P.repr_of_int (by simpa [PyData.showable] using S.show_) (fin (I.tok _))
    | str x => obtain ⟨t, e⟩ := (show ∃ t, u = Value.str x t from rv); subst e; exact P.repr_of_str (fin (I.tok _)) S.fits
    | @lst a _ _ h1 h2 =>
      cases (show u = Value.ref a from rv)
      exact repr_of_reads' rd S.show_ (fun z => by rw [nd] at z; cases z) hgd (by omega) (fun _ _ e => e) (fun h' u tk k => fin (I.kept (t' := tk) k)) S.fits
    | @tup a _ _ h1 h2 =>
      cases (show u = Value.ref a from rv)
      exact repr_of_reads' rd S.show_ (fun z => by rw [nd] at z; cases z) hgd (by omega) (fun _ _ e => e) (fun h' u tk k => fin (I.kept (t' := tk) k)) S.fits
  · subst ev ed
    cases (show u = Value.ref a from rv)
    obtain ⟨rd, na⟩ := table_reads I t p
    exact repr_of_reads' rd S.show_ (fun _ z => na (List.mem_singleton.mp z).symm) hgd (by omega) (fun _ _ e => e) (fun h' u tk k => fin (I.kept (t' := tk) k)) S.fits
end
end Fc
namespace Fc
open PySem L2 PyProof.Rows
/-- the abstract heap at the law's beginning: the script alone, locked, or nothing -/
def startH (a : Addr) (vs : List Value) (ns : List Int) (t : Bool) : Hp := fun b => if b = a ∧ t = true then some (.frz { cls := .type "list", data := .seq vs.toArray } (.lst (ns.map V.int))) else none
theorem startH_some {a b : Addr} {vs : List Value} {ns : List Int} {t : Bool} {u : HO} (h : startH a vs ns t b = some u) : b = a ∧ t = true ∧ u = .frz { cls := .type "list", data := .seq vs.toArray } (.lst (ns.map V.int)) := by
  unfold startH at h
  by_cases c : b = a ∧ t = true
  · rw [if_pos c] at h; exact ⟨c.1, c.2, (Option.some.inj h).symm⟩
  · rw [if_neg c] at h; cases h
theorem lawG {P : Program} {w : World} {K : PySem.W.Frag} {mg mb : Str → Option Value} {k : Nat} {fa a : Addr} {fd : FuncData} {x : Str} {sp : Sp} {s₁ : Shared} {vs : List Value} {ns : List Int} (KX : K.In s₁.heap) (hns : s₁.heap.Ns mainGlobals mg) (hb : s₁.heap.Ns builtinsNs mb)
    (hbb : ∀ x : Str, x ≠ "__name__" → mb x = bootBuiltins x) (hlim : s₁.heap.NoLimit) (hg : s₁.gens = #[]) (ha : s₁.heap.get? a = some { cls := .type "list", data := .seq vs.toArray }) (hi : IntsAre vs ns) (hl : ns.length ≤ sizeLine) (hr : Room k callerA)
    (F : ∀ base : Heap, K.In base → base.Ns mainGlobals mg → FnG P w K mg base k fa fd [x] sp) (hbind : ∀ (s : Shared) (u : Value), BindsTo s fd ⟨[u], []⟩ [(x, u)])
    (hsp : ∀ H : Hp, Only H → SqL K H a (ns.map V.int) → sp [.ref a] H (fun v _ => v = .bl true) fun _ _ _ => False) :
    codeAny (model P w) callerA (.call (.ref fa) ⟨[.ref a], []⟩) (fun out z => out = .ok (.ret (.bool true)) ∧ OldK s₁.heap z.heap ∧ z.os = s₁.os ∧ AllBare z.gens) s₁ := by
  have rv := vals_of_ints hi
  -- whether the script is tracked: not if it is one of the module's own objects
  obtain ⟨t, ht⟩ : ∃ t : Bool, (t = true → K.lookup a = none) ∧ SqL K (startH a vs ns t) a (ns.map V.int) := by
    cases e : K.lookup a with
    | none => exact ⟨true, ⟨fun _ => rfl, .inl (.inr ⟨_, if_pos ⟨rfl, rfl⟩⟩)⟩⟩
    | some o =>
      have q := KX a o e
      rw [ha] at q
      cases q
      refine ⟨false, ⟨fun z => (nomatch z), .inr ⟨_, vs.toArray, _, e, rfl, rfl, rfl, ?_, by simpa using rv⟩⟩⟩
      have l := hi.length
      rw [List.size_toArray]
      omega
  obtain ⟨htr, hS⟩ := ht
  have hOnly : Only (startH a vs ns t) := fun b => by
    cases e : startH a vs ns t b with
    | none => exact .inl rfl
    | some u => obtain ⟨_, _, rfl⟩ := startH_some e; exact .inr ⟨_, _, rfl⟩
  have hok : HOk P w (startH a vs ns t) s₁.heap := fun b u e => by
    obtain ⟨rfl, _, rfl⟩ := startH_some e
    refine ⟨ha, ?_, vs, _, rv, ha⟩
    simpa using hl
  have keepB : ∀ {b : Addr} {o : Obj}, s₁.heap.get? b = some o → startH a vs ns t b = none → (hidT s₁.heap (startH a vs ns t)).get? b = some o := fun e n => hidT_get e n
  have nsK : ∀ {b : Addr} {m : Str → Option Value}, s₁.heap.Ns b m → (hidT s₁.heap (startH a vs ns t)).Ns b m := fun {b m} ⟨o, es, ep, e, d, r⟩ => ⟨o, es, ep, keepB e (by
    cases q : startH a vs ns t b with
    | none => rfl
    | some u =>
      obtain ⟨rfl, _, _⟩ := startH_some q
      rw [ha] at e
      cases e
      cases d), d, r⟩
  have hKb : K.In (hidT s₁.heap (startH a vs ns t)) := fun b o e => keepB (KX b o e) (by
    cases q : startH a vs ns t b with
    | none => rfl
    | some u =>
      obtain ⟨rfl, tt, _⟩ := startH_some q
      rw [htr tt] at e
      cases e)
  have hM : Mod K mg (hidT s₁.heap (startH a vs ns t)) := ⟨hKb, nsK hns, ⟨mb, nsK hb, hbb⟩, let ⟨mc, h1, h2⟩ := hlim; ⟨mc, nsK h1, h2⟩⟩
  have e0 : Env0 P w K mg (hidT s₁.heap (startH a vs ns t)) callerA [] s₁ (startH a vs ns t) :=
    ⟨rfl, hM, fun b o e => of_hidT e, Nat.le_of_eq (hidT_size _ _), trivial, fun b hb => absurd (show b ∈ ([] : List Addr) from hb) (by simp), hok, .of_eq hg⟩
  refine codeAny_mono ((F _ hKb (nsK hns)).run callerA [] s₁ _ ⟨[.ref a], []⟩ [.ref a] [.ref a] _ _ rfl hr e0 (hbind s₁ (.ref a)) (.cons rfl .nil) (hsp _ hOnly hS)) fun r s' h => ?_
  cases r with
  | error e => exact (show False from h).elim
  | ok fl =>
    cases fl with
    | next => exact (show False from h).elim
    | brk => exact (show False from h).elim
    | cont => exact (show False from h).elim
    | ret u =>
      obtain ⟨v, H', os, bare, un, hok', r', q⟩ := h
      obtain rfl : v = .bl true := q
      obtain rfl : u = Value.bool true := r'
      have bare_ : ∀ b : Addr, b ∉ ([] : List Addr) := fun _ => List.not_mem_nil
      refine ⟨rfl, .of_keep (fun b o e => ?_), os, bare⟩
      cases q : startH a vs ns t b with
      | none => exact un.keep b o e q (bare_ b) (bare_ b)
      | some u =>
        obtain ⟨rfl, _, rfl⟩ := startH_some q
        have z := un.frzs _ _ _ q
        obtain ⟨e2, _⟩ := hok' _ _ z
        rw [ha] at e
        cases e
        exact e2
theorem walkG {l : PySem.W.OpenLaw} {n k : Nat} {q : Program} {loose : List Str} {XP : (Str → Option Value) → Heap → Prop} {YP : World → Heap → Prop} {d : DefRec} {K : Params → PySem.W.Frag} {sp : PySem.W.Frag → Sp} {x : Str} (hn : l.most = some n) (hn2 : n ≤ sizeLine) (hdf : d.params.defaults = [])
    (hr : Room k callerA) (hY : ∀ (w : World) (h : Heap), YP w h → (K w.params).In h)
    (made : ∀ (w : World) (names : Str → Option Value) (at_ : Addr) (h : Heap), (K w.params).In h → h.Ns mainGlobals names → names d.name = some (.ref at_) →
      ∃ fd : FuncData, (∀ (s : Shared) (u : Value), BindsTo s fd ⟨[u], []⟩ [(x, u)]) ∧ ∀ base : Heap, (K w.params).In base → base.Ns mainGlobals names → FnG l.prog w (K w.params) names base k at_ fd [x] (sp (K w.params)))
    (hsp : ∀ (K : PySem.W.Frag) (H : Hp) (a : Addr) (ns : List Int), ns.length ≤ n → Only H → SqL K H a (ns.map V.int) → sp K [.ref a] H (fun v _ => v = .bl true) fun _ _ _ => False) : PySem.W.WalkO q loose XP YP l.row.toRowW d [] (fun f vs => PySem.call f vs) :=
  Att.attach_call hn hdf fun w _ s names _ at_ _ _ _ _ a vs ns G Y _ _ _ here obj whole short bare =>
    let KX := hY w _ Y
    let ⟨_, bind, F⟩ := made w names at_ _ KX G.T.g here
    lawG KX G.T.g G.T.b G.T.builtins G.T.nolimit bare obj whole (Nat.le_trans short hn2) hr F bind fun H only sq => hsp _ H a ns short only sq
end Fc
namespace Fc
open PySem L2 PyProof.Rows
/-! ### keys as data -/
inductive Kd where
  | w (x : Str) | c (a b : Str) (i : Int) | cb (a b : Str) (t : Bool) | n (i : Int) | no
  deriving DecidableEq
def nk : Kd → NK
  | .w x => .text x
  | .c a b i => .tup [.text a, .text b, .num i]
  | .cb a b t => .tup [.text a, .text b, .num (if t = true then 1 else 0)]
  | .n i => .num i
  | .no => .none
def pd : Kd → PyData
  | .w x => .str x
  | .c a b i => .tuple [.str a, .str b, .int i]
  | .cb a b t => .tuple [.str a, .str b, .bool t]
  | .n i => .int i
  | .no => .none
def KdV (K : PySem.W.Frag) (H : Hp) : Kd → V → Prop
  | .w x, v => v = .str x
  | .c a b i, v => ∃ t, v = .ref t ∧ SqT K H t [.str a, .str b, .int i]
  | .cb a b z, v => ∃ t, v = .ref t ∧ SqT K H t [.str a, .str b, .bl z]
  | .n i, v => v = .int i
  | .no, v => v = .non
theorem KdV.mono {K : PySem.W.Frag} {H H' : Hp} {k : Kd} {v : V} (t : Tups K H H') (h : KdV K H k v) : KdV K H' k v := by
  cases k with
  | w x => exact h
  | c a b i => obtain ⟨p, e, s⟩ := h; exact ⟨p, e, t _ _ s⟩
  | cb a b i => obtain ⟨p, e, s⟩ := h; exact ⟨p, e, t _ _ s⟩
  | n i => exact h
  | no => exact h
theorem KdV.key1 {K : PySem.W.Frag} {H : Hp} {k : Kd} {v : V} (h : KdV K H k v) : Key1 K H (nk k) v := by
  cases k with
  | w x => cases h; exact .inl (.text x)
  | c a b i => obtain ⟨p, rfl, s⟩ := h; exact .inr ⟨p, _, _, rfl, s, rfl, .cons (.text a) (.cons (.text b) (.cons (.num i) .nil))⟩
  | cb a b z => obtain ⟨p, rfl, s⟩ := h; exact .inr ⟨p, _, _, rfl, s, rfl, .cons (.text a) (.cons (.text b) (.cons (.bl z) .nil))⟩
  | n i => cases h; exact .inl (.num i)
  | no => cases h; exact .inl .non
theorem KdV.key {K : PySem.W.Frag} {H : Hp} {k : Kd} {v : V} (h : KdV K H k v) : KeyV K H (nk k) v := .inl h.key1
theorem KdV.dp {K : PySem.W.Frag} {H : Hp} {k : Kd} {v : V} (h : KdV K H k v) : Dp K H v (pd k) := by
  cases k with
  | w x => cases h; exact .str x
  | c a b i => obtain ⟨p, rfl, s⟩ := h; exact .tup s (.cons (.str a) (.cons (.str b) (.cons (.int i) .nil)))
  | cb a b z => obtain ⟨p, rfl, s⟩ := h; exact .tup s (.cons (.str a) (.cons (.str b) (.cons (.bl z) .nil)))
  | n i => cases h; exact .int i
  | no => cases h; exact .non
theorem pd_tup (k : Kd) : tupD (pd k) = true := by cases k <;> rfl
/-! ### tables as lists of keys and values -/
def TabR (K : PySem.W.Frag) (H : Hp) (b : Kd × V) (x : Ent) : Prop := x.1 = nk b.1 ∧ KdV K H b.1 x.2.1 ∧ x.2.2 = b.2
/-- at D a table of the keys and values B -/
def TabIs (K : PySem.W.Frag) (w : World) (H : Hp) (D : Addr) (B : List (Kd × V)) : Prop := ∃ xs, H D = some (MD w D xs) ∧ Paired (TabR K H) B xs
theorem tabR_mono {K : PySem.W.Frag} {H H' : Hp} (t : Tups K H H') {B : List (Kd × V)} {xs : List Ent} (p : Paired (TabR K H) B xs) : Paired (TabR K H') B xs := Paired.mapP p fun b x h => ⟨h.1, h.2.1.mono t, h.2.2⟩
theorem tabR_keys {K : PySem.W.Frag} {H : Hp} {B : List (Kd × V)} {xs : List Ent} (p : Paired (TabR K H) B xs) : ∀ x ∈ xs, KeyV K H x.1 x.2.1 := by
  induction p with
  | nil => intro x hx; cases hx
  | cons h _ ih =>
    intro x hx
    rcases List.mem_cons.mp hx with e | hx
    · subst e; rw [h.1]; exact h.2.1.key
    · exact ih x hx
def lookN (B : List (Kd × V)) (k : Kd) : Option V := (B.find? fun e => decide (nk e.1 = nk k)).map (·.2)
def putN : List (Kd × V) → Kd → V → List (Kd × V)
  | [], k, v => [(k, v)]
  | (a, u) :: r, k, v => if nk a = nk k then (a, v) :: r else (a, u) :: putN r k v
theorem posK_cons (x : NK) (ks : List NK) (k : NK) : posK (x :: ks) k = if x = k then some 0 else (posK ks k).map (· + 1) := by
  unfold posK
  rw [List.findIdx?_cons]
  by_cases e : x = k
  · simp [e]
  · simp [e]
theorem valM_cons (x : Ent) (xs : List Ent) (k : NK) : valM (x :: xs) k = if x.1 = k then some x.2.2 else valM xs k := by
  unfold valM posM
  rw [show keys (x :: xs) = x.1 :: keys xs from rfl, posK_cons]
  by_cases e : x.1 = k
  · rw [if_pos e, if_pos e]; rfl
  · rw [if_neg e, if_neg e]
    cases posK (keys xs) k with
    | none => rfl
    | some i => rfl
theorem putM_cons (x : Ent) (xs : List Ent) (k : NK) (kv v : V) : putM (x :: xs) k kv v = if x.1 = k then (x.1, x.2.1, v) :: xs else x :: putM xs k kv v := by
  unfold putM posM
  rw [show keys (x :: xs) = x.1 :: keys xs from rfl, posK_cons]
  by_cases e : x.1 = k
  · rw [if_pos e, if_pos e]; rfl
  · rw [if_neg e, if_neg e]
    cases posK (keys xs) k with
    | none => rfl
    | some i => rfl
theorem tabR_val {K : PySem.W.Frag} {H : Hp} {B : List (Kd × V)} {xs : List Ent} (p : Paired (TabR K H) B xs) (k : Kd) : valM xs (nk k) = lookN B k := by
  induction p with
  | nil => rfl
  | @cons b x B xs h _ ih =>
    rw [valM_cons, h.1, ih, h.2.2]
    unfold lookN
    rw [List.find?_cons]
    by_cases e : nk b.1 = nk k <;> simp [e]
theorem tabR_put {K : PySem.W.Frag} {H : Hp} {k : Kd} {kv v : V} (hk : KdV K H k kv) {B : List (Kd × V)} {xs : List Ent} (p : Paired (TabR K H) B xs) : Paired (TabR K H) (putN B k v) (putM xs (nk k) kv v) := by
  induction p with
  | nil => exact .cons ⟨rfl, hk, rfl⟩ .nil
  | @cons b x B xs h t ih =>
    rw [putM_cons, h.1]
    unfold putN
    by_cases e : nk b.1 = nk k
    · rw [if_pos e, if_pos e]; exact .cons ⟨rfl, h.2.1, rfl⟩ t
    · rw [if_neg e, if_neg e]; exact .cons h ih
theorem TabIs.at {K : PySem.W.Frag} {w : World} {H : Hp} {D : Addr} {B : List (Kd × V)} (t : TabIs K w H D B) : ∃ xs, TabAt K w H D xs ∧ Paired (TabR K H) B xs := let ⟨xs, h, p⟩ := t; ⟨xs, ⟨.inl h, tabR_keys p⟩, p⟩
theorem TabIs.mono {K : PySem.W.Frag} {w : World} {H H' : Hp} {D : Addr} {B : List (Kd × V)} (t : TabIs K w H D B) (tp : Tups K H H') (e : H' D = H D) : TabIs K w H' D B := let ⟨xs, h, p⟩ := t; ⟨xs, e.trans h, tabR_mono tp p⟩
theorem TabIs.same {K : PySem.W.Frag} {w : World} {H H' : Hp} {D : Addr} {B : List (Kd × V)} (t : TabIs K w H D B) (s : Same H H') : TabIs K w H' D B := let ⟨xs, h, p⟩ := t; ⟨xs, s _ _ h, tabR_mono (.same s) p⟩
theorem len_putN (B : List (Kd × V)) (k : Kd) (v : V) : (putN B k v).length ≤ B.length + 1 := by
  induction B with
  | nil => exact Nat.le_refl _
  | cons b B ih =>
    unfold putN
    by_cases e : nk b.1 = nk k
    · rw [if_pos e]; simp
    · rw [if_neg e]; simp only [List.length_cons]; omega
/-! ### the kinds of data -/
def tyName : PyData → String
  | .none => "NoneType" | .bool _ => "bool" | .int _ => "int" | .str _ => "str" | .list _ => "list" | .tuple _ => "tuple" | .dict _ => "dict"
theorem dp_ty {K : PySem.W.Frag} {H : Hp} {v : V} {d : PyData} (h : Dp K H v d) : TyX K H v (.type (tyName d)) := by
  cases h with
  | non => exact .base .non
  | bl b => exact .base (.bl b)
  | int i => exact .base (.int i)
  | str x => exact .base (.str x)
  | lst s _ =>
    rcases s with (s | ⟨o, s⟩) | ⟨o, its, n, e, c, _⟩
    · exact .base (.lst s)
    · exact .base (.frz s)
    · exact .kList e c
  | tup s _ =>
    rcases s with (s | ⟨o, s⟩) | ⟨o, its, n, e, c, _⟩
    · exact .base (.tup s)
    · exact .fTuple s
    · exact .kTuple e c
/-- isinstance(d, T) -/
def isTy (d : PyData) (T : String) : Bool := tyName d == T || (tyName d == "bool" && T == "int")
theorem kit_isTy (d : PyData) (T : String) (hT : T = "int" ∨ T = "bool" ∨ T = "str" ∨ T = "tuple" ∨ T = "dict" ∨ T = "list") : kitB (tyName d) T = some (isTy d T) := by
  have go : ∀ a ∈ ["NoneType", "bool", "int", "str", "list", "tuple", "dict"], ∀ T ∈ ["int", "bool", "str", "tuple", "dict", "list"], kitB a T = some (a == T || (a == "bool" && T == "int")) := by decide +kernel
  refine go (tyName d) ?_ T ?_
  · cases d <;> simp [tyName]
  · rcases hT with h | h | h | h | h | h <;> simp [h]
section
variable {X : Cx}
theorem call_isiD : CallR X (.builtin "isinstance") (fun xs H Q => ∃ v d T, xs = [v, .ty T] ∧ DV X.K X.w H v d ∧ (T = "int" ∨ T = "bool" ∨ T = "str" ∨ T = "tuple" ∨ T = "dict" ∨ T = "list") ∧ Q (.bl (isTy d T)) H) := by
  intro pins s σ H xs us Q I r ⟨v, d, T, ex, hd, hT, q⟩
  rcases hd with hd | ⟨a, ys, kvs, ev, t, ed, _⟩
  · exact call_isi pins s σ H xs us Q I r ⟨v, .ty T, _, _, isTy d T, ex, .ty T, dp_ty hd, kit_ty (kit_isTy d T hT), q⟩
  · subst ed ev
    exact call_isiM pins s σ H xs us Q I r ⟨a, ys, .ty T, _, isTy (.dict kvs) T, ex, .ty T, t, kit_ty (kit_isTy (.dict kvs) T hT), q⟩
theorem op_powW : OpR X (binaryOp .Pow) (rI (fun i j => 0 ≤ j ∧ (Builtin.Int.intBits i : Int) * j ≤ 2 ^ 27) fun i j => .int (i ^ j.toNat)) := opI fun _ _ _ _ _ _ _ hc q => pow_int hc.1 hc.2 q
end
/-- a def of the top, by its name and promise -/
structure Cal (P : Program) (w : World) (K : PySem.W.Frag) (mg : Str → Option Value) (base : Heap) (k : Nat) (x : Str) (sp : Sp) : Prop where
  at_ : ∃ (f : Addr) (fd : FuncData) (ps : List Str), FnOk P w K mg base CX0 k f fd ps sp ∧ mg x = some (.ref f) ∧ PySem.W.keepIn K (.ref f) = true ∧ Binds K fd ps []
def tCal (sp : Sp) (t : TA) : TE := fun σ H Q => t σ H fun vs H1 => sp vs H1 Q E0
theorem pe_c {X : Cx} {k j : Nat} {x : Str} {sp : Sp} {p pos : Pos} {e : Expr} {es : List Expr} {t : TA} (c : Cal X.prog X.w X.K X.mg X.base k x sp) (hr : Room j X.A) (hk : k ≤ j) (hg : Gl X x) (ha : PA X (e :: es) t) (hdb : (x == ("__debug__" : Str)) = false := by decide)
    (he : starEach (e :: es) X.env = (false, eval e X.env) :: starEach es X.env := by rfl) (hpl : (backTo pos (starEach es X.env)).any (·.1) = false := by rfl) : PE X (.Call (.Name x p) (e :: es) [] pos) (tCal sp t) := by
  obtain ⟨f, fd, ps, F, hm, kp, b⟩ := c.at_
  have q := pe_call (p := p) (pos := pos) F (hr.mono hk) hg hm kp b .nil pass0 ha hdb he hpl
  refine ⟨fun pins s σ H Q I h => q.run pins s σ H Q I ?_⟩
  have e : tCall sp [] E0 t = tCal sp t := by funext σ H Q; unfold tCall tCal; simp only [List.append_nil]
  rw [e]
  exact h
theorem hu70 {A : Around} {k : Nat} (hr : Room k A) : A.units + 70 < cLine := by have := hr.un; omega
end Fc
namespace Fc
open PySem L2
/-- an iterator of n items, item by item, where G stands -/
structure Steady (J : It) (n : Nat) (it : Nat → V) (G : Hp → Prop) : Prop where
  go : ∀ i H, G H → i < n → J.go i H
  stop : ∀ H, G H → J.stop n H
  yld : ∀ i H x H', G H → i < n → J.yld i H x H' → H' = H ∧ x = it i
theorem for_steady {J : It} {n : Nat} {it : Nat → V} {G : Hp → Prop} (S : Steady J n it G) {g : TG} {tb : TS} {D : Ends} {σ : L2.St} {H : Hp} (Pv : Nat → L2.St → Hp → Prop) (h0 : Pv 0 σ H) (hl : ∀ i σ H, i ≤ n → Pv i σ H → G H)
    (hs : ∀ i σ H, i < n → Pv i σ H → g (it i) σ H fun σ2 H2 => tb { D with nx := Pv (i + 1), ct := Pv (i + 1), bk := D.nx } σ2 H2) (hd : ∀ σ H, Pv n σ H → D.nx σ H) :
    ∃ W : Nat → Nat → L2.St → Hp → Prop, (∃ m, W 0 m σ H) ∧ ∀ i m σ H, W i m σ H → (J.stop i H ∧ D.nx σ H) ∨
      (J.go i H ∧ ∃ N : L2.St → Hp → Prop, (∀ σ' H', N σ' H' → ∃ m', m' < m ∧ W (i + 1) m' σ' H') ∧ ∀ x H', J.yld i H x H' → g x σ H' fun σ2 H2 => tb { D with nx := N, ct := N, bk := D.nx } σ2 H2) := by
  refine ⟨fun i m σ H => m + i = n ∧ Pv i σ H, ⟨n, rfl, h0⟩, fun i m σ H ⟨e, p⟩ => ?_⟩
  by_cases c : i = n
  · subst c
    exact .inl ⟨S.stop _ (hl _ _ _ (Nat.le_refl _) p), hd _ _ p⟩
  · have lt : i < n := by omega
    have q := hl i σ H (Nat.le_of_lt lt) p
    refine .inr ⟨S.go i H q lt, Pv (i + 1), fun σ' H' p' => ⟨m - 1, by omega, by omega, p'⟩, fun x H' y => ?_⟩
    obtain ⟨e1, e2⟩ := S.yld i H x H' q lt y
    rw [e1, e2]
    exact hs i σ H lt p
theorem lc_steady {J : It} {n : Nat} {it : Nat → V} {G : Hp → Prop} (S : Steady J n it G) {g : TG} {tt : TT} {te : TE} {vs : List Nat} {σ : L2.St} {H1 : Hp} {D : Addr} {Qd : Hp → Prop} (Pv : Nat → Hp → Prop) (h0 : Pv 0 (upd H1 D (.lst []))) (hl : ∀ i H, i ≤ n → Pv i H → G H)
    (hs : ∀ i H, i < n → Pv i H → g (it i) (wipe σ vs) H fun σ2 H2 => wipe σ2 vs = wipe σ vs ∧ tt σ2 H2 fun b H3 => if b = true then te σ2 H3 fun y H4 => ∃ acc, H4 D = some (.lst acc) ∧ acc.length < sizeLine ∧ Pv (i + 1) (upd H4 D (.lst (acc ++ [y]))) else Pv (i + 1) H3)
    (hd : ∀ H, Pv n H → Qd H) : ∃ W : Nat → Nat → Hp → Prop, (∃ m, W 0 m (upd H1 D (.lst []))) ∧ ∀ i m H, W i m H → (J.stop i H ∧ Qd H) ∨
      (J.go i H ∧ ∃ Nx : Hp → Prop, (∀ H', Nx H' → ∃ m', m' < m ∧ W (i + 1) m' H') ∧ ∀ x H', J.yld i H x H' → g x (wipe σ vs) H' fun σ2 H2 => wipe σ2 vs = wipe σ vs ∧ tt σ2 H2 fun b H3 =>
        if b = true then te σ2 H3 fun y H4 => ∃ acc, H4 D = some (.lst acc) ∧ acc.length < sizeLine ∧ Nx (upd H4 D (.lst (acc ++ [y]))) else Nx H3) := by
  refine ⟨fun i m H => m + i = n ∧ Pv i H, ⟨n, rfl, h0⟩, fun i m H ⟨e, p⟩ => ?_⟩
  by_cases c : i = n
  · subst c
    exact .inl ⟨S.stop _ (hl _ _ (Nat.le_refl _) p), hd _ p⟩
  · have lt : i < n := by omega
    have q := hl i H (Nat.le_of_lt lt) p
    refine .inr ⟨S.go i H q lt, Pv (i + 1), fun H' p' => ⟨m - 1, by omega, by omega, p'⟩, fun x H' y => ?_⟩
    obtain ⟨e1, e2⟩ := S.yld i H x H' q lt y
    rw [e1, e2]
    exact hs i H lt p
theorem dc_steady {K : PySem.W.Frag} {w : World} {J : It} {n : Nat} {it : Nat → V} {G : Hp → Prop} (S : Steady J n it G) {g : TG} {tk tv : TE} {vs : List Nat} {σ : L2.St} {H1 : Hp} {D : Addr} {Qd : Hp → Prop} (Pv : Nat → Hp → Prop) (h0 : Pv 0 (upd H1 D (MD w D []))) (hl : ∀ i H, i ≤ n → Pv i H → G H)
    (hs : ∀ i H, i < n → Pv i H → g (it i) (wipe σ vs) H fun σ2 H2 => wipe σ2 vs = wipe σ vs ∧ tk σ2 H2 fun y H4 => tv σ2 H4 fun z H5 => ∃ xs k, H5 D = some (MD w D xs) ∧ (∀ x ∈ xs, KeyV K H5 x.1 x.2.1) ∧ KeyV K H5 k y ∧ xs.length < sizeLine ∧ Pv (i + 1) (upd H5 D (MD w D (putM xs k y z))))
    (hd : ∀ H, Pv n H → Qd H) : ∃ W : Nat → Nat → Hp → Prop, (∃ m, W 0 m (upd H1 D (MD w D []))) ∧ ∀ i m H, W i m H → (J.stop i H ∧ Qd H) ∨
      (J.go i H ∧ ∃ Nx : Hp → Prop, (∀ H', Nx H' → ∃ m', m' < m ∧ W (i + 1) m' H') ∧ ∀ x H', J.yld i H x H' → g x (wipe σ vs) H' fun σ2 H2 => wipe σ2 vs = wipe σ vs ∧
        tk σ2 H2 fun y H4 => tv σ2 H4 fun z H5 => ∃ xs k, H5 D = some (MD w D xs) ∧ (∀ x ∈ xs, KeyV K H5 x.1 x.2.1) ∧ KeyV K H5 k y ∧ xs.length < sizeLine ∧ Nx (upd H5 D (MD w D (putM xs k y z)))) := by
  refine ⟨fun i m H => m + i = n ∧ Pv i H, ⟨n, rfl, h0⟩, fun i m H ⟨e, p⟩ => ?_⟩
  by_cases c : i = n
  · subst c
    exact .inl ⟨S.stop _ (hl _ _ (Nat.le_refl _) p), hd _ p⟩
  · have lt : i < n := by omega
    have q := hl i H (Nat.le_of_lt lt) p
    refine .inr ⟨S.go i H q lt, Pv (i + 1), fun H' p' => ⟨m - 1, by omega, by omega, p'⟩, fun x H' y => ?_⟩
    obtain ⟨e1, e2⟩ := S.yld i H x H' q lt y
    rw [e1, e2]
    exact hs i H lt p
/-! the iterators that we have -/
theorem steady_list {K : PySem.W.Frag} {a : Addr} {xs : List V} : Steady (Itl K a) xs.length (fun i => xs.getD i .non) (fun H => SqL K H a xs) where
  go := fun i H q lt => ⟨xs, xs[i], q, List.getElem?_eq_getElem lt⟩
  stop := fun H q => ⟨xs, q, Nat.le_refl _⟩
  yld := fun i H x H' q lt y => ⟨y.1, by
    have e := y.2 xs q
    rw [List.getD_eq_getElem?_getD, e]; rfl⟩
theorem steady_tup {K : PySem.W.Frag} {a : Addr} {xs : List V} : Steady (Itt K a) xs.length (fun i => xs.getD i .non) (fun H => SqT K H a xs) where
  go := fun i H q lt => ⟨xs, xs[i], q, List.getElem?_eq_getElem lt⟩
  stop := fun H q => ⟨xs, q, Nat.le_refl _⟩
  yld := fun i H x H' q lt y => ⟨y.1, by
    have e := y.2 xs q
    rw [List.getD_eq_getElem?_getD, e]; rfl⟩
theorem steady_str {x : Str} : Steady (Its x) x.cps.size (fun i => .str ⟨#[x.cps.getD i 0]⟩) (fun _ => True) where
  go := fun i H q lt => lt
  stop := fun H q => Nat.le_refl _
  yld := fun i H v H' q lt y => ⟨y.1, by
    obtain ⟨c, e, ev⟩ := y.2
    rw [ev, Array.getD_eq_getD_getElem?, e]; rfl⟩
theorem steady_key {w : World} {d : Addr} {o : Obj} {xs : List Ent} : Steady (ItM w d o xs) xs.length (fun i => (xs.map (·.2.1)).getD i .non) (fun H => H d = some (.frz o (MD w d xs))) where
  go := fun i H q lt => ⟨q, lt⟩
  stop := fun H q => ⟨q, Nat.le_refl _⟩
  yld := fun i H v H' q lt y => ⟨y.1, by
    obtain ⟨e, he, ev⟩ := y.2
    rw [ev, List.getD_eq_getElem?_getD, List.getElem?_map, he]; rfl⟩
end Fc
namespace Fc
open PySem L2 PyProof.Rows
def place : List Nat := [0, 0, 4, 5, 6, 12, 15, 0, 0, 0, 0, 2, 0, 0, 0, 0, 0, 0, 21, 22, 23, 24, 25, 26, 27, 0, 0, 28, 29, 30, 31, 0, 0, 33, 34, 35, 36, 37, 38, 39, 40, 0, 0, 0, 0, 0, 0, 0, 0, 0, 46, 0, 56]
def topS (i : Nat) : Stmt := PySem.Challenge.pw_forkcells_k00_errors_names_and_frames.main.body.getD (place.getD i 0) (.Pass ⟨0, 0, 0, 0⟩)
/-- the built-ins are not hidden -/
structure Blt (mg : Str → Option Value) : Prop where
  isinstance : mg "isinstance" = none
  int : mg "int" = none
  bool : mg "bool" = none
  str : mg "str" = none
  tuple : mg "tuple" = none
  dict : mg "dict" = none
  list : mg "list" = none
  set : mg "set" = none
  len : mg "len" = none
  abs : mg "abs" = none
  range : mg "range" = none
  zip : mg "zip" = none
  enumerate : mg "enumerate" = none
  max : mg "max" = none
  min : mg "min" = none
  repr : mg "repr" = none
abbrev isInt (d : PyData) : Bool := isTy d "int" && !isTy d "bool"
abbrev small (i : Int) : Bool := decide ((if i < 0 then -i else i) < 10 ^ 60)
def isNum (d : PyData) : Bool := match d with | .int i => small i | _ => false
theorem isInt_eq (d : PyData) : isInt d = match d with | .int _ => true | _ => false := by cases d <;> rfl
/-! promises -/
def spInt (K : PySem.W.Frag) (w : World) : Sp := fun vs H Q _ => ∃ v d, vs = [v] ∧ Dp K H v d ∧ Q (.bl (isInt d)) H
def spPassed (K : PySem.W.Frag) (w : World) : Sp := fun vs H Q _ => ∃ v d, vs = [v] ∧ Dp K H v d ∧ Q (.bl (isNum d)) H
section
variable {K : PySem.W.Frag} {mg : Str → Option Value} {base : Heap} {P : Program} {w : World}
/-! names -/
def lowC (c : Nat) : Bool := !decide ([c] < [97]) && !decide ([122] < [c])
def isNameS (x : Str) : Bool := decide (1 ≤ (x.length : Int)) && (decide ((x.length : Int) ≤ 8) && x.cps.toList.all lowC)
def spName (K : PySem.W.Frag) (w : World) : Sp := fun vs H Q _ => ∃ x : Str, vs = [.str x] ∧ x.length ≤ 1000 ∧ Q (.bl (isNameS x)) H
theorem sc21 : FnScope ["value", "letter"] ["value"] (defScope (topS 21)) := ⟨rfl, rfl, rfl, by decide +kernel, rfl, by decide +kernel, by decide +kernel⟩
theorem isTy_str (x : Str) : isTy (.str x) "str" = true := rfl
theorem ok21 {f : Addr} {fd : FuncData} (F : Fun K "is_name" "is_name" (topS 21) f fd) (B : Blt mg) : FnOk P w K mg base CX0 1 f fd ["value"] (spName K w) := by
  refine F.ok sc21 (fun vs H Q E h => ?_) (fun cdv A outer s H vs Q E hr h => ?_)
  · obtain ⟨x, rfl, _⟩ := h
    rfl
  · obtain ⟨x, rfl, hz, q⟩ := h
    refine ⟨_, pss_cons (ps_if (pw_or (pt_not (pt_val (pe_callB call_isiD (by rfl) B.isinstance boot_isinstance (pa_cons (pv 0) (pa_cons (pe_bltn (v := .ty "str") (by rfl) B.str boot_str rfl) pa_nil)))))
        (pw_or1 (pt_not (pt_chain op_le op_le pe_int (pe_callB call_len_str (by rfl) B.len boot_len (pa_cons (pv 0) pa_nil)) pe_int)))).pt (pss_one (ps_ret pe_bl)) pss_nil)
      (pss_cons (ps_for PassesOwn.never rfl (pi_str (pv 0)) (pg_name (i := 1) sc21.nd rfl (Or.inl rfl)) (pss_one (ps_if (pt_not (pt_chain op_le_str op_le_str pe_str (pv 1) pe_str)) (pss_one (ps_ret pe_bl)) pss_nil)))
      (pss_one (ps_ret pe_bl))), ?_⟩
    refine ⟨_, rfl, .str x, _, _, rfl, .inl (.str x), .inr (.inr (.inl rfl)), _, rfl, iteF ?_⟩
    have z1 : x.length ≤ sizeLine := by rw [sizeLine_eq]; omega
    refine ⟨_, rfl, x, rfl, z1, 1, _, rfl, rfl, _, rfl, ?_⟩
    unfold isNameS at q
    by_cases c1 : (1 : Int) ≤ (x.length : Int)
    · rw [decide_eq_true c1] at q ⊢
      refine iteT ⟨_, _, rfl, rfl, _, rfl, ?_⟩
      by_cases c2 : (x.length : Int) ≤ 8
      · rw [decide_eq_true c2] at q ⊢
        refine iteF ⟨_, rfl, x, rfl, ?_⟩
        replace q : Q (.bl (x.cps.toList.all lowC)) H := q
        refine for_steady steady_str (fun i σ H' => H' = H ∧ (∃ v, σ = [some (.str x), v]) ∧ (x.cps.toList.take i).all lowC = true) ⟨rfl, ⟨_, rfl⟩, rfl⟩ (fun _ _ _ _ _ => trivial) ?_ ?_
        · rintro i σ H' hi ⟨rfl, ⟨v, rfl⟩, pre⟩
          have hx : x.cps.getD i 0 = x.cps[i] := by rw [Array.getD_eq_getD_getElem?, Array.getElem?_eq_getElem hi]; rfl
          rw [hx]
          have tk : x.cps.toList.take (i + 1) = x.cps.toList.take i ++ [x.cps[i]] := by rw [List.take_add_one, List.getElem?_eq_getElem (by simpa using hi)]; simp
          refine ⟨_, rfl, _, _, rfl, rfl, _, rfl, ?_⟩
          have e1 : (!decide (({ cps := #[x.cps[i]] } : Str).cps.toList < (Str.ofString "a").cps.toList)) = !decide ([x.cps[i]] < [97]) := rfl
          have e2 : (!decide ((Str.ofString "z").cps.toList < ({ cps := #[x.cps[i]] } : Str).cps.toList)) = !decide ([122] < [x.cps[i]]) := rfl
          have mem : x.cps.toList.all lowC = true → lowC x.cps[i] = true := fun h => List.all_eq_true.mp h _ (by simp)
          have off : lowC x.cps[i] = false → Q (.bl false) H' := fun e => by
            have z : x.cps.toList.all lowC = false := by
              cases q2 : x.cps.toList.all lowC with
              | false => rfl
              | true => rw [mem q2] at e; cases e
            rw [z] at q
            exact q
          rw [e1]
          cases d1 : !decide ([x.cps[i]] < [97]) with
          | false => exact iteF ⟨_, rfl, iteT (off (by unfold lowC; rw [d1]; rfl))⟩
          | true =>
            refine iteT ⟨_, _, rfl, rfl, _, rfl, ?_⟩
            rw [e2]
            cases d2 : !decide ([122] < [x.cps[i]]) with
            | false => exact iteT (off (by unfold lowC; rw [d2, Bool.and_false]))
            | true =>
              refine iteF ⟨rfl, ⟨_, rfl⟩, ?_⟩
              rw [tk, List.all_append, pre]
              simp only [List.all_cons, List.all_nil, Bool.and_true, Bool.true_and]
              unfold lowC
              rw [d1, d2]
              rfl
        · rintro σ H' ⟨rfl, ⟨v, rfl⟩, pre⟩
          rw [List.take_of_length_le (by simp)] at pre
          rw [pre] at q
          exact q
      · rw [decide_eq_false c2] at q ⊢
        exact iteT q
    · rw [decide_eq_false c1] at q ⊢
      exact iteF ⟨_, rfl, iteT q⟩
end
end Fc
namespace Fc
open PySem L2 PyProof.Rows
theorem same_new {H : Hp} {a : Addr} {o : HO} (h : H a = none) : Same H (upd H a o) := fun b u e => by rw [upd_ne (ne_of_none e h)]; exact e
theorem hu9 {n : Nat} (h : n + 70 < cLine) : n + 9 < cLine := by omega
theorem paired_at {α β : Type} {p : α → β → Prop} {as : List α} {bs : List β} (h : Paired p as bs) {i : Nat} {a : α} {b : β} (ha : as[i]? = some a) (hb : bs[i]? = some b) : p a b := by
  induction h generalizing i with
  | nil => simp at ha
  | cons h _ ih =>
    cases i with
    | zero => simp at ha hb; rw [← ha, ← hb]; exact h
    | succ i => exact ih (by simpa using ha) (by simpa using hb)
theorem paired_len {α β : Type} {p : α → β → Prop} {as : List α} {bs : List β} (h : Paired p as bs) : as.length = bs.length := by
  induction h with
  | nil => rfl
  | cons _ _ ih => simp [ih]
theorem paired_getD {α β : Type} {p : α → β → Prop} {as : List α} {bs : List β} (h : Paired p as bs) {i : Nat} {a0 : α} {b0 : β} (hi : i < as.length) : p (as.getD i a0) (bs.getD i b0) := by
  have hb : i < bs.length := paired_len h ▸ hi
  refine paired_at h (i := i) ?_ ?_
  · rw [List.getD_eq_getElem?_getD, List.getElem?_eq_getElem hi]; rfl
  · rw [List.getD_eq_getElem?_getD, List.getElem?_eq_getElem hb]; rfl
theorem steady_rng {lo : Int} {n : Nat} : Steady (Itr lo n) n (fun i => .int (lo + i)) (fun _ => True) := ⟨fun _ _ _ h => h, fun _ _ => Nat.le_refl _, fun _ _ _ _ _ _ y => y⟩
abbrev natV : Nat → V := fun n => .int (n : Int)
theorem tC_i {v : V} {σ : L2.St} {H : Hp} {Q : VK} (h : Q v H) : tC v σ H Q := h
theorem rd_same {H H' : Hp} (s : Same H H') {D : Addr} : ∀ u, Rd H D u → Rd H' D u := fun u r => r.elim (fun e => .inl (s _ _ e)) fun ⟨o, e⟩ => .inr ⟨o, s _ _ e⟩
theorem getD_mem {l : List Kd} {n : Nat} {k : Kd} (h : n < l.length) : l.getD n k ∈ l := by
  rw [List.getD_eq_getElem?_getD, List.getElem?_eq_getElem h]
  exact List.getElem_mem h
theorem paired_snoc {α β : Type} {p : α → β → Prop} {l : List α} {ys : List β} {a : α} {b : β} (h : Paired p l ys) (hab : p a b) : Paired p (l ++ [a]) (ys ++ [b]) := by
  induction h with
  | nil => exact .cons hab .nil
  | cons h1 _ ih => exact .cons h1 ih
def Kept (K : PySem.W.Frag) (Rl : Hp → Nat → V → Prop) : Prop := ∀ H H' k y, Tups K H H' → Rl H k y → Rl H' k y
theorem lc_gen {K : PySem.W.Frag} {J : It} {n : Nat} {it : Nat → V} {G : Hp → Prop} {tt : TT} {te : TE} {i : Nat} {σ : L2.St} {H1 : Hp} {D : Addr} {Qd : Hp → Prop} (b : Nat → Bool) (Rl : Hp → Nat → V → Prop) (S : Steady J n it G) (hm : Kept K Rl) (hG : ∀ H, Same H1 H → G H) (hi : i < σ.length) (hl : n ≤ 5000) (hD : H1 D = none)
    (ht : ∀ k H Q, k < n → Same H1 H → Q (b k) H → tt ((wipe σ [i]).set i (some (it k))) H Q)
    (hv : ∀ k H Q, k < n → b k = true → Same H1 H → (∀ H' y, Same H H' → Rl H' k y → Q y H') → te ((wipe σ [i]).set i (some (it k))) H Q)
    (hd : ∀ H' ys, Same H1 H' → H' D = some (.lst ys) → Paired (Rl H') ((List.range n).filter b) ys → Qd H') :
    ∃ W : Nat → Nat → Hp → Prop, (∃ m, W 0 m (upd H1 D (.lst []))) ∧ ∀ i_1 m H, W i_1 m H → (J.stop i_1 H ∧ Qd H) ∨
      (J.go i_1 H ∧ ∃ Nx : Hp → Prop, (∀ H', Nx H' → ∃ m', m' < m ∧ W (i_1 + 1) m' H') ∧ ∀ x H', J.yld i_1 H x H' → gName i x (wipe σ [i]) H' fun σ2 H2 => wipe σ2 [i] = wipe σ [i] ∧ tt σ2 H2 fun b H3 =>
        if b = true then te σ2 H3 fun y H4 => ∃ acc, H4 D = some (.lst acc) ∧ acc.length < sizeLine ∧ Nx (upd H4 D (.lst (acc ++ [y]))) else Nx H3) := by
  refine lc_steady S (fun k H => Same H1 H ∧ ∃ ys, H D = some (.lst ys) ∧ Paired (Rl H) ((List.range k).filter b) ys) ⟨same_new hD, [], upd_same, .nil⟩ (fun _ _ _ h => hG _ h.1) (fun k H hk h => ?_) fun H h => ?_
  · obtain ⟨sm, ys, hy, pp⟩ := h
    have w1 : wipe ((wipe σ [i]).set i (some (it k))) [i] = wipe σ [i] := by
      show ((σ.set i none).set i (some _)).set i none = σ.set i none
      rw [List.set_set, List.set_set]
    refine ⟨w1, ht k H _ hk sm ?_⟩
    have er : List.range (k + 1) = List.range k ++ [k] := List.range_succ
    have ly : ys.length ≤ k := by
      rw [← paired_len pp]
      have := List.length_filter_le b (List.range k)
      rwa [List.length_range] at this
    cases e : b k with
    | false =>
      refine iteF ⟨sm, ys, hy, ?_⟩
      rw [er, List.filter_append]
      have : [k].filter b = [] := by rw [List.filter_cons, e]; rfl
      rw [this, List.append_nil]
      exact pp
    | true =>
      refine iteT (hv k H _ hk e sm fun H' y sm' rl => ⟨ys, sm' _ _ hy, by rw [sizeLine_eq]; omega, ?_⟩)
      have tp : Tups K H' (upd H' D (.lst (ys ++ [y]))) := Tups.upd fun u e => by rw [sm' _ _ hy] at e; cases e; exact True.intro
      refine ⟨fun a o ha => by rw [upd_ne (ne_of_none ha hD)]; exact sm' _ _ (sm a o ha), _, upd_same, ?_⟩
      rw [er, List.filter_append]
      have : [k].filter b = [k] := by rw [List.filter_cons, e]; rfl
      rw [this]
      have app : ∀ {l : List Nat} {ys : List V}, Paired (Rl (upd H' D (.lst (ys ++ [y])))) l ys → True := fun _ => trivial
      have snoc : ∀ {R : Nat → V → Prop} {l : List Nat} {zs : List V}, Paired R l zs → R k y → Paired R (l ++ [k]) (zs ++ [y]) := by
        intro R l zs p h
        induction p with
        | nil => exact .cons h .nil
        | cons h1 _ ih => exact .cons h1 ih
      exact snoc (Paired.mapP pp fun a v h => hm _ _ _ _ ((Tups.same sm').trans tp) h) (hm _ _ _ _ tp rl)
  · exact hd H h.2.choose h.1 h.2.choose_spec.1 h.2.choose_spec.2
theorem lc_gen2 {K : PySem.W.Frag} {J : It} {n : Nat} {it : Nat → V} {G : Hp → Prop} {tt : TT} {te : TE} {i : Nat} {σ : L2.St} {H1 : Hp} {D : Addr} {Qd : Hp → Prop} (b : Nat → Bool) (Rl : Hp → Nat → V → Prop) (S : Steady J n it G) (hm : Kept K Rl) (hG : ∀ H, Same H1 H → G H) (hi : i < σ.length) (hl : n ≤ 5000) (hD : H1 D = none)
    (ht : ∀ k H Q, k < n → Same H1 H → (∀ H', Same H H' → Q (b k) H') → tt ((wipe σ [i]).set i (some (it k))) H Q)
    (hv : ∀ k H Q, k < n → b k = true → Same H1 H → (∀ H' y, Same H H' → Rl H' k y → Q y H') → te ((wipe σ [i]).set i (some (it k))) H Q)
    (hd : ∀ H' ys, Same H1 H' → H' D = some (.lst ys) → Paired (Rl H') ((List.range n).filter b) ys → Qd H') :
    ∃ W : Nat → Nat → Hp → Prop, (∃ m, W 0 m (upd H1 D (.lst []))) ∧ ∀ i_1 m H, W i_1 m H → (J.stop i_1 H ∧ Qd H) ∨
      (J.go i_1 H ∧ ∃ Nx : Hp → Prop, (∀ H', Nx H' → ∃ m', m' < m ∧ W (i_1 + 1) m' H') ∧ ∀ x H', J.yld i_1 H x H' → gName i x (wipe σ [i]) H' fun σ2 H2 => wipe σ2 [i] = wipe σ [i] ∧ tt σ2 H2 fun b H3 =>
        if b = true then te σ2 H3 fun y H4 => ∃ acc, H4 D = some (.lst acc) ∧ acc.length < sizeLine ∧ Nx (upd H4 D (.lst (acc ++ [y]))) else Nx H3) := by
  refine lc_steady S (fun k H => Same H1 H ∧ ∃ ys, H D = some (.lst ys) ∧ Paired (Rl H) ((List.range k).filter b) ys) ⟨same_new hD, [], upd_same, .nil⟩ (fun _ _ _ h => hG _ h.1) (fun k H hk h => ?_) fun H h => ?_
  · obtain ⟨sm0, ys, hy0, pp0⟩ := h
    have w1 : wipe ((wipe σ [i]).set i (some (it k))) [i] = wipe σ [i] := by
      show ((σ.set i none).set i (some _)).set i none = σ.set i none
      rw [List.set_set, List.set_set]
    refine ⟨w1, ht k H _ hk sm0 fun H3 s3 => ?_⟩
    have sm := sm0.trans s3
    have hy := s3 _ _ hy0
    have pp : Paired (Rl H3) ((List.range k).filter b) ys := Paired.mapP pp0 fun a v h => hm _ _ _ _ (Tups.same s3) h
    have er : List.range (k + 1) = List.range k ++ [k] := List.range_succ
    have ly : ys.length ≤ k := by
      rw [← paired_len pp]
      have := List.length_filter_le b (List.range k)
      rwa [List.length_range] at this
    cases e : b k with
    | false =>
      refine iteF ⟨sm, ys, hy, ?_⟩
      rw [er, List.filter_append]
      have : [k].filter b = [] := by rw [List.filter_cons, e]; rfl
      rw [this, List.append_nil]
      exact pp
    | true =>
      refine iteT (hv k H3 _ hk e sm fun H' y sm' rl => ⟨ys, sm' _ _ hy, by rw [sizeLine_eq]; omega, ?_⟩)
      have tp : Tups K H' (upd H' D (.lst (ys ++ [y]))) := Tups.upd fun u e => by rw [sm' _ _ hy] at e; cases e; exact True.intro
      refine ⟨fun a o ha => by rw [upd_ne (ne_of_none ha hD)]; exact sm' _ _ (sm a o ha), _, upd_same, ?_⟩
      rw [er, List.filter_append]
      have : [k].filter b = [k] := by rw [List.filter_cons, e]; rfl
      rw [this]
      exact paired_snoc (Paired.mapP pp fun a v h => hm _ _ _ _ ((Tups.same sm').trans tp) h) (hm _ _ _ _ tp rl)
  · exact hd H h.2.choose h.1 h.2.choose_spec.1 h.2.choose_spec.2
theorem dp_len {K : PySem.W.Frag} {H : Hp} {xs : List V} {ds : List PyData} (h : DpAll K H xs ds) : xs.length = ds.length := by
  induction ds generalizing xs with
  | nil => cases h; rfl
  | cons d ds ih => cases h with | cons h1 h2 => simp [ih h2]
theorem dp_at {K : PySem.W.Frag} {H : Hp} {xs : List V} {ds : List PyData} (h : DpAll K H xs ds) {k : Nat} (hk : k < ds.length) : Dp K H (xs.getD k .non) (ds.getD k .none) := by
  induction ds generalizing xs k with
  | nil => simp at hk
  | cons d ds ih =>
    cases h with
    | cons h1 h2 =>
      cases k with
      | zero => exact h1
      | succ k => exact ih h2 (by simpa using hk)
theorem isTy_tupF (d : PyData) : isTy d "tuple" = match d with | .tuple _ => true | _ => false := by cases d <;> rfl
mutual
theorem dp_mono {K : PySem.W.Frag} {H H' : Hp} (s : Same H H') : ∀ (d : PyData) (v : V), Dp K H v d → Dp K H' v d
  | .none, _, h => by cases h; exact .non
  | .bool _, _, h => by cases h; exact .bl _
  | .int _, _, h => by cases h; exact .int _
  | .str _, _, h => by cases h; exact .str _
  | .list ds, _, h => by cases h with | lst a b => exact .lst (s.seq a) (dps_mono s ds _ b)
  | .tuple ds, _, h => by cases h with | tup a b => exact .tup (Tups.same s _ _ a) (dps_mono s ds _ b)
  | .dict _, _, h => by cases h
theorem dps_mono {K : PySem.W.Frag} {H H' : Hp} (s : Same H H') : ∀ (ds : List PyData) (vs : List V), DpAll K H vs ds → DpAll K H' vs ds
  | [], _, h => by cases h; exact .nil
  | d :: ds, _, h => by cases h with | cons h1 h2 => exact .cons (dp_mono s d _ h1) (dps_mono s ds _ h2)
end
mutual
theorem dp_tups {K : PySem.W.Frag} {H H' : Hp} (s : Tups K H H') : ∀ (d : PyData) (v : V), tupD d = true → Dp K H v d → Dp K H' v d
  | .none, _, _, h => by cases h; exact .non
  | .bool _, _, _, h => by cases h; exact .bl _
  | .int _, _, _, h => by cases h; exact .int _
  | .str _, _, _, h => by cases h; exact .str _
  | .list ds, _, e, _ => by cases e
  | .tuple ds, _, e, h => by cases h with | tup a b => exact .tup (s _ _ a) (dps_tups s ds _ e b)
  | .dict _, _, _, h => by cases h
theorem dps_tups {K : PySem.W.Frag} {H H' : Hp} (s : Tups K H H') : ∀ (ds : List PyData) (vs : List V), tupDs ds = true → DpAll K H vs ds → DpAll K H' vs ds
  | [], _, _, h => by cases h; exact .nil
  | d :: ds, _, e, h => by
    obtain ⟨e1, e2⟩ := (Bool.and_eq_true _ _).mp e
    cases h with | cons h1 h2 => exact .cons (dp_tups s d _ e1 h1) (dps_tups s ds _ e2 h2)
end
theorem DV.same {K : PySem.W.Frag} {w : World} {H H' : Hp} {v : V} {d : PyData} (s : Same H H') (h : DV K w H v d) : DV K w H' v d := by
  rcases h with h | ⟨a, xs, kvs, e, t, ed, p⟩
  · exact .inl (dp_mono s _ _ h)
  · exact .inr ⟨a, xs, kvs, e, t.mono (.same s) (rd_same s _ t.md), ed, Paired.mapP p fun x kv h => ⟨dp_mono s _ _ h.1, dp_mono s _ _ h.2.1, h.2.2⟩⟩
theorem hu64 {n : Nat} (h : n + 70 < cLine) : n + 64 < cLine := by omega
theorem hu65 {n : Nat} (h : n + 70 < cLine) : n + 65 < cLine := by omega
theorem nx_i {D : Ends} {σ : L2.St} {H : Hp} (h : D.nx σ H) : tNext D σ H := h
theorem seq_i {te : TE} {g : TG} {u : TS} {D : Ends} {σ : L2.St} {H : Hp} (h : te σ H fun x H1 => g x σ H1 fun σ' H' => u D σ' H') : tSeq (tAsg te g) u D σ H := h
theorem range_getD {α : Type} (l : List α) (a0 : α) : (List.range l.length).map (fun k => l.getD k a0) = l := by
  refine List.ext_getElem (by simp) fun k h1 h2 => ?_
  rw [List.getElem_map, List.getElem_range, List.getD_eq_getElem?_getD, List.getElem?_eq_getElem h2]
  rfl
theorem pair_zip {α β : Type} {p : α → β → Prop} {l : List α} {ys : List β} (h : Paired p l ys) : ∃ bs : List (α × β), bs.map (·.1) = l ∧ bs.map (·.2) = ys ∧ ∀ b ∈ bs, p b.1 b.2 := by
  induction h with
  | nil => exact ⟨[], rfl, rfl, fun _ h => nomatch h⟩
  | @cons a b l ys h _ ih =>
    obtain ⟨bs, e1, e2, e3⟩ := ih
    refine ⟨(a, b) :: bs, by rw [List.map_cons, e1], by rw [List.map_cons, e2], fun x hx => ?_⟩
    rcases List.mem_cons.mp hx with z | z
    · rw [z]; exact h
    · exact e3 x z
theorem zip_pair {α β : Type} {p : α → β → Prop} {bs : List (α × β)} (h : ∀ b ∈ bs, p b.1 b.2) : Paired p (bs.map (·.1)) (bs.map (·.2)) := by
  induction bs with
  | nil => exact .nil
  | cons b bs ih => exact .cons (h b (by simp)) (ih fun x hx => h x (List.mem_cons_of_mem _ hx))
theorem filt_pairG {α β : Type} {l : List α} (a0 : α) {p : α → β → Prop} {c : α → Bool} {ys : List β} (h : Paired (fun k y => p (l.getD k a0) y) ((List.range l.length).filter fun k => c (l.getD k a0)) ys) : Paired p (l.filter c) ys := by
  have e : l.filter c = ((List.range l.length).filter fun k => c (l.getD k a0)).map fun k => l.getD k a0 := by
    have h1 := List.filter_map (f := fun k => l.getD k a0) (p := c) (l := List.range l.length)
    rw [range_getD] at h1
    exact h1
  rw [e]
  generalize (List.range l.length).filter _ = is at h
  induction h with
  | nil => exact .nil
  | cons h _ ih => exact .cons h ih
theorem pair_dp {K : PySem.W.Frag} {H : Hp} {ds : List PyData} {ys : List V} (h : Paired (fun d y => Dp K H y d) ds ys) : DpAll K H ys ds := by
  induction h with
  | nil => exact .nil
  | cons h _ ih => exact .cons h ih
theorem canAll_iff : ∀ ds : List PyData, PyData.canLayAll0 ds = true ↔ ∀ d ∈ ds, PyData.canLay0 d = true
  | [] => by simp [PyData.canLayAll0]
  | d :: ds => by rw [PyData.canLayAll0, Bool.and_eq_true, canAll_iff ds]; simp
theorem depAll_iff (n : Nat) : ∀ ds : List PyData, PyData.depthAll ds ≤ n ↔ ∀ d ∈ ds, PyData.depth d ≤ n
  | [] => by simp [PyData.depthAll]
  | d :: ds => by
    rw [PyData.depthAll]
    have := depAll_iff n ds
    simp only [List.mem_cons, forall_eq_or_imp, ← this]
    omega
theorem shaped_nil : SeqAt.shaped (.list []) = true := by decide +kernel
theorem shaped_tnil : SeqAt.shaped (.tuple []) = true := by decide +kernel
theorem pair_map {α β : Type} {f : α → β} {l : List α} {ys : List β} (h : Paired (fun k y => y = f k) l ys) : ys = l.map f := by
  induction h with
  | nil => rfl
  | cons h _ ih => rw [h, ih]; rfl
theorem pair_via {α β γ : Type} {f : α → γ} {p : γ → β → Prop} {l : List α} {ys : List β} (h : Paired (fun k y => p (f k) y) l ys) : Paired p (l.map f) ys := by
  induction h with
  | nil => exact .nil
  | cons h _ ih => exact .cons h ih
theorem filter_yes {α : Type} (l : List α) : l.filter (fun _ => true) = l := List.filter_eq_self.mpr fun _ _ => rfl
theorem filter_empty {α : Type} (l : List α) (c : α → Bool) : (l.filter c).isEmpty = l.all fun x => !c x := by
  induction l with
  | nil => rfl
  | cons a l ih =>
    rw [List.filter_cons, List.all_cons]
    cases c a with
    | true => simp
    | false => simpa using ih
theorem cal_i {sp : Sp} {t : TA} {σ : L2.St} {H : Hp} {Q : VK} (h : t σ H fun vs H1 => sp vs H1 Q E0) : tCal sp t σ H Q := h
theorem var_i {i : Nat} {v : V} {σ : L2.St} {H : Hp} {Q : VK} (e : σ[i]? = some (some v)) (h : Q v H) : tVar i σ H Q := ⟨v, e, h⟩
theorem seqp_i {i j : Nat} {ta : TA} {u : TS} {D : Ends} {σ : L2.St} {H : Hp} (h : ta σ H fun vs H1 => ∃ v w, vs = [v, w] ∧ u D ((σ.set i (some v)).set j (some w)) H1) : tSeq (tPar i j ta) u D σ H := h
theorem cons_i {ta : TE} {tr : TA} {σ : L2.St} {H : Hp} {Q : List V → Hp → Prop} (h : ta σ H fun x H1 => tr σ H1 fun xs H2 => Q (x :: xs) H2) : tCons ta tr σ H Q := h
theorem op_i {r : R2} {ta tb : TE} {σ : L2.St} {H : Hp} {Q : VK} (h : ta σ H fun x H1 => tb σ H1 fun y H2 => r x y H2 Q) : tOp r ta tb σ H Q := h
theorem nil_i {σ : L2.St} {H : Hp} {Q : List V → Hp → Prop} (h : Q [] H) : tNil σ H Q := h
theorem gn_i {i : Nat} {v : V} {σ : L2.St} {H : Hp} {Q : L2.St → Hp → Prop} (h : Q (σ.set i (some v)) H) : gName i v σ H Q := h
theorem hu1 {n : Nat} (h : n + 70 < cLine) : n + 1 < cLine := by omega
structure CalG (P : Program) (w : World) (K : PySem.W.Frag) (mg : Str → Option Value) (base : Heap) (k : Nat) (x : Str) (sp : Sp) : Prop where
  at_ : ∃ (f : Addr) (fd : FuncData) (ps : List Str), FnG P w K mg base k f fd ps sp ∧ mg x = some (.ref f) ∧ PySem.W.keepIn K (.ref f) = true ∧ Binds K fd ps []
theorem pe_cg {X : Cx} {k j : Nat} {x : Str} {sp : Sp} {p pos : Pos} {e : Expr} {es : List Expr} {t : TA} (c : CalG X.prog X.w X.K X.mg X.base k x sp) (hgd : X.A.guards = some []) (hr : Room j X.A) (hk : k ≤ j) (hg : Gl X x) (ha : PA X (e :: es) t) (hdb : (x == ("__debug__" : Str)) = false := by decide)
    (he : starEach (e :: es) X.env = (false, eval e X.env) :: starEach es X.env := by rfl) (hpl : (backTo pos (starEach es X.env)).any (·.1) = false := by rfl) : PE X (.Call (.Name x p) (e :: es) [] pos) (tCal sp t) := by
  obtain ⟨f, fd, ps, F, hm, kp, b⟩ := c.at_
  have q := pe_callG (p := p) (pos := pos) F hgd (hr.mono hk) hg hm kp b ha hdb he hpl
  refine ⟨fun pins s σ H Q I h => q.run pins s σ H Q I ?_⟩
  have e : tCall sp [] E0 t = tCal sp t := by funext σ H Q; unfold tCall tCal; simp only [List.append_nil]
  rw [e]
  exact h
structure CalX (P : Program) (w : World) (K : PySem.W.Frag) (mg : Str → Option Value) (base : Heap) (k : Nat) (x : Str) (sp : Sp) : Prop where
  at_ : ∃ (f : Addr) (fd : FuncData) (ps : List Str), FnOk P w K mg base (L2.CX P w) k f fd ps sp ∧ mg x = some (.ref f) ∧ PySem.W.keepIn K (.ref f) = true ∧ Binds K fd ps []
theorem pe_cx {X : Cx} {k j : Nat} {x : Str} {sp : Sp} {p pos : Pos} {e : Expr} {es : List Expr} {t : TA} (c : CalX X.prog X.w X.K X.mg X.base k x sp) (hr : Room j X.A) (hk : k ≤ j) (hg : Gl X x) (ha : PA X (e :: es) t) (hdb : (x == ("__debug__" : Str)) = false := by decide)
    (he : starEach (e :: es) X.env = (false, eval e X.env) :: starEach es X.env := by rfl) (hpl : (backTo pos (starEach es X.env)).any (·.1) = false := by rfl) : PE X (.Call (.Name x p) (e :: es) [] pos) (tCal sp t) := by
  obtain ⟨f, fd, ps, F, hm, kp, b⟩ := c.at_
  have q := pe_callS (p := p) (pos := pos) (E := fun _ => E0) F (hr.mono hk) hg hm kp b (fun σ pins H s e s' I c => passL pins σ H s e s' I c) ha hdb he hpl
  exact q
structure OwnX (K : PySem.W.Frag) (mg : Str → Option Value) (x : Str) (C : Addr) : Prop where
  g : mg x = some (.ref C)
  x : PySem.W.excIn K C [.type "ValueError", .type "Exception", .type "BaseException", .type "object"] "ValueError.__new__" = true
  k : PySem.W.keepIn K (.ref C) = true
  b : PySem.W.subIn K (.ref C) (.type "BaseException") = some true
  t : PySem.W.typeIn K (.ref C) = some (.type "type")
  e : PySem.W.exmOne K (.ref C) (.ref C) = some true
end Fc
namespace Fc
open PySem L2 PyProof.Rows
theorem dv_tup {K : PySem.W.Frag} {w : World} {H : Hp} {v : V} {d : PyData} (h : DV K w H v d) (t : isTy d "tuple" = true) : ∃ a xs ds, v = .ref a ∧ d = .tuple ds ∧ SqT K H a xs ∧ DpAll K H xs ds := by
  obtain ⟨ds, rfl⟩ : ∃ ds, d = .tuple ds := by cases d <;> first | exact ⟨_, rfl⟩ | (simp [isTy, tyName] at t)
  rcases h with h | ⟨_, _, _, _, _, e, _⟩
  · cases h with
    | @tup a xs _ sa da => exact ⟨a, xs, ds, rfl, rfl, sa, da⟩
  · cases e
def oS : Option Str → V
  | none => .non
  | some x => .str x
theorem dp_some {K : PySem.W.Frag} {H : Hp} {xs : List V} {ds : List PyData} (h : DpAll K H xs ds) {k : Nat} (hk : k < ds.length) : xs[k]? = some (xs.getD k .non) := by
  rw [List.getD_eq_getElem?_getD, List.getElem?_eq_getElem (by rw [dp_len h]; exact hk)]; rfl
theorem dec_len {n : Nat} (m : Nat) : decide (V.int (n : Int) = V.int (m : Int)) = decide (n = m) := by
  by_cases c : n = m
  · subst c; simp
  · rw [decide_eq_false c, decide_eq_false (fun e => c (by have := V.int.inj e; omega))]
theorem dec_len2 {n : Nat} : decide (V.int (n : Int) = V.int 2) = decide (n = 2) := dec_len 2
theorem dec_len4 {n : Nat} : decide (V.int (n : Int) = V.int 4) = decide (n = 4) := dec_len 4
/-- a table of kinds -/
def kvK (ks : List (Str × Str)) : List (Key × V) := ks.map fun e => (.inr e.1, .str e.2)
def kindOf (ks : List (Str × Str)) (x : Str) : Option Str := (ks.find? fun e => decide (e.1 = x)).map (·.2)
theorem kvK_val (ks : List (Str × Str)) (x : Str) : (valV (kvK ks) (.inr x)).getD .non = oS (kindOf ks x) := by
  unfold valV kvK kindOf
  induction ks with
  | nil => rfl
  | cons e ks ih =>
    rw [List.map_cons, List.find?_cons, List.find?_cons]
    by_cases c : e.1 = x
    · rw [decide_eq_true (by rw [c]), decide_eq_true c]; rfl
    · rw [decide_eq_false (fun q => c (Sum.inr.inj q)), decide_eq_false c]
      exact ih
def kindD (ks : List (Str × Str)) (d : PyData) : Option Str := match d with | .str x => kindOf ks x | _ => none
abbrev KdsAt (H : Hp) (a : Addr) (ks : List (Str × Str)) : Prop := Rd H a (.dK (kvK ks))
def spKind (K : PySem.W.Frag) (w : World) : Sp := fun vs H Q _ => ∃ a ks v d, vs = [.ref a, v] ∧ KdsAt H a ks ∧ Dp K H v d ∧ Q (oS (kindD ks d)) H
def isPlaceKind : Option Str → Bool
  | some x => decide (x = "position") || decide (x = "length")
  | none => false
def placeW (ks : List (Str × Str)) (own : List Str) (d : PyData) : Bool := match d with
  | .str x => decide (x = "") || (isPlaceKind (kindOf ks x) || decide (x ∈ own))
  | _ => false
def spPlaceW (K : PySem.W.Frag) (w : World) : Sp := fun vs H Q _ => ∃ a ks v d o own, vs = [.ref a, v, .ref o] ∧ KdsAt H a ks ∧ Dp K H v d ∧ SqT K H o (List.map V.str own) ∧ ∀ H', Same H H' → Q (.bl (placeW ks own d)) H'
def placeD (ks : List (Str × Str)) (own : List Str) (d : PyData) : Bool := match d with
  | .tuple [a, b] => placeW ks own a && isNum b
  | _ => false
def spPlaceD (K : PySem.W.Frag) (w : World) : Sp := fun vs H Q _ => ∃ a ks v d o own, vs = [.ref a, v, .ref o] ∧ KdsAt H a ks ∧ DV K w H v d ∧ SqT K H o (List.map V.str own) ∧ ∀ H', Same H H' → Q (.bl (placeD ks own d)) H'
def cellD (ks : List (Str × Str)) (own : List Str) (d : PyData) : Bool := match d with
  | .tuple [a, b, c, e] => decide (kindD ks a = some ("array" : Str)) && (isNum e && (placeW ks own b && isNum c))
  | _ => false
def spCellD (K : PySem.W.Frag) (w : World) : Sp := fun vs H Q _ => ∃ a ks v d o own, vs = [.ref a, v, .ref o] ∧ KdsAt H a ks ∧ DV K w H v d ∧ SqT K H o (List.map V.str own) ∧ ∀ H', Same H H' → Q (.bl (cellD ks own d)) H'
def amountD (ks : List (Str × Str)) (d : PyData) : Bool := match d with
  | .tuple [a, b] => (PyData.eqv a (.str "") || decide (kindD ks a = some ("value" : Str))) && isNum b
  | _ => false
/-- a tuple is shaped -/
def shT (d : PyData) : Prop := isTy d "tuple" = true → SeqAt.shaped d = true
def spAmountD (K : PySem.W.Frag) (w : World) : Sp := fun vs H Q _ => ∃ a ks v d, vs = [.ref a, v] ∧ KdsAt H a ks ∧ DV K w H v d ∧ shT d ∧ ∀ H', Same H H' → Q (.bl (amountD ks d)) H'
theorem inV_str (x : Str) (own : List Str) : inV (.str x) (own.map V.str) = decide (x ∈ own) := by
  unfold inV
  induction own with
  | nil => simp
  | cons y ys ih =>
    rw [List.map_cons, List.any_cons, ih]
    show ((y == x) || _) = _
    by_cases c : x = y
    · subst c; simp
    · have : (y == x) = false := by simp; exact fun q => c q.symm
      rw [this]
      simp [c]
theorem flat_strs (own : List Str) : (own.map V.str).all flatV = true := by
  rw [List.all_map]
  exact List.all_eq_true.mpr fun _ _ => rfl
section
variable {K : PySem.W.Frag} {mg : Str → Option Value} {base : Heap} {P : Program} {w : World}
theorem sc11 : FnScope ["kinds", "word"] ["kinds", "word"] (defScope (topS 11)) := ⟨rfl, rfl, rfl, by decide +kernel, rfl, by decide +kernel, by decide +kernel⟩
theorem ok11 {f : Addr} {fd : FuncData} (F : Fun K "kind_among" "kind_among" (topS 11) f fd) (B : Blt mg) : FnOk P w K mg base CX0 1 f fd ["kinds", "word"] (spKind K w) := by
  refine F.ok sc11 (fun vs H Q E h => ?_) (fun cdv A outer s H vs Q E hr h => ?_)
  · obtain ⟨a, ks, v, d, rfl, _⟩ := h
    rfl
  · have hu := hu70 hr
    refine ⟨_, pss_cons (ps_if (pt_not (pt_val (pe_callB call_isiD (by rfl) B.isinstance boot_isinstance (pa_cons (pv 1) (pa_cons (pe_bltn (v := .ty "str") (by rfl) B.str boot_str rfl) pa_nil))))) (pss_one (ps_ret pe_non)) pss_nil)
      (pss_one (ps_ret (pe_dget1 (hu1 hu) (pv 0) (pv 1) ⟨rfl, rfl, rfl, rfl⟩))), ?_⟩
    obtain ⟨a, ks, v, d, rfl, hk, hd, q⟩ := h
    refine ⟨_, rfl, v, d, _, rfl, .inl hd, .inr (.inr (.inl rfl)), _, rfl, ?_⟩
    cases hd with
    | str x =>
      refine iteF ⟨_, rfl, a, rfl, .inl ⟨_, hk⟩, _, rfl, _, .inl ⟨_, .inr x, hk, rfl, rfl⟩, ?_⟩
      rw [kvK_val]
      exact q
    | non => exact iteT q
    | bl b => exact iteT q
    | int i => exact iteT q
    | lst _ _ => exact iteT q
    | tup _ _ => exact iteT q
theorem placeD_no (ks : List (Str × Str)) (own : List Str) (ds : List PyData) (h : ds.length ≠ 2) : placeD ks own (.tuple ds) = false := by
  match ds with
  | [] => rfl
  | [_] => rfl
  | [_, _] => exact absurd rfl h
  | _ :: _ :: _ :: _ => rfl
theorem nt_place (ks : List (Str × Str)) (own : List Str) (d : PyData) (h : isTy d "tuple" = false) : placeD ks own d = false := by cases d <;> first | rfl | (rw [isTy_tupF] at h; cases h)
theorem cellD_no (ks : List (Str × Str)) (own : List Str) (ds : List PyData) (h : ds.length ≠ 4) : cellD ks own (.tuple ds) = false := by
  match ds with
  | [] => rfl
  | [_] => rfl
  | [_, _] => rfl
  | [_, _, _] => rfl
  | [_, _, _, _] => exact absurd rfl h
  | _ :: _ :: _ :: _ :: _ :: _ => rfl
theorem nt_cell (ks : List (Str × Str)) (own : List Str) (d : PyData) (h : isTy d "tuple" = false) : cellD ks own d = false := by cases d <;> first | rfl | (rw [isTy_tupF] at h; cases h)
theorem amountD_no (ks : List (Str × Str)) (ds : List PyData) (h : ds.length ≠ 2) : amountD ks (.tuple ds) = false := by
  match ds with
  | [] => rfl
  | [_] => rfl
  | [_, _] => exact absurd rfl h
  | _ :: _ :: _ :: _ => rfl
theorem nt_amount (ks : List (Str × Str)) (d : PyData) (h : isTy d "tuple" = false) : amountD ks d = false := by cases d <;> first | rfl | (rw [isTy_tupF] at h; cases h)
theorem oS_eq (o : Option Str) (y : Str) : decide (oS o = V.str y) = decide (o = some y) := by
  cases o with
  | none => rfl
  | some x =>
    by_cases c : x = y
    · subst c
      rw [decide_eq_true rfl]
      exact decide_eq_true rfl
    · rw [decide_eq_false (fun e : some x = some y => c (Option.some.inj e))]
      exact decide_eq_false fun e : V.str x = V.str y => c (V.str.inj e)
theorem shaped_mem {ds : List PyData} (h : SeqAt.shaped (.tuple ds) = true) {d : PyData} (hd : d ∈ ds) : SeqAt.shaped d = true := by
  have h1 := SeqAt.canLay_of_shaped h
  have h2 := SeqAt.depth_of_shaped h
  have c : d.canLay0 = true := (canAll_iff ds).mp h1 d hd
  have e : d.depth ≤ 64 := by
    have q := (depAll_iff 63 ds).mp (by
      have : PyData.depthAll ds + 1 ≤ 64 := h2
      omega) d hd
    omega
  show (d.canLay0 && decide (d.depth ≤ 64)) = true
  rw [c, decide_eq_true e]
  rfl
theorem oS_scal (o : Option Str) (y : Str) : scal (oS o) (.str y) = true := by cases o <;> rfl
theorem cut13 (xs : List V) (x0 x1 x2 x3 : V) (h : xs = [x0, x1, x2, x3]) : cutV xs (some 1) (some 3) = [x1, x2] := by subst h; rfl
end
end Fc
namespace Fc
open PySem L2 PyProof.Rows
theorem atI_last {α : Type} (ys : List α) (y : α) : atI (ys ++ [y]) (-1) = some y := by
  unfold atI ixN
  rw [if_neg (by decide : ¬ (0 : Int) ≤ -1)]
  have l : (ys ++ [y]).length = ys.length + 1 := by simp
  rw [l]
  rw [if_pos (by omega)]
  have e : ((-1 : Int) + ((ys.length + 1 : Nat) : Int)).toNat = ys.length := by omega
  show (ys ++ [y])[((-1 : Int) + ((ys.length + 1 : Nat) : Int)).toNat]? = some y
  rw [e]
  simp
theorem cut_last (ys : List V) (y : V) : cutV (ys ++ [y]) none (some (-1)) = ys := by
  unfold cutV
  have l : (ys ++ [y]).length = ys.length + 1 := by simp
  have e0 : HT.sIx (ys ++ [y]).length 0 none = 0 := rfl
  have e1 : HT.sIx (ys ++ [y]).length (ys ++ [y]).length (some (-1)) = ys.length := by
    show (if (-1 : Int) < 0 then ((-1 : Int) + ((ys ++ [y]).length : Int)).toNat else min (-1 : Int).toNat (ys ++ [y]).length) = ys.length
    rw [if_pos (by decide), l]
    omega
  rw [e0, e1]
  simp
theorem dps_app {K : PySem.W.Frag} {H : Hp} {xs ys : List V} {ds es : List PyData} (h : DpAll K H xs ds) (g : DpAll K H ys es) : DpAll K H (xs ++ ys) (ds ++ es) := by
  induction ds generalizing xs with
  | nil => cases h; exact g
  | cons d ds ih => cases h with | cons a b => exact .cons a (ih b)
theorem dps_split {K : PySem.W.Frag} {H : Hp} {d : PyData} : ∀ {ds : List PyData} {xs : List V}, DpAll K H xs (ds ++ [d]) → ∃ ys y, xs = ys ++ [y] ∧ DpAll K H ys ds ∧ Dp K H y d
  | [], xs, h => by
    cases h with
    | cons a b => cases b; exact ⟨[], _, rfl, .nil, a⟩
  | e :: ds, xs, h => by
    cases h with
    | cons a b =>
      obtain ⟨ys, y, e1, e2, e3⟩ := dps_split (ds := ds) b
      exact ⟨_ :: ys, y, by rw [e1]; rfl, .cons a e2, e3⟩
/-- a term with so much more -/
def spMore (K : PySem.W.Frag) (w : World) : Sp := fun vs H Q _ => ∃ a ds i s, vs = [.ref a, .int s] ∧ Dp K H (.ref a) (.tuple (ds ++ [.int i])) ∧ ds.length ≤ 100 ∧ ∀ H' p, Same H H' → Dp K H' (.ref p) (.tuple (ds ++ [.int (i + s)])) → Q (.ref p) H'
section
variable {K : PySem.W.Frag} {mg : Str → Option Value} {base : Heap} {P : Program} {w : World}
end
end Fc
namespace Fc
open PySem L2 PyProof.Rows
/-! o.m(e, .., k = v, ..) -/
def tMethN (C : Addr) (m : Str) (n j : Nat) (sp : Sp) (gV : List V → List V → List V) (E : XK) (ta : TE) (t tk : TA) : TE := fun σ H Q => ta σ H fun x H1 => ∃ a dx fs, x = .ref a ∧ H1 a = some (.ins C dx fs) ∧ fs.lookup m = none ∧
  t σ H1 fun vs H2 => tk σ H2 fun zs H3 => vs.length = n ∧ zs.length = j ∧ sp (gV (x :: vs) zs) H3 Q E
section
variable {X : Cx} {CX : CXT} {k n : Nat} {f C : Addr} {fd : FuncData} {ps ks : List Str} {sp : Sp} {E : XK} {m : Str} {pos apos : Pos} {o e : Expr} {es : List Expr} {kws : List Keyword} {ta : TE} {t tk : TA} {g : List Value → List Value → List Value} {gV : List V → List V → List V}
theorem pe_methN {pl : Sem Bool} (he : PE X o ta) (c : Cls X.K C) (hm : Meth X.K C m f) (F : FnOk X.prog X.w X.K X.mg X.base CX k f fd ps sp) (hr : Room k X.A) (hb : KBn X.K fd ps (n + 1) ks g gV) (hx : Passes CX X E) (ha : PA X (e :: es) t) (hkw : PK X kws tk)
    (hall : (backToKw pos (keywordEach kws X.env)).all (·.1.isSome) = true := by rfl) (hks : (backToKw pos (keywordEach kws X.env)).filterMap (·.1) = ks := by rfl)
    (hst : starEach (e :: es) X.env = (false, eval e X.env) :: starEach es X.env := by rfl) (hpl : ((backTo pos (starEach (e :: es) X.env)).any (·.1) || (backToKw pos (keywordEach kws X.env)).any (·.1.isNone)) = false := by rfl)
    (ht : eval (.Call (.Attribute o m apos) (e :: es) kws pos) X.env = (do
      let ov ← eval o X.env
      standAt apos.atName
      let (f, first) ← holding [ov] (getMethod ov m pl)
      callWith pos f first (backTo pos (starEach (e :: es) X.env)) (backToKw pos (keywordEach kws X.env))) := by rfl) :
    PE X (.Call (.Attribute o m apos) (e :: es) kws pos) (tMethN C m n ks.length sp gV E ta t tk) := by
  refine ⟨fun pins s σ H Q I h => ?_⟩
  refine PySem.W.methodCall_KW (pl := pl) (thn (he.run pins s σ H _ I h) fun u s1 ⟨x, H1, I1, rx, a, dx, fs, ex, ea, l, q⟩ => ?_) ht
  subst ex
  obtain rfl : u = Value.ref a := rx
  refine getmeth_ok I1 ea c hm l ?_
  refine PySem.W.callWith_KW (first := [.ref a]) (h₀ := X.base) I.ok.mod.kin hm.kp hall (thn (ha.run pos pins s1 σ H1 _ I1 q) fun us s2 ⟨vs, H2, I2, r, q2⟩ => ?_) hpl hst
  refine thn (hkw.run pos pins s2 σ H2 _ I2 q2) fun ws s3 ⟨zs, H3, I3, rz, l1, l2, q3⟩ => ⟨I3.kIn, ?_⟩
  rw [hks]
  exact run_fnN (us := .ref a :: us) (vs := .ref a :: vs) F hr hb hx I3 (.cons rfl r) rz (by rw [List.length_cons, l1]) l2 q3
theorem pe_methN0 {pl : Sem Bool} (he : PE X o ta) (c : Cls X.K C) (hm : Meth X.K C m f) (F : FnOk X.prog X.w X.K X.mg X.base CX k f fd ps sp) (hr : Room k X.A) (hb : KBn X.K fd ps 1 ks g gV) (hx : Passes CX X E) (hkw : PK X kws tk)
    (hall : (backToKw pos (keywordEach kws X.env)).all (·.1.isSome) = true := by rfl) (hks : (backToKw pos (keywordEach kws X.env)).filterMap (·.1) = ks := by rfl)
    (hpl : ((backTo pos (starEach [] X.env)).any (·.1) || (backToKw pos (keywordEach kws X.env)).any (·.1.isNone)) = false := by rfl)
    (ht : eval (.Call (.Attribute o m apos) [] kws pos) X.env = (do
      let ov ← eval o X.env
      standAt apos.atName
      let (f, first) ← holding [ov] (getMethod ov m pl)
      callWith pos f first (backTo pos (starEach [] X.env)) (backToKw pos (keywordEach kws X.env))) := by rfl) :
    PE X (.Call (.Attribute o m apos) [] kws pos) (tMethN C m 0 ks.length sp gV E ta tNil tk) := by
  refine ⟨fun pins s σ H Q I h => ?_⟩
  refine PySem.W.methodCall_KW (pl := pl) (thn (he.run pins s σ H _ I h) fun u s1 ⟨x, H1, I1, rx, a, dx, fs, ex, ea, l, q⟩ => ?_) ht
  subst ex
  obtain rfl : u = Value.ref a := rx
  refine getmeth_ok I1 ea c hm l ?_
  refine PySem.W.callWith_KW0 (first := [.ref a]) (h₀ := X.base) I.ok.mod.kin hm.kp hall ?_ hpl
  refine thn (hkw.run pos pins s1 σ H1 _ I1 q) fun ws s3 ⟨zs, H3, I3, rz, l1, l2, q3⟩ => ⟨I3.kIn, ?_⟩
  rw [hks]
  exact run_fnN (us := [.ref a]) (vs := [.ref a]) F hr hb hx I3 (.cons rfl .nil) rz rfl l2 q3
end
/-! ### a frame's parts -/
structure Pa where
  arrays : List (Str × Str)
  pos : List Str
  vals : List Str
  deriving DecidableEq
def addS (l : List Str) (x : Str) : List Str := if x ∈ l then l else l ++ [x]
/-- the different lengths, in order -/
def lensOf (as : List (Str × Str)) : List Str := as.foldl (fun l e => addS l e.2) []
def namesL (P : Pa) : List Str := P.arrays.map (·.1) ++ (lensOf P.arrays ++ (P.pos ++ P.vals))
def kindsL (P : Pa) : List (Str × Str) := P.arrays.map (fun e => (e.1, ("array" : Str))) ++ ((lensOf P.arrays).map (fun x => (x, ("length" : Str))) ++ (P.pos.map (fun x => (x, ("position" : Str))) ++ P.vals.map (fun x => (x, ("value" : Str)))))
/-- parts of which there is a frame -/
structure PaOk (P : Pa) : Prop where
  nd : (namesL P).Nodup
  na : P.arrays.length ≤ 12
  np : P.pos.length ≤ 8
  nv : P.vals.length ≤ 6
  nm : ∀ x ∈ namesL P, isNameS x = true
def dS (xs : List Str) : PyData := .tuple (xs.map .str)
def dA (as : List (Str × Str)) : PyData := .tuple (as.map fun e => .tuple [.str e.1, .str e.2])
theorem kind_find (ks : List (Str × Str)) (nd : (ks.map (·.1)).Nodup) (x y : Str) : kindOf ks x = some y ↔ (x, y) ∈ ks := by
  unfold kindOf
  induction ks with
  | nil => simp
  | cons e ks ih =>
    rw [List.map_cons, List.nodup_cons] at nd
    rw [List.find?_cons]
    by_cases c : e.1 = x
    · rw [decide_eq_true c]
      show some e.2 = some y ↔ _
      constructor
      · intro h
        have : e = (x, y) := by obtain ⟨e1, e2⟩ := e; cases c; cases h; rfl
        rw [this]; exact List.mem_cons_self
      · intro h
        rcases List.mem_cons.mp h with h | h
        · rw [← h]
        · exact absurd (List.mem_map.mpr ⟨_, h, rfl⟩) (by rw [← c]; exact nd.1)
    · rw [decide_eq_false c]
      refine (ih nd.2).trans ?_
      constructor
      · exact fun h => List.mem_cons_of_mem _ h
      · intro h
        rcases List.mem_cons.mp h with h | h
        · rw [← h] at c; exact absurd rfl c
        · exact h
theorem kinds_keys (P : Pa) : (kindsL P).map (·.1) = namesL P := by
  unfold kindsL namesL
  simp only [List.map_append, List.map_map]
  congr 1
  congr 1
  · exact List.map_id _
  · congr 1 <;> exact List.map_id _
theorem kind_iff {P : Pa} (ok : PaOk P) (x y : Str) : kindOf (kindsL P) x = some y ↔ (y = "array" ∧ x ∈ P.arrays.map (·.1)) ∨ (y = "length" ∧ x ∈ lensOf P.arrays) ∨ (y = "position" ∧ x ∈ P.pos) ∨ (y = "value" ∧ x ∈ P.vals) := by
  rw [kind_find _ (by rw [kinds_keys]; exact ok.nd)]
  unfold kindsL
  simp only [List.mem_append, List.mem_map, Prod.mk.injEq]
  constructor
  · rintro (⟨e, h, rfl, rfl⟩ | ⟨z, h, rfl, rfl⟩ | ⟨z, h, rfl, rfl⟩ | ⟨z, h, rfl, rfl⟩)
    · exact .inl ⟨rfl, e, h, rfl⟩
    · exact .inr (.inl ⟨rfl, h⟩)
    · exact .inr (.inr (.inl ⟨rfl, h⟩))
    · exact .inr (.inr (.inr ⟨rfl, h⟩))
  · rintro (⟨rfl, e, h, rfl⟩ | ⟨rfl, h⟩ | ⟨rfl, h⟩ | ⟨rfl, h⟩)
    · exact .inl ⟨e, h, rfl, rfl⟩
    · exact .inr (.inl ⟨_, h, rfl, rfl⟩)
    · exact .inr (.inr (.inl ⟨_, h, rfl, rfl⟩))
    · exact .inr (.inr (.inr ⟨_, h, rfl, rfl⟩))
/-! what the judges of the law say -/
def lawPlace (P : Pa) (own : List Str) (d : PyData) : Bool := match d with
  | .tuple [.str x, b] => isNum b && decide (x ∈ ("" : Str) :: (lensOf P.arrays ++ (P.pos ++ own)))
  | _ => false
def lawWorth (P : Pa) (own : List Str) (d : PyData) : Bool := match d with
  | .tuple [.str x, b] => decide (x ∈ ("" : Str) :: P.vals) && isNum b
  | .tuple [.str x, b, c, e] => decide (x ∈ P.arrays.map (·.1)) && (lawPlace P own (.tuple [b, c]) && isNum e)
  | _ => false
theorem placeW_law {P : Pa} (ok : PaOk P) (own : List Str) (x : Str) : placeW (kindsL P) own (.str x) = decide (x ∈ ("" : Str) :: (lensOf P.arrays ++ (P.pos ++ own))) := by
  have h1 := kind_iff ok x
  have e : isPlaceKind (kindOf (kindsL P) x) = (decide (x ∈ lensOf P.arrays) || decide (x ∈ P.pos)) := by
    rw [Bool.eq_iff_iff]
    rw [Bool.or_eq_true, decide_eq_true_iff, decide_eq_true_iff]
    constructor
    · intro h
      cases c : kindOf (kindsL P) x with
      | none => rw [c] at h; cases h
      | some y =>
        rw [c] at h
        have h2 : (decide (y = "position") || decide (y = "length")) = true := h
        rw [Bool.or_eq_true, decide_eq_true_iff, decide_eq_true_iff] at h2
        rcases (h1 y).mp c with ⟨rfl, _⟩ | ⟨rfl, g⟩ | ⟨rfl, g⟩ | ⟨rfl, _⟩
        · rcases h2 with h2 | h2 <;> exact absurd h2 (by decide +kernel)
        · exact .inl g
        · exact .inr g
        · rcases h2 with h2 | h2 <;> exact absurd h2 (by decide +kernel)
    · rintro (h | h)
      · rw [(h1 "length").mpr (.inr (.inl ⟨rfl, h⟩))]
        exact (by decide +kernel : (decide (("length" : Str) = "position") || decide (("length" : Str) = "length")) = true)
      · rw [(h1 "position").mpr (.inr (.inr (.inl ⟨rfl, h⟩)))]
        exact (by decide +kernel : (decide (("position" : Str) = "position") || decide (("position" : Str) = "length")) = true)
  show (decide (x = "") || (isPlaceKind (kindOf (kindsL P) x) || decide (x ∈ own))) = _
  rw [e]
  rw [Bool.eq_iff_iff]
  simp only [Bool.or_eq_true, decide_eq_true_iff, List.mem_cons, List.mem_append]
  constructor
  · rintro (h | (h | h) | h)
    · exact .inl h
    · exact .inr (.inl h)
    · exact .inr (.inr (.inl h))
    · exact .inr (.inr (.inr h))
  · rintro (h | h | h | h)
    · exact .inl h
    · exact .inr (.inl (.inl h))
    · exact .inr (.inl (.inr h))
    · exact .inr (.inr h)
theorem place_law {P : Pa} (ok : PaOk P) (own : List Str) (d : PyData) : placeD (kindsL P) own d = lawPlace P own d := by
  match d with
  | .tuple [.str x, b] =>
    show (placeW _ own (.str x) && isNum b) = (isNum b && _)
    rw [placeW_law ok, Bool.and_comm]
  | .tuple [.none, b] => rfl
  | .tuple [.bool _, b] => rfl
  | .tuple [.int _, b] => rfl
  | .tuple [.list _, b] => rfl
  | .tuple [.tuple _, b] => rfl
  | .tuple [.dict _, b] => rfl
  | .tuple [] => rfl
  | .tuple [a] => cases a <;> rfl
  | .tuple (a :: _ :: _ :: _) => cases a <;> rfl
  | .none => rfl
  | .bool _ => rfl
  | .int _ => rfl
  | .str _ => rfl
  | .list _ => rfl
  | .dict _ => rfl
theorem kind_array {P : Pa} (ok : PaOk P) (x : Str) : decide (kindOf (kindsL P) x = some ("array" : Str)) = decide (x ∈ P.arrays.map (·.1)) := by
  rw [Bool.eq_iff_iff, decide_eq_true_iff, decide_eq_true_iff, kind_iff ok]
  constructor
  · rintro (⟨_, h⟩ | ⟨h, _⟩ | ⟨h, _⟩ | ⟨h, _⟩)
    · exact h
    all_goals exact absurd h (by decide +kernel)
  · exact fun h => .inl ⟨rfl, h⟩
theorem kind_value {P : Pa} (ok : PaOk P) (x : Str) : decide (kindOf (kindsL P) x = some ("value" : Str)) = decide (x ∈ P.vals) := by
  rw [Bool.eq_iff_iff, decide_eq_true_iff, decide_eq_true_iff, kind_iff ok]
  constructor
  · rintro (⟨h, _⟩ | ⟨h, _⟩ | ⟨h, _⟩ | ⟨_, h⟩)
    · exact absurd h (by decide +kernel)
    · exact absurd h (by decide +kernel)
    · exact absurd h (by decide +kernel)
    · exact h
  · exact fun h => .inr (.inr (.inr ⟨rfl, h⟩))
theorem worth_law {P : Pa} (ok : PaOk P) (own : List Str) (d : PyData) : (amountD (kindsL P) d || cellD (kindsL P) own d) = lawWorth P own d := by
  have nt : ∀ (a : PyData), (∀ x, a ≠ .str x) → PyData.eqv a (.str "") = false ∧ kindD (kindsL P) a = none := fun a h => by
    cases a with
    | str x => exact absurd rfl (h x)
    | _ => exact ⟨by simp [PyData.eqv], rfl⟩
  match d with
  | .tuple [a, b] =>
    show (((PyData.eqv a (.str "") || decide (kindD (kindsL P) a = some ("value" : Str))) && isNum b) || false) = _
    rw [Bool.or_false]
    by_cases c : ∃ x, a = .str x
    · obtain ⟨x, rfl⟩ := c
      show ((PyData.eqv (.str x) (.str "") || decide (kindOf (kindsL P) x = some ("value" : Str))) && isNum b) = (decide (x ∈ ("" : Str) :: P.vals) && isNum b)
      rw [kind_value ok]
      congr 1
      rw [Bool.eq_iff_iff]
      simp [PyData.eqv, List.mem_cons]
    · have h := nt a fun x e => c ⟨x, e⟩
      rw [h.1, h.2]
      cases a with
      | str x => exact absurd ⟨x, rfl⟩ c
      | _ => rfl
  | .tuple [a, b, c, e] =>
    show (false || (decide (kindD (kindsL P) a = some ("array" : Str)) && (isNum e && (placeW (kindsL P) own b && isNum c)))) = _
    rw [Bool.false_or]
    by_cases q : ∃ x, a = .str x
    · obtain ⟨x, rfl⟩ := q
      show (decide (kindOf (kindsL P) x = some ("array" : Str)) && (isNum e && placeD (kindsL P) own (.tuple [b, c]))) = (decide (x ∈ P.arrays.map (·.1)) && (lawPlace P own (.tuple [b, c]) && isNum e))
      rw [kind_array ok, place_law ok, Bool.and_comm (isNum e)]
    · have h := nt a fun x e => q ⟨x, e⟩
      rw [h.2]
      cases a with
      | str x => exact absurd ⟨x, rfl⟩ q
      | _ => rfl
  | .tuple [] => rfl
  | .tuple [a] => cases a <;> rfl
  | .tuple [a, _, _] => cases a <;> rfl
  | .tuple (a :: _ :: _ :: _ :: _ :: _) => cases a <;> rfl
  | .none => rfl
  | .bool _ => rfl
  | .int _ => rfl
  | .str _ => rfl
  | .list _ => rfl
  | .dict _ => rfl
end Fc
namespace Fc
open PySem L2 PyProof.Rows
abbrev mF (i : Nat) : Stmt := inClass (topS 22) i
def fldsF : List Str := ["_arrays", "_positions", "_amounts", "_lengths", "_length_of", "_kinds"]
/-- what the text says of the class of frames -/
structure FrTxt (K : PySem.W.Frag) (mg : Str → Option Value) (C : Addr) : Prop where
  cl : Cls K C
  nA : NoAttr K C "_arrays"
  nP : NoAttr K C "_positions"
  nV : NoAttr K C "_amounts"
  nL : NoAttr K C "_lengths"
  nO : NoAttr K C "_length_of"
  nK : NoAttr K C "_kinds"
  g : mg "Frame" = some (.ref C)
/-- at p a frame of the parts P -/
structure FrAt (K : PySem.W.Frag) (C : Addr) (H : Hp) (p : Addr) (P : Pa) : Prop where
  ok : PaOk P
  ex : ∃ dx fs tA tP tV aK, H p = some (.ins C dx fs) ∧ fs.lookup ("_arrays" : Str) = some (.ref tA) ∧ fs.lookup ("_positions" : Str) = some (.ref tP) ∧ fs.lookup ("_amounts" : Str) = some (.ref tV) ∧ fs.lookup ("_kinds" : Str) = some (.ref aK) ∧
    (∀ m, m ∉ fldsF → fs.lookup m = none) ∧ Dp K H (.ref tA) (dA P.arrays) ∧ Dp K H (.ref tP) (dS P.pos) ∧ Dp K H (.ref tV) (dS P.vals) ∧ H aK = some (.dK (kvK (kindsL P)))
theorem FrAt.same {K : PySem.W.Frag} {C : Addr} {H H' : Hp} {p : Addr} {P : Pa} (h : FrAt K C H p P) (s : Same H H') : FrAt K C H' p P := by
  obtain ⟨ok, dx, fs, tA, tP, tV, aK, h1, h2, h3, h4, h5, h6, h7, h8, h9, h10⟩ := h
  exact ⟨ok, dx, fs, tA, tP, tV, aK, s _ _ h1, h2, h3, h4, h5, h6, dp_mono s _ _ h7, dp_mono s _ _ h8, dp_mono s _ _ h9, s _ _ h10⟩
/-- own names that may stand in terms -/
structure OwnOk (P : Pa) (own : List Str) : Prop where
  len : own.length ≤ 2
  nd : own.Nodup
  nm : ∀ x ∈ own, isNameS x = true ∧ x.length ≤ 1000 ∧ x ∉ namesL P
def spFresh (K : PySem.W.Frag) (C : Addr) : Sp := fun vs H Q _ => ∃ p P x, vs = [.ref p, .str x] ∧ FrAt K C H p P ∧ x.length ≤ 1000 ∧ Q (.bl (isNameS x && decide (x ∉ namesL P))) H
def spOwn (K : PySem.W.Frag) (C : Addr) : Sp := fun vs H Q _ => ∃ p P o own, vs = [.ref p, .ref o] ∧ FrAt K C H p P ∧ SqT K H o (List.map V.str own) ∧ OwnOk P own ∧ Q (.bl true) H
def spIsPos (K : PySem.W.Frag) (w : World) (C : Addr) : Sp := fun vs H Q _ => ∃ p P v d o own, vs = [.ref p, v, .ref o] ∧ FrAt K C H p P ∧ DV K w H v d ∧ SqT K H o (List.map V.str own) ∧ OwnOk P own ∧ ∀ H', Same H H' → Q (.bl (lawPlace P own d)) H'
def spIsVal (K : PySem.W.Frag) (w : World) (C : Addr) : Sp := fun vs H Q _ => ∃ p P v d o own, vs = [.ref p, v, .ref o] ∧ FrAt K C H p P ∧ DV K w H v d ∧ shT d ∧ SqT K H o (List.map V.str own) ∧ OwnOk P own ∧ ∀ H', Same H H' → Q (.bl (lawWorth P own d)) H'
theorem valK_some (ks : List (Str × Str)) (x : Str) : (valV (kvK ks) (.inr x)).isSome = decide (x ∈ ks.map (·.1)) := by
  unfold valV kvK
  induction ks with
  | nil => rfl
  | cons e ks ih =>
    rw [List.map_cons, List.find?_cons, List.map_cons]
    by_cases c : e.1 = x
    · subst c
      rw [decide_eq_true (rfl : ((Sum.inr e.1 : Key) = Sum.inr e.1))]
      simp
    · rw [decide_eq_false (fun q => c (Sum.inr.inj q))]
      refine ih.trans ?_
      exact decide_eq_decide.mpr ⟨fun h => List.mem_cons_of_mem _ h, fun h => (List.mem_cons.mp h).resolve_left fun q => c q.symm⟩
section
variable {K : PySem.W.Frag} {mg : Str → Option Value} {base : Heap} {P : Program} {w : World}
theorem scM7 : FnScope ["self", "value"] ["self", "value"] (defScope (mF 7)) := ⟨rfl, rfl, rfl, by decide +kernel, rfl, by decide +kernel, by decide +kernel⟩
theorem okM7 {f C : Addr} {fd : FuncData} (F : Fun K "is_fresh" "Frame.is_fresh" (mF 7) f fd) (B : Blt mg) (T : FrTxt K mg C) (c21 : Cal P w K mg base 1 "is_name" (spName K w)) : FnOk P w K mg base CX0 2 f fd ["self", "value"] (spFresh K C) := by
  refine F.ok scM7 (fun vs H Q E h => ?_) (fun cdv A outer s H vs Q E hr h => ?_)
  · obtain ⟨p, P, x, rfl, _⟩ := h
    rfl
  · have hu := hu70 hr
    refine ⟨_, pss_one (ps_ret (pe_and (pe_c c21 hr (by decide) (by rfl) (pa_cons (pv 1) pa_nil)) (pe_one (pe_cmp (pc_dnotin (hu1 hu) (pv 1) (pe_fld (pv 0) rfl)))))), ?_⟩
    obtain ⟨p, P, x, rfl, ⟨ok, dx, fs, tA, tP, tV, aK, h1, h2, h3, h4, h5, h6, h7, h8, h9, h10⟩, hx, q⟩ := h
    refine ⟨_, rfl, x, rfl, hx, _, rfl, ?_⟩
    cases e : isNameS x with
    | false => rw [e] at q; exact iteF q
    | true =>
      rw [e] at q
      refine iteT ⟨_, rfl, _, rfl, p, C, dx, fs, _, rfl, h1, T.cl, T.nK, h5, aK, _, rfl, DGet.k (k := .inr x) h10, ?_⟩
      rw [valK_some, kinds_keys]
      have e2 : (!decide (x ∈ namesL P)) = decide (x ∉ namesL P) := by by_cases c : x ∈ namesL P <;> simp [c]
      rw [e2]
      exact q
end
end Fc
namespace Fc
open PySem L2 PyProof.Rows
def anyT (P : Pa) (d : PyData) : Bool := lawPlace P [] d || lawWorth P [] d
theorem place_form {P : Pa} {own : List Str} {d : PyData} (h : lawPlace P own d = true) : ∃ x i, d = .tuple [.str x, .int i] ∧ small i = true ∧ decide (x ∈ ("" : Str) :: (lensOf P.arrays ++ (P.pos ++ own))) = true := by
  match d with
  | .tuple [.str x, b] =>
    obtain ⟨h1, h2⟩ := (Bool.and_eq_true _ _).mp (show (isNum b && _) = true from h)
    cases b with
    | int i => exact ⟨x, i, rfl, h1, h2⟩
    | _ => cases h1
  | .tuple [.none, b] => cases h
  | .tuple [.bool _, b] => cases h
  | .tuple [.int _, b] => cases h
  | .tuple [.list _, b] => cases h
  | .tuple [.tuple _, b] => cases h
  | .tuple [.dict _, b] => cases h
  | .tuple [] => cases h
  | .tuple [a] => cases a <;> cases h
  | .tuple (a :: _ :: _ :: _) => cases a <;> cases h
  | .none => cases h
  | .bool _ => cases h
  | .int _ => cases h
  | .str _ => cases h
  | .list _ => cases h
  | .dict _ => cases h
theorem worth_form {P : Pa} {own : List Str} {d : PyData} (h : lawWorth P own d = true) : (∃ x i, d = .tuple [.str x, .int i] ∧ small i = true ∧ decide (x ∈ ("" : Str) :: P.vals) = true) ∨
    ∃ x b c i, d = .tuple [.str x, b, c, .int i] ∧ small i = true ∧ decide (x ∈ P.arrays.map (·.1)) = true ∧ lawPlace P own (.tuple [b, c]) = true := by
  match d with
  | .tuple [.str x, b] =>
    obtain ⟨h1, h2⟩ := (Bool.and_eq_true _ _).mp (show (_ && isNum b) = true from h)
    cases b with
    | int i => exact .inl ⟨x, i, rfl, h2, h1⟩
    | _ => cases h2
  | .tuple [.str x, b, c, e] =>
    obtain ⟨h1, h2⟩ := (Bool.and_eq_true _ _).mp (show (_ && (lawPlace P own (.tuple [b, c]) && isNum e)) = true from h)
    obtain ⟨h4, h3⟩ := (Bool.and_eq_true _ _).mp h2
    cases e with
    | int i => exact .inr ⟨x, b, c, i, rfl, h3, h1, h4⟩
    | _ => cases h3
  | .tuple [.none, b] => cases h
  | .tuple [.bool _, b] => cases h
  | .tuple [.int _, b] => cases h
  | .tuple [.list _, b] => cases h
  | .tuple [.tuple _, b] => cases h
  | .tuple [.dict _, b] => cases h
  | .tuple [.none, b, _, _] => cases h
  | .tuple [.bool _, b, _, _] => cases h
  | .tuple [.int _, b, _, _] => cases h
  | .tuple [.list _, b, _, _] => cases h
  | .tuple [.tuple _, b, _, _] => cases h
  | .tuple [.dict _, b, _, _] => cases h
  | .tuple [] => cases h
  | .tuple [a] => cases a <;> cases h
  | .tuple [a, _, _] => cases a <;> cases h
  | .tuple (a :: _ :: _ :: _ :: _ :: _) => cases a <;> cases h
  | .none => cases h
  | .bool _ => cases h
  | .int _ => cases h
  | .str _ => cases h
  | .list _ => cases h
  | .dict _ => cases h
/-- a term ends with its number, and with another one is a term just if this is short enough -/
theorem any_form {P : Pa} {d : PyData} (h : anyT P d = true) : ∃ ds i, d = .tuple (ds ++ [.int i]) ∧ ds.length ≤ 3 ∧ small i = true ∧ ∀ j, anyT P (.tuple (ds ++ [.int j])) = small j := by
  rcases Bool.or_eq_true_iff.mp h with h | h
  · obtain ⟨x, i, rfl, h1, h2⟩ := place_form h
    refine ⟨[.str x], i, rfl, by simp, h1, fun j => ?_⟩
    show ((small j && decide _) || (decide _ && small j)) = small j
    rw [h2]
    cases small j <;> simp
  · rcases worth_form h with ⟨x, i, rfl, h1, h2⟩ | ⟨x, b, c, i, rfl, h1, h2, h3⟩
    · refine ⟨[.str x], i, rfl, by simp, h1, fun j => ?_⟩
      show ((small j && decide _) || (decide _ && small j)) = small j
      rw [h2]
      cases small j <;> simp
    · refine ⟨[.str x, b, c], i, rfl, by simp, h1, fun j => ?_⟩
      show (false || (decide _ && (lawPlace P [] (.tuple [b, c]) && small j))) = small j
      rw [h2, h3]
      cases small j <;> simp
def spAny (K : PySem.W.Frag) (w : World) (C : Addr) : Sp := fun vs H Q _ => ∃ p P v d, vs = [.ref p, v] ∧ FrAt K C H p P ∧ DV K w H v d ∧ shT d ∧ ∀ H', Same H H' → Q (.bl (anyT P d)) H'
/-- what is told of a term with so much more -/
def spShift (K : PySem.W.Frag) (w : World) (C Ct : Addr) : Sp := fun vs H Q E => ∃ p P v d s, vs = [.ref p, v, .int s] ∧ FrAt K C H p P ∧ DV K w H v d ∧ shT d ∧ small s = true ∧
  (anyT P d = false → ∀ H', Same H H' → E (.ref Ct) none H') ∧
  ∀ ds i, d = .tuple (ds ++ [.int i]) → anyT P d = true → (small (i + s) = false → ∀ H', Same H H' → E (.ref Ct) none H') ∧ (small (i + s) = true → ∀ H' p', Same H H' → Dp K H' (.ref p') (.tuple (ds ++ [.int (i + s)])) → Q (.ref p') H')
theorem ownOk_nil (P : Pa) : OwnOk P [] := ⟨by decide, .nil, fun x hx => by cases hx⟩
theorem shaped_put {ds : List PyData} {i : Int} (j : Int) (h : SeqAt.shaped (.tuple (ds ++ [.int i])) = true) : SeqAt.shaped (.tuple (ds ++ [.int j])) = true := by
  have h1 : PyData.canLayAll0 (ds ++ [.int i]) = true := SeqAt.canLay_of_shaped h
  have h2 : PyData.depthAll (ds ++ [.int i]) + 1 ≤ 64 := SeqAt.depth_of_shaped h
  have c1 := (canAll_iff _).mp h1
  have c2 := (depAll_iff 63 _).mp (by omega : PyData.depthAll (ds ++ [.int i]) ≤ 63)
  have e1 : PyData.canLayAll0 (ds ++ [.int j]) = true := (canAll_iff _).mpr fun d hd => by
    rcases List.mem_append.mp hd with h | h
    · exact c1 d (List.mem_append_left _ h)
    · rw [List.mem_singleton.mp h]; rfl
  have e2 : PyData.depthAll (ds ++ [.int j]) ≤ 63 := (depAll_iff 63 _).mpr fun d hd => by
    rcases List.mem_append.mp hd with h | h
    · exact c2 d (List.mem_append_left _ h)
    · rw [List.mem_singleton.mp h]; exact Nat.zero_le _
  show (PyData.canLayAll0 (ds ++ [.int j]) && decide (PyData.depthAll (ds ++ [.int j]) + 1 ≤ 64)) = true
  rw [e1, decide_eq_true (by omega)]
  rfl
section
variable {K : PySem.W.Frag} {mg : Str → Option Value} {base : Heap} {P : Program} {w : World}
end
end Fc
namespace Fc
open PySem PySem.Spec PyProof.Rows L2
/-! tuple(d) of a table -/
section
variable {prog : Program} {w : World} {A : Around} {E : Value → Shared → Prop} {s : Shared} {r d : Addr} {n : Nat} {P : Nat → Value → Prop} {OK : Heap → Prop}
theorem collect_kdl {Q : List Value → Shared → Prop} (D : PySem.W.KdlSrc prog w "dict" r d n P OK) (hh : A.handled = none) (hok : OK s.heap) (hn : n ≤ sizeLine)
    (hQ : ∀ (h' : Heap) (tk : Nat) (acc : Array Value), (∀ b o, s.heap.get? b = some o → h'.get? b = some o) → ItemsOf P acc n → Q acc.toList { s with heap := h', toks := tk }) :
    wpAny (model prog w) A (collect (.ref r)) Q E s := by
  unfold collect
  refine wpAny_bind (wpAny_runValue (codeAny_builtin F.entry_proto_collect ?_))
  rw [Around.under_plainId F.plain_proto_collect _]
  show wpAny _ A.in1 (newList [] >>= fun l => again (.builtin "list.__iadd__" ⟨[l, .ref r], []⟩)) _ _ s
  refine wpAny_bind (wpAny_newObj_type ?_)
  refine wpAny_pure ⟨plainId_quiet F.plain_list_iadd _, codeAny_builtin F.entry_list_iadd ?_⟩
  rw [Around.under_plainId F.plain_list_iadd _]
  show wpAny _ A.in1 (Builtin.List.listExtendWith (.ref s.heap.objs.size) (.ref r) (.ref s.heap.objs.size)) _ _ _
  have hS : (s.heap.push { cls := .type "list", data := .seq ([] : List Value).toArray }).get? s.heap.objs.size = some { cls := .type "list", data := .seq #[] 0 } := Heap.get?_push_size _ rfl
  have hlt := D.there _ hok
  refine wpAny_mono (PySem.W.kdl_extend (A := A) (R := fun rr s' => rr = .ok (.ret (.ref s.heap.objs.size)) ∧ ∃ (h' : Heap) (tk : Nat) (acc : Array Value) (c' : Nat), s' = { s with heap := h', toks := tk } ∧
      (∀ b o, s.heap.get? b = some o → h'.get? b = some o) ∧ h'.get? s.heap.objs.size = some { cls := .type "list", dict := none, data := .seq acc c', slots := #[] } ∧ ItemsOf P acc n)
    (s := { s with heap := s.heap.push { cls := .type "list", data := .seq ([] : List Value).toArray } }) D hh (D.keep _ _ hok fun b _ o e => Heap.get?_push_of_some _ e) _ (Nat.ne_of_gt hlt.1) (Nat.ne_of_gt hlt.2) _ 0 hS
    (fun h' tk acc c' hk e hi => ⟨rfl, h', tk, acc, c', rfl, fun b o q => hk b o (Nat.ne_of_lt (Heap.lt_size q)) (Heap.get?_push_of_some _ q), e, hi⟩) hn) (fun fin s' h => ?_) (fun e s' h => ?_)
  · cases fin with
    | done f =>
      obtain ⟨e, h', tk, acc, c', rfl, hk, hS', hi⟩ := h
      cases e
      show wpAny _ A (load s.heap.objs.size >>= _) _ _ _
      exact wpAny_bind (wpAny_load hS' (wpAny_pure (hQ h' tk acc hk hi)))
    | again c' =>
      refine ⟨h.1, codeAny_mono h.2 fun rr s'' hr' => ?_⟩
      obtain ⟨rfl, h', tk, acc, c', rfl, hk, hS', hi⟩ := hr'
      show wpAny _ A (load s.heap.objs.size >>= _) _ _ _
      exact wpAny_bind (wpAny_load hS' (wpAny_pure (hQ h' tk acc hk hi)))
  · exact absurd h.1 (by simp)
theorem code_tuple_new_kdl {Q₁ : Value → Shared → Prop} (D : PySem.W.KdlSrc prog w "dict" r d n P OK) (hh : A.handled = none) (hok : OK s.heap) (hn : n ≤ sizeLine)
    (h : ∀ (h' : Heap) (tk : Nat) (acc : Array Value), (∀ b o, s.heap.get? b = some o → h'.get? b = some o) → ItemsOf P acc n → Q₁ (.ref h'.objs.size) { s with heap := h'.push { cls := .type "tuple", data := .seq acc }, toks := tk }) :
    codeAny (model prog w) A (.call (.builtin "tuple.__new__") ⟨[.type "tuple", .ref r], []⟩) (wants Q₁ E) s := by
  refine codeAny_of_tree ?_
  show wpAny _ A.in1 (do checkBuiltinCall "tuple.__new__" ⟨[.type "tuple", .ref r], []⟩; again (.builtin "tuple.__new__" ⟨[.type "tuple", .ref r], []⟩)) _ _ s
  refine wpAny_bind (wpAny_of_eq (F.newCall_tuple_1 _) (wpAny_pure ⟨plainId_quiet F.plain_tuple_new _, codeAny_builtin F.entry_tuple_new ?_⟩))
  rw [Around.under_plainId F.plain_tuple_new _]
  have hsub := sub_tuple_self
  have hinit := init_tuple_lookup
  have hmh := madeHere_tuple
  have hTI : s.TypeIs (.ref r) "dict" := D.type s hok
  have hh1 : A.in1.handled = none := hh
  wp_walk using wpAny_typeOf hTI, collect_kdl (A := A.in1) D hh1 hok hn
  intro h' tk acc hk hacc
  show wpAny _ _ (Builtin.Tuple.tupleExact acc.toList.toArray >>= fun v => ret v) _ _ _
  unfold Builtin.Tuple.tupleExact
  refine wpAny_bind (wpAny_newObj_type ?_ (by show acc.toList.toArray.size ≤ sizeLine; simp only [Array.toArray_toList]; rw [hacc.1]; exact hn))
  refine wpAny_pure ?_
  have e : acc.toList.toArray = acc := by simp
  rw [e]
  exact h h' tk acc hk hacc
theorem call_tuple_kdl {Q : Value → Shared → Prop} (D : PySem.W.KdlSrc prog w "dict" r d n P OK) (hh : A.handled = none) (hok : OK s.heap) (hn : n ≤ sizeLine)
    (hQ : ∀ (h' : Heap) (tk : Nat) (acc : Array Value), (∀ b o, s.heap.get? b = some o → h'.get? b = some o) → ItemsOf P acc n → Q (.ref h'.objs.size) { s with heap := h'.push { cls := .type "tuple", data := .seq acc }, toks := tk }) :
    wpAny (model prog w) A (call (.type "tuple") [.ref r]) Q E s := by
  refine callType_codes (Q₁ := fun obj s₁ => s₁.TypeIs obj "tuple" ∧ Q obj s₁) F.called_tuple (F.typeCall_tuple_1 _) F.entry_object_init
    (code_tuple_new_kdl (A := A.in1) D hh hok hn fun h' tk acc hk hacc => ⟨⟨_, Heap.get?_push_size _ rfl, rfl⟩, hQ h' tk acc hk hacc⟩) fun obj s₁ h₁ => ?_
  exact ⟨h₁.1, F.args_object_init_2 obj _, object_init_meets F.called_tuple.init.lookup F.called_tuple.made (by decide) prog w A.in1 _ s₁ ⟨h₁.1, rfl, h₁.2⟩⟩
end
theorem call_tupleM {X : Cx} (hcalm : X.calm = true) : CallR X (.type "tuple") (fun xs H Q => ∃ a es, xs = [.ref a] ∧ TabAt X.K X.w H a es ∧ ∀ p, H p = none → Q (.ref p) (upd H p (.tup (es.map (·.2.1))))) := by
  intro pins s σ H xs us Q I r ⟨a, ys, e, t, q⟩
  subst e
  obtain ⟨u, rfl, rx⟩ := vals1 r
  obtain rfl : u = Value.ref a := rx
  obtain ⟨z, sm, o, es, ep, ho, hc, hd, ee, T⟩ := t.get I
  refine call_tuple_kdl (kdl_raw sm hc hd) (I.ok.hd hcalm) ho (by rw [ee.1]; exact z) fun h' tk acc' kp it => ?_
  have hl : acc'.toList.length = ys.length := by rw [Array.length_toList, it.1]; exact ee.1
  have rv : Vals (ys.map (·.2.1)) acc'.toList := by
    have gen : ∀ (l1 : List Ent) (l2 : List Value), l1.length = l2.length → (∀ (j : Nat) (x : Ent), l1[j]? = some x → ∀ v : Value, l2[j]? = some v → RelV x.2.1 v) → Vals (l1.map (·.2.1)) l2 := by
      intro l1
      induction l1 with
      | nil => intro l2 hl _; cases l2 with
        | nil => exact .nil
        | cons _ _ => cases hl
      | cons x l1 ih => intro l2 hl h; cases l2 with
        | nil => cases hl
        | cons v l2 => exact .cons (h 0 x rfl v rfl) (ih l2 (by simpa using hl) fun j y hy v hv => h (j + 1) y (by simpa using hy) v (by simpa using hv))
    refine gen ys acc'.toList hl.symm fun j x hx v hv => ?_
    obtain ⟨en, hen, ev⟩ := it.2 j v (by rw [← Array.getElem?_toList]; exact hv)
    obtain ⟨hj, e2⟩ := Array.getElem?_eq_some_iff.mp hen
    have q2 := (ee.2 j hj x hx).2.1
    rw [ev, ← e2]
    exact q2
  have I1 : Inv X pins σ H { s with heap := h', toks := tk } := I.kept (t' := tk) kp
  have I2 : Inv X pins σ (upd H h'.objs.size (.tup (ys.map (·.2.1)))) { s with heap := h'.push { cls := .type "tuple", data := .seq acc' }, toks := tk } :=
    I1.laid (t' := tk) (fun b o e => Heap.get?_push_of_some _ e) (Nat.le_refl _) (show ObjOk X.prog X.w _ _ _ (.tup (ys.map (·.2.1))) from ⟨by rw [List.length_map]; exact z, acc'.toList, rv, by rw [Array.toArray_toList]; exact IsTup.new _ _⟩)
  exact ⟨.ref h'.objs.size, _, I2, rfl, q _ (I1.hok.fresh (Nat.le_refl _))⟩
end Fc
namespace Fc
open PySem L2 PyProof.Rows
theorem keyIs_of {k : Key} {v : Value} (h : RelV (kV k) v) : keyIs k v = true := by
  cases k with
  | inl i => obtain ⟨t, rfl⟩ := (show ∃ t, v = Value.int i t from h); exact keyIs_int i t
  | inr x => obtain ⟨t, rfl⟩ := (show ∃ t, v = Value.str x t from h); exact keyIs_str x t
/-- a table of texts and ints, told as one of keys of one kind -/
def tAsK (w : World) (te : TE) : TE := fun σ H Q => te σ H fun v H1 => ∃ p kvs, v = .ref p ∧ H1 p = some (MD w p (kvs.map entK)) ∧ Q v (upd H1 p (.dK kvs))
theorem pe_asK {X : Cx} {e : Expr} {te : TE} (he : PE X e te) : PE X e (tAsK X.w te) := by
  refine ⟨fun pins s σ H Q I h => thn (he.run pins s σ H _ I h) fun u s1 ⟨v, H1, I1, rv, p, kvs, ev, hp, q⟩ => ?_⟩
  obtain ⟨⟨z, sm, nd, o, es, ep, ho, hc, hd, hs, hen⟩, _, _⟩ := (show ObjOk X.prog X.w H1 s1.heap p (MD X.w p (kvs.map entK)) from I1.hok p _ hp)
  have gen : ∀ (l : List DictEntry) (t : List (Key × V)), l.length = t.length → (∀ (j : Nat) (en : DictEntry) (x : Key × V), l[j]? = some en → t[j]? = some x → en.hash = (nkK x.1).hash X.w ∧ RelV (kV x.1) en.key ∧ RelV x.2 en.val) →
      ∃ r : List (Key × Value), KV t r ∧ Pairs (mixKind X.prog X.w) l r ∧ r.map (·.1) = t.map (·.1) ∧ ∀ x ∈ l, ∃ k, keyIs k x.key = true ∧ x.hash = (mixKind X.prog X.w).hash k := by
    intro l
    induction l with
    | nil => intro t hl _; cases t with
      | nil => exact ⟨[], .nil, .nil, rfl, fun x hx => by cases hx⟩
      | cons _ _ => cases hl
    | cons en l ih => intro t hl h; cases t with
      | nil => cases hl
      | cons x t =>
        obtain ⟨a1, a2, a3⟩ := h 0 en x rfl rfl
        obtain ⟨r, b1, b2, b3, b4⟩ := ih t (by simpa using hl) fun j en' x' e1 e2 => h (j + 1) en' x' (by simpa using e1) (by simpa using e2)
        refine ⟨(x.1, en.val) :: r, .cons ⟨rfl, a3⟩ b1, .cons (keyIs_of a2) rfl b2, by simp [b3], fun y hy => ?_⟩
        rcases List.mem_cons.mp hy with e | hy
        · subst e
          exact ⟨x.1, keyIs_of a2, by rw [hash_key]; exact a1⟩
        · exact b4 y hy
  obtain ⟨r, b1, b2, b3, b4⟩ := gen es.toList kvs (by rw [Array.length_toList, hs, List.length_map]) (fun j en x e1 e2 => by
    rw [Array.getElem?_toList] at e1
    obtain ⟨hj, e3⟩ := Array.getElem?_eq_some_iff.mp e1
    have q2 := hen j hj (entK x) (by rw [List.getElem?_map, e2]; rfl)
    rw [e3] at q2
    exact q2)
  have ndk : (r.map (·.1)).Nodup := by
    rw [b3]
    have e : keys (kvs.map entK) = (kvs.map (·.1)).map nkK := by simp [entK, List.map_map, Function.comp_def]
    rw [e] at nd
    exact List.Pairwise.of_map nkK (fun a b h e => h (congrArg nkK e)) nd
  have md : ObjOk X.prog X.w (upd H1 p (.dK kvs)) s1.heap p (.dK kvs) := ⟨by rw [List.length_map] at z; exact z, sm, r, b1, o, es, ep, ho, hc, hd, fun x hx => b4 x (Array.mem_toList_iff.mpr hx), b2, ndk⟩
  exact ⟨v, _, I1.write (x := p) (e := p) (h' := s1.heap) (t' := s1.toks) (by rw [hp]; exact True.intro) (.inl rfl) (fun _ _ _ e => e) ⟨o, ho⟩ md, rv, q⟩
end Fc
namespace Fc
open PySem PySem.Spec PyProof.Rows L2
/-! a set of texts: its members, and how many there are -/
def SetT (P : Program) (w : World) (a : Addr) (l : List Str) : HO := .ext fun h => h.SetOf (strKind P w) a (fun k => decide (k ∈ l)) l.length
/-- texts, each once -/
def onceS (xs : List Str) : List Str := xs.foldl addS []
theorem mem_addS {l : List Str} {x y : Str} : y ∈ addS l x ↔ y ∈ l ∨ y = x := by
  unfold addS
  by_cases c : x ∈ l
  · rw [if_pos c]
    exact ⟨.inl, fun h => h.elim id fun e => e ▸ c⟩
  · rw [if_neg c, List.mem_append, List.mem_singleton]
theorem addS_len (l : List Str) (x : Str) : (addS l x).length = if decide (x ∈ l) = true then l.length else l.length + 1 := by
  unfold addS
  by_cases c : x ∈ l
  · rw [if_pos c, if_pos (decide_eq_true c)]
  · rw [if_neg c, if_neg (by rw [decide_eq_false c]; decide), List.length_append]; rfl
theorem foldl_addS_len (xs : List Str) : ∀ l : List Str, (xs.foldl addS l).length ≤ l.length + xs.length := by
  induction xs with
  | nil => intro l; exact Nat.le_refl _
  | cons x xs ih =>
    intro l
    have h := ih (addS l x)
    have h2 := addS_len l x
    rw [List.foldl_cons, List.length_cons]
    split at h2 <;> omega
theorem setOf_to {P : Program} {w : World} {h : Heap} {a : Addr} {S S' : Str → Bool} {n n' : Nat} (hS : h.SetOf (strKind P w) a S n) (e : ∀ k, S k = S' k) (en : n = n') : h.SetOf (strKind P w) a S' n' := by
  have e2 : S = S' := funext e
  subst e2
  subst en
  exact hS
section
variable {prog : Program} {w : World} {A : Around} {E : Value → Shared → Prop} {s : Shared} {R : Result → Shared → Prop} {I S : Addr} {fp wr : List Addr} {G : Array GenState → Array GenState → Prop} {P : Nat → Value → Prop} {St : Nat → Shared → Prop}
/-- the texts that are still to come, one by one -/
theorem addAll (xs : List Str) (W : WalksS prog w A.in1 I fp wr G xs.length P St) (hSf : S ∉ fp) (hv : ∀ (i : Nat) (v : Value), i < xs.length → P i v → ∃ t, v = .str (xs.getD i Str.empty) t) (hb : xs.length + 1 < scanBound) :
    ∀ (rest : List Str) (done : List Str) (l : List Str) (s : Shared), xs = done ++ rest → St done.length s → l.length ≤ done.length → s.heap.SetOf (strKind prog w) S (fun k => decide (k ∈ l)) l.length →
      (∀ s', Moved (S :: wr) G s s' → s'.heap.SetOf (strKind prog w) S (fun k => decide (k ∈ rest.foldl addS l)) (rest.foldl addS l).length → R (.ok (.ret .none)) s') →
      codeAny (model prog w) A (.builtin "set.update.loop" ⟨[.ref S, .ref I], []⟩) R s := by
  have out : S ∉ wr := fun h => hSf (W.sub _ h)
  have up : ∀ b ∈ wr, b ∈ S :: wr := fun b hb => List.mem_cons_of_mem _ hb
  intro rest
  induction rest with
  | nil =>
    intro done l s ex st _ hS hR
    rw [List.append_nil] at ex
    subst ex
    refine codeAny_builtin F.entry_set_update_loop ?_
    rw [Around.under_plainId F.plain_set_update_loop _]
    change wpAny _ A.in1 (pyNext (.ref I) >>= _) _ _ s
    refine wpAny_bind (W.done s _ _ st fun s' hm => wpAny_pure (hR s' (hm.mono up) ?_))
    obtain ⟨o, es, ep, t, ho, r⟩ := hS
    exact ⟨o, es, ep, t, hm.heap S _ out ho, r⟩
  | cons x rest ih =>
    intro done l s ex st hl hS hR
    have lt : done.length < xs.length := by rw [ex]; simp
    have ex2 : xs.getD done.length Str.empty = x := by rw [ex, List.getD_eq_getElem?_getD, List.getElem?_append_right (Nat.le_refl _)]; simp
    refine codeAny_builtin F.entry_set_update_loop ?_
    rw [Around.under_plainId F.plain_set_update_loop _]
    change wpAny _ A.in1 (pyNext (.ref I) >>= _) _ _ s
    refine wpAny_bind (W.item _ s _ _ lt st fun v s' hP st' hm => ?_)
    obtain ⟨t, rfl⟩ := hv _ v lt hP
    rw [ex2]
    have hS' : s'.heap.SetOf (strKind prog w) S (fun k => decide (k ∈ l)) l.length := by
      obtain ⟨o, es, ep, tb, ho, r⟩ := hS
      exact ⟨o, es, ep, tb, hm.heap S _ out ho, r⟩
    change wpAny _ A.in1 (holding [Value.str x t] (setAdd S (.str x t)) >>= _) _ _ s'
    refine wpAny_bind (wpAny_holding ?_)
    unfold setAdd
    refine wpAny_holding (wpAny_bind ((strKind prog w).pyHash (k := x) (strKind_is _ _ _ _) ?_))
    refine wpAny_setAddHashed_of (knd := strKind prog w) (s := { s' with toks := s'.toks + 1 }) (strKind_is _ _ _ _) rfl hS' (by omega) fun h' hsb hS2 => ?_
    have hS3 : h'.SetOf (strKind prog w) S (fun k => decide (k ∈ addS l x)) (addS l x).length := setOf_to hS2 (fun k => by
      rw [Bool.eq_iff_iff, Bool.or_eq_true, decide_eq_true_iff, decide_eq_true_iff, decide_eq_true_iff, mem_addS]) (addS_len l x).symm
    have hl2 : (addS l x).length ≤ (done ++ [x]).length := by
      have := addS_len l x
      rw [List.length_append, List.length_singleton]
      split at this <;> omega
    refine wpAny_pure ⟨plainId_quiet F.plain_set_update_loop _, ih (done ++ [x]) (addS l x) _ (by rw [ex]; simp) (by
      rw [List.length_append, List.length_singleton]
      exact W.frame _ s' _ _ st' (Nat.le_succ _) fun b hb o e => by rw [hsb.2 b fun z : b = S => hSf (z ▸ hb)]; exact e) hl2 hS3 fun s'' hm'' hS'' => ?_⟩
    refine hR s'' (Moved.trans W.gtrans ((hm.mono up).then_heap (Nat.le_succ _) fun b o hb e => ?_) hm'') hS''
    rw [hsb.2 b fun z : b = S => hb (z ▸ List.mem_cons_self)]
    exact e
end
section
variable {prog : Program} {w : World} {A : Around} {E : Value → Shared → Prop} {s : Shared}
set_option maxHeartbeats 6400000 in
theorem call_set_texts {l : Addr} {items : Array Value} {xs : List Str} {Q : Value → Shared → Prop} (hh : A.handled = none) (hl : s.heap.IsList l items) (hsz : items.size = xs.length) (hi : ∀ (i : Nat) (v : Value), items[i]? = some v → ∃ t, v = .str (xs.getD i Str.empty) t) (hb : xs.length + 1 < scanBound)
    (h : ∀ (h' : Heap) (tk : Nat), h'.SetOf (strKind prog w) s.heap.objs.size (fun k => decide (k ∈ onceS xs)) (onceS xs).length → (∀ b o, s.heap.get? b = some o → h'.get? b = some o) → Q (.ref s.heap.objs.size) { s with heap := h', toks := tk }) :
    wpAny (model prog w) A (call (.type "set") [.ref l]) Q E s := by
  obtain ⟨c, tl, hmro⟩ := F.called_set.mro
  have hmade := F.called_set.made
  have hsub := F.called_set.sub
  refine wpAny_call (codeAny_of_tree ?_)
  change wpAny _ _ (callAny (.type "set") _) _ _ _
  refine wpAny_pure ⟨Code.quiet_builtin _ (by decide +kernel), codeAny_builtin F.entry_type_call ?_⟩
  rw [Around.under_plain (weight_type_call_type "set" [.ref l] []) rfl]
  have n1 := F.called_set.notType
  have n2 := F.called_set.canCreate
  have n3 := F.typeCall_set_1 (.ref l)
  repeat (any_goals (first | assumption | wp_step))
  -- the new set, empty
  refine codeAny_mono (code_set_new_1 (.ref l) (E := E) (Q₁ := fun obj s₁ => ∃ led : Bool, obj = .ref s.heap.objs.size ∧ s₁ = { s with heap := s.heap.push { cls := .type "set", dict := none, data := .set #[] 0 (.fresh 0 0 led) } }) fun led => ⟨led, rfl, rfl⟩) fun r s₁ hr => ?_
  cases r with
  | error e => exact hr
  | ok fl =>
    cases fl with
    | next => exact hr.elim
    | brk => exact hr.elim
    | cont => exact hr.elim
    | ret obj =>
      obtain ⟨led, rfl, rfl⟩ := hr
      generalize eh : s.heap.push { cls := .type "set", dict := none, data := .set #[] 0 (.fresh 0 0 led) } = h1
      have hS : h1.get? s.heap.objs.size = some { cls := .type "set", dict := none, data := .set #[] 0 (.fresh 0 0 led) } := by rw [← eh]; exact Heap.get?_push_size _ rfl
      have k1 : ∀ b o, s.heap.get? b = some o → h1.get? b = some o := fun b o e => by rw [← eh]; exact Heap.get?_push_of_some _ e
      have z1 : h1.objs.size = s.heap.objs.size + 1 := by rw [← eh]; exact Heap.size_push _ _
      have hT : Shared.TypeIs { s with heap := h1 } (.ref s.heap.objs.size) "set" := ⟨_, hS, rfl⟩
      have hli := F.called_set.init.lookup
      have hbi := F.called_set.init.bind (.ref s.heap.objs.size)
      repeat (any_goals (first | assumption | wp_step))
      -- its members
      refine codeAny_mono (codeAny_call_builtin (R := wants (fun r s₂ => r = .none ∧ ∃ h' tk, s₂ = { s with heap := h', toks := tk } ∧ h'.SetOf (strKind prog w) s.heap.objs.size (fun k => decide (k ∈ onceS xs)) (onceS xs).length ∧ ∀ b o, s.heap.get? b = some o → h'.get? b = some o) E)
        F.called_set.init.plain F.entry_set_init (check_set_init_1 hT ?_)) fun r₂ s₂ hr₂ => ?_
      · obtain ⟨⟨ocls, odict, odata, oslots⟩, hol, hcl, nl, hdl⟩ := hl
        simp only at hcl hdl
        subst hcl
        subst hdl
        have hol' := k1 _ _ hol
        have hl1 : h1.IsList l items := ⟨_, hol', rfl, nl, rfl⟩
        have u1 := F.sub_list_set
        have u2 := F.sub_list_frozenset
        have u3 : (Value.type "list" == Value.type "dict") = false := by decide
        unfold Builtin.«set.__init__» noKeywords Builtin.Frozenset.updateFrom
        generalize hPI : pyIter = PI
        wp_walk
        subst hPI
        refine wpAny_pyIter_list hl1 (wpAny_bind (wpAny_runValue ?_))
        have lt : l < s.heap.objs.size := Heap.lt_size hol
        have hh3 : A.in1.in1.in1.handled = none := by simp [hh]
        have ne1 : l ≠ h1.objs.size := Nat.ne_of_lt (by rw [z1]; exact Nat.lt_succ_of_lt lt)
        have ne2 : s.heap.objs.size ≠ h1.objs.size := Nat.ne_of_lt (by rw [z1]; exact Nat.lt_succ_self _)
        have nin : s.heap.objs.size ∉ [h1.objs.size, l] := by
          simp only [List.mem_cons, List.not_mem_nil, or_false, not_or]
          exact ⟨ne2, Nat.ne_of_gt lt⟩
        refine addAll (S := s.heap.objs.size) xs (hsz ▸ (Walks.list hh3 _ l ne1 items).toS) nin (fun i v _ hP => hi i v hP) hb xs [] [] _ rfl ⟨⟨_, Heap.get?_push_size _ rfl, rfl, rfl⟩, hl1.push _⟩ (Nat.le_refl _) ?_ ?_
        · have hget : (h1.push { cls := .type "list_iterator", data := .fields #[.ref l, .int 0 0] }).get? s.heap.objs.size = some { cls := .type "set", dict := none, data := .set #[] 0 (.fresh 0 0 led) } := Heap.get?_push_of_some _ hS
          exact setOf_to ((PyProof.Rows.setObjOf_fresh (knd := strKind prog w) led).setOf hget (by unfold scanBound; omega)) (fun k => by simp) rfl
        · intro s' hm hS'
          obtain ⟨h', g', d', tk', os'⟩ := s'
          have eg : g' = s.gens := hm.gens
          have ed : d' = s.drawn := hm.drawn
          have eo : os' = s.os := hm.os
          subst eg
          subst ed
          subst eo
          change wpAny _ _ _ _ _ _
          refine wpAny_pure ?_
          change wpAny _ _ (ret Value.none) _ _ _
          refine wpAny_pure ⟨rfl, h', tk', rfl, hS', fun b o e => ?_⟩
          have bl := Heap.lt_size e
          refine hm.heap b o ?_ (Heap.get?_push_of_some _ (k1 _ _ e))
          simp only [List.mem_cons, List.not_mem_nil, or_false, not_or]
          exact ⟨Nat.ne_of_lt bl, Nat.ne_of_lt (by rw [z1]; exact Nat.lt_succ_of_lt bl)⟩
      · cases r₂ with
        | error e => exact hr₂
        | ok fl₂ =>
          cases fl₂ with
          | next => exact hr₂.elim
          | brk => exact hr₂.elim
          | cont => exact hr₂.elim
          | ret r =>
            obtain ⟨rfl, h', tk, rfl, hS', hk'⟩ := hr₂
            repeat (any_goals (first | assumption | wp_step))
            exact h _ _ hS' hk'
end
end Fc
namespace Fc
open PySem PySem.Spec PyProof.Rows L2
theorem setT_ok {w : World} {P : Program} {H : Hp} {h : Heap} {a : Addr} {l : List Str} (R : h.SetOf (strKind P w) a (fun k => decide (k ∈ l)) l.length) : ObjOk P w H h a (SetT P w a l) := by
  have ⟨o, _, _, _, ho, _⟩ := R
  exact ⟨R, ⟨o, ho⟩, fun h1 h2 ⟨o, es, ep, t, ho, r⟩ k => ⟨o, es, ep, t, k o ho, r⟩⟩
theorem onceS_len (xs : List Str) : (onceS xs).length ≤ xs.length := by
  have := foldl_addS_len xs []
  show (xs.foldl addS []).length ≤ xs.length
  simpa using this
/-- set(xs) of a list of texts -/
theorem call_setT {X : Cx} (hcalm : X.calm = true) : CallR X (.type "set") (fun xs H Q => ∃ (a : Addr) (l : List Str), xs = [.ref a] ∧ SqL X.K H a (l.map V.str) ∧ l.length + 1 < scanBound ∧ ∀ p, H p = none → Q (.ref p) (upd H p (SetT X.prog X.w p (onceS l)))) := by
  intro pins s σ H xs us Q I r ⟨a, l, e, hq, hb, q⟩
  subst e
  obtain ⟨u, rfl, rx⟩ := vals1 r
  obtain rfl : u = Value.ref a := rx
  obtain ⟨its, rv, pl, hz⟩ := I.list hq
  have hl : its.length = l.length := by rw [← rv.length, List.length_map]
  refine call_set_texts (xs := l) (I.ok.hd hcalm) pl.isList (by rw [List.size_toArray, hl]) (fun i v hv => ?_) hb fun h' tk hS kp => ?_
  · rw [List.getElem?_toArray] at hv
    have hi : i < l.length := by rw [← hl]; exact (List.getElem?_eq_some_iff.mp hv).1
    obtain ⟨u, hu, ru⟩ := rv.get (i := i) (x := .str l[i]) (by rw [List.getElem?_map, List.getElem?_eq_getElem hi]; rfl)
    rw [hv] at hu
    cases hu
    obtain ⟨t, rfl⟩ := (show ∃ t, v = Value.str l[i] t from ru)
    exact ⟨t, by rw [List.getD_eq_getElem?_getD, List.getElem?_eq_getElem hi]; rfl⟩
  · exact ⟨.ref s.heap.objs.size, _, I.laid (t' := tk) kp (Nat.le_refl _) (setT_ok hS), rfl, q _ (I.hok.fresh (Nat.le_refl _))⟩
/-- len(s) of a set of texts -/
theorem call_lenS {X : Cx} : CallR X (.builtin "len") (fun xs H Q => ∃ a l, xs = [.ref a] ∧ H a = some (SetT X.prog X.w a l) ∧ Q (.int (l.length : Int)) H) := by
  intro pins s σ H xs us Q I r ⟨a, l, e, ha, q⟩
  subst e
  obtain ⟨u, rfl, rx⟩ := vals1 r
  obtain rfl : u = Value.ref a := rx
  obtain ⟨o, es, ep, t, ho, hx, hd, _, _, hb, hf, hn⟩ := (I.hok a _ ha).1
  have hb2 : (es.size : Int) < 2 ^ 63 := by
    have : es.size < 4096 := by unfold scanBound at hb; omega
    omega
  exact call_len_set ho hx hd hf hb2 ⟨.int (l.length : Int), H, I.tok _, ⟨_, by rw [hn]⟩, q⟩
end Fc
namespace Fc
open PySem L2 PyProof.Rows
/-- a table of texts that all have the value v -/
def tabS (l : List Str) (v : V) : List (Kd × V) := l.map fun x => (Kd.w x, v)
theorem nk_w {x y : Str} : nk (.w x) = nk (.w y) ↔ x = y := ⟨fun h => by injection h, fun h => by rw [h]⟩
theorem putN_tabS (l : List Str) (x : Str) (v : V) : putN (tabS l v) (.w x) v = tabS (addS l x) v := by
  induction l with
  | nil => rfl
  | cons y l ih =>
    show (if nk (.w y) = nk (.w x) then (Kd.w y, v) :: tabS l v else (Kd.w y, v) :: putN (tabS l v) (.w x) v) = _
    by_cases c : y = x
    · subst c
      rw [if_pos rfl]
      unfold addS
      rw [if_pos List.mem_cons_self]
      rfl
    · rw [if_neg (fun e => c (nk_w.mp e)), ih]
      unfold addS
      by_cases d : x ∈ l
      · rw [if_pos d, if_pos (List.mem_cons_of_mem _ d)]; rfl
      · rw [if_neg d, if_neg (fun h => (List.mem_cons.mp h).elim (fun e => c e.symm) d)]; rfl
theorem tabS_keys {K : PySem.W.Frag} {H : Hp} {v : V} : ∀ {l : List Str} {zs : List Ent}, Paired (TabR K H) (tabS l v) zs → zs.map (·.2.1) = l.map V.str
  | [], zs, h => by cases h; rfl
  | x :: l, zs, h => by
    cases h with
    | cons a b =>
      rw [List.map_cons, tabS_keys (l := l) b]
      rw [show _ = V.str x from a.2.1]
      rfl
theorem addS_le (l : List Str) (x : Str) : (addS l x).length ≤ l.length + 1 := by
  have := addS_len l x
  split at this <;> omega
/-- the different lengths of the first rows -/
def lensN (as : List (Str × Str)) (n : Nat) : List Str := lensOf (as.take n)
theorem lensN_succ {as : List (Str × Str)} {n : Nat} (h : n < as.length) : lensN as (n + 1) = addS (lensN as n) (as[n]).2 := by
  unfold lensN lensOf
  rw [List.take_add_one, List.getElem?_eq_getElem h]
  show (as.take n ++ [as[n]]).foldl _ [] = _
  rw [List.foldl_append]
  rfl
theorem lensOf_len (as : List (Str × Str)) : (lensOf as).length ≤ as.length := by
  have g : ∀ (as : List (Str × Str)) (l : List Str), (as.foldl (fun l e => addS l e.2) l).length ≤ l.length + as.length := by
    intro as
    induction as with
    | nil => intro l; exact Nat.le_refl _
    | cons e as ih =>
      intro l
      have h1 := ih (addS l e.2)
      have h2 := addS_le l e.2
      rw [List.foldl_cons, List.length_cons]
      omega
  have := g as []
  show (as.foldl (fun l e => addS l e.2) []).length ≤ as.length
  simpa using this
theorem dA_at {K : PySem.W.Frag} {H : Hp} {as : List (Str × Str)} {xs : List V} (h : DpAll K H xs (as.map fun e => PyData.tuple [.str e.1, .str e.2])) {i : Nat} (hi : i < as.length) : ∃ u, xs.getD i .non = .ref u ∧ SqT K H u [.str (as[i]).1, .str (as[i]).2] := by
  have q := dp_at h (k := i) (by rw [List.length_map]; exact hi)
  rw [List.getD_eq_getElem?_getD (l := as.map _), List.getElem?_map, List.getElem?_eq_getElem hi] at q
  replace q : Dp K H (xs.getD i .non) (.tuple [.str (as[i]).1, .str (as[i]).2]) := q
  generalize xs.getD i .non = y at q
  cases q with
  | @tup u ys _ su du =>
    cases du with
    | cons a b =>
      cases b with
      | cons c d =>
        cases a
        cases c
        cases d
        exact ⟨u, rfl, su⟩
theorem dp_strs {K : PySem.W.Frag} {H : Hp} : ∀ l : List Str, DpAll K H (l.map V.str) (l.map PyData.str)
  | [] => .nil
  | x :: l => .cons (.str x) (dp_strs l)
theorem strs_dp {K : PySem.W.Frag} {H : Hp} : ∀ {l : List Str} {xs : List V}, DpAll K H xs (l.map PyData.str) → xs = l.map V.str
  | [], xs, h => by cases h; rfl
  | x :: l, xs, h => by
    cases h with
    | cons a b =>
      cases a
      rw [strs_dp (l := l) b]
      rfl
theorem tup_dS {K : PySem.W.Frag} {H : Hp} {t : Addr} {l : List Str} (h : Dp K H (.ref t) (dS l)) : SqT K H t (l.map V.str) := by
  unfold dS at h
  cases h with
  | @tup _ xs _ sa da => rw [← strs_dp da]; exact sa
theorem dS_tup {K : PySem.W.Frag} {H : Hp} {t : Addr} {l : List Str} (h : SqT K H t (l.map V.str)) : Dp K H (.ref t) (dS l) := .tup h (dp_strs l)
def spLens (K : PySem.W.Frag) (w : World) : Sp := fun vs H Q _ => ∃ t as, vs = [.ref t] ∧ Dp K H (.ref t) (dA as) ∧ as.length ≤ 60 ∧ ∀ H' p, Same H H' → Dp K H' (.ref p) (dS (lensOf as)) → Q (.ref p) H'
section
variable {K : PySem.W.Frag} {mg : Str → Option Value} {base : Heap} {P : Program} {w : World}
abbrev n28 : List Str := ["arrays", "seen", "_", "length"]
theorem sc28 : FnScope n28 ["arrays"] (defScope (topS 28)) := ⟨rfl, rfl, rfl, by decide +kernel, rfl, by decide +kernel, by decide +kernel⟩
theorem ok28 {f : Addr} {fd : FuncData} (F : Fun K "different_lengths" "different_lengths" (topS 28) f fd) (B : Blt mg) : FnOk P w K mg base CX0 1 f fd ["arrays"] (spLens K w) := by
  refine F.ok sc28 (fun vs H Q E h => ?_) (fun cdv A outer s H vs Q E hr h => ?_)
  · obtain ⟨t, as, rfl, _⟩ := h
    rfl
  · have hu := hu70 hr
    refine ⟨_, pss_cons (ps_setDcM (i := 1) (own := [("_", 2), ("length", 3)]) (g := gTup K 2 (gCons (gName 2) (gCons (gName 3) gNil))) (hu9 hu) (by rfl) sc28.nd rfl rfl (sw_trueD rfl rfl rfl (by decide +kernel)) (pi_tup (pv 0)) (blkOk_by (N := n28) (sc := defScope (topS 28)) (by decide +kernel))
        (fun _ _ _ _ _ => pg_tup rfl (pgs_cons (pg_name (i := 2) sc28.nd rfl (Or.inl rfl)) (pgs_cons (pg_name (i := 3) sc28.nd rfl (Or.inl rfl)) pgs_nil))) (fun _ _ _ _ _ => pv 3) (fun _ _ _ _ _ => pe_bl))
      (pss_one (ps_ret (pe_callTy (call_tupleM rfl) (by rfl) B.tuple boot_tuple (pa_cons (pv 1) pa_nil)))), ?_⟩
    obtain ⟨t, as, rfl, hd, hl, q⟩ := h
    unfold dA at hd
    cases hd with
    | @tup _ xs _ sa da =>
    have lx : xs.length = as.length := (dp_len da).trans (List.length_map _)
    refine ⟨_, rfl, t, rfl, ⟨xs, sa⟩, fun D hD => ?_⟩
    have s1 : Same H (upd H D (MD w D [])) := same_new hD
    refine dc_steady (K := K) (w := w) (steady_tup (K := K) (a := t) (xs := xs)) (fun k H' => Same H H' ∧ TabIs K w H' D (tabS (lensN as k) (.bl true))) ⟨s1, [], upd_same, .nil⟩ (fun i H' _ h => Tups.same h.1 _ _ sa) (fun i H' hi h => ?_) fun H' h => ?_
    · obtain ⟨s2, zs, hz, pz⟩ := h
      have hi2 : i < as.length := by omega
      obtain ⟨u, eu, su⟩ := dA_at da hi2
      have lz : zs.length = (lensN as i).length := by rw [← paired_len pz]; exact List.length_map _
      have ll : (lensN as i).length ≤ 60 := by
        have := lensOf_len (as.take i)
        rw [List.length_take] at this
        show (lensOf (as.take i)).length ≤ 60
        omega
      refine ⟨u, _, eu, Tups.same s2 _ _ su, rfl, _, _, rfl, _, _, rfl, ⟨rfl, rfl, _, rfl, zs, .text (as[i]).2, hz, tabR_keys pz, .inl (.inl (.text _)), by rw [sizeLine_eq]; omega, ?_⟩⟩
      have tp : Tups K H' (upd H' D (MD w D (putM zs (.text (as[i]).2) (.str (as[i]).2) (.bl true)))) := Tups.upd fun u e => by rw [hz] at e; cases e; exact True.intro
      refine ⟨fun b o e => ?_, _, upd_same, ?_⟩
      · rw [upd_ne (ne_of_none e hD)]
        exact s2 b o e
      · rw [lensN_succ hi2, ← putN_tabS]
        exact tabR_mono tp (tabR_put (k := .w (as[i]).2) rfl pz)
    · obtain ⟨s2, zs, hz, pz⟩ := h
      rw [show lensN as xs.length = lensOf as by unfold lensN; rw [lx, List.take_length]] at pz
      refine ⟨_, rfl, D, zs, rfl, ⟨.inl hz, tabR_keys pz⟩, fun p hp => ?_⟩
      rw [tabS_keys pz]
      exact q _ p (s2.trans (same_new hp)) (dS_tup (.inl (.inl upd_same)))
end
end Fc
namespace Fc
open PySem L2 PyProof.Rows
def tabK (ks : List (Str × Str)) : List (Kd × V) := ks.map fun e => (Kd.w e.1, V.str e.2)
def kk (v : Str) (l : List Str) : List (Str × Str) := l.map fun x => (x, v)
theorem tabK_kk (v : Str) (l : List Str) : tabK (kk v l) = tabS l (.str v) := by unfold tabK kk tabS; rw [List.map_map]; rfl
theorem kk_keys (v : Str) (l : List Str) : (kk v l).map (·.1) = l := by unfold kk; rw [List.map_map]; exact List.map_id _
theorem putN_app (A : List (Str × Str)) (B : List (Kd × V)) (x : Str) (v : V) (h : x ∉ A.map (·.1)) : putN (tabK A ++ B) (.w x) v = tabK A ++ putN B (.w x) v := by
  induction A with
  | nil => rfl
  | cons e A ih =>
    show (if nk (.w e.1) = nk (.w x) then _ else (Kd.w e.1, V.str e.2) :: putN (tabK A ++ B) (.w x) v) = _
    rw [if_neg (fun q => h (by rw [List.map_cons, ← nk_w.mp q]; exact List.mem_cons_self)), ih fun q => h (List.mem_cons_of_mem _ q)]
    rfl
theorem putN_kk (A : List (Str × Str)) (l : List Str) (v x : Str) (h : x ∉ A.map (·.1)) : putN (tabK (A ++ kk v l)) (.w x) (.str v) = tabK (A ++ kk v (addS l x)) := by
  have e : tabK (A ++ kk v l) = tabK A ++ tabS l (.str v) := by rw [← tabK_kk]; unfold tabK; rw [List.map_append]
  rw [e, putN_app _ _ _ _ h, putN_tabS, ← tabK_kk]
  unfold tabK
  rw [List.map_append]
theorem onceS_succ {xs : List Str} {n : Nat} (h : n < xs.length) : onceS (xs.take (n + 1)) = addS (onceS (xs.take n)) xs[n] := by
  unfold onceS
  rw [List.take_add_one, List.getElem?_eq_getElem h]
  show (xs.take n ++ [xs[n]]).foldl _ [] = _
  rw [List.foldl_append]
  rfl
theorem onceS_nd {xs : List Str} (h : xs.Nodup) : onceS xs = xs := by
  have g : ∀ (xs l : List Str), (l ++ xs).Nodup → xs.foldl addS l = l ++ xs := by
    intro xs
    induction xs with
    | nil => intro l _; simp
    | cons x xs ih =>
      intro l nd
      have hx : x ∉ l := fun q => by
        have := List.nodup_append.mp nd
        exact this.2.2 x q x List.mem_cons_self rfl
      have e1 : addS l x = l ++ [x] := by unfold addS; rw [if_neg hx]
      rw [List.foldl_cons, e1, ih (l ++ [x]) (by simpa using nd)]
      simp
  have := g xs [] (by simpa using h)
  exact this
theorem mem_onceS {xs : List Str} {x : Str} : x ∈ onceS xs ↔ x ∈ xs := by
  have g : ∀ (xs l : List Str), x ∈ xs.foldl addS l ↔ x ∈ l ∨ x ∈ xs := by
    intro xs
    induction xs with
    | nil => intro l; simp
    | cons y xs ih =>
      intro l
      rw [List.foldl_cons, ih, mem_addS, List.mem_cons, or_assoc]
  have := g xs []
  show x ∈ xs.foldl addS [] ↔ x ∈ xs
  simpa using this
theorem lens_once (as : List (Str × Str)) : lensOf as = onceS (as.map (·.2)) := by
  unfold lensOf onceS
  rw [List.foldl_map]
theorem tabK_at {K : PySem.W.Frag} {H : Hp} : ∀ {ks : List (Str × Str)} {zs : List Ent}, Paired (TabR K H) (tabK ks) zs → zs = (kvK ks).map entK
  | [], zs, h => by cases h; rfl
  | e :: ks, zs, h => by
    cases h with
    | cons a b =>
      rename_i z zs
      rw [tabK_at (ks := ks) b]
      obtain ⟨z1, z2, z3⟩ := z
      obtain ⟨a1, a2, a3⟩ := a
      have a1 : z1 = nk (.w e.1) := a1
      have a2 : z2 = V.str e.1 := a2
      have a3 : z3 = V.str e.2 := a3
      subst a1 a2 a3
      rfl
theorem onceS_take_len (xs : List Str) (n : Nat) : (onceS (xs.take n)).length ≤ xs.length := by
  have h1 := onceS_len (xs.take n)
  rw [List.length_take] at h1
  omega
def spKinds (K : PySem.W.Frag) (w : World) : Sp := fun vs H Q _ => ∃ tA tP tV P, vs = [.ref tA, .ref tP, .ref tV] ∧ Dp K H (.ref tA) (dA P.arrays) ∧ Dp K H (.ref tP) (dS P.pos) ∧ Dp K H (.ref tV) (dS P.vals) ∧ PaOk P ∧ ∀ H' p, Same H H' → H p = none → H' p = some (.dK (kvK (kindsL P))) → Q (.ref p) H'
/-- while the table D is filled: only it is new -/
structure Fill (K : PySem.W.Frag) (w : World) (H : Hp) (D : Addr) (ks : List (Str × Str)) (H' : Hp) : Prop where
  same : Same H H'
  tab : TabIs K w H' D (tabK ks)
section
variable {K : PySem.W.Frag} {mg : Str → Option Value} {base : Heap} {P : Program} {w : World}
theorem Fill.put {H H' : Hp} {D : Addr} {A : List (Str × Str)} {l : List Str} {v x : Str} (h : Fill K w H D (A ++ kk v l) H') (hD : H D = none) (hx : x ∉ A.map (·.1)) : ∃ zs, H' D = some (MD w D zs) ∧ (∀ z ∈ zs, KeyV K H' z.1 z.2.1) ∧ zs.length = (A ++ kk v l).length ∧
    Fill K w H D (A ++ kk v (addS l x)) (upd H' D (MD w D (putM zs (.text x) (.str x) (.str v)))) := by
  obtain ⟨s, zs, hz, pz⟩ := h
  refine ⟨zs, hz, tabR_keys pz, by rw [← paired_len pz]; exact List.length_map _, fun b o e => ?_, _, upd_same, ?_⟩
  · rw [upd_ne (ne_of_none e hD)]
    exact s b o e
  · rw [← putN_kk _ _ _ _ hx]
    have tp : Tups K H' (upd H' D (MD w D (putM zs (.text x) (.str x) (.str v)))) := Tups.upd fun u e => by rw [hz] at e; cases e; exact True.intro
    exact tabR_mono tp (tabR_put (k := .w x) rfl pz)
abbrev n30 : List Str := ["arrays", "positions", "values", "_", "kinds", "length", "word", "array"]
theorem sc30 : FnScope n30 ["arrays", "positions", "values"] (defScope (topS 30)) := ⟨rfl, rfl, rfl, by decide +kernel, rfl, by decide +kernel, by decide +kernel⟩
theorem strs_getD (l : List Str) {i : Nat} (h : i < l.length) : (l.map V.str).getD i .non = .str l[i] := by
  rw [List.getD_eq_getElem?_getD, List.getElem?_map, List.getElem?_eq_getElem h]; rfl
theorem ok30 {f : Addr} {fd : FuncData} (F : Fun K "kinds_of_names" "kinds_of_names" (topS 30) f fd) : FnOk P w K mg base CX0 1 f fd ["arrays", "positions", "values"] (spKinds K w) := by
  refine F.ok sc30 (fun vs H Q E h => ?_) (fun cdv A outer s H vs Q E hr h => ?_)
  · obtain ⟨tA, tP, tV, P, rfl, _⟩ := h
    rfl
  · have hu := hu70 hr
    refine ⟨_, pss_cons (ps_setDcM (i := 4) (own := [("array", 7), ("_", 3)]) (g := gTup K 2 (gCons (gName 7) (gCons (gName 3) gNil))) (hu9 hu) (by rfl) sc30.nd rfl rfl (sw_trueD rfl rfl rfl (by decide +kernel)) (pi_tup (pv 0)) (blkOk_by (N := n30) (sc := defScope (topS 30)) (by decide +kernel))
        (fun _ _ _ _ _ => pg_tup rfl (pgs_cons (pg_name (i := 7) sc30.nd rfl (Or.inl rfl)) (pgs_cons (pg_name (i := 3) sc30.nd rfl (Or.inl rfl)) pgs_nil))) (fun _ _ _ _ _ => pv 7) (fun _ _ _ _ _ => pe_str))
      (pss_cons (ps_for PassesOwn.never rfl (pi_tup (pv 0)) (pg_tup rfl (pgs_cons (pg_name (i := 3) sc30.nd rfl (Or.inl rfl)) (pgs_cons (pg_name (i := 5) sc30.nd rfl (Or.inl rfl)) pgs_nil))) (pss_one (ps_asg pe_str (pg_sub (pv 4) (pv 5) (set_md (hu9 hu))))))
      (pss_cons (ps_for PassesOwn.never rfl (pi_tup (pv 1)) (pg_name (i := 6) sc30.nd rfl (Or.inl rfl)) (pss_one (ps_asg pe_str (pg_sub (pv 4) (pv 6) (set_md (hu9 hu))))))
      (pss_cons (ps_for PassesOwn.never rfl (pi_tup (pv 2)) (pg_name (i := 6) sc30.nd rfl (Or.inl rfl)) (pss_one (ps_asg pe_str (pg_sub (pv 4) (pv 6) (set_md (hu9 hu))))))
      (pss_one (ps_ret (pe_asK (pv 4))))))), ?_⟩
    obtain ⟨tA, tP, tV, ⟨as, ps, vs⟩, rfl, hA, hP, hV, ok, q⟩ := h
    have sP := tup_dS hP
    have sV := tup_dS hV
    unfold dA at hA
    cases hA with
    | @tup _ xs _ sa da =>
    have lx : xs.length = as.length := (dp_len da).trans (List.length_map _)
    have nd : ((as.map (·.1)) ++ (lensOf as ++ (ps ++ vs))).Nodup := ok.nd
    have na : as.length ≤ 12 := ok.na
    have np : ps.length ≤ 8 := ok.np
    have nv : vs.length ≤ 6 := ok.nv
    obtain ⟨nd1, nd2, nd3⟩ := List.nodup_append.mp nd
    obtain ⟨nd4, nd5, nd6⟩ := List.nodup_append.mp nd2
    obtain ⟨nd7, nd8, nd9⟩ := List.nodup_append.mp nd5
    have ll := lensOf_len as
    have size : ∀ {n : Nat}, n ≤ 1000 → n < sizeLine := fun h => by rw [sizeLine_eq]; omega
    have kl : ∀ (v : Str) (l : List Str), (kk v l).length = l.length := fun v l => List.length_map _
    refine ⟨_, rfl, tA, rfl, ⟨xs, sa⟩, fun D hD => ?_⟩
    -- the arrays
    refine dc_steady (K := K) (w := w) (steady_tup (K := K) (a := tA) (xs := xs)) (fun k H' => Fill K w H D ([] ++ kk "array" (onceS ((as.map (·.1)).take k))) H') ⟨same_new hD, [], upd_same, .nil⟩ (fun i H' _ h => Tups.same h.same _ _ sa) (fun i H' hi h => ?_) fun H1 h1 => ?_
    · have hi2 : i < as.length := by omega
      obtain ⟨u, eu, su⟩ := dA_at da hi2
      obtain ⟨zs, hz, kz, lz, h2⟩ := h.put hD (x := (as[i]).1) (by intro q; cases q)
      have l2 := onceS_take_len (as.map (·.1)) i
      rw [List.length_map] at l2
      rw [List.nil_append, kl] at lz
      refine ⟨u, _, eu, Tups.same h.same _ _ su, rfl, _, _, rfl, _, _, rfl, ⟨rfl, rfl, _, rfl, zs, .text (as[i]).1, hz, kz, .inl (.inl (.text _)), size (by omega), ?_⟩⟩
      have e := onceS_succ (xs := as.map (·.1)) (n := i) (by rw [List.length_map]; exact hi2)
      rw [List.getElem_map] at e
      rw [e]
      exact h2
    rw [lx, List.take_of_length_le (by rw [List.length_map]; exact Nat.le_refl _), onceS_nd nd1, List.nil_append] at h1
    -- their lengths
    refine ⟨_, rfl, tA, rfl, ⟨xs, Tups.same h1.same _ _ sa⟩, ?_⟩
    refine for_steady steady_tup (fun k σ H' => (∃ z3 z5 z6 z7, σ = [some (.ref tA), some (.ref tP), some (.ref tV), z3, some (.ref D), z5, z6, z7]) ∧ Fill K w H D (kk "array" (as.map (·.1)) ++ kk "length" (onceS ((as.map (·.2)).take k))) H') ⟨⟨_, _, _, _, rfl⟩, by rw [show kk "length" (onceS ((as.map (·.2)).take 0)) = [] from rfl, List.append_nil]; exact h1⟩ (fun _ _ _ _ h => Tups.same h.2.same _ _ sa) ?_ ?_
    · rintro i σ H2 hi ⟨⟨z3, z5, z6, z7, rfl⟩, h2⟩
      have hi2 : i < as.length := by omega
      obtain ⟨u, eu, su⟩ := dA_at da hi2
      have hx : (as[i]).2 ∉ (kk "array" (as.map (·.1))).map (·.1) := by
        rw [kk_keys]
        intro q
        exact nd3 _ q _ (List.mem_append_left _ (by rw [lens_once, mem_onceS]; exact List.mem_map.mpr ⟨_, List.getElem_mem hi2, rfl⟩)) rfl
      obtain ⟨zs, hz, kz, lz, h3⟩ := h2.put hD hx
      have l2 := onceS_take_len (as.map (·.2)) i
      rw [List.length_map] at l2
      rw [List.length_append, kl, kl, List.length_map] at lz
      refine ⟨u, _, eu, Tups.same h2.same _ _ su, rfl, _, _, rfl, _, _, rfl, ⟨rfl, _, rfl, _, rfl, D, zs, .text (as[i]).2, rfl, hz, kz, .inl (.inl (.text _)), size (by omega), ⟨_, _, _, _, rfl⟩, ?_⟩⟩
      have e := onceS_succ (xs := as.map (·.2)) (n := i) (by rw [List.length_map]; exact hi2)
      rw [List.getElem_map] at e
      rw [e]
      exact h3
    rintro σ H2 ⟨⟨z3, z5, z6, z7, rfl⟩, h2⟩
    rw [lx, List.take_of_length_le (by rw [List.length_map]; exact Nat.le_refl _), ← lens_once] at h2
    -- the positions
    refine ⟨_, rfl, tP, rfl, ⟨_, Tups.same h2.same _ _ sP⟩, ?_⟩
    refine for_steady steady_tup (fun k σ H' => (∃ z3 z5 z6 z7, σ = [some (.ref tA), some (.ref tP), some (.ref tV), z3, some (.ref D), z5, z6, z7]) ∧ Fill K w H D ((kk "array" (as.map (·.1)) ++ kk "length" (lensOf as)) ++ kk "position" (onceS (ps.take k))) H') ⟨⟨_, _, _, _, rfl⟩, by rw [show kk "position" (onceS (ps.take 0)) = [] from rfl, List.append_nil]; exact h2⟩ (fun _ _ _ _ h => Tups.same h.2.same _ _ sP) ?_ ?_
    · rintro i σ H3 hi ⟨⟨z3, z5, z6, z7, rfl⟩, h3⟩
      have hi2 : i < ps.length := by rw [List.length_map] at hi; exact hi
      have hx : ps[i] ∉ (kk "array" (as.map (·.1)) ++ kk "length" (lensOf as)).map (·.1) := by
        rw [List.map_append, kk_keys, kk_keys]
        intro q
        rcases List.mem_append.mp q with q | q
        · exact nd3 _ q _ (List.mem_append_right _ (List.mem_append_left _ (List.getElem_mem hi2))) rfl
        · exact nd6 _ q _ (List.mem_append_left _ (List.getElem_mem hi2)) rfl
      obtain ⟨zs, hz, kz, lz, h4⟩ := h3.put hD hx
      have l2 := onceS_take_len ps i
      rw [List.length_append, List.length_append, kl, kl, kl, List.length_map] at lz
      rw [strs_getD ps hi2]
      refine ⟨_, rfl, _, rfl, D, zs, .text ps[i], rfl, hz, kz, .inl (.inl (.text _)), size (by omega), ⟨_, _, _, _, rfl⟩, ?_⟩
      rw [onceS_succ hi2]
      exact h4
    rintro σ H3 ⟨⟨z3, z5, z6, z7, rfl⟩, h3⟩
    rw [List.length_map, List.take_length, onceS_nd nd7] at h3
    -- the values
    refine ⟨_, rfl, tV, rfl, ⟨_, Tups.same h3.same _ _ sV⟩, ?_⟩
    refine for_steady steady_tup (fun k σ H' => (∃ z3 z5 z6 z7, σ = [some (.ref tA), some (.ref tP), some (.ref tV), z3, some (.ref D), z5, z6, z7]) ∧ Fill K w H D (((kk "array" (as.map (·.1)) ++ kk "length" (lensOf as)) ++ kk "position" ps) ++ kk "value" (onceS (vs.take k))) H') ⟨⟨_, _, _, _, rfl⟩, by rw [show kk "value" (onceS (vs.take 0)) = [] from rfl, List.append_nil]; exact h3⟩ (fun _ _ _ _ h => Tups.same h.2.same _ _ sV) ?_ ?_
    · rintro i σ H4 hi ⟨⟨z3, z5, z6, z7, rfl⟩, h4⟩
      have hi2 : i < vs.length := by rw [List.length_map] at hi; exact hi
      have hx : vs[i] ∉ ((kk "array" (as.map (·.1)) ++ kk "length" (lensOf as)) ++ kk "position" ps).map (·.1) := by
        rw [List.map_append, List.map_append, kk_keys, kk_keys, kk_keys]
        intro q
        rcases List.mem_append.mp q with q | q
        · rcases List.mem_append.mp q with q | q
          · exact nd3 _ q _ (List.mem_append_right _ (List.mem_append_right _ (List.getElem_mem hi2))) rfl
          · exact nd6 _ q _ (List.mem_append_right _ (List.getElem_mem hi2)) rfl
        · exact nd9 _ q _ (List.getElem_mem hi2) rfl
      obtain ⟨zs, hz, kz, lz, h5⟩ := h4.put hD hx
      have l2 := onceS_take_len vs i
      rw [List.length_append, List.length_append, List.length_append, kl, kl, kl, kl, List.length_map] at lz
      rw [strs_getD vs hi2]
      refine ⟨_, rfl, _, rfl, D, zs, .text vs[i], rfl, hz, kz, .inl (.inl (.text _)), size (by omega), ⟨_, _, _, _, rfl⟩, ?_⟩
      rw [onceS_succ hi2]
      exact h5
    rintro σ H4 ⟨⟨z3, z5, z6, z7, rfl⟩, h4⟩
    rw [List.length_map, List.take_length, onceS_nd nd8] at h4
    obtain ⟨s4, zs, hz, pz⟩ := h4
    rw [tabK_at pz] at hz
    have ek : ((kk "array" (as.map (·.1)) ++ kk "length" (lensOf as)) ++ kk "position" ps) ++ kk "value" vs = kindsL ⟨as, ps, vs⟩ := by
      unfold kindsL kk
      rw [List.map_map, List.append_assoc, List.append_assoc]
      rfl
    rw [ek] at hz
    exact ⟨_, rfl, D, _, rfl, hz, q _ D (fun b o e => by rw [upd_ne (ne_of_none e hD)]; exact s4 b o e) hD upd_same⟩
end
end Fc
namespace Fc
open PySem L2 PyProof.Rows
/-! [e for x in xs for y in x] -/
theorem lc2_in {J1 : It} {n : Nat} {it : Nat → V} {G : Hp → Prop} (S : Steady J1 n it G) {g1 : TG} {tt1 : TT} {te : TE} {σ2 : L2.St} {vs1 : List Nat} {D : Addr} {H4 : Hp} {Nx : Hp → Prop} (Pv : Nat → Hp → Prop) (h0 : Pv 0 H4) (hl : ∀ i H, i ≤ n → Pv i H → G H)
    (hs : ∀ j H, j < n → Pv j H → g1 (it j) (wipe σ2 vs1) H fun σ3 H5 => wipe σ3 vs1 = wipe σ2 vs1 ∧ tt1 σ3 H5 fun b H6 => if b = true then te σ3 H6 fun y H7 => ∃ acc, H7 D = some (.lst acc) ∧ acc.length < sizeLine ∧ Pv (j + 1) (upd H7 D (.lst (acc ++ [y]))) else Pv (j + 1) H6)
    (hd : ∀ H, Pv n H → Nx H) : ∃ W1 : Nat → Nat → Hp → Prop, (∃ m, W1 0 m H4) ∧ ∀ j k H, W1 j k H →
      (J1.stop j H ∧ Nx H) ∨ (J1.go j H ∧ ∃ Nx1 : Hp → Prop, (∀ H', Nx1 H' → ∃ k', k' < k ∧ W1 (j + 1) k' H') ∧ ∀ x H', J1.yld j H x H' → g1 x (wipe σ2 vs1) H' fun σ3 H5 => wipe σ3 vs1 = wipe σ2 vs1 ∧ tt1 σ3 H5 fun b H6 =>
        if b = true then te σ3 H6 fun y H7 => ∃ acc, H7 D = some (.lst acc) ∧ acc.length < sizeLine ∧ Nx1 (upd H7 D (.lst (acc ++ [y]))) else Nx1 H6) := by
  refine ⟨fun i m H => m + i = n ∧ Pv i H, ⟨n, rfl, h0⟩, fun i m H ⟨e, p⟩ => ?_⟩
  by_cases c : i = n
  · subst c
    exact .inl ⟨S.stop _ (hl _ _ (Nat.le_refl _) p), hd _ p⟩
  · have lt : i < n := by omega
    have q := hl i H (Nat.le_of_lt lt) p
    refine .inr ⟨S.go i H q lt, Pv (i + 1), fun H' p' => ⟨m - 1, by omega, by omega, p'⟩, fun x H' y => ?_⟩
    obtain ⟨e1, e2⟩ := S.yld i H x H' q lt y
    rw [e1, e2]
    exact hs i H lt p
theorem lc2_out {J : It} {n : Nat} {it : Nat → V} {G : Hp → Prop} (S : Steady J n it G) {g g1 : TG} {tt tt1 : TT} {wi1 : TI} {te : TE} {vs vs1 : List Nat} {σ : L2.St} {H1 : Hp} {D : Addr} {Qd : Hp → Prop} (Pv : Nat → Hp → Prop) (h0 : Pv 0 (upd H1 D (.lst []))) (hl : ∀ i H, i ≤ n → Pv i H → G H)
    (hs : ∀ i H, i < n → Pv i H → g (it i) (wipe σ vs) H fun σ2 H2 => wipe σ2 vs = wipe σ vs ∧ tt σ2 H2 fun b H3 =>
      if b = true then wi1 σ2 H3 fun J1 H4 => ∃ W1 : Nat → Nat → Hp → Prop, (∃ m, W1 0 m H4) ∧ ∀ j k H, W1 j k H →
        (J1.stop j H ∧ Pv (i + 1) H) ∨ (J1.go j H ∧ ∃ Nx1 : Hp → Prop, (∀ H', Nx1 H' → ∃ k', k' < k ∧ W1 (j + 1) k' H') ∧ ∀ x H', J1.yld j H x H' → g1 x (wipe σ2 vs1) H' fun σ3 H5 => wipe σ3 vs1 = wipe σ2 vs1 ∧ tt1 σ3 H5 fun b H6 =>
          if b = true then te σ3 H6 fun y H7 => ∃ acc, H7 D = some (.lst acc) ∧ acc.length < sizeLine ∧ Nx1 (upd H7 D (.lst (acc ++ [y]))) else Nx1 H6)
      else Pv (i + 1) H3)
    (hd : ∀ H, Pv n H → Qd H) : ∃ W : Nat → Nat → Hp → Prop, (∃ m, W 0 m (upd H1 D (.lst []))) ∧ ∀ i m H, W i m H →
      (J.stop i H ∧ Qd H) ∨ (J.go i H ∧ ∃ Nx : Hp → Prop, (∀ H', Nx H' → ∃ m', m' < m ∧ W (i + 1) m' H') ∧ ∀ x H', J.yld i H x H' → g x (wipe σ vs) H' fun σ2 H2 => wipe σ2 vs = wipe σ vs ∧ tt σ2 H2 fun b H3 =>
        if b = true then wi1 σ2 H3 fun J1 H4 => ∃ W1 : Nat → Nat → Hp → Prop, (∃ m, W1 0 m H4) ∧ ∀ j k H, W1 j k H →
          (J1.stop j H ∧ Nx H) ∨ (J1.go j H ∧ ∃ Nx1 : Hp → Prop, (∀ H', Nx1 H' → ∃ k', k' < k ∧ W1 (j + 1) k' H') ∧ ∀ x H', J1.yld j H x H' → g1 x (wipe σ2 vs1) H' fun σ3 H5 => wipe σ3 vs1 = wipe σ2 vs1 ∧ tt1 σ3 H5 fun b H6 =>
            if b = true then te σ3 H6 fun y H7 => ∃ acc, H7 D = some (.lst acc) ∧ acc.length < sizeLine ∧ Nx1 (upd H7 D (.lst (acc ++ [y]))) else Nx1 H6)
        else Nx H3) := by
  refine ⟨fun i m H => m + i = n ∧ Pv i H, ⟨n, rfl, h0⟩, fun i m H ⟨e, p⟩ => ?_⟩
  by_cases c : i = n
  · subst c
    exact .inl ⟨S.stop _ (hl _ _ (Nat.le_refl _) p), hd _ p⟩
  · have lt : i < n := by omega
    have q := hl i H (Nat.le_of_lt lt) p
    refine .inr ⟨S.go i H q lt, Pv (i + 1), fun H' p' => ⟨m - 1, by omega, by omega, p'⟩, fun x H' y => ?_⟩
    obtain ⟨e1, e2⟩ := S.yld i H x H' q lt y
    rw [e1, e2]
    exact hs i H lt p
/-! which parts are those of a frame -/
def okB (P : Pa) : Bool := decide (P.arrays.length ≤ 12) && (decide (P.pos.length ≤ 8) && (decide (P.vals.length ≤ 6) && decide ((namesL P).Nodup)))
/-- the words of the parts, with every length -/
def wordsL (P : Pa) : List Str := P.arrays.flatMap (fun e => [e.1, e.2]) ++ (P.pos ++ P.vals)
/-- parts whose words are names -/
structure PaNm (P : Pa) : Prop where
  na : P.arrays.length ≤ 60
  np : P.pos.length ≤ 60
  nv : P.vals.length ≤ 60
  nm : ∀ x ∈ wordsL P, isNameS x = true ∧ x.length ≤ 1000
theorem words_mem {P : Pa} {x : Str} : x ∈ wordsL P ↔ x ∈ namesL P := by
  obtain ⟨as, ps, vs⟩ := P
  unfold wordsL namesL
  simp only [List.mem_append, List.mem_flatMap, List.mem_cons, List.not_mem_nil, or_false, lens_once, mem_onceS, List.mem_map]
  constructor
  · rintro (⟨e, he, h | h⟩ | h)
    · exact .inl ⟨e, he, h.symm⟩
    · exact .inr (.inl ⟨e, he, h.symm⟩)
    · exact .inr (.inr h)
  · rintro (⟨e, he, h⟩ | ⟨e, he, h⟩ | h)
    · exact .inl ⟨e, he, .inl h.symm⟩
    · exact .inl ⟨e, he, .inr h.symm⟩
    · exact .inr h
theorem PaOk.of {P : Pa} (nm : PaNm P) (h : okB P = true) : PaOk P := by
  unfold okB at h
  simp only [Bool.and_eq_true, decide_eq_true_iff] at h
  exact ⟨h.2.2.2, h.1, h.2.1, h.2.2.1, fun x hx => (nm.nm x (words_mem.mpr hx)).1⟩
theorem onceS_nodup (xs : List Str) : (onceS xs).Nodup := by
  have g : ∀ (xs l : List Str), l.Nodup → (xs.foldl addS l).Nodup := by
    intro xs
    induction xs with
    | nil => intro l h; exact h
    | cons x xs ih =>
      intro l h
      refine ih _ ?_
      unfold addS
      by_cases c : x ∈ l
      · rw [if_pos c]; exact h
      · rw [if_neg c]
        exact List.nodup_append.mpr ⟨h, by simp, fun a ha b hb => by rw [List.mem_singleton.mp hb]; exact fun e => c (e ▸ ha)⟩
  exact g xs [] .nil
theorem nodup_le {l : List Str} : ∀ {D : List Str}, l.Nodup → (∀ x ∈ l, x ∈ D) → l.length ≤ D.length := by
  induction l with
  | nil => intro D _ _; exact Nat.zero_le _
  | cons x l ih =>
    intro D nd sub
    obtain ⟨n1, n2⟩ := List.nodup_cons.mp nd
    have hx := sub x List.mem_cons_self
    have h := ih (D := D.erase x) n2 fun y hy => (List.mem_erase_of_ne (fun e : y = x => n1 (e ▸ hy))).mpr (sub y (List.mem_cons_of_mem _ hy))
    rw [List.length_erase_of_mem hx] at h
    have : 0 < D.length := List.length_pos_of_mem hx
    rw [List.length_cons]
    omega
theorem once_full : ∀ (xs l : List Str), l.Nodup → (xs.foldl addS l).length = l.length + xs.length → (l ++ xs).Nodup
  | [], l, h, _ => by rw [List.append_nil]; exact h
  | x :: xs, l, h, e => by
    rw [List.foldl_cons, List.length_cons] at e
    have le := foldl_addS_len xs (addS l x)
    by_cases c : x ∈ l
    · have e1 : addS l x = l := by unfold addS; rw [if_pos c]
      rw [e1] at le e
      omega
    · have e1 : addS l x = l ++ [x] := by unfold addS; rw [if_neg c]
      rw [e1] at e
      have nd : (l ++ [x]).Nodup := List.nodup_append.mpr ⟨h, by simp, fun a ha b hb => by rw [List.mem_singleton.mp hb]; exact fun e => c (e ▸ ha)⟩
      have q := once_full xs (l ++ [x]) nd (by rw [e, List.length_append, List.length_singleton]; omega)
      simpa using q
/-- as many different ones as there are just if none stands twice -/
theorem once_count {ws ns : List Str} (hm : ∀ x, x ∈ ws ↔ x ∈ ns) : decide (V.int (ns.length : Int) = V.int ((onceS ws).length : Int)) = decide ns.Nodup := by
  have eq1 : (onceS ns).length = (onceS ws).length := Nat.le_antisymm
    (nodup_le (onceS_nodup ns) fun x h => mem_onceS.mpr ((hm x).mpr (mem_onceS.mp h))) (nodup_le (onceS_nodup ws) fun x h => mem_onceS.mpr ((hm x).mp (mem_onceS.mp h)))
  rw [Bool.eq_iff_iff, decide_eq_true_iff, decide_eq_true_iff]
  constructor
  · intro h
    have h2 : ns.length = (onceS ws).length := by have := V.int.inj h; omega
    have q := once_full ns [] .nil (by show (onceS ns).length = 0 + ns.length; omega)
    simpa using q
  · intro h
    rw [← eq1, onceS_nd h]
end Fc
namespace Fc
open PySem L2 PyProof.Rows
def spPairs (K : PySem.W.Frag) (w : World) : Sp := fun vs H Q _ => ∃ t as, vs = [.ref t] ∧ Dp K H (.ref t) (dA as) ∧ Q (.bl true) H
def spContent (K : PySem.W.Frag) (w : World) : Sp := fun vs H Q _ => ∃ tA tP tV P, vs = [.ref tA, .ref tP, .ref tV] ∧ Dp K H (.ref tA) (dA P.arrays) ∧ Dp K H (.ref tP) (dS P.pos) ∧ Dp K H (.ref tV) (dS P.vals) ∧ PaNm P ∧ ∀ H', Same H H' → Q (.bl (okB P)) H'
theorem yes_i {σ : L2.St} {H : Hp} {Q : Bool → Hp → Prop} (h : Q true H) : tYes σ H Q := h
/-- the list D is being filled: only it is new -/
structure Grow (H : Hp) (D : Addr) (l : List Str) (H' : Hp) : Prop where
  same : Same H H'
  at_ : H' D = some (.lst (l.map V.str))
theorem Grow.push {H H' : Hp} {D : Addr} {l : List Str} (x : Str) (h : Grow H D l H') (hD : H D = none) : Grow H D (l ++ [x]) (upd H' D (.lst (l.map V.str ++ [.str x]))) :=
  ⟨fun b o e => by rw [upd_ne (ne_of_none e hD)]; exact h.same b o e, by rw [upd_same, List.map_append]; rfl⟩
section
variable {K : PySem.W.Frag} {mg : Str → Option Value} {base : Heap} {P : Program} {w : World}
theorem sc27 : FnScope ["value", "pair"] ["value"] (defScope (topS 27)) := ⟨rfl, rfl, rfl, by decide +kernel, rfl, by decide +kernel, by decide +kernel⟩
theorem ok27 {f : Addr} {fd : FuncData} (F : Fun K "are_pairs" "are_pairs" (topS 27) f fd) (B : Blt mg) : FnOk P w K mg base CX0 1 f fd ["value"] (spPairs K w) := by
  refine F.ok sc27 (fun vs H Q E h => ?_) (fun cdv A outer s H vs Q E hr h => ?_)
  · obtain ⟨t, as, rfl, _⟩ := h
    rfl
  · refine ⟨_, pss_cons (ps_if (pt_not (pt_val (pe_callB call_isiD (by rfl) B.isinstance boot_isinstance (pa_cons (pv 0) (pa_cons (pe_bltn (v := .ty "tuple") (by rfl) B.tuple boot_tuple rfl) pa_nil))))) (pss_one (ps_ret pe_bl)) pss_nil)
      (pss_cons (ps_for PassesOwn.never rfl (pi_tup (pv 0)) (pg_name (i := 1) sc27.nd rfl (Or.inl rfl)) (pss_one (ps_if (pw_or (pt_not (pt_val (pe_callB call_isiD (by rfl) B.isinstance boot_isinstance (pa_cons (pv 1) (pa_cons (pe_bltn (v := .ty "tuple") (by rfl) B.tuple boot_tuple rfl) pa_nil)))))
        (pw_or1 (pt_cmpR op_ne (pe_callB call_len_seq (by rfl) B.len boot_len (pa_cons (pv 1) pa_nil)) pe_int (nomark _)))).pt (pss_one (ps_ret pe_bl)) pss_nil)))
      (pss_one (ps_ret pe_bl))), ?_⟩
    obtain ⟨t, as, rfl, hd, q⟩ := h
    have hd2 := hd
    unfold dA at hd2
    cases hd2 with
    | @tup _ xs _ sa da =>
    have lx : xs.length = as.length := (dp_len da).trans (List.length_map _)
    refine ⟨_, rfl, .ref t, _, _, rfl, .inl hd, .inr (.inr (.inr (.inl rfl))), _, rfl, iteF ⟨_, rfl, t, rfl, ⟨xs, sa⟩, ?_⟩⟩
    refine for_steady steady_tup (fun i σ H' => H' = H ∧ ∃ z, σ = [some (.ref t), z]) ⟨rfl, _, rfl⟩ (fun _ _ _ _ h => h.1 ▸ sa) ?_ ?_
    · rintro i σ H' hi ⟨rfl, z, rfl⟩
      obtain ⟨u, eu, su⟩ := dA_at da (i := i) (by omega)
      rw [eu]
      refine ⟨_, rfl, .ref u, .tuple [.str _, .str _], _, rfl, .inl (.tup su (.cons (.str _) (.cons (.str _) .nil))), .inr (.inr (.inr (.inl rfl))), _, rfl, iteF ⟨_, rfl, u, _, rfl, .inr su, rfl, _, rfl, ?_⟩⟩
      exact iteF ⟨rfl, _, rfl⟩
    · rintro σ H' ⟨rfl, z, rfl⟩
      exact q
abbrev n29 : List Str := ["arrays", "positions", "values", "word", "words", "many", "pair"]
theorem sc29 : FnScope n29 ["arrays", "positions", "values"] (defScope (topS 29)) := ⟨rfl, rfl, rfl, by decide +kernel, rfl, by decide +kernel, by decide +kernel⟩
/-- what the text says of the greatest numbers of names -/
structure MaxTxt (mg : Str → Option Value) : Prop where
  a : ∃ t, mg "MAX_ARRAYS" = some (.int 12 t)
  p : ∃ t, mg "MAX_POSITIONS" = some (.int 8 t)
  v : ∃ t, mg "MAX_VALUES" = some (.int 6 t)
theorem ok29 {f : Addr} {fd : FuncData} (F : Fun K "is_frame_content" "is_frame_content" (topS 29) f fd) (B : Blt mg) (M : MaxTxt mg) (c27 : Cal P w K mg base 1 "are_pairs" (spPairs K w)) (c21 : Cal P w K mg base 1 "is_name" (spName K w)) (c28 : Cal P w K mg base 1 "different_lengths" (spLens K w)) :
    FnOk P w K mg base CX0 2 f fd ["arrays", "positions", "values"] (spContent K w) := by
  obtain ⟨t12, h12⟩ := M.a
  obtain ⟨t8, h8⟩ := M.p
  obtain ⟨t6, h6⟩ := M.v
  refine F.ok sc29 (fun vs H Q E h => ?_) (fun cdv A outer s H vs Q E hr h => ?_)
  · obtain ⟨tA, tP, tV, P, rfl, _⟩ := h
    rfl
  · have hu := hu70 hr
    refine ⟨_, pss_cons (ps_if (pw_or (pt_not (pt_val (pe_c c27 hr (by decide) (by rfl) (pa_cons (pv 0) pa_nil)))) (pw_or (pt_not (pt_val (pe_callB call_isiD (by rfl) B.isinstance boot_isinstance (pa_cons (pv 1) (pa_cons (pe_bltn (v := .ty "tuple") (by rfl) B.tuple boot_tuple rfl) pa_nil)))))
        (pw_or1 (pt_not (pt_val (pe_callB call_isiD (by rfl) B.isinstance boot_isinstance (pa_cons (pv 2) (pa_cons (pe_bltn (v := .ty "tuple") (by rfl) B.tuple boot_tuple rfl) pa_nil)))))))).pt (pss_one (ps_ret pe_bl)) pss_nil)
      (pss_cons (ps_if (pw_or (pt_cmpR op_gt (pe_callB call_len_seq (by rfl) B.len boot_len (pa_cons (pv 0) pa_nil)) (pe_glob (v := .int 12) (by rfl) h12 ⟨_, rfl⟩) (nomark _)) (pw_or (pt_cmpR op_gt (pe_callB call_len_seq (by rfl) B.len boot_len (pa_cons (pv 1) pa_nil)) (pe_glob (v := .int 8) (by rfl) h8 ⟨_, rfl⟩) (nomark _))
        (pw_or1 (pt_cmpR op_gt (pe_callB call_len_seq (by rfl) B.len boot_len (pa_cons (pv 2) pa_nil)) (pe_glob (v := .int 6) (by rfl) h6 ⟨_, rfl⟩) (nomark _))))).pt (pss_one (ps_ret pe_bl)) pss_nil)
      (pss_cons (ps_set (i := 4) sc29.nd rfl (Or.inl rfl) (pe_op op_cat (pe_op op_cat (pe_lc2 (own := [("pair", 6), ("word", 3)]) (vs1 := [3]) (g := gName 6) (g1 := gName 3) (wi1 := iTup K (tVar 6)) (by rfl) sc29.nd (pi_tup (pv 0)) (blkOk_by (N := n29) (sc := defScope (topS 29)) (by decide +kernel)) (by decide)
          (fun _ _ _ _ _ => pg_name (i := 6) sc29.nd rfl (Or.inl rfl)) (fun _ _ _ _ _ => pts_nil) (fun _ _ _ _ _ => pi_tup (pv 6)) (fun _ _ _ _ _ => pg_name (i := 3) sc29.nd rfl (Or.inl rfl)) (fun _ _ _ _ _ => pts_nil) (fun _ _ _ _ _ => pv 3))
        (pe_callTy call_list_of (by rfl) B.list boot_list (pa_cons (pv 1) pa_nil))) (pe_callTy call_list_of (by rfl) B.list boot_list (pa_cons (pv 2) pa_nil))))
      (pss_cons (ps_for PassesOwn.never rfl (pi_list (pv 4)) (pg_name (i := 3) sc29.nd rfl (Or.inl rfl)) (pss_one (ps_if (pt_not (pt_val (pe_c c21 hr (by decide) (by rfl) (pa_cons (pv 3) pa_nil)))) (pss_one (ps_ret pe_bl)) pss_nil)))
      (pss_cons (ps_set (i := 5) sc29.nd rfl (Or.inl rfl) (pe_op op_add (pe_op op_add (pe_op op_add (pe_callB call_len_seq (by rfl) B.len boot_len (pa_cons (pv 0) pa_nil)) (pe_callB call_len_seq (by rfl) B.len boot_len (pa_cons (pe_c c28 hr (by decide) (by rfl) (pa_cons (pv 0) pa_nil)) pa_nil)))
        (pe_callB call_len_seq (by rfl) B.len boot_len (pa_cons (pv 1) pa_nil))) (pe_callB call_len_seq (by rfl) B.len boot_len (pa_cons (pv 2) pa_nil))))
      (pss_one (ps_ret (pe_cmpR op_eq (pv 5) (pe_callB call_lenS (by rfl) B.len boot_len (pa_cons (pe_callTy (call_setT rfl) (by rfl) B.set boot_set (pa_cons (pv 4) pa_nil)) pa_nil)) (nomark _)))))))), ?_⟩
    obtain ⟨tA, tP, tV, ⟨as, ps, vs⟩, rfl, hA, hP, hV, nm, q⟩ := h
    have sP := tup_dS hP
    have sV := tup_dS hV
    have hA2 := hA
    unfold dA at hA2
    cases hA2 with
    | @tup _ xs _ sa da =>
    have lx : xs.length = as.length := (dp_len da).trans (List.length_map _)
    have na : as.length ≤ 60 := nm.na
    have np : ps.length ≤ 60 := nm.np
    have nv : vs.length ≤ 60 := nm.nv
    have q0 := q H (Same.refl H)
    have eB : okB ⟨as, ps, vs⟩ = (decide (as.length ≤ 12) && (decide (ps.length ≤ 8) && (decide (vs.length ≤ 6) && decide ((namesL ⟨as, ps, vs⟩).Nodup)))) := rfl
    refine ⟨_, rfl, tA, as, rfl, hA, _, rfl, iteF ⟨_, rfl, .ref tP, dS ps, _, rfl, .inl hP, .inr (.inr (.inr (.inl rfl))), _, rfl, iteF ⟨_, rfl, .ref tV, dS vs, _, rfl, .inl hV, .inr (.inr (.inr (.inl rfl))), _, rfl, iteF ?_⟩⟩⟩
    refine ⟨_, rfl, tA, xs, rfl, .inr sa, _, _, rfl, rfl, _, rfl, ?_⟩
    rw [lx]
    by_cases c1 : as.length ≤ 12
    case neg =>
      rw [decide_eq_true (by omega)]
      rw [eB, decide_eq_false c1] at q0
      exact iteT q0
    rw [decide_eq_false (by omega)]
    refine iteF ⟨_, rfl, tP, _, rfl, .inr sP, _, _, rfl, rfl, _, rfl, ?_⟩
    rw [List.length_map]
    by_cases c2 : ps.length ≤ 8
    case neg =>
      rw [decide_eq_true (show (8 : Int) < (ps.length : Int) by omega)]
      rw [eB, decide_eq_true c1, decide_eq_false c2] at q0
      exact iteT q0
    rw [decide_eq_false (show ¬ (8 : Int) < (ps.length : Int) by omega)]
    refine iteF ⟨_, rfl, tV, _, rfl, .inr sV, _, _, rfl, rfl, _, rfl, ?_⟩
    rw [List.length_map]
    by_cases c3 : vs.length ≤ 6
    case neg =>
      rw [decide_eq_true (show (6 : Int) < (vs.length : Int) by omega)]
      rw [eB, decide_eq_true c1, decide_eq_true c2, decide_eq_false c3] at q0
      exact iteT q0
    rw [decide_eq_false (show ¬ (6 : Int) < (vs.length : Int) by omega)]
    refine iteF ?_
    clear q0
    have size : ∀ {n : Nat}, n ≤ 1000 → n < sizeLine := fun h => by rw [sizeLine_eq]; omega
    -- the words
    refine ⟨_, rfl, tA, rfl, ⟨xs, sa⟩, fun D hD => ?_⟩
    let fm : Nat → List Str := fun k => (as.take k).flatMap fun e => [e.1, e.2]
    have fms : ∀ {k : Nat} (h : k < as.length), fm (k + 1) = fm k ++ [(as[k]).1, (as[k]).2] := fun {k} h => by
      show (as.take (k + 1)).flatMap _ = (as.take k).flatMap _ ++ _
      rw [List.take_add_one, List.getElem?_eq_getElem h]
      show (as.take k ++ [as[k]]).flatMap _ = _
      rw [List.flatMap_append]
      rfl
    have fml : ∀ k, (fm k).length ≤ 2 * as.length := fun k => by
      have g : ∀ l : List (Str × Str), (l.flatMap fun e => [e.1, e.2]).length = 2 * l.length := by
        intro l
        induction l with
        | nil => rfl
        | cons e l ih => rw [List.flatMap_cons, List.length_append, ih]; simp; omega
      have h1 := g (as.take k)
      rw [List.length_take] at h1
      show ((as.take k).flatMap fun e => [e.1, e.2]).length ≤ _
      omega
    refine lc2_out (steady_tup (K := K) (a := tA) (xs := xs)) (fun k H' => Grow H D (fm k) H') ⟨same_new hD, upd_same⟩ (fun i H' _ h => Tups.same h.same _ _ sa) (fun i H' hi h => ?_) fun H1 h1 => ?_
    · have hi2 : i < as.length := by omega
      obtain ⟨u, eu, su⟩ := dA_at da hi2
      rw [eu]
      refine ⟨rfl, yes_i ?_⟩
      refine iteT ?_
      refine ⟨_, rfl, u, rfl, ⟨_, Tups.same h.same _ _ su⟩, ?_⟩
      refine lc2_in (steady_tup (K := K) (a := u) (xs := [.str (as[i]).1, .str (as[i]).2])) (fun j H2 => Grow H D (fm i ++ ([(as[i]).1, (as[i]).2].take j)) H2) (by rw [List.take_zero, List.append_nil]; exact h) (fun j H2 _ h2 => Tups.same h2.same _ _ su) (fun j H2 hj h2 => ?_) fun H2 h2 => by rw [fms hi2]; exact h2
      have hj2 : j = 0 ∨ j = 1 := by
        have : j < 2 := hj
        omega
      have lf := fml i
      have gl : (List.map V.str (fm i ++ ([(as[i]).1, (as[i]).2].take j))).length < sizeLine := by
        rw [List.length_map, List.length_append, List.length_take]
        exact size (by simp; omega)
      rcases hj2 with rfl | rfl
      · refine ⟨rfl, yes_i ?_⟩
        refine iteT ?_
        refine ⟨_, rfl, _, h2.at_, gl, ?_⟩
        have := h2.push (as[i]).1 hD
        simpa using this
      · refine ⟨rfl, yes_i ?_⟩
        refine iteT ?_
        refine ⟨_, rfl, _, h2.at_, gl, ?_⟩
        have := h2.push (as[i]).2 hD
        simpa using this
    have fmE : fm xs.length = as.flatMap fun e => [e.1, e.2] := by
      show (as.take xs.length).flatMap _ = _
      rw [lx, List.take_length]
    rw [fmE] at h1
    obtain ⟨s1, a1⟩ := h1
    have fmL : (as.flatMap fun e => [e.1, e.2]).length ≤ 120 := by
      have h1 := fml xs.length
      rw [fmE] at h1
      omega
    refine ⟨_, rfl, tP, _, rfl, .inr (Tups.same s1 _ _ sP), fun l1 hl1 => ?_⟩
    have s2 := same_new (o := .lst (ps.map V.str)) hl1
    refine ⟨D, l1, _, _, rfl, rfl, s2 _ _ a1, upd_same, by rw [List.length_map, List.length_map]; exact Nat.le_of_lt (size (by show _ + ps.length ≤ 1000; omega)), fun l2 hl2 => ?_⟩
    have s3 := same_new (o := .lst ((as.flatMap fun e => [e.1, e.2]).map V.str ++ ps.map V.str)) hl2
    refine ⟨_, rfl, tV, _, rfl, .inr (Tups.same ((s1.trans s2).trans s3) _ _ sV), fun l3 hl3 => ?_⟩
    have s4 := same_new (o := .lst (vs.map V.str)) hl3
    refine ⟨l2, l3, _, _, rfl, rfl, s4 _ _ upd_same, upd_same, by rw [List.length_append, List.length_map, List.length_map, List.length_map]; exact Nat.le_of_lt (size (by show _ + ps.length + vs.length ≤ 1000; omega)), fun l4 hl4 => ?_⟩
    have s5 := same_new (o := .lst ((as.flatMap fun e => [e.1, e.2]).map V.str ++ ps.map V.str ++ vs.map V.str)) hl4
    have sT := (((s1.trans s2).trans s3).trans s4).trans s5
    have ew : ((as.flatMap fun e => [e.1, e.2]).map V.str ++ ps.map V.str ++ vs.map V.str) = (wordsL ⟨as, ps, vs⟩).map V.str := by
      unfold wordsL
      rw [List.map_append, List.map_append, List.append_assoc]
    rw [ew] at sT ⊢
    have sl : SqL K (upd (upd (upd (upd H1 l1 (.lst (ps.map V.str))) l2 (.lst ((as.flatMap fun e => [e.1, e.2]).map V.str ++ ps.map V.str))) l3 (.lst (vs.map V.str))) l4 (.lst ((wordsL ⟨as, ps, vs⟩).map V.str))) l4 ((wordsL ⟨as, ps, vs⟩).map V.str) := .inl (.inl upd_same)
    clear s1 a1 s2 s3 s4 s5 ew hl1 hl2 hl3 hl4
    generalize upd (upd (upd (upd H1 l1 (.lst (ps.map V.str))) l2 (.lst ((as.flatMap fun e => [e.1, e.2]).map V.str ++ ps.map V.str))) l3 (.lst (vs.map V.str))) l4 (.lst ((wordsL ⟨as, ps, vs⟩).map V.str)) = H2 at *
    -- each of them is a name
    refine ⟨_, rfl, l4, rfl, ⟨_, sl⟩, ?_⟩
    refine for_steady steady_list (fun i σ H' => H' = H2 ∧ ∃ z3 z5 z6, σ = [some (.ref tA), some (.ref tP), some (.ref tV), z3, some (.ref l4), z5, z6]) ⟨rfl, _, _, _, rfl⟩ (fun _ _ _ _ h => h.1 ▸ sl) ?_ ?_
    · rintro i σ H' hi ⟨rfl, z3, z5, z6, rfl⟩
      have hi2 : i < (wordsL ⟨as, ps, vs⟩).length := by rw [List.length_map] at hi; exact hi
      rw [strs_getD _ hi2]
      obtain ⟨n1, n2⟩ := nm.nm _ (List.getElem_mem hi2)
      refine ⟨_, rfl, _, rfl, n2, _, rfl, ?_⟩
      rw [n1]
      exact iteF ⟨rfl, _, _, _, rfl⟩
    rintro σ H' ⟨rfl, z3, z5, z6, rfl⟩
    refine ⟨_, rfl, tA, xs, rfl, .inr (Tups.same sT _ _ sa), _, rfl, tA, as, rfl, dp_mono sT _ _ hA, na, fun H3 p3 s3 d3 => ⟨p3, _, rfl, .inr (tup_dS d3), _, _, rfl, rfl, ?_⟩⟩
    refine ⟨_, rfl, tP, _, rfl, .inr (Tups.same (sT.trans s3) _ _ sP), _, _, rfl, rfl, _, rfl, tV, _, rfl, .inr (Tups.same (sT.trans s3) _ _ sV), _, _, rfl, rfl, ?_⟩
    have wl : (wordsL ⟨as, ps, vs⟩).length ≤ 300 := by
      unfold wordsL
      rw [List.length_append, List.length_append]
      show (as.flatMap fun e => [e.1, e.2]).length + (ps.length + vs.length) ≤ 300
      omega
    refine ⟨_, rfl, _, rfl, l4, wordsL ⟨as, ps, vs⟩, rfl, s3.seq sl, by unfold scanBound; omega, fun p4 hp4 => ⟨p4, _, rfl, upd_same, rfl, ?_⟩⟩
    have en : ((xs.length : Int) + ((lensOf as).map V.str).length + (ps.map V.str).length + (vs.map V.str).length) = ((namesL ⟨as, ps, vs⟩).length : Int) := by
      unfold namesL
      simp only [List.length_append, List.length_map, lx]
      omega
    have eo := once_count (ws := wordsL ⟨as, ps, vs⟩) (ns := namesL ⟨as, ps, vs⟩) fun x => words_mem
    rw [← en] at eo
    rw [eB, decide_eq_true c1, decide_eq_true c2, decide_eq_true c3] at q
    have q2 := q _ ((sT.trans s3).trans (same_new (o := SetT P w p4 (onceS (wordsL ⟨as, ps, vs⟩))) hp4))
    rw [← eo] at q2
    exact q2
end
end Fc
namespace Fc
open PySem L2 PyProof.Rows
theorem tupD_dS (l : List Str) : tupD (dS l) = true := by
  show tupDs (l.map PyData.str) = true
  induction l with
  | nil => rfl
  | cons x l ih => exact (Bool.and_eq_true _ _).mpr ⟨rfl, ih⟩
theorem tupD_dA (as : List (Str × Str)) : tupD (dA as) = true := by
  show tupDs (as.map fun e => PyData.tuple [.str e.1, .str e.2]) = true
  induction as with
  | nil => rfl
  | cons x l ih => exact (Bool.and_eq_true _ _).mpr ⟨rfl, ih⟩
def But (D : Addr) (H H' : Hp) : Prop := ∀ b o, b ≠ D → H b = some o → H' b = some o
theorem But.refl (D : Addr) (H : Hp) : But D H H := fun _ _ _ e => e
theorem But.upd {D : Addr} {H H' : Hp} {o : HO} (h : But D H H') : But D H (upd H' D o) := fun b u ne e => by rw [upd_ne ne]; exact h b u ne e
theorem But.same {D : Addr} {H H' H2 : Hp} (h : But D H H') (s : Same H' H2) : But D H H2 := fun b u ne e => s b u (h b u ne e)
theorem But.trans {D : Addr} {H H' H2 : Hp} (h : But D H H') (s : But D H' H2) : But D H H2 := fun b u ne e => s b u ne (h b u ne e)
/-- the fields of a frame, as they are put -/
def fsF (tA tP tV tL tO tK : Addr) : List (Str × V) := putF "_kinds" (.ref tK) (putF "_length_of" (.ref tO) (putF "_lengths" (.ref tL) (putF "_amounts" (.ref tV) (putF "_positions" (.ref tP) (putF "_arrays" (.ref tA) [])))))
theorem fsF_at (tA tP tV tL tO tK : Addr) : (fsF tA tP tV tL tO tK).lookup ("_arrays" : Str) = some (.ref tA) ∧ (fsF tA tP tV tL tO tK).lookup ("_positions" : Str) = some (.ref tP) ∧ (fsF tA tP tV tL tO tK).lookup ("_amounts" : Str) = some (.ref tV) ∧ (fsF tA tP tV tL tO tK).lookup ("_kinds" : Str) = some (.ref tK) := by
  unfold fsF
  refine ⟨?_, ?_, ?_, ?_⟩
  · rw [lookup_putF, if_neg (by decide +kernel), lookup_putF, if_neg (by decide +kernel), lookup_putF, if_neg (by decide +kernel), lookup_putF, if_neg (by decide +kernel), lookup_putF, if_neg (by decide +kernel), lookup_putF, if_pos rfl]
  · rw [lookup_putF, if_neg (by decide +kernel), lookup_putF, if_neg (by decide +kernel), lookup_putF, if_neg (by decide +kernel), lookup_putF, if_neg (by decide +kernel), lookup_putF, if_pos rfl]
  · rw [lookup_putF, if_neg (by decide +kernel), lookup_putF, if_neg (by decide +kernel), lookup_putF, if_neg (by decide +kernel), lookup_putF, if_pos rfl]
  · rw [lookup_putF, if_pos rfl]
theorem len_putF (f : Str) (v : V) : ∀ fs : List (Str × V), (putF f v fs).length ≤ fs.length + 1
  | [] => Nat.le_refl _
  | e :: fs => by
    unfold putF
    split
    · simp
    · have := len_putF f v fs
      simp only [List.length_cons]
      omega
theorem fsF_no (tA tP tV tL tO tK : Addr) (m : Str) (h : m ∉ fldsF) : (fsF tA tP tV tL tO tK).lookup m = none := by
  unfold fldsF at h
  simp only [List.mem_cons, List.not_mem_nil, or_false, not_or] at h
  obtain ⟨h1, h2, h3, h4, h5, h6⟩ := h
  unfold fsF
  simp only [lookup_putF]
  rw [if_neg h6, if_neg h5, if_neg h4, if_neg h3, if_neg h2, if_neg h1]
  rfl
def spMake (K : PySem.W.Frag) (C Cf : Addr) : Sp := fun vs H Q E => ∃ p dx tA tP tV P, vs = [.ref p, .ref tA, .ref tP, .ref tV] ∧ H p = some (.ins C dx []) ∧ Dp K H (.ref tA) (dA P.arrays) ∧ Dp K H (.ref tP) (dS P.pos) ∧ Dp K H (.ref tV) (dS P.vals) ∧ PaNm P ∧
  (okB P = false → ∀ H', Same H H' → E (.ref Cf) none H') ∧ (okB P = true → ∀ H', But p H H' → FrAt K C H' p P → Q .non H')
section
variable {K : PySem.W.Frag} {mg : Str → Option Value} {base : Heap} {P : Program} {w : World}
abbrev nM0 : List Str := ["self", "arrays", "positions", "values", "array", "length"]
theorem scM0 : FnScope nM0 ["self", "arrays", "positions", "values"] (defScope (mF 0)) := ⟨rfl, rfl, rfl, by decide +kernel, rfl, by decide +kernel, by decide +kernel⟩
theorem okM0 {f C Cf : Addr} {fd : FuncData} (F : Fun K "__init__" "Frame.__init__" (mF 0) f fd) (T : FrTxt K mg C) (O : OwnX K mg "InvalidFrame" Cf) (c29 : Cal P w K mg base 2 "is_frame_content" (spContent K w)) (c28 : Cal P w K mg base 1 "different_lengths" (spLens K w)) (c30 : Cal P w K mg base 1 "kinds_of_names" (spKinds K w)) :
    FnOk P w K mg base (L2.CX P w) 3 f fd ["self", "arrays", "positions", "values"] (spMake K C Cf) := by
  refine F.okX scM0 (fun vs H Q E h => ?_) (fun cdv A outer s H vs Q E hr h => ?_)
  · obtain ⟨p, dx, tA, tP, tV, P, rfl, _⟩ := h
    rfl
  · have hu := hu70 hr
    refine ⟨_, pss_cons (ps_if (pt_not (pt_val (pe_c c29 hr (by decide) (by rfl) (pa_cons (pv 1) (pa_cons (pv 2) (pa_cons (pv 3) pa_nil)))))) (pss_one (ps_raise rfl (takes_of rfl rfl rfl rfl) (pmk_own PySem.F.excBase_ValueError O.x O.g O.k (raises_own O.b O.t) rfl))) pss_nil)
      (pss_cons (ps_fld (pv 0) (pv 1) rfl) (pss_cons (ps_fld (pv 0) (pv 2) rfl) (pss_cons (ps_fld (pv 0) (pv 3) rfl) (pss_cons (ps_fld (pv 0) (pe_c c28 hr (by decide) (by rfl) (pa_cons (pv 1) pa_nil)) rfl)
      (pss_cons (ps_fld (pv 0) (pe_dcM (own := [("array", 4), ("length", 5)]) (g := gTup K 2 (gCons (gName 4) (gCons (gName 5) gNil))) (hu9 hu) (by rfl) scM0.nd (pi_tup (pv 1)) (blkOk_by (N := nM0) (sc := defScope (mF 0)) (by decide +kernel))
        (fun _ _ _ _ _ => pg_tup rfl (pgs_cons (pg_name (i := 4) scM0.nd rfl (Or.inl rfl)) (pgs_cons (pg_name (i := 5) scM0.nd rfl (Or.inl rfl)) pgs_nil))) (fun _ _ _ _ _ => pv 4) (fun _ _ _ _ _ => pv 5)) rfl)
      (pss_one (ps_fld (pv 0) (pe_c c30 hr (by decide) (by rfl) (pa_cons (pv 1) (pa_cons (pv 2) (pa_cons (pv 3) pa_nil)))) rfl))))))), ?_⟩
    obtain ⟨p, dx, tA, tP, tV, P, rfl, hp, hA, hP, hV, nm, q1, q2⟩ := h
    refine ⟨_, rfl, _, rfl, _, rfl, tA, tP, tV, P, rfl, hA, hP, hV, nm, fun H1 s1 => ⟨_, rfl, ?_⟩⟩
    cases e : okB P with
    | false => exact iteT (q1 e H1 s1)
    | true =>
    replace q2 := q2 e
    have ok := PaOk.of nm e
    refine iteF ?_
    have tA1 := tupD_dA P.arrays
    have tP1 := tupD_dS P.pos
    have tV1 := tupD_dS P.vals
    have ins : ∀ {H0 : Hp} {fs fs' : List (Str × V)}, H0 p = some (.ins C dx fs) → Tups K H0 (upd H0 p (.ins C dx fs')) := fun {H0 fs fs'} e0 => Tups.upd fun u e => by rw [e0] at e; cases e; exact True.intro
    have lz : ∀ {n : Nat}, n ≤ 6 → n < 1000 := fun h => by omega
    have hp1 := s1 _ _ hp
    refine ⟨_, rfl, _, rfl, p, C, dx, _, rfl, hp1, T.cl, T.nA, by decide, ?_⟩
    refine ⟨_, rfl, _, rfl, p, C, dx, _, rfl, upd_same, T.cl, T.nP, lz (by have := len_putF "_arrays" (.ref tA) []; simp at this; omega), ?_⟩
    refine ⟨_, rfl, _, rfl, p, C, dx, _, rfl, upd_same, T.cl, T.nV, lz (by have h1 := len_putF "_arrays" (.ref tA) []; have h2 := len_putF "_positions" (.ref tP) (putF "_arrays" (.ref tA) []); simp at h1; omega), ?_⟩
    rw [upd_upd, upd_upd]
    have t1 := ins (fs' := putF "_amounts" (.ref tV) (putF "_positions" (.ref tP) (putF "_arrays" (.ref tA) []))) hp1
    have b1 : But p H (upd H1 p (.ins C dx (putF "_amounts" (.ref tV) (putF "_positions" (.ref tP) (putF "_arrays" (.ref tA) []))))) := fun b o ne e => by rw [upd_ne ne]; exact s1 b o e
    have hA1 := dp_tups t1 _ _ tA1 (dp_mono s1 _ _ hA)
    have hP1 := dp_tups t1 _ _ tP1 (dp_mono s1 _ _ hP)
    have hV1 := dp_tups t1 _ _ tV1 (dp_mono s1 _ _ hV)
    have l3 : (putF "_amounts" (.ref tV) (putF "_positions" (.ref tP) (putF "_arrays" (.ref tA) []))).length ≤ 3 := by
      have h1 := len_putF "_arrays" (.ref tA) []
      have h2 := len_putF "_positions" (.ref tP) (putF "_arrays" (.ref tA) [])
      have h3 := len_putF "_amounts" (.ref tV) (putF "_positions" (.ref tP) (putF "_arrays" (.ref tA) []))
      simp at h1
      omega
    have hp2 : (upd H1 p (.ins C dx (putF "_amounts" (.ref tV) (putF "_positions" (.ref tP) (putF "_arrays" (.ref tA) []))))) p = some (.ins C dx (putF "_amounts" (.ref tV) (putF "_positions" (.ref tP) (putF "_arrays" (.ref tA) [])))) := upd_same
    generalize upd H1 p (.ins C dx (putF "_amounts" (.ref tV) (putF "_positions" (.ref tP) (putF "_arrays" (.ref tA) [])))) = H2 at *
    -- the lengths
    refine ⟨_, rfl, tA, P.arrays, rfl, hA1, by have := ok.na; omega, fun H3 pL s3 dL => ?_⟩
    have hp3 := s3 _ _ hp2
    have l4 := len_putF "_lengths" (.ref pL) (putF "_amounts" (.ref tV) (putF "_positions" (.ref tP) (putF "_arrays" (.ref tA) [])))
    refine ⟨_, rfl, p, C, dx, _, rfl, hp3, T.cl, T.nL, by omega, ?_⟩
    have t3 := ins (fs' := putF "_lengths" (.ref pL) (putF "_amounts" (.ref tV) (putF "_positions" (.ref tP) (putF "_arrays" (.ref tA) [])))) hp3
    have b3 := (b1.same s3).upd (o := .ins C dx (putF "_lengths" (.ref pL) (putF "_amounts" (.ref tV) (putF "_positions" (.ref tP) (putF "_arrays" (.ref tA) [])))))
    have hA3 := dp_tups t3 _ _ tA1 (dp_mono s3 _ _ hA1)
    have hP3 := dp_tups t3 _ _ tP1 (dp_mono s3 _ _ hP1)
    have hV3 := dp_tups t3 _ _ tV1 (dp_mono s3 _ _ hV1)
    have hp4 : (upd H3 p (.ins C dx (putF "_lengths" (.ref pL) (putF "_amounts" (.ref tV) (putF "_positions" (.ref tP) (putF "_arrays" (.ref tA) [])))))) p = some _ := upd_same
    generalize upd H3 p (.ins C dx (putF "_lengths" (.ref pL) (putF "_amounts" (.ref tV) (putF "_positions" (.ref tP) (putF "_arrays" (.ref tA) []))))) = H4 at *
    clear hp3 t3 s3 dL b1 t1 hp2 hA1 hP1 hV1 hp1
    -- the lengths of the arrays
    have hA4 := hA3
    unfold dA at hA4
    cases hA4 with
    | @tup _ xs _ sa da =>
    have lx : xs.length = P.arrays.length := (dp_len da).trans (List.length_map _)
    refine ⟨_, rfl, tA, rfl, ⟨xs, sa⟩, fun DO hDO => ?_⟩
    have npO : p ≠ DO := ne_of_none hp4 hDO
    refine dc_steady (K := K) (w := w) (steady_tup (K := K) (a := tA) (xs := xs)) (fun k H' => Same H4 H' ∧ ∃ B, TabIs K w H' DO B ∧ B.length ≤ k) ⟨same_new hDO, [], ⟨[], upd_same, .nil⟩, Nat.le_refl _⟩ (fun i H' _ h => Tups.same h.1 _ _ sa) (fun i H' hi h => ?_) fun H5 h => ?_
    · obtain ⟨s5, B, ⟨zs, hz, pz⟩, lB⟩ := h
      have hi2 : i < P.arrays.length := by omega
      have na := ok.na
      obtain ⟨u, eu, su⟩ := dA_at da hi2
      refine ⟨u, _, eu, Tups.same s5 _ _ su, rfl, _, _, rfl, _, _, rfl, ⟨rfl, rfl, _, rfl, _, rfl, zs, .text (P.arrays[i]).1, hz, tabR_keys pz, .inl (.inl (.text _)), by rw [sizeLine_eq, ← paired_len pz]; omega, ?_⟩⟩
      have tp : Tups K H' (upd H' DO (MD w DO (putM zs (.text (P.arrays[i]).1) (.str (P.arrays[i]).1) (.str (P.arrays[i]).2)))) := Tups.upd fun u e => by rw [hz] at e; cases e; exact True.intro
      refine ⟨fun b o e => ?_, putN B (.w (P.arrays[i]).1) (.str (P.arrays[i]).2), ⟨_, upd_same, tabR_mono tp (tabR_put (k := .w (P.arrays[i]).1) rfl pz)⟩, ?_⟩
      · rw [upd_ne (ne_of_none e hDO)]
        exact s5 b o e
      · have := len_putN B (.w (P.arrays[i]).1) (.str (P.arrays[i]).2)
        omega
    obtain ⟨s5, _⟩ := h
    have hp5 := s5 _ _ hp4
    have l5 := len_putF "_length_of" (.ref DO) (putF "_lengths" (.ref pL) (putF "_amounts" (.ref tV) (putF "_positions" (.ref tP) (putF "_arrays" (.ref tA) []))))
    refine ⟨_, rfl, p, C, dx, _, rfl, hp5, T.cl, T.nO, by omega, ?_⟩
    have t5 := ins (fs' := putF "_length_of" (.ref DO) (putF "_lengths" (.ref pL) (putF "_amounts" (.ref tV) (putF "_positions" (.ref tP) (putF "_arrays" (.ref tA) []))))) hp5
    have b5 := (b3.same s5).upd (o := .ins C dx (putF "_length_of" (.ref DO) (putF "_lengths" (.ref pL) (putF "_amounts" (.ref tV) (putF "_positions" (.ref tP) (putF "_arrays" (.ref tA) []))))))
    have hA5 := dp_tups t5 _ _ tA1 (dp_mono s5 _ _ hA3)
    have hP5 := dp_tups t5 _ _ tP1 (dp_mono s5 _ _ hP3)
    have hV5 := dp_tups t5 _ _ tV1 (dp_mono s5 _ _ hV3)
    have hp6 : (upd H5 p (.ins C dx (putF "_length_of" (.ref DO) (putF "_lengths" (.ref pL) (putF "_amounts" (.ref tV) (putF "_positions" (.ref tP) (putF "_arrays" (.ref tA) []))))))) p = some _ := upd_same
    generalize upd H5 p (.ins C dx (putF "_length_of" (.ref DO) (putF "_lengths" (.ref pL) (putF "_amounts" (.ref tV) (putF "_positions" (.ref tP) (putF "_arrays" (.ref tA) [])))))) = H6 at *
    -- the kinds
    refine ⟨_, rfl, _, rfl, _, rfl, tA, tP, tV, P, rfl, hA5, hP5, hV5, ok, fun H7 pK s7 nK hK => ?_⟩
    have hp7 := s7 _ _ hp6
    have npK : pK ≠ p := fun e => by rw [e, hp6] at nK; cases nK
    refine ⟨_, rfl, p, C, dx, _, rfl, hp7, T.cl, T.nK, by omega, ?_⟩
    have t7 := ins (fs' := fsF tA tP tV pL DO pK) hp7
    obtain ⟨a1, a2, a3, a4⟩ := fsF_at tA tP tV pL DO pK
    exact q2 _ ((b5.same s7).upd) ⟨ok, dx, _, tA, tP, tV, pK, upd_same, a1, a2, a3, a4, fsF_no tA tP tV pL DO pK, dp_tups t7 _ _ tA1 (dp_mono s7 _ _ hA5), dp_tups t7 _ _ tP1 (dp_mono s7 _ _ hP5), dp_tups t7 _ _ tV1 (dp_mono s7 _ _ hV5), by rw [upd_ne npK]; exact hK⟩
end
end Fc
namespace Fc
open PySem PySem.Spec L2 PyProof.Rows
open PpSet (newSet_ok eval_SetComp compLoopS_any codeAny_compStart_set)
/-! {e for x in xs}, e a text -/
theorem addT_ok {X : Cx} {pins : List (Addr × Obj)} {σ : L2.St} {H : Hp} {s : Shared} {E : Value → Shared → Prop} {D : Addr} {l : List Str} {x : Str} {t : Tok} {Q : Value → Shared → Prop} (I : Inv X pins σ H s) (hD : H D = some (SetT X.prog X.w D l)) (room : l.length + 1 < scanBound)
    (h : ∀ s', Inv X pins σ (upd H D (SetT X.prog X.w D (addS l x))) s' → Q .none s') : wpAny (model X.prog X.w) X.A (call (.builtin "set.add") [.ref D, .str x t]) Q E s := by
  refine call_set_add (knd := strKind X.prog X.w) (k := x) (strKind_is _ _ _ _) rfl (I.hok D _ hD).1 room fun h' sb new => ?_
  have new2 : h'.SetOf (strKind X.prog X.w) D (fun k => decide (k ∈ addS l x)) (addS l x).length := setOf_to new (fun k => by
    rw [Bool.eq_iff_iff, Bool.or_eq_true, decide_eq_true_iff, decide_eq_true_iff, decide_eq_true_iff, mem_addS]) (addS_len l x).symm
  have he : ∃ u, h'.get? D = some u := by
    have ⟨o, _, _, _, ho, _⟩ := new2
    exact ⟨o, ho⟩
  exact h _ (I.write (e := D) (t' := s.toks + 1) (by rw [hD]; trivial) (.inl rfl) (fun b u hb hu => (sb.2 b hb).trans hu) he (setT_ok new2))
def tScT (P : Program) (w : World) (wi : TI) (g : TG) (te : TE) (vs : List Nat) : TE := fun σ H Q => wi σ H fun J H1 => ∀ D, H1 D = none → ∃ W : Nat → Nat → Hp → Prop, (∃ m, W 0 m (upd H1 D (SetT P w D []))) ∧ ∀ i m H, W i m H →
  (J.stop i H ∧ Q (.ref D) H) ∨ (J.go i H ∧ ∃ Nx : Hp → Prop, (∀ H', Nx H' → ∃ m', m' < m ∧ W (i + 1) m' H') ∧ ∀ x H', J.yld i H x H' → g x (wipe σ vs) H' fun σ2 H2 => wipe σ2 vs = wipe σ vs ∧
    te σ2 H2 fun y H4 => ∃ x l, y = .str x ∧ H4 D = some (SetT P w D l) ∧ l.length + 1 < scanBound ∧ Nx (upd H4 D (SetT P w D (addS l x))))
theorem setT_fresh {P : Program} (w : World) (h : Heap) : (h.push { cls := .type "set", dict := none, data := .set #[] 0 (.fresh 0 0 (!w.params.followText "set-order")) }).SetOf (strKind P w) h.objs.size (fun k => decide (k ∈ ([] : List Str))) 0 :=
  ⟨_, #[], 0, _, Heap.get?_push_size _ rfl, ⟨rfl, rfl, rfl⟩, rfl, (fun e he => by simp at he), (fun k => by simp), by decide, by rfl, rfl⟩
theorem scT_core {X : Cx} {pins : List (Addr × Obj)} {s : Shared} {σ : L2.St} {H : Hp} {Q : VK} {elt tg iter : Expr} {scope : Scope} {own : List (Str × Nat)} {pos pos' : Pos} {wi : TI} {g : TG} {te : TE} {use : Option (Value → Sem Unit)} {Qf : Value → Shared → Prop} (hc : X.calm = true) (hN : X.N.Nodup) (I : Inv X pins σ H s) (hi : PI X tg iter wi) (ok : BlkOk X.N X.env.scope scope own)
    (hg : ∀ (s : Shared) (H : Hp) (C : Addr) (cl : List (Str × Addr)) (fp : List Addr), PG (X.blk s H scope (compEnvC scope cl C X.env) fp) tg g)
    (he : ∀ (s : Shared) (H : Hp) (C : Addr) (cl : List (Str × Addr)) (fp : List Addr), PE (X.blk s H scope (compEnvC scope cl C X.env) fp) elt te) (hs : ∀ x, foldedSetIterable iter X.env x = pure x)
    (h : tScT X.prog X.w wi g te (own.map (·.2)) σ H Q)
    (hRR : ∀ D C s' m H', Inv X pins σ H' s' → Q (.ref D) H' → s'.heap.Ns C m → FpOk X pins H' C → compPost (model X.prog X.w) X.A X.xe use Qf (.ref D) C (.ok .next) s') :
    wpAny (model X.prog X.w) X.A (comprehension (.SetComp elt [⟨tg, iter, [], 0⟩] scope pos) scope X.env pos' (newSet (.type "set")) false (eval iter X.env) use) Qf X.xe s := by
  have frees : ∀ y ∈ scope.names, y.2 = .free → ∃ c, X.env.cells.lookup y.1 = some c := fun y hy e => (ok.free y hy e).elim (fun k => I.ok.has _ (.inl k)) fun k => I.ok.has _ (.inr k)
  refine wpAny_comprehension_free (use := use) rfl hs (closure_ok frees) ok.kind (fun y hy e => by rw [ok.uniq y hy, e]) (thn (hi.run pins s σ H _ I h) fun xv s1 hx => thn hx fun itv s2 hh => ?_)
  obtain ⟨it, fp, tn, J, H2, e, I2, T, st2, f2, q⟩ := hh
  subst e
  refine newSet_ok (newEnv_comp ?_)
  have hDn : H2 s2.heap.objs.size = none := I2.hok.fresh (Nat.le_refl _)
  generalize eo : ({ cls := .type "set", dict := none, data := .set #[] 0 (.fresh 0 0 (!X.w.params.followText "set-order")) } : Obj) = ob
  have new : Inv X pins σ (upd H2 s2.heap.objs.size (SetT X.prog X.w s2.heap.objs.size [])) { s2 with heap := s2.heap.push ob } := by
    rw [← eo]
    exact I2.laid (t' := s2.toks) (fun b o e => Heap.get?_push_of_some _ e) (Nat.le_refl _) (setT_ok (setT_fresh X.w s2.heap))
  obtain ⟨W, ⟨m0, w0⟩, turn⟩ := q s2.heap.objs.size hDn
  have old : ∀ b ∈ fp, b < s2.heap.objs.size := fun b hb => let ⟨o, e, _⟩ := T.obj _ _ st2 b hb; Heap.lt_size e
  have f3 : ∀ b ∈ fp, FpOk X pins (upd H2 s2.heap.objs.size (SetT X.prog X.w s2.heap.objs.size [])) b ∧ b < (s2.heap.push ob).objs.size := fun b hb =>
    ⟨⟨by rw [upd_ne (Nat.ne_of_lt (old b hb))]; exact (f2 b hb).1, (f2 b hb).2⟩, by rw [Heap.size_push]; exact Nat.lt_succ_of_lt (old b hb)⟩
  have st3 : tn 0 (s2.heap.push ob) := T.keep _ _ _ st2 fun b _ o e => Heap.get?_push_of_some _ e
  generalize eD : s2.heap.objs.size = D at *
  generalize e3 : ({ s2 with heap := s2.heap.push ob } : Shared) = s3 at *
  have h3 : s3.heap = s2.heap.push ob := by rw [← e3]
  rw [← h3] at f3 st3
  have B := block_start new ok hN f3
  have pg := hg s3 (upd H2 D (SetT X.prog X.w D [])) s3.heap.objs.size (cellsFrom (s3.heap.objs.size + 1) scope.names (cloFrom X.env.cells scope.names [])) fp
  have pk := he s3 (upd H2 D (SetT X.prog X.w D [])) s3.heap.objs.size (cellsFrom (s3.heap.objs.size + 1) scope.names (cloFrom X.env.cells scope.names [])) fp
  change codeAny _ _ (.compStart (.SetComp elt [⟨tg, iter, [], 0⟩] scope pos) 0 (.ref it) (.ref D) (compEnvC scope (cellsFrom (s3.heap.objs.size + 1) scope.names (cloFrom X.env.cells scope.names [])) s3.heap.objs.size X.env))
    (compPost (model X.prog X.w) X.A X.xe use Qf (.ref D) s3.heap.objs.size) { s3 with heap := pushCells (s3.heap.push { cls := .type "dict", data := .dict #[] }) scope.names }
  generalize ec : compEnvC scope (cellsFrom (s3.heap.objs.size + 1) scope.names (cloFrom X.env.cells scope.names [])) s3.heap.objs.size X.env = ce at B pg pk ⊢
  have el : ce.locals = s3.heap.objs.size := by rw [← ec]; rfl
  generalize eH : upd H2 D (SetT X.prog X.w D []) = H3 at new B pg pk w0 f3
  have nfp : ∀ b ∈ fp, H3 b = none := fun b hb => (f3 b hb).1.1
  generalize es4 : ({ s3 with heap := pushCells (s3.heap.push { cls := .type "dict", data := .dict #[] }) scope.names } : Shared) = s4 at B ⊢
  have st4 : tn 0 s4.heap := T.keep _ _ _ st3 fun b _ o e => by rw [← es4]; exact pushCells_keeps _ _ _ _ (Heap.get?_push_of_some _ e)
  have stat : ∀ {τ : L2.St} {G : Hp} {r : Shared}, Inv (X.blk s3 H3 scope ce fp) [] τ G r → (∀ b ∈ fp, G b = none) → ∀ b ∈ fp, FpOk (X.blk s3 H3 scope ce fp) [] G b := fun {τ G r} J' hn b hb =>
    ⟨hn b hb, (J'.ok.exf b hb).1, J'.ok.exfs b hb, .inl hb, fun x c e => (J'.ok.exf b hb).2 x c e, fun p hp => absurd (show p ∈ ([] : List (Addr × Obj)) ++ [] from hp) (by simp)⟩
  have loop : codeAny (model X.prog X.w) X.A (.compLoop (.SetComp elt [⟨tg, iter, [], 0⟩] scope pos) 0 (.ref it) (.ref D) ce) (compPost (model X.prog X.w) X.A X.xe use Qf (.ref D) s3.heap.objs.size) s4 := by
    refine compLoopS_any (fun n r => ∃ i G, Inv (X.blk s3 H3 scope ce fp) [] (wipe σ (own.map (·.2))) G r ∧ tn i r.heap ∧ (∀ b ∈ fp, G b = none) ∧ W i n G) ?_ m0 ⟨0, H3, B, st4, nfp, w0⟩
    rintro n s5 ⟨i, H5, I5, st5, n5, w5⟩
    rcases turn i n H5 w5 with ⟨halt, qq⟩ | ⟨go, Nx, hNx, step⟩
    · refine thnF (T.done (X.blk s3 H3 scope ce fp) rfl rfl rfl hc i [] s5 _ H5 (fun _ _ => False) I5 (stat I5 n5) st5 halt) fun r s6 ⟨hr, I6⟩ => ?_
      subst hr
      have I7 : Inv X pins σ H5 s6 := new.call' (ch := fp) I6.os I6.base I6.hok I6.bare fun b hb => ⟨(f3 b hb).1.2.2.2.1, (f3 b hb).1.2.1, (f3 b hb).1.2.2.2.2.1, (f3 b hb).1.2.2.2.2.2⟩
      have z : H5 ce.locals = none := I6.free
      obtain ⟨m, hn, _⟩ := I6.loc
      replace hn : s6.heap.Ns ce.locals m := hn
      rw [el] at z hn
      exact hRR D s3.heap.objs.size s6 m H5 I7 qq hn (new.fpOk (Nat.le_refl _) z)
    · refine thnF (T.item (X.blk s3 H3 scope ce fp) rfl rfl rfl hc i [] s5 _ H5 (fun _ _ => False) I5 (stat I5 n5) st5 go) fun r s6 ⟨u, hr, h6⟩ => ?_
      subst hr
      refine thnF h6 fun _ s7 got => ?_
      obtain ⟨x, H7, I7, r7, y7, st7, n7⟩ := got
      refine thnF (pg.run _ s7 _ H7 x u _ (I7.pinned (stat I7 n7) (T.obj _ _ st7)) r7 (step x H7 y7)) fun _ s8 ⟨σ8, H8, I8, hw8, q8⟩ => ?_
      refine wpAny_pure ?_
      simp only [if_true]
      refine thnF (pk.run _ s8 σ8 H8 _ I8 q8) fun kz s10 ⟨yk, H10, I10, r10, xt, l, ey, hD10, hz10, nx⟩ => ?_
      subst ey
      obtain ⟨tk, rfl⟩ := (show ∃ tk, kz = Value.str xt tk from r10)
      refine addT_ok (X := X.blk s3 H3 scope ce fp) I10 hD10 hz10 fun s11 I12 => ?_
      obtain ⟨m', hm, w'⟩ := hNx _ nx
      have pin' : ∀ b ∈ fp, ∀ o, s7.heap.get? b = some o → s11.heap.get? b = some o ∧ (upd H10 D (SetT X.prog X.w D (addS l xt))) b = none := fun b hb o e =>
        let z := I12.pin (b, o) (List.mem_append_right _ (List.mem_append_right _ (mem_pinsAt hb e)))
        ⟨z.1, z.2.1⟩
      refine ⟨m', hm, i + 1, _, (I12.unpinned (pins := [])).weak (by rw [← hw8, wipe_length]) (fun j v e => ?_), T.keep _ _ _ st7 fun b hb o e => (pin' b hb o e).1, fun b hb => ?_, w'⟩
      · rw [← hw8] at e
        exact (wipe_some e).1
      · obtain ⟨o, e, _⟩ := T.obj _ _ st7 b hb
        exact (pin' b hb o e).2
  exact codeAny_compStart_set loop (T.self X.A 0 _ _ _ st4 loop)
theorem pe_scT {X : Cx} {elt tg iter : Expr} {scope : Scope} {own : List (Str × Nat)} {pos : Pos} {wi : TI} {g : TG} {te : TE} (hc : X.calm = true) (hN : X.N.Nodup) (hi : PI X tg iter wi) (ok : BlkOk X.N X.env.scope scope own)
    (hg : ∀ (s : Shared) (H : Hp) (C : Addr) (cl : List (Str × Addr)) (fp : List Addr), PG (X.blk s H scope (compEnvC scope cl C X.env) fp) tg g)
    (he : ∀ (s : Shared) (H : Hp) (C : Addr) (cl : List (Str × Addr)) (fp : List Addr), PE (X.blk s H scope (compEnvC scope cl C X.env) fp) elt te) (hs : ∀ x, foldedSetIterable iter X.env x = pure x := by intro _; rfl) :
    PE X (.SetComp elt [⟨tg, iter, [], 0⟩] scope pos) (tScT X.prog X.w wi g te (own.map (·.2))) := by
  refine ⟨fun pins s σ H Q I h => ?_⟩
  rw [eval_SetComp]
  refine scT_core hc hN I hi ok hg he hs h fun D C s' m H' I' q hn f => ⟨m, hn, fun h2 sb => ?_⟩
  obtain ⟨a0, a1, a2, a3, a4, a5⟩ := f
  exact ⟨.ref D, H', I'.turned (t' := s'.toks) (fun b o hb e => (sb.2 b hb).trans e) a0 a1 a3 a4 a5, rfl, q⟩
theorem sc_steady {P : Program} {w : World} {J : It} {n : Nat} {it : Nat → V} {G : Hp → Prop} (S : Steady J n it G) {g : TG} {te : TE} {vs : List Nat} {σ : L2.St} {H1 : Hp} {D : Addr} {Qd : Hp → Prop} (Pv : Nat → Hp → Prop) (h0 : Pv 0 (upd H1 D (SetT P w D []))) (hl : ∀ i H, i ≤ n → Pv i H → G H)
    (hs : ∀ i H, i < n → Pv i H → g (it i) (wipe σ vs) H fun σ2 H2 => wipe σ2 vs = wipe σ vs ∧ te σ2 H2 fun y H4 => ∃ x l, y = .str x ∧ H4 D = some (SetT P w D l) ∧ l.length + 1 < scanBound ∧ Pv (i + 1) (upd H4 D (SetT P w D (addS l x))))
    (hd : ∀ H, Pv n H → Qd H) : ∃ W : Nat → Nat → Hp → Prop, (∃ m, W 0 m (upd H1 D (SetT P w D []))) ∧ ∀ i m H, W i m H →
      (J.stop i H ∧ Qd H) ∨ (J.go i H ∧ ∃ Nx : Hp → Prop, (∀ H', Nx H' → ∃ m', m' < m ∧ W (i + 1) m' H') ∧ ∀ x H', J.yld i H x H' → g x (wipe σ vs) H' fun σ2 H2 => wipe σ2 vs = wipe σ vs ∧
        te σ2 H2 fun y H4 => ∃ x l, y = .str x ∧ H4 D = some (SetT P w D l) ∧ l.length + 1 < scanBound ∧ Nx (upd H4 D (SetT P w D (addS l x)))) := by
  refine ⟨fun i m H => m + i = n ∧ Pv i H, ⟨n, rfl, h0⟩, fun i m H ⟨e, p⟩ => ?_⟩
  by_cases c : i = n
  · subst c
    exact .inl ⟨S.stop _ (hl _ _ (Nat.le_refl _) p), hd _ p⟩
  · have lt : i < n := by omega
    have q := hl i H (Nat.le_of_lt lt) p
    refine .inr ⟨S.go i H q lt, Pv (i + 1), fun H' p' => ⟨m - 1, by omega, by omega, p'⟩, fun x H' y => ?_⟩
    obtain ⟨e1, e2⟩ := S.yld i H x H' q lt y
    rw [e1, e2]
    exact hs i H lt p
end Fc
namespace Fc
open PySem L2 PyProof.Rows
def keyAt (ks : List (Str × Str)) (i : Nat) : Str := (ks.getD i (Str.empty, Str.empty)).1
theorem steady_itk {d : Addr} {o : Obj} {ks : List (Str × Str)} : Steady (Itk d o (kvK ks)) ks.length (fun i => .str (keyAt ks i)) (fun H => H d = some (.frz o (.dK (kvK ks)))) where
  go := fun i H h hi => ⟨h, by unfold kvK; rw [List.length_map]; exact hi⟩
  stop := fun H h => ⟨h, by unfold kvK; rw [List.length_map]; exact Nat.le_refl _⟩
  yld := fun i H x H' h hi y => by
    obtain ⟨e1, k, v, e2, e3⟩ := y
    unfold kvK at e2
    rw [List.getElem?_map, List.getElem?_eq_getElem hi] at e2
    cases e2
    refine ⟨e1, e3.trans ?_⟩
    show V.str _ = V.str _
    unfold keyAt
    rw [List.getD_eq_getElem?_getD, List.getElem?_eq_getElem hi]
    rfl
theorem keyAt_get {ks : List (Str × Str)} {i : Nat} (h : i < ks.length) : keyAt ks i = (ks[i]).1 := by
  unfold keyAt
  rw [List.getD_eq_getElem?_getD, List.getElem?_eq_getElem h]
  rfl
/-- the other name of x -/
def ren (ns : List (Str × Str)) (x : Str) : Str := (kindOf ns x).getD x
def renP (ns : List (Str × Str)) (P : Pa) : Pa := ⟨P.arrays.map fun e => (ren ns e.1, ren ns e.2), P.pos.map (ren ns), P.vals.map (ren ns)⟩
/-- other names for some -/
structure RenOk (P : Pa) (ns : List (Str × Str)) : Prop where
  len : ns.length ≤ 60
  nd : (ns.map (·.1)).Nodup
  key : ∀ e ∈ ns, e.1 ∈ namesL P
  val : ∀ e ∈ ns, isNameS e.2 = true ∧ e.2.length ≤ 1000
def renB (P : Pa) (ns : List (Str × Str)) : Bool := decide ((namesL P).map (ren ns)).Nodup
def spRen (K : PySem.W.Frag) (w : World) : Sp := fun vs H Q _ => ∃ a d P ns, vs = [.ref a, .ref d] ∧ H a = some (.dK (kvK (kindsL P))) ∧ H d = some (.dK (kvK ns)) ∧ a ≠ d ∧ PaOk P ∧ RenOk P ns ∧ ∀ H', Same H H' → Q (.bl (renB P ns)) H'
theorem once_count2 (xs : List Str) (n : Nat) (h : xs.length = n) : decide (V.int ((onceS xs).length : Int) = V.int (n : Int)) = decide xs.Nodup := by
  subst h
  rw [← once_count (ws := xs) (ns := xs) fun x => Iff.rfl]
  exact decide_eq_decide.mpr ⟨Eq.symm, Eq.symm⟩
theorem kindOf_at {ns : List (Str × Str)} (nd : (ns.map (·.1)).Nodup) {i : Nat} (h : i < ns.length) : kindOf ns (ns[i]).1 = some (ns[i]).2 := (kind_find ns nd _ _).mpr (List.getElem_mem h)
theorem valK_at (ns : List (Str × Str)) (x : Str) : valV (kvK ns) (.inr x) = (kindOf ns x).map V.str := by
  unfold valV kvK kindOf
  induction ns with
  | nil => rfl
  | cons e ks ih =>
    rw [List.map_cons, List.find?_cons, List.find?_cons]
    by_cases c : e.1 = x
    · rw [decide_eq_true (by rw [c]), decide_eq_true c]; rfl
    · rw [decide_eq_false (fun q => c (Sum.inr.inj q)), decide_eq_false c]
      exact ih
section
variable {K : PySem.W.Frag} {mg : Str → Option Value} {base : Heap} {P' : Program} {w : World}
abbrev n31 : List Str := ["kinds", "names", "word"]
end
end Fc
namespace Fc
open PySem L2 PyProof.Rows
theorem cat_dp {K : PySem.W.Frag} {H : Hp} {t u : Addr} {ds es : List PyData} {Q : VK} (h1 : Dp K H (.ref t) (.tuple ds)) (h2 : Dp K H (.ref u) (.tuple es)) (hl : ds.length + es.length ≤ 1000) (q : ∀ H' p, Same H H' → Dp K H' (.ref p) (.tuple (ds ++ es)) → Q (.ref p) H') : rCatA K (.ref t) (.ref u) H Q := by
  cases h1 with
  | @tup _ xs _ sx dx =>
  cases h2 with
  | @tup _ ys _ sy dy =>
  have lx := dp_len dx
  have ly := dp_len dy
  refine ⟨t, u, xs, ys, rfl, rfl, sx, sy, by rw [sizeLine_eq]; omega, fun e => ?_, fun _ e => ?_, fun _ _ p hp => ?_⟩
  · subst e
    cases dx
    exact q H u (Same.refl H) (.tup sy dy)
  · subst e
    cases dy
    rw [List.append_nil] at q
    exact q H t (Same.refl H) (.tup sx dx)
  · have s := same_new (o := .tup (xs ++ ys)) hp
    exact q _ p s (.tup (.inl (.inl upd_same)) (dps_app (dps_mono s _ _ dx) (dps_mono s _ _ dy)))
theorem cat_dA {K : PySem.W.Frag} {H : Hp} {t u : Addr} {as bs : List (Str × Str)} {Q : VK} (h1 : Dp K H (.ref t) (dA as)) (h2 : Dp K H (.ref u) (dA bs)) (hl : as.length + bs.length ≤ 1000) (q : ∀ H' p, Same H H' → Dp K H' (.ref p) (dA (as ++ bs)) → Q (.ref p) H') : rCatA K (.ref t) (.ref u) H Q :=
  cat_dp h1 h2 (by rw [List.length_map, List.length_map]; exact hl) fun H' p s d => q H' p s (by unfold dA; rw [List.map_append]; exact d)
theorem cat_dS {K : PySem.W.Frag} {H : Hp} {t u : Addr} {as bs : List Str} {Q : VK} (h1 : Dp K H (.ref t) (dS as)) (h2 : Dp K H (.ref u) (dS bs)) (hl : as.length + bs.length ≤ 1000) (q : ∀ H' p, Same H H' → Dp K H' (.ref p) (dS (as ++ bs)) → Q (.ref p) H') : rCatA K (.ref t) (.ref u) H Q :=
  cat_dp h1 h2 (by rw [List.length_map, List.length_map]; exact hl) fun H' p s d => q H' p s (by unfold dS; rw [List.map_append]; exact d)
/-- frames are made by the text's __init__ -/
structure MkFr (P : Program) (w : World) (K : PySem.W.Frag) (mg : Str → Option Value) (base : Heap) (C Cf : Addr) : Prop where
  at_ : ∃ (f : Addr) (fd : FuncData), Mk K C f ∧ FnOk P w K mg base (L2.CX P w) 3 f fd ["self", "arrays", "positions", "values"] (spMake K C Cf) ∧ Binds K fd ["self", "arrays", "positions", "values"] [] ∧ mg "Frame" = some (.ref C)
theorem pe_mkE {X : Cx} {C Cf : Addr} {E : XK} {j : Nat} {p pos : Pos} {e : Expr} {es : List Expr} {t : TA} (M : MkFr X.prog X.w X.K X.mg X.base C Cf) (hr : Room j X.A) (hj : 4 ≤ j) (hg : Gl X "Frame") (hx : Passes (L2.CX X.prog X.w) X E) (ha : PA X (e :: es) t)
    (he : starEach (e :: es) X.env = (false, eval e X.env) :: starEach es X.env := by rfl) (hpl : (backTo pos (starEach es X.env)).any (·.1) = false := by rfl) : PE X (.Call (.Name "Frame" p) (e :: es) [] pos) (tMake C (spMake X.K C Cf) [] E t) := by
  obtain ⟨f, fd, mk, F, b, hm⟩ := M.at_
  exact pe_make (p := p) (pos := pos) (E := E) mk F (hr.mono hj) hg hm b .nil hx ha (by decide) he hpl
theorem mk_i {K : PySem.W.Frag} {C Cf tA tP tV : Addr} {H1 : Hp} {Q : VK} {E : XK} (P : Pa) (hA : Dp K H1 (.ref tA) (dA P.arrays)) (hP : Dp K H1 (.ref tP) (dS P.pos)) (hV : Dp K H1 (.ref tV) (dS P.vals)) (nm : PaNm P) (q1 : okB P = false → ∀ H', Same H1 H' → E (.ref Cf) none H')
    (q2 : okB P = true → ∀ H' p, Same H1 H' → H1 p = none → FrAt K C H' p P → Q (.ref p) H') : ∀ x dx, H1 x = none → H1 dx = none → dx ≠ x →
      spMake K C Cf (.ref x :: ([.ref tA, .ref tP, .ref tV] ++ [])) (upd (upd H1 dx (.own x)) x (.ins C dx [])) (fun v H2 => v = .non ∧ Q (.ref x) H2) E := fun x dx nx nd ne => by
  have s1 : Same H1 (upd (upd H1 dx (.own x)) x (.ins C dx [])) := fun b o e => by rw [upd_ne (ne_of_none e nx), upd_ne (ne_of_none e nd)]; exact e
  refine ⟨x, dx, tA, tP, tV, P, rfl, upd_same, dp_mono s1 _ _ hA, dp_mono s1 _ _ hP, dp_mono s1 _ _ hV, nm, fun e H' s => q1 e H' (s1.trans s), fun e H' b fr => ⟨rfl, q2 e H' x (fun c o ec => b c o (ne_of_none ec nx) (s1 c o ec)) nx fr⟩⟩
def spWith (K : PySem.W.Frag) (C Cf : Addr) : Sp := fun vs H Q E => ∃ (p tA tP tV : Addr) (P P2 : Pa), vs = [.ref p, .ref tA, .ref tP, .ref tV] ∧ FrAt K C H p P ∧ Dp K H (.ref tA) (dA P2.arrays) ∧ Dp K H (.ref tP) (dS P2.pos) ∧ Dp K H (.ref tV) (dS P2.vals) ∧ PaNm ⟨P.arrays ++ P2.arrays, P.pos ++ P2.pos, P.vals ++ P2.vals⟩ ∧
  (okB ⟨P.arrays ++ P2.arrays, P.pos ++ P2.pos, P.vals ++ P2.vals⟩ = false → ∀ H', Same H H' → E (.ref Cf) none H') ∧ (okB ⟨P.arrays ++ P2.arrays, P.pos ++ P2.pos, P.vals ++ P2.vals⟩ = true → ∀ H' p', Same H H' → FrAt K C H' p' ⟨P.arrays ++ P2.arrays, P.pos ++ P2.pos, P.vals ++ P2.vals⟩ → Q (.ref p') H')
section
variable {K : PySem.W.Frag} {mg : Str → Option Value} {base : Heap} {P : Program} {w : World}
abbrev nM11 : List Str := ["self", "arrays", "positions", "values", "more"]
end
end Fc
namespace Fc
open PySem L2 PyProof.Rows
/-- [e for .. in ..], any target, no test -/
theorem lc_map {K : PySem.W.Frag} {J : It} {n : Nat} {it : Nat → V} {G : Hp → Prop} {g : TG} {te : TE} {vs : List Nat} {σ : L2.St} {H1 : Hp} {D : Addr} {Qd : Hp → Prop} (Rl : Hp → Nat → V → Prop) (S : Steady J n it G) (hm : Kept K Rl) (hG : ∀ H, Same H1 H → G H) (hl : n ≤ 5000) (hD : H1 D = none)
    (hv : ∀ k H (Q : VK), k < n → Same H1 H → (∀ H' y, Same H H' → Rl H' k y → Q y H') → g (it k) (wipe σ vs) H fun σ2 H2 => wipe σ2 vs = wipe σ vs ∧ te σ2 H2 Q)
    (hd : ∀ H' ys, Same H1 H' → H' D = some (.lst ys) → Paired (Rl H') (List.range n) ys → Qd H') :
    ∃ W : Nat → Nat → Hp → Prop, (∃ m, W 0 m (upd H1 D (.lst []))) ∧ ∀ i m H, W i m H → (J.stop i H ∧ Qd H) ∨
      (J.go i H ∧ ∃ Nx : Hp → Prop, (∀ H', Nx H' → ∃ m', m' < m ∧ W (i + 1) m' H') ∧ ∀ x H', J.yld i H x H' → g x (wipe σ vs) H' fun σ2 H2 => wipe σ2 vs = wipe σ vs ∧ tYes σ2 H2 fun b H3 =>
        if b = true then te σ2 H3 fun y H4 => ∃ acc, H4 D = some (.lst acc) ∧ acc.length < sizeLine ∧ Nx (upd H4 D (.lst (acc ++ [y]))) else Nx H3) := by
  refine lc_steady S (fun k H => Same H1 H ∧ ∃ ys, H D = some (.lst ys) ∧ Paired (Rl H) (List.range k) ys) ⟨same_new hD, [], upd_same, .nil⟩ (fun _ _ _ h => hG _ h.1) (fun k H hk h => ?_) fun H h => ?_
  · obtain ⟨sm, ys, hy, pp⟩ := h
    have er : List.range (k + 1) = List.range k ++ [k] := List.range_succ
    have ly : ys.length = k := by rw [← paired_len pp, List.length_range]
    exact hv k H _ hk sm fun H' y sm' rl => ⟨ys, sm' _ _ hy, by rw [sizeLine_eq]; omega, by
      have tp : Tups K H' (upd H' D (.lst (ys ++ [y]))) := Tups.upd fun u e => by rw [sm' _ _ hy] at e; cases e; exact True.intro
      refine ⟨fun a o ha => by rw [upd_ne (ne_of_none ha hD)]; exact sm' _ _ (sm a o ha), _, upd_same, ?_⟩
      rw [er]
      exact paired_snoc (Paired.mapP pp fun a v h => hm _ _ _ _ ((Tups.same sm').trans tp) h) (hm _ _ _ _ tp rl)⟩
  · exact hd H h.2.choose h.1 h.2.choose_spec.1 h.2.choose_spec.2
theorem range_map {α β : Type} {l : List α} {n : Nat} (hn : n = l.length) {f : Nat → β} {h : α → β} (e : ∀ (i : Nat) (hi : i < l.length), f i = h l[i]) : (List.range n).map f = l.map h := by
  subst hn
  apply List.ext_getElem (by simp)
  intro i h1 h2
  simp only [List.getElem_map, List.getElem_range]
  exact e i (by simpa using h2)
/-- the frame's table of kinds is another one than d -/
def Apart (C : Addr) (H : Hp) (p d : Addr) : Prop := ∀ dx fs aK, H p = some (.ins C dx fs) → fs.lookup ("_kinds" : Str) = some (.ref aK) → aK ≠ d
theorem FrAt.apart {K : PySem.W.Frag} {C : Addr} {H H' : Hp} {p d : Addr} {P : Pa} (h : FrAt K C H p P) (hd : H d = none) (s : Same H H') : Apart C H' p d := fun dx fs aK e1 e2 => by
  obtain ⟨ok, dx', fs', tA, tP, tV, aK', h1, h2, h3, h4, h5, h6, h7, h8, h9, h10⟩ := h
  rw [s _ _ h1] at e1
  cases e1
  rw [h5] at e2
  cases e2
  exact ne_of_none h10 hd
def spRename (K : PySem.W.Frag) (w : World) (C Co : Addr) : Sp := fun vs H Q E => ∃ p d P ns, vs = [.ref p, .ref d] ∧ FrAt K C H p P ∧ H d = some (.dK (kvK ns)) ∧ Apart C H p d ∧ RenOk P ns ∧
  (renB P ns = false → ∀ H', Same H H' → E (.ref Co) none H') ∧ (renB P ns = true → ∀ H' p', Same H H' → FrAt K C H' p' (renP ns P) → Q (.ref p') H')
theorem ren_lens (ns : List (Str × Str)) (as : List (Str × Str)) (inj : ∀ x ∈ lensOf as, ∀ y ∈ lensOf as, ren ns x = ren ns y → x = y) : lensOf (as.map fun e => (ren ns e.1, ren ns e.2)) = (lensOf as).map (ren ns) := by
  rw [lens_once, lens_once, List.map_map]
  rw [lens_once] at inj
  have g : ∀ (xs l : List Str), (∀ x ∈ l ++ xs, ∀ y ∈ l ++ xs, ren ns x = ren ns y → x = y) → (xs.map (ren ns)).foldl addS (l.map (ren ns)) = (xs.foldl addS l).map (ren ns) := by
    intro xs
    induction xs with
    | nil => intro l _; rfl
    | cons x xs ih =>
      intro l inj
      rw [List.map_cons, List.foldl_cons, List.foldl_cons]
      have hx : x ∈ l ++ x :: xs := List.mem_append_right _ List.mem_cons_self
      have e1 : addS (l.map (ren ns)) (ren ns x) = (addS l x).map (ren ns) := by
        unfold addS
        by_cases c : x ∈ l
        · rw [if_pos c, if_pos (List.mem_map.mpr ⟨x, c, rfl⟩)]
        · rw [if_neg c, if_neg, List.map_append]
          · rfl
          · intro q
            obtain ⟨y, hy, e⟩ := List.mem_map.mp q
            exact c (inj y (List.mem_append_left _ hy) x hx e ▸ hy)
      rw [e1]
      refine ih (addS l x) fun a ha b hb => inj a ?_ b ?_
      · rcases List.mem_append.mp ha with h | h
        · rcases mem_addS.mp h with h | rfl
          · exact List.mem_append_left _ h
          · exact hx
        · exact List.mem_append_right _ (List.mem_cons_of_mem _ h)
      · rcases List.mem_append.mp hb with h | h
        · rcases mem_addS.mp h with h | rfl
          · exact List.mem_append_left _ h
          · exact hx
        · exact List.mem_append_right _ (List.mem_cons_of_mem _ h)
  have := g (as.map (·.2)) [] (fun x hx y hy => inj x (mem_onceS.mpr (by simpa using hx)) y (mem_onceS.mpr (by simpa using hy)))
  rw [List.map_map] at this
  exact this
/-- all names stay different: then there is a frame -/
theorem ren_ok {P : Pa} {ns : List (Str × Str)} (ok : PaOk P) (ro : RenOk P ns) (h : renB P ns = true) : PaNm (renP ns P) ∧ okB (renP ns P) = true ∧ namesL (renP ns P) = (namesL P).map (ren ns) := by
  have nd : ((namesL P).map (ren ns)).Nodup := of_decide_eq_true h
  have inj : ∀ x ∈ namesL P, ∀ y ∈ namesL P, ren ns x = ren ns y → x = y := by
    have g : ∀ l : List Str, (l.map (ren ns)).Nodup → ∀ x ∈ l, ∀ y ∈ l, ren ns x = ren ns y → x = y := by
      intro l
      induction l with
      | nil => intro _ x hx; cases hx
      | cons z l ih =>
        intro nd x hx y hy e
        rw [List.map_cons, List.nodup_cons] at nd
        rcases List.mem_cons.mp hx with rfl | hx
        · rcases List.mem_cons.mp hy with rfl | hy
          · rfl
          · exact (nd.1 (List.mem_map.mpr ⟨y, by assumption, e.symm⟩)).elim
        · rcases List.mem_cons.mp hy with rfl | hy
          · exact (nd.1 (List.mem_map.mpr ⟨x, by assumption, e⟩)).elim
          · exact ih nd.2 x hx y hy e
    exact g _ nd
  have lens := ren_lens ns P.arrays fun x hx y hy e => inj x (by unfold namesL; simp [hx]) y (by unfold namesL; simp [hy]) e
  have en : namesL (renP ns P) = (namesL P).map (ren ns) := by
    unfold namesL renP
    rw [lens]
    simp only [List.map_append, List.map_map]
    rfl
  have nm : ∀ x ∈ namesL P, isNameS (ren ns x) = true ∧ (ren ns x).length ≤ 1000 := fun x hx => by
    unfold ren
    cases e : kindOf ns x with
    | none =>
      have h1 := ok.nm x hx
      refine ⟨h1, ?_⟩
      show x.length ≤ 1000
      unfold isNameS at h1
      simp only [Bool.and_eq_true, decide_eq_true_iff] at h1
      omega
    | some y => exact ro.val (x, y) ((kind_find ns ro.nd x y).mp e)
  have na := ok.na
  have np := ok.np
  have nv := ok.nv
  refine ⟨⟨by unfold renP; rw [List.length_map]; omega, by unfold renP; rw [List.length_map]; omega, by unfold renP; rw [List.length_map]; omega, fun x hx => ?_⟩, ?_, en⟩
  · have h1 := words_mem.mp hx
    rw [en] at h1
    obtain ⟨y, hy, rfl⟩ := List.mem_map.mp h1
    exact nm y hy
  · unfold okB
    rw [en]
    simp only [Bool.and_eq_true, decide_eq_true_iff]
    unfold renP
    simp only [List.length_map]
    exact ⟨na, np, nv, nd⟩
end Fc
namespace Fc
open PySem L2 PyProof.Rows
def e0 : Str × Str := (Str.empty, Str.empty)
theorem getD_at {α : Type} {l : List α} {i : Nat} {d : α} (h : i < l.length) : l.getD i d = l[i] := by
  rw [List.getD_eq_getElem?_getD, List.getElem?_eq_getElem h]; rfl
theorem ren_get (ns : List (Str × Str)) (x : Str) : (valV (kvK ns) (.inr x)).getD (.str x) = .str (ren ns x) := by
  rw [valK_at]
  unfold ren
  cases kindOf ns x <;> rfl
theorem dps_range {K : PySem.W.Frag} {H : Hp} {n : Nat} {f : Nat → PyData} {ys : List V} (h : Paired (fun k y => Dp K H y (f k)) (List.range n) ys) : DpAll K H ys ((List.range n).map f) := pair_dp (pair_via (p := fun d y => Dp K H y d) h)
section
variable {K : PySem.W.Frag} {mg : Str → Option Value} {base : Heap} {P : Program} {w : World}
abbrev nM12 : List Str := ["self", "names", "arrays", "positions", "values", "array", "length", "word"]
end
end Fc
namespace Fc
open PySem L2 PyProof.Rows
/-- a method that the machine itself calls: ==, len, str -/
structure OwnM (P : Program) (w : World) (K : PySem.W.Frag) (mg : Str → Option Value) (base : Heap) (k : Nat) (C : Addr) (name : Str) (sp : Sp) : Prop where
  at_ : ∃ (f : Addr) (fd : FuncData) (ps : List Str), FnOk P w K mg base CX0 k f fd ps sp ∧ PySem.W.findIn K (.ref C) name = some (some (.ref f)) ∧ PySem.W.isFn K (.ref f) = true ∧ Binds K fd ps []
section
variable {X : Cx} {pins : List (Addr × Obj)} {σ : L2.St} {H : Hp} {s : Shared} {k : Nat} {f C : Addr} {fd : FuncData} {ps : List Str} {sp : Sp}
theorem own_call {A : Around} {us : List Value} {vs : List V} {Q : VK} (F : FnOk X.prog X.w X.K X.mg X.base CX0 k f fd ps sp) (hb : Binds X.K fd ps []) (hr : Room k A) (hA : A.frames = X.A.frames) (I : Inv X pins σ H s) (r : Vals vs us) (h : sp vs H Q E0) :
    wpAny (model X.prog X.w) A (call (.ref f) us) (EP X pins σ Q) X.xe s := by
  have hl : us.length = ps.length := by rw [← r.length]; exact F.len _ _ _ _ h
  have b := hb s us I.kIn (by rw [List.append_nil]; exact hl)
  rw [List.append_nil] at b
  have e0 : Env0 X.prog X.w X.K X.mg X.base A X.stack s H := by
    have e := I.env0
    exact ⟨by rw [hA]; exact e.frames, e.mod, e.bs, e.bsz, e.funs, e.frf, e.hok, e.bare⟩
  refine wpAny_call (codeAny_mono (F.run A X.stack s H ⟨us, []⟩ us vs Q E0 hr e0 b r h) fun r s' hq => ?_)
  cases r with
  | error e => exact hq.elim
  | ok fl =>
    cases fl with
    | ret u => exact I.after hq
    | next => exact hq.elim
    | brk => exact hq.elim
    | cont => exact hq.elim
/-- x == y by the own == -/
def rEqO (C : Addr) (sp : Sp) : R2 := fun x y H Q => ∃ a b dx dy fs gs, x = .ref a ∧ y = .ref b ∧ H a = some (.ins C dx fs) ∧ H b = some (.ins C dy gs) ∧ sp [.ref a, .ref b] H (fun v H' => ∃ c, v = .bl c ∧ Q (.bl c) H') E0
theorem op_eqO (M : OwnM X.prog X.w X.K X.mg X.base k C "__eq__" sp) (hr : Room k X.A) : OpR X (compareOp .Eq) (rEqO C sp) := by
  intro pins s σ H x y v u Q I rx ry h
  obtain ⟨a, b, dx, dy, fs, gs, rfl, rfl, ha, hb, hsp⟩ := h
  obtain ⟨f, fd, ps, F, hs, hf, hbd⟩ := M.at_
  cases rx
  cases ry
  obtain ⟨mA, J, _⟩ := ins_get I.hok ha
  obtain ⟨mB, J', _⟩ := ins_get I.hok hb
  obtain ⟨od, J, _⟩ := J.look
  obtain ⟨od', J', _⟩ := J'.look
  obtain ⟨m, hF⟩ := I.fr
  refine PySem.W.cmp_K (op := .Eq) (tb := .ref C) hr.units0 hF I.ok.mod.kin J J'.type (by simp [PySem.W.notFirst]) hs hf ?_
  refine wpAny_mono (own_call (vs := [V.ref a, V.ref b]) F hbd hr rfl I (.cons rfl (.cons rfl .nil)) hsp) (fun r s' q => ?_) fun _ _ e => e
  obtain ⟨z, H', I', rz, c, ez, q⟩ := q
  subst ez
  cases rz
  exact ⟨.bl c, H', I', rfl, q⟩
/-- len(x) by the own __len__ -/
theorem call_lenO (M : OwnM X.prog X.w X.K X.mg X.base k C "__len__" sp) (hr : Room (k + 1) X.A) : CallR X (.builtin "len") (fun xs H Q => ∃ a dx fs, xs = [.ref a] ∧ H a = some (.ins C dx fs) ∧ sp [.ref a] H (fun v H' => ∃ n : Int, v = .int n ∧ (0 ≤ n ∧ n < 2 ^ 63) ∧ Q (.int n) H') E0) := by
  intro pins s σ H xs us Q I r h
  obtain ⟨a, dx, fs, rfl, ha, hsp⟩ := h
  obtain ⟨u, rfl, rx⟩ := vals1 r
  cases rx
  obtain ⟨f, fd, ps, F, hs, hf, hbd⟩ := M.at_
  obtain ⟨mA, J, _⟩ := ins_get I.hok ha
  obtain ⟨od, J, _⟩ := J.look
  obtain ⟨m, hF⟩ := I.fr
  refine PySem.W.len_K hF I.ok.mod.kin J hs hf ?_
  refine wpAny_mono (own_call (vs := [V.ref a]) F hbd hr.in1 rfl I (.cons rfl .nil) hsp) (fun r s' q => ?_) fun _ _ e => e
  obtain ⟨z, H', I', rz, n, ez, hn, q⟩ := q
  subst ez
  obtain ⟨t, rfl⟩ := (show ∃ t, r = Value.int n t from rz)
  exact ⟨hn, .int n, H', I'.tok _, ⟨_, rfl⟩, q⟩
/-- str(x) by the own __str__ -/
theorem call_strO (M : OwnM X.prog X.w X.K X.mg X.base k C "__str__" sp) (hr : Room (k + 2) X.A) : CallR X (.type "str") (fun xs H Q => ∃ a dx fs, xs = [.ref a] ∧ H a = some (.ins C dx fs) ∧ sp [.ref a] H (fun v H' => ∃ x : Str, v = .str x ∧ Q (.str x) H') E0) := by
  intro pins s σ H xs us Q I r h
  obtain ⟨a, dx, fs, rfl, ha, hsp⟩ := h
  obtain ⟨u, rfl, rx⟩ := vals1 r
  cases rx
  obtain ⟨f, fd, ps, F, hs, hf, hbd⟩ := M.at_
  obtain ⟨mA, J, _⟩ := ins_get I.hok ha
  obtain ⟨od, J, _⟩ := J.look
  refine PySem.W.kso_call hr.in1.in1.units0 I.kIn J hs hf ?_
  refine wpAny_mono (own_call (vs := [V.ref a]) F hbd hr.in1.in1 rfl I (.cons rfl .nil) hsp) (fun r s' q => ?_) fun _ _ e => e
  obtain ⟨z, H', I', rz, x, ez, q⟩ := q
  subst ez
  obtain ⟨t, rfl⟩ := (show ∃ t, r = Value.str x t from rz)
  exact ⟨.str x, H', I', ⟨t, rfl⟩, q⟩
end
end Fc
namespace Fc
open PySem PySem.Spec L2 PyProof.Rows
/-! x != y where the class has an own == alone -/
section
variable {prog : Program} {w : World} {A : Around} {E : Value → Shared → Prop} {s : Shared} {K : PySem.W.Frag} {x C f : Addr} {ox : Obj} {od : Option Obj}
theorem bound_slot {name : Str} {id : String} {args : List Value} {Q : Option Value → Shared → Prop} (X : K.In s.heap) (I : PySem.W.InstAt s.heap x ox C od) (hs : PySem.W.findIn K (.ref C) name = some (some (.builtin id)))
    (hb : ∀ self, bindSpecial (.builtin id) self = pure (.builtin id, [self])) (h : wpAny (model prog w) A (call (.builtin id) (.ref x :: args)) (fun v => Q (some v)) E s) : wpAny (model prog w) A (callSpecialIfBound? (.ref x) name args) Q E s := by
  simp only [callSpecialIfBound?, bindSpecialIfBound?]
  refine wpAny_holding (wpAny_bind (wpAny_bind (wpAny_bind (I.type.here ((PySem.W.looks_findIn X hs).here ?_)))))
  refine wpAny_bind (wpAny_askSetting (wpAny_ite ?_))
  have fin : wpAny (model prog w) A (call (.builtin id) ([.ref x] ++ args) >>= fun v => pure (some v)) Q E s := wpAny_bind (wpAny_mono h (fun v s' h' => wpAny_pure h') fun _ _ h' => h')
  split
  · exact wpAny_bind ((PySem.W.Looks.of_pure (hb _)).here (wpAny_pure (by exact fin)))
  · exact wpAny_tryCatch (wpAny_bind ((PySem.W.Looks.of_pure (hb _)).here (wpAny_pure (by exact fin))))
theorem obj_ne {y : Value} {Q : Value → Shared → Prop} (hu : A.in1.units < cLine) (X : K.In s.heap) (I : PySem.W.InstAt s.heap x ox C od) (hm : PySem.W.mroIn K C (.type "object") = some true) (hs : PySem.W.findIn K (.ref C) "__eq__" = some (some (.ref f))) (hf : PySem.W.isFn K (.ref f) = true)
    (h : wpAny (model prog w) A.in1 (call (.ref f) [.ref x, y]) (fun v s' => ∃ b, v = .bool b ∧ Q (.bool (!b)) s') E s) : wpAny (model prog w) A (call (.builtin "object.__ne__") [.ref x, y]) Q E s := by
  refine wpAny_call (codeAny_call_builtin PySem.F.slot_object_ne.plain PySem.F.cmpEntry_ne (PySem.W.check_slot (i := "object.__ne__") (owner := "object") (n := "__ne__") PySem.F.cmpKind_ne PySem.F.cmpSplit_ne (I.type.andThen (PySem.W.looks_mroIn X hm)) (PySem.F.cmpArgs_ne _ _) ?_))
  unfold Builtin.«object.__ne__»
  refine wpAny_bind (m := slotArgs "__ne__" 1 _) (wpAny_pure ?_)
  refine wpAny_bind (m := cRoomFor _ _) (wpAny_cRoomFor hu ?_)
  refine wpAny_bind (m := callSpecialIfBound? (.ref x) (Str.ofString "__eq__") _) (PySem.W.ifBound_K X I hs hf (wpAny_mono h (fun r s' hq => ?_) fun _ _ y => y))
  obtain ⟨b, rfl, hq⟩ := hq
  exact wpAny_bind (m := truthy (.bool b)) (wpAny_truthy_bool (wpAny_pure hq))
theorem ne_K {y : Addr} {Q : Value → Shared → Prop} (hu : A.in1.units < cLine) (hu0 : A.units < cLine) (X : K.In s.heap) (I : PySem.W.InstAt s.heap x ox C od) (hy : PySem.W.Looks (model prog w) s.heap (typeOf (.ref y)) (.ref C)) (hm : PySem.W.mroIn K C (.type "object") = some true)
    (hn : PySem.W.findIn K (.ref C) "__ne__" = some (some (.builtin "object.__ne__"))) (hs : PySem.W.findIn K (.ref C) "__eq__" = some (some (.ref f))) (hf : PySem.W.isFn K (.ref f) = true)
    (h : wpAny (model prog w) A.in1 (call (.ref f) [.ref x, .ref y]) (fun v s' => ∃ b, v = .bool b ∧ Q (.bool (!b)) s') E s) : wpAny (model prog w) A (compareOp .NotEq (.ref x) (.ref y)) Q E s := by
  have one : wpAny (model prog w) A (tryCompare (.ref x) "__ne__" (.ref y)) (fun r s' => ∃ v, r = some v ∧ Q v s') E s := by
    unfold tryCompare
    refine wpAny_bind (bound_slot X I hn PySem.F.slot_object_ne.bind (obj_ne hu X I hm hs hf (wpAny_mono h (fun v s' hv => ?_) fun _ _ e => e)))
    obtain ⟨b, rfl, hq⟩ := hv
    exact ⟨b, rfl, wpAny_pure ⟨_, rfl, hq⟩⟩
  unfold compareOp richCompare
  simp only [oneThing_ref]
  refine wpAny_holding (wpAny_bind (wpAny_cRoomFor hu0 ?_))
  refine wpAny_bind (I.type.here (wpAny_bind (hy.here ?_)))
  rw [show (Value.ref C != Value.ref C) = false from by simp]
  simp only [Bool.false_eq_true, if_false]
  refine wpAny_bind (wpAny_pure ?_)
  simp only [Bool.false_eq_true, if_false]
  refine wpAny_bind (wpAny_mono one (fun r s' z => ?_) fun _ _ e => e)
  obtain ⟨v, rfl, hq⟩ := z
  exact wpAny_pure hq
end
/-- what the text says of the class besides its == -/
structure NeTxt (K : PySem.W.Frag) (C : Addr) : Prop where
  m : PySem.W.mroIn K C (.type "object") = some true
  n : PySem.W.findIn K (.ref C) "__ne__" = some (some (.builtin "object.__ne__"))
def rNeO (C : Addr) (sp : Sp) : R2 := fun x y H Q => ∃ a b dx dy fs gs, x = .ref a ∧ y = .ref b ∧ H a = some (.ins C dx fs) ∧ H b = some (.ins C dy gs) ∧ sp [.ref a, .ref b] H (fun v H' => ∃ c, v = .bl c ∧ Q (.bl (!c)) H') E0
theorem op_neO {X : Cx} {k : Nat} {C : Addr} {sp : Sp} (M : OwnM X.prog X.w X.K X.mg X.base k C "__eq__" sp) (N : NeTxt X.K C) (hr : Room (k + 1) X.A) : OpR X (compareOp .NotEq) (rNeO C sp) := by
  intro pins s σ H x y v u Q I rx ry h
  obtain ⟨a, b, dx, dy, fs, gs, rfl, rfl, ha, hb, hsp⟩ := h
  obtain ⟨f, fd, ps, F, hs, hf, hbd⟩ := M.at_
  cases rx
  cases ry
  obtain ⟨mA, J, _⟩ := ins_get I.hok ha
  obtain ⟨mB, J', _⟩ := ins_get I.hok hb
  obtain ⟨od, J, _⟩ := J.look
  obtain ⟨od', J', _⟩ := J'.look
  refine ne_K hr.in1.units0 hr.units0 I.kIn J J'.type N.m N.n hs hf ?_
  refine wpAny_mono (own_call (vs := [V.ref a, V.ref b]) F hbd hr.in1 rfl I (.cons rfl (.cons rfl .nil)) hsp) (fun r s' q => ?_) fun _ _ e => e
  obtain ⟨z, H', I', rz, c, ez, q⟩ := q
  subst ez
  cases rz
  exact ⟨c, rfl, .bl (!c), H', I', rfl, q⟩
end Fc
namespace Fc
open PySem L2 PyProof.Rows
theorem eqvAll_strs : ∀ a b : List Str, PyData.eqvAll (a.map PyData.str) (b.map PyData.str) = decide (a = b)
  | [], [] => rfl
  | [], _ :: _ => rfl
  | _ :: _, [] => rfl
  | x :: a, y :: b => by
    show (PyData.eqv (.str x) (.str y) && PyData.eqvAll (a.map PyData.str) (b.map PyData.str)) = _
    rw [eqvAll_strs a b]
    rw [Bool.eq_iff_iff]
    simp [PyData.eqv]
theorem eqv_dS (a b : List Str) : PyData.eqv (dS a) (dS b) = decide (a = b) := by
  show PyData.eqvAll (a.map PyData.str) (b.map PyData.str) = _
  exact eqvAll_strs a b
theorem eqvAll_pairs : ∀ a b : List (Str × Str), PyData.eqvAll (a.map fun e => PyData.tuple [.str e.1, .str e.2]) (b.map fun e => PyData.tuple [.str e.1, .str e.2]) = decide (a = b)
  | [], [] => rfl
  | [], _ :: _ => rfl
  | _ :: _, [] => rfl
  | (x1, x2) :: a, (y1, y2) :: b => by
    show (PyData.eqv (.tuple [.str x1, .str x2]) (.tuple [.str y1, .str y2]) && PyData.eqvAll (a.map fun e => PyData.tuple [.str e.1, .str e.2]) (b.map fun e => PyData.tuple [.str e.1, .str e.2])) = _
    rw [eqvAll_pairs a b]
    rw [Bool.eq_iff_iff]
    simp [PyData.eqv, PyData.eqvAll]
theorem eqv_dA (a b : List (Str × Str)) : PyData.eqv (dA a) (dA b) = decide (a = b) := by
  show PyData.eqvAll (a.map fun e => PyData.tuple [.str e.1, .str e.2]) (b.map fun e => PyData.tuple [.str e.1, .str e.2]) = _
  exact eqvAll_pairs a b
/-- data without tables, at most 64 deep: any texts within -/
def plD (d : PyData) : Prop := d.plain = true ∧ d.depth ≤ 64
def rEqP (K : PySem.W.Frag) : R2 := fun x y H Q => ∃ d e, Dp K H x d ∧ Dp K H y e ∧ plD d ∧ plD e ∧ Q (.bl (PyData.eqv d e)) H
def rNeP (K : PySem.W.Frag) : R2 := fun x y H Q => ∃ d e, Dp K H x d ∧ Dp K H y e ∧ plD d ∧ plD e ∧ Q (.bl (!PyData.eqv d e)) H
section
variable {X : Cx}
theorem op_eqP (hu : X.A.units + 64 < cLine) : OpR X (compareOp .Eq) (rEqP X.K) := by
  intro pins s σ H x y v u Q I rx ry h
  obtain ⟨d, e, hd, he, sd, se, q⟩ := h
  obtain ⟨as, r1⟩ := Dp.reads I d x v hd rx
  obtain ⟨bs, r2⟩ := Dp.reads I e y u he ry
  exact SeqAt.eq_plain r1 r2 sd.1 se.1 (by have := sd.2; omega) ⟨.bl _, H, I, rfl, q⟩
theorem op_neP (hu : X.A.units + 64 < cLine) : OpR X (compareOp .NotEq) (rNeP X.K) := by
  intro pins s σ H x y v u Q I rx ry h
  obtain ⟨d, e, hd, he, sd, se, q⟩ := h
  obtain ⟨as, r1⟩ := Dp.reads I d x v hd rx
  obtain ⟨bs, r2⟩ := Dp.reads I e y u he ry
  exact SeqAt.ne_plain r1 r2 sd.1 se.1 (by have := sd.2; omega) ⟨.bl _, H, I, rfl, q⟩
end
theorem plainAll_iff : ∀ xs : List PyData, (∀ d ∈ xs, d.plain = true) → PyData.plainAll xs = true
  | [], _ => rfl
  | x :: xs, h => by
    simp only [PyData.plainAll, h x (List.mem_cons_self ..), plainAll_iff xs fun d hd => h d (List.mem_cons_of_mem _ hd), Bool.and_self]
theorem pl_dS (a : List Str) : plD (dS a) := by
  refine ⟨?_, ?_⟩
  · show PyData.plainAll (a.map PyData.str) = true
    exact plainAll_iff _ fun d hd => by obtain ⟨x, _, rfl⟩ := List.mem_map.mp hd; rfl
  · have e2 : PyData.depthAll (a.map PyData.str) ≤ 0 := (depAll_iff 0 _).mpr fun d hd => by obtain ⟨x, _, rfl⟩ := List.mem_map.mp hd; exact Nat.le_refl _
    show PyData.depthAll (a.map PyData.str) + 1 ≤ 64
    omega
theorem pl_dA (a : List (Str × Str)) : plD (dA a) := by
  refine ⟨?_, ?_⟩
  · show PyData.plainAll (a.map fun e => PyData.tuple [.str e.1, .str e.2]) = true
    exact plainAll_iff _ fun d hd => by obtain ⟨x, _, rfl⟩ := List.mem_map.mp hd; rfl
  · have e2 : PyData.depthAll (a.map fun e => PyData.tuple [.str e.1, .str e.2]) ≤ 1 := (depAll_iff 1 _).mpr fun d hd => by obtain ⟨x, _, rfl⟩ := List.mem_map.mp hd; exact Nat.le_refl _
    show PyData.depthAll (a.map fun e => PyData.tuple [.str e.1, .str e.2]) + 1 ≤ 64
    omega
/-- what isinstance(x, Frame) looks at -/
structure IsiTxt (K : PySem.W.Frag) (C : Addr) : Prop where
  ha : PySem.W.findIn K (.ref C) "__class__" = some (some (.builtin "object.__class__"))
  hn : PySem.W.specialIn K (.builtin "object.__class__") "__get__" = some (some (.builtin "getset_descriptor.__get__"))
  ht : PySem.W.takesIn K (.builtin "object.__class__") = some true
  hm : PySem.W.mroIn K C (.type "object") = some true
def spLenF (K : PySem.W.Frag) (C : Addr) : Sp := fun vs H Q _ => ∃ p P, vs = [.ref p] ∧ FrAt K C H p P ∧ Q (.int ((namesL P).length : Int)) H
def spEqF (K : PySem.W.Frag) (C : Addr) : Sp := fun vs H Q _ => ∃ p r P R, vs = [.ref p, .ref r] ∧ FrAt K C H p P ∧ FrAt K C H r R ∧ Q (.bl (decide (P = R))) H
section
variable {K : PySem.W.Frag} {mg : Str → Option Value} {base : Heap} {P : Program} {w : World}
theorem scM14 : FnScope ["self"] ["self"] (defScope (mF 14)) := ⟨rfl, rfl, rfl, by decide +kernel, rfl, by decide +kernel, by decide +kernel⟩
theorem okM14 {f C : Addr} {fd : FuncData} (F : Fun K "__len__" "Frame.__len__" (mF 14) f fd) (B : Blt mg) (T : FrTxt K mg C) : FnOk P w K mg base CX0 1 f fd ["self"] (spLenF K C) := by
  refine F.ok scM14 (fun vs H Q E h => ?_) (fun cdv A outer s H vs Q E hr h => ?_)
  · obtain ⟨p, P, rfl, _⟩ := h
    rfl
  · refine ⟨_, pss_one (ps_ret (pe_callB call_lenD (by rfl) B.len boot_len (pa_cons (pe_fld (pv 0) rfl) pa_nil))), ?_⟩
    obtain ⟨p, P, rfl, ⟨ok, dx, fs, uA, uP, uV, aK, h1, h2, h3, h4, h5, h6, h7, h8, h9, h10⟩, q⟩ := h
    refine ⟨_, rfl, p, C, dx, fs, _, rfl, h1, T.cl, T.nK, h5, aK, _, rfl, h10, ?_⟩
    have e : (kvK (kindsL P)).length = (namesL P).length := by unfold kvK; rw [← kinds_keys, List.length_map, List.length_map]
    rw [e]
    exact q
theorem scM15 : FnScope ["self", "other"] ["self", "other"] (defScope (mF 15)) := ⟨rfl, rfl, rfl, by decide +kernel, rfl, by decide +kernel, by decide +kernel⟩
theorem okM15 {f C : Addr} {fd : FuncData} (F : Fun K "__eq__" "Frame.__eq__" (mF 15) f fd) (B : Blt mg) (T : FrTxt K mg C) (Z : IsiTxt K C) : FnOk P w K mg base CX0 1 f fd ["self", "other"] (spEqF K C) := by
  refine F.ok scM15 (fun vs H Q E h => ?_) (fun cdv A outer s H vs Q E hr h => ?_)
  · obtain ⟨p, r, P, R, rfl, _⟩ := h
    rfl
  · have hu := hu70 hr
    refine ⟨_, pss_cons (ps_if (pt_not (pt_val (pe_callB call_isi (by rfl) B.isinstance boot_isinstance (pa_cons (pv 1) (pa_cons (pe_glob (v := .ref C) (by rfl) T.g rfl) pa_nil))))) (pss_one (ps_ret pe_bl)) pss_nil)
      (pss_cons (ps_if (pw_or (pt_cmpR (op_neP (hu64 hu)) (pe_fld (pv 0) rfl) (pe_fld (pv 1) rfl) (nomark _)) (pw_or1 (pt_cmpR (op_neP (hu64 hu)) (pe_fld (pv 0) rfl) (pe_fld (pv 1) rfl) (nomark _)))).pt (pss_one (ps_ret pe_bl)) pss_nil)
      (pss_one (ps_ret (pe_cmpR (op_eqP (hu64 hu)) (pe_fld (pv 0) rfl) (pe_fld (pv 1) rfl) (nomark _))))), ?_⟩
    obtain ⟨p, r, P, R, rfl, ⟨ok, dx, fs, uA, uP, uV, aK, h1, h2, h3, h4, h5, h6, h7, h8, h9, h10⟩, ⟨ok', dx', fs', uA', uP', uV', aK', g1, g2, g3, g4, g5, g6, g7, g8, g9, g10⟩, q⟩ := h
    have ek : PySem.W.kitOne K (.ref C) (.ref C) = some true := by unfold PySem.W.kitOne; rw [if_pos (by simp)]
    refine ⟨_, rfl, .ref r, .ref C, _, _, true, rfl, .own C, .base (.ins g1 T.cl Z.ha Z.hn Z.ht Z.hm), ek, _, rfl, iteF ?_⟩
    refine ⟨_, rfl, p, C, dx, fs, _, rfl, h1, T.cl, T.nA, h2, _, rfl, r, C, dx', fs', _, rfl, g1, T.cl, T.nA, g2, _, _, h7, g7, pl_dA _, pl_dA _, _, rfl, ?_⟩
    rw [eqv_dA]
    by_cases c1 : P.arrays = R.arrays
    case neg =>
      rw [decide_eq_false c1]
      rw [decide_eq_false fun e => c1 (by rw [e])] at q
      exact iteT q
    rw [decide_eq_true c1]
    refine iteF ⟨_, rfl, p, C, dx, fs, _, rfl, h1, T.cl, T.nP, h3, _, rfl, r, C, dx', fs', _, rfl, g1, T.cl, T.nP, g3, _, _, h8, g8, pl_dS _, pl_dS _, _, rfl, ?_⟩
    rw [eqv_dS]
    by_cases c2 : P.pos = R.pos
    case neg =>
      rw [decide_eq_false c2]
      rw [decide_eq_false fun e => c2 (by rw [e])] at q
      exact iteT q
    rw [decide_eq_true c2]
    refine iteF ⟨_, rfl, p, C, dx, fs, _, rfl, h1, T.cl, T.nV, h4, _, rfl, r, C, dx', fs', _, rfl, g1, T.cl, T.nV, g4, _, _, h9, g9, pl_dS _, pl_dS _, ?_⟩
    rw [eqv_dS]
    have e : decide (P = R) = decide (P.vals = R.vals) := decide_eq_decide.mpr ⟨fun e => by rw [e], fun e => by cases P; cases R; cases c1; cases c2; cases e; rfl⟩
    rw [e] at q
    exact q
end
end Fc
namespace Fc
open PySem L2 PyProof.Rows
/-- the words shown -/
def showW (ys : List Str) : Str := if 0 < ys.length then Txt.join (Str.ofString " ") ys else Str.ofString "-"
def pairT (e : Str × Str) : Str := ((Str.empty ++ e.1) ++ Str.ofString ":") ++ e.2
def showP (as : List (Str × Str)) : Str := showW (as.map pairT)
/-- a frame shown -/
def showF (P : Pa) : Str := ((((Str.empty ++ showP P.arrays) ++ Str.ofString " | ") ++ showW P.pos) ++ Str.ofString " | ") ++ showW P.vals
theorem sum_le {c : Nat} : ∀ {ys : List Str}, (∀ y ∈ ys, y.length ≤ c) → (ys.map (·.length)).sum ≤ ys.length * c
  | [], _ => Nat.zero_le _
  | y :: ys, h => by
    have i := sum_le fun z hz => h z (List.mem_cons_of_mem _ hz)
    have j := h y (List.mem_cons_self ..)
    simp only [List.map_cons, List.sum_cons, List.length_cons, Nat.add_mul, Nat.one_mul]
    omega
theorem showW_len {ys : List Str} (hl : ys.length ≤ 60) (hc : ∀ y ∈ ys, y.length ≤ 3000) : (showW ys).length ≤ 200000 := by
  unfold showW
  split
  · have a := StrLaws.join_length_le (Str.ofString " ") ys
    have b := sum_le hc
    have c : (Str.ofString " ").length = 1 := rfl
    have e : Txt.join (Str.ofString " ") ys = Str.join (Str.ofString " ") ys := by unfold Txt.join; exact StrLaws.glued_eq_join _ _
    rw [e]
    rw [c] at a
    have := Nat.mul_le_mul_right 3000 hl
    omega
  · exact (by decide : (1 : Nat) ≤ 200000)
theorem pairT_len (e : Str × Str) : (pairT e).length = e.1.length + 1 + e.2.length := by
  unfold pairT
  rw [Str.length_append, Str.length_append, Str.length_append]
  show (0 + e.1.length) + 1 + e.2.length = _
  omega
def spWords (K : PySem.W.Frag) : Sp := fun vs H Q _ => ∃ p ys, vs = [.ref p] ∧ (SqL K H p (ys.map V.str) ∨ SqT K H p (ys.map V.str)) ∧ ys.length ≤ 60 ∧ (∀ y ∈ ys, y.length ≤ 3000) ∧ Q (.str (showW ys)) H
def spShowP (K : PySem.W.Frag) : Sp := fun vs H Q _ => ∃ t as, vs = [.ref t] ∧ Dp K H (.ref t) (dA as) ∧ as.length ≤ 60 ∧ (∀ e ∈ as, e.1.length ≤ 1000 ∧ e.2.length ≤ 1000) ∧ ∀ H', Same H H' → Q (.str (showP as)) H'
def spStrF (K : PySem.W.Frag) (C : Addr) : Sp := fun vs H Q _ => ∃ p P, vs = [.ref p] ∧ FrAt K C H p P ∧ ∀ H', Same H H' → Q (.str (showF P)) H'
section
variable {K : PySem.W.Frag} {mg : Str → Option Value} {base : Heap} {P : Program} {w : World}
theorem sc24 : FnScope ["words"] ["words"] (defScope (topS 24)) := ⟨rfl, rfl, rfl, by decide +kernel, rfl, by decide +kernel, by decide +kernel⟩
theorem ok24 {f : Addr} {fd : FuncData} (F : Fun K "shown_words" "shown_words" (topS 24) f fd) (B : Blt mg) : FnOk P w K mg base CX0 1 f fd ["words"] (spWords K) := by
  refine F.ok sc24 (fun vs H Q E h => ?_) (fun cdv A outer s H vs Q E hr h => ?_)
  · obtain ⟨p, ys, rfl, _⟩ := h
    rfl
  · refine ⟨_, pss_one (ps_ret (pe_ifExp (pt_cmpR op_gt (pe_callB call_len_seq (by rfl) B.len boot_len (pa_cons (pv 0) pa_nil)) pe_int (nomark _)) (pe_join pe_str (pv 0)) pe_str)), ?_⟩
    obtain ⟨p, ys, rfl, hs, hl, hc, q⟩ := h
    refine ⟨_, rfl, p, _, rfl, hs, _, _, rfl, rfl, _, rfl, ?_⟩
    unfold showW at q
    rw [List.length_map]
    by_cases c : 0 < ys.length
    · rw [if_pos c] at q
      have b := sum_le hc
      have := Nat.mul_le_mul_right 3000 hl
      have d : decide ((0 : Int) < (ys.length : Int)) = true := decide_eq_true (by omega)
      rw [d]
      refine iteT ⟨⟨_, rfl⟩, _, rfl, _, p, ys, rfl, rfl, hs, ?_, q⟩
      show (ys.map (·.length)).sum + ys.length * 1 ≤ 16777216
      omega
    · rw [if_neg c] at q
      have d : decide ((0 : Int) < (ys.length : Int)) = false := decide_eq_false (by omega)
      rw [d]
      exact iteF q
abbrev n23 : List Str := ["arrays", "array", "length"]
theorem sc23 : FnScope n23 ["arrays"] (defScope (topS 23)) := ⟨rfl, rfl, rfl, by decide +kernel, rfl, by decide +kernel, by decide +kernel⟩
theorem ok23 {f : Addr} {fd : FuncData} (F : Fun K "shown_pairs" "shown_pairs" (topS 23) f fd) (c24 : Cal P w K mg base 1 "shown_words" (spWords K)) : FnOk P w K mg base CX0 2 f fd ["arrays"] (spShowP K) := by
  refine F.ok sc23 (fun vs H Q E h => ?_) (fun cdv A outer s H vs Q E hr h => ?_)
  · obtain ⟨t, as, rfl, _⟩ := h
    rfl
  · refine ⟨_, pss_one (ps_ret (pe_c c24 hr (by decide) (by rfl) (pa_cons (pe_lc (own := [("array", 1), ("length", 2)]) (g := gTup K 2 (gCons (gName 1) (gCons (gName 2) gNil))) (by rfl) sc23.nd (pi_tup (pv 0)) (blkOk_by (N := n23) (sc := defScope (topS 23)) (by decide +kernel))
      (fun _ _ _ _ _ => pg_tup rfl (pgs_cons (pg_name (i := 1) sc23.nd rfl (Or.inl rfl)) (pgs_cons (pg_name (i := 2) sc23.nd rfl (Or.inl rfl)) pgs_nil))) (fun _ _ _ _ _ => pts_nil) (fun _ _ _ _ _ => pe_joined (.cons (pe_fmt (pv 1)) (.cons pe_str (.cons (pe_fmt (pv 2)) .nil))))) pa_nil))), ?_⟩
    obtain ⟨t, as, rfl, hd, hl, hc, q⟩ := h
    unfold dA at hd
    cases hd with
    | @tup _ xs _ sa da =>
    have lx : xs.length = as.length := (dp_len da).trans (List.length_map _)
    refine ⟨_, rfl, t, rfl, ⟨xs, sa⟩, fun D hD => ?_⟩
    refine lc_map (K := K) (te := fun σ H Q => tJs [tFmt (tVar 1), tC (.str (Str.ofString ":")), tFmt (tVar 2)] Str.empty σ H fun out H1 => Q (.str out) H1) (fun _ k y => y = .str (pairT (as.getD k e0))) (steady_tup (K := K) (a := t) (xs := xs)) (fun _ _ _ _ _ h => h) (fun H' s' => Tups.same s' _ _ sa) (by omega) hD (fun k H' Q' hk s' q' => ?_) fun H2 ys s2 hys py => ?_
    · have hk2 : k < as.length := by omega
      obtain ⟨u, eu, su⟩ := dA_at da hk2
      obtain ⟨l1, l2⟩ := hc as[k] (List.getElem_mem hk2)
      have z0 : ((Str.empty ++ as[k].1) : Str).length ≤ 1000 := by rw [Str.length_append]; show 0 + as[k].1.length ≤ 1000; omega
      have z1 : (((Str.empty ++ as[k].1) : Str) ++ Str.ofString ":").length ≤ 1001 := by rw [Str.length_append]; show _ + 1 ≤ 1001; omega
      have z2 : ((((Str.empty ++ as[k].1) : Str) ++ Str.ofString ":") ++ as[k].2).length ≤ 2001 := by rw [Str.length_append]; omega
      refine ⟨u, _, eu, Tups.same s' _ _ su, rfl, _, _, rfl, _, _, rfl, rfl, rfl, ?_⟩
      refine ⟨_, rfl, .inl ⟨_, rfl, by rw [sizeLine_eq]; omega, _, rfl, by rw [sizeLine_eq]; omega, _, rfl, by rw [sizeLine_eq]; omega, ?_⟩⟩
      refine ⟨_, rfl, .inl ⟨_, rfl, by rw [sizeLine_eq]; omega, _, rfl, by rw [sizeLine_eq]; omega, ?_⟩⟩
      refine q' _ _ (Same.refl _) ?_
      rw [getD_at hk2]
      rfl
    · have ey : ys = (as.map pairT).map V.str := by
        refine List.ext_getElem? fun i => ?_
        have lp := paired_len py
        rw [List.length_range] at lp
        by_cases c : i < as.length
        · have ci : i < ys.length := by omega
          have := paired_at py (i := i) (a := i) (b := ys[i]) (by rw [List.getElem?_range (by omega)]) (List.getElem?_eq_getElem ci)
          rw [List.getElem?_eq_getElem ci, this, getD_at c, List.getElem?_map, List.getElem?_map, List.getElem?_eq_getElem c]
          rfl
        · rw [List.getElem?_eq_none (by omega), List.getElem?_eq_none (by rw [List.length_map, List.length_map]; omega)]
      subst ey
      refine ⟨D, as.map pairT, rfl, .inl (.inl (.inl hys)), by rw [List.length_map]; exact hl, fun y hy => ?_, q _ s2⟩
      obtain ⟨e, he, rfl⟩ := List.mem_map.mp hy
      have := hc e he
      rw [pairT_len]
      omega
theorem scM16 : FnScope ["self"] ["self"] (defScope (mF 16)) := ⟨rfl, rfl, rfl, by decide +kernel, rfl, by decide +kernel, by decide +kernel⟩
theorem okM16 {f C : Addr} {fd : FuncData} (F : Fun K "__str__" "Frame.__str__" (mF 16) f fd) (T : FrTxt K mg C) (c23 : Cal P w K mg base 2 "shown_pairs" (spShowP K)) (c24 : Cal P w K mg base 1 "shown_words" (spWords K)) : FnOk P w K mg base CX0 3 f fd ["self"] (spStrF K C) := by
  refine F.ok scM16 (fun vs H Q E h => ?_) (fun cdv A outer s H vs Q E hr h => ?_)
  · obtain ⟨p, P, rfl, _⟩ := h
    rfl
  · refine ⟨_, pss_one (ps_ret (pe_joined (.cons (pe_fmt (pe_c c23 hr (by decide) (by rfl) (pa_cons (pe_fld (pv 0) rfl) pa_nil))) (.cons pe_str (.cons (pe_fmt (pe_c c24 hr (by decide) (by rfl) (pa_cons (pe_fld (pv 0) rfl) pa_nil))) (.cons pe_str (.cons (pe_fmt (pe_c c24 hr (by decide) (by rfl) (pa_cons (pe_fld (pv 0) rfl) pa_nil))) .nil))))))), ?_⟩
    obtain ⟨p, P, rfl, ⟨ok, dx, fs, uA, uP, uV, aK, h1, h2, h3, h4, h5, h6, h7, h8, h9, h10⟩, q⟩ := h
    have na : P.arrays.length ≤ 60 := Nat.le_trans ok.na (by decide)
    have np : P.pos.length ≤ 60 := Nat.le_trans ok.np (by decide)
    have nv : P.vals.length ≤ 60 := Nat.le_trans ok.nv (by decide)
    have nn : ∀ x ∈ wordsL P, x.length ≤ 8 := fun x hx => by
      have h := ok.nm x (words_mem.mp hx)
      unfold isNameS at h
      simp only [Bool.and_eq_true, decide_eq_true_iff] at h
      omega
    have nA : ∀ e ∈ P.arrays, e.1.length ≤ 1000 ∧ e.2.length ≤ 1000 := fun e he => by
      have a := nn e.1 (List.mem_append_left _ (List.mem_flatMap.mpr ⟨e, he, List.mem_cons_self ..⟩))
      have b := nn e.2 (List.mem_append_left _ (List.mem_flatMap.mpr ⟨e, he, List.mem_cons_of_mem _ (List.mem_cons_self ..)⟩))
      omega
    have nP : ∀ y ∈ P.pos, y.length ≤ 3000 := fun y hy => by
      have a := nn y (List.mem_append_right _ (List.mem_append_left _ hy))
      omega
    have nV : ∀ y ∈ P.vals, y.length ≤ 3000 := fun y hy => by
      have a := nn y (List.mem_append_right _ (List.mem_append_right _ hy))
      omega
    have lA : (showP P.arrays).length ≤ 200000 := showW_len (by rw [List.length_map]; exact na) fun y hy => by
      obtain ⟨e, he, rfl⟩ := List.mem_map.mp hy
      have := nA e he
      rw [pairT_len]
      omega
    have lP : (showW P.pos).length ≤ 200000 := showW_len np nP
    have lV : (showW P.vals).length ≤ 200000 := showW_len nv nV
    have z0 : ((Str.empty ++ showP P.arrays) : Str).length ≤ 200000 := by rw [Str.length_append]; show 0 + _ ≤ _; omega
    have z1 : (((Str.empty ++ showP P.arrays) : Str) ++ Str.ofString " | ").length ≤ 200003 := by rw [Str.length_append]; show _ + 3 ≤ _; omega
    have z2 : ((((Str.empty ++ showP P.arrays) : Str) ++ Str.ofString " | ") ++ showW P.pos).length ≤ 400003 := by rw [Str.length_append]; omega
    have z3 : (((((Str.empty ++ showP P.arrays) : Str) ++ Str.ofString " | ") ++ showW P.pos) ++ Str.ofString " | ").length ≤ 400006 := by rw [Str.length_append]; show _ + 3 ≤ _; omega
    have z4 : ((((((Str.empty ++ showP P.arrays) : Str) ++ Str.ofString " | ") ++ showW P.pos) ++ Str.ofString " | ") ++ showW P.vals).length ≤ 600006 := by rw [Str.length_append]; omega
    refine ⟨_, rfl, p, C, dx, fs, _, rfl, h1, T.cl, T.nA, h2, uA, P.arrays, rfl, h7, na, nA, fun H1 s1 => .inl ⟨_, rfl, by rw [sizeLine_eq]; omega, _, rfl, by rw [sizeLine_eq]; omega, _, rfl, by rw [sizeLine_eq]; omega, ?_⟩⟩
    refine ⟨_, rfl, p, C, dx, fs, _, rfl, s1 _ _ h1, T.cl, T.nP, h3, uP, P.pos, rfl, .inr (Tups.same s1 _ _ (tup_dS h8)), np, nP, .inl ⟨_, rfl, by rw [sizeLine_eq]; omega, _, rfl, by rw [sizeLine_eq]; omega, _, rfl, by rw [sizeLine_eq]; omega, ?_⟩⟩
    refine ⟨_, rfl, p, C, dx, fs, _, rfl, s1 _ _ h1, T.cl, T.nV, h4, uV, P.vals, rfl, .inr (Tups.same s1 _ _ (tup_dS h9)), nv, nV, .inl ⟨_, rfl, by rw [sizeLine_eq]; omega, _, rfl, by rw [sizeLine_eq]; omega, q _ s1⟩⟩
end
end Fc
namespace Fc
open PySem L2 PyProof.Rows
/-! the law's own looks -/
/-- x in l, x not in l, for lists of data with any texts -/
def rInP (K : PySem.W.Frag) (n : Bool → Bool) : R2 := fun x y H Q => ∃ d ds, Dp K H x d ∧ Dp K H y (.list ds) ∧ plD d ∧ PyData.plainAll ds = true ∧ Q (.bl (n (ds.any fun z => PyData.eqv z d))) H
section
variable {X : Cx}
theorem op_inP (hu : X.A.units + 65 < cLine) : OpR X (compareOp .In) (rInP X.K id) := by
  intro pins s σ H x y v u Q I rx ry h
  obtain ⟨d, ds, hd, he, sd, se, q⟩ := h
  obtain ⟨as, r1⟩ := Dp.reads I d x v hd rx
  obtain ⟨bs, r2⟩ := Dp.reads I (.list ds) y u he ry
  exact SeqAt.in_list_data r2 r1 se sd.1 (by have := sd.2; omega) ⟨.bl _, H, I, rfl, q⟩
theorem op_notInP (hu : X.A.units + 65 < cLine) : OpR X (compareOp .NotIn) (rInP X.K not) := by
  intro pins s σ H x y v u Q I rx ry h
  obtain ⟨d, ds, hd, he, sd, se, q⟩ := h
  obtain ⟨as, r1⟩ := Dp.reads I d x v hd rx
  obtain ⟨bs, r2⟩ := Dp.reads I (.list ds) y u he ry
  exact SeqAt.notIn_list_data r2 r1 se sd.1 (by have := sd.2; omega) ⟨.bl _, H, I, rfl, q⟩
end
theorem any_strs (l : List Str) (x : Str) : ((l.map PyData.str).any fun z => PyData.eqv z (.str x)) = decide (x ∈ l) := by
  rw [Bool.eq_iff_iff]
  simp only [List.any_map, List.any_eq_true, Function.comp, decide_eq_true_iff]
  constructor
  · rintro ⟨y, hy, e⟩
    simp [PyData.eqv] at e
    rw [← e]
    exact hy
  · exact fun h => ⟨x, h, by simp [PyData.eqv]⟩
theorem plain_strs (l : List Str) : PyData.plainAll (l.map PyData.str) = true := plainAll_iff _ fun d hd => by obtain ⟨x, _, rfl⟩ := List.mem_map.mp hd; rfl
theorem dps_strs {K : PySem.W.Frag} {H : Hp} : ∀ l : List Str, DpAll K H (l.map V.str) (l.map PyData.str)
  | [] => .nil
  | x :: l => .cons (.str x) (dps_strs l)
theorem Same.none_of {H H' : Hp} {a : Addr} (s : Same H H') (h : H' a = none) : H a = none := by
  cases e : H a with
  | none => rfl
  | some o => rw [s _ _ e] at h; cases h
/-- the row of a frame: its three tuples in a list -/
structure RowAt (K : PySem.W.Frag) (H : Hp) (r : Addr) (P : Pa) : Prop where
  ex : ∃ tA tP tV : Addr, H r = some (.lst [.ref tA, .ref tP, .ref tV]) ∧ Dp K H (.ref tA) (dA P.arrays) ∧ Dp K H (.ref tP) (dS P.pos) ∧ Dp K H (.ref tV) (dS P.vals)
  nm : PaNm P
theorem RowAt.mono {K : PySem.W.Frag} {H H' : Hp} {r : Addr} {P : Pa} (s : Same H H') (h : RowAt K H r P) : RowAt K H' r P := by
  obtain ⟨tA, tP, tV, h1, h2, h3, h4⟩ := h.ex
  exact ⟨⟨tA, tP, tV, s _ _ h1, dp_mono s _ _ h2, dp_mono s _ _ h3, dp_mono s _ _ h4⟩, h.nm⟩
def spLawLens (K : PySem.W.Frag) : Sp := fun vs H Q _ => ∃ r P, vs = [.ref r] ∧ RowAt K H r P ∧ ∀ H' p, Same H H' → H' p = some (.lst ((lensOf P.arrays).map V.str)) → H p = none → Q (.ref p) H'
def spLawFr (K : PySem.W.Frag) (C Cf : Addr) : Sp := fun vs H Q E => ∃ r P, vs = [.ref r] ∧ RowAt K H r P ∧ (okB P = false → ∀ H', Same H H' → E (.ref Cf) none H') ∧ (okB P = true → ∀ H' p, Same H H' → FrAt K C H' p P → Q (.ref p) H')
section
variable {K : PySem.W.Frag} {mg : Str → Option Value} {base : Heap} {P : Program} {w : World}
abbrev n38 : List Str := ["_law_parts_here", "_law_found", "_law_name", "_law_length"]
theorem sc38 : FnScope n38 ["_law_parts_here"] (defScope (topS 38)) := ⟨rfl, rfl, rfl, by decide +kernel, rfl, by decide +kernel, by decide +kernel⟩
theorem ok38 {f : Addr} {fd : FuncData} (F : Fun K "_law_lengths" "_law_lengths" (topS 38) f fd) (B : Blt mg) : FnOk P w K mg base CX0 1 f fd ["_law_parts_here"] (spLawLens K) := by
  refine F.ok sc38 (fun vs H Q E h => ?_) (fun cdv A outer s H vs Q E hr h => ?_)
  · obtain ⟨r, P, rfl, _⟩ := h
    rfl
  · have hu := hu70 hr
    refine ⟨_, pss_cons (ps_set (i := 1) sc38.nd rfl (Or.inl rfl) (pe_lst pa_nil))
      (pss_cons (ps_for PassesOwn.never rfl (pi_tup (pe_ix ix_list (pv 0) pe_int (fun _ _ => rfl))) (pg_tup rfl (pgs_cons (pg_name (i := 2) sc38.nd rfl (Or.inl rfl)) (pgs_cons (pg_name (i := 3) sc38.nd rfl (Or.inl rfl)) pgs_nil)))
        (pss_one (ps_set (i := 1) sc38.nd rfl (Or.inl rfl) (pe_op op_cat (pv 1) (pe_ifExp (pt_cmpR (op_notInP (hu65 hu)) (pv 3) (pv 1) rfl) (pe_lst (pa_cons (pv 3) pa_nil)) (pe_lst pa_nil))))))
      (pss_one (ps_ret (pv 1)))), ?_⟩
    obtain ⟨r, P, rfl, ⟨⟨tA, tP, tV, h1, h2, h3, h4⟩, nm⟩, q⟩ := h
    have na := nm.na
    unfold dA at h2
    cases h2 with
    | @tup _ xs _ sa da =>
    have lx : xs.length = P.arrays.length := (dp_len da).trans (List.length_map _)
    refine ⟨Nat.zero_le _, fun L0 hL0 => ?_⟩
    have s0 := same_new (o := .lst ([] : List V)) hL0
    refine ⟨_, rfl, r, _, 0, _, rfl, rfl, .inl (.inl (s0 _ _ h1)), atI_nat (j := 0) rfl, tA, rfl, ⟨xs, Tups.same s0 _ _ sa⟩, ?_⟩
    refine for_steady (steady_tup (K := K) (a := tA) (xs := xs)) (fun i σ H' => Same H H' ∧ ∃ L z1 z2, σ = [some (.ref r), some (.ref L), z1, z2] ∧ H' L = some (.lst ((lensN P.arrays i).map V.str)) ∧ H L = none) ⟨s0, L0, none, none, rfl, upd_same, hL0⟩ (fun _ _ _ _ h => Tups.same h.1 _ _ sa) ?_ ?_
    · rintro i σ H' hi ⟨s1, L, z1, z2, rfl, hL, hn⟩
      have hi2 : i < P.arrays.length := by omega
      obtain ⟨u, eu, su⟩ := dA_at da hi2
      have ll : (lensN P.arrays i).length ≤ 60 := by
        have := lensOf_len (P.arrays.take i)
        rw [List.length_take] at this
        show (lensOf (P.arrays.take i)).length ≤ 60
        omega
      refine ⟨u, _, eu, Tups.same s1 _ _ su, rfl, _, _, rfl, _, _, rfl, rfl, ?_⟩
      refine ⟨_, rfl, _, rfl, _, rfl, .str (P.arrays[i]).2, (lensN P.arrays i).map PyData.str, .str _, .lst (.inl (.inl hL)) (dps_strs _), ⟨rfl, Nat.zero_le _⟩, plain_strs _, _, rfl, ?_⟩
      rw [any_strs]
      by_cases c : (P.arrays[i]).2 ∈ lensN P.arrays i
      · rw [decide_eq_true c]
        refine iteF ⟨Nat.zero_le _, fun M hM => ?_⟩
        have s2 := same_new (o := .lst ([] : List V)) hM
        refine ⟨L, M, _, _, rfl, rfl, s2 _ _ hL, upd_same, by rw [sizeLine_eq, List.length_map]; show _ + 0 ≤ _; omega, fun N hN => ⟨(s1.trans s2).trans (same_new hN), N, _, _, rfl, ?_, Same.none_of s1 (Same.none_of s2 hN)⟩⟩
        rw [lensN_succ hi2]
        unfold addS
        rw [if_pos c, upd_same, List.append_nil]
      · rw [decide_eq_false c]
        refine iteT ⟨_, rfl, by rw [sizeLine_eq]; exact (by decide : (1 : Nat) ≤ 16777216), fun M hM => ?_⟩
        have s2 := same_new (o := .lst ([V.str (P.arrays[i]).2] : List V)) hM
        refine ⟨L, M, _, _, rfl, rfl, s2 _ _ hL, upd_same, by rw [sizeLine_eq, List.length_map]; show _ + 1 ≤ _; omega, fun N hN => ⟨(s1.trans s2).trans (same_new hN), N, _, _, rfl, ?_, Same.none_of s1 (Same.none_of s2 hN)⟩⟩
        rw [lensN_succ hi2]
        unfold addS
        rw [if_neg c, upd_same, List.map_append]
        rfl
    · rintro σ H' ⟨s1, L, z1, z2, rfl, hL, hn⟩
      rw [show lensN P.arrays xs.length = lensOf P.arrays by unfold lensN; rw [lx, List.take_length]] at hL
      exact ⟨_, rfl, q _ L s1 hL hn⟩
abbrev n39 : List Str := ["_law_parts_here"]
theorem sc39 : FnScope n39 n39 (defScope (topS 39)) := ⟨rfl, rfl, rfl, by decide +kernel, rfl, by decide +kernel, by decide +kernel⟩
theorem ok39 {f C Cf : Addr} {fd : FuncData} (F : Fun K "_law_frame" "_law_frame" (topS 39) f fd) (M : MkFr P w K mg base C Cf) : FnOk P w K mg base (L2.CX P w) 5 f fd n39 (spLawFr K C Cf) := by
  refine F.okX sc39 (fun vs H Q E h => ?_) (fun cdv A outer s H vs Q E hr h => ?_)
  · obtain ⟨r, P, rfl, _⟩ := h
    rfl
  · refine ⟨_, pss_one (ps_ret (pe_mkE M hr (by decide) (by rfl) (passes_call (takes_of rfl rfl rfl rfl) fun _ _ _ _ h => h) (pa_cons (pe_ix ix_list (pv 0) pe_int (fun _ _ => rfl)) (pa_cons (pe_ix ix_list (pv 0) pe_int (fun _ _ => rfl)) (pa_cons (pe_ix ix_list (pv 0) pe_int (fun _ _ => rfl)) pa_nil))))), ?_⟩
    obtain ⟨r, P, rfl, ⟨⟨tA, tP, tV, h1, h2, h3, h4⟩, nm⟩, q1, q2⟩ := h
    refine ⟨_, rfl, r, _, 0, _, rfl, rfl, .inl (.inl h1), atI_nat (j := 0) rfl, _, rfl, r, _, 1, _, rfl, rfl, .inl (.inl h1), atI_nat (j := 1) rfl, _, rfl, r, _, 2, _, rfl, rfl, .inl (.inl h1), atI_nat (j := 2) rfl, ?_⟩
    exact mk_i P h2 h3 h4 nm q1 fun e H' p s _ fr => q2 e H' p s fr
end
end Fc
namespace Fc
open PySem L2 PyProof.Rows
def spLawAll (K : PySem.W.Frag) : Sp := fun vs H Q _ => ∃ r P, vs = [.ref r] ∧ RowAt K H r P ∧ ∀ H' p, Same H H' → H' p = some (.lst ((namesL P).map V.str)) → H p = none → Q (.ref p) H'
def spLawPl (K : PySem.W.Frag) (w : World) : Sp := fun vs H Q _ => ∃ r P v d o own, vs = [.ref r, v, .ref o] ∧ RowAt K H r P ∧ DV K w H v d ∧ (∀ ds, d = .tuple ds → PyData.plainAll ds = true) ∧ SqT K H o (List.map V.str own) ∧ own.length ≤ 60 ∧ ∀ H', Same H H' → Q (.bl (lawPlace P own d)) H'
theorem nt_lawPl (P : Pa) (own : List Str) (d : PyData) (h : isTy d "tuple" = false) : lawPlace P own d = false := by cases d <;> first | rfl | (rw [isTy_tupF] at h; cases h)
theorem lawPl_no (P : Pa) (own : List Str) (ds : List PyData) (h : ds.length ≠ 2) : lawPlace P own (.tuple ds) = false := by
  match ds with
  | [] => rfl
  | [a] => cases a <;> rfl
  | [_, _] => exact absurd rfl h
  | a :: _ :: _ :: _ => cases a <;> rfl
theorem isTy_strF (d : PyData) : isTy d "str" = match d with | .str _ => true | _ => false := by cases d <;> rfl
section
variable {K : PySem.W.Frag} {mg : Str → Option Value} {base : Heap} {P : Program} {w : World}
abbrev n40 : List Str := ["_law_parts_here", "_law_arrays", "_law_name", "_law_length"]
theorem sc40 : FnScope n40 ["_law_parts_here"] (defScope (topS 40)) := ⟨rfl, rfl, rfl, by decide +kernel, rfl, by decide +kernel, by decide +kernel⟩
theorem ok40 {f : Addr} {fd : FuncData} (F : Fun K "_law_all_of" "_law_all_of" (topS 40) f fd) (B : Blt mg) (c38 : Cal P w K mg base 1 "_law_lengths" (spLawLens K)) : FnOk P w K mg base CX0 2 f fd ["_law_parts_here"] (spLawAll K) := by
  refine F.ok sc40 (fun vs H Q E h => ?_) (fun cdv A outer s H vs Q E hr h => ?_)
  · obtain ⟨r, P, rfl, _⟩ := h
    rfl
  · have hu := hu70 hr
    refine ⟨_, pss_cons (ps_setLc (i := 1) (own := [("_law_name", 2), ("_law_length", 3)]) (g := gTup K 2 (gCons (gName 2) (gCons (gName 3) gNil))) (by rfl) sc40.nd rfl rfl (sw_true rfl rfl rfl (by decide +kernel)) (pi_tup (pe_ix ix_list (pv 0) pe_int (fun _ _ => rfl))) (blkOk_by (N := n40) (sc := defScope (topS 40)) (by decide +kernel))
        (fun _ _ _ _ _ => pg_tup rfl (pgs_cons (pg_name (i := 2) sc40.nd rfl (Or.inl rfl)) (pgs_cons (pg_name (i := 3) sc40.nd rfl (Or.inl rfl)) pgs_nil))) (fun _ _ _ _ _ => pts_nil) (fun _ _ _ _ _ => pv 2))
      (pss_one (ps_ret (pe_op op_cat (pe_op op_cat (pv 1) (pe_c c38 hr (by decide) (by rfl) (pa_cons (pv 0) pa_nil))) (pe_callTy call_list_of (by rfl) B.list boot_list (pa_cons (pe_op op_catA (pe_ix ix_list (pv 0) pe_int (fun _ _ => rfl)) (pe_ix ix_list (pv 0) pe_int (fun _ _ => rfl))) pa_nil))))), ?_⟩
    obtain ⟨r, P, rfl, R, q⟩ := h
    obtain ⟨⟨tA, tP, tV, h1, h2, h3, h4⟩, nm⟩ := id R
    have na := nm.na
    have np := nm.np
    have nv := nm.nv
    unfold dA at h2
    cases h2 with
    | @tup _ xs _ sa da =>
    have lx : xs.length = P.arrays.length := (dp_len da).trans (List.length_map _)
    refine ⟨_, rfl, r, _, 0, _, rfl, rfl, .inl (.inl h1), atI_nat (j := 0) rfl, tA, rfl, ⟨xs, sa⟩, fun D hD => ?_⟩
    refine lc_map (K := K) (te := tVar 2) (fun _ k y => y = .str (P.arrays.getD k e0).1) (steady_tup (K := K) (a := tA) (xs := xs)) (fun _ _ _ _ _ h => h) (fun H' s' => Tups.same s' _ _ sa) (by omega) hD (fun k H' Q' hk s' q' => ?_) fun H2 ys s2 hys py => ?_
    · have hk2 : k < P.arrays.length := by omega
      obtain ⟨u, eu, su⟩ := dA_at da hk2
      refine ⟨u, _, eu, Tups.same s' _ _ su, rfl, _, _, rfl, _, _, rfl, rfl, rfl, _, rfl, ?_⟩
      refine q' _ _ (Same.refl _) ?_
      rw [getD_at hk2]
    · have ey : ys = (P.arrays.map (·.1)).map V.str := by
        refine List.ext_getElem? fun i => ?_
        have lp := paired_len py
        rw [List.length_range] at lp
        by_cases c : i < P.arrays.length
        · have ci : i < ys.length := by omega
          have := paired_at py (i := i) (a := i) (b := ys[i]) (by rw [List.getElem?_range (by omega)]) (List.getElem?_eq_getElem ci)
          rw [List.getElem?_eq_getElem ci, this, getD_at c, List.getElem?_map, List.getElem?_map, List.getElem?_eq_getElem c]
          rfl
        · rw [List.getElem?_eq_none (by omega), List.getElem?_eq_none (by rw [List.length_map, List.length_map]; omega)]
      subst ey
      have ll := lensOf_len P.arrays
      refine ⟨_, rfl, _, rfl, r, P, rfl, R.mono s2, fun H3 L s3 hL nL => ?_⟩
      have s23 := s2.trans s3
      refine ⟨D, L, _, _, rfl, rfl, s3 _ _ hys, hL, by rw [sizeLine_eq]; simp only [List.length_map]; omega, fun M hM => ?_⟩
      have s4 := same_new (o := .lst ((P.arrays.map (·.1)).map V.str ++ (lensOf P.arrays).map V.str)) hM
      have s24 := s23.trans s4
      refine ⟨_, rfl, r, _, 1, _, rfl, rfl, .inl (.inl (s24 _ _ h1)), atI_nat (j := 1) rfl, _, rfl, r, _, 2, _, rfl, rfl, .inl (.inl (s24 _ _ h1)), atI_nat (j := 2) rfl, ?_⟩
      refine cat_dS (dp_mono s24 _ _ h3) (dp_mono s24 _ _ h4) (by omega) fun H5 t5 s5 d5 => ?_
      refine ⟨t5, _, rfl, .inr (tup_dS d5), fun N hN => ?_⟩
      have s6 := same_new (o := .lst ((P.pos ++ P.vals).map V.str)) hN
      refine ⟨M, N, _, _, rfl, rfl, s6 _ _ (s5 _ _ upd_same), upd_same, by rw [sizeLine_eq]; simp only [List.length_map, List.length_append]; omega, fun O hO => ?_⟩
      have s7 := same_new (o := .lst (((P.arrays.map (·.1)).map V.str ++ (lensOf P.arrays).map V.str) ++ (P.pos ++ P.vals).map V.str)) hO
      refine q _ O (((s24.trans s5).trans s6).trans s7) ?_ (Same.none_of ((s24.trans s5).trans s6) hO)
      rw [upd_same]
      unfold namesL
      simp only [List.map_append, List.append_assoc]
end
end Fc
namespace Fc
open PySem L2 PyProof.Rows
section
variable {K : PySem.W.Frag} {mg : Str → Option Value} {base : Heap} {P : Program} {w : World}
abbrev n42 : List Str := ["_law_parts_here", "_law_value", "_law_mine"]
end
end Fc
namespace Fc
open PySem L2 PyProof.Rows
def spLawWo (K : PySem.W.Frag) (w : World) : Sp := fun vs H Q _ => ∃ r P v d o own, vs = [.ref r, v, .ref o] ∧ RowAt K H r P ∧ DV K w H v d ∧ (∀ ds, d = .tuple ds → PyData.plainAll ds = true) ∧ SqT K H o (List.map V.str own) ∧ own.length ≤ 60 ∧ ∀ H', Same H H' → Q (.bl (lawWorth P own d)) H'
theorem nt_lawWo (P : Pa) (own : List Str) (d : PyData) (h : isTy d "tuple" = false) : lawWorth P own d = false := by cases d <;> first | rfl | (rw [isTy_tupF] at h; cases h)
theorem lawWo_no (P : Pa) (own : List Str) (ds : List PyData) (h : ds.length ≠ 2) (h4 : ds.length ≠ 4) : lawWorth P own (.tuple ds) = false := by
  match ds with
  | [] => rfl
  | [a] => cases a <;> rfl
  | [_, _] => exact absurd rfl h
  | [a, _, _] => cases a <;> rfl
  | [_, _, _, _] => exact absurd rfl h4
  | a :: _ :: _ :: _ :: _ :: _ => cases a <;> rfl
theorem inV24 (n : Nat) : inV (.int (n : Int)) [.int 2, .int 4] = (decide (n = 2) || decide (n = 4)) := by
  show ((2 : Int) == (n : Int) || ((4 : Int) == (n : Int) || false)) = _
  rw [Bool.eq_iff_iff]
  simp only [Bool.or_eq_true, beq_iff_eq, decide_eq_true_iff, Bool.false_eq_true, or_false]
  omega
section
variable {K : PySem.W.Frag} {mg : Str → Option Value} {base : Heap} {P : Program} {w : World}
abbrev n43 : List Str := ["_law_parts_here", "_law_value", "_law_mine", "_law_name", "_law_length"]
end
end Fc
namespace Fc
open PySem L2 PyProof.Rows
def spLawLet (K : PySem.W.Frag) : Sp := fun vs H Q _ => ∃ r P, vs = [.ref r] ∧ RowAt K H r P ∧ ∀ H', Same H H' → Q (.bl (okB P)) H'
theorem okB_turned (P : Pa) : okB P = (decide (V.int ((onceS (namesL P)).length : Int) = V.int ((namesL P).length : Int)) && (decide ((P.arrays.length : Int) < 13) && (decide ((P.pos.length : Int) < 9) && decide ((P.vals.length : Int) < 7)))) := by
  have e := once_count (ws := namesL P) (ns := namesL P) fun x => Iff.rfl
  have e2 : decide (V.int ((onceS (namesL P)).length : Int) = V.int ((namesL P).length : Int)) = decide (namesL P).Nodup := by
    rw [← e, Bool.eq_iff_iff, decide_eq_true_iff, decide_eq_true_iff]
    exact eq_comm
  rw [e2]
  unfold okB
  rw [Bool.eq_iff_iff]
  simp only [Bool.and_eq_true, decide_eq_true_iff]
  constructor
  · rintro ⟨a, b, c, d⟩
    exact ⟨d, by omega, by omega, by omega⟩
  · rintro ⟨d, a, b, c⟩
    exact ⟨by omega, by omega, by omega, d⟩
section
variable {K : PySem.W.Frag} {mg : Str → Option Value} {base : Heap} {P : Program} {w : World}
abbrev n47 : List Str := ["_law_parts_here", "_law_names"]
end
end Fc
namespace Fc
open PySem L2 PyProof.Rows
section
variable {X : Cx} {CX : CXT} {k : Nat} {f C : Addr} {fd : FuncData} {ps : List Str} {sp : Sp} {m : Str} {apos pos : Pos} {e o : Expr} {es : List Expr} {ta : TE} {t : TA} {E : L2.St → XK}
/-- o.m(e, ..) within a try: what is raised goes by the names -/
def tMethE (C : Addr) (m : Str) (sp : Sp) (E : L2.St → XK) (ta : TE) (t : TA) : TE := fun σ H Q => ta σ H fun x H1 => ∃ a dx fs, x = .ref a ∧ H1 a = some (.ins C dx fs) ∧ fs.lookup m = none ∧ t σ H1 fun ws H2 => sp (x :: ws) H2 Q (E σ)
theorem pe_methE {pl : Sem Bool} (he : PE X o ta) (c : Cls X.K C) (hm : Meth X.K C m f) (F : FnOk X.prog X.w X.K X.mg X.base CX k f fd ps sp) (hr : Room k X.A) (hb : Binds X.K fd ps []) (hx : ∀ σ, PassesAt CX X σ (E σ)) (ha : PA X (e :: es) t)
    (hst : starEach (e :: es) X.env = (false, eval e X.env) :: starEach es X.env := by rfl) (hpl : (backTo pos (starEach es X.env)).any (·.1) = false := by rfl)
    (ht : eval (.Call (.Attribute o m apos) (e :: es) [] pos) X.env = (do
      let ov ← eval o X.env
      standAt apos.atName
      let (f, first) ← holding [ov] (getMethod ov m pl)
      callWith pos f first (backTo pos (starEach (e :: es) X.env)) (backToKw pos (keywordEach [] X.env))) := by rfl) :
    PE X (.Call (.Attribute o m apos) (e :: es) [] pos) (tMethE C m sp E ta t) := by
  refine ⟨fun pins s σ H Q I h => ?_⟩
  refine PySem.W.methodCall_KW (pl := pl) (thn (he.run pins s σ H _ I h) fun u s1 ⟨x, H1, I1, rx, a, dx, fs, ex, ea, l, q⟩ => ?_) ht
  subst ex
  obtain rfl : u = Value.ref a := rx
  refine getmeth_ok I1 ea c hm l ?_
  refine PySem.W.callWith_K (first := [.ref a]) (h₀ := X.base) I.ok.mod.kin hm.kp (thn (ha.run pos pins s1 σ H1 _ I1 q) fun us s2 ⟨vs, H2, I2, r, q2⟩ => ⟨I2.kIn, ?_⟩) hst hpl
  exact run_fnS (E := E) (us := .ref a :: us) (vs := .ref a :: vs) F hr hb (hx σ) I2 (.cons rfl r) q2
end
/-- the text's method shifted -/
structure MShift (P : Program) (w : World) (K : PySem.W.Frag) (mg : Str → Option Value) (base : Heap) (C Ct : Addr) : Prop where
  at_ : ∃ (f : Addr) (fd : FuncData) (ps : List Str), Meth K C "shifted" f ∧ FnOk P w K mg base (L2.CX P w) 7 f fd ps (spShift K w C Ct) ∧ Binds K fd ps []
def spLawSh (K : PySem.W.Frag) (w : World) (C : Addr) : Sp := fun vs H Q _ => ∃ p P v d s, vs = [.ref p, v, .int s] ∧ FrAt K C H p P ∧ DV K w H v d ∧ shT d ∧ small s = true ∧
  (anyT P d = false → ∀ H', Same H H' → Q (.str "term") H') ∧
  ∀ ds i, d = .tuple (ds ++ [.int i]) → anyT P d = true → (small (i + s) = false → ∀ H', Same H H' → Q (.str "term") H') ∧ (small (i + s) = true → ∀ H' p', Same H H' → Dp K H' (.ref p') (.tuple (ds ++ [.int (i + s)])) → Q (.ref p') H')
section
variable {K : PySem.W.Frag} {mg : Str → Option Value} {base : Heap} {P : Program} {w : World}
abbrev n45 : List Str := ["_law_frame_here", "_law_term", "_law_shift"]
end
end Fc
namespace Fc
open PySem L2 PyProof.Rows
/-! the draws -/
/-- all but what lies at S and G stays -/
def ButSG (S G : Addr) (H H' : Hp) : Prop := ∀ b o, b ≠ S → b ≠ G → H b = some o → H' b = some o
theorem ButSG.refl (S G : Addr) (H : Hp) : ButSG S G H H := fun _ _ _ _ h => h
theorem ButSG.trans {S G : Addr} {H H1 H2 : Hp} (a : ButSG S G H H1) (b : ButSG S G H1 H2) : ButSG S G H H2 := fun x o p q h => b x o p q (a x o p q h)
theorem ButSG.same {S G : Addr} {H H' : Hp} (s : Same H H') : ButSG S G H H' := fun b o _ _ h => s b o h
theorem ButSG.updS {S G : Addr} {H : Hp} {o : HO} : ButSG S G H (upd H S o) := fun b _ p _ h => by rw [upd_ne p]; exact h
theorem ButSG.updG {S G : Addr} {H : Hp} {o : HO} : ButSG S G H (upd H G o) := fun b _ _ p h => by rw [upd_ne p]; exact h
/-- a skein at S, its numbers at G, n pulls at most so far -/
structure SkAt (H : Hp) (S G : Addr) (n : Int) : Prop where
  ne : S ≠ G
  ex : ∃ (gs : List Int) (m c : Int), H S = some (.lst [.ref G, .int m, .int c]) ∧ H G = some (.lst (gs.map V.int)) ∧ (0 ≤ m ∧ m < 2 ^ 62) ∧ 0 ≤ c ∧ c ≤ n
def spPull (K : PySem.W.Frag) : Sp := fun vs H Q _ => ∃ S G n t, vs = [.ref S, .int t] ∧ SkAt H S G n ∧ n < 2 ^ 60 ∧ 0 < t ∧ t < 1000 ∧ ∀ r H', 0 ≤ r → r < t → ButSG S G H H' → SkAt H' S G (n + 1) → Q (.int r) H'
theorem dps_ints {K : PySem.W.Frag} {H : Hp} : ∀ l : List Int, DpAll K H (l.map V.int) (l.map PyData.int)
  | [] => .nil
  | x :: l => .cons (.int x) (dps_ints l)
theorem pl_ints (l : List Int) : plD (.list (l.map PyData.int)) := by
  refine ⟨plainAll_iff _ fun d hd => by obtain ⟨x, _, rfl⟩ := List.mem_map.mp hd; rfl, ?_⟩
  have e2 : PyData.depthAll (l.map PyData.int) ≤ 0 := (depAll_iff 0 _).mpr fun d hd => by obtain ⟨x, _, rfl⟩ := List.mem_map.mp hd; exact Nat.le_refl _
  show PyData.depthAll (l.map PyData.int) + 1 ≤ 64
  omega
section
variable {K : PySem.W.Frag} {mg : Str → Option Value} {base : Heap} {P : Program} {w : World}
abbrev n34 : List Str := ["_law_skein_here", "_law_total", "_law_one", "_law_two"]
theorem sc34 : FnScope n34 ["_law_skein_here", "_law_total"] (defScope (topS 34)) := ⟨rfl, rfl, rfl, by decide +kernel, rfl, by decide +kernel, by decide +kernel⟩
theorem ok34 {f : Addr} {fd : FuncData} (F : Fun K "_law_pull" "_law_pull" (topS 34) f fd) (B : Blt mg) : FnOk P w K mg base CX0 1 f fd ["_law_skein_here", "_law_total"] (spPull K) := by
  refine F.ok sc34 (fun vs H Q E h => ?_) (fun cdv A outer s H vs Q E hr h => ?_)
  · obtain ⟨S, G, n, t, rfl, _⟩ := h
    rfl
  · have hu := hu70 hr
    refine ⟨_, pss_cons (ps_while PassesOwn.never (pw_and (pt_cmpR (op_neP (hu64 hu)) (pe_ix ix_list (pv 0) pe_int (fun _ _ => rfl)) (pe_lst pa_nil) (nomark _)) (pw_and1 (pt_cmpR op_eq (pe_ix ix_list (pe_ix ix_list (pv 0) pe_int (fun _ _ => rfl)) pe_int (fun _ _ => rfl)) pe_int (nomark _)))).pt
        (pss_one (ps_expr (pe_bm PySem.F.plainAttrs_list PySem.F.slot_list_pop PySem.F.type_list_pop mt_popAt (pe_ix ix_list (pv 0) pe_int (fun _ _ => rfl)) (pa_cons pe_int pa_nil)))))
      (pss_cons (ps_if (pt_cmpR (op_neP (hu64 hu)) (pe_ix ix_list (pv 0) pe_int (fun _ _ => rfl)) (pe_lst pa_nil) (nomark _))
        (pss_cons (ps_set (i := 2) sc34.nd rfl (Or.inl rfl) (pe_callTy call_int1 (by rfl) B.int boot_int (pa_cons (pe_ix ix_list (pe_ix ix_list (pv 0) pe_int (fun _ _ => rfl)) pe_int (fun _ _ => rfl)) pa_nil)))
        (pss_cons (ps_asg (pe_op op_fdiv (pv 2) (pv 1)) (pg_sub (pe_ix ix_list (pv 0) pe_int (fun _ _ => rfl)) pe_int set_list))
        (pss_one (ps_ret (pe_op op_mod (pv 2) (pv 1)))))) pss_nil)
      (pss_cons (ps_asg (pe_op op_add (pe_ix ix_list (pv 0) pe_int (fun _ _ => rfl)) pe_int) (pg_sub (pv 0) pe_int set_list))
      (pss_cons (ps_set (i := 2) sc34.nd rfl (Or.inl rfl) (pe_op op_mod (pe_callTy call_int1 (by rfl) B.int boot_int (pa_cons (pe_op op_add (pe_op op_mul (pe_ix ix_list (pv 0) pe_int (fun _ _ => rfl)) pe_int) (pe_op op_mul (pe_ix ix_list (pv 0) pe_int (fun _ _ => rfl)) pe_int)) pa_nil)) pe_int))
      (pss_cons (ps_set (i := 3) sc34.nd rfl (Or.inl rfl) (pe_op op_mod (pe_callTy call_int1 (by rfl) B.int boot_int (pa_cons (pe_op op_add (pe_op op_mul (pv 2) (pv 2)) (pe_op op_mul pe_int (pe_ix ix_list (pv 0) pe_int (fun _ _ => rfl)))) pa_nil)) pe_int))
      (pss_one (ps_ret (pe_op op_mod (pe_callTy call_int1 (by rfl) B.int boot_int (pa_cons (pe_op op_fdiv (pe_op op_mod (pe_callTy call_int1 (by rfl) B.int boot_int (pa_cons (pe_op op_add (pe_op op_mul (pv 3) pe_int) (pv 2)) pa_nil)) pe_int) pe_int) pa_nil)) (pv 1)))))))), ?_⟩
    obtain ⟨S, G, n, t, rfl, ⟨ne, gs, m, c, hS, hG, ⟨m0, m1⟩, c0, cn⟩, nb, t0, t1, q⟩ := h
    have i0 : ∀ (a b c : V), atI [a, b, c] 0 = some a := fun a b c => atI_nat (j := 0) rfl
    have i1 : ∀ (a b c : V), atI [a, b, c] 1 = some b := fun a b c => atI_nat (j := 1) rfl
    have i2 : ∀ (a b c : V), atI [a, b, c] 2 = some c := fun a b c => atI_nat (j := 2) rfl
    have ne' : G ≠ S := fun e => ne e.symm
    -- the test: is the list of numbers []?
    have isE : ∀ gs : List Int, PyData.eqv (.list (gs.map PyData.int)) (.list []) = decide (gs = []) := fun gs => by
      cases gs with
      | nil => rfl
      | cons x l => rfl
    refine ⟨fun k σ H' => σ = [some (.ref S), some (.int t), none, none] ∧ ButSG S G H H' ∧ ∃ gs : List Int, k = gs.length ∧ H' S = some (.lst [.ref G, .int m, .int c]) ∧ H' G = some (.lst (gs.map V.int)), ⟨gs.length, rfl, ButSG.refl S G H, gs, rfl, hS, hG⟩, ?_⟩
    rintro k σ H1 ⟨rfl, b1, gs, rfl, hS, hG⟩
    refine ⟨_, rfl, S, _, 0, _, rfl, rfl, .inl (.inl hS), i0 _ _ _, Nat.zero_le _, fun L hL => ?_⟩
    have s1 := same_new (o := .lst ([] : List V)) hL
    refine ⟨.list (gs.map PyData.int), .list [], .lst (.inl (.inl (s1 _ _ hG))) (dps_ints gs), .lst (.inl (.inl upd_same)) .nil, pl_ints gs, pl_ints [], _, rfl, ?_⟩
    rw [isE]
    -- what is left, with no numbers
    have rest : ∀ H2, ButSG S G H H2 → H2 S = some (.lst [.ref G, .int m, .int c]) → H2 G = some (.lst []) → True := fun _ _ _ _ => trivial
    cases gs with
    | cons x l =>
      have hG1 := s1 _ _ hG
      have hS1 := s1 _ _ hS
      have ax : atI ((x :: l).map V.int) 0 = some (.int x) := atI_nat (j := 0) rfl
      have b2 := b1.trans (ButSG.same s1)
      refine iteT ⟨_, rfl, S, _, 0, _, rfl, rfl, .inl (.inl hS1), i0 _ _ _, G, _, 0, _, rfl, rfl, .inl (.inl hG1), ax, rfl, _, rfl, ?_⟩
      by_cases cx : x = 0
      · subst cx
        refine iteT ⟨_, fun σ' H' h => ⟨l.length, by simp, h⟩, _, rfl, S, _, 0, _, rfl, rfl, .inl (.inl hS1), i0 _ _ _, ?_⟩
        refine ⟨?_, G, _, 0, 0, _, rfl, rfl, hG1, by decide, by decide, ?_, rfl, ?_⟩
        · exact .inl ⟨rfl, _, .inl (.inl hG1)⟩
        · exact (ixN_seq (by unfold ixN; simp)).1
        · exact ⟨rfl, b2.trans ButSG.updG, l, rfl, by rw [upd_ne ne]; exact hS1, upd_same⟩
      · rw [decide_eq_false (fun e => cx (V.int.inj e))]
        refine iteF ⟨_, rfl, S, _, 0, _, rfl, rfl, .inl (.inl hS1), i0 _ _ _, Nat.zero_le _, fun L2 hL2 => ?_⟩
        have s2 := same_new (o := .lst ([] : List V)) hL2
        have hG2 := s2 _ _ hG1
        have hS2 := s2 _ _ hS1
        have b3 := b2.trans (ButSG.same s2)
        refine ⟨.list ((x :: l).map PyData.int), .list [], .lst (.inl (.inl hG2)) (dps_ints (x :: l)), .lst (.inl (.inl upd_same)) .nil, pl_ints (x :: l), pl_ints [], _, rfl, ?_⟩
        rw [isE]
        refine iteT ⟨_, rfl, S, _, 0, _, rfl, rfl, .inl (.inl hS2), i0 _ _ _, G, _, 0, _, rfl, rfl, .inl (.inl hG2), ax, .inl ⟨_, rfl, ?_⟩⟩
        refine ⟨_, rfl, _, rfl, _, _, rfl, rfl, ⟨t0, by omega⟩, _, rfl, S, _, 0, _, rfl, rfl, .inl (.inl hS2), i0 _ _ _, G, _, 0, 0, rfl, rfl, hG2, by unfold ixN; simp, ?_⟩
        refine ⟨_, rfl, _, rfl, _, _, rfl, rfl, t0, ?_⟩
        refine q _ _ (Int.emod_nonneg _ (by omega)) (Int.emod_lt_of_pos _ t0) (b3.trans ButSG.updG) ⟨ne, (x / t) :: l, m, c, by rw [upd_ne ne]; exact hS2, upd_same, ⟨m0, m1⟩, c0, by omega⟩
    | nil =>
      have hG1 := s1 _ _ hG
      have hS1 := s1 _ _ hS
      have b2 := b1.trans (ButSG.same s1)
      refine iteF ⟨_, rfl, S, _, 0, _, rfl, rfl, .inl (.inl hS1), i0 _ _ _, Nat.zero_le _, fun L2 hL2 => ?_⟩
      have s2 := same_new (o := .lst ([] : List V)) hL2
      have hG2 := s2 _ _ hG1
      have hS2 := s2 _ _ hS1
      have b3 := b2.trans (ButSG.same s2)
      refine ⟨.list (([] : List Int).map PyData.int), .list [], .lst (.inl (.inl hG2)) (dps_ints []), .lst (.inl (.inl upd_same)) .nil, pl_ints [], pl_ints [], _, rfl, ?_⟩
      rw [isE]
      refine iteF ⟨_, rfl, S, _, 2, _, rfl, rfl, .inl (.inl hS2), i2 _ _ _, _, _, rfl, rfl, _, rfl, S, _, 2, 2, rfl, rfl, hS2, rfl, ?_⟩
      have hS3 : (upd (upd (upd H1 L (.lst [])) L2 (.lst [])) S (.lst ([V.ref G, V.int m, V.int c].set 2 (.int (c + 1))))) S = some (.lst [.ref G, .int m, .int (c + 1)]) := upd_same
      have hG3 : (upd (upd (upd H1 L (.lst [])) L2 (.lst [])) S (.lst ([V.ref G, V.int m, V.int c].set 2 (.int (c + 1))))) G = some (.lst []) := by rw [upd_ne ne']; exact hG2
      have b4 : ButSG S G H (upd (upd (upd H1 L (.lst [])) L2 (.lst [])) S (.lst ([V.ref G, V.int m, V.int c].set 2 (.int (c + 1))))) := b3.trans ButSG.updS
      generalize upd (upd (upd H1 L (.lst [])) L2 (.lst [])) S (.lst ([V.ref G, V.int m, V.int c].set 2 (.int (c + 1)))) = H4 at *
      have p1 : (0 : Int) < 2305843009213693951 := by decide
      have p2 : (0 : Int) < 1152921504606846883 := by decide
      have p3 : (0 : Int) < 2305843009213693921 := by decide
      refine ⟨_, rfl, S, _, 1, _, rfl, rfl, .inl (.inl hS3), i1 _ _ _, _, _, rfl, rfl, .inl ⟨by omega, by omega⟩, _, rfl, S, _, 2, _, rfl, rfl, .inl (.inl hS3), i2 _ _ _, _, _, rfl, rfl, .inl ⟨by omega, by omega⟩, _, _, rfl, rfl, .inl ⟨_, rfl, _, _, rfl, rfl, p1, ?_⟩⟩
      have g0 := Int.emod_nonneg (m * 6364136223846793005 + (c + 1) * 2246822519) (show (2305843009213693951 : Int) ≠ 0 by decide)
      have g1 := Int.emod_lt_of_pos (m * 6364136223846793005 + (c + 1) * 2246822519) p1
      generalize (m * 6364136223846793005 + (c + 1) * 2246822519) % 2305843009213693951 = a at *
      refine ⟨_, rfl, _, rfl, _, _, rfl, rfl, .inl ⟨by omega, by omega⟩, _, rfl, S, _, 2, _, rfl, rfl, .inl (.inl hS3), i2 _ _ _, _, _, rfl, rfl, .inl ⟨by decide, by decide⟩, _, _, rfl, rfl, .inl ⟨_, rfl, _, _, rfl, rfl, p2, ?_⟩⟩
      have g2 := Int.emod_nonneg (a * a + 104729 * (c + 1)) (show (1152921504606846883 : Int) ≠ 0 by decide)
      have g3 := Int.emod_lt_of_pos (a * a + 104729 * (c + 1)) p2
      generalize (a * a + 104729 * (c + 1)) % 1152921504606846883 = d at *
      refine ⟨_, rfl, _, _, rfl, rfl, .inl ⟨by omega, by omega⟩, _, rfl, _, _, rfl, rfl, .inl ⟨_, rfl, _, _, rfl, rfl, p3, _, _, rfl, rfl, ⟨by decide, by decide⟩, .inl ⟨_, rfl, _, rfl, _, _, rfl, rfl, t0, ?_⟩⟩⟩
      exact q _ _ (Int.emod_nonneg _ (by omega)) (Int.emod_lt_of_pos _ t0) b4 ⟨ne, [], m, c + 1, hS3, hG3, ⟨m0, m1⟩, by omega, by omega⟩
end
end Fc
namespace Fc
open PySem L2 PyProof.Rows
theorem ButSG.seq {K : PySem.W.Frag} {S G p : Addr} {H H' : Hp} {xs : List V} (b : ButSG S G H H') (h1 : p ≠ S) (h2 : p ≠ G) (h : SqL K H p xs) : SqL K H' p xs := by
  rcases h with (h | ⟨o, h⟩) | h
  · exact .inl (.inl (b _ _ h1 h2 h))
  · exact .inl (.inr ⟨o, b _ _ h1 h2 h⟩)
  · exact .inr h
def spOne (K : PySem.W.Frag) : Sp := fun vs H Q _ => ∃ S G n p xs, vs = [.ref S, .ref p] ∧ SkAt H S G n ∧ n < 2 ^ 60 ∧ SqL K H p xs ∧ p ≠ S ∧ p ≠ G ∧ xs ≠ [] ∧ xs.length < 1000 ∧ ∀ v H', v ∈ xs → ButSG S G H H' → SkAt H' S G (n + 1) → Q v H'
section
variable {K : PySem.W.Frag} {mg : Str → Option Value} {base : Heap} {P : Program} {w : World}
abbrev n35 : List Str := ["_law_skein_here", "_law_items"]
theorem sc35 : FnScope n35 n35 (defScope (topS 35)) := ⟨rfl, rfl, rfl, by decide +kernel, rfl, by decide +kernel, by decide +kernel⟩
theorem ok35 {f : Addr} {fd : FuncData} (F : Fun K "_law_one_of" "_law_one_of" (topS 35) f fd) (B : Blt mg) (c34 : Cal P w K mg base 1 "_law_pull" (spPull K)) : FnOk P w K mg base CX0 2 f fd n35 (spOne K) := by
  refine F.ok sc35 (fun vs H Q E h => ?_) (fun cdv A outer s H vs Q E hr h => ?_)
  · obtain ⟨S, G, n, p, xs, rfl, _⟩ := h
    rfl
  · refine ⟨_, pss_one (ps_ret (pe_ix ix_list (pv 1) (pe_c c34 hr (by decide) (by rfl) (pa_cons (pv 0) (pa_cons (pe_callB call_len_seq (by rfl) B.len boot_len (pa_cons (pv 1) pa_nil)) pa_nil))) (fun _ _ => rfl))), ?_⟩
    obtain ⟨S, G, n, p, xs, rfl, sk, nb, sl, h1, h2, nn, hl, q⟩ := h
    have pos : 0 < xs.length := List.length_pos_iff.mpr nn
    refine ⟨_, rfl, _, rfl, _, rfl, p, xs, rfl, .inl sl, S, G, n, _, rfl, sk, nb, by omega, by omega, fun r H' r0 r1 b sk' => ?_⟩
    have hr : r.toNat < xs.length := by omega
    have hat : atI xs r = some xs[r.toNat] := by
      have h := atI_nat (List.getElem?_eq_getElem hr)
      rw [show ((r.toNat : Nat) : Int) = r by omega] at h
      exact h
    exact ⟨p, xs, r, _, rfl, rfl, b.seq h1 h2 sl, hat, q _ _ (List.getElem_mem hr) b sk'⟩
end
end Fc
namespace Fc
open PySem L2 PyProof.Rows
theorem erase_perm : ∀ (l : List V) (i : Nat) (h : i < l.length), (l[i] :: l.eraseIdx i).Perm l
  | x :: l, 0, _ => List.Perm.refl _
  | x :: l, i + 1, h => (List.Perm.swap x _ _).trans (List.Perm.cons x (erase_perm l i (by simpa using h)))
def spFew (K : PySem.W.Frag) : Sp := fun vs H Q _ => ∃ (S G : Addr) (n : Int) (p : Addr) (xs : List V) (k : Nat), vs = [.ref S, .ref p, .int (k : Int)] ∧ SkAt H S G n ∧ n + 100 < 2 ^ 60 ∧ SqL K H p xs ∧ p ≠ S ∧ p ≠ G ∧ xs.length ≤ 60 ∧
  ∀ H' F ys zs, ButSG S G H H' → SkAt H' S G (n + 60) → H F = none → H' F = some (.lst ys) → ys.length = min k xs.length → xs.Perm (ys ++ zs) → Q (.ref F) H'
section
variable {K : PySem.W.Frag} {mg : Str → Option Value} {base : Heap} {P : Program} {w : World}
abbrev n36 : List Str := ["_law_skein_here", "_law_items", "_law_count", "_law_left", "_law_found", "_law_turn"]
theorem sc36 : FnScope n36 ["_law_skein_here", "_law_items", "_law_count"] (defScope (topS 36)) := ⟨rfl, rfl, rfl, by decide +kernel, rfl, by decide +kernel, by decide +kernel⟩
theorem ok36 {f : Addr} {fd : FuncData} (F : Fun K "_law_few_of" "_law_few_of" (topS 36) f fd) (B : Blt mg) (c34 : Cal P w K mg base 1 "_law_pull" (spPull K)) : FnOk P w K mg base CX0 2 f fd ["_law_skein_here", "_law_items", "_law_count"] (spFew K) := by
  refine F.ok sc36 (fun vs H Q E h => ?_) (fun cdv A outer s H vs Q E hr h => ?_)
  · obtain ⟨S, G, n, p, xs, k, rfl, _⟩ := h
    rfl
  · refine ⟨_, pss_cons (ps_par (i := 3) (j := 4) rfl sc36.nd rfl rfl (by decide) rfl rfl (pa_cons (pe_callTy call_list_of (by rfl) B.list boot_list (pa_cons (pv 1) pa_nil)) (pa_cons (pe_lst pa_nil) pa_nil)) (by rfl))
      (pss_cons (ps_for PassesOwn.never rfl (pi_range1 (by rfl) B.range (pa_cons (pe_callB (call_min2 rfl) (by rfl) B.min boot_min (pa_cons (pv 2) (pa_cons (pe_callB call_len_seq (by rfl) B.len boot_len (pa_cons (pv 1) pa_nil)) pa_nil))) pa_nil)) (pg_name (i := 5) sc36.nd rfl (Or.inl rfl))
        (pss_one (ps_expr (pe_bm PySem.F.plainAttrs_list PySem.F.slot_list_append PySem.F.type_list_append mt_append (pv 4) (pa_cons (pe_bm PySem.F.plainAttrs_list PySem.F.slot_list_pop PySem.F.type_list_pop mt_popAt (pv 3)
          (pa_cons (pe_c c34 hr (by decide) (by rfl) (pa_cons (pv 0) (pa_cons (pe_callB call_len_seq (by rfl) B.len boot_len (pa_cons (pv 3) pa_nil)) pa_nil))) pa_nil)) pa_nil)))))
      (pss_one (ps_ret (pv 4)))), ?_⟩
    obtain ⟨S, G, n, p, xs, k, rfl, sk, nb, sl, h1, h2, hl, q⟩ := h
    refine ⟨_, rfl, p, xs, rfl, .inl sl, fun L hL => ?_⟩
    have s1 := same_new (o := .lst xs) hL
    refine ⟨Nat.zero_le _, fun M hM => ?_⟩
    have s2 := same_new (o := .lst ([] : List V)) hM
    obtain ⟨ne, gs, m, c, hS, hG, hm, hc⟩ := id sk
    have nLS : L ≠ S := fun e => by rw [e, hS] at hL; cases hL
    have nLG : L ≠ G := fun e => by rw [e, hG] at hL; cases hL
    have s12 := s1.trans s2
    have hM0 : H M = none := Same.none_of s1 hM
    have nMS : M ≠ S := fun e => by rw [e, hS] at hM0; cases hM0
    have nMG : M ≠ G := fun e => by rw [e, hG] at hM0; cases hM0
    have nML : M ≠ L := fun e => by rw [e, upd_same] at hM; cases hM
    have bit : ∀ {H1 : Hp} {a : Addr} {o : HO}, H a = none → ButSG S G H H1 → ButSG S G H (upd H1 a o) := fun ha b x o' p q e => by rw [upd_ne (ne_of_none e ha)]; exact b x o' p q e
    have skL : ∀ {H1 : Hp} {a : Addr} {o : HO} {n : Int}, a ≠ S → a ≠ G → SkAt H1 S G n → SkAt (upd H1 a o) S G n := fun h1 h2 ⟨e, gs, m, c, a, b, d⟩ => ⟨e, gs, m, c, by rw [upd_ne h1.symm]; exact a, by rw [upd_ne h2.symm]; exact b, d⟩
    have hL2 : (upd (upd H L (.lst xs)) M (.lst [])) L = some (.lst xs) := s2 _ _ upd_same
    have hM2 : (upd (upd H L (.lst xs)) M (.lst [])) M = some (.lst []) := upd_same
    have b2 : ButSG S G H (upd (upd H L (.lst xs)) M (.lst [])) := ButSG.same s12
    have sk2 : SkAt (upd (upd H L (.lst xs)) M (.lst [])) S G n := skL nMS nMG (skL nLS nLG sk)
    have sl2 : SqL K (upd (upd H L (.lst xs)) M (.lst [])) p xs := b2.seq h1 h2 sl
    generalize upd (upd H L (.lst xs)) M (.lst []) = H2 at *
    refine ⟨_, _, rfl, _, rfl, _, rfl, p, xs, rfl, .inl sl2, _, _, rfl, _, rfl, by split <;> omega, by split <;> omega, ?_⟩
    have eN : (if ((xs.length : Nat) : Int) < (k : Int) then ((xs.length : Nat) : Int) else (k : Int)).toNat = min k xs.length := by split <;> omega
    rw [eN]
    refine for_steady steady_rng (fun i σ H' => (∃ z, σ = [some (.ref S), some (.ref p), some (.int k), some (.ref L), some (.ref M), z]) ∧ ButSG S G H H' ∧ SkAt H' S G (n + i) ∧ ∃ ls ys, H' L = some (.lst ls) ∧ H' M = some (.lst ys) ∧ ys.length = i ∧ ls.length + i = xs.length ∧ xs.Perm (ys ++ ls)) ⟨⟨_, rfl⟩, b2, by simpa using sk2, xs, [], hL2, hM2, rfl, rfl, List.Perm.refl _⟩ (fun _ _ _ _ _ => trivial) ?_ ?_
    · rintro i σ H3 hi ⟨⟨z, rfl⟩, b3, sk3, ls, ys, hL3, hM3, ly, ll, pm⟩
      refine ⟨_, rfl, .inl ⟨rfl, _, .inl (.inl hM3)⟩, _, rfl, .inl ⟨rfl, _, .inl (.inl hL3)⟩, _, rfl, _, rfl, L, ls, rfl, .inl (.inl (.inl hL3)), S, G, n + i, _, rfl, sk3, by omega, by omega, by omega, fun r H4 r0 r1 b4 sk4 => ?_⟩
      have hr : r.toNat < ls.length := by omega
      have hL4 := b4 _ _ nLS nLG hL3
      have hM4 := b4 _ _ nMS nMG hM3
      refine ⟨L, ls, r, r.toNat, ls[r.toNat], rfl, rfl, hL4, by omega, by omega, (ixN_seq (by unfold ixN; rw [if_pos r0, if_pos r1])).1, List.getElem?_eq_getElem hr, ?_⟩
      have hM5 : (upd H4 L (.lst (ls.eraseIdx r.toNat))) M = some (.lst ys) := by rw [upd_ne nML]; exact hM4
      refine ⟨M, ys, _, rfl, rfl, hM5, by rw [sizeLine_eq]; omega, ⟨_, rfl⟩, bit hM0 (bit hL (b3.trans b4)), ?_, ls.eraseIdx r.toNat, ys ++ [ls[r.toNat]], ?_, upd_same, ?_, ?_, ?_⟩
      · have := skL (o := .lst (ys ++ [ls[r.toNat]])) nMS nMG (skL (o := .lst (ls.eraseIdx r.toNat)) nLS nLG sk4)
        rw [show n + ((i + 1 : Nat) : Int) = n + i + 1 by omega]
        exact this
      · rw [upd_ne nML.symm]; exact upd_same
      · rw [List.length_append, ly]; rfl
      · rw [List.length_eraseIdx_of_lt hr]; omega
      · refine pm.trans ?_
        rw [List.append_assoc]
        exact List.Perm.append_left ys (erase_perm ls r.toNat hr).symm
    · rintro σ H3 ⟨⟨z, rfl⟩, b3, sk3, ls, ys, hL3, hM3, ly, ll, pm⟩
      refine ⟨_, rfl, q H3 M ys ls b3 ?_ hM0 hM3 ly pm⟩
      obtain ⟨e, gs, m, c, a1, a2, a3, a4, a5⟩ := sk3
      exact ⟨e, gs, m, c, a1, a2, a3, a4, by omega⟩
end
end Fc
namespace Fc
open PySem L2 PyProof.Rows
/-- the parts that are made of twelve words: h heads with lengths by b, j positions, k values -/
def drawnP (ws : List Str) (h : Nat) (b : Nat → Nat) (j k : Nat) : Pa := ⟨(List.range h).map fun i => (ws.getD i Str.empty, ws.getD (3 + b i) Str.empty), (ws.drop 6).take j, (ws.drop 9).take k⟩
theorem drawn_mem {ws : List Str} (l12 : ws.length = 12) {h j k : Nat} {b : Nat → Nat} (hh : h ≤ 3) (hb : ∀ i, b i ≤ 1) (hj : j ≤ 3) (hk : k ≤ 3) :
    (∀ x ∈ (drawnP ws h b j k).arrays.map (·.1), ∃ i, i < 3 ∧ ws[i]? = some x) ∧ (∀ x ∈ lensOf (drawnP ws h b j k).arrays, ∃ i, 3 ≤ i ∧ i < 5 ∧ ws[i]? = some x) ∧
    (∀ x ∈ (drawnP ws h b j k).pos, ∃ i, 6 ≤ i ∧ i < 9 ∧ ws[i]? = some x) ∧ (∀ x ∈ (drawnP ws h b j k).vals, ∃ i, 9 ≤ i ∧ i < 12 ∧ ws[i]? = some x) := by
  have at_ : ∀ i, i < 12 → ws[i]? = some (ws.getD i Str.empty) := fun i hi => by
    rw [List.getD_eq_getElem?_getD, List.getElem?_eq_getElem (by omega)]; rfl
  refine ⟨fun x hx => ?_, fun x hx => ?_, fun x hx => ?_, fun x hx => ?_⟩
  · obtain ⟨e, he, rfl⟩ := List.mem_map.mp hx
    obtain ⟨i, hi, rfl⟩ := List.mem_map.mp he
    have := List.mem_range.mp hi
    exact ⟨i, by omega, at_ i (by omega)⟩
  · rw [lens_once, mem_onceS] at hx
    obtain ⟨e, he, rfl⟩ := List.mem_map.mp hx
    obtain ⟨i, hi, rfl⟩ := List.mem_map.mp he
    have := hb i
    exact ⟨3 + b i, by omega, by omega, at_ _ (by omega)⟩
  · replace hx : x ∈ (ws.drop 6).take j := hx
    obtain ⟨i, hi, e⟩ := List.mem_iff_getElem.mp hx
    have l : i < ((ws.drop 6).take j).length := hi
    rw [List.length_take, List.length_drop] at l
    refine ⟨6 + i, by omega, by omega, ?_⟩
    rw [← e]
    rw [List.getElem_take, List.getElem_drop, List.getElem?_eq_getElem]
  · replace hx : x ∈ (ws.drop 9).take k := hx
    obtain ⟨i, hi, e⟩ := List.mem_iff_getElem.mp hx
    have l : i < ((ws.drop 9).take k).length := hi
    rw [List.length_take, List.length_drop] at l
    refine ⟨9 + i, by omega, by omega, ?_⟩
    rw [← e]
    rw [List.getElem_take, List.getElem_drop, List.getElem?_eq_getElem]
theorem drawn_ok {ws : List Str} (l12 : ws.length = 12) (nd : ws.Nodup) {h j k : Nat} {b : Nat → Nat} (hh : h ≤ 3) (hb : ∀ i, b i ≤ 1) (hj : j ≤ 3) (hk : k ≤ 3) : okB (drawnP ws h b j k) = true := by
  obtain ⟨m1, m2, m3, m4⟩ := drawn_mem l12 (b := b) hh hb hj hk
  have inj : ∀ {i i' : Nat} {x : Str}, ws[i]? = some x → ws[i']? = some x → i = i' := fun {i i' x} a b => by
    obtain ⟨p, q⟩ := List.getElem?_eq_some_iff.mp a
    obtain ⟨p', q'⟩ := List.getElem?_eq_some_iff.mp b
    have pw := List.pairwise_iff_getElem.mp nd
    rcases Nat.lt_trichotomy i i' with c | c | c
    · exact absurd (q.trans q'.symm) (pw i i' p p' c)
    · exact c
    · exact absurd (q'.trans q.symm) (pw i' i p' p c)
  have e1 : (drawnP ws h b j k).arrays.map (·.1) = ws.take h := by
    refine List.ext_getElem (by simp [drawnP]; omega) fun i h1 h2 => ?_
    simp only [drawnP, List.getElem_map, List.getElem_range, List.getElem_take]
    rw [List.getD_eq_getElem?_getD, List.getElem?_eq_getElem (by simp [drawnP] at h1; omega)]
    rfl
  have n1 : ((drawnP ws h b j k).arrays.map (·.1)).Nodup := by rw [e1]; exact nd.sublist (List.take_sublist ..)
  have n2 : (lensOf (drawnP ws h b j k).arrays).Nodup := by rw [lens_once]; exact onceS_nodup _
  have n3 : (drawnP ws h b j k).pos.Nodup := nd.sublist ((List.take_sublist ..).trans (List.drop_sublist ..))
  have n4 : (drawnP ws h b j k).vals.Nodup := nd.sublist ((List.take_sublist ..).trans (List.drop_sublist ..))
  have n : (namesL (drawnP ws h b j k)).Nodup := by
    unfold namesL
    refine List.nodup_append.mpr ⟨n1, List.nodup_append.mpr ⟨n2, List.nodup_append.mpr ⟨n3, n4, ?_⟩, ?_⟩, ?_⟩
    · intro x hx y hy e
      subst e
      obtain ⟨i, a1, a2, a3⟩ := m3 x hx
      obtain ⟨i', b1, b2, b3⟩ := m4 x hy
      have := inj a3 b3
      omega
    · intro x hx y hy e
      subst e
      obtain ⟨i, a1, a2, a3⟩ := m2 x hx
      rcases List.mem_append.mp hy with hy | hy
      · obtain ⟨i', b1, b2, b3⟩ := m3 x hy
        have := inj a3 b3
        omega
      · obtain ⟨i', b1, b2, b3⟩ := m4 x hy
        have := inj a3 b3
        omega
    · intro x hx y hy e
      subst e
      obtain ⟨i, a2, a3⟩ := m1 x hx
      rcases List.mem_append.mp hy with hy | hy
      · obtain ⟨i', b1, b2, b3⟩ := m2 x hy
        have := inj a3 b3
        omega
      rcases List.mem_append.mp hy with hy | hy
      · obtain ⟨i', b1, b2, b3⟩ := m3 x hy
        have := inj a3 b3
        omega
      · obtain ⟨i', b1, b2, b3⟩ := m4 x hy
        have := inj a3 b3
        omega
  unfold okB
  simp only [Bool.and_eq_true, decide_eq_true_iff]
  refine ⟨?_, ?_, ?_, n⟩
  · show ((List.range h).map _).length ≤ 12
    rw [List.length_map, List.length_range]; omega
  · show ((ws.drop 6).take j).length ≤ 8
    rw [List.length_take]; omega
  · show ((ws.drop 9).take k).length ≤ 6
    rw [List.length_take]; omega
end Fc
namespace Fc
open PySem L2 PyProof.Rows
def W16 : List Str := ["a", "b", "i", "j", "n", "m", "x", "k", "kk", "in", "not", "pos", "or", "rowrowro", "wa", "zz"]
theorem W16_nd : W16.Nodup := by decide +kernel
theorem W16_nm : ∀ x ∈ W16, isNameS x = true ∧ x.length ≤ 1000 := by decide +kernel
def spParts (K : PySem.W.Frag) : Sp := fun vs H Q _ => ∃ S G n, vs = [.ref S] ∧ SkAt H S G n ∧ n + 200 < 2 ^ 60 ∧ ∀ H' r P, ButSG S G H H' → SkAt H' S G (n + 66) → H r = none → RowAt K H' r P → okB P = true → Q (.ref r) H'
theorem texts_back : ∀ {ys : List V}, (∀ y ∈ ys, ∃ x, y = V.str x) → ∃ ws : List Str, ys = ws.map V.str
  | [], _ => ⟨[], rfl⟩
  | y :: ys, h => by
    obtain ⟨x, rfl⟩ := h y (List.mem_cons_self ..)
    obtain ⟨ws, rfl⟩ := texts_back fun z hz => h z (List.mem_cons_of_mem _ hz)
    exact ⟨x :: ws, rfl⟩
theorem drawn_words {ys zs : List V} (pm : (W16.map V.str).Perm (ys ++ zs)) : ∃ ws : List Str, ys = ws.map V.str ∧ ws.Nodup ∧ ∀ x ∈ ws, x ∈ W16 := by
  have all : ∀ y ∈ ys, ∃ x, y = V.str x := fun y hy => by
    obtain ⟨x, _, e⟩ := List.mem_map.mp (pm.mem_iff.mpr (List.mem_append_left _ hy))
    exact ⟨x, e.symm⟩
  obtain ⟨ws, rfl⟩ := texts_back all
  have nd : (W16.map V.str).Nodup := by
    refine List.pairwise_map.mpr (W16_nd.imp fun h e => h (V.str.inj e))
  have nd2 : (ws.map V.str).Nodup := (List.nodup_append.mp (pm.nodup_iff.mp nd)).1
  refine ⟨ws, rfl, ?_, fun x hx => ?_⟩
  · exact (List.pairwise_map.mp nd2).imp fun h e => h (by rw [e])
  · obtain ⟨y, hy, e⟩ := List.mem_map.mp (pm.mem_iff.mpr (List.mem_append_left zs (List.mem_map.mpr ⟨x, hx, rfl⟩)))
    rw [← V.str.inj e]
    exact hy
theorem tups_but {K : PySem.W.Frag} {S G : Addr} {H H' : Hp} {n : Int} (b : ButSG S G H H') (k : SkAt H S G n) : Tups K H H' := by
  obtain ⟨ne, gs, m, c, hS, hG, _⟩ := k
  have n1 : ∀ {a : Addr} {u : HO}, (∀ l, u ≠ .lst l) → H a = some u → a ≠ S ∧ a ≠ G := fun {a u} h e => ⟨fun z => by rw [z, hS] at e; exact h _ (Option.some.inj e).symm, fun z => by rw [z, hG] at e; exact h _ (Option.some.inj e).symm⟩
  refine Tups.of fun a ys r => r.elim (fun z => ?_) fun ⟨o, z⟩ => ?_
  · obtain ⟨p, q⟩ := n1 (fun _ e => by cases e) z
    exact .inl (b _ _ p q z)
  · obtain ⟨p, q⟩ := n1 (fun _ e => by cases e) z
    exact .inr ⟨o, b _ _ p q z⟩
def rowsB (ws : List Str) (b : Nat → Nat) (i : Nat) : List PyData := (List.range i).map fun t => PyData.tuple [.str (ws.getD t Str.empty), .str (ws.getD (3 + b t) Str.empty)]
theorem rowsB_flat (ws : List Str) (b : Nat → Nat) (i : Nat) : tupDs (rowsB ws b i) = true := by
  unfold rowsB
  induction (List.range i) with
  | nil => rfl
  | cons t l ih => exact ih
theorem rowsB_succ (ws : List Str) (b : Nat → Nat) (i r : Nat) : rowsB ws (fun t => if t = i then r else b t) (i + 1) = rowsB ws b i ++ [PyData.tuple [.str (ws.getD i Str.empty), .str (ws.getD (3 + r) Str.empty)]] := by
  unfold rowsB
  rw [List.range_succ, List.map_append]
  congr 1
  · refine List.map_congr_left fun t ht => ?_
    have := List.mem_range.mp ht
    show PyData.tuple [.str (ws.getD t Str.empty), .str (ws.getD (3 + if t = i then r else b t) Str.empty)] = _
    rw [if_neg (show ¬ t = i by omega)]
  · simp
section
variable {K : PySem.W.Frag} {mg : Str → Option Value} {base : Heap} {P : Program} {w : World}
abbrev n37 : List Str := ["_law_skein_here", "_law_words", "_law_arrays", "_law_at"]
theorem sc37 : FnScope n37 ["_law_skein_here"] (defScope (topS 37)) := ⟨rfl, rfl, rfl, by decide +kernel, rfl, by decide +kernel, by decide +kernel⟩
theorem ok37 {f : Addr} {fd : FuncData} (F : Fun K "_law_parts" "_law_parts" (topS 37) f fd) (B : Blt mg) (c34 : Cal P w K mg base 1 "_law_pull" (spPull K)) (c36 : Cal P w K mg base 2 "_law_few_of" (spFew K)) : FnOk P w K mg base CX0 3 f fd ["_law_skein_here"] (spParts K) := by
  refine F.ok sc37 (fun vs H Q E h => ?_) (fun cdv A outer s H vs Q E hr h => ?_)
  · obtain ⟨S, G, n, rfl, _⟩ := h
    rfl
  · refine ⟨_, pss_cons (ps_set (i := 1) sc37.nd rfl (Or.inl rfl) (pe_lst (pa_cons pe_str (pa_cons pe_str (pa_cons pe_str (pa_cons pe_str (pa_cons pe_str (pa_cons pe_str (pa_cons pe_str (pa_cons pe_str (pa_cons pe_str (pa_cons pe_str (pa_cons pe_str (pa_cons pe_str (pa_cons pe_str (pa_cons pe_str (pa_cons pe_str (pa_cons pe_str pa_nil))))))))))))))))))
      (pss_cons (ps_par (i := 1) (j := 2) rfl sc37.nd rfl rfl (by decide) rfl rfl (pa_cons (pe_c c36 hr (by decide) (by rfl) (pa_cons (pv 0) (pa_cons (pv 1) (pa_cons pe_int pa_nil)))) (pa_cons (pe_lst pa_nil) pa_nil)) (by rfl))
      (pss_cons (ps_for PassesOwn.never rfl (pi_range1 (by rfl) B.range (pa_cons (pe_c c34 hr (by decide) (by rfl) (pa_cons (pv 0) (pa_cons pe_int pa_nil))) pa_nil)) (pg_name (i := 3) sc37.nd rfl (Or.inl rfl))
        (pss_one (ps_expr (pe_bm PySem.F.plainAttrs_list PySem.F.slot_list_append PySem.F.type_list_append mt_append (pv 2) (pa_cons (pe_tup (pa_cons (pe_ix ix_list (pv 1) (pv 3) (fun _ _ => rfl)) (pa_cons (pe_ix ix_list (pv 1) (pe_op op_add pe_int (pe_c c34 hr (by decide) (by rfl) (pa_cons (pv 0) (pa_cons pe_int pa_nil)))) (fun _ _ => rfl)) pa_nil))) pa_nil)))))
      (pss_one (ps_ret (pe_lst (pa_cons (pe_callTy call_tuple_of (by rfl) B.tuple boot_tuple (pa_cons (pv 2) pa_nil))
        (pa_cons (pe_callTy call_tuple_of (by rfl) B.tuple boot_tuple (pa_cons (pe_slice sl_list (pv 1) (po_some pe_int) (po_some (pe_op op_add pe_int (pe_c c34 hr (by decide) (by rfl) (pa_cons (pv 0) (pa_cons pe_int pa_nil)))))) pa_nil))
        (pa_cons (pe_callTy call_tuple_of (by rfl) B.tuple boot_tuple (pa_cons (pe_slice sl_list (pv 1) (po_some pe_int) (po_some (pe_op op_add pe_int (pe_c c34 hr (by decide) (by rfl) (pa_cons (pv 0) (pa_cons pe_int pa_nil)))))) pa_nil)) pa_nil)))))))), ?_⟩
    obtain ⟨S, G, n, rfl, sk, nb, q⟩ := h
    have sl : sizeLine = 16777216 := sizeLine_eq
    refine ⟨by rw [sl]; exact (by decide : 16 ≤ 16777216), fun A hA => ?_⟩
    have s0 := same_new (o := .lst (W16.map V.str)) hA
    obtain ⟨ne, gs, m, c, hS, hG, hm, hc⟩ := id sk
    have nAS : A ≠ S := fun e => by rw [e, hS] at hA; cases hA
    have nAG : A ≠ G := fun e => by rw [e, hG] at hA; cases hA
    have sk0 : SkAt (upd H A (.lst (W16.map V.str))) S G n := ⟨ne, gs, m, c, s0 _ _ hS, s0 _ _ hG, hm, hc⟩
    have hA0 : (upd H A (.lst (W16.map V.str))) A = some (.lst (W16.map V.str)) := upd_same
    refine ⟨_, rfl, _, rfl, S, G, n, A, W16.map V.str, 12, rfl, sk0, by omega, .inl (.inl hA0), nAS, nAG, by decide, fun H1 F1 ys zs b1 sk1 nF hF ly pm => ?_⟩
    have bb : ButSG S G H H1 := (ButSG.same s0).trans b1
    have nF0 : H F1 = none := Same.none_of s0 nF
    have nFS : F1 ≠ S := fun e => by rw [e, hS] at nF0; cases nF0
    have nFG : F1 ≠ G := fun e => by rw [e, hG] at nF0; cases nF0
    clear hS hG hm hc sk0 hA0
    obtain ⟨ws, rfl, nd, mem⟩ := drawn_words pm
    have l12 : ws.length = 12 := by rw [List.length_map] at ly; exact ly
    obtain ⟨ne, gs, m, c, hS, hG, hm, hc⟩ := id sk1
    refine ⟨Nat.zero_le _, fun M hM => ?_⟩
    have s2 := same_new (o := .lst ([] : List V)) hM
    have nMS : M ≠ S := fun e => by rw [e, hS] at hM; cases hM
    have nMG : M ≠ G := fun e => by rw [e, hG] at hM; cases hM
    have nMF : M ≠ F1 := fun e => by rw [e, hF] at hM; cases hM
    have sk2 : SkAt (upd H1 M (.lst [])) S G (n + 60) := ⟨ne, gs, m, c, s2 _ _ hS, s2 _ _ hG, hm, hc⟩
    have hM0 : H M = none := by
      cases e : H M with
      | none => rfl
      | some o => rw [bb _ _ nMS nMG e] at hM; cases hM
    refine ⟨_, _, rfl, _, rfl, S, G, n + 60, 4, rfl, sk2, by omega, by decide, by decide, fun hN H3 r0 r1 b3 sk3 => ⟨_, rfl, by omega, by omega, ?_⟩⟩
    have hF2 := s2 _ _ hF
    have hM2 : (upd H1 M (.lst ([] : List V))) M = some (.lst []) := upd_same
    have hF3 := b3 _ _ nFS nFG hF2
    have hM3 := b3 _ _ nMS nMG hM2
    have bb3 : ButSG S G H H3 := (bb.trans (ButSG.same s2)).trans b3
    clear hF2 hM2 hS hG hm hc sk2 hF hM b3 s2
    have atW : ∀ i, i < 12 → atI (ws.map V.str) (i : Nat) = some (V.str (ws.getD i Str.empty)) := fun i hi => atI_nat (by
      rw [List.getElem?_map, List.getElem?_eq_getElem (by omega), List.getD_eq_getElem?_getD, List.getElem?_eq_getElem (by omega)]; rfl)
    refine for_steady steady_rng (fun i σ H' => ∃ (b : Nat → Nat) (z : Option V) (rs : List V), σ = [some (.ref S), some (.ref F1), some (.ref M), z] ∧ (∀ t, b t ≤ 1) ∧ ButSG S G H H' ∧ SkAt H' S G (n + 61 + i) ∧ H' F1 = some (.lst (ws.map V.str)) ∧ H' M = some (.lst rs) ∧ DpAll K H' rs (rowsB ws b i))
      ⟨fun _ => 0, _, [], rfl, fun _ => Nat.zero_le _, bb3, by rw [show n + 61 + ((0 : Nat) : Int) = n + 60 + 1 by omega]; exact sk3, hF3, hM3, .nil⟩ (fun _ _ _ _ _ => trivial) ?_ ?_
    · rintro i σ H4 hi ⟨b, z, rs, rfl, hb, b4, sk4, hF4, hM4, dr⟩
      have hi3 : i < 3 := by omega
      refine ⟨_, rfl, .inl ⟨rfl, _, .inl (.inl hM4)⟩, _, rfl, _, rfl, F1, _, _, _, rfl, rfl, .inl (.inl hF4), by rw [Int.zero_add]; exact atW i (by omega), _, rfl, _, rfl, S, G, n + 61 + i, 2, rfl, sk4, by omega, by decide, by decide, fun r H5 q0 q1 b5 sk5 => ?_⟩
      have hF5 := b5 _ _ nFS nFG hF4
      have hM5 := b5 _ _ nMS nMG hM4
      refine ⟨_, _, rfl, rfl, F1, _, _, _, rfl, rfl, .inl (.inl hF5), by rw [show (3 : Int) + r = ((3 + r.toNat : Nat) : Int) by omega]; exact atW _ (by omega), by rw [sl]; exact (by decide : 2 ≤ 16777216), fun t ht => ?_⟩
      have s6 := same_new (o := .tup [V.str (ws.getD i Str.empty), V.str (ws.getD (3 + r.toNat) Str.empty)]) ht
      have hM6 := s6 _ _ hM5
      have lr : rs.length = i := by rw [dp_len dr]; unfold rowsB; rw [List.length_map, List.length_range]
      have tp := (Tups.upd (K := K) (H := upd H5 t (.tup [V.str (ws.getD i Str.empty), V.str (ws.getD (3 + r.toNat) Str.empty)])) (a := M) (o := .lst (rs ++ [V.ref t])) fun u e => by rw [hM6] at e; cases e; exact True.intro)
      refine ⟨M, rs, _, rfl, rfl, hM6, by rw [sl]; omega, fun t' => if t' = i then r.toNat else b t', _, rs ++ [.ref t], rfl, fun t' => ?_, fun x o p q e => ?_, ?_, ?_, upd_same, ?_⟩
      · show (if t' = i then r.toNat else b t') ≤ 1
        split
        · omega
        · exact hb t'
      · rw [upd_ne (ne_of_none e hM0)]
        exact ((b4.trans b5).trans (ButSG.same s6)) x o p q e
      · obtain ⟨ne, gs, m, c, a1, a2, a3⟩ := sk5
        exact ⟨ne, gs, m, c, by rw [upd_ne nMS.symm]; exact s6 _ _ a1, by rw [upd_ne nMG.symm]; exact s6 _ _ a2, a3.1, a3.2.1, by have := a3.2.2; omega⟩
      · rw [upd_ne nMF.symm]; exact s6 _ _ hF5
      · rw [rowsB_succ]
        exact dps_app (dps_tups (((tups_but b5 sk4).trans (Tups.same s6)).trans tp) _ _ (rowsB_flat ws b i) dr) (.cons (.tup (tp _ _ (.inl (.inl upd_same))) (.cons (.str _) (.cons (.str _) .nil))) .nil)
    · rintro σ H4 ⟨b, z, rs, rfl, hb, b4, sk4, hF4, hM4, dr⟩
      refine ⟨_, rfl, M, rs, rfl, .inl ⟨.inl (.inl hM4), fun t1 h1 => ?_⟩⟩
      have s5 := same_new (o := .tup rs) h1
      have sk5 : SkAt (upd H4 t1 (.tup rs)) S G (n + 64) := by
        obtain ⟨ne, gs, m, c, a1, a2, a3⟩ := sk4
        exact ⟨ne, gs, m, c, s5 _ _ a1, s5 _ _ a2, a3.1, a3.2.1, by have := a3.2.2; omega⟩
      refine ⟨_, rfl, 6, rfl, _, rfl, S, G, n + 64, 4, rfl, sk5, by omega, by decide, by decide, fun j H6 j0 j1 b6 sk6 => ?_⟩
      have hF6 := b6 _ _ nFS nFG (s5 _ _ hF4)
      refine ⟨_, _, rfl, rfl, _, rfl, F1, _, rfl, .inl (.inl hF6), fun L hL => ⟨L, _, rfl, .inl ⟨.inl (.inl upd_same), fun t2 h2 => ?_⟩⟩⟩
      have cut : ∀ (a : Nat) (j : Int), 0 ≤ j → a + j ≤ 12 → cutV (ws.map V.str) (some (a : Int)) (some ((a : Int) + j)) = ((ws.drop a).take j.toNat).map V.str := fun a j h0 h1 => by
        unfold cutV
        have e : (a : Int) + j = ((a + j.toNat : Nat) : Int) := by omega
        rw [e, HT.sIx_nat, HT.sIx_nat, List.length_map, l12, List.map_take, List.map_drop, Nat.min_eq_left (by omega), Nat.min_eq_left (by omega), Nat.add_sub_cancel_left]
      have c6 : cutV (ws.map V.str) (some 6) (some (6 + j)) = ((ws.drop 6).take j.toNat).map V.str := cut 6 j j0 (by omega)
      rw [c6] at h2 ⊢
      have s7 := same_new (o := .lst (((ws.drop 6).take j.toNat).map V.str)) hL
      have s8 := same_new (o := .tup (((ws.drop 6).take j.toNat).map V.str)) h2
      have s78 := s7.trans s8
      have sk8 : SkAt (upd (upd H6 L (.lst (((ws.drop 6).take j.toNat).map V.str))) t2 (.tup (((ws.drop 6).take j.toNat).map V.str))) S G (n + 65) := by
        obtain ⟨ne, gs, m, c, a1, a2, a3⟩ := sk6
        exact ⟨ne, gs, m, c, s78 _ _ a1, s78 _ _ a2, a3.1, a3.2.1, by have := a3.2.2; omega⟩
      have d1 : Dp K (upd H4 t1 (.tup rs)) (.ref t1) (.tuple (rowsB ws b hN.toNat)) := .tup (.inl (.inl upd_same)) (dps_mono s5 _ _ dr)
      have d2 : SqT K (upd (upd H6 L (.lst (((ws.drop 6).take j.toNat).map V.str))) t2 (.tup (((ws.drop 6).take j.toNat).map V.str))) t2 (((ws.drop 6).take j.toNat).map V.str) := .inl (.inl upd_same)
      have tp1 := (tups_but (K := K) b6 sk5).trans (Tups.same s78)
      have bb8 : ButSG S G H _ := ((b4.trans (ButSG.same s5)).trans b6).trans (ButSG.same s78)
      have hF8 := s78 _ _ hF6
      generalize upd (upd H6 L (.lst (((ws.drop 6).take j.toNat).map V.str))) t2 (.tup (((ws.drop 6).take j.toNat).map V.str)) = H8 at *
      refine ⟨_, rfl, 9, rfl, _, rfl, S, G, n + 65, 4, rfl, sk8, by omega, by decide, by decide, fun k H9 k0 k1 b9 sk9 => ?_⟩
      have hF9 := b9 _ _ nFS nFG hF8
      refine ⟨_, _, rfl, rfl, _, rfl, F1, _, rfl, .inl (.inl hF9), fun L2 hL2 => ⟨L2, _, rfl, .inl ⟨.inl (.inl upd_same), fun t3 h3 => ?_⟩⟩⟩
      have c9 : cutV (ws.map V.str) (some 9) (some (9 + k)) = ((ws.drop 9).take k.toNat).map V.str := cut 9 k k0 (by omega)
      rw [c9] at h3 ⊢
      have s10 := (same_new (o := .lst (((ws.drop 9).take k.toNat).map V.str)) hL2).trans (same_new (o := .tup (((ws.drop 9).take k.toNat).map V.str)) h3)
      have d3 : SqT K (upd (upd H9 L2 (.lst (((ws.drop 9).take k.toNat).map V.str))) t3 (.tup (((ws.drop 9).take k.toNat).map V.str))) t3 (((ws.drop 9).take k.toNat).map V.str) := .inl (.inl upd_same)
      have sk10 : SkAt (upd (upd H9 L2 (.lst (((ws.drop 9).take k.toNat).map V.str))) t3 (.tup (((ws.drop 9).take k.toNat).map V.str))) S G (n + 66) := by
        obtain ⟨ne, gs, m, c, a1, a2, a3⟩ := sk9
        exact ⟨ne, gs, m, c, s10 _ _ a1, s10 _ _ a2, a3.1, a3.2.1, by have := a3.2.2; omega⟩
      have tp2 := (tups_but (K := K) b9 sk8).trans (Tups.same s10)
      have bbX : ButSG S G H _ := (bb8.trans b9).trans (ButSG.same s10)
      generalize upd (upd H9 L2 (.lst (((ws.drop 9).take k.toNat).map V.str))) t3 (.tup (((ws.drop 9).take k.toNat).map V.str)) = HX at *
      refine ⟨by rw [sl]; exact (by decide : 3 ≤ 16777216), fun R hR => ?_⟩
      have sR := same_new (o := .lst [V.ref t1, V.ref t2, V.ref t3]) hR
      have nR : H R = none := by
        cases e : H R with
        | none => rfl
        | some o =>
          obtain ⟨_, gs, m, c, a1, a2, _⟩ := sk10
          have p : R ≠ S := fun e => by rw [e, a1] at hR; cases hR
          have p2 : R ≠ G := fun e => by rw [e, a2] at hR; cases hR
          rw [bbX _ _ p p2 e] at hR; cases hR
      have okP := drawn_ok l12 nd (b := b) (h := hN.toNat) (j := j.toNat) (k := k.toNat) (by omega) hb (by omega) (by omega)
      obtain ⟨m1, m2, m3, m4⟩ := drawn_mem l12 (b := b) (h := hN.toNat) (j := j.toNat) (k := k.toNat) (by omega) hb (by omega) (by omega)
      refine q _ R (drawnP ws hN.toNat b j.toNat k.toNat) (bbX.trans (ButSG.same sR)) ?_ nR ⟨⟨t1, t2, t3, upd_same, ?_, ?_, ?_⟩, ?_⟩ okP
      · obtain ⟨ne, gs, m, c, a1, a2, a3⟩ := sk10
        exact ⟨ne, gs, m, c, sR _ _ a1, sR _ _ a2, a3⟩
      · have e : dA (drawnP ws hN.toNat b j.toNat k.toNat).arrays = .tuple (rowsB ws b hN.toNat) := by
          unfold dA drawnP rowsB
          rw [List.map_map]
          rfl
        rw [e]
        exact dp_tups ((tp1.trans tp2).trans (Tups.same sR)) _ _ (rowsB_flat ws b _) d1
      · exact dS_tup (Tups.same sR _ _ (tp2 _ _ d2))
      · exact dS_tup (Tups.same sR _ _ d3)
      · have inW : ∀ {i : Nat} {x : Str}, ws[i]? = some x → x ∈ W16 := fun e => mem _ (List.mem_of_getElem? e)
        unfold okB at okP
        simp only [Bool.and_eq_true, decide_eq_true_iff] at okP
        refine ⟨by omega, by omega, by omega, fun x hx => W16_nm x ?_⟩
        have hx2 := words_mem.mp hx
        unfold namesL at hx2
        rcases List.mem_append.mp hx2 with hx2 | hx2
        · obtain ⟨i, _, e⟩ := m1 x hx2; exact inW e
        rcases List.mem_append.mp hx2 with hx2 | hx2
        · obtain ⟨i, _, _, e⟩ := m2 x hx2; exact inW e
        rcases List.mem_append.mp hx2 with hx2 | hx2
        · obtain ⟨i, _, _, e⟩ := m3 x hx2; exact inW e
        · obtain ⟨i, _, _, e⟩ := m4 x hx2; exact inW e
end
end Fc
namespace Fc
open PySem L2 PyProof.Rows
/-! xs[lo:hi:st] of a list -/
/-- the items of xs[lo:hi:st] -/
def pickV (xs : List V) (lo hi st : Option Int) : List V := (sliceRange (sliceBounds lo hi st xs.length).1 (sliceBounds lo hi st xs.length).2.1 (sliceBounds lo hi st xs.length).2.2).filterMap (xs[·]?)
theorem vals_pick {xs : List V} {us : List Value} (r : Vals xs us) : ∀ l : List Nat, Vals (l.filterMap (xs[·]?)) (l.filterMap (us[·]?))
  | [] => .nil
  | i :: l => by
    have ih := vals_pick r l
    cases h : xs[i]? with
    | none =>
      have h2 := r.none_of h
      simp only [List.filterMap_cons, h, h2]
      exact ih
    | some x =>
      obtain ⟨u, h2, rx⟩ := r.get h
      simp only [List.filterMap_cons, h, h2]
      exact .cons rx ih
theorem pickV_of {xs : List V} {us : List Value} (r : Vals xs us) (lo hi st : Option Int) : Vals (pickV xs lo hi st) (slicePick us.toArray lo hi st).toList := by
  unfold pickV slicePick
  rw [List.size_toArray, ← L2.Vals.length r]
  have e : (fun i : Nat => us.toArray[i]?) = fun i : Nat => us[i]? := by funext i; simp
  simp only [e]
  exact vals_pick r _
theorem pickV_sub {xs : List V} {lo hi st : Option Int} : ∀ x ∈ pickV xs lo hi st, x ∈ xs := fun x hx => by
  obtain ⟨i, _, e⟩ := List.mem_filterMap.mp hx
  exact List.mem_of_getElem? e
theorem pickV_len {xs : List V} {us : List Value} (r : Vals xs us) (lo hi st : Option Int) : (pickV xs lo hi st).length ≤ xs.length := by
  have h := L2.Vals.length (pickV_of r lo hi st)
  have := slicePick_size_le us.toArray lo hi st
  rw [List.size_toArray] at this
  rw [L2.Vals.length r, h, Array.length_toList]
  exact this
def tSlK (K : PySem.W.Frag) (te : TE) (tl th ts : TO) : TE := fun σ H Q => te σ H fun x H1 => tl σ H1 fun l H2 => th σ H2 fun u H3 => ts σ H3 fun k H4 => ∃ a xs, x = .ref a ∧ SqL K H4 a xs ∧ k ≠ some 0 ∧ ((pickV xs l u k).length ≤ xs.length → ∀ p, H4 p = none → Q (.ref p) (upd H4 p (.lst (pickV xs l u k))))
section
variable {X : Cx} {e st : Expr} {lo hi : Option Expr} {te : TE} {tl th ts : TO} {p2 pos : Pos}
theorem pe_sliceK (he : PE X e te) (hl : PO X lo tl) (hu : PO X hi th) (hs : PO X (some st) ts) : PE X (.Subscript e (.Slice lo hi (some st) p2) pos) (tSlK X.K te tl th ts) := by
  refine ⟨fun pins s σ H Q I h => ?_⟩
  refine Subscript_ (thn (he.run pins s σ H _ I h) fun v s1 ⟨x, H1, I1, r1, q1⟩ => ?_)
  refine wpAny_Slice (thn (hl.run pins s1 σ H1 _ I1 q1) fun vl s2 ⟨l, H2, I2, pl, q2⟩ => thn (hu.run pins s2 σ H2 _ I2 q2) fun vu s3 ⟨u, H3, I3, pu, q3⟩ => thn (hs.run pins s3 σ H3 _ I3 q3) fun vs s4 ⟨k, H4, I4, ps, a, xs, ex, hx, h0, q⟩ => ?_)
  subst ex
  cases r1
  have I5 : Inv X pins σ H4 { s4 with heap := s4.heap.push { cls := .type "slice", data := .fields #[vl, vu, vs] } } := I4.kept (t' := s4.toks) fun b ob q => Heap.get?_push_of_some _ q
  obtain ⟨its, r, hts, hz⟩ := I5.list hx
  have hlen := L2.Vals.length r
  show wpAny (model X.prog X.w) X.A (subscriptTail e (.Slice lo hi (some st) p2) (.ref a) (.ref s4.heap.objs.size)) (EP X pins σ Q) X.xe { s4 with heap := s4.heap.push { cls := .type "slice", data := .fields #[vl, vu, vs] } }
  refine tail_any (ops := [.ref a, .ref s4.heap.objs.size]) hts.isList.typeIs (PySem.slot_list_getitem.lookup) ?_ (by with_unfolding_all rfl)
  refine wpAny_getItem_list_slice hts.isList (Heap.IsSliceOf.new _ vl vu vs) pl pu ps h0 ?_ (by rw [List.size_toArray]; omega)
  have pn := pickV_len r l u k
  refine ⟨.ref _, _, I5.laid (t' := s4.toks) (o := .lst (pickV xs l u k)) (fun b ob q => Heap.get?_push_of_some _ q) (Nat.le_refl _) ?_, rfl, q pn _ (I5.hok.fresh (Nat.le_refl _))⟩
  exact ⟨Nat.le_trans pn hz, (slicePick its.toArray l u k).toList, 0, pickV_of r l u k, by rw [Array.toArray_toList]; exact Heap.get?_push_size _ rfl⟩
end
theorem ints_back : ∀ {ys : List V}, (∀ y ∈ ys, ∃ i, y = V.int i) → ∃ ns : List Int, ys = ns.map V.int
  | [], _ => ⟨[], rfl⟩
  | y :: ys, h => by
    obtain ⟨x, rfl⟩ := h y (List.mem_cons_self ..)
    obtain ⟨ws, rfl⟩ := ints_back fun z hz => h z (List.mem_cons_of_mem _ hz)
    exact ⟨x :: ws, rfl⟩
theorem ints_getD (ns : List Int) {i : Nat} (h : i < ns.length) : (ns.map V.int).getD i .non = .int ns[i] := by
  rw [List.getD_eq_getElem?_getD, List.getElem?_map, List.getElem?_eq_getElem h]; rfl
theorem paired_ints {p : Nat → V → Prop} {l : List Nat} {ys : List V} (h : Paired p l ys) (hp : ∀ k y, p k y → ∃ i, y = V.int i) : ∃ ns : List Int, ys = ns.map V.int := by
  refine ints_back ?_
  induction h with
  | nil => intro y hy; cases hy
  | cons h _ ih =>
    intro y hy
    rcases List.mem_cons.mp hy with rfl | hy
    · exact hp _ _ h
    · exact ih y hy
abbrev rIntC : List V → Hp → VK → Prop := fun xs H Q => (∃ i, xs = [.int i] ∧ Q (.int i) H) ∨ ∃ k, xs = [.bl k] ∧ Q (.int (if k then 1 else 0)) H
abbrev rAbsC : List V → Hp → VK → Prop := fun xs H Q => ∃ i, xs = [.int i] ∧ Q (.int (if i < 0 then -i else i)) H
def spSkein (K : PySem.W.Frag) : Sp := fun vs H Q _ => ∃ (a : Addr) (ns : List Int) (i c : Int), vs = [.ref a, .int i, .int c] ∧ SqL K H a (ns.map V.int) ∧ 0 ≤ i ∧ i < 100 ∧ 0 < c ∧ ns.length ≤ 1000 ∧ ∀ H' S G, Same H H' → SkAt H' S G 0 → H S = none → H G = none → Q (.ref S) H'
theorem pos40 : (0 : Int) < 10 ^ Int.toNat 40 := by decide +kernel
theorem pos580 : (0 : Int) < (10 ^ Int.toNat 58) ^ Int.toNat 10 := by decide +kernel
theorem posQ : (0 : Int) < 2305843009213693951 := by decide
section
variable {K : PySem.W.Frag} {mg : Str → Option Value} {base : Heap} {P : Program} {w : World}
abbrev n33 : List Str := ["_law_script", "_law_at", "_law_cases", "_law_cells", "_law_mixed", "_law_cell", "_law_part", "_law_great", "_law_one"]
theorem sc33 : FnScope n33 ["_law_script", "_law_at", "_law_cases"] (defScope (topS 33)) := ⟨rfl, rfl, rfl, by decide +kernel, rfl, by decide +kernel, by decide +kernel⟩
theorem ok33 {f : Addr} {fd : FuncData} (F : Fun K "_law_skein" "_law_skein" (topS 33) f fd) (B : Blt mg) : FnOk P w K mg base CX0 1 f fd ["_law_script", "_law_at", "_law_cases"] (spSkein K) := by
  refine F.ok sc33 (fun vs H Q E h => ?_) (fun cdv A outer s H vs Q E hr h => ?_)
  · obtain ⟨a, ns, i, c, rfl, _⟩ := h
    rfl
  · have hu := hu70 hr
    refine ⟨_, pss_cons (ps_par (i := 3) (j := 4) rfl sc33.nd rfl rfl (by decide) rfl rfl (pa_cons (pe_sliceK (pv 0) (po_some (pv 1)) po_none (po_some (pv 2))) (pa_cons (pe_op op_add (pe_op op_mul pe_int (pv 1)) pe_int) pa_nil)) (by rfl))
      (pss_cons (ps_for PassesOwn.never rfl (pi_list (pv 3)) (pg_name (i := 5) sc33.nd rfl (Or.inl rfl))
        (pss_cons (ps_set (i := 6) sc33.nd rfl (Or.inl rfl) (pe_op op_add (pe_op op_mul (pe_op op_mod (pe_callTy call_int1 (by rfl) B.int boot_int (pa_cons (pe_callB call_abs (by rfl) B.abs boot_abs (pa_cons (pv 5) pa_nil)) pa_nil)) (pe_op op_pow pe_int pe_int)) pe_int) (pe_callTy call_int1 (by rfl) B.int boot_int (pa_cons (pe_cmpR op_lt (pv 5) pe_int (nomark _)) pa_nil))))
        (pss_one (ps_set (i := 4) sc33.nd rfl (Or.inl rfl) (pe_op op_mod (pe_callTy call_int1 (by rfl) B.int boot_int (pa_cons (pe_op op_add (pe_op op_add (pe_op op_mul (pv 4) pe_int) (pe_op op_mul (pv 6) pe_int)) pe_int) pa_nil)) pe_int)))))
      (pss_cons (ps_setLc (i := 7) (own := [("_law_cell", 5)]) (g := gName 5) (by rfl) sc33.nd rfl rfl (sw_true rfl rfl rfl (by decide +kernel)) (pi_list (pv 3)) (blkOk_by (N := n33) (sc := defScope (topS 33)) (by decide +kernel))
        (fun _ _ _ _ _ => pg_name (i := 5) sc33.nd rfl (Or.inl rfl)) (fun _ _ _ _ _ => pts_nil) (fun _ _ _ _ _ => pe_op (r := rI0 fun i j => .int (i - j)) op_sub (pe_op (r := rI (fun _ j => 0 < j) fun i j => .int (i % j)) op_mod (pe_callTy (r := rIntC) call_int1 (by rfl) B.int boot_int (pa_cons (pe_callB (r := rAbsC) call_abs (by rfl) B.abs boot_abs (pa_cons (pv 5) pa_nil)) pa_nil))
          (pe_op (r := rI (fun i j => 0 ≤ j ∧ (Builtin.Int.intBits i : Int) * j ≤ 2 ^ 27) fun i j => .int (i ^ j.toNat)) op_powW (pe_op (r := rI CPow fun i j => .int (i ^ j.toNat)) op_pow pe_int pe_int) pe_int)) (pe_op (r := rI CPow fun i j => .int (i ^ j.toNat)) op_pow pe_int pe_int)))
      (pss_one (ps_ret (pe_lst (pa_cons (pe_lc (own := [("_law_one", 8)]) (g := gName 8) (by rfl) sc33.nd (pi_list (pv 7)) (blkOk_by (N := n33) (sc := defScope (topS 33)) (by decide +kernel))
        (fun _ _ _ _ _ => pg_name (i := 8) sc33.nd rfl (Or.inl rfl)) (fun _ _ _ _ _ => pts_one (pt_cmpR (r := rI0 fun i j => .bl (decide (j < i))) op_gt (pv 8) pe_int (nomark _))) (fun _ _ _ _ _ => pv 8)) (pa_cons (pv 4) (pa_cons pe_int pa_nil)))))))), ?_⟩
    obtain ⟨a, ns, i, c, rfl, sl, i0, i1, c0, hl, q⟩ := h
    refine ⟨_, rfl, _, rfl, _, rfl, _, rfl, _, rfl, a, _, rfl, sl, fun e => by cases Option.some.inj e; omega, fun pl p hp => ?_⟩
    obtain ⟨cs, ec⟩ : ∃ cs : List Int, pickV (ns.map V.int) (some i) none (some c) = cs.map V.int := ints_back fun y hy => by
      obtain ⟨z, _, e⟩ := List.mem_map.mp (pickV_sub y hy)
      exact ⟨z, e.symm⟩
    rw [ec] at pl ⊢
    rw [List.length_map, List.length_map] at pl
    have s1 := same_new (o := .lst (cs.map V.int)) hp
    have hC : (upd H p (.lst (cs.map V.int))) p = some (.lst (cs.map V.int)) := upd_same
    generalize upd H p (.lst (cs.map V.int)) = H1 at *
    refine ⟨_, rfl, _, _, rfl, rfl, .inl ⟨by decide, by decide⟩, _, _, rfl, rfl, ?_⟩
    refine ⟨_, _, rfl, _, rfl, p, rfl, ⟨_, .inl (.inl hC)⟩, ?_⟩
    refine for_steady (steady_list (K := K) (a := p) (xs := cs.map V.int)) (fun k σ H' => H' = H1 ∧ ∃ m z5 z6 z7 z8, σ = [some (.ref a), some (.int i), some (.int c), some (.ref p), some (.int m), z5, z6, z7, z8] ∧ 0 ≤ m ∧ m < 2 ^ 62) ⟨rfl, _, _, _, _, _, rfl, by omega, by omega⟩ (fun _ _ _ _ h => h.1 ▸ .inl (.inl hC)) ?_ ?_
    · rintro k σ H' hk ⟨rfl, m, z5, z6, z7, z8, rfl, m0, m1⟩
      rw [List.length_map] at hk
      rw [ints_getD cs hk]
      refine ⟨_, rfl, _, rfl, .inl ⟨_, rfl, 10, 40, rfl, rfl, ⟨by decide, by decide, by decide⟩, _, _, rfl, rfl, pos40, _, _, rfl, rfl, .inr ⟨by decide, by decide⟩, _, rfl, _, _, rfl, rfl, .inr ⟨_, rfl, _, _, rfl, rfl, ?_⟩⟩⟩
      refine ⟨_, rfl, _, _, rfl, rfl, .inr ⟨by decide, by decide⟩, _, rfl, _, _, rfl, rfl, .inr ⟨by decide, by decide⟩, _, _, rfl, rfl, _, _, rfl, rfl, .inl ⟨_, rfl, _, _, rfl, rfl, posQ, ?_⟩⟩
      refine ⟨rfl, _, _, _, _, _, rfl, Int.emod_nonneg _ (by decide), Int.lt_trans (Int.emod_lt_of_pos _ posQ) (by decide)⟩
    · rintro σ H' ⟨rfl, m, z5, z6, z7, z8, rfl, m0, m1⟩
      refine ⟨_, rfl, p, rfl, ⟨_, .inl (.inl hC)⟩, fun D hD => ?_⟩
      refine lc_map (K := K) (fun _ k y => ∃ j, y = V.int j) (steady_list (K := K) (a := p) (xs := cs.map V.int)) (fun _ _ _ _ _ h => h) (fun H2 s2 => .inl (.inl (s2 _ _ hC))) (by rw [List.length_map]; omega) hD (fun k H2 Q' hk s2 q' => ?_) fun H2 ys s2 hys py => ?_
      · rw [List.length_map] at hk
        rw [ints_getD cs hk]
        refine ⟨rfl, _, rfl, _, rfl, .inl ⟨_, rfl, 10, 58, rfl, rfl, ⟨by decide, by decide, by decide⟩, _, 10, rfl, rfl, ⟨by decide, by decide +kernel⟩, _, _, rfl, rfl, pos580, 10, 17, rfl, rfl, ⟨by decide, by decide, by decide⟩, _, _, rfl, rfl, ?_⟩⟩
        exact q' _ _ (Same.refl _) ⟨_, rfl⟩
      · obtain ⟨gs, rfl⟩ := paired_ints py fun _ _ h => h
        have lg := paired_len py
        rw [List.length_range, List.length_map, List.length_map] at lg
        refine ⟨_, rfl, D, rfl, ⟨_, .inl (.inl hys)⟩, fun G hG => ?_⟩
        refine lc_gen (K := K) (fun k => decide (0 < gs.getD k 0)) (fun _ k y => ∃ j, y = V.int j) (steady_list (K := K) (a := D) (xs := gs.map V.int)) (fun _ _ _ _ _ h => h) (fun H3 s3 => .inl (.inl (s3 _ _ hys))) (show 8 < 9 by decide) (by rw [List.length_map]; omega) hG (fun k H3 Q' hk s3 q' => ?_) (fun k H3 Q' hk _ s3 q' => ?_) fun H3 zs s3 hzs pz => ?_
        · rw [List.length_map] at hk
          rw [ints_getD gs hk]
          rw [getD_at hk] at q'
          exact ⟨_, rfl, _, _, rfl, rfl, _, rfl, q'⟩
        · rw [List.length_map] at hk
          rw [ints_getD gs hk]
          exact ⟨_, rfl, q' _ _ (Same.refl _) ⟨_, rfl⟩⟩
        · obtain ⟨hs, rfl⟩ := paired_ints pz fun _ _ h => h
          refine ⟨_, rfl, by rw [sizeLine_eq]; exact (by decide : 3 ≤ 16777216), fun S hS => ?_⟩
          have s4 := same_new (o := .lst [V.ref G, V.int m, V.int 0]) hS
          have sA := (s1.trans s2).trans s3
          have nSG : S ≠ G := fun e => by rw [e, hzs] at hS; cases hS
          refine q _ S G (sA.trans s4) ⟨nSG, hs, m, 0, upd_same, by rw [upd_ne nSG.symm]; exact hzs, ⟨m0, m1⟩, by decide, by decide⟩ (Same.none_of sA hS) (Same.none_of (s1.trans s2) hG)
end
end Fc
namespace Fc
open PySem L2 PyProof.Rows
/-! what stays behind draws -/
theorem but_get {S G : Addr} {H H' : Hp} {n : Int} {b : Addr} {o : HO} (bt : ButSG S G H H') (k : SkAt H S G n) (h : H b = some o) (hn : ∀ l, o ≠ .lst l) : H' b = some o := by
  obtain ⟨ne, gs, m, c, hS, hG, _⟩ := k
  refine bt b o (fun e => ?_) (fun e => ?_) h
  · rw [e, hS] at h; exact hn _ (Option.some.inj h).symm
  · rw [e, hG] at h; exact hn _ (Option.some.inj h).symm
theorem FrAt.but {K : PySem.W.Frag} {C S G : Addr} {H H' : Hp} {p : Addr} {P : Pa} {n : Int} (h : FrAt K C H p P) (bt : ButSG S G H H') (k : SkAt H S G n) : FrAt K C H' p P := by
  obtain ⟨ok, dx, fs, tA, tP, tV, aK, h1, h2, h3, h4, h5, h6, h7, h8, h9, h10⟩ := h
  have tp := tups_but (K := K) bt k
  exact ⟨ok, dx, fs, tA, tP, tV, aK, but_get bt k h1 (fun _ e => by cases e), h2, h3, h4, h5, h6, dp_tups tp _ _ (tupD_dA _) h7, dp_tups tp _ _ (tupD_dS _) h8, dp_tups tp _ _ (tupD_dS _) h9, but_get bt k h10 (fun _ e => by cases e)⟩
theorem lst_ne {S G : Addr} {H : Hp} {n : Int} {r : Addr} {xs : List V} (k : SkAt H S G n) (h : H r = some (.lst xs)) (h1 : ∀ m c : Int, xs ≠ [V.ref G, .int m, .int c]) (h2 : ∀ gs : List Int, xs ≠ gs.map V.int) : r ≠ S ∧ r ≠ G := by
  obtain ⟨ne, gs, m, c, hS, hG, _⟩ := k
  refine ⟨fun e => ?_, fun e => ?_⟩
  · rw [e, hS] at h
    cases h
    exact h1 m c rfl
  · rw [e, hG] at h
    cases h
    exact h2 gs rfl
theorem RowAt.ne {K : PySem.W.Frag} {S G : Addr} {H : Hp} {n : Int} {r : Addr} {P : Pa} (R : RowAt K H r P) (k : SkAt H S G n) : r ≠ S ∧ r ≠ G := by
  obtain ⟨⟨tA, tP, tV, h1, _⟩, _⟩ := R
  refine lst_ne k h1 (fun m c e => ?_) (fun gs e => ?_)
  · simp at e
  · cases gs with
    | nil => cases e
    | cons g gs => simp at e
theorem RowAt.but {K : PySem.W.Frag} {S G : Addr} {H H' : Hp} {n : Int} {r : Addr} {P : Pa} (R : RowAt K H r P) (bt : ButSG S G H H') (k : SkAt H S G n) : RowAt K H' r P := by
  obtain ⟨n1, n2⟩ := R.ne k
  have tp := tups_but (K := K) bt k
  obtain ⟨⟨tA, tP, tV, h1, h2, h3, h4⟩, nm⟩ := R
  exact ⟨⟨tA, tP, tV, bt _ _ n1 n2 h1, dp_tups tp _ _ (tupD_dA _) h2, dp_tups tp _ _ (tupD_dS _) h3, dp_tups tp _ _ (tupD_dS _) h4⟩, nm⟩
theorem SkAt.same {S G : Addr} {H H' : Hp} {n : Int} (k : SkAt H S G n) (s : Same H H') : SkAt H' S G n := by
  obtain ⟨ne, gs, m, c, hS, hG, h3⟩ := k
  exact ⟨ne, gs, m, c, s _ _ hS, s _ _ hG, h3⟩
theorem SkAt.le {S G : Addr} {H : Hp} {n n' : Int} (k : SkAt H S G n) (h : n ≤ n') : SkAt H S G n' := by
  obtain ⟨ne, gs, m, c, hS, hG, h1, h2, h3⟩ := k
  exact ⟨ne, gs, m, c, hS, hG, h1, h2, by omega⟩
theorem SkAt.new {S G : Addr} {H : Hp} {n : Int} {a : Addr} (k : SkAt H S G n) (ha : H a = none) : a ≠ S ∧ a ≠ G := by
  obtain ⟨ne, gs, m, c, hS, hG, _⟩ := k
  exact ⟨fun e => by (rw [e, hS] at ha; cases ha), fun e => by (rw [e, hG] at ha; cases ha)⟩
theorem SkAt.upd {S G : Addr} {H : Hp} {n : Int} {a : Addr} {o : HO} (k : SkAt H S G n) (h : a ≠ S ∧ a ≠ G) : SkAt (upd H a o) S G n := by
  obtain ⟨ne, gs, m, c, hS, hG, h3⟩ := k
  exact ⟨ne, gs, m, c, by rw [upd_ne h.1.symm]; exact hS, by rw [upd_ne h.2.symm]; exact hG, h3⟩
theorem ButSG.none_of {S G : Addr} {H H' : Hp} {a : Addr} (bt : ButSG S G H H') (h : H' a = none) (h1 : a ≠ S) (h2 : a ≠ G) : H a = none := by
  cases e : H a with
  | none => rfl
  | some o => rw [bt _ _ h1 h2 e] at h; cases h
/-! values near terms -/
structure NearD (K : PySem.W.Frag) (w : World) (S G : Addr) (H : Hp) (v : V) (d : PyData) : Prop where
  kind : (Dp K H v d ∧ tupD d = true) ∨ (∃ a xs ds, v = .ref a ∧ d = .list ds ∧ H a = some (.lst xs) ∧ DpAll K H xs ds ∧ tupDs ds = true ∧ a ≠ S ∧ a ≠ G) ∨ (∃ a, v = .ref a ∧ d = .dict [] ∧ H a = some (MD w a []))
  sh : shT d
  pl : ∀ ds, d = .tuple ds → PyData.plainAll ds = true ∧ ds.length ≤ 10
theorem NearD.dv {K : PySem.W.Frag} {w : World} {S G : Addr} {H : Hp} {v : V} {d : PyData} (h : NearD K w S G H v d) : DV K w H v d := by
  rcases h.kind with h | ⟨a, xs, ds, rfl, rfl, ha, hd, _⟩ | ⟨a, rfl, rfl, ha⟩
  · exact .inl h.1
  · exact .inl (.lst (.inl (.inl ha)) hd)
  · exact .inr ⟨a, [], [], rfl, ⟨.inl ha, fun x hx => by cases hx⟩, rfl, .nil⟩
theorem NearD.same {K : PySem.W.Frag} {w : World} {S G : Addr} {H H' : Hp} {v : V} {d : PyData} (h : NearD K w S G H v d) (s : Same H H') : NearD K w S G H' v d := by
  refine ⟨?_, h.sh, h.pl⟩
  rcases h.kind with h | ⟨a, xs, ds, rfl, rfl, ha, hd, hf, h1, h2⟩ | ⟨a, rfl, rfl, ha⟩
  · exact .inl ⟨dp_mono s _ _ h.1, h.2⟩
  · exact .inr (.inl ⟨a, xs, ds, rfl, rfl, s _ _ ha, dps_mono s _ _ hd, hf, h1, h2⟩)
  · exact .inr (.inr ⟨a, rfl, rfl, s _ _ ha⟩)
theorem NearD.but {K : PySem.W.Frag} {w : World} {S G : Addr} {H H' : Hp} {v : V} {d : PyData} {n : Int} (h : NearD K w S G H v d) (bt : ButSG S G H H') (k : SkAt H S G n) : NearD K w S G H' v d := by
  have tp := tups_but (K := K) bt k
  refine ⟨?_, h.sh, h.pl⟩
  rcases h.kind with h | ⟨a, xs, ds, rfl, rfl, ha, hd, hf, h1, h2⟩ | ⟨a, rfl, rfl, ha⟩
  · exact .inl ⟨dp_tups tp _ _ h.2 h.1, h.2⟩
  · exact .inr (.inl ⟨a, xs, ds, rfl, rfl, bt _ _ h1 h2 ha, dps_tups tp _ _ hf hd, hf, h1, h2⟩)
  · exact .inr (.inr ⟨a, rfl, rfl, but_get bt k ha (fun _ e => by cases e)⟩)
end Fc
namespace Fc
open PySem L2 PyProof.Rows HT
/-! ### a tuple from its end: t[::-1] -/
/-- where such a slice begins, where it ends, how many places it has -/
theorem ends_rev (n : Nat) : Builtin.Slice.sliceAdjust none none (-1) (n : Int) = ((n : Int) - 1, -1) ∧ Builtin.Slice.slicePlaces ((n : Int) - 1) (-1) (-1) = n := by
  constructor
  · simp [Builtin.Slice.sliceAdjust]
  · have up : ¬ (0 : Int) < -1 := by decide
    have q1 : ((n : Int) - 1 - -1 - 1) / (- -1) = (n : Int) - 1 := by rw [show (- -1 : Int) = 1 by decide, Int.ediv_one]; omega
    have q2 : ((n : Int) - 1 - -1 - -1 - 1) / (- -1) = (n : Int) := by rw [show (- -1 : Int) = 1 by decide, Int.ediv_one]; omega
    simp only [Builtin.Slice.slicePlaces, gt_iff_lt, up, if_false, q1, q2]
    split <;> omega
theorem filterMap_some {α β : Type} {f : α → Option β} {g : α → β} : ∀ {l : List α}, (∀ x ∈ l, f x = some (g x)) → l.filterMap f = l.map g
  | [], _ => rfl
  | a :: l, h => by
    rw [List.filterMap_cons, h a (by simp), List.map_cons, filterMap_some fun x hx => h x (List.mem_cons_of_mem _ hx)]
/-- the items at these places -/
theorem items_rev (xs : Array Value) : ((List.range xs.size).filterMap fun (m : Nat) => xs[((xs.size : Int) - 1 + (m : Int) * (-1)).toNat]?).toArray = xs.toList.reverse.toArray := by
  have place : ∀ m : Nat, m < xs.size → ((xs.size : Int) - 1 + (m : Int) * (-1)).toNat = xs.size - 1 - m := fun m _ => by omega
  congr 1
  rw [filterMap_some (g := fun m => xs.toList.getD (xs.size - 1 - m) .none) fun m hm => by
    rw [List.mem_range] at hm
    rw [place m hm, List.getD_eq_getElem?_getD, Array.getElem?_toList, Array.getElem?_eq_getElem (by omega)]; rfl]
  refine List.ext_getElem (by simp) fun k h1 h2 => ?_
  have hk : k < xs.toList.length := by simpa using h1
  have hl : xs.toList.length = xs.size := Array.length_toList
  rw [List.getElem_reverse, List.getElem_map, List.getElem_range, List.getD_eq_getElem?_getD, List.getElem?_eq_getElem (by omega)]
  simp
section
variable {A : Around} {prog : Program} {w : World} {s : Shared} {E : Value → Shared → Prop}
/-- what the slice's three parts come to -/
theorem parts_rev {sl : Addr} {v1 v2 v3 : Value} {n : Nat} {Q : Int × Int × Nat → Shared → Prop} (hs : s.heap.IsSliceOf sl v1 v2 v3) (k1 : IsPart v1 none) (k2 : IsPart v2 none) (k3 : IsPart v3 (some (-1)))
    (h : Q ((n : Int) - 1, -1, n) s) : wpAny (model prog w) A (Builtin.Slice.sliceApplied (.ref sl) (pure (n : Int))) Q E s := by
  obtain ⟨o, ho, _, fs⟩ := hs
  obtain ⟨e1, e2⟩ := ends_rev n
  have fin : wpAny (model prog w) A (match Builtin.Slice.sliceAdjust none none (-1) (n : Int) with | (lo, hi) => pure (lo, (-1 : Int), Builtin.Slice.slicePlaces lo hi (-1))) Q E s := by
    rw [e1]
    change wpAny _ _ (pure ((n : Int) - 1, (-1 : Int), Builtin.Slice.slicePlaces ((n : Int) - 1) (-1) (-1))) _ _ s
    rw [e2]
    exact wpAny_pure h
  have step : ¬ ((-1 : Int) == 0) = true := by decide
  simp only [Builtin.Slice.sliceApplied, Builtin.Slice.sliceFields]
  refine wpAny_bind (wpAny_bind (wpAny_field ho fs (x := v1) rfl (wpAny_bind (wpAny_field ho fs (x := v2) rfl (wpAny_bind (wpAny_field ho fs (x := v3) rfl (wpAny_pure (wpAny_bind (slicePart_ k3 ?_)))))))))
  change wpAny _ _ (if ((-1 : Int) == 0) = true then _ else _) _ _ s
  rw [if_neg step]
  exact wpAny_bind (slicePart_ k1 (wpAny_bind (slicePart_ k2 (wpAny_bind (wpAny_pure fin)))))
theorem getItem_rev {t sl : Addr} {xs : Array Value} {v1 v2 v3 : Value} {Q : Value → Shared → Prop} (ht : IsTup s.heap t xs) (hs : s.heap.IsSliceOf sl v1 v2 v3) (k1 : IsPart v1 none) (k2 : IsPart v2 none) (k3 : IsPart v3 (some (-1))) (z : xs.size ≤ sizeLine)
    (h : Q (.ref s.heap.objs.size) { s with heap := s.heap.push { cls := .type "tuple", data := .seq xs.toList.reverse.toArray } }) : wpAny (model prog w) A (getItem (.ref t) (.ref sl)) Q E s := by
  have tyS : s.TypeIs (.ref sl) "slice" := let ⟨o, ho, hc, _⟩ := hs; ⟨o, ho, hc⟩
  have fits : sizeOk (.seq xs.toList.reverse.toArray) := (by simpa using z : xs.toList.reverse.toArray.size ≤ sizeLine)
  have part : ¬ (((xs.size : Int) - 1 == 0 && (-1 : Int) == 1 && xs.size == xs.size) = true) := by simp
  refine wpAny_getItem_slot ht.typeIs (by decide) PyProof.Rows.slot_tuple_getitem (wpAny_call_entry PyProof.Rows.slot_tuple_getitem ht.typeIs entry_tuple_getitem ?_ (args_tuple_getitem _ _))
  change wpAny _ _ (Builtin.Tuple.tupleItemsOf (.ref t) >>= _) _ _ s
  refine wpAny_bind (tupleItemsOf_ ht (wpAny_bind (wpAny_typeOf tyS ?_)))
  rw [if_pos (by decide)]
  refine wpAny_bind (parts_rev hs k1 k2 k3 ?_)
  change wpAny _ _ (if ((xs.size : Int) - 1 == 0 && (-1 : Int) == 1 && xs.size == xs.size) = true then _ else _) _ _ s
  rw [if_neg part, items_rev]
  change wpAny _ _ (Builtin.Tuple.tupleExact xs.toList.reverse.toArray >>= fun v => ret v) _ _ s
  refine wpAny_bind (wpAny_newObj_type ?_ fits)
  exact wpAny_pure ⟨_, rfl, h⟩
end
/-- t[::-1] of a tuple -/
def tRevT (K : PySem.W.Frag) (te : TE) : TE := fun σ H Q => te σ H fun x H1 => ∃ a xs, x = .ref a ∧ SqT K H1 a xs ∧ ∀ p, H1 p = none → Q (.ref p) (upd H1 p (.tup xs.reverse))
/-- a slice's part that is left out, or that is minus one: its value, with nothing changed -/
theorem part_is {X : Cx} {pins : List (Addr × Obj)} {σ : L2.St} {H : Hp} {s : Shared} {e : Option Expr} {t : TO} {o : Option Int} {R : Value → Shared → Prop} (pe : PO X e t) (at_ : ∀ q : Option Int → Hp → Prop, q o H → t σ H q) (I : Inv X pins σ H s)
    (h : ∀ v s', Inv X pins σ H s' → IsPart v o → R v s') : wpAny (model X.prog X.w) X.A (evalPart e X.env) R X.xe s := by
  exact thn (pe.run pins s σ H (fun o' H' => o' = o ∧ H' = H) I (at_ _ ⟨rfl, rfl⟩)) fun v s' ⟨_, _, J, p, eo, eH⟩ => h v s' (eH ▸ J) (eo ▸ p)
theorem pe_revT {X : Cx} {e : Expr} {te : TE} {k : Nat} {p1 p2 p3 pos : Pos} (he : PE X e te) : PE X (.Subscript e (.Slice none none (some (.UnaryOp .USub (.Constant (.int 1) k p1) p2)) p3) pos) (tRevT X.K te) := by
  refine ⟨fun pins s σ H Q J w => Subscript_ (thn (he.run pins s σ H _ J w) fun v s1 ⟨x, H1, J1, rx, a, xs, ex, ht, q⟩ => ?_)⟩
  subst ex
  obtain rfl : v = Value.ref a := rx
  have back : PO X (some (.UnaryOp .USub (.Constant (.int 1) k p1) p2)) _ := po_some (pe_un un_neg pe_int)
  refine wpAny_Slice (part_is po_none (fun _ h => h) J1 fun v1 s2 J2 k1 => part_is po_none (fun _ h => h) J2 fun v2 s3 J3 k2 => part_is back (fun q h => ⟨1, rfl, -1, rfl, h⟩) J3 fun v3 s4 J4 k3 => ?_)
  have J5 : Inv X pins σ H1 { s4 with heap := s4.heap.push { cls := .type "slice", data := .fields #[v1, v2, v3] } } := J4.kept (t' := s4.toks) fun _ _ => Heap.get?_push_of_some _
  obtain ⟨us, ru, tp, z⟩ := J5.tuple ht
  have zl : xs.length ≤ sizeLine := z
  refine tail_any (ops := [.ref a, .ref s4.heap.objs.size]) tp.typeIs PyProof.Rows.slot_tuple_getitem.lookup (getItem_rev tp (Heap.IsSliceOf.new _ v1 v2 v3) k1 k2 k3 (by rw [List.size_toArray, ← ru.length]; exact zl) ?_) (by with_unfolding_all rfl)
  refine ⟨.ref _, _, J5.laid (t' := s4.toks) (o := .tup xs.reverse) (fun _ _ => Heap.get?_push_of_some _) (Nat.le_refl _) ⟨by rw [List.length_reverse]; exact zl, _, ru.reverse, IsTup.new _ _⟩, rfl, q _ (J5.hok.fresh (Nat.le_refl _))⟩
end Fc
namespace Fc
open PySem L2 PyProof.Rows
/-! small data that may stand in terms -/
structure Itm (d : PyData) : Prop where
  can : d.canLay0 = true
  dep : d.depth ≤ 2
  pl : d.plain = true
  fl : tupD d = true
def ItV (K : PySem.W.Frag) (H : Hp) (v : V) : Prop := ∃ d, Dp K H v d ∧ Itm d
theorem ItV.mono {K : PySem.W.Frag} {H H' : Hp} {v : V} (h : ItV K H v) (t : Tups K H H') : ItV K H' v := let ⟨d, h1, h2⟩ := h; ⟨d, dp_tups t _ _ h2.fl h1, h2⟩
theorem itV_int (K : PySem.W.Frag) (H : Hp) (i : Int) : ItV K H (.int i) := ⟨.int i, .int i, rfl, Nat.zero_le _, rfl, rfl⟩
theorem itV_str (K : PySem.W.Frag) (H : Hp) (x : Str) (h : PyData.strOk x = true) : ItV K H (.str x) := ⟨.str x, .str x, h, Nat.zero_le _, rfl, rfl⟩
theorem name_ok {x : Str} (h : isNameS x = true) : PyData.strOk x = true := by
  unfold isNameS at h
  simp only [Bool.and_eq_true] at h
  have h3 := List.all_eq_true.mp h.2.2
  unfold PyData.strOk
  rw [Array.all_eq_true_iff_forall_mem]
  intro c hc
  have h4 := h3 c (by simpa using hc)
  unfold lowC at h4
  simp only [Bool.and_eq_true, Bool.not_eq_true', decide_eq_false_iff_not] at h4
  have h5 : ¬ (122 < c) := fun e => h4.2 (.rel e)
  exact decide_eq_true (by omega)
theorem itVs {K : PySem.W.Frag} {H : Hp} : ∀ {vs : List V}, (∀ v ∈ vs, ItV K H v) → ∃ ds, DpAll K H vs ds ∧ ∀ d ∈ ds, Itm d
  | [], _ => ⟨[], .nil, fun d h => by cases h⟩
  | v :: vs, h => by
    obtain ⟨d, h1, h2⟩ := h v (List.mem_cons_self ..)
    obtain ⟨ds, h3, h4⟩ := itVs fun u hu => h u (List.mem_cons_of_mem _ hu)
    exact ⟨d :: ds, .cons h1 h3, fun e he => by
      rcases List.mem_cons.mp he with rfl | he
      · exact h2
      · exact h4 e he⟩
theorem itm_all {ds : List PyData} (h : ∀ d ∈ ds, Itm d) : PyData.canLayAll0 ds = true ∧ PyData.depthAll ds ≤ 2 ∧ PyData.plainAll ds = true ∧ tupDs ds = true := by
  refine ⟨(canAll_iff _).mpr fun d hd => (h d hd).can, (depAll_iff 2 _).mpr fun d hd => (h d hd).dep, plainAll_iff _ fun d hd => (h d hd).pl, ?_⟩
  induction ds with
  | nil => rfl
  | cons d ds ih =>
    simp only [tupDs, Bool.and_eq_true]
    exact ⟨(h d (List.mem_cons_self ..)).fl, ih fun e he => h e (List.mem_cons_of_mem _ he)⟩
theorem near_tup {K : PySem.W.Frag} {w : World} {S G : Addr} {H : Hp} {p : Addr} {vs : List V} (h : SqT K H p vs) (hv : ∀ v ∈ vs, ItV K H v) (hl : vs.length ≤ 10) : ∃ d, NearD K w S G H (.ref p) d := by
  obtain ⟨ds, h1, h2⟩ := itVs hv
  obtain ⟨a, b, c, e⟩ := itm_all h2
  refine ⟨.tuple ds, .inl ⟨.tup h h1, e⟩, fun _ => ?_, fun ds' e' => ?_⟩
  · show (PyData.canLayAll0 ds && decide (PyData.depthAll ds + 1 ≤ 64)) = true
    rw [a, decide_eq_true (by omega)]; rfl
  · cases e'
    exact ⟨c, by rw [← dp_len h1]; exact hl⟩
/-- a tuple of one such tuple -/
theorem near_tup1 {K : PySem.W.Frag} {w : World} {S G : Addr} {H : Hp} {p t : Addr} {vs : List V} (hp : SqT K H p [.ref t]) (h : SqT K H t vs) (hv : ∀ v ∈ vs, ItV K H v) (hl : vs.length ≤ 10) : ∃ d, NearD K w S G H (.ref p) d := by
  obtain ⟨ds, h1, h2⟩ := itVs hv
  obtain ⟨a, b, c, e⟩ := itm_all h2
  refine ⟨.tuple [.tuple ds], .inl ⟨.tup hp (.cons (.tup h h1) .nil), ?_⟩, fun _ => ?_, fun ds' e' => ?_⟩
  · show (tupDs ds && true) = true
    rw [e]; rfl
  · have e1 : PyData.canLayAll0 [PyData.tuple ds] = true := by
      show (PyData.canLayAll0 ds && true) = true
      rw [a]; rfl
    have e2 : PyData.depthAll [PyData.tuple ds] ≤ 3 := (depAll_iff 3 _).mpr fun d hd => by
      rw [List.mem_singleton.mp hd]
      show PyData.depthAll ds + 1 ≤ 3
      omega
    show (PyData.canLayAll0 [PyData.tuple ds] && decide (PyData.depthAll [PyData.tuple ds] + 1 ≤ 64)) = true
    rw [e1, decide_eq_true (by omega)]; rfl
  · cases e'
    refine ⟨?_, by simp⟩
    show (PyData.plainAll ds && true) = true
    rw [c]; rfl
theorem near_lst {K : PySem.W.Frag} {w : World} {S G : Addr} {H : Hp} {p : Addr} {vs : List V} (h : H p = some (.lst vs)) (hv : ∀ v ∈ vs, ItV K H v) (h1 : p ≠ S) (h2 : p ≠ G) : ∃ d, NearD K w S G H (.ref p) d := by
  obtain ⟨ds, e1, e2⟩ := itVs hv
  obtain ⟨a, b, c, e⟩ := itm_all e2
  exact ⟨.list ds, .inr (.inl ⟨p, vs, ds, rfl, rfl, h, e1, e, h1, h2⟩), fun z => by (rw [isTy_tupF] at z; cases z), fun ds' e' => by (cases e')⟩
theorem near_flat {K : PySem.W.Frag} {w : World} {S G : Addr} {H : Hp} {v : V} {d : PyData} (h : Dp K H v d) (hf : tupD d = true) (hn : isTy d "tuple" = false) : NearD K w S G H v d :=
  ⟨.inl ⟨h, hf⟩, fun z => by (rw [hn] at z; cases z), fun ds e => by (rw [e] at hn; rw [isTy_tupF] at hn; cases hn)⟩
/-- slices and sums of tuples, by what stands in them -/
theorem cutV_sub {xs : List V} {lo hi : Option Int} : ∀ y ∈ cutV xs lo hi, y ∈ xs := fun y hy => by
  unfold cutV at hy
  exact List.mem_of_mem_drop (List.mem_of_mem_take hy)
theorem slA_i {K : PySem.W.Frag} {H : Hp} {a : Addr} {xs : List V} {lo hi : Option Int} {Q : VK} (h : SqT K H a xs) (q : ∀ H' p ys, Same H H' → SqT K H' p ys → (∀ y ∈ ys, y ∈ xs) → ys.length ≤ xs.length → Q (.ref p) H') : rSlA K (.ref a) lo hi H Q := by
  refine ⟨a, xs, rfl, h, fun _ => q H a xs (Same.refl _) h (fun _ h => h) (Nat.le_refl _), fun _ p hp => ?_⟩
  exact q _ p _ (same_new hp) (.inl (.inl upd_same)) cutV_sub (cutV_length xs lo hi)
theorem catA_i {K : PySem.W.Frag} {H : Hp} {t u : Addr} {xs ys : List V} {Q : VK} (h1 : SqT K H t xs) (h2 : SqT K H u ys) (hl : xs.length + ys.length ≤ 1000) (q : ∀ H' p, Same H H' → SqT K H' p (xs ++ ys) → Q (.ref p) H') : rCatA K (.ref t) (.ref u) H Q := by
  refine ⟨t, u, xs, ys, rfl, rfl, h1, h2, by rw [sizeLine_eq]; omega, fun e => ?_, fun _ e => ?_, fun _ _ p hp => ?_⟩
  · subst e
    exact q H u (Same.refl H) h2
  · subst e
    rw [List.append_nil] at q
    exact q H t (Same.refl H) h1
  · exact q _ p (same_new hp) (.inl (.inl upd_same))
/-- what stands while a term is drawn: two lists and a tuple -/
structure Nr (K : PySem.W.Frag) (S G aN aM t0 : Addr) (xN xM : List V) (H0 : Hp) (k : Int) (H : Hp) : Prop where
  bt : ButSG S G H0 H
  sk : SkAt H S G k
  hN : H aN = some (.lst xN)
  hM : H aM = some (.lst xM)
  nN : aN ≠ S ∧ aN ≠ G
  nM : aM ≠ S ∧ aM ≠ G
  ht : SqT K H t0 [.int 0]
theorem Nr.same {K : PySem.W.Frag} {S G aN aM t0 : Addr} {xN xM : List V} {H0 H H' : Hp} {k : Int} (h : Nr K S G aN aM t0 xN xM H0 k H) (s : Same H H') : Nr K S G aN aM t0 xN xM H0 k H' :=
  ⟨h.bt.trans (ButSG.same s), h.sk.same s, s _ _ h.hN, s _ _ h.hM, h.nN, h.nM, Tups.same s _ _ h.ht⟩
theorem Nr.draw {K : PySem.W.Frag} {S G aN aM t0 : Addr} {xN xM : List V} {H0 H H' : Hp} {k : Int} (h : Nr K S G aN aM t0 xN xM H0 k H) (b : ButSG S G H H') (sk : SkAt H' S G (k + 1)) : Nr K S G aN aM t0 xN xM H0 (k + 1) H' :=
  ⟨h.bt.trans b, sk, b _ _ h.nN.1 h.nN.2 h.hN, b _ _ h.nM.1 h.nM.2 h.hM, h.nN, h.nM, tups_but b h.sk _ _ h.ht⟩
def spNear (K : PySem.W.Frag) (w : World) : Sp := fun vs H Q _ => ∃ S G n r P o own, vs = [.ref S, .ref r, .ref o] ∧ SkAt H S G n ∧ n + 100 < 2 ^ 60 ∧ RowAt K H r P ∧ SqT K H o (List.map V.str own) ∧ own.length ≤ 60 ∧ (∀ x ∈ own, isNameS x = true) ∧
  ∀ v d H', ButSG S G H H' → SkAt H' S G (n + 10) → NearD K w S G H' v d → Q v H'
end Fc
namespace Fc
open PySem L2 PyProof.Rows
def numI (i : Int) : Prop := -(2 ^ 220) < i ∧ i < 2 ^ 220
theorem numI_log {i : Int} (h : numI i) : i.natAbs.log2 < 220 := by
  have h1 : i.natAbs < 2 ^ 220 := by
    obtain ⟨a, b⟩ := h
    omega
  by_cases c : i.natAbs = 0
  · rw [c]; decide
  · exact (Nat.log2_lt c).mpr h1
theorem numI_len {i : Int} (h : numI i) : (PyData.shown (.int i)).length ≤ 100 := by
  obtain ⟨a, b⟩ := h
  have e10 : (2 : Int) ^ 220 < 10 ^ 70 := by decide
  show (Str.ofString (toString i)).length ≤ 100
  cases i with
  | ofNat n => exact Nat.le_trans (toString_length_le (k := 70) (Int.natCast_nonneg n) (by decide) (Int.lt_trans b e10)) (by decide)
  | negSucc n =>
    have e : toString (Int.negSucc n) = "-" ++ toString ((n + 1 : Nat) : Int) := rfl
    have h1 := toString_length_le (v := ((n + 1 : Nat) : Int)) (k := 70) (by omega) (by decide) (by omega)
    rw [e]
    rw [PyProof.Rows.ofString_length] at h1 ⊢
    rw [String.toList_append, List.length_append]
    have : "-".toList.length = 1 := by decide
    omega
/-- data that is shown shortly: no list, no dict -/
theorem numI_small {i : Int} (h : small i = true) : numI i := by
  have h := of_decide_eq_true h
  have e : (10 : Int) ^ 60 < 2 ^ 220 := by decide
  unfold numI
  split at h <;> omega
/-- a leaf that is shown shortly -/
structure Leaf (d : PyData) : Prop where
  show_ : d.showable = true
  leaves : d.leavesShort 2000 = true
  weight : d.weight ≤ 230
  depth : d.depth = 0
theorem leaf_int {i : Int} (h : small i = true) : Leaf (.int i) := by
  have n := numI_small h
  have l1 := numI_log n
  have l2 := numI_len n
  refine ⟨?_, ?_, ?_, rfl⟩
  · rw [PyData.showable, decide_eq_true_eq]; omega
  · rw [PyData.leavesShort, decide_eq_true_eq]; omega
  · rw [PyData.weight]; split <;> omega
theorem leaf_str {x : Str} (h : isNameS x = true ∨ x = "") : Leaf (.str x) := by
  have h1 : PyData.strOk x = true := by
    rcases h with h | rfl
    · exact name_ok h
    · decide +kernel
  have h2 : x.length ≤ 8 := by
    rcases h with h | rfl
    · unfold isNameS at h
      simp only [Bool.and_eq_true, decide_eq_true_iff] at h
      omega
    · decide +kernel
  refine ⟨rfl, ?_, ?_, rfl⟩
  · rw [PyData.leavesShort, List.all_eq_true]
    intro c hc
    unfold PyData.strOk at h1
    rw [Array.all_eq_true_iff_forall_mem] at h1
    have := h1 c (by simpa using hc)
    have e : c < 0x110000 := of_decide_eq_true this
    exact decide_eq_true (Nat.lt_trans e (by decide))
  · rw [PyData.weight]
    have : x.cps.size ≤ 8 := h2
    omega
theorem leaves_all {ds : List PyData} (h : ∀ d ∈ ds, Leaf d) : PyData.showableAll ds = true ∧ PyData.leavesShortAll 2000 ds = true ∧ PyData.weightAll ds ≤ 231 * ds.length ∧ PyData.depthAll ds ≤ 0 := by
  induction ds with
  | nil => exact ⟨rfl, rfl, Nat.le_refl _, Nat.le_refl _⟩
  | cons d ds ih =>
    obtain ⟨a, b, c, e⟩ := ih fun x hx => h x (List.mem_cons_of_mem _ hx)
    have s := h d (List.mem_cons_self ..)
    refine ⟨?_, ?_, ?_, ?_⟩
    · rw [PyData.showableAll, a, s.show_]; rfl
    · rw [PyData.leavesShortAll, b, s.leaves]; rfl
    · rw [PyData.weightAll, List.length_cons]; have := s.weight; omega
    · rw [PyData.depthAll]; have := s.depth; omega
theorem shows_tup {ds : List PyData} (h : ∀ d ∈ ds, Leaf d) (hl : ds.length ≤ 10) : Shows (.tuple ds) := by
  obtain ⟨a, b, c, e⟩ := leaves_all h
  refine ⟨?_, ?_, ?_, ?_⟩
  · rw [PyData.showable]; exact a
  · rw [PyData.leavesShort]; exact b
  · rw [PyData.weight]; omega
  · rw [PyData.depth]; omega
theorem shows_lst {ds : List PyData} (h : ∀ d ∈ ds, Leaf d) (hl : ds.length ≤ 10) : Shows (.list ds) := by
  obtain ⟨a, b, c, e⟩ := leaves_all h
  refine ⟨?_, ?_, ?_, ?_⟩
  · rw [PyData.showable]; exact a
  · rw [PyData.leavesShort]; exact b
  · rw [PyData.weight]; omega
  · rw [PyData.depth]; omega
theorem leaf_bl (b : Bool) : Leaf (.bool b) := ⟨rfl, rfl, by simp [PyData.weight], rfl⟩
theorem shows_bls (a b : Bool) : Shows (.list [.bool a, .bool b]) := shows_lst (fun d hd => by
  simp only [List.mem_cons, List.not_mem_nil, or_false] at hd
  rcases hd with rfl | rfl <;> exact leaf_bl _) (by simp)
theorem shows_word : Shows (.str (Str.ofString "term")) := ⟨by decide +kernel, by decide +kernel, by decide +kernel, by decide +kernel⟩
/-- a term's items are shown shortly -/
theorem any_shows {P : Pa} (ok : PaOk P) {ds : List PyData} {i : Int} (h : anyT P (.tuple (ds ++ [.int i])) = true) {j : Int} (hj : small j = true) : Shows (.tuple (ds ++ [.int j])) := by
  have nm : ∀ {x : Str}, decide (x ∈ ("" : Str) :: (lensOf P.arrays ++ (P.pos ++ []))) = true → isNameS x = true ∨ x = "" := fun {x} e => by
    rcases List.mem_cons.mp (of_decide_eq_true e) with e | e
    · exact .inr e
    · refine .inl (ok.nm x ?_)
      unfold namesL
      rw [List.append_nil] at e
      rcases List.mem_append.mp e with e | e
      · exact List.mem_append_right _ (List.mem_append_left _ e)
      · exact List.mem_append_right _ (List.mem_append_right _ (List.mem_append_left _ e))
  have last : ∀ {xs ys : List PyData} {a b : PyData}, xs ++ [a] = ys ++ [b] → xs = ys := fun {xs ys a b} e => (List.append_inj' e rfl).1
  rcases Bool.or_eq_true_iff.mp h with h | h
  · obtain ⟨x, k, e, h1, h2⟩ := place_form h
    have e2 : ds = [.str x] := last (by rw [PyData.tuple.inj e]; rfl)
    subst e2
    refine shows_tup (fun d hd => ?_) (by simp)
    simp only [List.cons_append, List.nil_append, List.mem_cons, List.not_mem_nil, or_false] at hd
    rcases hd with rfl | rfl
    · exact leaf_str (nm h2)
    · exact leaf_int hj
  · rcases worth_form h with ⟨x, k, e, h1, h2⟩ | ⟨x, b, c, k, e, h1, h2, h3⟩
    · have e2 : ds = [.str x] := last (by rw [PyData.tuple.inj e]; rfl)
      subst e2
      refine shows_tup (fun d hd => ?_) (by simp)
      simp only [List.cons_append, List.nil_append, List.mem_cons, List.not_mem_nil, or_false] at hd
      rcases hd with rfl | rfl
      · refine leaf_str ?_
        rcases List.mem_cons.mp (of_decide_eq_true h2) with e | e
        · exact .inr e
        · exact .inl (ok.nm x (List.mem_append_right _ (List.mem_append_right _ (List.mem_append_right _ e))))
      · exact leaf_int hj
    · obtain ⟨y, m, e3, h4, h5⟩ := place_form h3
      have e4 := PyData.tuple.inj e3
      simp only [List.cons.injEq, and_true] at e4
      obtain ⟨rfl, rfl⟩ := e4
      have e2 : ds = [.str x, .str y, .int m] := last (by rw [PyData.tuple.inj e]; rfl)
      subst e2
      refine shows_tup (fun d hd => ?_) (by simp)
      simp only [List.cons_append, List.nil_append, List.mem_cons, List.not_mem_nil, or_false] at hd
      rcases hd with rfl | rfl | rfl | rfl
      · exact leaf_str (.inl (ok.nm x (List.mem_append_left _ (of_decide_eq_true h2))))
      · exact leaf_str (nm h5)
      · exact leaf_int h4
      · exact leaf_int hj
/-- the methods that judge terms, with own names and without -/
structure MJud (P : Program) (w : World) (K : PySem.W.Frag) (mg : Str → Option Value) (base : Heap) (k : Nat) (C : Addr) (m : Str) (sp : Sp) : Prop where
  at_ : ∃ (f : Addr) (fd : FuncData) (g : List Value → List Value → List Value) (T : Addr) (ds : List Value), Meth K C m f ∧ FnOk P w K mg base CX0 k f fd ["self", "value", "own"] sp ∧ KBn K fd ["self", "value", "own"] 2 ["own"] g (fun vs zs => vs ++ zs) ∧
    Vals [V.ref T] ds ∧ Binds K fd ["self", "value", "own"] ds ∧ ∀ H, SqT K H T []
end Fc
namespace Fc
open PySem PySem.Spec L2 PyProof.Rows
/-! nested data with lists and empty tables within; ok tells which lists may stand there -/
mutual
inductive Dz (K : PySem.W.Frag) (w : World) (ok : Addr → Prop) (H : Hp) : V → PyData → Prop
  | non : Dz K w ok H .non .none
  | bl (b : Bool) : Dz K w ok H (.bl b) (.bool b)
  | int (i : Int) : Dz K w ok H (.int i) (.int i)
  | str (x : Str) : Dz K w ok H (.str x) (.str x)
  | lst {a : Addr} {xs : List V} {ds : List PyData} : H a = some (.lst xs) → ok a → DzAll K w ok H xs ds → Dz K w ok H (.ref a) (.list ds)
  | tup {a : Addr} {xs : List V} {ds : List PyData} : SqT K H a xs → DzAll K w ok H xs ds → Dz K w ok H (.ref a) (.tuple ds)
  | dct {a : Addr} : H a = some (MD w a []) → Dz K w ok H (.ref a) (.dict [])
inductive DzAll (K : PySem.W.Frag) (w : World) (ok : Addr → Prop) (H : Hp) : List V → List PyData → Prop
  | nil : DzAll K w ok H [] []
  | cons {v : V} {vs : List V} {d : PyData} {ds : List PyData} : Dz K w ok H v d → DzAll K w ok H vs ds → DzAll K w ok H (v :: vs) (d :: ds)
end
section
variable {K : PySem.W.Frag} {w : World} {ok : Addr → Prop} {H H' : Hp}
/-- what has to stay for it -/
structure Keep (K : PySem.W.Frag) (w : World) (ok : Addr → Prop) (H H' : Hp) : Prop where
  tup : Tups K H H'
  lst : ∀ a xs, ok a → H a = some (.lst xs) → H' a = some (.lst xs)
  dct : ∀ a, H a = some (MD w a []) → H' a = some (MD w a [])
theorem Keep.same (s : Same H H') : Keep K w ok H H' := ⟨Tups.same s, fun a xs _ e => s _ _ e, fun a e => s _ _ e⟩
theorem Keep.but {S G : Addr} {n : Int} (b : ButSG S G H H') (k : SkAt H S G n) : Keep K w (fun a => a ≠ S ∧ a ≠ G) H H' := ⟨tups_but b k, fun a xs o e => b _ _ o.1 o.2 e, fun a e => but_get b k e (fun _ z => by cases z)⟩
mutual
theorem dz_mono (k : Keep K w ok H H') : ∀ (d : PyData) (v : V), Dz K w ok H v d → Dz K w ok H' v d
  | .none, _, h => by cases h; exact .non
  | .bool b, _, h => by cases h; exact .bl b
  | .int i, _, h => by cases h; exact .int i
  | .str x, _, h => by cases h; exact .str x
  | .list ds, _, h => by
    cases h with
    | lst e o a => exact .lst (k.lst _ _ o e) o (dzs_mono k ds _ a)
  | .tuple ds, _, h => by
    cases h with
    | tup e a => exact .tup (k.tup _ _ e) (dzs_mono k ds _ a)
  | .dict _, _, h => by
    cases h with
    | dct e => exact .dct (k.dct _ e)
theorem dzs_mono (k : Keep K w ok H H') : ∀ (ds : List PyData) (vs : List V), DzAll K w ok H vs ds → DzAll K w ok H' vs ds
  | [], _, h => by cases h; exact .nil
  | d :: ds, _, h => by
    cases h with
    | cons a b => exact .cons (dz_mono k d _ a) (dzs_mono k ds _ b)
end
theorem dzs_len {vs : List V} {ds : List PyData} (h : DzAll K w ok H vs ds) : vs.length = ds.length := by
  induction ds generalizing vs with
  | nil => cases h; rfl
  | cons d ds ih =>
    cases h with
    | cons _ b => rw [List.length_cons, List.length_cons, ih b]
theorem dz_at {xs : List V} {ds : List PyData} (h : DzAll K w ok H xs ds) {k : Nat} (hk : k < ds.length) : Dz K w ok H (xs.getD k .non) (ds.getD k .none) := by
  induction ds generalizing xs k with
  | nil => simp at hk
  | cons d ds ih =>
    cases h with
    | cons a b =>
      cases k with
      | zero => exact a
      | succ k => exact ih b (by simpa using hk)
theorem dz_get {xs : List V} {ds : List PyData} (h : DzAll K w ok H xs ds) {k : Nat} {d : PyData} (hd : ds[k]? = some d) : ∃ v, xs[k]? = some v ∧ Dz K w ok H v d := by
  have hk := (List.getElem?_eq_some_iff.mp hd).1
  have l := dzs_len h
  have q := dz_at h hk
  refine ⟨xs.getD k .non, ?_, ?_⟩
  · rw [List.getD_eq_getElem?_getD, List.getElem?_eq_getElem (by omega)]; rfl
  · rw [List.getD_eq_getElem?_getD (l := ds), hd] at q
    exact q
theorem dzs_app {xs ys : List V} {ds es : List PyData} (h : DzAll K w ok H xs ds) (h' : DzAll K w ok H ys es) : DzAll K w ok H (xs ++ ys) (ds ++ es) := by
  induction ds generalizing xs with
  | nil => cases h; exact h'
  | cons d ds ih =>
    cases h with
    | cons a b => exact .cons a (ih b)
theorem dzs_drop {xs : List V} {ds : List PyData} (h : DzAll K w ok H xs ds) (n : Nat) : DzAll K w ok H (xs.drop n) (ds.drop n) := by
  induction ds generalizing xs n with
  | nil => cases h; rw [List.drop_nil, List.drop_nil]; exact .nil
  | cons d ds ih =>
    cases h with
    | cons a b =>
      cases n with
      | zero => exact .cons a b
      | succ n => exact ih b n
theorem dzs_take {xs : List V} {ds : List PyData} (h : DzAll K w ok H xs ds) (n : Nat) : DzAll K w ok H (xs.take n) (ds.take n) := by
  induction ds generalizing xs n with
  | nil => cases h; rw [List.take_nil, List.take_nil]; exact .nil
  | cons d ds ih =>
    cases h with
    | cons a b =>
      cases n with
      | zero => exact .nil
      | succ n => exact .cons a (ih b n)
theorem dzs_one {v : V} {d : PyData} (h : Dz K w ok H v d) : DzAll K w ok H [v] [d] := .cons h .nil
theorem dzs_rev {xs : List V} {ds : List PyData} (h : DzAll K w ok H xs ds) : DzAll K w ok H xs.reverse ds.reverse := by
  induction ds generalizing xs with
  | nil => cases h; exact .nil
  | cons d ds ih =>
    cases h with
    | cons a b => rw [List.reverse_cons, List.reverse_cons]; exact dzs_app (ih b) (dzs_one a)
mutual
theorem dz_of : ∀ (d : PyData) (v : V), tupD d = true → Dp K H v d → Dz K w ok H v d
  | .none, _, _, h => by cases h; exact .non
  | .bool b, _, _, h => by cases h; exact .bl b
  | .int i, _, _, h => by cases h; exact .int i
  | .str x, _, _, h => by cases h; exact .str x
  | .list ds, _, f, h => by cases f
  | .tuple ds, _, f, h => by
    cases h with
    | tup e a => exact .tup e (dzs_of ds _ f a)
  | .dict _, _, _, h => by cases h
theorem dzs_of : ∀ (ds : List PyData) (vs : List V), tupDs ds = true → DpAll K H vs ds → DzAll K w ok H vs ds
  | [], _, _, h => by cases h; exact .nil
  | d :: ds, _, f, h => by
    simp only [tupDs, Bool.and_eq_true] at f
    cases h with
    | cons a b => exact .cons (dz_of d _ f.1 a) (dzs_of ds _ f.2 b)
end
mutual
theorem dp_of : ∀ (d : PyData) (v : V), tupD d = true → Dz K w ok H v d → Dp K H v d
  | .none, _, _, h => by cases h; exact .non
  | .bool b, _, _, h => by cases h; exact .bl b
  | .int i, _, _, h => by cases h; exact .int i
  | .str x, _, _, h => by cases h; exact .str x
  | .list ds, _, f, h => by cases f
  | .tuple ds, _, f, h => by
    cases h with
    | tup e a => exact .tup e (dps_of ds _ f a)
  | .dict _, _, f, _ => by cases f
theorem dps_of : ∀ (ds : List PyData) (vs : List V), tupDs ds = true → DzAll K w ok H vs ds → DpAll K H vs ds
  | [], _, _, h => by cases h; exact .nil
  | d :: ds, _, f, h => by
    simp only [tupDs, Bool.and_eq_true] at f
    cases h with
    | cons a b => exact .cons (dp_of d _ f.1 a) (dps_of ds _ f.2 b)
end
/-- its kind -/
theorem dz_ty {v : V} {d : PyData} (h : Dz K w ok H v d) : TyX K H v (.type (tyName d)) ∨ ∃ a, v = .ref a ∧ d = .dict [] ∧ H a = some (MD w a []) := by
  cases h with
  | non => exact .inl (.base .non)
  | bl b => exact .inl (.base (.bl b))
  | int i => exact .inl (.base (.int i))
  | str x => exact .inl (.base (.str x))
  | lst e o a => exact .inl (.base (.lst e))
  | tup s a =>
    rcases s with (s | ⟨o, s⟩) | ⟨o, its, n, e, c, _⟩
    · exact .inl (.base (.tup s))
    · exact .inl (.fTuple s)
    · exact .inl (.kTuple e c)
  | dct e => exact .inr ⟨_, rfl, rfl, e⟩
end
section
variable {X : Cx}
abbrev rIsiZ (K : PySem.W.Frag) (w : World) : List V → Hp → VK → Prop := fun xs H Q => ∃ ok v d T, xs = [v, .ty T] ∧ Dz K w ok H v d ∧ (T = "int" ∨ T = "bool" ∨ T = "str" ∨ T = "tuple" ∨ T = "dict" ∨ T = "list") ∧ Q (.bl (isTy d T)) H
theorem call_isiZ : CallR X (.builtin "isinstance") (rIsiZ X.K X.w) := by
  intro pins s σ H xs us Q I r ⟨ok, v, d, T, ex, hd, hT, q⟩
  rcases dz_ty hd with t | ⟨a, ev, ed, e⟩
  · exact call_isi pins s σ H xs us Q I r ⟨v, .ty T, _, _, isTy d T, ex, .ty T, t, kit_ty (kit_isTy d T hT), q⟩
  · subst ed ev
    exact call_isiM pins s σ H xs us Q I r ⟨a, [], .ty T, _, isTy (.dict []) T, ex, .ty T, ⟨.inl e, fun x hx => by cases hx⟩, kit_ty (kit_isTy (.dict []) T hT), q⟩
end
end Fc
namespace Fc
open PySem PySem.Spec L2 PyProof.Rows PySem.W
/-! != of any nested data and a text -/
section
variable {prog : Program} {w : World} {A : Around} {E : Value → Shared → Prop} {s : Shared}
theorem dict_ne_declines_str (l : Addr) (o : Obj) (b : Str) (u : Tok) (hc : o.cls = .type "dict") :
    Meets (Builtin.«dict.__ne__» ⟨[.ref l, .str b u], []⟩) (fun _ R s => s.heap.get? l = some o ∧ R (.ok (.ret .notImplemented)) s) :=
  .of_wp fun prog w A R s h => by
    obtain ⟨hl, h⟩ := h
    have ty : s.TypeIs (.ref l) "dict" := ⟨o, hl, hc⟩
    show wpAny _ _ (Builtin.Dict.dictSlotArgs "__ne__" ⟨[.ref l, .str b u], []⟩ >>= _) _ _ s
    refine wpAny_bind ?_
    unfold Builtin.Dict.dictSlotArgs
    refine wpAny_bind (wpAny_notOrdered_dict ty ?_)
    show wpAny _ _ (pure (Value.ref l, Value.str b u)) _ _ s
    refine wpAny_pure ?_
    refine wpAny_bind (wpAny_isInstance (T := "str") (typeIs_str s b u) PySem.F.sub_str_dict ?_)
    simp only [Bool.not_false, if_true]
    refine wpAny_bind (wpAny_rule ?_)
    exact wpAny_pure ⟨_, rfl, h⟩
theorem str_ne_declines_dict (l : Addr) (o : Obj) (b : Str) (u : Tok) (hc : o.cls = .type "dict") (es : Array DictEntry) (ep : Nat) (hd : o.data = .dict es ep) :
    Meets (Builtin.«str.__ne__» ⟨[.str b u, .ref l], []⟩) (fun _ R s => s.heap.get? l = some o ∧ R (.ok (.ret .notImplemented)) s) :=
  .of_wp fun prog w A R s h => by
    obtain ⟨c, dd, data, sl⟩ := o
    simp only at hc hd
    subst hc hd
    obtain ⟨hp, g, d, tk, os⟩ := s
    obtain ⟨hl, h⟩ := h
    wp_walk using wpAny_loadPart' hl, wpAny_load hl
    exact ⟨_, rfl, h⟩
theorem rcne_dict_str {l : Addr} {o : Obj} {es : Array DictEntry} {ep : Nat} (b : Str) (u : Tok) (ho : s.heap.get? l = some o) (hc : o.cls = .type "dict") (hd : o.data = .dict es ep) (hu : A.units < cLine) : SeqAt.RcNeAt A s (.ref l) (.str b u) true := fun prog w E Q h => by
  exact SeqAt.rc_ne_decline_or (k := false) ⟨_, ho, hc⟩ (typeIs_str s b u) (by decide) PySem.F.sub_str_dict PySem.F.slot_dict_ne PySem.F.slot_str_ne_refl
    (fun _ hq => call_meets PySem.F.slot_dict_ne ⟨_, ho, hc⟩ PySem.F.entry_dict_ne (PySem.F.args_dict_ne_2 _ _) (dict_ne_declines_str l o b u hc) ⟨ho, hq⟩)
    (fun _ hq => call_meets PySem.F.slot_str_ne_refl (typeIs_str s b u) PySem.F.entry_str_ne (PySem.F.args_str_ne_2 _ _) (str_ne_declines_dict l o b u hc es ep hd) ⟨ho, hq⟩)
    (fun _ hq => wpAny_of_eq (rfl : isSame (.ref l) (.str b u) = pure false) hq) (.inr hu) h
theorem of_rcneZ {a b : Value} {k : Bool} {Q : Value → Shared → Prop} (h : SeqAt.RcNeAt A s a b k) (hq : Q (.bool k) s) : wpAny (model prog w) A (compareOp .NotEq a b) Q E s := h prog w E Q hq
end
section
variable {X : Cx}
def isStrD (d : PyData) (x : Str) : Bool := match d with | .str y => decide (y = x) | _ => false
def rNeZ (K : PySem.W.Frag) (w : World) : R2 := fun x y H Q => ∃ ok d t, Dz K w ok H x d ∧ y = .str t ∧ Q (.bl (!isStrD d t)) H
theorem op_neZ (hu : X.A.units < cLine) : OpR X (compareOp .NotEq) (rNeZ X.K X.w) := by
  intro pins s σ H x y v u Q I rx ry h
  obtain ⟨ok, d, t, hd, rfl, q⟩ := h
  obtain ⟨tk, rfl⟩ := ry
  cases hd with
  | non => cases rx; exact of_rcneZ (SeqAt.RcNeAt.none_str t tk) ⟨.bl _, H, I, rfl, q⟩
  | bl b => cases rx; exact of_rcneZ (SeqAt.RcNeAt.bool_str b t tk) ⟨.bl _, H, I, rfl, q⟩
  | int i => obtain ⟨tk2, rfl⟩ := rx; exact of_rcneZ (SeqAt.RcNeAt.int_str i tk2 t tk) ⟨.bl _, H, I, rfl, q⟩
  | str y =>
    obtain ⟨tk2, rfl⟩ := rx
    exact of_rcneZ (SeqAt.RcNeAt.str_str y tk2 t tk) ⟨.bl _, H, I, rfl, q⟩
  | lst e o a =>
    obtain rfl : v = Value.ref _ := rx
    obtain ⟨its, rv, il, _⟩ := I.list (.inl (.inl e))
    exact of_rcneZ (SeqAt.RcNeAt.list_str t tk il.isList hu) ⟨.bl _, H, I, rfl, q⟩
  | tup e a =>
    obtain rfl : v = Value.ref _ := rx
    obtain ⟨its, rv, il, _⟩ := I.tuple e
    exact of_rcneZ (SeqAt.RcNeAt.tuple_str t tk il hu) ⟨.bl _, H, I, rfl, q⟩
  | dct e =>
    obtain rfl : v = Value.ref _ := rx
    obtain ⟨_, _, o, _, _, ho, hc, hd, _⟩ := (TabAt.mk (K := X.K) (.inl e) (fun x hx => by cases hx)).get I
    exact of_rcneZ (rcne_dict_str t tk ho hc.1 hd hu) ⟨.bl _, H, I, rfl, q⟩
end
end Fc
namespace Fc
open PySem L2 PyProof.Rows
theorem dz_tup {K : PySem.W.Frag} {w : World} {ok : Addr → Prop} {H : Hp} {v : V} {d : PyData} (h : Dz K w ok H v d) (t : isTy d "tuple" = true) : ∃ a xs ds, v = .ref a ∧ d = .tuple ds ∧ SqT K H a xs ∧ DzAll K w ok H xs ds := by
  obtain ⟨ds, rfl⟩ : ∃ ds, d = .tuple ds := by cases d <;> first | exact ⟨_, rfl⟩ | (simp [isTy, tyName] at t)
  cases h with
  | @tup a xs _ sa da => exact ⟨a, xs, ds, rfl, rfl, sa, da⟩
theorem dz_some {K : PySem.W.Frag} {w : World} {ok : Addr → Prop} {H : Hp} {xs : List V} {ds : List PyData} (h : DzAll K w ok H xs ds) {k : Nat} (hk : k < ds.length) : xs[k]? = some (xs.getD k .non) := by
  rw [List.getD_eq_getElem?_getD, List.getElem?_eq_getElem (by rw [dzs_len h]; exact hk)]; rfl
theorem dz_same {K : PySem.W.Frag} {w : World} {ok : Addr → Prop} {H H' : Hp} (s : Same H H') (d : PyData) (v : V) (h : Dz K w ok H v d) : Dz K w ok H' v d := dz_mono (Keep.same s) d v h
theorem hu0Z {n : Nat} (h : n + 70 < cLine) : n < cLine := by omega
/-- an amount: the empty text or a value's name -/
def amountZ (ks : List (Str × Str)) (d : PyData) : Bool := match d with
  | .tuple [a, b] => (isStrD a "" || decide (kindD ks a = some ("value" : Str))) && isNum b
  | _ => false
theorem amountZ_no (ks : List (Str × Str)) (ds : List PyData) (h : ds.length ≠ 2) : amountZ ks (.tuple ds) = false := by
  match ds with
  | [] => rfl
  | [_] => rfl
  | [_, _] => exact absurd rfl h
  | _ :: _ :: _ :: _ => rfl
theorem nt_amountZ (ks : List (Str × Str)) (d : PyData) (h : isTy d "tuple" = false) : amountZ ks d = false := by cases d <;> first | rfl | (rw [isTy_tupF] at h; cases h)
def spIntZ (K : PySem.W.Frag) (w : World) : Sp := fun vs H Q _ => ∃ ok v d, vs = [v] ∧ Dz K w ok H v d ∧ Q (.bl (isInt d)) H
def spPassedZ (K : PySem.W.Frag) (w : World) : Sp := fun vs H Q _ => ∃ ok v d, vs = [v] ∧ Dz K w ok H v d ∧ Q (.bl (isNum d)) H
def spKindZ (K : PySem.W.Frag) (w : World) : Sp := fun vs H Q _ => ∃ ok a ks v d, vs = [.ref a, v] ∧ KdsAt H a ks ∧ Dz K w ok H v d ∧ Q (oS (kindD ks d)) H
def spPlaceWZ (K : PySem.W.Frag) (w : World) : Sp := fun vs H Q _ => ∃ ok a ks v d o own, vs = [.ref a, v, .ref o] ∧ KdsAt H a ks ∧ Dz K w ok H v d ∧ SqT K H o (List.map V.str own) ∧ ∀ H', Same H H' → Q (.bl (placeW ks own d)) H'
def spPlaceDZ (K : PySem.W.Frag) (w : World) : Sp := fun vs H Q _ => ∃ ok a ks v d o own, vs = [.ref a, v, .ref o] ∧ KdsAt H a ks ∧ Dz K w ok H v d ∧ SqT K H o (List.map V.str own) ∧ ∀ H', Same H H' → Q (.bl (placeD ks own d)) H'
def spCellDZ (K : PySem.W.Frag) (w : World) : Sp := fun vs H Q _ => ∃ ok a ks v d o own, vs = [.ref a, v, .ref o] ∧ KdsAt H a ks ∧ Dz K w ok H v d ∧ SqT K H o (List.map V.str own) ∧ ∀ H', Same H H' → Q (.bl (cellD ks own d)) H'
def spAmountDZ (K : PySem.W.Frag) (w : World) : Sp := fun vs H Q _ => ∃ ok a ks v d, vs = [.ref a, v] ∧ KdsAt H a ks ∧ Dz K w ok H v d ∧ ∀ H', Same H H' → Q (.bl (amountZ ks d)) H'
section
variable {K : PySem.W.Frag} {mg : Str → Option Value} {base : Heap} {P : Program} {w : World}
theorem ok11Z {f : Addr} {fd : FuncData} (F : Fun K "kind_among" "kind_among" (topS 11) f fd) (B : Blt mg) : FnOk P w K mg base CX0 1 f fd ["kinds", "word"] (spKindZ K w) := by
  refine F.ok sc11 (fun vs H Q E h => ?_) (fun cdv A outer s H vs Q E hr h => ?_)
  · obtain ⟨ok, a, ks, v, d, rfl, _⟩ := h
    rfl
  · have hu := hu70 hr
    refine ⟨_, pss_cons (ps_if (pt_not (pt_val (pe_callB call_isiZ (by rfl) B.isinstance boot_isinstance (pa_cons (pv 1) (pa_cons (pe_bltn (v := .ty "str") (by rfl) B.str boot_str rfl) pa_nil))))) (pss_one (ps_ret pe_non)) pss_nil)
      (pss_one (ps_ret (pe_dget1 (hu1 hu) (pv 0) (pv 1) ⟨rfl, rfl, rfl, rfl⟩))), ?_⟩
    obtain ⟨ok, a, ks, v, d, rfl, hk, hd, q⟩ := h
    refine ⟨_, rfl, ok, v, d, _, rfl, hd, .inr (.inr (.inl rfl)), _, rfl, ?_⟩
    cases hd with
    | str x =>
      refine iteF ⟨_, rfl, a, rfl, .inl ⟨_, hk⟩, _, rfl, _, .inl ⟨_, .inr x, hk, rfl, rfl⟩, ?_⟩
      rw [kvK_val]
      exact q
    | non => exact iteT q
    | bl b => exact iteT q
    | int i => exact iteT q
    | lst _ _ _ => exact iteT q
    | tup _ _ => exact iteT q
    | dct _ => exact iteT q
end
end Fc
namespace Fc
open PySem L2 PyProof.Rows
/-! its texts are short -/
mutual
def smD : PyData → Bool
  | .str x => decide (x.length ≤ 1000)
  | .list ds => smDs ds
  | .tuple ds => smDs ds
  | _ => true
def smDs : List PyData → Bool
  | [] => true
  | d :: ds => smD d && smDs ds
end
theorem smDs_iff (ds : List PyData) : smDs ds = true ↔ ∀ d ∈ ds, smD d = true := by
  induction ds with
  | nil => simp [smDs]
  | cons d ds ih => simp [smDs, ih]
theorem smD_at {ds : List PyData} (h : smD (.tuple ds) = true) {d : PyData} (hd : d ∈ ds) : smD d = true := (smDs_iff ds).mp h d hd
def isNameD (d : PyData) : Bool := match d with | .str x => isNameS x | _ => false
def freshD (P : Pa) (d : PyData) : Bool := match d with | .str x => isNameS x && decide (x ∉ namesL P) | _ => false
def twoD (ds : List PyData) : Bool := match ds with | [a, .str t] => !isStrD a t | _ => true
/-- at most two different fresh names -/
def ownD (P : Pa) (d : PyData) : Bool := match d with
  | .tuple ds => decide (ds.length ≤ 2) && (ds.all (freshD P) && twoD ds)
  | _ => false
theorem nt_own (P : Pa) (d : PyData) (h : isTy d "tuple" = false) : ownD P d = false := by cases d <;> first | rfl | (rw [isTy_tupF] at h; cases h)
theorem ownD_ok {P : Pa} {own : List Str} (h : OwnOk P own) : ownD P (dS own) = true := by
  have l := h.len
  have a : (own.map PyData.str).all (freshD P) = true := by
    rw [List.all_map]
    refine List.all_eq_true.mpr fun x hx => ?_
    obtain ⟨n1, n2, n3⟩ := h.nm x hx
    show (isNameS x && decide (x ∉ namesL P)) = true
    rw [n1, decide_eq_true n3]; rfl
  show (decide ((own.map PyData.str).length ≤ 2) && ((own.map PyData.str).all (freshD P) && twoD (own.map PyData.str))) = true
  rw [a, decide_eq_true (by rw [List.length_map]; exact l)]
  match own, h.nd with
  | [], _ => rfl
  | [_], _ => rfl
  | [x, y], nd =>
    have nxy : x ≠ y := fun e => by rw [e] at nd; simp at nd
    show (!decide (x = y)) = true
    rw [decide_eq_false nxy]; rfl
  | _ :: _ :: _ :: _, _ => simp at l
theorem ownOk_smS {P : Pa} {own : List Str} (h : OwnOk P own) : smD (dS own) = true := by
  refine (smDs_iff _).mpr fun d hd => ?_
  obtain ⟨x, hx, rfl⟩ := List.mem_map.mp hd
  exact decide_eq_true (h.nm x hx).2.1
theorem amountZ_eq (ks : List (Str × Str)) (d : PyData) : amountZ ks d = amountD ks d := by
  have k : ∀ a : PyData, isStrD a "" = PyData.eqv a (.str "") := fun a => by
    cases a with
    | str x =>
      show decide (x = "") = PyData.eqv (.str x) (.str "")
      by_cases c : x = ""
      · subst c; decide +kernel
      · rw [decide_eq_false c]
        symm
        simp [PyData.eqv, c]
    | _ => simp [PyData.eqv, isStrD]
  match d with
  | .tuple [a, b] => show ((isStrD a "" || _) && _) = ((PyData.eqv a (.str "") || _) && _); rw [k]
  | .tuple [] => rfl
  | .tuple [_] => rfl
  | .tuple (_ :: _ :: _ :: _) => rfl
  | .none => rfl
  | .bool _ => rfl
  | .int _ => rfl
  | .str _ => rfl
  | .list _ => rfl
  | .dict _ => rfl
def spNameZ (K : PySem.W.Frag) (w : World) : Sp := fun vs H Q _ => ∃ ok v d, vs = [v] ∧ Dz K w ok H v d ∧ smD d = true ∧ Q (.bl (isNameD d)) H
def spFreshZ (K : PySem.W.Frag) (w : World) (C : Addr) : Sp := fun vs H Q _ => ∃ ok p P v d, vs = [.ref p, v] ∧ FrAt K C H p P ∧ Dz K w ok H v d ∧ smD d = true ∧ Q (.bl (freshD P d)) H
def spOwnZ (K : PySem.W.Frag) (w : World) (C : Addr) : Sp := fun vs H Q _ => ∃ ok p P v d, vs = [.ref p, v] ∧ FrAt K C H p P ∧ Dz K w ok H v d ∧ smD d = true ∧ Q (.bl (ownD P d)) H
def spIsPosZ (K : PySem.W.Frag) (w : World) (C : Addr) : Sp := fun vs H Q _ => ∃ ok p P v d o own, vs = [.ref p, v, .ref o] ∧ FrAt K C H p P ∧ Dz K w ok H v d ∧ SqT K H o (List.map V.str own) ∧ OwnOk P own ∧ ∀ H', Same H H' → Q (.bl (lawPlace P own d)) H'
def spIsValZ (K : PySem.W.Frag) (w : World) (C : Addr) : Sp := fun vs H Q _ => ∃ ok p P v d o own, vs = [.ref p, v, .ref o] ∧ FrAt K C H p P ∧ Dz K w ok H v d ∧ SqT K H o (List.map V.str own) ∧ OwnOk P own ∧ ∀ H', Same H H' → Q (.bl (lawWorth P own d)) H'
section
variable {K : PySem.W.Frag} {mg : Str → Option Value} {base : Heap} {P : Program} {w : World}
theorem dz_strs {K : PySem.W.Frag} {w : World} {ok : Addr → Prop} {H : Hp} (own : List Str) : DzAll K w ok H (own.map V.str) (own.map PyData.str) := by
  induction own with
  | nil => exact .nil
  | cons x xs ih => exact .cons (.str x) ih
theorem sp_own {C : Addr} (vs : List V) (H : Hp) (Q : VK) (E : XK) (h : spOwn K C vs H Q E) : spOwnZ K w C vs H Q E := by
  obtain ⟨p, P, o, own, rfl, fr, ho, oo, q⟩ := h
  exact ⟨fun _ => True, p, P, _, dS own, rfl, fr, .tup ho (dz_strs own), ownOk_smS oo, by rw [ownD_ok oo]; exact q⟩
theorem Cal.imp {k : Nat} {x : Str} {sp sp' : Sp} (c : Cal P w K mg base k x sp) (h : ∀ vs H Q E, sp' vs H Q E → sp vs H Q E) : Cal P w K mg base k x sp' := by
  obtain ⟨f, fd, ps, F, r⟩ := c.at_
  exact ⟨f, fd, ps, F.imp h, r⟩
theorem ok21Z {f : Addr} {fd : FuncData} (F : Fun K "is_name" "is_name" (topS 21) f fd) (B : Blt mg) : FnOk P w K mg base CX0 1 f fd ["value"] (spNameZ K w) := by
  refine F.ok sc21 (fun vs H Q E h => ?_) (fun cdv A outer s H vs Q E hr h => ?_)
  · obtain ⟨ok, v, d, rfl, _⟩ := h
    rfl
  · obtain ⟨ok, v, d, rfl, hd, hz, q⟩ := h
    refine ⟨_, pss_cons (ps_if (pw_or (pt_not (pt_val (pe_callB call_isiZ (by rfl) B.isinstance boot_isinstance (pa_cons (pv 0) (pa_cons (pe_bltn (v := .ty "str") (by rfl) B.str boot_str rfl) pa_nil)))))
        (pw_or1 (pt_not (pt_chain op_le op_le pe_int (pe_callB call_len_str (by rfl) B.len boot_len (pa_cons (pv 0) pa_nil)) pe_int)))).pt (pss_one (ps_ret pe_bl)) pss_nil)
      (pss_cons (ps_for PassesOwn.never rfl (pi_str (pv 0)) (pg_name (i := 1) sc21.nd rfl (Or.inl rfl)) (pss_one (ps_if (pt_not (pt_chain op_le_str op_le_str pe_str (pv 1) pe_str)) (pss_one (ps_ret pe_bl)) pss_nil)))
      (pss_one (ps_ret pe_bl))), ?_⟩
    refine ⟨_, rfl, ok, v, d, _, rfl, hd, .inr (.inr (.inl rfl)), _, rfl, ?_⟩
    have no : isTy d "str" = false → Q (.bl false) H := fun e => by cases d <;> first | exact q | (exact nomatch e)
    cases hd with
    | non => exact iteT (no rfl)
    | bl _ => exact iteT (no rfl)
    | int _ => exact iteT (no rfl)
    | lst _ _ _ => exact iteT (no rfl)
    | tup _ _ => exact iteT (no rfl)
    | dct _ => exact iteT (no rfl)
    | str x =>
    clear no
    replace hz : x.length ≤ 1000 := of_decide_eq_true hz
    replace q : Q (.bl (isNameS x)) H := q
    refine iteF ?_
    have z1 : x.length ≤ sizeLine := by rw [sizeLine_eq]; omega
    refine ⟨_, rfl, x, rfl, z1, 1, _, rfl, rfl, _, rfl, ?_⟩
    unfold isNameS at q
    by_cases c1 : (1 : Int) ≤ (x.length : Int)
    · rw [decide_eq_true c1] at q ⊢
      refine iteT ⟨_, _, rfl, rfl, _, rfl, ?_⟩
      by_cases c2 : (x.length : Int) ≤ 8
      · rw [decide_eq_true c2] at q ⊢
        refine iteF ⟨_, rfl, x, rfl, ?_⟩
        replace q : Q (.bl (x.cps.toList.all lowC)) H := q
        refine for_steady steady_str (fun i σ H' => H' = H ∧ (∃ v, σ = [some (.str x), v]) ∧ (x.cps.toList.take i).all lowC = true) ⟨rfl, ⟨_, rfl⟩, rfl⟩ (fun _ _ _ _ _ => trivial) ?_ ?_
        · rintro i σ H' hi ⟨rfl, ⟨v, rfl⟩, pre⟩
          have hx : x.cps.getD i 0 = x.cps[i] := by rw [Array.getD_eq_getD_getElem?, Array.getElem?_eq_getElem hi]; rfl
          rw [hx]
          have tk : x.cps.toList.take (i + 1) = x.cps.toList.take i ++ [x.cps[i]] := by rw [List.take_add_one, List.getElem?_eq_getElem (by simpa using hi)]; simp
          refine ⟨_, rfl, _, _, rfl, rfl, _, rfl, ?_⟩
          have e1 : (!decide (({ cps := #[x.cps[i]] } : Str).cps.toList < (Str.ofString "a").cps.toList)) = !decide ([x.cps[i]] < [97]) := rfl
          have e2 : (!decide ((Str.ofString "z").cps.toList < ({ cps := #[x.cps[i]] } : Str).cps.toList)) = !decide ([122] < [x.cps[i]]) := rfl
          have mem : x.cps.toList.all lowC = true → lowC x.cps[i] = true := fun h => List.all_eq_true.mp h _ (by simp)
          have off : lowC x.cps[i] = false → Q (.bl false) H' := fun e => by
            have z : x.cps.toList.all lowC = false := by
              cases q2 : x.cps.toList.all lowC with
              | false => rfl
              | true => rw [mem q2] at e; cases e
            rw [z] at q
            exact q
          rw [e1]
          cases d1 : !decide ([x.cps[i]] < [97]) with
          | false => exact iteF ⟨_, rfl, iteT (off (by unfold lowC; rw [d1]; rfl))⟩
          | true =>
            refine iteT ⟨_, _, rfl, rfl, _, rfl, ?_⟩
            rw [e2]
            cases d2 : !decide ([122] < [x.cps[i]]) with
            | false => exact iteT (off (by unfold lowC; rw [d2, Bool.and_false]))
            | true =>
              refine iteF ⟨rfl, ⟨_, rfl⟩, ?_⟩
              rw [tk, List.all_append, pre]
              simp only [List.all_cons, List.all_nil, Bool.and_true, Bool.true_and]
              unfold lowC
              rw [d1, d2]
              rfl
        · rintro σ H' ⟨rfl, ⟨v, rfl⟩, pre⟩
          rw [List.take_of_length_le (by simp)] at pre
          rw [pre] at q
          exact q
      · rw [decide_eq_false c2] at q ⊢
        exact iteT q
    · rw [decide_eq_false c1] at q ⊢
      exact iteF ⟨_, rfl, iteT q⟩
theorem okM7Z {f C : Addr} {fd : FuncData} (F : Fun K "is_fresh" "Frame.is_fresh" (mF 7) f fd) (B : Blt mg) (T : FrTxt K mg C) (c21 : Cal P w K mg base 1 "is_name" (spNameZ K w)) : FnOk P w K mg base CX0 2 f fd ["self", "value"] (spFreshZ K w C) := by
  refine F.ok scM7 (fun vs H Q E h => ?_) (fun cdv A outer s H vs Q E hr h => ?_)
  · obtain ⟨ok, p, P, v, d, rfl, _⟩ := h
    rfl
  · have hu := hu70 hr
    refine ⟨_, pss_one (ps_ret (pe_and (pe_c c21 hr (by decide) (by rfl) (pa_cons (pv 1) pa_nil)) (pe_one (pe_cmp (pc_dnotin (hu1 hu) (pv 1) (pe_fld (pv 0) rfl)))))), ?_⟩
    obtain ⟨okz, p, P, v, d, rfl, ⟨ok, dx, fs, tA, tP, tV, aK, h1, h2, h3, h4, h5, h6, h7, h8, h9, h10⟩, hd, hx, q⟩ := h
    refine ⟨_, rfl, okz, v, d, rfl, hd, hx, _, rfl, ?_⟩
    cases hd with
    | non => exact iteF q
    | bl _ => exact iteF q
    | int _ => exact iteF q
    | lst _ _ _ => exact iteF q
    | tup _ _ => exact iteF q
    | dct _ => exact iteF q
    | str x =>
    replace q : Q (.bl (isNameS x && decide (x ∉ namesL P))) H := q
    change (if isNameS x = true then _ else _)
    cases e : isNameS x with
    | false => rw [e] at q; exact iteF q
    | true =>
      rw [e] at q
      refine iteT ⟨_, rfl, _, rfl, p, C, dx, fs, _, rfl, h1, T.cl, T.nK, h5, aK, _, rfl, DGet.k (k := .inr x) h10, ?_⟩
      rw [valK_some, kinds_keys]
      have e2 : (!decide (x ∈ namesL P)) = decide (x ∉ namesL P) := by by_cases c : x ∈ namesL P <;> simp [c]
      rw [e2]
      exact q
theorem own_take {ds : List PyData} {P : Pa} {i : Nat} (hi : i < ds.length) (h : freshD P ds[i] = false) : ds.all (freshD P) = false := by
  cases e : ds.all (freshD P) with
  | false => rfl
  | true => rw [List.all_eq_true.mp e _ (List.getElem_mem hi)] at h; cases h
end
end Fc
namespace Fc
open PySem PySem.Spec L2 PyProof.Rows PySem.W
section
variable {X : Cx}
/-- a list against an empty one -/
def rNil (K : PySem.W.Frag) (n : Bool → Bool) : R2 := fun x y H Q => ∃ p xs p2, x = .ref p ∧ y = .ref p2 ∧ SqL K H p xs ∧ SqL K H p2 [] ∧ Q (.bl (n (decide (xs = [])))) H
theorem vals_nil {us : List Value} (h : Vals [] us) : us = [] := by cases h; rfl
theorem op_neNil (hu : X.A.units + 64 < cLine) : OpR X (compareOp .NotEq) (rNil X.K not) := by
  intro pins s σ H x y v u Q I rx ry h
  obtain ⟨p, xs, p2, rfl, rfl, h1, h2, q⟩ := h
  obtain rfl : v = Value.ref p := rx
  obtain rfl : u = Value.ref p2 := ry
  obtain ⟨its, rv, pl, _⟩ := I.list h1
  obtain ⟨its2, rv2, pl2, _⟩ := I.list h2
  obtain rfl := vals_nil rv2
  by_cases c : xs = []
  · subst c
    obtain rfl := vals_nil rv
    refine of_rcneZ (SeqAt.RcNeAt.lists pl.isList pl2.isList rfl (by omega) (e := fun _ => true) fun j h1 => ?_) ⟨.bl _, H, I, rfl, q⟩
    simp at h1
  · rw [decide_eq_false c] at q
    refine of_rcneZ (SeqAt.RcNeAt.lists_lengths pl.isList pl2.isList ?_ (by omega)) ⟨.bl _, H, I, rfl, q⟩
    have := L2.Vals.length rv
    simp only [List.size_toArray, List.length_nil, bne_iff_ne, ne_eq]
    intro e
    exact c (List.eq_nil_of_length_eq_zero (by omega))
theorem of_rcZ {prog : Program} {w : World} {A : Around} {E : Value → Shared → Prop} {s : Shared} {a b : Value} {k : Bool} {Q : Value → Shared → Prop} (h : SeqAt.RcAt A s a b k) (hq : Q (.bool k) s) : wpAny (model prog w) A (compareOp .Eq a b) Q E s := h prog w E Q hq
theorem op_eqNil (hu : X.A.units + 64 < cLine) : OpR X (compareOp .Eq) (rNil X.K id) := by
  intro pins s σ H x y v u Q I rx ry h
  obtain ⟨p, xs, p2, rfl, rfl, h1, h2, q⟩ := h
  obtain rfl : v = Value.ref p := rx
  obtain rfl : u = Value.ref p2 := ry
  obtain ⟨its, rv, pl, _⟩ := I.list h1
  obtain ⟨its2, rv2, pl2, _⟩ := I.list h2
  obtain rfl := vals_nil rv2
  by_cases c : xs = []
  · subst c
    obtain rfl := vals_nil rv
    refine of_rcZ (SeqAt.RcAt.lists pl.isList pl2.isList rfl (by omega) (e := fun _ => true) fun j h1 => ?_) ⟨.bl _, H, I, rfl, q⟩
    simp at h1
  · rw [decide_eq_false c] at q
    refine of_rcZ (SeqAt.RcAt.lists_lengths pl.isList pl2.isList ?_ (by omega)) ⟨.bl _, H, I, rfl, q⟩
    have := L2.Vals.length rv
    simp only [List.size_toArray, List.length_nil, bne_iff_ne, ne_eq]
    intro e
    exact c (List.eq_nil_of_length_eq_zero (by omega))
end
/-! strip of small letters -/
def lettersS : Str := Str.ofString "abcdefghijklmnopqrstuvwxyz"
theorem goes_low (c : Nat) : lettersS.cps.contains c = lowC c := by
  by_cases h : c < 128
  · have := (by decide +kernel : ∀ c < 128, lettersS.cps.contains c = lowC c)
    exact this c h
  · have e1 : lettersS.cps.contains c = false := by
      rw [Bool.eq_false_iff]
      intro e
      have m := Array.contains_iff_mem.mp e
      have all : ∀ d ∈ lettersS.cps, d < 128 := by decide +kernel
      exact h (all c m)
    have e2 : lowC c = false := by
      unfold lowC
      have : [122] < [c] := List.Lex.rel (by omega)
      rw [decide_eq_true this]
      simp
    rw [e1, e2]
theorem strip_low (x : Str) : decide (Txt.stripChars x lettersS = "") = x.cps.toList.all lowC := by
  have eg : lettersS.cps.contains = lowC := funext goes_low
  have nil0 : ∀ y : Str, y = "" ↔ y.cps.toList = [] := fun y => by
    constructor
    · intro e; rw [e]; rfl
    · intro e
      obtain ⟨a⟩ := y
      have : a = #[] := Array.toList_inj.mp (by simpa using e)
      subst this
      rfl
  unfold Txt.stripChars Txt.stripBy stripSame PySem.stripped
  rw [eg]
  obtain ⟨a⟩ := x
  have elo : stripLo lowC true ⟨a⟩ = (a.toList.takeWhile lowC).length := rfl
  have ehi : stripHi lowC true ⟨a⟩ (stripLo lowC true ⟨a⟩) = a.size - ((a.toList.drop (a.toList.takeWhile lowC).length).reverse.takeWhile lowC).length := rfl
  have elen : (⟨a⟩ : Str).length = a.size := rfl
  rw [ehi, elo, elen]
  have la : a.toList.length = a.size := Array.length_toList
  rw [Bool.eq_iff_iff, decide_eq_true_iff]
  by_cases h : a.toList.all lowC = true
  · refine ⟨fun _ => h, fun _ => ?_⟩
    have tw : a.toList.takeWhile lowC = a.toList := by
      have := List.all_eq_true.mp h
      revert this
      generalize a.toList = l
      intro this
      induction l with
      | nil => rfl
      | cons c l ih => rw [List.takeWhile_cons, this c (by simp)]; simp only [if_true]; rw [ih (fun d hd => this d (List.mem_cons_of_mem _ hd))]
    rw [tw, List.drop_length]
    split
    · rename_i c
      rw [Bool.and_eq_true, beq_iff_eq, la] at c
      have : a = #[] := Array.eq_empty_of_size_eq_zero c.1
      subst this
      rfl
    · rw [nil0]
      show (a.extract a.toList.length (a.size - 0)).toList = []
      rw [la]
      simp
  · refine ⟨fun e => ?_, fun e => absurd e h⟩
    exfalso
    have key : (a.toList.takeWhile lowC).length + ((a.toList.drop (a.toList.takeWhile lowC).length).reverse.takeWhile lowC).length < a.toList.length := by
      have hx : ∃ c r, a.toList.drop (a.toList.takeWhile lowC).length = c :: r ∧ lowC c = false := by
        clear e elo ehi elen la nil0
        revert h
        generalize a.toList = l
        intro h
        induction l with
        | nil => exact absurd rfl h
        | cons c l ih =>
          rw [List.takeWhile_cons]
          cases ec : lowC c with
          | false => exact ⟨c, l, by simp, ec⟩
          | true =>
            simp only [if_true]
            rw [List.length_cons, List.drop_succ_cons]
            exact ih fun e => h (by rw [List.all_cons, ec, e]; rfl)
      obtain ⟨c, r, e1, e2⟩ := hx
      rw [e1]
      have l1 : (a.toList.takeWhile lowC).length + (c :: r).length = a.toList.length := by
        rw [← e1, List.length_drop]
        have := (List.takeWhile_prefix lowC (l := a.toList)).length_le
        omega
      have l2 : ((c :: r).reverse.takeWhile lowC).length < (c :: r).length := by
        rw [List.reverse_cons]
        have : ((r.reverse ++ [c]).takeWhile lowC).length ≤ r.reverse.length := by
          generalize r.reverse = s
          induction s with
          | nil => simp [e2]
          | cons d s ih =>
            rw [List.cons_append, List.takeWhile_cons]
            cases lowC d with
            | false => simp
            | true => simp only [if_true, List.length_cons]; omega
        rw [List.length_reverse] at this
        rw [List.length_cons]
        omega
      omega
    rw [la] at key
    generalize ((a.toList.drop (a.toList.takeWhile lowC).length).reverse.takeWhile lowC).length = m at e key
    generalize (a.toList.takeWhile lowC).length = n at e key
    split at e
    · have := congrArg (fun y : Str => y.cps.size) e
      have z : a.size = 0 := this
      omega
    · have := congrArg (fun y : Str => y.cps.size) e
      have z : (a.extract n (a.size - m)).size = 0 := this
      rw [Array.size_extract] at z
      omega
end Fc
namespace Fc
open PySem PySem.Spec L2 PyProof.Rows PySem.W
section
variable {X : Cx}
/-- a tuple against an empty one -/
def rNilT (K : PySem.W.Frag) : R2 := fun x y H Q => ∃ p xs p2, x = .ref p ∧ y = .ref p2 ∧ SqT K H p xs ∧ SqT K H p2 [] ∧ Q (.bl (decide (xs = []))) H
theorem op_eqNilT (hu : X.A.units + 64 < cLine) : OpR X (compareOp .Eq) (rNilT X.K) := by
  intro pins s σ H x y v u Q I rx ry h
  obtain ⟨p, xs, p2, rfl, rfl, h1, h2, q⟩ := h
  obtain rfl : v = Value.ref p := rx
  obtain rfl : u = Value.ref p2 := ry
  obtain ⟨its, rv, pl, _⟩ := I.tuple h1
  obtain ⟨its2, rv2, pl2, _⟩ := I.tuple h2
  obtain rfl := vals_nil rv2
  refine of_rcZ (SeqAt.RcAt.tuples pl pl2 (by omega) (e := fun _ => true) fun j h1 h2 => ?_) ⟨.bl _, H, I, rfl, ?_⟩
  · simp at h2
  · have l := L2.Vals.length rv
    have e : ((List.range (min its.toArray.size ([] : List Value).toArray.size)).all (fun _ => true) && its.toArray.size == ([] : List Value).toArray.size) = decide (xs = []) := by
      rw [Bool.eq_iff_iff, decide_eq_true_iff]
      constructor
      · intro h
        rw [Bool.and_eq_true, beq_iff_eq] at h
        have h2 := h.2
        simp only [List.size_toArray, List.length_nil] at h2
        exact List.eq_nil_of_length_eq_zero (by omega)
      · intro h
        subst h
        obtain rfl := vals_nil rv
        rfl
    rw [e]
    exact q
end
/-! its tuples are not long -/
mutual
def lnD : PyData → Bool
  | .tuple ds => decide (ds.length ≤ 1000) && lnDs ds
  | _ => true
def lnDs : List PyData → Bool
  | [] => true
  | d :: ds => lnD d && lnDs ds
end
theorem lnDs_iff (ds : List PyData) : lnDs ds = true ↔ ∀ d ∈ ds, lnD d = true := by
  induction ds with
  | nil => simp [lnDs]
  | cons d ds ih => simp [lnDs, ih]
theorem lnD_tup {ds : List PyData} (h : lnD (.tuple ds) = true) : ds.length ≤ 1000 ∧ ∀ d ∈ ds, lnD d = true := by
  have h2 : (decide (ds.length ≤ 1000) && lnDs ds) = true := h
  rw [Bool.and_eq_true, decide_eq_true_iff] at h2
  exact ⟨h2.1, (lnDs_iff ds).mp h2.2⟩
end Fc
namespace Fc
open PySem L2 PyProof.Rows
/-! frames made of whatever data -/
theorem fn_or {P : Program} {w : World} {K : PySem.W.Frag} {mg : Str → Option Value} {base : Heap} {CX : CXT} {k : Nat} {f : Addr} {fd : FuncData} {ps : List Str} {sp sp' : Sp} (F : FnOk P w K mg base CX k f fd ps sp) (F' : FnOk P w K mg base CX k f fd ps sp') :
    FnOk P w K mg base CX k f fd ps (fun vs H Q E => sp vs H Q E ∨ sp' vs H Q E) :=
  ⟨fun vs H Q E h => h.elim (F.len vs H Q E) (F'.len vs H Q E), fun A outer s H args us vs Q E hr he hb hv hs => hs.elim (F.run A outer s H args us vs Q E hr he hb hv) (F'.run A outer s H args us vs Q E hr he hb hv)⟩
def pairD (d : PyData) : Bool := match d with | .tuple [_, _] => true | _ => false
def pairsD (d : PyData) : Bool := match d with | .tuple ds => ds.all pairD | _ => false
def partsL (d : PyData) : List PyData := match d with | .tuple ds => ds | _ => []
/-- the words of what is passed -/
def wordsD (d1 d2 d3 : PyData) : List PyData := (partsL d1).flatMap partsL ++ partsL d2 ++ partsL d3
/-- the form of what is passed -/
def formD (d1 d2 d3 : PyData) : Bool := pairsD d1 && (isTy d2 "tuple" && (isTy d3 "tuple" && (wordsD d1 d2 d3).all isNameD))
structure GrowV (H : Hp) (D : Addr) (l : List V) (H' : Hp) : Prop where
  same : Same H H'
  at_ : H' D = some (.lst l)
theorem GrowV.push {H H' : Hp} {D : Addr} {l : List V} (x : V) (h : GrowV H D l H') (hD : H D = none) : GrowV H D (l ++ [x]) (upd H' D (.lst (l ++ [x]))) :=
  ⟨fun b o e => by rw [upd_ne (ne_of_none e hD)]; exact h.same b o e, upd_same⟩
theorem pairs_vals {K : PySem.W.Frag} {w : World} {ok : Addr → Prop} {H : Hp} : ∀ {ds : List PyData} {xs : List V}, DzAll K w ok H xs ds → ds.all pairD = true → ∃ vss : List (V × V), vss.length = xs.length ∧ (∀ k (hk : k < vss.length), ∃ u, xs.getD k .non = .ref u ∧ SqT K H u [(vss[k]).1, (vss[k]).2]) ∧ DzAll K w ok H (vss.flatMap fun e => [e.1, e.2]) (ds.flatMap partsL)
  | [], _, h, _ => by
    cases h
    exact ⟨[], rfl, fun k hk => absurd hk (Nat.not_lt_zero _), .nil⟩
  | d :: ds, _, h, hp => by
    cases h with
    | @cons v vs _ _ a b =>
    rw [List.all_cons, Bool.and_eq_true] at hp
    obtain ⟨vss, l, g, z⟩ := pairs_vals b hp.2
    obtain ⟨u, xs, es, rfl, rfl, su, du⟩ := dz_tup a (by cases d <;> first | rfl | exact nomatch hp.1)
    match es, du, hp.1 with
    | [e1, e2], du, _ =>
      cases du with
      | @cons v1 _ _ _ a1 b1 =>
      cases b1 with
      | @cons v2 _ _ _ a2 b2 =>
      cases b2
      refine ⟨(v1, v2) :: vss, by rw [List.length_cons, List.length_cons, l], fun k hk => ?_, .cons a1 (.cons a2 z)⟩
      cases k with
      | zero => exact ⟨u, rfl, su⟩
      | succ k => exact g k (by simpa using hk)
def spPairsZ (K : PySem.W.Frag) (w : World) : Sp := fun vs H Q _ => ∃ ok v d, vs = [v] ∧ Dz K w ok H v d ∧ Q (.bl (pairsD d)) H
section
variable {K : PySem.W.Frag} {mg : Str → Option Value} {base : Heap} {P : Program} {w : World}
theorem ok27Z {f : Addr} {fd : FuncData} (F : Fun K "are_pairs" "are_pairs" (topS 27) f fd) (B : Blt mg) : FnOk P w K mg base CX0 1 f fd ["value"] (spPairsZ K w) := by
  refine F.ok sc27 (fun vs H Q E h => ?_) (fun cdv A outer s H vs Q E hr h => ?_)
  · obtain ⟨ok, v, d, rfl, _⟩ := h
    rfl
  · refine ⟨_, (pss_cons (ps_if (pt_not (pt_val (pe_callB call_isiZ (by rfl) B.isinstance boot_isinstance (pa_cons (pv 0) (pa_cons (pe_bltn (v := .ty "tuple") (by rfl) B.tuple boot_tuple rfl) pa_nil))))) (pss_one (ps_ret pe_bl)) pss_nil) (pss_cons (ps_for PassesOwn.never rfl (pi_tup (pv 0)) (pg_name (i := 1) sc27.nd rfl (Or.inl rfl)) (pss_one (ps_if (pw_or (pt_not (pt_val (pe_callB call_isiZ (by rfl) B.isinstance boot_isinstance (pa_cons (pv 1) (pa_cons (pe_bltn (v := .ty "tuple") (by rfl) B.tuple boot_tuple rfl) pa_nil))))) (pw_or1 (pt_cmpR op_ne (pe_callB call_len_seq (by rfl) B.len boot_len (pa_cons (pv 1) pa_nil)) pe_int (nomark _)))).pt (pss_one (ps_ret pe_bl)) pss_nil))) (pss_one (ps_ret pe_bl)))), ?_⟩
    obtain ⟨ok, v, d, rfl, hd, q⟩ := h
    refine ⟨_, rfl, ok, v, d, _, rfl, hd, .inr (.inr (.inr (.inl rfl))), _, rfl, ?_⟩
    by_cases ht : isTy d "tuple" = true
    case neg =>
      rw [Bool.eq_false_iff.mpr ht]
      have : pairsD d = false := by cases d <;> first | rfl | exact absurd rfl ht
      rw [this] at q
      exact iteT q
    obtain ⟨t, xs, ds, rfl, rfl, sa, da⟩ := dz_tup hd ht
    rw [ht]
    have lx := dzs_len da
    refine iteF ⟨_, rfl, t, rfl, ⟨xs, sa⟩, ?_⟩
    refine for_steady steady_tup (fun i σ H' => H' = H ∧ (∃ z, σ = [some (.ref t), z]) ∧ (ds.take i).all pairD = true) ⟨rfl, ⟨_, rfl⟩, rfl⟩ (fun _ _ _ _ h => h.1 ▸ sa) ?_ ?_
    · rintro i σ H' hi ⟨rfl, ⟨z, rfl⟩, pre⟩
      have hi2 : i < ds.length := by omega
      have di := dz_at da hi2
      have ei : ds.getD i .none = ds[i] := by rw [List.getD_eq_getElem?_getD, List.getElem?_eq_getElem hi2]; rfl
      have tk : ds.take (i + 1) = ds.take i ++ [ds[i]] := by rw [List.take_add_one, List.getElem?_eq_getElem hi2]; rfl
      rw [ei] at di
      refine ⟨_, rfl, ok, _, _, _, rfl, di, .inr (.inr (.inr (.inl rfl))), _, rfl, ?_⟩
      have no : pairD ds[i] = false → Q (.bl false) H' := fun e => by
        have z : pairsD (.tuple ds) = false := by
          show ds.all pairD = false
          cases q2 : ds.all pairD with
          | false => rfl
          | true => rw [List.all_eq_true.mp q2 _ (List.getElem_mem hi2)] at e; cases e
        rw [z] at q
        exact q
      by_cases h2 : isTy ds[i] "tuple" = true
      case neg =>
        rw [Bool.eq_false_iff.mpr h2]
        exact iteT (no (by generalize ds[i] = d at *; cases d <;> first | rfl | exact absurd rfl h2))
      rw [h2]
      obtain ⟨u, ys, es, eu, ee, su, du⟩ := dz_tup di h2
      rw [eu]
      refine iteF ⟨_, rfl, u, ys, rfl, .inr su, rfl, _, rfl, ?_⟩
      have ly := dzs_len du
      by_cases h3 : ys.length = 2
      case neg =>
        rw [decide_eq_false (fun e => h3 (by have := V.int.inj e; omega))]
        exact iteT (no (by
          rw [ee]
          match es, ly with
          | [], _ => rfl
          | [_], _ => rfl
          | [_, _], e => exact absurd e h3
          | _ :: _ :: _ :: _, _ => rfl))
      rw [decide_eq_true (show V.int (ys.length : Int) = V.int 2 by rw [h3]; rfl)]
      refine iteF ⟨rfl, ⟨_, rfl⟩, ?_⟩
      rw [tk, List.all_append, pre, ee]
      match es, ly.symm.trans h3 with
      | [_, _], _ => rfl
    · rintro σ H' ⟨rfl, ⟨z, rfl⟩, pre⟩
      rw [List.take_of_length_le (by omega)] at pre
      have : pairsD (.tuple ds) = true := pre
      rw [this] at q
      exact q
def spContentBad (K : PySem.W.Frag) (w : World) : Sp := fun vs H Q _ => ∃ ok v1 v2 v3 d1 d2 d3, vs = [v1, v2, v3] ∧ Dz K w ok H v1 d1 ∧ Dz K w ok H v2 d2 ∧ Dz K w ok H v3 d3 ∧ smD d1 = true ∧ smD d2 = true ∧ smD d3 = true ∧ (partsL d1).length ≤ 1000 ∧ (partsL d2).length ≤ 1000 ∧ (partsL d3).length ≤ 1000 ∧ formD d1 d2 d3 = false ∧ ∀ H', Same H H' → Q (.bl false) H'
theorem ok29B {f : Addr} {fd : FuncData} (F : Fun K "is_frame_content" "is_frame_content" (topS 29) f fd) (B : Blt mg) (M : MaxTxt mg) (c27 : Cal P w K mg base 1 "are_pairs" (spPairsZ K w)) (c21 : Cal P w K mg base 1 "is_name" (spNameZ K w)) (c28 : Cal P w K mg base 1 "different_lengths" (spLens K w)) :
    FnOk P w K mg base CX0 2 f fd ["arrays", "positions", "values"] (spContentBad K w) := by
  obtain ⟨t12, h12⟩ := M.a
  obtain ⟨t8, h8⟩ := M.p
  obtain ⟨t6, h6⟩ := M.v
  refine F.ok sc29 (fun vs H Q E h => ?_) (fun cdv A outer s H vs Q E hr h => ?_)
  · obtain ⟨ok, v1, v2, v3, d1, d2, d3, rfl, _⟩ := h
    rfl
  · have hu := hu70 hr
    refine ⟨_, (pss_cons (ps_if (pw_or (pt_not (pt_val (pe_c c27 hr (by decide) (by rfl) (pa_cons (pv 0) pa_nil)))) (pw_or (pt_not (pt_val (pe_callB call_isiZ (by rfl) B.isinstance boot_isinstance (pa_cons (pv 1) (pa_cons (pe_bltn (v := .ty "tuple") (by rfl) B.tuple boot_tuple rfl) pa_nil))))) (pw_or1 (pt_not (pt_val (pe_callB call_isiZ (by rfl) B.isinstance boot_isinstance (pa_cons (pv 2) (pa_cons (pe_bltn (v := .ty "tuple") (by rfl) B.tuple boot_tuple rfl) pa_nil)))))))).pt (pss_one (ps_ret pe_bl)) pss_nil) (pss_cons (ps_if (pw_or (pt_cmpR op_gt (pe_callB call_len_seq (by rfl) B.len boot_len (pa_cons (pv 0) pa_nil)) (pe_glob (v := .int 12) (by rfl) h12 ⟨_, rfl⟩) (nomark _)) (pw_or (pt_cmpR op_gt (pe_callB call_len_seq (by rfl) B.len boot_len (pa_cons (pv 1) pa_nil)) (pe_glob (v := .int 8) (by rfl) h8 ⟨_, rfl⟩) (nomark _)) (pw_or1 (pt_cmpR op_gt (pe_callB call_len_seq (by rfl) B.len boot_len (pa_cons (pv 2) pa_nil)) (pe_glob (v := .int 6) (by rfl) h6 ⟨_, rfl⟩) (nomark _))))).pt (pss_one (ps_ret pe_bl)) pss_nil) (pss_cons (ps_set (i := 4) sc29.nd rfl (Or.inl rfl) (pe_op op_cat (pe_op op_cat (pe_lc2 (own := [("pair", 6), ("word", 3)]) (vs1 := [3]) (g := gName 6) (g1 := gName 3) (wi1 := iTup K (tVar 6)) (by rfl) sc29.nd (pi_tup (pv 0)) (blkOk_by (N := n29) (sc := defScope (topS 29)) (by decide +kernel)) (by decide) (fun _ _ _ _ _ => (pg_name (i := 6) sc29.nd rfl (Or.inl rfl))) (fun _ _ _ _ _ => pts_nil) (fun _ _ _ _ _ => (pi_tup (pv 6))) (fun _ _ _ _ _ => (pg_name (i := 3) sc29.nd rfl (Or.inl rfl))) (fun _ _ _ _ _ => pts_nil) (fun _ _ _ _ _ => (pv 3))) (pe_callTy call_list_of (by rfl) B.list boot_list (pa_cons (pv 1) pa_nil))) (pe_callTy call_list_of (by rfl) B.list boot_list (pa_cons (pv 2) pa_nil)))) (pss_cons (ps_for PassesOwn.never rfl (pi_list (pv 4)) (pg_name (i := 3) sc29.nd rfl (Or.inl rfl)) (pss_one (ps_if (pt_not (pt_val (pe_c c21 hr (by decide) (by rfl) (pa_cons (pv 3) pa_nil)))) (pss_one (ps_ret pe_bl)) pss_nil))) (pss_cons (ps_set (i := 5) sc29.nd rfl (Or.inl rfl) (pe_op op_add (pe_op op_add (pe_op op_add (pe_callB call_len_seq (by rfl) B.len boot_len (pa_cons (pv 0) pa_nil)) (pe_callB call_len_seq (by rfl) B.len boot_len (pa_cons (pe_c c28 hr (by decide) (by rfl) (pa_cons (pv 0) pa_nil)) pa_nil))) (pe_callB call_len_seq (by rfl) B.len boot_len (pa_cons (pv 1) pa_nil))) (pe_callB call_len_seq (by rfl) B.len boot_len (pa_cons (pv 2) pa_nil)))) (pss_one (ps_ret (pe_cmpR op_eq (pv 5) (pe_callB call_lenS (by rfl) B.len boot_len (pa_cons (pe_callTy (call_setT rfl) (by rfl) B.set boot_set (pa_cons (pv 4) pa_nil)) pa_nil)) (nomark _))))))))), ?_⟩
    obtain ⟨ok, v1, v2, v3, d1, d2, d3, rfl, z1, z2, z3, m1, m2, m3, l1, l2, l3, bad, q⟩ := h
    have sl : sizeLine = 16777216 := sizeLine_eq
    have q0 := q H (Same.refl H)
    refine ⟨_, rfl, ok, v1, d1, rfl, z1, _, rfl, ?_⟩
    cases p1 : pairsD d1 with
    | false => exact iteT q0
    | true =>
    refine iteF ⟨_, rfl, ok, v2, d2, _, rfl, z2, .inr (.inr (.inr (.inl rfl))), _, rfl, ?_⟩
    cases p2 : isTy d2 "tuple" with
    | false => exact iteT q0
    | true =>
    refine iteF ⟨_, rfl, ok, v3, d3, _, rfl, z3, .inr (.inr (.inr (.inl rfl))), _, rfl, ?_⟩
    cases p3 : isTy d3 "tuple" with
    | false => exact iteT q0
    | true =>
    refine iteF ?_
    have p1t : isTy d1 "tuple" = true := by cases d1 <;> first | rfl | exact nomatch p1
    obtain ⟨tA, xs, ds, rfl, rfl, sa, da⟩ := dz_tup z1 p1t
    obtain ⟨tP, ys, es, rfl, rfl, sp, dp⟩ := dz_tup z2 p2
    obtain ⟨tV, zs, fs, rfl, rfl, sv, dv⟩ := dz_tup z3 p3
    have lx := dzs_len da
    have ly := dzs_len dp
    have lz := dzs_len dv
    replace l1 : ds.length ≤ 1000 := l1
    replace l2 : es.length ≤ 1000 := l2
    replace l3 : fs.length ≤ 1000 := l3
    obtain ⟨vss, lv, gv, zv⟩ := pairs_vals da p1
    have wbad : ((ds.flatMap partsL ++ es ++ fs).all isNameD) = false := by
      have : (pairsD (.tuple ds) && (isTy (.tuple es) "tuple" && (isTy (.tuple fs) "tuple" && (ds.flatMap partsL ++ es ++ fs).all isNameD))) = false := bad
      rw [p1] at this
      exact this
    refine ⟨_, rfl, tA, xs, rfl, .inr sa, _, _, rfl, rfl, _, rfl, ?_⟩
    cases decide ((12 : Int) < (xs.length : Int)) with
    | true => exact iteT q0
    | false =>
    refine iteF ⟨_, rfl, tP, ys, rfl, .inr sp, _, _, rfl, rfl, _, rfl, ?_⟩
    cases decide ((8 : Int) < (ys.length : Int)) with
    | true => exact iteT q0
    | false =>
    refine iteF ⟨_, rfl, tV, zs, rfl, .inr sv, _, _, rfl, rfl, _, rfl, ?_⟩
    cases decide ((6 : Int) < (zs.length : Int)) with
    | true => exact iteT q0
    | false =>
    refine iteF ?_
    clear q0
    have size : ∀ {n : Nat}, n ≤ 10000 → n < sizeLine := fun h => by rw [sl]; omega
    refine ⟨_, rfl, tA, rfl, ⟨xs, sa⟩, fun D hD => ?_⟩
    let fm : Nat → List V := fun k => (vss.take k).flatMap fun e => [e.1, e.2]
    have fms : ∀ {k : Nat} (h : k < vss.length), fm (k + 1) = fm k ++ [(vss[k]).1, (vss[k]).2] := fun {k} h => by
      show (vss.take (k + 1)).flatMap _ = (vss.take k).flatMap _ ++ _
      rw [List.take_add_one, List.getElem?_eq_getElem h]
      show (vss.take k ++ [vss[k]]).flatMap _ = _
      rw [List.flatMap_append]
      rfl
    have fml : ∀ k, (fm k).length ≤ 2 * vss.length := fun k => by
      have g : ∀ l : List (V × V), (l.flatMap fun e => [e.1, e.2]).length = 2 * l.length := by
        intro l
        induction l with
        | nil => rfl
        | cons e l ih => rw [List.flatMap_cons, List.length_append, ih]; simp; omega
      have h1 := g (vss.take k)
      rw [List.length_take] at h1
      show ((vss.take k).flatMap fun e => [e.1, e.2]).length ≤ _
      omega
    refine lc2_out (steady_tup (K := K) (a := tA) (xs := xs)) (fun k H' => GrowV H D (fm k) H') ⟨same_new hD, upd_same⟩ (fun i H' _ h => Tups.same h.same _ _ sa) (fun i H' hi h => ?_) fun H1 h1 => ?_
    · have hi2 : i < vss.length := by omega
      obtain ⟨u, eu, su⟩ := gv i hi2
      rw [eu]
      refine ⟨rfl, yes_i ?_⟩
      refine iteT ?_
      refine ⟨_, rfl, u, rfl, ⟨_, Tups.same h.same _ _ su⟩, ?_⟩
      refine lc2_in (steady_tup (K := K) (a := u) (xs := [(vss[i]).1, (vss[i]).2])) (fun j H2 => GrowV H D (fm i ++ ([(vss[i]).1, (vss[i]).2].take j)) H2) (by rw [List.take_zero, List.append_nil]; exact h) (fun j H2 _ h2 => Tups.same h2.same _ _ su) (fun j H2 hj h2 => ?_) fun H2 h2 => by rw [fms hi2]; exact h2
      have hj2 : j = 0 ∨ j = 1 := by
        have : j < 2 := hj
        omega
      have lf := fml i
      have gl : (fm i ++ ([(vss[i]).1, (vss[i]).2].take j)).length < sizeLine := by
        rw [List.length_append, List.length_take]
        exact size (by simp; omega)
      rcases hj2 with rfl | rfl
      · refine ⟨rfl, yes_i ?_⟩
        refine iteT ?_
        refine ⟨_, rfl, _, h2.at_, gl, ?_⟩
        have := h2.push (vss[i]).1 hD
        simpa using this
      · refine ⟨rfl, yes_i ?_⟩
        refine iteT ?_
        refine ⟨_, rfl, _, h2.at_, gl, ?_⟩
        have := h2.push (vss[i]).2 hD
        simpa using this
    have fmE : fm xs.length = vss.flatMap fun e => [e.1, e.2] := by
      show (vss.take xs.length).flatMap _ = _
      rw [← lv, List.take_length]
    rw [fmE] at h1
    have fmL : (vss.flatMap fun e => [e.1, e.2]).length ≤ 2000 := by
      have h1 := fml xs.length
      rw [fmE] at h1
      omega
    generalize (vss.flatMap fun e => [e.1, e.2]) = us at *
    obtain ⟨s1, a1⟩ := h1
    refine ⟨_, rfl, tP, _, rfl, .inr (Tups.same s1 _ _ sp), fun k1 hl1 => ?_⟩
    have s2 := same_new (o := .lst ys) hl1
    refine ⟨D, k1, _, _, rfl, rfl, s2 _ _ a1, upd_same, Nat.le_of_lt (size (by omega)), fun k2 hl2 => ?_⟩
    have s3 := same_new (o := .lst (us ++ ys)) hl2
    refine ⟨_, rfl, tV, _, rfl, .inr (Tups.same ((s1.trans s2).trans s3) _ _ sv), fun k3 hl3 => ?_⟩
    have s4 := same_new (o := .lst zs) hl3
    refine ⟨k2, k3, _, _, rfl, rfl, s4 _ _ upd_same, upd_same, by rw [List.length_append]; exact Nat.le_of_lt (size (by omega)), fun k4 hl4 => ?_⟩
    have s5 := same_new (o := .lst (us ++ ys ++ zs)) hl4
    have sT := (((s1.trans s2).trans s3).trans s4).trans s5
    have za : DzAll K w ok H (us ++ ys ++ zs) (ds.flatMap partsL ++ es ++ fs) := dzs_app (dzs_app zv dp) dv
    have zT := dzs_mono (Keep.same sT) _ _ za
    have slL : SqL K (upd (upd (upd (upd H1 k1 (.lst ys)) k2 (.lst (us ++ ys))) k3 (.lst zs)) k4 (.lst (us ++ ys ++ zs))) k4 (us ++ ys ++ zs) := .inl (.inl upd_same)
    have sw : ∀ d ∈ ds.flatMap partsL ++ es ++ fs, smD d = true := fun d hd => by
      rcases List.mem_append.mp hd with hd | hd
      · rcases List.mem_append.mp hd with hd | hd
        · obtain ⟨e, he, hd⟩ := List.mem_flatMap.mp hd
          have se : smD e = true := (smDs_iff ds).mp m1 e he
          cases e with
          | tuple l => exact (smDs_iff l).mp se d hd
          | _ => cases hd
        · exact (smDs_iff es).mp m2 d hd
      · exact (smDs_iff fs).mp m3 d hd
    have lw := dzs_len zT
    clear s1 a1 s2 s3 s4 s5 hl1 hl2 hl3 hl4 za zv dp dv gv
    generalize upd (upd (upd (upd H1 k1 (.lst ys)) k2 (.lst (us ++ ys))) k3 (.lst zs)) k4 (.lst (us ++ ys ++ zs)) = H2 at *
    generalize us ++ ys ++ zs = ws at *
    generalize ds.flatMap partsL ++ es ++ fs = wd at *
    refine ⟨_, rfl, k4, rfl, ⟨_, slL⟩, ?_⟩
    refine for_steady steady_list (fun i σ H' => H' = H2 ∧ (∃ z3 z5 z6, σ = [some (.ref tA), some (.ref tP), some (.ref tV), z3, some (.ref k4), z5, z6]) ∧ (wd.take i).all isNameD = true) ⟨rfl, ⟨_, _, _, rfl⟩, rfl⟩ (fun _ _ _ _ h => h.1 ▸ slL) ?_ ?_
    · rintro i σ H' hi ⟨rfl, ⟨z3, z5, z6, rfl⟩, pre⟩
      have hi2 : i < wd.length := by omega
      have di := dz_at zT hi2
      have ei : wd.getD i .none = wd[i] := by rw [List.getD_eq_getElem?_getD, List.getElem?_eq_getElem hi2]; rfl
      rw [ei] at di
      refine ⟨_, rfl, ok, _, _, rfl, di, sw _ (List.getElem_mem hi2), _, rfl, ?_⟩
      cases en : isNameD wd[i] with
      | false => exact iteT (q _ sT)
      | true =>
        refine iteF ⟨rfl, ⟨_, _, _, rfl⟩, ?_⟩
        rw [List.take_add_one, List.getElem?_eq_getElem hi2, List.all_append, pre]
        simp [en]
    rintro σ H' ⟨rfl, ⟨z3, z5, z6, rfl⟩, pre⟩
    rw [List.take_of_length_le (by omega), wbad] at pre
    cases pre
end
end Fc
namespace Fc
open PySem L2 PyProof.Rows
/-- a frame with its lengths -/
structure FrB (K : PySem.W.Frag) (C : Addr) (H : Hp) (p : Addr) (P : Pa) : Prop where
  fr : FrAt K C H p P
  ex : ∃ dx fs tL tO, H p = some (.ins C dx fs) ∧ fs.lookup ("_lengths" : Str) = some (.ref tL) ∧ fs.lookup ("_length_of" : Str) = some (.ref tO) ∧ Dp K H (.ref tL) (dS (lensOf P.arrays)) ∧ H tO = some (.dK (kvK P.arrays))
theorem FrB.same {K : PySem.W.Frag} {C : Addr} {H H' : Hp} {p : Addr} {P : Pa} (h : FrB K C H p P) (s : Same H H') : FrB K C H' p P := by
  obtain ⟨fr, dx, fs, tL, tO, h1, h2, h3, h4, h5⟩ := h
  exact ⟨fr.same s, dx, fs, tL, tO, s _ _ h1, h2, h3, dp_mono s _ _ h4, s _ _ h5⟩
theorem fsF_at2 (tA tP tV tL tO tK : Addr) : (fsF tA tP tV tL tO tK).lookup ("_lengths" : Str) = some (.ref tL) ∧ (fsF tA tP tV tL tO tK).lookup ("_length_of" : Str) = some (.ref tO) := by
  unfold fsF
  refine ⟨?_, ?_⟩
  · rw [lookup_putF, if_neg (by decide +kernel), lookup_putF, if_neg (by decide +kernel), lookup_putF, if_pos rfl]
  · rw [lookup_putF, if_neg (by decide +kernel), lookup_putF, if_pos rfl]
theorem putN_new (A : List (Str × Str)) (x v : Str) (h : x ∉ A.map (·.1)) : putN (tabK A) (.w x) (.str v) = tabK (A ++ [(x, v)]) := by
  have e := putN_app A [] x (.str v) h
  rw [List.append_nil] at e
  rw [e]
  unfold tabK
  rw [List.map_append]
  rfl
theorem Fill.put1 {K : PySem.W.Frag} {w : World} {H H' : Hp} {D : Addr} {A : List (Str × Str)} {x : Str} (h : Fill K w H D A H') (hD : H D = none) (hx : x ∉ A.map (·.1)) (v : Str) : ∃ zs, H' D = some (MD w D zs) ∧ (∀ z ∈ zs, KeyV K H' z.1 z.2.1) ∧ zs.length = A.length ∧
    Fill K w H D (A ++ [(x, v)]) (upd H' D (MD w D (putM zs (.text x) (.str x) (.str v)))) := by
  obtain ⟨s, zs, hz, pz⟩ := h
  refine ⟨zs, hz, tabR_keys pz, by rw [← paired_len pz]; exact List.length_map _, fun b o e => ?_, _, upd_same, ?_⟩
  · rw [upd_ne (ne_of_none e hD)]
    exact s b o e
  · rw [← putN_new _ _ _ hx]
    have tp : Tups K H' (upd H' D (MD w D (putM zs (.text x) (.str x) (.str v)))) := Tups.upd fun u e => by rw [hz] at e; cases e; exact True.intro
    exact tabR_mono tp (tabR_put (k := .w x) rfl pz)
def spMakeB (K : PySem.W.Frag) (C Cf : Addr) : Sp := fun vs H Q E => ∃ p dx tA tP tV P, vs = [.ref p, .ref tA, .ref tP, .ref tV] ∧ H p = some (.ins C dx []) ∧ Dp K H (.ref tA) (dA P.arrays) ∧ Dp K H (.ref tP) (dS P.pos) ∧ Dp K H (.ref tV) (dS P.vals) ∧ PaNm P ∧
  (okB P = false → ∀ H', Same H H' → E (.ref Cf) none H') ∧ (okB P = true → ∀ H', But p H H' → FrB K C H' p P → Q .non H')
section
variable {K : PySem.W.Frag} {mg : Str → Option Value} {base : Heap} {P : Program} {w : World}
theorem okM0B {f C Cf : Addr} {fd : FuncData} (F : Fun K "__init__" "Frame.__init__" (mF 0) f fd) (T : FrTxt K mg C) (O : OwnX K mg "InvalidFrame" Cf) (c29 : Cal P w K mg base 2 "is_frame_content" (spContent K w)) (c28 : Cal P w K mg base 1 "different_lengths" (spLens K w)) (c30 : Cal P w K mg base 1 "kinds_of_names" (spKinds K w)) :
    FnOk P w K mg base (L2.CX P w) 3 f fd ["self", "arrays", "positions", "values"] (spMakeB K C Cf) := by
  refine F.okX scM0 (fun vs H Q E h => ?_) (fun cdv A outer s H vs Q E hr h => ?_)
  · obtain ⟨p, dx, tA, tP, tV, P, rfl, _⟩ := h
    rfl
  · have hu := hu70 hr
    refine ⟨_, pss_cons (ps_if (pt_not (pt_val (pe_c c29 hr (by decide) (by rfl) (pa_cons (pv 1) (pa_cons (pv 2) (pa_cons (pv 3) pa_nil)))))) (pss_one (ps_raise rfl (takes_of rfl rfl rfl rfl) (pmk_own PySem.F.excBase_ValueError O.x O.g O.k (raises_own O.b O.t) rfl))) pss_nil)
      (pss_cons (ps_fld (pv 0) (pv 1) rfl) (pss_cons (ps_fld (pv 0) (pv 2) rfl) (pss_cons (ps_fld (pv 0) (pv 3) rfl) (pss_cons (ps_fld (pv 0) (pe_c c28 hr (by decide) (by rfl) (pa_cons (pv 1) pa_nil)) rfl)
      (pss_cons (ps_fld (pv 0) (pe_asK (pe_dcM (own := [("array", 4), ("length", 5)]) (g := gTup K 2 (gCons (gName 4) (gCons (gName 5) gNil))) (hu9 hu) (by rfl) scM0.nd (pi_tup (pv 1)) (blkOk_by (N := nM0) (sc := defScope (mF 0)) (by decide +kernel))
        (fun _ _ _ _ _ => pg_tup rfl (pgs_cons (pg_name (i := 4) scM0.nd rfl (Or.inl rfl)) (pgs_cons (pg_name (i := 5) scM0.nd rfl (Or.inl rfl)) pgs_nil))) (fun _ _ _ _ _ => pv 4) (fun _ _ _ _ _ => pv 5))) rfl)
      (pss_one (ps_fld (pv 0) (pe_c c30 hr (by decide) (by rfl) (pa_cons (pv 1) (pa_cons (pv 2) (pa_cons (pv 3) pa_nil)))) rfl))))))), ?_⟩
    obtain ⟨p, dx, tA, tP, tV, P, rfl, hp, hA, hP, hV, nm, q1, q2⟩ := h
    refine ⟨_, rfl, _, rfl, _, rfl, tA, tP, tV, P, rfl, hA, hP, hV, nm, fun H1 s1 => ⟨_, rfl, ?_⟩⟩
    cases e : okB P with
    | false => exact iteT (q1 e H1 s1)
    | true =>
    replace q2 := q2 e
    have ok := PaOk.of nm e
    refine iteF ?_
    have tA1 := tupD_dA P.arrays
    have tP1 := tupD_dS P.pos
    have tV1 := tupD_dS P.vals
    have ins : ∀ {H0 : Hp} {fs fs' : List (Str × V)}, H0 p = some (.ins C dx fs) → Tups K H0 (upd H0 p (.ins C dx fs')) := fun {H0 fs fs'} e0 => Tups.upd fun u e => by rw [e0] at e; cases e; exact True.intro
    have lz : ∀ {n : Nat}, n ≤ 6 → n < 1000 := fun h => by omega
    have hp1 := s1 _ _ hp
    refine ⟨_, rfl, _, rfl, p, C, dx, _, rfl, hp1, T.cl, T.nA, by decide, ?_⟩
    refine ⟨_, rfl, _, rfl, p, C, dx, _, rfl, upd_same, T.cl, T.nP, lz (by have := len_putF "_arrays" (.ref tA) []; simp at this; omega), ?_⟩
    refine ⟨_, rfl, _, rfl, p, C, dx, _, rfl, upd_same, T.cl, T.nV, lz (by have h1 := len_putF "_arrays" (.ref tA) []; have h2 := len_putF "_positions" (.ref tP) (putF "_arrays" (.ref tA) []); simp at h1; omega), ?_⟩
    rw [upd_upd, upd_upd]
    have t1 := ins (fs' := putF "_amounts" (.ref tV) (putF "_positions" (.ref tP) (putF "_arrays" (.ref tA) []))) hp1
    have b1 : But p H (upd H1 p (.ins C dx (putF "_amounts" (.ref tV) (putF "_positions" (.ref tP) (putF "_arrays" (.ref tA) []))))) := fun b o ne e => by rw [upd_ne ne]; exact s1 b o e
    have hA1 := dp_tups t1 _ _ tA1 (dp_mono s1 _ _ hA)
    have hP1 := dp_tups t1 _ _ tP1 (dp_mono s1 _ _ hP)
    have hV1 := dp_tups t1 _ _ tV1 (dp_mono s1 _ _ hV)
    have l3 : (putF "_amounts" (.ref tV) (putF "_positions" (.ref tP) (putF "_arrays" (.ref tA) []))).length ≤ 3 := by
      have h1 := len_putF "_arrays" (.ref tA) []
      have h2 := len_putF "_positions" (.ref tP) (putF "_arrays" (.ref tA) [])
      have h3 := len_putF "_amounts" (.ref tV) (putF "_positions" (.ref tP) (putF "_arrays" (.ref tA) []))
      simp at h1
      omega
    have hp2 : (upd H1 p (.ins C dx (putF "_amounts" (.ref tV) (putF "_positions" (.ref tP) (putF "_arrays" (.ref tA) []))))) p = some (.ins C dx (putF "_amounts" (.ref tV) (putF "_positions" (.ref tP) (putF "_arrays" (.ref tA) [])))) := upd_same
    generalize upd H1 p (.ins C dx (putF "_amounts" (.ref tV) (putF "_positions" (.ref tP) (putF "_arrays" (.ref tA) [])))) = H2 at *
    -- the lengths
    refine ⟨_, rfl, tA, P.arrays, rfl, hA1, by have := ok.na; omega, fun H3 pL s3 dL => ?_⟩
    have hp3 := s3 _ _ hp2
    have l4 := len_putF "_lengths" (.ref pL) (putF "_amounts" (.ref tV) (putF "_positions" (.ref tP) (putF "_arrays" (.ref tA) [])))
    refine ⟨_, rfl, p, C, dx, _, rfl, hp3, T.cl, T.nL, by omega, ?_⟩
    have t3 := ins (fs' := putF "_lengths" (.ref pL) (putF "_amounts" (.ref tV) (putF "_positions" (.ref tP) (putF "_arrays" (.ref tA) [])))) hp3
    have b3 := (b1.same s3).upd (o := .ins C dx (putF "_lengths" (.ref pL) (putF "_amounts" (.ref tV) (putF "_positions" (.ref tP) (putF "_arrays" (.ref tA) [])))))
    have hA3 := dp_tups t3 _ _ tA1 (dp_mono s3 _ _ hA1)
    have hP3 := dp_tups t3 _ _ tP1 (dp_mono s3 _ _ hP1)
    have hV3 := dp_tups t3 _ _ tV1 (dp_mono s3 _ _ hV1)
    have hp4 : (upd H3 p (.ins C dx (putF "_lengths" (.ref pL) (putF "_amounts" (.ref tV) (putF "_positions" (.ref tP) (putF "_arrays" (.ref tA) [])))))) p = some _ := upd_same
    generalize upd H3 p (.ins C dx (putF "_lengths" (.ref pL) (putF "_amounts" (.ref tV) (putF "_positions" (.ref tP) (putF "_arrays" (.ref tA) []))))) = H4 at *
    have dL3 := dp_tups t3 _ _ (tupD_dS (lensOf P.arrays)) dL
    clear hp3 t3 s3 dL b1 t1 hp2 hA1 hP1 hV1 hp1
    -- the lengths of the arrays
    have hA4 := hA3
    unfold dA at hA4
    cases hA4 with
    | @tup _ xs _ sa da =>
    have lx : xs.length = P.arrays.length := (dp_len da).trans (List.length_map _)
    have nd1 : (P.arrays.map (·.1)).Nodup := (List.nodup_append.mp ok.nd).1
    refine ⟨_, rfl, tA, rfl, ⟨xs, sa⟩, fun DO hDO => ?_⟩
    have npO : p ≠ DO := ne_of_none hp4 hDO
    refine dc_steady (K := K) (w := w) (steady_tup (K := K) (a := tA) (xs := xs)) (fun k H' => Fill K w H4 DO (P.arrays.take k) H') ⟨same_new hDO, [], upd_same, .nil⟩ (fun i H' _ h => Tups.same h.same _ _ sa) (fun i H' hi h => ?_) fun H5 h => ?_
    · have hi2 : i < P.arrays.length := by omega
      have na := ok.na
      obtain ⟨u, eu, su⟩ := dA_at da hi2
      have hx : (P.arrays[i]).1 ∉ (P.arrays.take i).map (·.1) := by
        have e : P.arrays.map (·.1) = (P.arrays.take i).map (·.1) ++ ((P.arrays[i]).1 :: (P.arrays.drop (i + 1)).map (·.1)) := by
          rw [← List.map_cons, ← List.drop_eq_getElem_cons hi2, ← List.map_append, List.take_append_drop]
        rw [e] at nd1
        intro q
        exact (List.nodup_append.mp nd1).2.2 _ q _ List.mem_cons_self rfl
      obtain ⟨zs, hz, kz, lz, h2⟩ := h.put1 hDO hx (P.arrays[i]).2
      rw [List.length_take] at lz
      refine ⟨u, _, eu, Tups.same h.same _ _ su, rfl, _, _, rfl, _, _, rfl, ⟨rfl, rfl, _, rfl, _, rfl, zs, .text (P.arrays[i]).1, hz, kz, .inl (.inl (.text _)), by rw [sizeLine_eq]; omega, ?_⟩⟩
      rw [List.take_add_one, List.getElem?_eq_getElem hi2]
      exact h2
    rw [lx, List.take_length] at h
    obtain ⟨s50, zs5, hz5, pz5⟩ := h
    rw [tabK_at pz5] at hz5
    refine ⟨DO, kvK P.arrays, rfl, hz5, ?_⟩
    have s5 : Same H4 (upd H5 DO (.dK (kvK P.arrays))) := fun b o e => by rw [upd_ne (ne_of_none e hDO)]; exact s50 b o e
    have hDO5 : (upd H5 DO (.dK (kvK P.arrays))) DO = some (.dK (kvK P.arrays)) := upd_same
    generalize upd H5 DO (.dK (kvK P.arrays)) = H5 at *
    have hp5 := s5 _ _ hp4
    have l5 := len_putF "_length_of" (.ref DO) (putF "_lengths" (.ref pL) (putF "_amounts" (.ref tV) (putF "_positions" (.ref tP) (putF "_arrays" (.ref tA) []))))
    refine ⟨_, rfl, p, C, dx, _, rfl, hp5, T.cl, T.nO, by omega, ?_⟩
    have t5 := ins (fs' := putF "_length_of" (.ref DO) (putF "_lengths" (.ref pL) (putF "_amounts" (.ref tV) (putF "_positions" (.ref tP) (putF "_arrays" (.ref tA) []))))) hp5
    have b5 := (b3.same s5).upd (o := .ins C dx (putF "_length_of" (.ref DO) (putF "_lengths" (.ref pL) (putF "_amounts" (.ref tV) (putF "_positions" (.ref tP) (putF "_arrays" (.ref tA) []))))))
    have hA5 := dp_tups t5 _ _ tA1 (dp_mono s5 _ _ hA3)
    have hP5 := dp_tups t5 _ _ tP1 (dp_mono s5 _ _ hP3)
    have hV5 := dp_tups t5 _ _ tV1 (dp_mono s5 _ _ hV3)
    have dL5 := dp_tups t5 _ _ (tupD_dS (lensOf P.arrays)) (dp_mono s5 _ _ dL3)
    have hDO6 : (upd H5 p (.ins C dx (putF "_length_of" (.ref DO) (putF "_lengths" (.ref pL) (putF "_amounts" (.ref tV) (putF "_positions" (.ref tP) (putF "_arrays" (.ref tA) []))))))) DO = some (.dK (kvK P.arrays)) := by rw [upd_ne (Ne.symm npO)]; exact hDO5
    have hp6 : (upd H5 p (.ins C dx (putF "_length_of" (.ref DO) (putF "_lengths" (.ref pL) (putF "_amounts" (.ref tV) (putF "_positions" (.ref tP) (putF "_arrays" (.ref tA) []))))))) p = some _ := upd_same
    generalize upd H5 p (.ins C dx (putF "_length_of" (.ref DO) (putF "_lengths" (.ref pL) (putF "_amounts" (.ref tV) (putF "_positions" (.ref tP) (putF "_arrays" (.ref tA) [])))))) = H6 at *
    -- the kinds
    refine ⟨_, rfl, _, rfl, _, rfl, tA, tP, tV, P, rfl, hA5, hP5, hV5, ok, fun H7 pK s7 nK hK => ?_⟩
    have hp7 := s7 _ _ hp6
    have npK : pK ≠ p := fun e => by rw [e, hp6] at nK; cases nK
    refine ⟨_, rfl, p, C, dx, _, rfl, hp7, T.cl, T.nK, by omega, ?_⟩
    have t7 := ins (fs' := fsF tA tP tV pL DO pK) hp7
    obtain ⟨a1, a2, a3, a4⟩ := fsF_at tA tP tV pL DO pK
    have frF : FrAt K C _ p P := ⟨ok, dx, _, tA, tP, tV, pK, upd_same, a1, a2, a3, a4, fsF_no tA tP tV pL DO pK, dp_tups t7 _ _ tA1 (dp_mono s7 _ _ hA5), dp_tups t7 _ _ tP1 (dp_mono s7 _ _ hP5), dp_tups t7 _ _ tV1 (dp_mono s7 _ _ hV5), by rw [upd_ne npK]; exact hK⟩
    exact q2 _ ((b5.same s7).upd) ⟨frF, dx, _, pL, DO, upd_same, (fsF_at2 tA tP tV pL DO pK).1, (fsF_at2 tA tP tV pL DO pK).2, dp_tups t7 _ _ (tupD_dS _) (dp_mono s7 _ _ dL5), by rw [upd_ne (Ne.symm npO)]; exact s7 _ _ hDO6⟩
end
end Fc
namespace Fc
open PySem L2 PyProof.Rows
def strD (d : PyData) : Str := match d with | .str x => x | _ => ""
def paD (d1 d2 d3 : PyData) : Pa := ⟨(partsL d1).map (fun e => (strD ((partsL e).getD 0 .none), strD ((partsL e).getD 1 .none))), (partsL d2).map strD, (partsL d3).map strD⟩
/-- whether there is a frame of these -/
def frameD (d1 d2 d3 : PyData) : Bool := formD d1 d2 d3 && okB (paD d1 d2 d3)
theorem name_str {d : PyData} (h : isNameD d = true) : d = .str (strD d) ∧ isNameS (strD d) = true := by
  cases d <;> first | exact ⟨rfl, h⟩ | exact nomatch h
theorem names_dS {l : List PyData} (h : l.all isNameD = true) : l = (l.map strD).map PyData.str := by
  induction l with
  | nil => rfl
  | cons d l ih =>
    rw [List.all_cons, Bool.and_eq_true] at h
    rw [List.map_cons, List.map_cons, ← ih h.2, ← (name_str h.1).1]
theorem pairs_dA {l : List PyData} (h : l.all pairD = true) (hn : (l.flatMap partsL).all isNameD = true) : l = (l.map (fun e => (strD ((partsL e).getD 0 .none), strD ((partsL e).getD 1 .none)))).map (fun e => PyData.tuple [.str e.1, .str e.2]) := by
  induction l with
  | nil => rfl
  | cons d l ih =>
    rw [List.all_cons, Bool.and_eq_true] at h
    rw [List.flatMap_cons, List.all_append, Bool.and_eq_true] at hn
    rw [List.map_cons, List.map_cons, ← ih h.2 hn.2]
    obtain ⟨es, rfl⟩ : ∃ es, d = .tuple es := by cases d <;> first | exact ⟨_, rfl⟩ | exact nomatch h.1
    match es, h.1, hn.1 with
    | [a, b], _, hn =>
      have hn2 : (isNameD a && (isNameD b && true)) = true := hn
      rw [Bool.and_eq_true, Bool.and_eq_true] at hn2
      show PyData.tuple [a, b] :: l = PyData.tuple [.str (strD a), .str (strD b)] :: l
      rw [← (name_str hn2.1).1, ← (name_str hn2.2.1).1]
theorem form_eq {d1 d2 d3 : PyData} (h : formD d1 d2 d3 = true) : d1 = dA (paD d1 d2 d3).arrays ∧ d2 = dS (paD d1 d2 d3).pos ∧ d3 = dS (paD d1 d2 d3).vals ∧ ∀ x ∈ wordsL (paD d1 d2 d3), isNameS x = true := by
  unfold formD at h
  rw [Bool.and_eq_true, Bool.and_eq_true, Bool.and_eq_true] at h
  obtain ⟨h1, h2, h3, h4⟩ := h
  obtain ⟨l1, rfl⟩ : ∃ es, d1 = .tuple es := by cases d1 <;> first | exact ⟨_, rfl⟩ | exact nomatch h1
  obtain ⟨l2, rfl⟩ : ∃ es, d2 = .tuple es := by cases d2 <;> first | exact ⟨_, rfl⟩ | exact nomatch h2
  obtain ⟨l3, rfl⟩ : ∃ es, d3 = .tuple es := by cases d3 <;> first | exact ⟨_, rfl⟩ | exact nomatch h3
  have h4' : (l1.flatMap partsL ++ l2 ++ l3).all isNameD = true := h4
  rw [List.all_append, List.all_append, Bool.and_eq_true, Bool.and_eq_true] at h4'
  have e1 := pairs_dA h1 h4'.1.1
  have e2 := names_dS h4'.1.2
  have e3 := names_dS h4'.2
  refine ⟨congrArg PyData.tuple e1, congrArg PyData.tuple e2, congrArg PyData.tuple e3, fun x hx => ?_⟩
  have g : ∀ l : List PyData, l.all isNameD = true → ∀ x ∈ l.map strD, isNameS x = true := fun l hl x hx => by
    obtain ⟨d, hd, rfl⟩ := List.mem_map.mp hx
    exact (name_str (List.all_eq_true.mp hl d hd)).2
  unfold wordsL at hx
  rcases List.mem_append.mp hx with hx | hx
  · obtain ⟨e, he, hx⟩ := List.mem_flatMap.mp hx
    obtain ⟨d, hd, rfl⟩ := List.mem_map.mp he
    have hp := List.all_eq_true.mp h1 d hd
    obtain ⟨es, rfl⟩ : ∃ es, d = .tuple es := by cases d <;> first | exact ⟨_, rfl⟩ | exact nomatch hp
    match es, hp, hd, hx with
    | [a, b], _, hd, hx =>
      have ha : isNameD a = true := List.all_eq_true.mp h4'.1.1 a (List.mem_flatMap.mpr ⟨_, hd, by show a ∈ [a, b]; simp⟩)
      have hb : isNameD b = true := List.all_eq_true.mp h4'.1.1 b (List.mem_flatMap.mpr ⟨_, hd, by show b ∈ [a, b]; simp⟩)
      have hx2 : x ∈ [strD a, strD b] := hx
      simp only [List.mem_cons, List.not_mem_nil, or_false] at hx2
      rcases hx2 with rfl | rfl
      · exact (name_str ha).2
      · exact (name_str hb).2
  · rcases List.mem_append.mp hx with hx | hx
    · exact g _ h4'.1.2 x hx
    · exact g _ h4'.2 x hx
mutual
theorem dz_dp {K : PySem.W.Frag} {w : World} {ok : Addr → Prop} {H : Hp} : ∀ (d : PyData) (v : V), tupD d = true → Dz K w ok H v d → Dp K H v d
  | .none, _, _, h => by cases h; exact .non
  | .bool b, _, _, h => by cases h; exact .bl b
  | .int i, _, _, h => by cases h; exact .int i
  | .str x, _, _, h => by cases h; exact .str x
  | .list ds, _, t, _ => nomatch t
  | .tuple ds, _, t, h => by
    cases h with
    | tup e a => exact .tup e (dzs_dp ds _ t a)
  | .dict _, _, t, _ => nomatch t
theorem dzs_dp {K : PySem.W.Frag} {w : World} {ok : Addr → Prop} {H : Hp} : ∀ (ds : List PyData) (vs : List V), tupDs ds = true → DzAll K w ok H vs ds → DpAll K H vs ds
  | [], _, _, h => by cases h; exact .nil
  | d :: ds, _, t, h => by
    cases h with
    | cons a b => exact .cons (dz_dp d _ ((Bool.and_eq_true _ _).mp t).1 a) (dzs_dp ds _ ((Bool.and_eq_true _ _).mp t).2 b)
end
def spMakeX (K : PySem.W.Frag) (w : World) (C Cf : Addr) : Sp := fun vs H Q E => ∃ ok p dx v1 v2 v3 d1 d2 d3, vs = [.ref p, v1, v2, v3] ∧ H p = some (.ins C dx []) ∧ Dz K w ok H v1 d1 ∧ Dz K w ok H v2 d2 ∧ Dz K w ok H v3 d3 ∧ smD d1 = true ∧ smD d2 = true ∧ smD d3 = true ∧
  (partsL d1).length ≤ 60 ∧ (partsL d2).length ≤ 60 ∧ (partsL d3).length ≤ 60 ∧ formD d1 d2 d3 = false ∧ ∀ H', Same H H' → E (.ref Cf) none H'
def spMakeZ (K : PySem.W.Frag) (w : World) (C Cf : Addr) : Sp := fun vs H Q E => ∃ ok p dx v1 v2 v3 d1 d2 d3, vs = [.ref p, v1, v2, v3] ∧ H p = some (.ins C dx []) ∧ Dz K w ok H v1 d1 ∧ Dz K w ok H v2 d2 ∧ Dz K w ok H v3 d3 ∧ smD d1 = true ∧ smD d2 = true ∧ smD d3 = true ∧
  (partsL d1).length ≤ 60 ∧ (partsL d2).length ≤ 60 ∧ (partsL d3).length ≤ 60 ∧ (frameD d1 d2 d3 = false → ∀ H', Same H H' → E (.ref Cf) none H') ∧ (frameD d1 d2 d3 = true → ∀ H', But p H H' → FrB K C H' p (paD d1 d2 d3) → Q .non H')
theorem name_le {x : Str} (h : isNameS x = true) : x.length ≤ 1000 := by
  unfold isNameS at h
  rw [Bool.and_eq_true, Bool.and_eq_true, decide_eq_true_iff, decide_eq_true_iff] at h
  omega
section
variable {K : PySem.W.Frag} {mg : Str → Option Value} {base : Heap} {P : Program} {w : World}
theorem okM0X {f C Cf : Addr} {fd : FuncData} (F : Fun K "__init__" "Frame.__init__" (mF 0) f fd) (T : FrTxt K mg C) (O : OwnX K mg "InvalidFrame" Cf) (c29 : Cal P w K mg base 2 "is_frame_content" (spContentBad K w)) (c28 : Cal P w K mg base 1 "different_lengths" (spLens K w)) (c30 : Cal P w K mg base 1 "kinds_of_names" (spKinds K w)) :
    FnOk P w K mg base (L2.CX P w) 3 f fd ["self", "arrays", "positions", "values"] (spMakeX K w C Cf) := by
  refine F.okX scM0 (fun vs H Q E h => ?_) (fun cdv A outer s H vs Q E hr h => ?_)
  · obtain ⟨ok, p, dx, v1, v2, v3, d1, d2, d3, rfl, _⟩ := h
    rfl
  · have hu := hu70 hr
    refine ⟨_, pss_cons (ps_if (pt_not (pt_val (pe_c c29 hr (by decide) (by rfl) (pa_cons (pv 1) (pa_cons (pv 2) (pa_cons (pv 3) pa_nil)))))) (pss_one (ps_raise rfl (takes_of rfl rfl rfl rfl) (pmk_own PySem.F.excBase_ValueError O.x O.g O.k (raises_own O.b O.t) rfl))) pss_nil)
      (pss_cons (ps_fld (pv 0) (pv 1) rfl) (pss_cons (ps_fld (pv 0) (pv 2) rfl) (pss_cons (ps_fld (pv 0) (pv 3) rfl) (pss_cons (ps_fld (pv 0) (pe_c c28 hr (by decide) (by rfl) (pa_cons (pv 1) pa_nil)) rfl)
      (pss_cons (ps_fld (pv 0) (pe_dcM (own := [("array", 4), ("length", 5)]) (g := gTup K 2 (gCons (gName 4) (gCons (gName 5) gNil))) (hu9 hu) (by rfl) scM0.nd (pi_tup (pv 1)) (blkOk_by (N := nM0) (sc := defScope (mF 0)) (by decide +kernel))
        (fun _ _ _ _ _ => pg_tup rfl (pgs_cons (pg_name (i := 4) scM0.nd rfl (Or.inl rfl)) (pgs_cons (pg_name (i := 5) scM0.nd rfl (Or.inl rfl)) pgs_nil))) (fun _ _ _ _ _ => pv 4) (fun _ _ _ _ _ => pv 5)) rfl)
      (pss_one (ps_fld (pv 0) (pe_c c30 hr (by decide) (by rfl) (pa_cons (pv 1) (pa_cons (pv 2) (pa_cons (pv 3) pa_nil)))) rfl))))))), ?_⟩
    obtain ⟨ok, p, dx, v1, v2, v3, d1, d2, d3, rfl, hp, z1, z2, z3, m1, m2, m3, l1, l2, l3, bad, q⟩ := h
    refine ⟨_, rfl, _, rfl, _, rfl, ok, v1, v2, v3, d1, d2, d3, rfl, z1, z2, z3, m1, m2, m3, by omega, by omega, by omega, bad, fun H1 s1 => ⟨_, rfl, ?_⟩⟩
    exact iteT (q H1 s1)
theorem okM0Z {f C Cf : Addr} {fd : FuncData} (F1 : FnOk P w K mg base (L2.CX P w) 3 f fd ["self", "arrays", "positions", "values"] (spMakeB K C Cf)) (F2 : FnOk P w K mg base (L2.CX P w) 3 f fd ["self", "arrays", "positions", "values"] (spMakeX K w C Cf)) :
    FnOk P w K mg base (L2.CX P w) 3 f fd ["self", "arrays", "positions", "values"] (spMakeZ K w C Cf) := by
  refine (fn_or F1 F2).imp fun vs H Q E h => ?_
  obtain ⟨ok, p, dx, v1, v2, v3, d1, d2, d3, rfl, hp, z1, z2, z3, m1, m2, m3, l1, l2, l3, q1, q2⟩ := h
  cases hf : formD d1 d2 d3 with
  | false =>
    exact .inr ⟨ok, p, dx, v1, v2, v3, d1, d2, d3, rfl, hp, z1, z2, z3, m1, m2, m3, l1, l2, l3, hf, q1 (by unfold frameD; rw [hf]; rfl)⟩
  | true =>
    obtain ⟨e1, e2, e3, nm⟩ := form_eq hf
    have fe : frameD d1 d2 d3 = okB (paD d1 d2 d3) := by unfold frameD; rw [hf]; rfl
    have t1 : ∀ {v d l}, Dz K w ok H v d → d = PyData.tuple l → ∃ t, v = .ref t := fun {v d l} h e => by
      subst e
      cases h with
      | tup _ _ => exact ⟨_, rfl⟩
    obtain ⟨tA, rfl⟩ := t1 z1 e1
    obtain ⟨tP, rfl⟩ := t1 z2 e2
    obtain ⟨tV, rfl⟩ := t1 z3 e3
    have a1 : Dz K w ok H (.ref tA) (dA (paD d1 d2 d3).arrays) := by rw [← e1]; exact z1
    have a2 : Dz K w ok H (.ref tP) (dS (paD d1 d2 d3).pos) := by rw [← e2]; exact z2
    have a3 : Dz K w ok H (.ref tV) (dS (paD d1 d2 d3).vals) := by rw [← e3]; exact z3
    rw [fe] at q1 q2
    exact .inl ⟨p, dx, tA, tP, tV, paD d1 d2 d3, rfl, hp, dz_dp _ _ (tupD_dA _) a1, dz_dp _ _ (tupD_dS _) a2, dz_dp _ _ (tupD_dS _) a3,
      ⟨by show (List.map _ _).length ≤ 60; rw [List.length_map]; exact l1, by show (List.map _ _).length ≤ 60; rw [List.length_map]; exact l2, by show (List.map _ _).length ≤ 60; rw [List.length_map]; exact l3, fun x hx => ⟨nm x hx, name_le (nm x hx)⟩⟩, q1, q2⟩
end
end Fc
namespace Fc
open PySem L2 PyProof.Rows
def hasD (P : Pa) (d : PyData) : Bool := match d with | .str x => decide (x ∈ namesL P) | _ => false
def spHasZ (K : PySem.W.Frag) (w : World) (C : Addr) : Sp := fun vs H Q _ => ∃ ok p P v d, vs = [.ref p, v] ∧ FrAt K C H p P ∧ Dz K w ok H v d ∧ Q (.bl (hasD P d)) H
def spKindOf (K : PySem.W.Frag) (C : Addr) : Sp := fun vs H Q _ => ∃ p P x k, vs = [.ref p, .str x] ∧ FrAt K C H p P ∧ (x, k) ∈ kindsL P ∧ Q (.str k) H
def spLenOf (K : PySem.W.Frag) (C : Addr) : Sp := fun vs H Q _ => ∃ p P x y, vs = [.ref p, .str x] ∧ FrB K C H p P ∧ (x, y) ∈ P.arrays ∧ Q (.str y) H
theorem kinds_nd {P : Pa} (h : PaOk P) : ((kindsL P).map (·.1)).Nodup := by
  have e := h.nd
  unfold namesL at e
  unfold kindsL
  simp only [List.map_append, List.map_map]
  have g : ∀ (k : Str) (l : List Str), l.map ((fun x : Str × Str => x.1) ∘ fun x => (x, k)) = l := fun k l => by
    induction l with
    | nil => rfl
    | cons x l ih => rw [List.map_cons, ih]; rfl
  rw [g, g, g]
  exact e
theorem oS_some {k : Str} : oS (some k) = V.str k := rfl
theorem kindOf_has (ks : List (Str × Str)) (x : Str) : (!decide (oS (kindOf ks x) = V.non)) = decide (x ∈ ks.map (·.1)) := by
  unfold kindOf
  induction ks with
  | nil => rfl
  | cons e ks ih =>
    rw [List.find?_cons]
    by_cases c : e.1 = x
    · rw [decide_eq_true c]
      rw [decide_eq_true (show x ∈ (e :: ks).map (·.1) by rw [List.map_cons]; exact List.mem_cons.mpr (.inl c.symm))]
      show (!decide (V.str e.2 = V.non)) = true
      rw [decide_eq_false (fun z => by cases z)]; rfl
    · rw [decide_eq_false c]
      refine ih.trans ?_
      exact decide_eq_decide.mpr ⟨fun h => List.mem_cons_of_mem _ h, fun h => (List.mem_cons.mp h).resolve_left fun q => c q.symm⟩
section
variable {K : PySem.W.Frag} {mg : Str → Option Value} {base : Heap} {P : Program} {w : World}
theorem okM13Z {f C : Addr} {fd : FuncData} (F : Fun K "__contains__" "Frame.__contains__" (mF 13) f fd) (T : FrTxt K mg C) (c11 : Cal P w K mg base 1 "kind_among" (spKindZ K w)) : FnOk P w K mg base CX0 2 f fd ["self", "value"] (spHasZ K w C) := by
  have scM13 : FnScope ["self", "value"] ["self", "value"] (defScope (mF 13)) := ⟨rfl, rfl, rfl, by decide +kernel, rfl, by decide +kernel, by decide +kernel⟩
  refine F.ok scM13 (fun vs H Q E h => ?_) (fun cdv A outer s H vs Q E hr h => ?_)
  · obtain ⟨ok, p, P, v, d, rfl, _⟩ := h
    rfl
  · refine ⟨_, pss_one (ps_ret (pe_cmpR op_notN (pe_c c11 hr (by decide) (by rfl) (pa_cons (pe_fld (pv 0) rfl) (pa_cons (pv 1) pa_nil))) pe_non (nomark _))), ?_⟩
    obtain ⟨ok, p, P, v, d, rfl, ⟨pok, dx, fs, tA, tP, tV, aK, h1, h2, h3, h4, h5, h6, h7, h8, h9, h10⟩, hd, q⟩ := h
    refine ⟨_, rfl, p, C, dx, fs, _, rfl, h1, T.cl, T.nK, h5, _, rfl, ok, aK, kindsL P, _, d, rfl, .inl h10, hd, rfl, ?_⟩
    cases d with
    | str x =>
      rw [show oS (kindD (kindsL P) (.str x)) = oS (kindOf (kindsL P) x) from rfl, kindOf_has, kinds_keys]
      exact q
    | _ => exact q
theorem scM5 : FnScope ["self", "array"] ["self", "array"] (defScope (mF 5)) := ⟨rfl, rfl, rfl, by decide +kernel, rfl, by decide +kernel, by decide +kernel⟩
theorem okM5 {f C : Addr} {fd : FuncData} (F : Fun K "length_of" "Frame.length_of" (mF 5) f fd) (T : FrTxt K mg C) (c11 : Cal P w K mg base 1 "kind_among" (spKindZ K w)) : FnOk P w K mg base CX0 2 f fd ["self", "array"] (spLenOf K C) := by
  refine F.ok scM5 (fun vs H Q E h => ?_) (fun cdv A outer s H vs Q E hr h => ?_)
  · obtain ⟨p, P, x, y, rfl, _⟩ := h
    rfl
  · have hu := hu70 hr
    refine ⟨_, pss_cons (ps_if (pt_cmpR op_ne (pe_c c11 hr (by decide) (by rfl) (pa_cons (pe_fld (pv 0) rfl) (pa_cons (pv 1) pa_nil))) pe_str (nomark _)) pss_never pss_nil) (pss_one (ps_ret (pe_dget (hu1 hu) (pe_fld (pv 0) rfl) (pv 1) (fun _ _ => rfl)))), ?_⟩
    obtain ⟨p, P, x, y, rfl, ⟨⟨pok, dx, fs, tA, tP, tV, aK, h1, h2, h3, h4, h5, h6, h7, h8, h9, h10⟩, dx', fs', tL, tO, e1, e2, e3, e4, e5⟩, hm, q⟩ := h
    rw [h1] at e1
    cases e1
    have hk : kindOf (kindsL P) x = some "array" := (kind_find _ (kinds_nd pok) _ _).mpr (List.mem_append_left _ (List.mem_map.mpr ⟨_, hm, rfl⟩))
    have nd1 : (P.arrays.map (·.1)).Nodup := (List.nodup_append.mp pok.nd).1
    have hy : kindOf P.arrays x = some y := (kind_find _ nd1 _ _).mpr hm
    refine ⟨_, rfl, p, C, dx, fs, _, rfl, h1, T.cl, T.nK, h5, _, rfl, fun _ => True, aK, kindsL P, _, .str x, rfl, .inl h10, .str x, ?_⟩
    rw [show kindD (kindsL P) (.str x) = kindOf (kindsL P) x from rfl, hk]
    refine ⟨rfl, _, rfl, iteF ⟨_, rfl, p, C, dx, fs, _, rfl, h1, T.cl, T.nO, e3, _, rfl, tO, _, rfl, .inl ⟨_, .inr x, .inl e5, rfl, ?_⟩, q⟩⟩
    rw [valK_at, hy]
    rfl
theorem scM6 : FnScope ["self", "word", "kind"] ["self", "word"] (defScope (mF 6)) := ⟨rfl, rfl, rfl, by decide +kernel, rfl, by decide +kernel, by decide +kernel⟩
theorem okM6 {f C : Addr} {fd : FuncData} (F : Fun K "kind_of" "Frame.kind_of" (mF 6) f fd) (T : FrTxt K mg C) (c11 : Cal P w K mg base 1 "kind_among" (spKindZ K w)) : FnOk P w K mg base CX0 2 f fd ["self", "word"] (spKindOf K C) := by
  refine F.ok scM6 (fun vs H Q E h => ?_) (fun cdv A outer s H vs Q E hr h => ?_)
  · obtain ⟨p, P, x, y, rfl, _⟩ := h
    rfl
  · refine ⟨_, pss_cons (ps_set (i := 2) scM6.nd rfl (Or.inl rfl) (pe_c c11 hr (by decide) (by rfl) (pa_cons (pe_fld (pv 0) rfl) (pa_cons (pv 1) pa_nil)))) (pss_cons (ps_if (pt_cmpR op_isN (pv 2) pe_non (nomark _)) pss_never pss_nil) (pss_one (ps_ret (pv 2)))), ?_⟩
    obtain ⟨p, P, x, k, rfl, ⟨pok, dx, fs, tA, tP, tV, aK, h1, h2, h3, h4, h5, h6, h7, h8, h9, h10⟩, hm, q⟩ := h
    have hk : kindOf (kindsL P) x = some k := (kind_find _ (kinds_nd pok) _ _).mpr hm
    refine ⟨_, rfl, p, C, dx, fs, _, rfl, h1, T.cl, T.nK, h5, _, rfl, fun _ => True, aK, kindsL P, _, .str x, rfl, .inl h10, .str x, ?_⟩
    rw [show kindD (kindsL P) (.str x) = kindOf (kindsL P) x from rfl, hk]
    refine gn_i ?_
    exact ⟨_, rfl, rfl, _, rfl, iteF ⟨_, rfl, q⟩⟩
end
end Fc
namespace Fc
open PySem PySem.Spec L2 PyProof.Rows
def topK (i : Nat) : Stmt := PySem.Challenge.pw_forkcells_k00_errors_names_and_frames.main.body.getD i (.Pass ⟨0, 0, 0, 0⟩)
theorem all_count (ds : List PyData) (p : PyData → Bool) : decide (((List.range ds.length).filter fun k => !p (ds.getD k .none)).length = 0) = ds.all p := by
  rw [Bool.eq_iff_iff, decide_eq_true_iff, List.length_eq_zero_iff, List.filter_eq_nil_iff, List.all_eq_true]
  constructor
  · intro h d hd
    obtain ⟨i, hi, rfl⟩ := List.getElem_of_mem hd
    have := h i (List.mem_range.mpr hi)
    rw [List.getD_eq_getElem?_getD, List.getElem?_eq_getElem hi] at this
    simpa using this
  · intro h k hk
    have hi := List.mem_range.mp hk
    rw [List.getD_eq_getElem?_getD, List.getElem?_eq_getElem hi]
    have := h _ (List.getElem_mem hi)
    simpa using this
def strOf (d : PyData) : Option Str := match d with | .str x => some x | _ => none
theorem paired_map {α β γ : Type} {R : α → β → Prop} {f : γ → α} {l : List γ} {ys : List β} (h : Paired (fun k y => R (f k) y) l ys) : Paired R (l.map f) ys := by
  induction h with
  | nil => exact .nil
  | cons a _ ih => exact .cons a ih
theorem range_getL {α : Type} (ds : List α) (z : α) : (List.range ds.length).map (fun k => ds.getD k z) = ds := by
  refine List.ext_getElem (by simp) fun i h1 h2 => ?_
  rw [List.getElem_map, List.getElem_range, List.getD_eq_getElem?_getD, List.getElem?_eq_getElem h2]; rfl
theorem paired_filter {α β : Type} {R : α → β → Prop} {ls : List α} {z : α} {b : α → Bool} {ys : List β} (h : Paired (fun k y => R (ls.getD k z) y) ((List.range ls.length).filter fun k => b (ls.getD k z)) ys) : Paired R (ls.filter b) ys := by
  have := paired_map h
  rw [show (fun k => b (ls.getD k z)) = b ∘ (fun k => ls.getD k z) from rfl, ← List.filter_map, range_getL] at this
  exact this
def lowOne (x : Str) : Bool := decide (0 < (x.length : Int)) && (decide ((x.length : Int) < 9) && x.cps.toList.all lowC)
theorem lowOne_eq (x : Str) : lowOne x = isNameS x := by
  unfold lowOne isNameS
  have e1 : decide (0 < (x.length : Int)) = decide (1 ≤ (x.length : Int)) := decide_eq_decide.mpr (by omega)
  have e2 : decide ((x.length : Int) < 9) = decide ((x.length : Int) ≤ 8) := decide_eq_decide.mpr (by omega)
  rw [e1, e2]
theorem all_take_upG {α : Type} {f : α → Bool} {ds : List α} {i : Nat} (hi : i < ds.length) (pre : (ds.take i).all f = true) (h : f ds[i] = true) : (ds.take (i + 1)).all f = true := by
  rw [List.take_add_one, List.getElem?_eq_getElem hi, List.all_append, pre]
  simp only [Option.toList, List.all_cons, List.all_nil, h]
  rfl
def isStrT (d : PyData) : Bool := isTy d "str"
theorem strs_all {ds : List PyData} (h : ds.all isStrT = true) : ds = (ds.filterMap strOf).map PyData.str := by
  induction ds with
  | nil => rfl
  | cons d ds ih =>
    rw [List.all_cons, Bool.and_eq_true] at h
    cases d with
    | str x =>
      rw [List.filterMap_cons]
      show _ = PyData.str x :: _
      rw [← ih h.2]
    | _ => cases h.1
theorem dz_strs_inv {K : PySem.W.Frag} {w : World} {ok : Addr → Prop} {H : Hp} : ∀ {own : List Str} {xs : List V}, DzAll K w ok H xs (own.map PyData.str) → xs = own.map V.str
  | [], _, h => by cases h; rfl
  | x :: own, _, h => by
    cases h with
    | cons a b =>
      cases a
      rw [dz_strs_inv b]; rfl
theorem strV_eq (x y : Str) : decide (V.str x = V.str y) = decide (x = y) := by
  by_cases c : x = y
  · subst c; rw [decide_eq_true rfl, decide_eq_true rfl]
  · rw [decide_eq_false c, decide_eq_false (fun e => c (V.str.inj e))]
def areN (d : PyData) : Bool := match d with | .tuple ds => ds.all isNameD | _ => false
def spAreN (K : PySem.W.Frag) (w : World) : Sp := fun vs H Q _ => ∃ ok v d, vs = [v] ∧ Dz K w ok H v d ∧ smD d = true ∧ (partsL d).length ≤ 1000 ∧ ∀ H', Same H H' → Q (.bl (areN d)) H'
theorem names_strs {ds : List PyData} (h : ds.all isStrT = false) : ds.all isNameD = false := by
  rw [Bool.eq_false_iff] at h ⊢
  intro e
  refine h (List.all_eq_true.mpr fun d hd => ?_)
  rw [(name_str (List.all_eq_true.mp e d hd)).1]
  rfl
theorem pe_bmK {X : Cx} {o e : Expr} {es : List Expr} {to : TE} {t : TA} {name : Str} {apos cpos : Pos} {T id : String} {r : V → List V → Hp → VK → Prop} (K : PySem.W.Frag) (pa : PlainAttrs T) (slot : Slot T name id) (hty : typeOf (.builtin id) = pure (.type "method_descriptor")) (hm : MtR X id r) (ho : PE X o to) (ha : PA X (e :: es) t)
    (hK : X.K = K := by rfl) (hbase : attributeBase o name X.env (eval o X.env) = eval o X.env := by rfl)
    (hfew : ((backTo cpos (starEach (e :: es) X.env)).all (fun x => !x.1) && (backToKw cpos (keywordEach [] X.env)).all (fun x => x.1.isSome)
      && decide ((e :: es).length + ([] : List Keyword).length + (if ([] : List Keyword).isEmpty then 0 else 1) < 30)) = true := by rfl)
    (hline : (apos.endLine == cpos.line) = true := by rfl) (hs : starEach (e :: es) X.env = (false, eval e X.env) :: starEach es X.env := by rfl) (hplain : (backTo cpos (starEach es X.env)).any (·.1) = false := by rfl) :
    PE X (.Call (.Attribute o name apos) (e :: es) [] cpos) (tBM K T r to t) := by
  subst hK
  exact pe_bm pa slot hty hm ho ha hbase hfew hline hs hplain
section
variable {K : PySem.W.Frag} {mg : Str → Option Value} {base : Heap} {P : Program} {w : World}
abbrev rStripC : V → List V → Hp → VK → Prop := fun x xs H Q => ∃ a b, x = .str a ∧ xs = [.str b] ∧ a.length ≤ sizeLine ∧ Q (.str (Txt.stripChars a b)) H
abbrev n41 : List Str := ["_law_value", "_law_one"]
theorem sp41 : FnScope n41 ["_law_value"] (defScope (topK 41)) := ⟨rfl, rfl, rfl, by decide +kernel, rfl, by decide +kernel, by decide +kernel⟩
theorem op41 {f : Addr} {fd : FuncData} (F : Fun K "_law_are_names" "_law_are_names" (topK 41) f fd) (B : Blt mg) : FnOk P w K mg base CX0 1 f fd ["_law_value"] (spAreN K w) := by
  refine F.ok sp41 (fun vs H Q E h => ?_) (fun cdv A outer s H vs Q E hr h => ?_)
  · obtain ⟨ok, v, d, rfl, _⟩ := h
    rfl
  · have hu := hu70 hr
    refine ⟨_, (pss_cons (ps_if (pw_or (pt_not (pt_val (pe_callB call_isiZ (by rfl) B.isinstance boot_isinstance (pa_cons (pv 0) (pa_cons (pe_bltn (v := .ty "tuple") (by rfl) B.tuple boot_tuple rfl) pa_nil))))) (pw_or1 (pt_cmpR (op_neNil (hu64 hu)) (pe_lc (own := [("_law_one", 1)]) (g := gName 1) (by rfl) sp41.nd (pi_tup (pv 0)) (blkOk_by (N := n41) (sc := defScope (topK 41)) (by decide +kernel)) (fun _ _ _ _ _ => (pg_name (i := 1) sp41.nd rfl (Or.inl rfl))) (fun _ _ _ _ _ => pts_one (pt_not (pt_val (pe_callB (r := rIsiZ K w) call_isiZ (by rfl) B.isinstance boot_isinstance (pa_cons (pv 1) (pa_cons (pe_bltn (v := .ty "str") (by rfl) B.str boot_str rfl) pa_nil)))))) (fun _ _ _ _ _ => (pv 1))) (pe_lst pa_nil) (nomark _)))).pt (pss_one (ps_ret pe_bl)) pss_nil) (pss_one (ps_ret (pe_cmpR (op_eqNil (hu64 hu)) (pe_lc (own := [("_law_one", 1)]) (g := gName 1) (by rfl) sp41.nd (pi_tup (pv 0)) (blkOk_by (N := n41) (sc := defScope (topK 41)) (by decide +kernel)) (fun _ _ _ _ _ => (pg_name (i := 1) sp41.nd rfl (Or.inl rfl))) (fun _ _ _ _ _ => pts_one (by exact (PW.pt (pw_or (pt_not (pt_chain op_lt op_lt pe_int (pe_callB call_len_str (by rfl) B.len boot_len (pa_cons (pv 1) pa_nil)) pe_int)) (pw_or1 (pt_cmpR op_ne (pe_bmK (r := rStripC) K PySem.F.plainAttrs_str PySem.F.slot_str_strip PySem.F.type_str_strip mt_stripChars (pv 1) (pa_cons pe_str pa_nil)) pe_str (nomark _))))))) (fun _ _ _ _ _ => (pv 1))) (pe_lst pa_nil) (nomark _))))), ?_⟩
    obtain ⟨ok, v, d, rfl, hd, sm, ld, q⟩ := h
    have sl : sizeLine = 16777216 := sizeLine_eq
    refine ⟨_, rfl, ok, v, d, _, rfl, hd, .inr (.inr (.inr (.inl rfl))), _, rfl, ?_⟩
    have q0 := q H (Same.refl H)
    by_cases ht : isTy d "tuple" = true
    case neg =>
      rw [Bool.eq_false_iff.mpr ht]
      have : areN d = false := by cases d <;> first | rfl | exact absurd rfl ht
      rw [this] at q0
      exact iteT q0
    rw [ht]
    obtain ⟨b, xs, ds, rfl, rfl, sa, da⟩ := dz_tup hd ht
    have le := dzs_len da
    replace ld : ds.length ≤ 1000 := ld
    refine iteF ⟨_, rfl, b, rfl, ⟨_, sa⟩, fun D hD => ?_⟩
    refine lc_gen2 (K := K) (fun k => !isStrT (ds.getD k .none)) (fun _ _ _ => True) (steady_tup (K := K) (a := b) (xs := xs)) (fun _ _ _ _ _ h => h) (fun H3 s3 => Tups.same s3 _ _ sa) (show 1 < 2 by decide) (by omega) hD (fun k H3 Q' hk s3 q' => ?_) (fun k H3 Q' hk _ s3 q' => ?_) fun H2 ys s2 hys py => ?_
    · have dk := dz_same s3 _ _ (dz_at da (k := k) (by omega))
      exact ⟨_, rfl, ok, _, _, _, rfl, dk, .inr (.inr (.inl rfl)), _, rfl, q' _ (Same.refl _)⟩
    · exact ⟨_, rfl, q' _ _ (Same.refl _) True.intro⟩
    have ey : decide (ys = []) = ds.all isStrT := by
      rw [← all_count]
      refine decide_eq_decide.mpr ?_
      have := paired_len py
      rw [le] at this
      rw [this]
      exact ⟨fun e => by rw [e]; rfl, fun e => List.eq_nil_of_length_eq_zero e⟩
    refine ⟨Nat.zero_le _, fun N hN => ?_⟩
    have s3 := same_new (o := .lst []) hN
    refine ⟨D, ys, N, rfl, rfl, .inl (.inl (s3 _ _ hys)), .inl (.inl upd_same), _, rfl, ?_⟩
    rw [ey]
    have s13 := s2.trans s3
    have ea : areN (.tuple ds) = ds.all isNameD := rfl
    rw [ea] at q
    cases es : ds.all isStrT with
    | false =>
      rw [names_strs es] at q
      exact iteT (q _ s13)
    | true =>
    have ed := strs_all es
    clear es ey py q0 ea
    revert ed
    generalize ds.filterMap strOf = own
    rintro rfl
    have sa3 := Tups.same s13 _ _ sa
    have ex : xs = own.map V.str := dz_strs_inv da
    subst ex
    replace q : ∀ H', Same (upd H2 N (.lst [])) H' → Q (.bl ((own.map PyData.str).all isNameD)) H' := fun H' s' => q H' (s13.trans s')
    have sms : ∀ x ∈ own, x.length ≤ 1000 := fun x hx => of_decide_eq_true (smD_at sm (List.mem_map.mpr ⟨x, hx, rfl⟩))
    rw [List.length_map] at ld
    clear hys s3 s13 hN s2 sa hd da hD le sm ht
    generalize upd H2 N (.lst []) = H3 at *
    refine iteF ⟨_, rfl, b, rfl, ⟨_, sa3⟩, fun D hD => ?_⟩
    refine lc_gen2 (K := K) (fun k => !isNameD ((own.map PyData.str).getD k .none)) (fun _ _ _ => True) (steady_tup (K := K) (a := b) (xs := own.map V.str)) (fun _ _ _ _ _ h => h) (fun H3 s3 => Tups.same s3 _ _ sa3) (show 1 < 2 by decide) (by rw [List.length_map]; omega) hD (fun k H4 Q' hk s4 q' => ?_) (fun k H3 Q' hk _ s3 q' => ?_) fun H2 ys s2 hys py => ?_
    · rw [List.length_map] at hk
      have ex : (List.map V.str own).getD k .non = .str own[k] := by
        rw [List.getD_eq_getElem?_getD, List.getElem?_map, List.getElem?_eq_getElem hk]; rfl
      have ed : (own.map PyData.str).getD k .none = .str own[k] := by
        rw [List.getD_eq_getElem?_getD, List.getElem?_map, List.getElem?_eq_getElem hk]; rfl
      rw [ex]
      rw [ed, show isNameD (.str own[k]) = lowOne own[k] from (lowOne_eq _).symm] at q'
      unfold lowOne at q'
      have sx := sms _ (List.getElem_mem hk)
      have q1 := q' _ (Same.refl _)
      refine ⟨_, rfl, own[k], rfl, by rw [sl]; omega, 0, _, rfl, rfl, _, rfl, ?_⟩
      by_cases c1 : (0 : Int) < (own[k].length : Int)
      case neg =>
        rw [decide_eq_false c1] at q1 ⊢
        exact iteF ⟨_, rfl, iteT q1⟩
      rw [decide_eq_true c1] at q1 ⊢
      refine iteT ⟨_, _, rfl, rfl, _, rfl, ?_⟩
      by_cases c2 : (own[k].length : Int) < 9
      case neg =>
        rw [decide_eq_false c2] at q1 ⊢
        exact iteT q1
      rw [decide_eq_true c2] at q1 ⊢
      refine iteF ⟨_, rfl, rfl, own[k], lettersS, rfl, rfl, by rw [sl]; omega, rfl, _, rfl, ?_⟩
      rw [strV_eq, strip_low]
      exact q1
    · exact ⟨_, rfl, q' _ _ (Same.refl _) True.intro⟩
    have ey : decide (ys = []) = (own.map PyData.str).all isNameD := by
      rw [← all_count]
      refine decide_eq_decide.mpr ?_
      have := paired_len py
      rw [List.length_map] at this ⊢
      rw [this]
      exact ⟨fun e => by rw [e]; rfl, fun e => List.eq_nil_of_length_eq_zero e⟩
    refine ⟨Nat.zero_le _, fun N2 hN2 => ?_⟩
    have s3 := same_new (o := .lst []) hN2
    refine ⟨D, ys, N2, rfl, rfl, .inl (.inl (s3 _ _ hys)), .inl (.inl upd_same), ?_⟩
    show Q (.bl (decide (ys = []))) _
    rw [ey]
    exact q _ (s2.trans s3)
end
end Fc
namespace Fc
open PySem PySem.Spec L2 PyProof.Rows
/-- a row of three values of any kind -/
structure LRow (K : PySem.W.Frag) (w : World) (ok : Addr → Prop) (H : Hp) (r : Addr) (d1 d2 d3 : PyData) : Prop where
  ex : ∃ v1 v2 v3, H r = some (.lst [v1, v2, v3]) ∧ Dz K w ok H v1 d1 ∧ Dz K w ok H v2 d2 ∧ Dz K w ok H v3 d3
  sm : smD d1 = true ∧ smD d2 = true ∧ smD d3 = true
  ln : (partsL d1).length ≤ 60 ∧ (partsL d2).length ≤ 60 ∧ (partsL d3).length ≤ 60
  li : ∀ d ∈ partsL d1, (partsL d).length ≤ 1000
theorem LRow.mono {K : PySem.W.Frag} {w : World} {ok : Addr → Prop} {H H' : Hp} {r : Addr} {d1 d2 d3 : PyData} (h : LRow K w ok H r d1 d2 d3) (s : Same H H') : LRow K w ok H' r d1 d2 d3 := by
  obtain ⟨⟨v1, v2, v3, h0, z1, z2, z3⟩, b, c, d⟩ := h
  exact ⟨⟨v1, v2, v3, s _ _ h0, dz_mono (Keep.same s) _ _ z1, dz_mono (Keep.same s) _ _ z2, dz_mono (Keep.same s) _ _ z3⟩, b, c, d⟩
theorem dz_ref {K : PySem.W.Frag} {w : World} {ok : Addr → Prop} {H : Hp} {v : V} {l : List PyData} (h : Dz K w ok H v (.tuple l)) : ∃ t, v = .ref t := by
  cases h with
  | tup _ _ => exact ⟨_, rfl⟩
theorem LRow.row {K : PySem.W.Frag} {w : World} {ok : Addr → Prop} {H : Hp} {r : Addr} {d1 d2 d3 : PyData} (h : LRow K w ok H r d1 d2 d3) (f : formD d1 d2 d3 = true) : RowAt K H r (paD d1 d2 d3) := by
  obtain ⟨⟨v1, v2, v3, h0, z1, z2, z3⟩, b, c, d⟩ := h
  obtain ⟨e1, e2, e3, nm⟩ := form_eq f
  have a1 : Dz K w ok H v1 (dA (paD d1 d2 d3).arrays) := by rw [← e1]; exact z1
  have a2 : Dz K w ok H v2 (dS (paD d1 d2 d3).pos) := by rw [← e2]; exact z2
  have a3 : Dz K w ok H v3 (dS (paD d1 d2 d3).vals) := by rw [← e3]; exact z3
  obtain ⟨tA, rfl⟩ := dz_ref a1
  obtain ⟨tP, rfl⟩ := dz_ref a2
  obtain ⟨tV, rfl⟩ := dz_ref a3
  exact ⟨⟨tA, tP, tV, h0, dz_dp _ _ (tupD_dA _) a1, dz_dp _ _ (tupD_dS _) a2, dz_dp _ _ (tupD_dS _) a3⟩,
    ⟨by show (List.map _ _).length ≤ 60; rw [List.length_map]; exact c.1, by show (List.map _ _).length ≤ 60; rw [List.length_map]; exact c.2.1, by show (List.map _ _).length ≤ 60; rw [List.length_map]; exact c.2.2, fun x hx => ⟨nm x hx, name_le (nm x hx)⟩⟩⟩
def okItem (d : PyData) : Bool := areN d && decide ((partsL d).length = 2)
theorem okItem_eq (d : PyData) : okItem d = (pairD d && (partsL d).all isNameD) := by
  unfold okItem
  cases d with
  | tuple l =>
    show (l.all isNameD && decide (l.length = 2)) = (pairD (.tuple l) && l.all isNameD)
    match l with
    | [] => rfl
    | [_] => simp [pairD]
    | [_, _] => simp [pairD]
    | _ :: _ :: _ :: _ => simp [pairD]
  | _ => rfl
theorem form_law (d1 d2 d3 : PyData) : formD d1 d2 d3 = ((isTy d1 "tuple" && (partsL d1).all okItem) && (areN d2 && areN d3)) := by
  have eI : ∀ l : List PyData, l.all okItem = (l.all pairD && (l.flatMap partsL).all isNameD) := fun l => by
    induction l with
    | nil => rfl
    | cons d l ih =>
      rw [List.all_cons, List.all_cons, List.flatMap_cons, List.all_append, ih, okItem_eq]
      cases pairD d <;> cases (partsL d).all isNameD <;> cases l.all pairD <;> rfl
  have eA : ∀ d, areN d = (isTy d "tuple" && (partsL d).all isNameD) := fun d => by cases d <;> rfl
  have e1 : pairsD d1 = (isTy d1 "tuple" && (partsL d1).all pairD) := by cases d1 <;> rfl
  unfold formD wordsD
  rw [eI, eA, eA, e1, List.all_append, List.all_append]
  cases isTy d1 "tuple" <;> cases (partsL d1).all pairD <;> cases ((partsL d1).flatMap partsL).all isNameD <;> cases isTy d2 "tuple" <;> cases isTy d3 "tuple" <;> cases (partsL d2).all isNameD <;> cases (partsL d3).all isNameD <;> rfl
theorem okB_eq (P : Pa) : okB P = (decide ((namesL P).Nodup) && (decide (P.arrays.length < 13) && (decide (P.pos.length < 9) && decide (P.vals.length < 7)))) := by
  obtain ⟨as, ps, vs⟩ := P
  show (decide (as.length ≤ 12) && (decide (ps.length ≤ 8) && (decide (vs.length ≤ 6) && decide ((namesL ⟨as, ps, vs⟩).Nodup)))) = _
  rw [show decide (as.length < 13) = decide (as.length ≤ 12) from decide_eq_decide.mpr (by omega), show decide (ps.length < 9) = decide (ps.length ≤ 8) from decide_eq_decide.mpr (by omega), show decide (vs.length < 7) = decide (vs.length ≤ 6) from decide_eq_decide.mpr (by omega)]
  cases decide ((namesL ⟨as, ps, vs⟩).Nodup) <;> cases decide (as.length ≤ 12) <;> cases decide (ps.length ≤ 8) <;> cases decide (vs.length ≤ 6) <;> rfl
def spAreP (K : PySem.W.Frag) (w : World) : Sp := fun vs H Q _ => ∃ ok r d1 d2 d3, vs = [.ref r] ∧ LRow K w ok H r d1 d2 d3 ∧ ∀ H', Same H H' → Q (.bl (frameD d1 d2 d3)) H'
section
variable {K : PySem.W.Frag} {mg : Str → Option Value} {base : Heap} {P : Program} {w : World}
abbrev rLenQ (K : PySem.W.Frag) : List V → Hp → VK → Prop := fun xs H Q => ∃ p ys, xs = [V.ref p] ∧ (SqL K H p ys ∨ SqT K H p ys) ∧ Q (V.int (ys.length : Nat)) H
abbrev nj42 : List Str := ["_law_parts_here", "_law_arrays", "_law_positions", "_law_values", "_law_names", "_law_one"]
theorem sp42 : FnScope nj42 ["_law_parts_here"] (defScope (topK 42)) := ⟨rfl, rfl, rfl, by decide +kernel, rfl, by decide +kernel, by decide +kernel⟩
theorem op42 {f : Addr} {fd : FuncData} (F : Fun K "_law_are_parts" "_law_are_parts" (topK 42) f fd) (B : Blt mg) (c41 : Cal P w K mg base 1 "_law_are_names" (spAreN K w)) (c40 : Cal P w K mg base 2 "_law_all_of" (spLawAll K)) : FnOk P w K mg base CX0 3 f fd ["_law_parts_here"] (spAreP K w) := by
  refine F.ok sp42 (fun vs H Q E h => ?_) (fun cdv A outer s H vs Q E hr h => ?_)
  · obtain ⟨ok, r, d1, d2, d3, rfl, _⟩ := h
    rfl
  · have hu := hu70 hr
    refine ⟨_, (pss_cons (ps_asg (pv 0) (pg_lst rfl (pgs_cons (pg_name (i := 1) sp42.nd rfl (Or.inl rfl)) (pgs_cons (pg_name (i := 2) sp42.nd rfl (Or.inl rfl)) (pgs_cons (pg_name (i := 3) sp42.nd rfl (Or.inl rfl)) pgs_nil))))) (pss_cons (ps_if (pw_or (pt_not (pt_val (pe_callB call_isiZ (by rfl) B.isinstance boot_isinstance (pa_cons (pv 1) (pa_cons (pe_bltn (v := .ty "tuple") (by rfl) B.tuple boot_tuple rfl) pa_nil))))) (pw_or1 (pt_cmpR (op_neNil (hu64 hu)) (pe_lc (own := [("_law_one", 5)]) (g := gName 5) (by rfl) sp42.nd (pi_tup (pv 1)) (blkOk_by (N := nj42) (sc := defScope (topK 42)) (by decide +kernel)) (fun _ _ _ _ _ => (pg_name (i := 5) sp42.nd rfl (Or.inl rfl))) (fun _ _ _ _ _ => pts_one (PW.pt (pw_or (pt_not (pt_val (pe_c c41 hr (by decide) (by rfl) (pa_cons (pv 5) pa_nil)))) (pw_or1 (pt_cmpR op_ne (pe_callB (r := rLenQ K) call_len_seq (by rfl) B.len boot_len (pa_cons (pv 5) pa_nil)) pe_int (nomark _)))))) (fun _ _ _ _ _ => (pv 5))) (pe_lst pa_nil) (nomark _)))).pt (pss_one (ps_ret pe_bl)) pss_nil) (pss_cons (ps_if (pw_or (pt_not (pt_val (pe_c c41 hr (by decide) (by rfl) (pa_cons (pv 2) pa_nil)))) (pw_or1 (pt_not (pt_val (pe_c c41 hr (by decide) (by rfl) (pa_cons (pv 3) pa_nil)))))).pt (pss_one (ps_ret pe_bl)) pss_nil) (pss_cons (ps_set (i := 4) sp42.nd rfl (Or.inl rfl) (pe_c c40 hr (by decide) (by rfl) (pa_cons (pv 0) pa_nil))) (pss_one (ps_ret (pe_and (pe_cmpR op_eq (pe_callB call_lenS (by rfl) B.len boot_len (pa_cons (pe_callTy (call_setT rfl) (by rfl) B.set boot_set (pa_cons (pv 4) pa_nil)) pa_nil)) (pe_callB call_len_seq (by rfl) B.len boot_len (pa_cons (pv 4) pa_nil)) (nomark _)) (pe_and (pe_cmpR op_lt (pe_callB call_len_seq (by rfl) B.len boot_len (pa_cons (pv 1) pa_nil)) pe_int (nomark _)) (pe_and (pe_cmpR op_lt (pe_callB call_len_seq (by rfl) B.len boot_len (pa_cons (pv 2) pa_nil)) pe_int (nomark _)) (pe_one (pe_cmpR op_lt (pe_callB call_len_seq (by rfl) B.len boot_len (pa_cons (pv 3) pa_nil)) pe_int (nomark _)))))))))))), ?_⟩
    obtain ⟨ok, r, d1, d2, d3, rfl, row, q⟩ := h
    have sl : sizeLine = 16777216 := sizeLine_eq
    obtain ⟨⟨v1, v2, v3, h0, z1, z2, z3⟩, ⟨m1, m2, m3⟩, ⟨l1, l2, l3⟩, li⟩ := id row
    refine ⟨_, rfl, r, _, rfl, .inl (.inl h0), rfl, _, _, rfl, _, _, rfl, _, _, rfl, rfl, ?_⟩
    refine ⟨_, rfl, ok, v1, d1, _, rfl, z1, .inr (.inr (.inr (.inl rfl))), _, rfl, ?_⟩
    have fl := form_law d1 d2 d3
    have q0 : ∀ H', Same H H' → formD d1 d2 d3 = false → Q (.bl false) H' := fun H' s' e => by
      have := q H' s'
      unfold frameD at this
      rw [e] at this
      exact this
    by_cases ht : isTy d1 "tuple" = true
    case neg =>
      rw [Bool.eq_false_iff.mpr ht] at fl ⊢
      exact iteT (q0 _ (Same.refl _) fl)
    rw [ht] at fl ⊢
    obtain ⟨b, xs, ds, rfl, rfl, sa, da⟩ := dz_tup z1 ht
    have le := dzs_len da
    replace l1 : ds.length ≤ 60 := l1
    refine iteF ⟨_, rfl, b, rfl, ⟨_, sa⟩, fun D hD => ?_⟩
    refine lc_gen2 (K := K) (fun k => !okItem (ds.getD k .none)) (fun _ _ _ => True) (steady_tup (K := K) (a := b) (xs := xs)) (fun _ _ _ _ _ h => h) (fun H3 s3 => Tups.same s3 _ _ sa) (show 5 < 6 by decide) (by omega) hD (fun k H3 Q' hk s3 q' => ?_) (fun k H3 Q' hk _ s3 q' => ?_) fun H2 ys s2 hys py => ?_
    · have hk2 : k < ds.length := by omega
      have dk := dz_same s3 _ _ (dz_at da hk2)
      have ed : ds.getD k .none = ds[k] := by rw [List.getD_eq_getElem?_getD, List.getElem?_eq_getElem hk2]; rfl
      have smk : smD (ds.getD k .none) = true := by rw [ed]; exact (smDs_iff ds).mp m1 _ (List.getElem_mem hk2)
      have lik : (partsL (ds.getD k .none)).length ≤ 1000 := by rw [ed]; exact li _ (List.getElem_mem hk2)
      refine ⟨_, rfl, ok, _, _, rfl, dk, smk, lik, fun H4 s4 => ⟨_, rfl, ?_⟩⟩
      generalize ds.getD k .none = d at *
      have q1 := q' _ s4
      unfold okItem at q1
      cases ea : areN d with
      | false =>
        rw [ea] at q1
        exact iteT q1
      | true =>
        rw [ea] at q1
        have dt : isTy d "tuple" = true := by cases d <;> first | rfl | exact nomatch ea
        obtain ⟨u, zs, es, eu, rfl, su, du⟩ := dz_tup dk dt
        rw [eu]
        refine iteF ⟨_, rfl, u, zs, rfl, .inr (Tups.same s4 _ _ su), rfl, _, rfl, ?_⟩
        have e2 : decide (V.int (zs.length : Int) = V.int 2) = decide ((partsL (.tuple es)).length = 2) := decide_eq_decide.mpr ⟨fun e => by have e3 := V.int.inj e; have := dzs_len du; show es.length = 2; omega, fun e => by have := dzs_len du; have e3 : es.length = 2 := e; rw [this, e3]; rfl⟩
        rw [e2]
        exact q1
    · exact ⟨_, rfl, q' _ _ (Same.refl _) True.intro⟩
    have ey : decide (ys = []) = ds.all okItem := by
      rw [← all_count]
      refine decide_eq_decide.mpr ?_
      have := paired_len py
      rw [le] at this
      rw [this]
      exact ⟨fun e => by rw [e]; rfl, fun e => List.eq_nil_of_length_eq_zero e⟩
    refine ⟨Nat.zero_le _, fun N hN => ?_⟩
    have s3 := same_new (o := .lst []) hN
    refine ⟨D, ys, N, rfl, rfl, .inl (.inl (s3 _ _ hys)), .inl (.inl upd_same), _, rfl, ?_⟩
    rw [ey]
    have s13 := s2.trans s3
    replace fl : formD (.tuple ds) d2 d3 = (ds.all okItem && (areN d2 && areN d3)) := fl
    cases es : ds.all okItem with
    | false =>
      rw [es] at fl
      exact iteT (q0 _ s13 fl)
    | true =>
    rw [es] at fl
    refine iteF ⟨_, rfl, ok, v2, d2, rfl, dz_same s13 _ _ z2, m2, by omega, fun H4 s4 => ⟨_, rfl, ?_⟩⟩
    have s14 := s13.trans s4
    cases e2 : areN d2 with
    | false =>
      rw [e2] at fl
      exact iteT (q0 _ s14 fl)
    | true =>
    rw [e2] at fl
    refine iteF ⟨_, rfl, ok, v3, d3, rfl, dz_same s14 _ _ z3, m3, by omega, fun H5 s5 => ⟨_, rfl, ?_⟩⟩
    have s15 := s14.trans s5
    cases e3 : areN d3 with
    | false =>
      rw [e3] at fl
      exact iteT (q0 _ s15 fl)
    | true =>
    rw [e3] at fl
    replace fl : formD (.tuple ds) d2 d3 = true := fl
    have r5 := (row.mono s15).row fl
    have nm := r5.nm
    refine iteF ⟨_, rfl, r, _, rfl, r5, fun H6 p6 s6 e6 u6 => ?_⟩
    refine gn_i ?_
    have s16 := s15.trans s6
    have nl : (namesL (paD (.tuple ds) d2 d3)).length ≤ 300 := by
      have a1 := nm.na
      have a2 := nm.np
      have a3 := nm.nv
      have a4 := lensOf_len (paD (.tuple ds) d2 d3).arrays
      unfold namesL
      simp only [List.length_append, List.length_map]
      omega
    have fe : frameD (.tuple ds) d2 d3 = okB (paD (.tuple ds) d2 d3) := by unfold frameD; rw [fl]; rfl
    rw [fe, okB_eq] at q
    have d2t : isTy d2 "tuple" = true := by cases d2 <;> first | rfl | exact nomatch e2
    have d3t : isTy d3 "tuple" = true := by cases d3 <;> first | rfl | exact nomatch e3
    obtain ⟨tP, yp, ep, rfl, rfl, sp, dp⟩ := dz_tup z2 d2t
    obtain ⟨tV, yv, ev, rfl, rfl, sv, dv⟩ := dz_tup z3 d3t
    have lp := dzs_len dp
    have lv := dzs_len dv
    refine ⟨_, rfl, p6, _, rfl, .inl (.inl e6), by unfold scanBound; omega, fun p7 h7 => ⟨p7, _, rfl, upd_same, _, rfl, p6, _, rfl, .inl (.inl (.inl (same_new h7 _ _ e6))), rfl, ?_⟩⟩
    have s7 := s16.trans (same_new (o := SetT P w p7 (onceS (namesL (paD (.tuple ds) (.tuple ep) (.tuple ev))))) h7)
    have q1 := q _ s7
    rw [List.length_map, once_count2 _ _ rfl]
    have n1 : (paD (.tuple ds) (.tuple ep) (.tuple ev)).arrays.length = xs.length := by show (List.map _ ds).length = _; rw [List.length_map, le]
    have n2 : (paD (.tuple ds) (.tuple ep) (.tuple ev)).pos.length = yp.length := by show (List.map _ ep).length = _; rw [List.length_map, lp]
    have n3 : (paD (.tuple ds) (.tuple ep) (.tuple ev)).vals.length = yv.length := by show (List.map _ ev).length = _; rw [List.length_map, lv]
    rw [n1, n2, n3] at q1
    have ci : ∀ (a : Nat) (b : Nat), decide ((a : Int) < (b : Int)) = decide (a < b) := fun a b => decide_eq_decide.mpr (by omega)
    refine ⟨_, rfl, ?_⟩
    cases e1 : decide ((namesL (paD (.tuple ds) (.tuple ep) (.tuple ev))).Nodup) with
    | false =>
      rw [e1] at q1
      exact iteF q1
    | true =>
    rw [e1] at q1
    refine iteT ⟨_, rfl, b, xs, rfl, .inr (Tups.same s7 _ _ sa), _, _, rfl, rfl, _, rfl, ?_⟩
    rw [show decide ((xs.length : Int) < 13) = decide (xs.length < 13) from ci _ 13]
    cases c1 : decide (xs.length < 13) with
    | false =>
      rw [c1] at q1
      exact iteF q1
    | true =>
    rw [c1] at q1
    refine iteT ⟨_, rfl, tP, yp, rfl, .inr (Tups.same s7 _ _ sp), _, _, rfl, rfl, _, rfl, ?_⟩
    rw [show decide ((yp.length : Int) < 9) = decide (yp.length < 9) from ci _ 9]
    cases c2 : decide (yp.length < 9) with
    | false =>
      rw [c2] at q1
      exact iteF q1
    | true =>
    rw [c2] at q1
    refine iteT ⟨_, rfl, tV, yv, rfl, .inr (Tups.same s7 _ _ sv), _, _, rfl, rfl, ?_⟩
    show Q (.bl (decide ((yv.length : Int) < 7))) _
    rw [show decide ((yv.length : Int) < 7) = decide (yv.length < 7) from ci _ 7]
    exact q1
end
end Fc
namespace Fc
open PySem PySem.Spec L2 PyProof.Rows
/-- Frame(..) over data of any kind -/
structure MkZ (P : Program) (w : World) (K : PySem.W.Frag) (mg : Str → Option Value) (base : Heap) (C Cf : Addr) : Prop where
  at_ : ∃ (f : Addr) (fd : FuncData), Mk K C f ∧ FnOk P w K mg base (L2.CX P w) 3 f fd ["self", "arrays", "positions", "values"] (spMakeZ K w C Cf) ∧ Binds K fd ["self", "arrays", "positions", "values"] [] ∧ mg "Frame" = some (.ref C)
theorem pe_mkZ {X : Cx} {C Cf : Addr} {E : XK} {j : Nat} {p pos : Pos} {e : Expr} {es : List Expr} {t : TA} (M : MkZ X.prog X.w X.K X.mg X.base C Cf) (hr : Room j X.A) (hj : 4 ≤ j) (hg : Gl X "Frame") (hx : Passes (L2.CX X.prog X.w) X E) (ha : PA X (e :: es) t)
    (he : starEach (e :: es) X.env = (false, eval e X.env) :: starEach es X.env := by rfl) (hpl : (backTo pos (starEach es X.env)).any (·.1) = false := by rfl) : PE X (.Call (.Name "Frame" p) (e :: es) [] pos) (tMake C (spMakeZ X.K X.w C Cf) [] E t) := by
  obtain ⟨f, fd, mk, F, b, hm⟩ := M.at_
  exact pe_make (p := p) (pos := pos) (E := E) mk F (hr.mono hj) hg hm b .nil hx ha (by decide) he hpl
theorem mkZ_i {K : PySem.W.Frag} {w : World} {ok : Addr → Prop} {C Cf : Addr} {H1 : Hp} {Q : V → Hp → Prop} {E : XK} {v1 v2 v3 : V} {d1 d2 d3 : PyData} (z1 : Dz K w ok H1 v1 d1) (z2 : Dz K w ok H1 v2 d2) (z3 : Dz K w ok H1 v3 d3) (sm : smD d1 = true ∧ smD d2 = true ∧ smD d3 = true)
    (ln : (partsL d1).length ≤ 60 ∧ (partsL d2).length ≤ 60 ∧ (partsL d3).length ≤ 60) (q1 : frameD d1 d2 d3 = false → ∀ H', Same H1 H' → E (.ref Cf) none H')
    (q2 : frameD d1 d2 d3 = true → ∀ H' p, Same H1 H' → H1 p = none → FrB K C H' p (paD d1 d2 d3) → Q (.ref p) H') : ∀ x dx, H1 x = none → H1 dx = none → dx ≠ x →
      spMakeZ K w C Cf (.ref x :: ([v1, v2, v3] ++ [])) (upd (upd H1 dx (.own x)) x (.ins C dx [])) (fun v H2 => v = .non ∧ Q (.ref x) H2) E := fun x dx nx nd ne => by
  have s1 : Same H1 (upd (upd H1 dx (.own x)) x (.ins C dx [])) := fun b o e => by rw [upd_ne (ne_of_none e nx), upd_ne (ne_of_none e nd)]; exact e
  refine ⟨ok, x, dx, v1, v2, v3, d1, d2, d3, rfl, upd_same, dz_mono (Keep.same s1) _ _ z1, dz_mono (Keep.same s1) _ _ z2, dz_mono (Keep.same s1) _ _ z3, sm.1, sm.2.1, sm.2.2, ln.1, ln.2.1, ln.2.2, fun e H' s => q1 e H' (s1.trans s), fun e H' b fr => ⟨rfl, q2 e H' x (fun c o ec => b c o (ne_of_none ec nx) (s1 c o ec)) nx fr⟩⟩
def spMet (K : PySem.W.Frag) (w : World) (C : Addr) : Sp := fun vs H Q _ => ∃ ok r d1 d2 d3, vs = [.ref r] ∧ LRow K w ok H r d1 d2 d3 ∧ (frameD d1 d2 d3 = false → ∀ H', Same H H' → Q .non H') ∧ (frameD d1 d2 d3 = true → ∀ H' p, Same H H' → H p = none → FrB K C H' p (paD d1 d2 d3) → Q (.ref p) H')
section
variable {K : PySem.W.Frag} {mg : Str → Option Value} {base : Heap} {P : Program} {w : World}
abbrev nj43 : List Str := ["_law_parts_here"]
theorem sp43 : FnScope nj43 ["_law_parts_here"] (defScope (topK 43)) := ⟨rfl, rfl, rfl, by decide +kernel, rfl, by decide +kernel, by decide +kernel⟩
theorem op43 {f C Cf : Addr} {fd : FuncData} (F : Fun K "_law_met" "_law_met" (topK 43) f fd) (O : OwnX K mg "InvalidFrame" Cf) (M : MkZ P w K mg base C Cf) : FnOk P w K mg base CX0 5 f fd ["_law_parts_here"] (spMet K w C) := by
  refine F.ok sp43 (fun vs H Q E h => ?_) (fun cdv A outer s H vs Q E hr h => ?_)
  · obtain ⟨ok, r, d1, d2, d3, rfl, _⟩ := h
    rfl
  · refine ⟨_, pss_one (ps_try_only (tb := fun W => tRet (tMake C (spMakeZ K w C Cf) [] (fun cls d H => ∀ σ, W cls d σ H) (tCons (tOp (rIxL K) (tVar 0) (tC (.int 0))) (tCons (tOp (rIxL K) (tVar 0) (tC (.int 1))) (tCons (tOp (rIxL K) (tVar 0) (tC (.int 2))) tNil))))) (ts := fun _ _ _ => tRet (tC .non)) (Wout := fun _ _ _ _ => False) rfl rfl ⟨rfl, by decide, Or.inl O.g⟩ takes0
      (fun W pn xe tk _ => pss_one (ps_ret (pe_mkZ M hr (by decide) (by rfl) (passes_call tk fun _ _ σ _ h => h σ) (pa_cons (pe_ix ix_list (pv 0) pe_int (fun _ _ => rfl)) (pa_cons (pe_ix ix_list (pv 0) pe_int (fun _ _ => rfl)) (pa_cons (pe_ix ix_list (pv 0) pe_int (fun _ _ => rfl)) pa_nil))))))
      (fun _ _ _ _ _ _ _ => pss_one (ps_ret pe_non))), ?_⟩
    obtain ⟨ok, r, d1, d2, d3, rfl, row, q1, q2⟩ := h
    obtain ⟨⟨v1, v2, v3, h0, z1, z2, z3⟩, sm, ln, li⟩ := id row
    refine ⟨_, rfl, r, _, 0, v1, rfl, rfl, .inl (.inl h0), rfl, _, rfl, r, _, 1, v2, rfl, rfl, .inl (.inl h0), rfl, _, rfl, r, _, 2, v3, rfl, rfl, .inl (.inl h0), rfl, ?_⟩
    refine mkZ_i z1 z2 z3 sm ln (fun e H' s' σ => ?_) (fun e H' p s' np fr => q2 e H' p s' np fr)
    exact ⟨true, O.e, fun _ a ha => q1 e H' s', fun z => nomatch z⟩
end
end Fc
namespace Fc
open PySem PySem.Spec L2 PyProof.Rows PySem.W
section
variable {prog : Program} {w : World} {A : Around} {E : Value → Shared → Prop} {s : Shared}
theorem dict_eq_declines_str (l : Addr) (o : Obj) (b : Str) (u : Tok) (hc : o.cls = .type "dict") :
    Meets (Builtin.«dict.__eq__» ⟨[.ref l, .str b u], []⟩) (fun _ R s => s.heap.get? l = some o ∧ R (.ok (.ret .notImplemented)) s) :=
  .of_wp fun prog w A R s h => by
    obtain ⟨hl, h⟩ := h
    have ty : s.TypeIs (.ref l) "dict" := ⟨o, hl, hc⟩
    show wpAny _ _ (Builtin.Dict.dictSlotArgs "__eq__" ⟨[.ref l, .str b u], []⟩ >>= _) _ _ s
    refine wpAny_bind ?_
    unfold Builtin.Dict.dictSlotArgs
    refine wpAny_bind (wpAny_notOrdered_dict ty ?_)
    show wpAny _ _ (pure (Value.ref l, Value.str b u)) _ _ s
    refine wpAny_pure ?_
    refine wpAny_bind (wpAny_isInstance (T := "str") (typeIs_str s b u) PySem.F.sub_str_dict ?_)
    simp only [Bool.not_false, if_true]
    refine wpAny_bind (wpAny_rule ?_)
    exact wpAny_pure ⟨_, rfl, h⟩
theorem str_eq_declines_dict (l : Addr) (o : Obj) (b : Str) (u : Tok) (hc : o.cls = .type "dict") (es : Array DictEntry) (ep : Nat) (hd : o.data = .dict es ep) :
    Meets (Builtin.«str.__eq__» ⟨[.str b u, .ref l], []⟩) (fun _ R s => s.heap.get? l = some o ∧ R (.ok (.ret .notImplemented)) s) :=
  .of_wp fun prog w A R s h => by
    obtain ⟨c, dd, data, sl⟩ := o
    simp only at hc hd
    subst hc hd
    obtain ⟨hp, g, d, tk, os⟩ := s
    obtain ⟨hl, h⟩ := h
    wp_walk using wpAny_loadPart' hl, wpAny_load hl
    exact ⟨_, rfl, h⟩
theorem rceq_str_dict {l : Addr} {o : Obj} {es : Array DictEntry} {ep : Nat} (b : Str) (u : Tok) (ho : s.heap.get? l = some o) (hc : o.cls = .type "dict") (hd : o.data = .dict es ep) (hu : A.units < cLine) : SeqAt.RcAt A s (.str b u) (.ref l) false := fun prog w E Q h => by
  exact SeqAt.rc_eq_decline_or (k := false) (typeIs_str s b u) ⟨_, ho, hc⟩ (by decide) PySem.F.sub_dict_str PySem.F.slot_str_eq PySem.F.slot_dict_eq_refl
    (fun _ hq => call_meets PySem.F.slot_str_eq (typeIs_str s b u) PySem.F.entry_str_eq (PySem.F.args_str_eq_2 _ _) (str_eq_declines_dict l o b u hc es ep hd) ⟨ho, hq⟩)
    (fun _ hq => call_meets PySem.F.slot_dict_eq_refl ⟨_, ho, hc⟩ PySem.F.entry_dict_eq (PySem.F.args_dict_eq_2 _ _) (dict_eq_declines_str l o b u hc) ⟨ho, hq⟩)
    (fun _ hq => wpAny_of_eq (rfl : isSame (.str b u) (.ref l) = pure false) hq) (.inr hu) h
theorem eqat_str_dict {l : Addr} {o : Obj} {es : Array DictEntry} {ep : Nat} (b : Str) (u : Tok) (ho : s.heap.get? l = some o) (hc : o.cls = .type "dict") (hd : o.data = .dict es ep) (hu : A.units < cLine) : SeqAt.EqAt A s (.str b u) (.ref l) false := fun prog w E Q h => by
  unfold eqBool
  refine wpAny_holding ?_
  refine wpAny_ite_split (fun hab => absurd (eq_of_beq hab) nofun) (fun _ => ?_)
  exact wpAny_bind (rceq_str_dict b u ho hc hd hu prog w E _ (wpAny_truthy_bool h))
end
/-! whether it is one of some texts -/
def oneOfD (ts : List Str) (d : PyData) : Bool := match d with | .str x => decide (x ∈ ts) | _ => false
section
variable {X : Cx}
def rInZT (K : PySem.W.Frag) (w : World) : R2 := fun x y H Q => ∃ ok d a ts, Dz K w ok H x d ∧ y = .ref a ∧ SqT K H a (List.map V.str ts) ∧ Q (.bl (oneOfD ts d)) H
theorem any_strsJ {ts : List Str} {us : List Value} (r : Vals (ts.map V.str) us) (f : Str → Bool) (e : Value → Bool) (he : ∀ t k, e (.str t k) = f t) : us.any e = ts.any f := by
  induction ts generalizing us with
  | nil => cases r; rfl
  | cons t ts ih =>
    cases r with
    | cons a b =>
      obtain ⟨k, rfl⟩ := a
      rw [List.any_cons, List.any_cons, he, ih b]
theorem op_inZT (hu : X.A.units + 64 < cLine) : OpR X (compareOp .In) (rInZT X.K X.w) := by
  intro pins s σ H x y v u Q I rx ry h
  obtain ⟨ok, d, a, ts, hd, rfl, ha, q⟩ := h
  cases (show u = Value.ref a from ry)
  obtain ⟨its, rv, il, _⟩ := I.tuple ha
  have hin : X.A.in1.units < cLine := by
    show X.A.units + 1 < cLine
    omega
  have items : ∀ z ∈ its, ∃ t k, z = Value.str t k := fun z hz => by
    have g : ∀ (ts : List Str) (us : List Value), Vals (ts.map V.str) us → ∀ z ∈ us, ∃ t k, z = Value.str t k := fun ts => by
      induction ts with
      | nil => intro us r z hz; cases r; cases hz
      | cons t ts ih =>
        intro us r z hz
        cases r with
        | cons a b =>
          obtain ⟨k, rfl⟩ := a
          rcases List.mem_cons.mp hz with rfl | hz
          · exact ⟨t, k, rfl⟩
          · exact ih _ b z hz
    exact g ts its rv z hz
  have fin : ∀ (e : Value → Bool) (f : Str → Bool), (∀ t k, e (.str t k) = f t) → (∀ t k, SeqAt.EqAt X.A.in1 s (.str t k) v (f t)) → ts.any f = oneOfD ts d → wpAny (model X.prog X.w) X.A (compareOp .In v (.ref a)) (EP X pins σ Q) X.xe s := fun e f he hf hts => by
    refine SeqAt.in_tupleAt e il (fun z hz => ?_) ?_
    · obtain ⟨t, k, rfl⟩ := items z (by simpa using hz)
      rw [he]
      exact hf t k
    · have e1 : its.toArray.any e = oneOfD ts d := by
        rw [← hts, ← any_strsJ rv f e he]
        simp
      rw [e1]
      exact ⟨.bl _, H, I, rfl, q⟩
  have no : (∀ t k, SeqAt.EqAt X.A.in1 s (.str t k) v false) → oneOfD ts d = false → wpAny (model X.prog X.w) X.A (compareOp .In v (.ref a)) (EP X pins σ Q) X.xe s := fun hf e0 => fin (fun _ => false) (fun _ => false) (fun _ _ => rfl) hf (by rw [e0]; simp)
  cases hd with
  | non => cases (show v = Value.none from rx); exact no (fun t k => SeqAt.EqAt.str_none t k) rfl
  | bl b => cases (show v = Value.bool b from rx); exact no (fun t k => SeqAt.EqAt.str_bool t k b) rfl
  | int i => obtain ⟨k2, rfl⟩ := rx; exact no (fun t k => SeqAt.EqAt.str_int t k i k2) rfl
  | str y =>
    obtain ⟨k2, rfl⟩ := rx
    refine fin (fun z => match z with | .str t _ => t == y | _ => false) (fun t => t == y) (fun _ _ => rfl) (fun t k => SeqAt.EqAt.str_str t k y k2) ?_
    show ts.any (fun t => t == y) = decide (y ∈ ts)
    rw [Bool.eq_iff_iff, List.any_eq_true, decide_eq_true_iff]
    exact ⟨fun ⟨z, hz, e⟩ => (eq_of_beq e) ▸ hz, fun h => ⟨y, h, beq_self_eq_true y⟩⟩
  | lst e o a2 =>
    cases (show v = Value.ref _ from rx)
    obtain ⟨its2, rv2, il2, _⟩ := I.list (.inl (.inl e))
    exact no (fun t k => SeqAt.EqAt.str_list t k il2.isList hin) rfl
  | tup e a2 =>
    cases (show v = Value.ref _ from rx)
    obtain ⟨its2, rv2, il2, _⟩ := I.tuple e
    exact no (fun t k => SeqAt.EqAt.str_tuple t k il2 hin) rfl
  | dct e =>
    cases (show v = Value.ref _ from rx)
    obtain ⟨_, _, o, _, _, ho, hc, hd, _⟩ := (TabAt.mk (K := X.K) (.inl e) (fun x hx => by cases hx)).get I
    exact no (fun t k => eqat_str_dict t k ho hc.1 hd hin) rfl
/-- x in y by the own __contains__, x of any kind -/
def rInOZ (w : World) (C : Addr) (sp : Sp) : R2 := fun x y H Q => ∃ b dx fs, y = .ref b ∧ H b = some (.ins C dx fs) ∧ sp [.ref b, x] H (fun v H' => ∃ c, v = .bl c ∧ Q (.bl c) H') E0
theorem op_inOZ {k : Nat} {C : Addr} {sp : Sp} (M : OwnM X.prog X.w X.K X.mg X.base k C "__contains__" sp) (hr : Room k X.A) : OpR X (compareOp .In) (rInOZ X.w C sp) := by
  intro pins s σ H x y v u Q I rx ry h
  obtain ⟨b, dx, fs, rfl, hb, hsp⟩ := h
  obtain ⟨f, fd, ps, F, hs, hf, hbd⟩ := M.at_
  cases ry
  obtain ⟨mB, J, _⟩ := ins_get I.hok hb
  obtain ⟨od, J, _⟩ := J.look
  obtain ⟨m, hF⟩ := I.fr
  change wpAny _ _ (do
    let r ← contains (.ref b) v
    pure (Value.bool r)) _ _ _
  refine wpAny_bind (PySem.W.contains_K hF I.ok.mod.kin J hs hf ?_)
  refine wpAny_mono (own_call (vs := [V.ref b, x]) F hbd hr rfl I (.cons rfl (.cons rx .nil)) hsp) (fun r s' q => ?_) fun _ _ e => e
  obtain ⟨z, H', I', rz, c, ez, q⟩ := q
  subst ez
  cases rz
  exact wpAny_truthy_bool (wpAny_pure ⟨.bl c, H', I', rfl, q⟩)
/-- x not in y by the own __contains__ -/
def rNotInOZ (w : World) (C : Addr) (sp : Sp) : R2 := fun x y H Q => ∃ b dx fs, y = .ref b ∧ H b = some (.ins C dx fs) ∧ sp [.ref b, x] H (fun v H' => ∃ c, v = .bl c ∧ Q (.bl (!c)) H') E0
theorem op_notInOZ {k : Nat} {C : Addr} {sp : Sp} (M : OwnM X.prog X.w X.K X.mg X.base k C "__contains__" sp) (hr : Room k X.A) : OpR X (compareOp .NotIn) (rNotInOZ X.w C sp) := by
  intro pins s σ H x y v u Q I rx ry h
  obtain ⟨b, dx, fs, rfl, hb, hsp⟩ := h
  obtain ⟨f, fd, ps, F, hs, hf, hbd⟩ := M.at_
  cases ry
  obtain ⟨mB, J, _⟩ := ins_get I.hok hb
  obtain ⟨od, J, _⟩ := J.look
  obtain ⟨m, hF⟩ := I.fr
  change wpAny _ _ (do
    let r ← contains (.ref b) v
    pure (Value.bool !r)) _ _ _
  refine wpAny_bind (PySem.W.contains_K hF I.ok.mod.kin J hs hf ?_)
  refine wpAny_mono (own_call (vs := [V.ref b, x]) F hbd hr rfl I (.cons rfl (.cons rx .nil)) hsp) (fun r s' q => ?_) fun _ _ e => e
  obtain ⟨z, H', I', rz, c, ez, q⟩ := q
  subst ez
  cases rz
  exact wpAny_truthy_bool (wpAny_pure ⟨.bl (!c), H', I', rfl, q⟩)
end
section
variable {X : Cx} {pins : List (Addr × Obj)} {σ : L2.St} {H : Hp} {s : Shared} {ok : Addr → Prop}
/-- it is read, and shown within others -/
def Shown (X : Cx) (s : Shared) (d : PyData) (u : Value) : Prop := (∃ as, Reads s.heap u d as) ∧ ∃ bs, ReadAtMost s.heap d.depth bs ∧ ReprK X.prog X.w bs s.heap d.depth u d.shown
def ShownA (X : Cx) (s : Shared) (ds : List PyData) (us : List Value) : Prop := (∃ as, ReadsAll s.heap us ds as) ∧ ∃ bs, ReadAtMost s.heap (PyData.depthAll ds) bs ∧ ReprAllK X.prog X.w bs s.heap (PyData.depthAll ds) us (PyData.shownAll ds)
theorem shown_leaf {d : PyData} {u : Value} {as : List Addr} (r : Reads s.heap u d as) (h : d.showable = true) (z : d.shown.length ≤ sizeLine) (n : sysModules ∉ as) : Shown X s d u := ⟨⟨_, r⟩, ReprK.of_reads r h (fun _ => n) z⟩
theorem shown_dct (I : Inv X pins σ H s) {a : Addr} (e : H a = some (MD X.w a [])) : Shown X s (.dict []) (.ref a) := by
  obtain ⟨⟨_, sm, _, o, es, ep, e, c, dt, ee⟩, _⟩ := I.hok a _ e
  have z : es = #[] := Array.eq_empty_of_size_eq_zero ee.1
  subst z
  refine shown_leaf (Reads.dict e c.1 dt .nil .nil) rfl (by rw [sizeLine_eq]; decide) fun h => ?_
  have : sysModules = a := by simpa using h
  rw [← this] at sm
  simp at sm
mutual
theorem dz_rk (I : Inv X pins σ H s) : ∀ (d : PyData) (v : V) (u : Value), Dz X.K X.w ok H v d → RelV v u → d.showable = true → d.shown.length ≤ sizeLine → Shown X s d u
  | .none, v, u, h, r, g, z => by
    cases h; cases (show u = Value.none from r); exact shown_leaf .none g z List.not_mem_nil
  | .bool b, v, u, h, r, g, z => by
    cases h; cases (show u = Value.bool b from r); exact shown_leaf (.bool b) g z List.not_mem_nil
  | .int i, v, u, h, r, g, z => by
    cases h; obtain ⟨t, rfl⟩ := (show ∃ t, u = Value.int i t from r); exact shown_leaf (.int i t) g z List.not_mem_nil
  | .str x, v, u, h, r, g, z => by
    cases h; obtain ⟨t, rfl⟩ := (show ∃ t, u = Value.str x t from r); exact shown_leaf (.str x t) g z List.not_mem_nil
  | .list ds, v, u, h, r, g, z => by
    cases h with
    | @lst a xs _ e o da =>
      cases (show u = Value.ref a from r)
      obtain ⟨its, rv, pl, _⟩ := I.list (a := a) (xs := xs) (.inl (.inl e))
      have z2 : (listText (PyData.shownAll ds)).length ≤ sizeLine := by simpa only [PyData.shown] using z
      obtain ⟨⟨as, ra⟩, bs, hb, hk⟩ := dzs_rk I ds xs its da rv (by simpa [PyData.showable] using g) fun t ht => Nat.le_trans (listText_mem_le ht) z2
      obtain ⟨ob, ho, hc, _, hd⟩ := pl.isList
      have rr : Reads s.heap (.ref a) (.list ds) _ := .list ho hc hd ra
      have dp : (PyData.list ds).depth = PyData.depthAll ds + 1 := by simp only [PyData.depth]
      have na : a ∉ bs := not_mem_of_deeper rr (by rw [dp]; exact Nat.lt_succ_self _) hb
      refine ⟨⟨_, rr⟩, a :: bs, ReadAtMost.cons rr (by rw [dp]; exact Nat.le_succ _) hb, ?_⟩
      rw [dp, show (PyData.list ds).shown = listText (PyData.shownAll ds) by simp only [PyData.shown]]
      cases its with
      | nil =>
        cases ra
        simp only [PyData.shownAll, listText_nil]
        exact ReprK.listEmpty ho hc hd
      | cons y l => exact ReprK.list ho hc hd na (by simpa using hk.length_eq) fun i y2 e2 => hk.item i y2 (by simpa using e2)
  | .tuple ds, v, u, h, r, g, z => by
    cases h with
    | @tup a xs _ sq da =>
      cases (show u = Value.ref a from r)
      obtain ⟨its, rv, pl, _⟩ := I.tuple (a := a) (xs := xs) sq
      have z2 : (tupleText (PyData.shownAll ds)).length ≤ sizeLine := by simpa only [PyData.shown] using z
      obtain ⟨⟨as, ra⟩, bs, hb, hk⟩ := dzs_rk I ds xs its da rv (by simpa [PyData.showable] using g) fun t ht => Nat.le_trans (tupleText_mem_le ht) z2
      obtain ⟨ob, ho, hc, n, hd⟩ := pl
      have rr : Reads s.heap (.ref a) (.tuple ds) _ := .tuple ho hc hd ra
      have dp : (PyData.tuple ds).depth = PyData.depthAll ds + 1 := by simp only [PyData.depth]
      have na : a ∉ bs := not_mem_of_deeper rr (by rw [dp]; exact Nat.lt_succ_self _) hb
      refine ⟨⟨_, rr⟩, a :: bs, ReadAtMost.cons rr (by rw [dp]; exact Nat.le_succ _) hb, ?_⟩
      rw [dp, show (PyData.tuple ds).shown = tupleText (PyData.shownAll ds) by simp only [PyData.shown]]
      exact ReprK.tuple ho hc hd na hk
  | .dict kvs, v, u, h, r, g, z => by
    cases h with
    | @dct a e =>
      cases (show u = Value.ref a from r)
      exact shown_dct I e
theorem dzs_rk (I : Inv X pins σ H s) : ∀ (ds : List PyData) (vs : List V) (us : List Value), DzAll X.K X.w ok H vs ds → Vals vs us → PyData.showableAll ds = true → (∀ t ∈ PyData.shownAll ds, t.length ≤ sizeLine) → ShownA X s ds us
  | [], vs, us, h, r, g, z => by
    cases h; cases r; exact ⟨⟨_, .nil⟩, [], (fun _ q => nomatch q), by simp only [PyData.shownAll]; exact .nil⟩
  | d :: ds, vs, us, h, r, g, z => by
    cases h with
    | cons a b =>
      cases r with
      | cons r1 r2 =>
        have g2 : d.showable = true ∧ PyData.showableAll ds = true := by simpa [PyData.showableAll] using g
        have z2 : d.shown.length ≤ sizeLine ∧ ∀ t ∈ PyData.shownAll ds, t.length ≤ sizeLine := by simpa [PyData.shownAll] using z
        obtain ⟨⟨as, ra⟩, b1, h1, k1⟩ := dz_rk I d _ _ a r1 g2.1 z2.1
        obtain ⟨⟨bs, rb⟩, b2, h2, k2⟩ := dzs_rk I ds _ _ b r2 g2.2 z2.2
        have dm : PyData.depthAll (d :: ds) = max d.depth (PyData.depthAll ds) := by simp only [PyData.depthAll]
        refine ⟨⟨_, .cons ra rb⟩, b1 ++ b2, fun x hm => ?_, ?_⟩
        · rcases List.mem_append.mp hm with q | q
          · obtain ⟨d', as', r', hd'⟩ := h1 x q
            exact ⟨d', as', r', by rw [dm]; omega⟩
          · obtain ⟨d', as', r', hd'⟩ := h2 x q
            exact ⟨d', as', r', by rw [dm]; omega⟩
        · rw [dm, show PyData.shownAll (d :: ds) = d.shown :: PyData.shownAll ds by simp only [PyData.shownAll]]
          exact .cons ((k1.more fun x q => List.mem_append_left _ q).level_le (Nat.le_max_left _ _)) (k2.more_le (fun x q => List.mem_append_right _ q) (Nat.le_max_right _ _))
end
/-- repr of a list or a tuple of any data -/
theorem dz_shows (I : Inv X pins σ H s) {d : PyData} {v : V} {a : Addr} (h : Dz X.K X.w ok H v d) (r : RelV v (.ref a)) (g : d.showable = true) (z : d.shown.length ≤ sizeLine) : ∃ T idr, ShowsBy X.prog X.w s.heap a d T idr := by
  cases h with
  | non => cases r
  | bl b => cases r
  | int i => obtain ⟨_, e⟩ := (show ∃ t, Value.ref a = Value.int i t from r); cases e
  | str x => obtain ⟨_, e⟩ := (show ∃ t, Value.ref a = Value.str x t from r); cases e
  | @lst a2 xs ds e o da =>
    cases (show Value.ref a = Value.ref a2 from r)
    obtain ⟨its, rv, pl, _⟩ := I.list (a := a) (xs := xs) (.inl (.inl e))
    have z2 : (listText (PyData.shownAll ds)).length ≤ sizeLine := by simpa only [PyData.shown] using z
    obtain ⟨⟨as, ra⟩, bs, hb, hk⟩ := dzs_rk I ds xs its da rv (by simpa [PyData.showable] using g) fun t ht => Nat.le_trans (listText_mem_le ht) z2
    obtain ⟨ob, ho, hc, _, hd⟩ := pl.isList
    have dp : (PyData.list ds).depth = PyData.depthAll ds + 1 := by simp only [PyData.depth]
    have na : a ∉ bs := not_mem_of_deeper (.list ho hc hd ra) (by rw [dp]; exact Nat.lt_succ_self _) hb
    refine ⟨"list", "list.__repr__", ⟨F.slot_list_repr.toG, F.slot_list_str, F.slot_list_format, fun s2 kk => ⟨ob, kk _ _ ho, hc⟩, fun A E s2 Q hg hu kk hQ => ?_⟩⟩
    rw [dp] at hu
    rw [show (PyData.list ds).shown = listText (PyData.shownAll ds) by simp only [PyData.shown]] at hQ
    cases its with
    | nil =>
      cases ra
      simp only [PyData.shownAll, listText_nil] at hQ
      exact call_list_repr_empty ⟨ob, kk _ _ ho, hc⟩ (kk _ _ ho) hd (hQ s2.heap _ _ fun _ _ q => q)
    | cons y l => exact call_list_reprK ho hc hd na (by simpa using hk.length_eq) (fun i y2 e2 => hk.item i y2 (by simpa using e2)) hg (fun b _ => Clear.nil b) hu kk hQ z2
  | @tup a2 xs ds sq da =>
    cases (show Value.ref a = Value.ref a2 from r)
    obtain ⟨its, rv, pl, _⟩ := I.tuple (a := a) (xs := xs) sq
    have z2 : (tupleText (PyData.shownAll ds)).length ≤ sizeLine := by simpa only [PyData.shown] using z
    obtain ⟨⟨as, ra⟩, bs, hb, hk⟩ := dzs_rk I ds xs its da rv (by simpa [PyData.showable] using g) fun t ht => Nat.le_trans (tupleText_mem_le ht) z2
    obtain ⟨ob, ho, hc, n, hd⟩ := pl
    have dp : (PyData.tuple ds).depth = PyData.depthAll ds + 1 := by simp only [PyData.depth]
    have na : a ∉ bs := not_mem_of_deeper (.tuple ho hc hd ra) (by rw [dp]; exact Nat.lt_succ_self _) hb
    refine ⟨"tuple", "tuple.__repr__", ⟨F.slot_tuple_repr, F.slot_tuple_str, F.slot_tuple_format, fun s2 kk => ⟨ob, kk _ _ ho, hc⟩, fun A E s2 Q hg hu kk hQ => ?_⟩⟩
    rw [dp] at hu
    rw [show (PyData.tuple ds).shown = tupleText (PyData.shownAll ds) by simp only [PyData.shown]] at hQ
    exact call_tuple_reprK ho hc hd na hk hg (fun b _ => Clear.nil b) hu kk hQ z2
  | @dct a2 e =>
    cases (show Value.ref a = Value.ref a2 from r)
    obtain ⟨⟨_, sm, _, o, es, ep, e, c, dt, ee⟩, _⟩ := I.hok a _ e
    have z3 : es = #[] := Array.eq_empty_of_size_eq_zero ee.1
    subst z3
    refine showsBy_of_reads (Reads.dict e c.1 dt .nil .nil) rfl (fun _ h => ?_) (by rw [sizeLine_eq]; decide)
    have : sysModules = a := by simpa using h
    rw [← this] at sm
    simp at sm
end
/-- what can be shown -/
structure BpD (W : Nat) (d : PyData) : Prop where
  sh : d.showable = true
  lv : d.leavesShort 100 = true
  wt : d.weight ≤ W
theorem BpD.fits {d : PyData} (h : BpD 160000 d) : d.shown.length ≤ sizeLine := by
  have q := PyData.shown_le 100 (by decide) d h.lv
  have w : (100 + 2) * d.weight ≤ (100 + 2) * 160000 := Nat.mul_le_mul (Nat.le_refl _) h.wt
  rw [sizeLine_eq]
  omega
section
variable {X : Cx}
def rRepZ (K : PySem.W.Frag) (w : World) : List V → Hp → VK → Prop := fun xs H Q => ∃ ok v d, xs = [v] ∧ Dz K w ok H v d ∧ BpD 160000 d ∧ d.depth ≤ 60 ∧ Q (.str d.shown) H
theorem call_reprZ (hgd : X.A.guards = some []) (hu : X.A.units + 65 < cLine) : CallR X (.builtin "repr") (rRepZ X.K X.w) := by
  intro pins s σ H xs us Q I r ⟨ok, v, d, ex, hd, S, dep, q⟩
  subst ex
  obtain ⟨u, eu, rv⟩ := vals1 r
  subst eu
  have fin : ∀ {t : Tok} {s' : Shared}, Inv X pins σ H s' → EP X pins σ Q (.str d.shown t) s' := fun I' => ⟨.str d.shown, H, I', ⟨_, rfl⟩, q⟩
  have go : ∀ a, u = Value.ref a → wpAny (model X.prog X.w) X.A (call (.builtin "repr") [u]) (EP X pins σ Q) X.xe s := fun a e => by
    subst e
    obtain ⟨T, idr, B⟩ := dz_shows I hd rv S.sh S.fits
    exact call_repr_slot (by omega) (B.typeIs s fun _ _ e => e) B.slotRepr (B.call X.A.in1 _ s _ hgd (by show X.A.units + 1 + d.depth < cLine; omega) (fun _ _ e => e) fun h' t tk k => ⟨_, _, rfl, fin (I.kept (t' := tk) k)⟩)
  cases hd with
  | non => cases (show u = Value.none from rv); exact P.repr_of_none (fin (I.tok _))
  | bl b => cases (show u = Value.bool b from rv); exact P.repr_of_bool (fin (I.tok _))
  | int i => obtain ⟨t, e⟩ := (show ∃ t, u = Value.int i t from rv); subst e; exact P.repr_of_int (by simpa [PyData.showable] using S.sh) (fin (I.tok _))
  | str x => obtain ⟨t, e⟩ := (show ∃ t, u = Value.str x t from rv); subst e; exact P.repr_of_str (fin (I.tok _)) S.fits
  | @lst a _ _ h1 h2 => exact go a rv
  | @tup a _ _ h1 h2 => exact go a rv
  | @dct a h1 => exact go a rv
end
end Fc
namespace Fc
open PySem PySem.Spec L2 PyProof.Rows
/-! texts that are neither of the two -/
def oddS (x : Str) : Bool := !decide (x = "fresh") && !decide (x = "qqqqqqqq")
mutual
def ffD : PyData → Bool
  | .str x => oddS x
  | .list ds => ffDs ds
  | .tuple ds => ffDs ds
  | _ => true
def ffDs : List PyData → Bool
  | [] => true
  | d :: ds => ffD d && ffDs ds
end
theorem ffDs_iff (ds : List PyData) : ffDs ds = true ↔ ∀ d ∈ ds, ffD d = true := by
  induction ds with
  | nil => simp [ffDs]
  | cons d ds ih => simp [ffDs, ih]
/-- what is drawn: small, to be shown -/
structure Fit (W D : Nat) (d : PyData) : Prop where
  sh : d.showable = true
  lv : d.leavesShort 100 = true
  sm : smD d = true
  ff : ffD d = true
  wt : d.weight ≤ W
  dp : d.depth ≤ D
theorem Fit.le {W D W' D' : Nat} {d : PyData} (h : Fit W D d) (a : W ≤ W') (b : D ≤ D') : Fit W' D' d := ⟨h.sh, h.lv, h.sm, h.ff, Nat.le_trans h.wt a, Nat.le_trans h.dp b⟩
theorem Fit.bp {W D : Nat} {d : PyData} (h : Fit W D d) (a : W ≤ 160000) : BpD 160000 d := ⟨h.sh, h.lv, Nat.le_trans h.wt a⟩
theorem fits_all {W D : Nat} {ds : List PyData} (h : ∀ d ∈ ds, Fit W D d) : PyData.showableAll ds = true ∧ PyData.leavesShortAll 100 ds = true ∧ PyData.weightAll ds ≤ ds.length * (W + 1) ∧ PyData.depthAll ds ≤ D := by
  induction ds with
  | nil => exact ⟨rfl, rfl, Nat.zero_le _, Nat.zero_le _⟩
  | cons d ds ih =>
    obtain ⟨a, b, c, e⟩ := ih fun x hx => h x (List.mem_cons_of_mem _ hx)
    have s := h d (List.mem_cons_self ..)
    have w := s.wt
    have p := s.dp
    refine ⟨?_, ?_, ?_, ?_⟩
    · rw [PyData.showableAll, a, s.sh]; rfl
    · rw [PyData.leavesShortAll, b, s.lv]; rfl
    · rw [PyData.weightAll, List.length_cons, Nat.add_mul, Nat.one_mul]; omega
    · rw [PyData.depthAll]; omega
theorem fit_tup {W D n : Nat} {ds : List PyData} (h : ∀ d ∈ ds, Fit W D d) (l : ds.length ≤ n) : Fit (n * (W + 1)) (D + 1) (.tuple ds) := by
  obtain ⟨a, b, c, e⟩ := fits_all h
  refine ⟨by rw [PyData.showable]; exact a, by rw [PyData.leavesShort]; exact b, (smDs_iff ds).mpr fun d hd => (h d hd).sm, (ffDs_iff ds).mpr fun d hd => (h d hd).ff, ?_, ?_⟩
  · rw [PyData.weight]; exact Nat.le_trans c (Nat.mul_le_mul_right _ l)
  · rw [PyData.depth]; omega
theorem fit_lst {W D n : Nat} {ds : List PyData} (h : ∀ d ∈ ds, Fit W D d) (l : ds.length ≤ n) : Fit (n * (W + 1)) (D + 1) (.list ds) := by
  obtain ⟨a, b, c, e⟩ := fits_all h
  refine ⟨by rw [PyData.showable]; exact a, by rw [PyData.leavesShort]; exact b, (smDs_iff ds).mpr fun d hd => (h d hd).sm, (ffDs_iff ds).mpr fun d hd => (h d hd).ff, ?_, ?_⟩
  · rw [PyData.weight]; exact Nat.le_trans c (Nat.mul_le_mul_right _ l)
  · rw [PyData.depth]; omega
theorem fit_bl (b : Bool) : Fit 0 0 (.bool b) := ⟨rfl, rfl, rfl, rfl, Nat.le_refl _, Nat.le_refl _⟩
theorem fit_non : Fit 0 0 .none := ⟨rfl, rfl, rfl, rfl, Nat.le_refl _, Nat.le_refl _⟩
theorem fit_dct : Fit 0 1 (.dict []) := ⟨rfl, rfl, rfl, rfl, Nat.le_refl _, Nat.le_refl _⟩
theorem fit_str {x : Str} {n : Nat} (h : x.length ≤ n) (hn : n ≤ 1000) (c : x.cps.toList.all (fun c => decide (c < 16 ^ 8)) = true) (o : oddS x = true) : Fit n 0 (.str x) :=
  ⟨rfl, c, decide_eq_true (Nat.le_trans h hn), o, h, Nat.le_refl _⟩
theorem fit_name {x : Str} (h : isNameS x = true) (o : oddS x = true) : Fit 8 0 (.str x) := by
  unfold isNameS at h
  rw [Bool.and_eq_true, Bool.and_eq_true, decide_eq_true_iff, decide_eq_true_iff] at h
  refine fit_str (by omega) (by decide) (List.all_eq_true.mpr fun c hc => ?_) o
  have := List.all_eq_true.mp h.2.2 c hc
  unfold lowC at this
  rw [Bool.and_eq_true] at this
  have t2 : ¬ ([122] < [c]) := by simpa using this.2
  refine decide_eq_true (Nat.lt_of_le_of_lt (m := 122) (Nat.le_of_not_lt fun k => t2 ?_) (by decide))
  exact List.Lex.rel k
/-- its names are neither of the two -/
def OddP (P : Pa) : Prop := ∀ x ∈ namesL P, oddS x = true
theorem fit_dS {l : List Str} {n : Nat} (h : ∀ x ∈ l, isNameS x = true ∧ oddS x = true) (hn : l.length ≤ n) : Fit (n * 9) 1 (dS l) :=
  fit_tup (fun d hd => by obtain ⟨x, hx, rfl⟩ := List.mem_map.mp hd; exact fit_name (h x hx).1 (h x hx).2) (by rw [List.length_map]; exact hn)
theorem fit_dA {l : List (Str × Str)} {n : Nat} (h : ∀ e ∈ l, (isNameS e.1 = true ∧ oddS e.1 = true) ∧ (isNameS e.2 = true ∧ oddS e.2 = true)) (hn : l.length ≤ n) : Fit (n * 19) 2 (dA l) :=
  fit_tup (fun d hd => by
    obtain ⟨e, he, rfl⟩ := List.mem_map.mp hd
    exact fit_tup (n := 2) (W := 8) (fun d hd => by
      rcases List.mem_cons.mp hd with rfl | hd
      · exact fit_name (h e he).1.1 (h e he).1.2
      · rw [List.mem_singleton.mp hd]; exact fit_name (h e he).2.1 (h e he).2.2) (Nat.le_refl _)) (by rw [List.length_map]; exact hn)
theorem cutT {a b : TS} {D : Ends} {σ : L2.St} {H : Hp} (h : ∀ T, T = b → tSeq a T D σ H) : tSeq a b D σ H := h b rfl
theorem mkT {K : PySem.W.Frag} {w : World} {ok : Addr → Prop} {H : Hp} {p : Addr} {vs : List V} {ds : List PyData} (hp : H p = none) (d : DzAll K w ok H vs ds) : Dz K w ok (upd H p (.tup vs)) (.ref p) (.tuple ds) := .tup (.inl (.inl upd_same)) (dzs_mono (Keep.same (same_new hp)) _ _ d)
theorem mkL {K : PySem.W.Frag} {w : World} {ok : Addr → Prop} {H : Hp} {p : Addr} {vs : List V} {ds : List PyData} (hp : H p = none) (o : ok p) (d : DzAll K w ok H vs ds) : Dz K w ok (upd H p (.lst vs)) (.ref p) (.list ds) := .lst upd_same o (dzs_mono (Keep.same (same_new hp)) _ _ d)
theorem kpT {K : PySem.W.Frag} {w : World} {ok : Addr → Prop} {H : Hp} {p : Addr} {o : HO} {v : V} {d : PyData} (hp : H p = none) (h : Dz K w ok H v d) : Dz K w ok (upd H p o) v d := dz_mono (Keep.same (same_new hp)) _ _ h
end Fc
namespace Fc
open PySem PySem.Spec L2 PyProof.Rows
/-- a property of frames -/
structure PropM (P : Program) (w : World) (K : PySem.W.Frag) (mg : Str → Option Value) (base : Heap) (C : Addr) (name field : Str) : Prop where
  at_ : ∃ (p g : Addr) (fd : FuncData), PropOf K C name p g ∧ FnOk P w K mg base CX0 1 g fd ["self"] (getSp C field) ∧ Binds K fd ["self"] []
theorem pe_prM {X : Cx} {C : Addr} {j : Nat} {name field : Str} {e : Expr} {pos : Pos} {ta : TE} (M : PropM X.prog X.w X.K X.mg X.base C name field) (c : Cls X.K C) (hr : Room j X.A) (hj : 2 ≤ j) (he : PE X e ta)
    (hab : attributeBase e name X.env (eval e X.env) = eval e X.env := by rfl) : PE X (.Attribute e name pos) (tProp C (getSp C field) [] E0 ta) := by
  obtain ⟨p, g, fd, hp, F, b⟩ := M.at_
  exact pe_prop he c hp F (hr.mono hj) b .nil pass0 hab
/-- a method of frames -/
structure MetF (P : Program) (w : World) (K : PySem.W.Frag) (mg : Str → Option Value) (base : Heap) (k : Nat) (C : Addr) (m : Str) (sp : Sp) : Prop where
  at_ : ∃ (f : Addr) (fd : FuncData) (ps : List Str), Meth K C m f ∧ FnOk P w K mg base CX0 k f fd ps sp ∧ Binds K fd ps []
theorem pe_mF {X : Cx} {C : Addr} {j k : Nat} {m : Str} {sp : Sp} {o e : Expr} {es : List Expr} {apos pos : Pos} {ta : TE} {t : TA} {pl : Sem Bool} (M : MetF X.prog X.w X.K X.mg X.base k C m sp) (c : Cls X.K C) (hr : Room j X.A) (hk : k ≤ j) (he : PE X o ta) (ha : PA X (e :: es) t)
    (hst : starEach (e :: es) X.env = (false, eval e X.env) :: starEach es X.env := by rfl) (hpl : (backTo pos (starEach es X.env)).any (·.1) = false := by rfl)
    (ht : eval (.Call (.Attribute o m apos) (e :: es) [] pos) X.env = (do
      let ov ← eval o X.env
      standAt apos.atName
      let (f, first) ← holding [ov] (getMethod ov m pl)
      callWith pos f first (backTo pos (starEach (e :: es) X.env)) (backToKw pos (keywordEach [] X.env))) := by rfl) : PE X (.Call (.Attribute o m apos) (e :: es) [] pos) (tMeth C m sp [] E0 ta t) := by
  obtain ⟨f, fd, ps, hm, F, b⟩ := M.at_
  exact pe_meth he c hm F (hr.mono hk) b .nil pass0 ha hst hpl ht
/-- a comprehension that takes nothing -/
theorem lc_none {J : It} {n : Nat} {it : Nat → V} {G : Hp → Prop} {g : TG} {tt : TT} {te : TE} {vs : List Nat} {σ : L2.St} {H1 : Hp} {D : Addr} {Qd : Hp → Prop} (S : Steady J n it G) (hG : ∀ H, Same H1 H → G H) (hD : H1 D = none)
    (ht : ∀ k H (Q : L2.St → Bool → Hp → Prop), k < n → Same H1 H → (∀ σ2 H', Same H H' → Q σ2 false H') → g (it k) (wipe σ vs) H fun σ2 H2 => wipe σ2 vs = wipe σ vs ∧ tt σ2 H2 (Q σ2))
    (hd : ∀ H', Same H1 H' → H' D = some (.lst []) → Qd H') :
    ∃ W : Nat → Nat → Hp → Prop, (∃ m, W 0 m (upd H1 D (.lst []))) ∧ ∀ i m H, W i m H → (J.stop i H ∧ Qd H) ∨
      (J.go i H ∧ ∃ Nx : Hp → Prop, (∀ H', Nx H' → ∃ m', m' < m ∧ W (i + 1) m' H') ∧ ∀ x H', J.yld i H x H' → g x (wipe σ vs) H' fun σ2 H2 => wipe σ2 vs = wipe σ vs ∧ tt σ2 H2 fun b H3 =>
        if b = true then te σ2 H3 fun y H4 => ∃ acc, H4 D = some (.lst acc) ∧ acc.length < sizeLine ∧ Nx (upd H4 D (.lst (acc ++ [y]))) else Nx H3) :=
  lc_steady S (fun k H => Same H1 H ∧ H D = some (.lst [])) ⟨same_new hD, upd_same⟩ (fun _ _ _ h => hG _ h.1) (fun k H hk h => by
    refine ht k H (fun σ2 b H3 => if b = true then te σ2 H3 _ else _) hk h.1 fun σ2 H' s' => ?_
    exact iteF ⟨h.1.trans s', s' _ _ h.2⟩) fun H h => hd H h.1 h.2
abbrev rJoin (K : PySem.W.Frag) : V → List V → Hp → VK → Prop := fun x xs H Q => ∃ a p, ∃ ys : List Str, x = .str a ∧ xs = [.ref p] ∧ (SqL K H p (ys.map V.str) ∨ SqT K H p (ys.map V.str)) ∧ (ys.map (·.length)).sum + ys.length * a.length ≤ 16777216 ∧ Q (.str (Txt.join a ys)) H
theorem pe_joinK {X : Cx} {o e : Expr} {to te : TE} {apos pos : Pos} (K : PySem.W.Frag) (ho : PE X o to) (he : PE X e te) (hK : X.K = K := by rfl) (hs : starEach [e] X.env = [(false, eval e X.env)] := by rfl) (hbase : attributeBase o "join" X.env (eval o X.env) = eval o X.env := by rfl) (hline : (apos.endLine == pos.line) = true := by rfl) :
    PE X (.Call (.Attribute o "join" apos) [e] [] pos) (tM1 (rJoin K) to te) := by
  subst hK
  exact pe_join ho he hs hbase hline
/-- what a frame tells -/
def dT (P : Pa) : PyData := .list [dA P.arrays, dS P.pos, dS P.vals, dS (lensOf P.arrays)]
theorem names_in {P : Pa} : (∀ x ∈ P.arrays.map (·.1), x ∈ namesL P) ∧ (∀ x ∈ lensOf P.arrays, x ∈ namesL P) ∧ (∀ x ∈ P.pos, x ∈ namesL P) ∧ ∀ x ∈ P.vals, x ∈ namesL P := by
  unfold namesL
  refine ⟨fun x h => ?_, fun x h => ?_, fun x h => ?_, fun x h => ?_⟩ <;> simp only [List.mem_append] <;> simp [h]
theorem mem_lensOf {as : List (Str × Str)} {e : Str × Str} (h : e ∈ as) : e.2 ∈ lensOf as := by
  have g : ∀ (as : List (Str × Str)) (l : List Str), (∀ x ∈ l, x ∈ as.foldl (fun l e => addS l e.2) l) ∧ ∀ e ∈ as, e.2 ∈ as.foldl (fun l e => addS l e.2) l := by
    intro as
    induction as with
    | nil => exact fun l => ⟨fun _ h => h, fun _ h => nomatch h⟩
    | cons a as ih =>
      intro l
      obtain ⟨i1, i2⟩ := ih (addS l a.2)
      have ad : ∀ x, (x ∈ l ∨ x = a.2) → x ∈ addS l a.2 := fun x h => by
        unfold addS
        split
        · rcases h with h | rfl
          · exact h
          · assumption
        · rcases h with h | rfl <;> simp [*]
      refine ⟨fun x h => i1 _ (ad _ (.inl h)), fun e he => ?_⟩
      rcases List.mem_cons.mp he with rfl | he
      · exact i1 _ (ad _ (.inr rfl))
      · exact i2 _ he
  exact (g as []).2 e h
theorem fit_dT {P : Pa} (ok : PaOk P) (od : OddP P) : Fit 2000 4 (dT P) := by
  obtain ⟨n1, n2, n3, n4⟩ := names_in (P := P)
  have nm : ∀ x ∈ namesL P, isNameS x = true ∧ oddS x = true := fun x h => ⟨ok.nm x h, od x h⟩
  have a1 := fit_dA (l := P.arrays) (n := 12) (fun e he => ⟨nm _ (n1 _ (List.mem_map.mpr ⟨e, he, rfl⟩)), nm _ (n2 _ (mem_lensOf he))⟩) ok.na
  have a2 := fit_dS (l := P.pos) (n := 8) (fun x hx => nm _ (n3 _ hx)) ok.np
  have a3 := fit_dS (l := P.vals) (n := 6) (fun x hx => nm _ (n4 _ hx)) ok.nv
  have a4 := fit_dS (l := lensOf P.arrays) (n := 12) (fun x hx => nm _ (n2 _ hx)) (Nat.le_trans (lensOf_len _) ok.na)
  refine (fit_lst (W := 228) (D := 2) (n := 4) (fun d hd => ?_) (Nat.le_refl _)).le (by decide) (by decide)
  simp only [List.mem_cons, List.not_mem_nil, or_false] at hd
  rcases hd with rfl | rfl | rfl | rfl
  · exact a1
  · exact a2.le (by decide) (by decide)
  · exact a3.le (by decide) (by decide)
  · exact a4.le (by decide) (by decide)
/-- what stands while a frame is looked at -/
structure TC (K : PySem.W.Frag) (C p r dx : Addr) (fs : List (Str × V)) (uA uP uV : Addr) (P : Pa) (H : Hp) : Prop where
  fb : FrB K C H p P
  row : RowAt K H r P
  ins : H p = some (.ins C dx fs)
  lst : H r = some (.lst [.ref uA, .ref uP, .ref uV])
  a : Dp K H (.ref uA) (dA P.arrays)
  p : Dp K H (.ref uP) (dS P.pos)
  v : Dp K H (.ref uV) (dS P.vals)
theorem TC.same {K : PySem.W.Frag} {C p r dx : Addr} {fs : List (Str × V)} {uA uP uV : Addr} {P : Pa} {H H' : Hp} (h : TC K C p r dx fs uA uP uV P H) (s : Same H H') : TC K C p r dx fs uA uP uV P H' :=
  ⟨h.fb.same s, h.row.mono s, s _ _ h.ins, s _ _ h.lst, dp_mono s _ _ h.a, dp_mono s _ _ h.p, dp_mono s _ _ h.v⟩
theorem dS_sq {K : PySem.W.Frag} {H : Hp} {t : Addr} {l : List Str} (h : Dp K H (.ref t) (dS l)) : SqT K H t (l.map V.str) := by
  cases h with
  | @tup _ xs _ sa da =>
    have : xs = l.map V.str := by
      clear sa
      induction l generalizing xs with
      | nil => cases da; rfl
      | cons x l ih =>
        cases da with
        | cons a b =>
          cases a
          rw [ih b]; rfl
    rw [← this]
    exact sa
theorem dA_sq {K : PySem.W.Frag} {H : Hp} {t : Addr} {l : List (Str × Str)} (h : Dp K H (.ref t) (dA l)) : ∃ xs, SqT K H t xs ∧ xs.length = l.length ∧ ∀ (k : Nat) (hk : k < l.length), ∃ u, xs.getD k .non = .ref u ∧ SqT K H u [.str l[k].1, .str l[k].2] := by
  cases h with
  | @tup _ xs _ sa da => exact ⟨xs, sa, (dp_len da).trans (List.length_map _), fun k hk => dA_at da hk⟩
theorem sqL_same {K : PySem.W.Frag} {H H' : Hp} {a : Addr} {xs : List V} (s : Same H H') (h : SqL K H a xs) : SqL K H' a xs := h.elim (fun e => e.elim (fun e => .inl (.inl (s _ _ e))) fun ⟨o, e⟩ => .inl (.inr ⟨o, s _ _ e⟩)) .inr
/-- names of one kind, as the law has them -/
def Grp (K : PySem.W.Frag) (H : Hp) (P : Pa) (v : V) : Prop := ∃ (t : Addr) (k : Str) (L : Addr) (xs : List Str), v = .ref t ∧ SqT K H t [.str k, .ref L] ∧ H L = some (.lst (xs.map V.str)) ∧ xs.length ≤ 60 ∧ ∀ x ∈ xs, (x, k) ∈ kindsL P
theorem Grp.same {K : PySem.W.Frag} {H H' : Hp} {P : Pa} {v : V} (h : Grp K H P v) (s : Same H H') : Grp K H' P v := by
  obtain ⟨t, k, L, xs, e, h1, h2, h3, h4⟩ := h
  exact ⟨t, k, L, xs, e, Tups.same s _ _ h1, s _ _ h2, h3, h4⟩
theorem kinds_in {P : Pa} : (∀ x ∈ P.arrays.map (·.1), (x, ("array" : Str)) ∈ kindsL P) ∧ (∀ x ∈ lensOf P.arrays, (x, ("length" : Str)) ∈ kindsL P) ∧ (∀ x ∈ P.pos, (x, ("position" : Str)) ∈ kindsL P) ∧ ∀ x ∈ P.vals, (x, ("value" : Str)) ∈ kindsL P := by
  unfold kindsL
  refine ⟨fun x h => ?_, fun x h => ?_, fun x h => ?_, fun x h => ?_⟩ <;> simp only [List.mem_append, List.mem_map]
  · obtain ⟨e, he, rfl⟩ := List.mem_map.mp h
    exact .inl ⟨e, he, rfl⟩
  · exact .inr (.inl ⟨x, h, rfl⟩)
  · exact .inr (.inr (.inl ⟨x, h, rfl⟩))
  · exact .inr (.inr (.inr ⟨x, h, rfl⟩))
theorem kinds_names {P : Pa} {x k : Str} (h : (x, k) ∈ kindsL P) : x ∈ namesL P := by
  have : x ∈ (kindsL P).map (·.1) := List.mem_map.mpr ⟨_, h, rfl⟩
  rw [kinds_keys] at this
  exact this
/-- an array with its length, as the law shows it -/
def lawT (e : Str × Str) : Str := (e.1 ++ Str.ofString ":") ++ e.2
theorem lawT_eq : pairT = lawT := by
  funext e
  unfold pairT lawT
  rw [Str.empty_append]
theorem show_law (P : Pa) : Txt.join (Str.ofString " | ") [showW (P.arrays.map lawT), showW P.pos, showW P.vals] = showF P := by
  have e : ∀ l, Txt.join (Str.ofString " | ") l = Str.join (Str.ofString " | ") l := fun l => by unfold Txt.join; exact StrLaws.glued_eq_join _ _
  rw [e]
  show showW (P.arrays.map lawT) ++ Str.ofString " | " ++ (showW P.pos ++ Str.ofString " | " ++ showW P.vals) = _
  unfold showF showP
  rw [lawT_eq, Str.empty_append, Str.append_assoc, Str.append_assoc, Str.append_assoc, Str.append_assoc, Str.append_assoc]
theorem name_8 {x : Str} (h : isNameS x = true) : x.length ≤ 8 := by
  unfold isNameS at h
  rw [Bool.and_eq_true, Bool.and_eq_true, decide_eq_true_iff, decide_eq_true_iff] at h
  omega
theorem paired_range {α : Type} {f : α → V} {l : List α} {z : α} {ys : List V} (h : Paired (fun k y => y = f (l.getD k z)) (List.range l.length) ys) : ys = l.map f := by
  refine List.ext_getElem? fun i => ?_
  have lp := paired_len h
  rw [List.length_range] at lp
  by_cases c : i < l.length
  · have ci : i < ys.length := by omega
    have := paired_at h (i := i) (a := i) (b := ys[i]) (by rw [List.getElem?_range (by omega)]) (List.getElem?_eq_getElem ci)
    rw [List.getElem?_eq_getElem ci, this, List.getD_eq_getElem?_getD, List.getElem?_map, List.getElem?_eq_getElem c]
    rfl
  · rw [List.getElem?_eq_none (by omega), List.getElem?_eq_none (by rw [List.length_map]; omega)]
def oddL : List PyData := [.str "fresh", .str "qqqqqqqq", .str "", .str "A", .str "ninelette", .none, .int 0, .tuple [.str "a"], .list [.str "a"], .dict [], .str "*1"]
theorem odd_tells {P : Pa} (ok : PaOk P) (od : OddP P) : ∀ i, i < 11 → hasD P (oddL.getD i .none) = false ∧ freshD P (oddL.getD i .none) = oneOfD ["fresh", "qqqqqqqq"] (oddL.getD i .none) ∧ smD (oddL.getD i .none) = true := fun i hi => by
  have nn : ∀ x : Str, isNameS x = false → hasD P (.str x) = false ∧ freshD P (.str x) = false := fun x e => by
    have : x ∉ namesL P := fun h => by rw [ok.nm x h] at e; cases e
    exact ⟨decide_eq_false this, by show (isNameS x && _) = false; rw [e]; rfl⟩
  have ff : ∀ x : Str, isNameS x = true → oddS x = false → hasD P (.str x) = false ∧ freshD P (.str x) = true := fun x e o => by
    have : x ∉ namesL P := fun h => by rw [od x h] at o; cases o
    exact ⟨decide_eq_false this, by show (isNameS x && decide (x ∉ namesL P)) = true; rw [e, decide_eq_true this]; rfl⟩
  match i, hi with
  | 0, _ => exact ⟨(ff _ (by decide +kernel) (by decide +kernel)).1, (ff _ (by decide +kernel) (by decide +kernel)).2.trans (by decide +kernel), by decide +kernel⟩
  | 1, _ => exact ⟨(ff _ (by decide +kernel) (by decide +kernel)).1, (ff _ (by decide +kernel) (by decide +kernel)).2.trans (by decide +kernel), by decide +kernel⟩
  | 2, _ => exact ⟨(nn _ (by decide +kernel)).1, (nn _ (by decide +kernel)).2.trans (by decide +kernel), by decide +kernel⟩
  | 3, _ => exact ⟨(nn _ (by decide +kernel)).1, (nn _ (by decide +kernel)).2.trans (by decide +kernel), by decide +kernel⟩
  | 4, _ => exact ⟨(nn _ (by decide +kernel)).1, (nn _ (by decide +kernel)).2.trans (by decide +kernel), by decide +kernel⟩
  | 5, _ => exact ⟨rfl, rfl, rfl⟩
  | 6, _ => exact ⟨rfl, rfl, rfl⟩
  | 7, _ => exact ⟨rfl, rfl, by decide +kernel⟩
  | 8, _ => exact ⟨rfl, rfl, by decide +kernel⟩
  | 9, _ => exact ⟨rfl, rfl, rfl⟩
  | 10, _ => exact ⟨(nn _ (by decide +kernel)).1, (nn _ (by decide +kernel)).2.trans (by decide +kernel), by decide +kernel⟩
def spTold (K : PySem.W.Frag) (C : Addr) : Sp := fun vs H Q _ => ∃ p r P, vs = [.ref p, .ref r] ∧ FrB K C H p P ∧ RowAt K H r P ∧ OddP P ∧ ∀ H', Same H H' → Q (.bl true) H'
section
variable {K : PySem.W.Frag} {mg : Str → Option Value} {base : Heap} {P : Program} {w : World}
abbrev nj44 : List Str := ["_law_frame_here", "_law_parts_here", "_law_told", "_law_groups", "_law_kind", "_law_names", "_law_odd", "_law_rows", "_law_text", "_law_name", "_law_length", "_law_row"]
theorem sp44 : FnScope nj44 ["_law_frame_here", "_law_parts_here"] (defScope (topK 44)) := ⟨rfl, rfl, rfl, by decide +kernel, rfl, by decide +kernel, by decide +kernel⟩
theorem op44 {f C : Addr} {fd : FuncData} (F : Fun K "_law_is_told" "_law_is_told" (topK 44) f fd) (B : Blt mg) (T : FrTxt K mg C)
    (pA : PropM P w K mg base C "arrays" "_arrays") (pP : PropM P w K mg base C "positions" "_positions") (pV : PropM P w K mg base C "amounts" "_amounts") (pL : PropM P w K mg base C "lengths" "_lengths")
    (c38 : Cal P w K mg base 1 "_law_lengths" (spLawLens K)) (c40 : Cal P w K mg base 2 "_law_all_of" (spLawAll K)) (m6 : MetF P w K mg base 2 C "kind_of" (spKindOf K C)) (m5 : MetF P w K mg base 2 C "length_of" (spLenOf K C)) (m7 : MetF P w K mg base 2 C "is_fresh" (spFreshZ K w C))
    (M13 : OwnM P w K mg base 2 C "__contains__" (spHasZ K w C)) (M14 : OwnM P w K mg base 1 C "__len__" (spLenF K C)) (M16 : OwnM P w K mg base 3 C "__str__" (spStrF K C)) : FnG P w K mg base 7 f fd ["_law_frame_here", "_law_parts_here"] (spTold K C) := by
  refine okG F sp44 (fun vs H Q E h => ?_) (fun cdv A outer s H vs Q E hgd hr h => ?_)
  · obtain ⟨p, r, P, rfl, _⟩ := h
    rfl
  · have hu := hu70 hr
    refine ⟨_, (pss_cons (ps_set (i := 2) sp44.nd rfl (Or.inl rfl) (pe_lst (pa_cons (pe_prM pA T.cl hr (by decide) (pv 0)) (pa_cons (pe_prM pP T.cl hr (by decide) (pv 0)) (pa_cons (pe_prM pV T.cl hr (by decide) (pv 0)) (pa_cons (pe_prM pL T.cl hr (by decide) (pv 0)) pa_nil)))))) (pss_cons (ps_if (pt_cmpR op_ne (pe_callB (r := rRepZ K w) (call_reprZ hgd (hu65 hu)) (by rfl) B.repr boot_repr (pa_cons (pv 2) pa_nil)) (pe_callB (r := rRepZ K w) (call_reprZ hgd (hu65 hu)) (by rfl) B.repr boot_repr (pa_cons (pe_op op_cat (pv 1) (pe_lst (pa_cons (pe_callTy call_tuple_of (by rfl) B.tuple boot_tuple (pa_cons (pe_c c38 hr (by decide) (by rfl) (pa_cons (pv 1) pa_nil)) pa_nil)) pa_nil))) pa_nil)) (nomark _)) (pss_one (ps_ret pe_bl)) pss_nil) (pss_cons (ps_set (i := 3) sp44.nd rfl (Or.inl rfl) (pe_lst (pa_cons (pe_tup (pa_cons pe_str (pa_cons (pe_lc (own := [("_law_name", 9), ("_law_length", 10)]) (g := gTup K 2 (gCons (gName 9) (gCons (gName 10) gNil))) (by rfl) sp44.nd (pi_tup (pe_ix ix_list (pv 1) pe_int (fun _ _ => rfl))) (blkOk_by (N := nj44) (sc := defScope (topK 44)) (by decide +kernel)) (fun _ _ _ _ _ => (pg_tup rfl (pgs_cons (pg_name (i := 9) sp44.nd rfl (Or.inl rfl)) (pgs_cons (pg_name (i := 10) sp44.nd rfl (Or.inl rfl)) pgs_nil)))) (fun _ _ _ _ _ => pts_nil) (fun _ _ _ _ _ => (pv 9))) pa_nil))) (pa_cons (pe_tup (pa_cons pe_str (pa_cons (pe_c c38 hr (by decide) (by rfl) (pa_cons (pv 1) pa_nil)) pa_nil))) pa_nil)))) (pss_cons (ps_for PassesOwn.never rfl (pi_list (pe_op op_cat (pv 3) (pe_lst (pa_cons (pe_tup (pa_cons pe_str (pa_cons (pe_callTy call_list_of (by rfl) B.list boot_list (pa_cons (pe_ix ix_list (pv 1) pe_int (fun _ _ => rfl)) pa_nil)) pa_nil))) (pa_cons (pe_tup (pa_cons pe_str (pa_cons (pe_callTy call_list_of (by rfl) B.list boot_list (pa_cons (pe_ix ix_list (pv 1) pe_int (fun _ _ => rfl)) pa_nil)) pa_nil))) pa_nil))))) (pg_tup rfl (pgs_cons (pg_name (i := 4) sp44.nd rfl (Or.inr rfl)) (pgs_cons (pg_name (i := 5) sp44.nd rfl (Or.inl rfl)) pgs_nil))) (pss_one (ps_if (pt_cmpR (op_neNil (hu64 hu)) (pe_lc (own := [("_law_name", 9)]) (g := gName 9) (by rfl) sp44.nd (pi_list (pv 5)) (blkOk_by (N := nj44) (sc := defScope (topK 44)) (by decide +kernel)) (fun _ _ _ _ _ => (pg_name (i := 9) sp44.nd rfl (Or.inl rfl))) (fun _ _ _ _ _ => pts_one (PW.pt (pw_or (pt_cmpR op_ne (pe_mF m6 T.cl hr (by decide) (pv 0) (pa_cons (pv 9) pa_nil)) (pv 4) (nomark _)) (pw_or (pt_cmpR (op_notInOZ M13 (hr.mono (by decide))) (pv 9) (pv 0) rfl) (pw_or1 (pt_val (pe_mF m7 T.cl hr (by decide) (pv 0) (pa_cons (pv 9) pa_nil)))))))) (fun _ _ _ _ _ => (pv 9))) (pe_lst pa_nil) (nomark _)) (pss_one (ps_ret pe_bl)) pss_nil))) (pss_cons (ps_if (pt_cmpR (op_neNil (hu64 hu)) (pe_lc (own := [("_law_name", 9), ("_law_length", 10)]) (g := gTup K 2 (gCons (gName 9) (gCons (gName 10) gNil))) (by rfl) sp44.nd (pi_tup (pe_ix ix_list (pv 1) pe_int (fun _ _ => rfl))) (blkOk_by (N := nj44) (sc := defScope (topK 44)) (by decide +kernel)) (fun _ _ _ _ _ => (pg_tup rfl (pgs_cons (pg_name (i := 9) sp44.nd rfl (Or.inl rfl)) (pgs_cons (pg_name (i := 10) sp44.nd rfl (Or.inl rfl)) pgs_nil)))) (fun _ _ _ _ _ => pts_one (pt_cmpR op_ne (pe_mF m5 T.cl hr (by decide) (pv 0) (pa_cons (pv 9) pa_nil)) (pv 10) (nomark _))) (fun _ _ _ _ _ => (pv 9))) (pe_lst pa_nil) (nomark _)) (pss_one (ps_ret pe_bl)) pss_nil) (pss_cons (ps_for PassesOwn.never rfl (pi_tup (pe_tup (pa_cons pe_str (pa_cons pe_str (pa_cons pe_str (pa_cons pe_str (pa_cons pe_str (pa_cons pe_non (pa_cons pe_int (pa_cons (pe_tup (pa_cons pe_str pa_nil)) (pa_cons (pe_lst (pa_cons pe_str pa_nil)) (pa_cons pe_dnewM (pa_cons pe_str pa_nil))))))))))))) (pg_name (i := 6) sp44.nd rfl (Or.inl rfl)) (pss_one (ps_if (pw_or (pt_cmpR (op_inOZ M13 (hr.mono (by decide))) (pv 6) (pv 0) rfl) (pw_or1 (pt_cmpR op_ne (pe_callB (r := rRepZ K w) (call_reprZ hgd (hu65 hu)) (by rfl) B.repr boot_repr (pa_cons (pe_mF m7 T.cl hr (by decide) (pv 0) (pa_cons (pv 6) pa_nil)) pa_nil)) (pe_callB (r := rRepZ K w) (call_reprZ hgd (hu65 hu)) (by rfl) B.repr boot_repr (pa_cons (pe_cmpR (op_inZT (hu64 hu)) (pv 6) (pe_tup (pa_cons pe_str (pa_cons pe_str pa_nil))) rfl) pa_nil)) (nomark _)))).pt (pss_one (ps_ret pe_bl)) pss_nil))) (pss_cons (ps_set (i := 7) sp44.nd rfl (Or.inl rfl) (pe_lst (pa_cons (pe_lc (own := [("_law_name", 9), ("_law_length", 10)]) (g := gTup K 2 (gCons (gName 9) (gCons (gName 10) gNil))) (by rfl) sp44.nd (pi_tup (pe_ix ix_list (pv 1) pe_int (fun _ _ => rfl))) (blkOk_by (N := nj44) (sc := defScope (topK 44)) (by decide +kernel)) (fun _ _ _ _ _ => (pg_tup rfl (pgs_cons (pg_name (i := 9) sp44.nd rfl (Or.inl rfl)) (pgs_cons (pg_name (i := 10) sp44.nd rfl (Or.inl rfl)) pgs_nil)))) (fun _ _ _ _ _ => pts_nil) (fun _ _ _ _ _ => (pe_op op_add_str (pe_op op_add_str (pv 9) pe_str) (pv 10)))) (pa_cons (pe_callTy call_list_of (by rfl) B.list boot_list (pa_cons (pe_ix ix_list (pv 1) pe_int (fun _ _ => rfl)) pa_nil)) (pa_cons (pe_callTy call_list_of (by rfl) B.list boot_list (pa_cons (pe_ix ix_list (pv 1) pe_int (fun _ _ => rfl)) pa_nil)) pa_nil))))) (pss_cons (ps_set (i := 8) sp44.nd rfl (Or.inl rfl) (pe_join pe_str (pe_lc (own := [("_law_row", 11)]) (g := gName 11) (by rfl) sp44.nd (pi_list (pv 7)) (blkOk_by (N := nj44) (sc := defScope (topK 44)) (by decide +kernel)) (fun _ _ _ _ _ => (pg_name (i := 11) sp44.nd rfl (Or.inl rfl))) (fun _ _ _ _ _ => pts_nil) (fun _ _ _ _ _ => (pe_ifExp (pt_cmpR (r := rNil K not) (op_neNil (hu64 hu)) (pv 11) (pe_lst pa_nil) (nomark _)) (pe_joinK K pe_str (pv 11)) pe_str))))) (pss_one (ps_ret (pe_and (pe_cmpR op_eq (pe_callTy (call_strO M16 (hr.mono (by decide))) (by rfl) B.str boot_str (pa_cons (pv 0) pa_nil)) (pv 8) (nomark _)) (pe_one (pe_cmpR op_eq (pe_callB (call_lenO M14 (hr.mono (by decide))) (by rfl) B.len boot_len (pa_cons (pv 0) pa_nil)) (pe_callB call_len_seq (by rfl) B.len boot_len (pa_cons (pe_c c40 hr (by decide) (by rfl) (pa_cons (pv 1) pa_nil)) pa_nil)) (nomark _)))))))))))))), ?_⟩
    obtain ⟨p, r, P, rfl, fb, row, od, q⟩ := h
    have sl : sizeLine = 16777216 := sizeLine_eq
    obtain ⟨⟨pok, dx, fs, tA, tP, tV, aK, h1, h2, h3, h4, h5, h6, h7, h8, h9, h10⟩, dx', fs', tL, tO, e1, e2, e3, e4, e5⟩ := id fb
    rw [h1] at e1
    cases e1
    obtain ⟨uA, uP, uV, r0, rA, rP, rV⟩ := row.ex
    have nm := row.nm
    have k1 := tupD_dA P.arrays
    have k2 := tupD_dS P.pos
    have k3 := tupD_dS P.vals
    have k4 := tupD_dS (lensOf P.arrays)
    have ft := fit_dT pok od
    refine cutT fun T1 eT1 => ?_
    refine ⟨_, rfl, p, dx, fs, rfl, h1, ⟨p, dx, fs, .ref tA, rfl, h1, h2, _, rfl, p, dx, fs, rfl, h1, ⟨p, dx, fs, .ref tP, rfl, h1, h3, _, rfl, p, dx, fs, rfl, h1, ⟨p, dx, fs, .ref tV, rfl, h1, h4, _, rfl, p, dx, fs, rfl, h1, ⟨p, dx, fs, .ref tL, rfl, h1, e2, by rw [sl]; exact (by decide : (4 : Nat) ≤ 16777216), fun N hN => ?_⟩⟩⟩⟩⟩
    refine gn_i ?_
    dsimp only
    subst eT1
    have sN := same_new (o := .lst [V.ref tA, V.ref tP, V.ref tV, V.ref tL]) hN
    have dN : Dz K w (fun _ => True) (upd H N (.lst [V.ref tA, V.ref tP, V.ref tV, V.ref tL])) (.ref N) (dT P) := .lst upd_same trivial (.cons (dz_of _ _ k1 (dp_mono sN _ _ h7)) (.cons (dz_of _ _ k2 (dp_mono sN _ _ h8)) (.cons (dz_of _ _ k3 (dp_mono sN _ _ h9)) (.cons (dz_of _ _ k4 (dp_mono sN _ _ e4)) .nil))))
    refine cutT fun T2 eT2 => ?_
    refine ⟨_, rfl, fun _ => True, .ref N, dT P, rfl, dN, ft.bp (by decide), Nat.le_trans ft.dp (by decide), _, rfl, _, rfl, r, P, rfl, row.mono sN, fun H2 l2 s2 g2 n2 => ⟨l2, _, rfl, .inl ⟨.inl (.inl g2), fun t3 n3 => ⟨by rw [sl]; exact (by decide : (1 : Nat) ≤ 16777216), fun N4 n4 => ?_⟩⟩⟩⟩
    have s3 := same_new (o := .tup ((lensOf P.arrays).map V.str)) n3
    have s4 := same_new (o := .lst [V.ref t3]) n4
    have s34 := (sN.trans s2).trans (s3.trans s4)
    refine ⟨r, N4, _, _, rfl, rfl, s34 _ _ r0, upd_same, by rw [sl]; exact (by decide : (3 + 1 : Nat) ≤ 16777216), fun N5 n5 => ?_⟩
    have s5 := same_new (o := .lst ([V.ref uA, V.ref uP, V.ref uV] ++ [V.ref t3])) n5
    have s45 := s34.trans s5
    have t3d : Dz K w (fun _ => True) (upd H2 t3 (.tup ((lensOf P.arrays).map V.str))) (.ref t3) (dS (lensOf P.arrays)) := mkT n3 (dz_strs _)
    have d5 := mkL (K := K) (w := w) (ok := fun _ => True) n5 trivial (.cons (dz_of _ _ k1 (dp_mono s34 _ _ rA)) (.cons (dz_of _ _ k2 (dp_mono s34 _ _ rP)) (.cons (dz_of _ _ k3 (dp_mono s34 _ _ rV)) (.cons (kpT n4 t3d) .nil))))
    refine ⟨fun _ => True, .ref N5, dT P, rfl, d5, ft.bp (by decide), Nat.le_trans ft.dp (by decide), ?_⟩
    refine ⟨rfl, _, rfl, ?_⟩
    rw [decide_eq_true rfl]
    refine iteF ?_
    subst eT2
    have fb5 := fb.same s45
    have row5 := row.mono s45
    have q5 : ∀ H', Same (upd (upd (upd H2 t3 (.tup ((lensOf P.arrays).map V.str))) N4 (.lst [V.ref t3])) N5 (.lst ([V.ref uA, V.ref uP, V.ref uV] ++ [V.ref t3]))) H' → Q (.bl true) H' := fun H' s' => q H' (s45.trans s')
    have t5 : TC K C p r dx fs uA uP uV P (upd (upd (upd H2 t3 (.tup ((lensOf P.arrays).map V.str))) N4 (.lst [V.ref t3])) N5 (.lst ([V.ref uA, V.ref uP, V.ref uV] ++ [V.ref t3]))) :=
      ⟨fb5, row5, s45 _ _ h1, s45 _ _ r0, dp_mono s45 _ _ rA, dp_mono s45 _ _ rP, dp_mono s45 _ _ rV⟩
    clear q fb row fb5 row5
    generalize upd (upd (upd H2 t3 (.tup ((lensOf P.arrays).map V.str))) N4 (.lst [V.ref t3])) N5 (.lst ([V.ref uA, V.ref uP, V.ref uV] ++ [V.ref t3])) = H5 at *
    clear d5 t3d s45 s5 s34 s4 s3 dN sN g2 n2 s2 n3 n4 n5 hN rA rP rV r0 h7 h8 h9 h10 e4 e5 h1
    obtain ⟨i1, i2, i3, i4⟩ := names_in (P := P)
    obtain ⟨j1, j2, j3, j4⟩ := kinds_in (P := P)
    have ll := lensOf_len P.arrays
    have z6 : ∀ {m}, m ∉ fldsF → fs.lookup m = none := fun {m} h => h6 m h
    dsimp only [tNext]
    refine cutT fun T3 eT3 => ?_
    have go3 : ∀ H6 L1 g1 g2, TC K C p r dx fs uA uP uV P H6 → Same H5 H6 → H6 L1 = some (.lst [g1, g2]) → Grp K H6 P g1 → Grp K H6 P g2 → T3 { nx := fun x H' => Q V.non H', rt := Q } [some (.ref p), some (.ref r), some (.ref N), some (.ref L1), none, none, none, none, none, none, none, none] H6 := by
      intro H6 L1 g1 g2 t6 s6 hL1 G1 G2
      subst eT3
      have q6 : ∀ H', Same H6 H' → Q (.bl true) H' := fun H' s' => q5 H' (s6.trans s')
      refine cutT fun T4 eT4 => ?_
      have go4 : ∀ H7 z4 z5, TC K C p r dx fs uA uP uV P H7 → Same H6 H7 → T4 { nx := fun x H' => Q V.non H', rt := Q } [some (.ref p), some (.ref r), some (.ref N), some (.ref L1), z4, z5, none, none, none, none, none, none] H7 := by
        intro H7 z4 z5 t7 s7
        subst eT4
        have q7 : ∀ H', Same H7 H' → Q (.bl true) H' := fun H' s' => q6 H' (s7.trans s')
        refine cutT fun T5 eT5 => ?_
        have go5 : ∀ H8, TC K C p r dx fs uA uP uV P H8 → Same H7 H8 → T5 { nx := fun x H' => Q V.non H', rt := Q } [some (.ref p), some (.ref r), some (.ref N), some (.ref L1), z4, z5, none, none, none, none, none, none] H8 := by
          intro H8 t8 s8
          subst eT5
          have q8 : ∀ H', Same H8 H' → Q (.bl true) H' := fun H' s' => q7 H' (s8.trans s')
          refine cutT fun T6 eT6 => ?_
          have go6 : ∀ H9 z6, TC K C p r dx fs uA uP uV P H9 → Same H8 H9 → T6 { nx := fun x H' => Q V.non H', rt := Q } [some (.ref p), some (.ref r), some (.ref N), some (.ref L1), z4, z5, z6, none, none, none, none, none] H9 := by
            intro H9 y6 t9 s9
            subst eT6
            have q9 : ∀ H', Same H9 H' → Q (.bl true) H' := fun H' s' => q8 H' (s9.trans s')
            have w8 : ∀ x ∈ namesL P, x.length ≤ 8 := fun x hx => name_8 (pok.nm x hx)
            have na := pok.na
            have np := pok.np
            have nv := pok.nv
            refine cutT fun T7 eT7 => ?_
            have go7 : ∀ HA L7 d1 d2 d3, TC K C p r dx fs uA uP uV P HA → Same H9 HA → HA L7 = some (.lst [.ref d1, .ref d2, .ref d3]) → HA d1 = some (.lst ((P.arrays.map lawT).map V.str)) → HA d2 = some (.lst (P.pos.map V.str)) → HA d3 = some (.lst (P.vals.map V.str)) → T7 { nx := fun x H' => Q V.non H', rt := Q } [some (.ref p), some (.ref r), some (.ref N), some (.ref L1), z4, z5, y6, some (.ref L7), none, none, none, none] HA := by
              intro HA L7 d1 d2 d3 tA sA hL7 hd1 hd2 hd3
              subst eT7
              have qA : ∀ H', Same HA H' → Q (.bl true) H' := fun H' s' => q9 H' (sA.trans s')
              have wk : ∀ k, k < 3 → ∃ (d : Addr) (ws : List Str), ([V.ref d1, V.ref d2, V.ref d3].getD k .non) = .ref d ∧ HA d = some (.lst (ws.map V.str)) ∧ showW ws = [showW (P.arrays.map lawT), showW P.pos, showW P.vals].getD k Str.empty ∧ ws.length ≤ 12 ∧ ∀ x ∈ ws, x.length ≤ 17 := fun k hk => by
                match k, hk with
                | 0, _ => exact ⟨d1, _, rfl, hd1, rfl, by rw [List.length_map]; exact na, fun x hx => by
                    obtain ⟨e, he, rfl⟩ := List.mem_map.mp hx
                    have m1 := w8 _ (i1 _ (List.mem_map.mpr ⟨e, he, rfl⟩))
                    have m2 := w8 _ (i2 _ (mem_lensOf he))
                    unfold lawT
                    rw [Str.length_append, Str.length_append]
                    show e.1.length + 1 + e.2.length ≤ 17
                    omega⟩
                | 1, _ => exact ⟨d2, _, rfl, hd2, rfl, by omega, fun x hx => Nat.le_trans (w8 _ (i3 _ hx)) (by decide)⟩
                | 2, _ => exact ⟨d3, _, rfl, hd3, rfl, by omega, fun x hx => Nat.le_trans (w8 _ (i4 _ hx)) (by decide)⟩
              refine cutT fun T8 eT8 => ?_
              have go8 : ∀ HB, TC K C p r dx fs uA uP uV P HB → Same HA HB → T8 { nx := fun x H' => Q V.non H', rt := Q } [some (.ref p), some (.ref r), some (.ref N), some (.ref L1), z4, z5, y6, some (.ref L7), some (.str (showF P)), none, none, none] HB := by
                intro HB tB sB
                subst eT8
                refine ⟨_, rfl, p, dx, fs, rfl, tB.ins, p, P, rfl, tB.fb.fr, fun HC sC => ⟨_, rfl, _, rfl, rfl, ?_⟩⟩
                rw [decide_eq_true rfl]
                refine ⟨_, rfl, iteT ?_⟩
                have tC := tB.same sC
                refine ⟨_, rfl, p, dx, fs, rfl, tC.ins, p, P, rfl, tC.fb.fr, _, rfl, ⟨Int.natCast_nonneg _, ?_⟩, _, rfl, r, P, rfl, tC.row, fun HD l sD e n => ?_⟩
                · have : (namesL P).length ≤ 300 := by
                    unfold namesL
                    simp only [List.length_append, List.length_map]
                    omega
                  omega
                · refine ⟨l, _, rfl, .inl (.inl (.inl e)), rfl, ?_⟩
                  rw [List.length_map]
                  show Q (.bl (decide _)) _
                  rw [decide_eq_true rfl]
                  exact qA _ (sB.trans (sC.trans sD))
              refine ⟨⟨_, rfl⟩, _, rfl, L7, rfl, ⟨_, .inl (.inl hL7)⟩, fun D hD => ?_⟩
              refine lc_map (K := K) (fun _ k y => y = .str ([showW (P.arrays.map lawT), showW P.pos, showW P.vals].getD k Str.empty)) (steady_list (K := K) (a := L7) (xs := [V.ref d1, V.ref d2, V.ref d3])) (fun _ _ _ _ _ h => h) (fun H' s' => .inl (.inl (s' _ _ hL7))) (by show (3 : Nat) ≤ 5000; decide) hD (fun k H' Q' hk s' q' => ?_) fun HB ys sB hys py => ?_
              · obtain ⟨d, ws, ed, hd, es, lw, ww⟩ := wk k hk
                rw [ed]
                refine gn_i ⟨rfl, ?_⟩
                refine ⟨_, rfl, Nat.zero_le _, fun N2 hN2 => ?_⟩
                have s2 := same_new (o := .lst []) hN2
                have hd2 := s2 _ _ (s' _ _ hd)
                refine ⟨d, _, N2, rfl, rfl, .inl (.inl hd2), .inl (.inl upd_same), _, rfl, ?_⟩
                have q2 := q' _ (.str (showW ws)) s2 (by rw [es])
                unfold showW at q2
                by_cases c : 0 < ws.length
                · rw [if_pos c] at q2
                  rw [decide_eq_false (fun e => by rw [List.map_eq_nil_iff.mp e] at c; cases c)]
                  refine iteT ⟨⟨_, rfl⟩, _, rfl, _, d, ws, rfl, rfl, .inl (.inl (.inl hd2)), ?_, q2⟩
                  have b := sum_le ww
                  have := Nat.mul_le_mul_right 17 lw
                  show (ws.map (·.length)).sum + ws.length * 1 ≤ 16777216
                  omega
                · rw [if_neg c] at q2
                  have : ws = [] := List.eq_nil_of_length_eq_zero (by omega)
                  rw [decide_eq_true (by rw [this]; rfl : ws.map V.str = [])]
                  exact iteF q2
              · have ey : ys = [showW (P.arrays.map lawT), showW P.pos, showW P.vals].map V.str := paired_range (z := Str.empty) py
                subst ey
                refine ⟨_, D, _, rfl, rfl, .inl (.inl (.inl hys)), ?_, ?_⟩
                · have l1 : (showW (P.arrays.map lawT)).length ≤ 200000 := showW_len (by rw [List.length_map]; omega) fun y hy => by
                    obtain ⟨d, ws, ed, hd, es, lw, ww⟩ := wk 0 (by decide)
                    obtain ⟨e, he, rfl⟩ := List.mem_map.mp hy
                    have m1 := w8 _ (i1 _ (List.mem_map.mpr ⟨e, he, rfl⟩))
                    have m2 := w8 _ (i2 _ (mem_lensOf he))
                    unfold lawT
                    rw [Str.length_append, Str.length_append]
                    show e.1.length + 1 + e.2.length ≤ 3000
                    omega
                  have l2 : (showW P.pos).length ≤ 200000 := showW_len (by omega) fun y hy => Nat.le_trans (w8 _ (i3 _ hy)) (by decide)
                  have l3 : (showW P.vals).length ≤ 200000 := showW_len (by omega) fun y hy => Nat.le_trans (w8 _ (i4 _ hy)) (by decide)
                  show (showW (P.arrays.map lawT)).length + ((showW P.pos).length + ((showW P.vals).length + 0)) + 3 * 3 ≤ 16777216
                  omega
                · rw [show_law]
                  refine gn_i ?_
                  exact go8 HB (tA.same sB) sB
            obtain ⟨xs, sA, lx, at_⟩ := dA_sq t9.a
            refine ⟨_, rfl, r, _, 0, _, rfl, rfl, .inl (.inl t9.lst), rfl, uA, rfl, ⟨xs, sA⟩, fun D hD => ?_⟩
            refine lc_map (K := K) (fun _ k y => y = .str (lawT (P.arrays.getD k e0))) (steady_tup (K := K) (a := uA) (xs := xs)) (fun _ _ _ _ _ h => h) (fun H' s' => Tups.same s' _ _ sA) (by omega) hD (fun k H' Q' hk s' q' => ?_) fun HB ys sB hys py => ?_
            · have hk2 : k < P.arrays.length := by omega
              obtain ⟨u, eu, su⟩ := at_ k hk2
              have m1 := w8 _ (i1 _ (List.mem_map.mpr ⟨P.arrays[k], List.getElem_mem hk2, rfl⟩))
              have m2 := w8 _ (i2 _ (mem_lensOf (List.getElem_mem hk2)))
              refine ⟨u, _, eu, Tups.same s' _ _ su, rfl, _, _, rfl, _, _, rfl, rfl, rfl, ?_⟩
              refine ⟨_, rfl, _, _, rfl, rfl, by rw [sl]; show P.arrays[k].1.length + 1 ≤ 16777216; omega, _, rfl, _, _, rfl, rfl, by rw [sl, Str.length_append]; show P.arrays[k].1.length + 1 + P.arrays[k].2.length ≤ 16777216; omega, q' _ _ (Same.refl _) ?_⟩
              rw [getD_at hk2]
              rfl
            have ey : ys = P.arrays.map (fun e => V.str (lawT e)) := by
              rw [lx] at py
              exact paired_range py
            have s1 := sB
            have tB := t9.same sB
            refine ⟨_, rfl, r, _, 1, _, rfl, rfl, .inl (.inl tB.lst), rfl, uP, _, rfl, .inr (dS_sq tB.p), fun D1 n1 => ?_⟩
            have s2 := same_new (o := .lst (P.pos.map V.str)) n1
            have tC := tB.same s2
            refine ⟨_, rfl, r, _, 2, _, rfl, rfl, .inl (.inl tC.lst), rfl, uV, _, rfl, .inr (dS_sq tC.v), fun D2 n2 => ⟨by rw [sl]; exact (by decide : (3 : Nat) ≤ 16777216), fun L7 n3 => ?_⟩⟩
            have s3 := same_new (o := .lst (P.vals.map V.str)) n2
            have s4 := same_new (o := .lst [V.ref D, V.ref D1, V.ref D2]) n3
            refine gn_i ?_
            refine go7 _ L7 D D1 D2 (tC.same (s3.trans s4)) (sB.trans (s2.trans (s3.trans s4))) upd_same ?_ ((s3.trans s4) _ _ upd_same) (s4 _ _ upd_same)
            rw [List.map_map]
            exact (s2.trans (s3.trans s4)) _ _ (ey ▸ hys)
          refine ⟨by rw [sl]; exact (by decide : (1 : Nat) ≤ 16777216), fun t1 n1 => ⟨by rw [sl]; exact (by decide : (1 : Nat) ≤ 16777216), fun l1 n2 => fun D n3 => ⟨by rw [sl]; exact (by decide : (11 : Nat) ≤ 16777216), fun t2 n4 => ?_⟩⟩⟩
          have s1 := same_new (o := .tup [V.str (Str.ofString "a")]) n1
          have s2 := same_new (o := .lst [V.str (Str.ofString "a")]) n2
          have s3 := same_new (o := MD w D []) n3
          replace n4 : (upd (upd (upd H8 t1 (.tup [V.str (Str.ofString "a")])) l1 (.lst [V.str (Str.ofString "a")])) D (MD w D [])) t2 = none := n4
          have s4 := same_new (o := .tup [V.str (Str.ofString "fresh"), V.str (Str.ofString "qqqqqqqq"), V.str (Str.ofString ""), V.str (Str.ofString "A"), V.str (Str.ofString "ninelette"), V.non, V.int 0, V.ref t1, V.ref l1, V.ref D, V.str (Str.ofString "*1")]) n4
          have s14 := s1.trans (s2.trans (s3.trans s4))
          have b1 := mkT (K := K) (w := w) (ok := fun _ => True) n1 (dz_strs ["a"])
          have b2 := mkL (K := K) (w := w) (ok := fun _ => True) n2 trivial (dz_strs ["a"])
          have b3 : Dz K w (fun _ => True) (upd (upd (upd H8 t1 (.tup [V.str (Str.ofString "a")])) l1 (.lst [V.str (Str.ofString "a")])) D (MD w D [])) (.ref D) (.dict []) := .dct upd_same
          have da : DzAll K w (fun _ => True) (upd (upd (upd H8 t1 (.tup [V.str (Str.ofString "a")])) l1 (.lst [V.str (Str.ofString "a")])) D (MD w D [])) [V.str (Str.ofString "fresh"), V.str (Str.ofString "qqqqqqqq"), V.str (Str.ofString ""), V.str (Str.ofString "A"), V.str (Str.ofString "ninelette"), V.non, V.int 0, V.ref t1, V.ref l1, V.ref D, V.str (Str.ofString "*1")] oddL :=
            .cons (.str _) (.cons (.str _) (.cons (.str _) (.cons (.str _) (.cons (.str _) (.cons .non (.cons (.int _) (.cons (kpT n3 (kpT n2 b1)) (.cons (kpT n3 b2) (.cons b3 (.cons (.str _) .nil))))))))))
          have da4 := dzs_mono (Keep.same s4) _ _ da
          have t9 := t8.same s14
          have sq : SqT K _ t2 _ := .inl (.inl (upd_same (H := (upd (upd (upd H8 t1 (.tup [V.str (Str.ofString "a")])) l1 (.lst [V.str (Str.ofString "a")])) D (MD w D []))) (a := t2) (o := .tup [V.str (Str.ofString "fresh"), V.str (Str.ofString "qqqqqqqq"), V.str (Str.ofString ""), V.str (Str.ofString "A"), V.str (Str.ofString "ninelette"), V.non, V.int 0, V.ref t1, V.ref l1, V.ref D, V.str (Str.ofString "*1")])))
          refine ⟨t2, rfl, ⟨_, sq⟩, ?_⟩
          obtain ⟨H9, e9⟩ : ∃ H9, H9 = upd (upd (upd (upd H8 t1 (.tup [V.str (Str.ofString "a")])) l1 (.lst [V.str (Str.ofString "a")])) D (MD w D [])) t2 (.tup [V.str (Str.ofString "fresh"), V.str (Str.ofString "qqqqqqqq"), V.str (Str.ofString ""), V.str (Str.ofString "A"), V.str (Str.ofString "ninelette"), V.non, V.int 0, V.ref t1, V.ref l1, V.ref D, V.str (Str.ofString "*1")]) := ⟨_, rfl⟩
          have s0 : Same H9 (upd (upd (upd (upd H8 t1 (.tup [V.str (Str.ofString "a")])) l1 (.lst [V.str (Str.ofString "a")])) D (MD w D [])) t2 (.tup [V.str (Str.ofString "fresh"), V.str (Str.ofString "qqqqqqqq"), V.str (Str.ofString ""), V.str (Str.ofString "A"), V.str (Str.ofString "ninelette"), V.non, V.int 0, V.ref t1, V.ref l1, V.ref D, V.str (Str.ofString "*1")])) := by rw [e9]; exact Same.refl _
          rw [← e9] at sq da4 t9 s14
          have ot := odd_tells pok od
          refine for_steady steady_tup (fun i σ H' => Same H9 H' ∧ ∃ z6, σ = [some (.ref p), some (.ref r), some (.ref N), some (.ref L1), z4, z5, z6, none, none, none, none, none]) ⟨s0, none, rfl⟩ (fun i σ H' hi h => Tups.same h.1 _ _ sq) ?_ ?_
          · rintro i σ H' hi ⟨s', z6', rfl⟩
            have hi11 : i < 11 := hi
            obtain ⟨o1, o2, o3⟩ := ot i hi11
            have dv := dz_same s' _ _ (dz_at da4 (k := i) hi11)
            generalize List.getD [V.str (Str.ofString "fresh"), V.str (Str.ofString "qqqqqqqq"), V.str (Str.ofString ""), V.str (Str.ofString "A"), V.str (Str.ofString "ninelette"), V.non, V.int 0, V.ref t1, V.ref l1, V.ref D, V.str (Str.ofString "*1")] i V.non = v at *
            generalize oddL.getD i .none = d at *
            have ta := t9.same s'
            refine gn_i ?_
            refine ⟨_, rfl, _, rfl, p, dx, fs, rfl, ta.ins, fun _ => True, p, P, v, d, rfl, ta.fb.fr, dv, _, rfl, _, rfl, ?_⟩
            rw [o1]
            refine iteF ⟨_, rfl, p, dx, fs, rfl, ta.ins, h6 _ (by decide +kernel), _, rfl, fun _ => True, p, P, v, d, rfl, ta.fb.fr, dv, o3, ?_⟩
            refine ⟨fun _ => True, .bl (freshD P d), .bool (freshD P d), rfl, .bl _, (fit_bl _).bp (by decide), Nat.zero_le _, ?_⟩
            refine ⟨_, rfl, by rw [sl]; exact (by decide : (2 : Nat) ≤ 16777216), fun t3 m1 => ?_⟩
            have sx := same_new (o := .tup [V.str (Str.ofString "fresh"), V.str (Str.ofString "qqqqqqqq")]) m1
            refine ⟨fun _ => True, d, t3, ["fresh", "qqqqqqqq"], dz_same sx _ _ dv, rfl, .inl (.inl upd_same), ?_⟩
            refine ⟨fun _ => True, .bl _, .bool (oneOfD ["fresh", "qqqqqqqq"] d), rfl, .bl _, (fit_bl _).bp (by decide), Nat.zero_le _, ?_⟩
            refine ⟨rfl, _, rfl, ?_⟩
            rw [o2, decide_eq_true rfl]
            exact iteF ⟨s'.trans sx, _, rfl⟩
          · rintro σ H' ⟨s', z6', rfl⟩
            exact go6 H' z6' (t9.same s') (s14.trans s')
        obtain ⟨xs, sA, lx, at_⟩ := dA_sq t7.a
        refine ⟨_, rfl, r, _, 0, _, rfl, rfl, .inl (.inl t7.lst), rfl, uA, rfl, ⟨xs, sA⟩, fun D hD => ?_⟩
        refine lc_none (steady_tup (K := K) (a := uA) (xs := xs)) (fun H2 s2 => Tups.same s2 _ _ sA) hD (fun j H2 Q' hj s2 q' => ?_) fun H2 s2 hD2 => ?_
        · have hk2 : j < P.arrays.length := by omega
          obtain ⟨u, eu, su⟩ := at_ j hk2
          have ta := t7.same s2
          refine ⟨u, _, eu, Tups.same s2 _ _ su, rfl, _, _, rfl, _, _, rfl, rfl, rfl, ?_⟩
          refine ⟨_, rfl, p, dx, fs, rfl, ta.ins, z6 (by decide +kernel), _, rfl, p, P, P.arrays[j].1, P.arrays[j].2, rfl, ta.fb, List.getElem_mem hk2, _, rfl, rfl, _, rfl, ?_⟩
          rw [decide_eq_true rfl]
          exact q' _ _ (Same.refl _)
        · refine ⟨Nat.zero_le _, fun N2 hN2 => ?_⟩
          have s3 := same_new (o := .lst []) hN2
          refine ⟨D, _, N2, rfl, rfl, .inl (.inl (s3 _ _ hD2)), .inl (.inl upd_same), _, rfl, ?_⟩
          rw [decide_eq_true rfl]
          exact iteF (go5 _ (t7.same (s2.trans s3)) (s2.trans s3))
      have sP := dS_sq t6.p
      have sV := dS_sq t6.v
      refine ⟨_, rfl, _, rfl, r, _, 1, _, rfl, rfl, .inl (.inl t6.lst), rfl, uP, _, rfl, .inr sP, fun D1 n1 => ⟨by rw [sl]; exact (by decide : (2 : Nat) ≤ 16777216), fun t1 m1 => ?_⟩⟩
      have s1 := same_new (o := .lst (P.pos.map V.str)) n1
      have s2 := same_new (o := .tup [V.str (Str.ofString "position"), V.ref D1]) m1
      have s12 := s1.trans s2
      have t7 := t6.same s12
      refine ⟨_, rfl, r, _, 2, _, rfl, rfl, .inl (.inl t7.lst), rfl, uV, _, rfl, .inr (Tups.same s12 _ _ sV), fun D2 n2 => ⟨by rw [sl]; exact (by decide : (2 : Nat) ≤ 16777216), fun t2 m2 => ⟨by rw [sl]; exact (by decide : (2 : Nat) ≤ 16777216), fun L2 m3 => ?_⟩⟩⟩
      have s3 := same_new (o := .lst (P.vals.map V.str)) n2
      have s4 := same_new (o := .tup [V.str (Str.ofString "value"), V.ref D2]) m2
      have s5 := same_new (o := .lst [V.ref t1, V.ref t2]) m3
      have s35 := s3.trans (s4.trans s5)
      have s15 := s12.trans s35
      refine ⟨L1, L2, _, _, rfl, rfl, s15 _ _ hL1, upd_same, by rw [sl]; exact (by decide : (2 + 2 : Nat) ≤ 16777216), fun L3 m4 => ?_⟩
      have s7 := same_new (o := .lst ([g1, g2] ++ [V.ref t1, V.ref t2])) m4
      have s17 := s15.trans s7
      have G3 : Grp K _ P (V.ref t1) := ⟨t1, "position", D1, P.pos, rfl, .inl (.inl ((s35.trans s7) _ _ upd_same)), ((s2.trans s35).trans s7) _ _ upd_same, by have := pok.np; omega, j3⟩
      have G4 : Grp K _ P (V.ref t2) := ⟨t2, "value", D2, P.vals, rfl, .inl (.inl ((s5.trans s7) _ _ upd_same)), ((s4.trans s5).trans s7) _ _ upd_same, by have := pok.nv; omega, j4⟩
      have GA : ∀ i, i < 4 → Grp K _ P (([g1, g2] ++ [V.ref t1, V.ref t2]).getD i .non) := fun i hi => by
        match i, hi with
        | 0, _ => exact G1.same s17
        | 1, _ => exact G2.same s17
        | 2, _ => exact G3
        | 3, _ => exact G4
      have t8 := t6.same s17
      have hL3 : SqL K (upd (upd (upd (upd (upd (upd H6 D1 (.lst (P.pos.map V.str))) t1 (.tup [V.str (Str.ofString "position"), V.ref D1])) D2 (.lst (P.vals.map V.str))) t2 (.tup [V.str (Str.ofString "value"), V.ref D2])) L2 (.lst [V.ref t1, V.ref t2])) L3 (.lst ([g1, g2] ++ [V.ref t1, V.ref t2]))) L3 ([g1, g2] ++ [V.ref t1, V.ref t2]) := .inl (.inl upd_same)
      refine ⟨L3, rfl, ⟨_, hL3⟩, ?_⟩
      clear G3 G4 G1 G2
      generalize upd (upd (upd (upd (upd (upd H6 D1 (.lst (P.pos.map V.str))) t1 (.tup [V.str (Str.ofString "position"), V.ref D1])) D2 (.lst (P.vals.map V.str))) t2 (.tup [V.str (Str.ofString "value"), V.ref D2])) L2 (.lst [V.ref t1, V.ref t2])) L3 (.lst ([g1, g2] ++ [V.ref t1, V.ref t2])) = H8 at *
      refine for_steady steady_list (fun i σ H' => Same H8 H' ∧ ∃ z4 z5, σ = [some (.ref p), some (.ref r), some (.ref N), some (.ref L1), z4, z5, none, none, none, none, none, none]) ⟨Same.refl _, none, none, rfl⟩ (fun i σ H' hi h => sqL_same h.1 hL3) ?_ ?_
      · rintro i σ H' hi ⟨s', z4, z5, rfl⟩
        obtain ⟨t, k, Lx, xs, ev, ht, hL, lx, ha⟩ := (GA i hi).same s'
        have t9 := t8.same s'
        rw [ev]
        refine ⟨t, _, rfl, ht, rfl, _, _, rfl, _, _, rfl, rfl, ?_⟩
        refine ⟨_, rfl, Lx, rfl, ⟨_, .inl (.inl hL)⟩, fun D hD => ?_⟩
        refine lc_none (steady_list (K := K) (a := Lx) (xs := xs.map V.str)) (fun H2 s2 => .inl (.inl (s2 _ _ hL))) hD (fun j H2 Q' hj s2 q' => ?_) fun H2 s2 hD2 => ?_
        · rw [List.length_map] at hj
          have ex : (xs.map V.str).getD j .non = .str xs[j] := by
            rw [List.getD_eq_getElem?_getD, List.getElem?_map, List.getElem?_eq_getElem hj]; rfl
          rw [ex]
          have hx := ha _ (List.getElem_mem hj)
          have hn := kinds_names hx
          have ta := t9.same s2
          refine gn_i ⟨rfl, ?_⟩
          refine ⟨_, rfl, p, dx, fs, rfl, ta.ins, z6 (by decide +kernel), _, rfl, p, P, xs[j], k, rfl, ta.fb.fr, hx, _, rfl, rfl, _, rfl, ?_⟩
          rw [decide_eq_true rfl]
          refine iteF ⟨_, rfl, _, rfl, p, dx, fs, rfl, ta.ins, fun _ => True, p, P, .str xs[j], .str xs[j], rfl, ta.fb.fr, .str _, _, rfl, _, rfl, ?_⟩
          rw [show hasD P (.str xs[j]) = true from decide_eq_true hn]
          refine iteF ⟨_, rfl, p, dx, fs, rfl, ta.ins, z6 (by decide +kernel), _, rfl, fun _ => True, p, P, .str xs[j], .str xs[j], rfl, ta.fb.fr, .str _, decide_eq_true (name_le (pok.nm _ hn)), _, rfl, ?_⟩
          rw [show freshD P (.str xs[j]) = false by show (isNameS xs[j] && decide (xs[j] ∉ namesL P)) = false; rw [decide_eq_false (fun h => h hn), Bool.and_false]]
          exact q' _ _ (Same.refl _)
        · refine ⟨Nat.zero_le _, fun N2 hN2 => ?_⟩
          have s3 := same_new (o := .lst []) hN2
          refine ⟨D, _, N2, rfl, rfl, .inl (.inl (s3 _ _ hD2)), .inl (.inl upd_same), _, rfl, ?_⟩
          rw [decide_eq_true rfl]
          exact iteF ⟨(s'.trans s2).trans s3, _, _, rfl⟩
      · rintro σ H' ⟨s', z4, z5, rfl⟩
        exact go4 H' z4 z5 (t8.same s') (s17.trans s')
    obtain ⟨xs, sA, lx, at_⟩ := dA_sq t5.a
    refine ⟨_, rfl, r, _, 0, _, rfl, rfl, .inl (.inl t5.lst), rfl, uA, rfl, ⟨xs, sA⟩, fun D hD => ?_⟩
    refine lc_map (K := K) (te := tVar 9) (fun _ k y => y = .str (P.arrays.getD k e0).1) (steady_tup (K := K) (a := uA) (xs := xs)) (fun _ _ _ _ _ h => h) (fun H' s' => Tups.same s' _ _ sA) (by have := pok.na; omega) hD (fun k H' Q' hk s' q' => ?_) fun H6 ys s6 hys py => ?_
    · have hk2 : k < P.arrays.length := by omega
      obtain ⟨u, eu, su⟩ := at_ k hk2
      refine ⟨u, _, eu, Tups.same s' _ _ su, rfl, _, _, rfl, _, _, rfl, rfl, rfl, ?_⟩
      refine ⟨_, rfl, q' _ _ (Same.refl _) ?_⟩
      rw [getD_at hk2]
    have ey : ys = (P.arrays.map (·.1)).map V.str := by
      refine List.ext_getElem? fun i => ?_
      have lp := paired_len py
      rw [List.length_range] at lp
      by_cases c : i < P.arrays.length
      · have ci : i < ys.length := by omega
        have := paired_at py (i := i) (a := i) (b := ys[i]) (by rw [List.getElem?_range (by omega)]) (List.getElem?_eq_getElem ci)
        rw [List.getElem?_eq_getElem ci, this, getD_at c, List.getElem?_map, List.getElem?_map, List.getElem?_eq_getElem c]
        rfl
      · rw [List.getElem?_eq_none (by omega), List.getElem?_eq_none (by rw [List.length_map, List.length_map]; omega)]
    subst ey
    refine ⟨by rw [sl]; exact (by decide : (2 : Nat) ≤ 16777216), fun t1 n1 => ?_⟩
    have s1 := same_new (o := .tup [V.str (Str.ofString "array"), V.ref D]) n1
    have t7 := (t5.same s6).same s1
    refine ⟨_, rfl, r, P, rfl, t7.row, fun H8 l8 s8 g8 n8 => ⟨by rw [sl]; exact (by decide : (2 : Nat) ≤ 16777216), fun t2 n2 => ⟨by rw [sl]; exact (by decide : (2 : Nat) ≤ 16777216), fun L1 n3 => ?_⟩⟩⟩
    have s2 := same_new (o := .tup [V.str (Str.ofString "length"), V.ref l8]) n2
    have s3 := same_new (o := .lst [V.ref t1, V.ref t2]) n3
    have s23 := s2.trans s3
    refine gn_i ?_
    refine go3 _ L1 _ _ (t7.same (s8.trans s23)) (((s6.trans s1).trans s8).trans s23) upd_same ⟨t1, "array", D, P.arrays.map (·.1), rfl, .inl (.inl ((s8.trans s23) _ _ upd_same)), (s1.trans (s8.trans s23)) _ _ hys, by have := pok.na; rw [List.length_map]; omega, j1⟩
      ⟨t2, "length", l8, lensOf P.arrays, rfl, .inl (.inl (s3 _ _ upd_same)), s23 _ _ g8, by have := pok.na; omega, j2⟩
end
end Fc
namespace Fc
open PySem L2 PyProof.Rows
/-! slices and sums of tuples, whatever is new -/
section
variable {X : Cx}
def rSlD (K : PySem.W.Frag) : V → Option Int → Option Int → Hp → VK → Prop := fun x lo hi H Q => ∃ a xs, x = .ref a ∧ SqT K H a xs ∧ ∀ p H', Same H H' → SqT K H' p (cutV xs lo hi) → Q (.ref p) H'
theorem sl_tupD : SlR X (rSlD X.K) := by
  intro pins s σ H x v vl vu lo hi sl Q I rx h1 h2 h3 ⟨a, xs, e, sa, q⟩
  refine sl_tupA pins s σ H x v vl vu lo hi sl Q I rx h1 h2 h3 ⟨a, xs, e, sa, fun hc => q a H (Same.refl H) ?_, fun _ p hp => q p _ (same_new hp) (.inl (.inl upd_same))⟩
  have : cutV xs lo hi = xs := by
    unfold cutV
    rw [hc.1, hc.2, List.drop_zero, Nat.sub_zero, List.take_length]
  rw [this]; exact sa
def rCatD (K : PySem.W.Frag) : R2 := fun x y H Q => ∃ a b xs ys, x = .ref a ∧ y = .ref b ∧ SqT K H a xs ∧ SqT K H b ys ∧ xs.length + ys.length ≤ sizeLine ∧ ∀ p H', Same H H' → SqT K H' p (xs ++ ys) → Q (.ref p) H'
theorem op_catD : OpR X (binaryOp .Add) (rCatD X.K) := by
  intro pins s σ H x y v u Q I rx ry ⟨a, b, xs, ys, e1, e2, sa, sb, z, q⟩
  refine op_catA pins s σ H x y v u Q I rx ry ⟨a, b, xs, ys, e1, e2, sa, sb, z, fun h => q b H (Same.refl H) (by rw [h]; exact sb), fun _ h => q a H (Same.refl H) (by rw [h, List.append_nil]; exact sa), fun _ _ p hp => q p _ (same_new hp) (.inl (.inl upd_same))⟩
end
abbrev okS (S G : Addr) : Addr → Prop := fun a => a ≠ S ∧ a ≠ G
section
variable {K : PySem.W.Frag} {w : World}
theorem dzs_mem {ok : Addr → Prop} {H : Hp} {vs : List V} {ds : List PyData} (h : DzAll K w ok H vs ds) {v : V} (hv : v ∈ vs) : ∃ d ∈ ds, Dz K w ok H v d := by
  induction ds generalizing vs with
  | nil => cases h; exact absurd hv List.not_mem_nil
  | cons d ds ih =>
    cases h with
    | cons a b =>
      rcases List.mem_cons.mp hv with rfl | hv
      · exact ⟨d, List.mem_cons_self .., a⟩
      · obtain ⟨e, he, q⟩ := ih b hv
        exact ⟨e, List.mem_cons_of_mem _ he, q⟩
end
def spPartsW (K : PySem.W.Frag) : Sp := fun vs H Q _ => ∃ S G n, vs = [.ref S] ∧ SkAt H S G n ∧ n + 200 < 2 ^ 60 ∧ ∀ H' r P, ButSG S G H H' → SkAt H' S G (n + 66) → H r = none → RowAt K H' r P → okB P = true → (∀ x ∈ namesL P, x ∈ W16) → Q (.ref r) H'
section
variable {K : PySem.W.Frag} {mg : Str → Option Value} {base : Heap} {P : Program} {w : World}
theorem ok37W {f : Addr} {fd : FuncData} (F : Fun K "_law_parts" "_law_parts" (topS 37) f fd) (B : Blt mg) (c34 : Cal P w K mg base 1 "_law_pull" (spPull K)) (c36 : Cal P w K mg base 2 "_law_few_of" (spFew K)) : FnOk P w K mg base CX0 3 f fd ["_law_skein_here"] (spPartsW K) := by
  refine F.ok sc37 (fun vs H Q E h => ?_) (fun cdv A outer s H vs Q E hr h => ?_)
  · obtain ⟨S, G, n, rfl, _⟩ := h
    rfl
  · refine ⟨_, pss_cons (ps_set (i := 1) sc37.nd rfl (Or.inl rfl) (pe_lst (pa_cons pe_str (pa_cons pe_str (pa_cons pe_str (pa_cons pe_str (pa_cons pe_str (pa_cons pe_str (pa_cons pe_str (pa_cons pe_str (pa_cons pe_str (pa_cons pe_str (pa_cons pe_str (pa_cons pe_str (pa_cons pe_str (pa_cons pe_str (pa_cons pe_str (pa_cons pe_str pa_nil))))))))))))))))))
      (pss_cons (ps_par (i := 1) (j := 2) rfl sc37.nd rfl rfl (by decide) rfl rfl (pa_cons (pe_c c36 hr (by decide) (by rfl) (pa_cons (pv 0) (pa_cons (pv 1) (pa_cons pe_int pa_nil)))) (pa_cons (pe_lst pa_nil) pa_nil)) (by rfl))
      (pss_cons (ps_for PassesOwn.never rfl (pi_range1 (by rfl) B.range (pa_cons (pe_c c34 hr (by decide) (by rfl) (pa_cons (pv 0) (pa_cons pe_int pa_nil))) pa_nil)) (pg_name (i := 3) sc37.nd rfl (Or.inl rfl))
        (pss_one (ps_expr (pe_bm PySem.F.plainAttrs_list PySem.F.slot_list_append PySem.F.type_list_append mt_append (pv 2) (pa_cons (pe_tup (pa_cons (pe_ix ix_list (pv 1) (pv 3) (fun _ _ => rfl)) (pa_cons (pe_ix ix_list (pv 1) (pe_op op_add pe_int (pe_c c34 hr (by decide) (by rfl) (pa_cons (pv 0) (pa_cons pe_int pa_nil)))) (fun _ _ => rfl)) pa_nil))) pa_nil)))))
      (pss_one (ps_ret (pe_lst (pa_cons (pe_callTy call_tuple_of (by rfl) B.tuple boot_tuple (pa_cons (pv 2) pa_nil))
        (pa_cons (pe_callTy call_tuple_of (by rfl) B.tuple boot_tuple (pa_cons (pe_slice sl_list (pv 1) (po_some pe_int) (po_some (pe_op op_add pe_int (pe_c c34 hr (by decide) (by rfl) (pa_cons (pv 0) (pa_cons pe_int pa_nil)))))) pa_nil))
        (pa_cons (pe_callTy call_tuple_of (by rfl) B.tuple boot_tuple (pa_cons (pe_slice sl_list (pv 1) (po_some pe_int) (po_some (pe_op op_add pe_int (pe_c c34 hr (by decide) (by rfl) (pa_cons (pv 0) (pa_cons pe_int pa_nil)))))) pa_nil)) pa_nil)))))))), ?_⟩
    obtain ⟨S, G, n, rfl, sk, nb, q⟩ := h
    have sl : sizeLine = 16777216 := sizeLine_eq
    refine ⟨by rw [sl]; exact (by decide : 16 ≤ 16777216), fun A hA => ?_⟩
    have s0 := same_new (o := .lst (W16.map V.str)) hA
    obtain ⟨ne, gs, m, c, hS, hG, hm, hc⟩ := id sk
    have nAS : A ≠ S := fun e => by rw [e, hS] at hA; cases hA
    have nAG : A ≠ G := fun e => by rw [e, hG] at hA; cases hA
    have sk0 : SkAt (upd H A (.lst (W16.map V.str))) S G n := ⟨ne, gs, m, c, s0 _ _ hS, s0 _ _ hG, hm, hc⟩
    have hA0 : (upd H A (.lst (W16.map V.str))) A = some (.lst (W16.map V.str)) := upd_same
    refine ⟨_, rfl, _, rfl, S, G, n, A, W16.map V.str, 12, rfl, sk0, by omega, .inl (.inl hA0), nAS, nAG, by decide, fun H1 F1 ys zs b1 sk1 nF hF ly pm => ?_⟩
    have bb : ButSG S G H H1 := (ButSG.same s0).trans b1
    have nF0 : H F1 = none := Same.none_of s0 nF
    have nFS : F1 ≠ S := fun e => by rw [e, hS] at nF0; cases nF0
    have nFG : F1 ≠ G := fun e => by rw [e, hG] at nF0; cases nF0
    clear hS hG hm hc sk0 hA0
    obtain ⟨ws, rfl, nd, mem⟩ := drawn_words pm
    have l12 : ws.length = 12 := by rw [List.length_map] at ly; exact ly
    obtain ⟨ne, gs, m, c, hS, hG, hm, hc⟩ := id sk1
    refine ⟨Nat.zero_le _, fun M hM => ?_⟩
    have s2 := same_new (o := .lst ([] : List V)) hM
    have nMS : M ≠ S := fun e => by rw [e, hS] at hM; cases hM
    have nMG : M ≠ G := fun e => by rw [e, hG] at hM; cases hM
    have nMF : M ≠ F1 := fun e => by rw [e, hF] at hM; cases hM
    have sk2 : SkAt (upd H1 M (.lst [])) S G (n + 60) := ⟨ne, gs, m, c, s2 _ _ hS, s2 _ _ hG, hm, hc⟩
    have hM0 : H M = none := by
      cases e : H M with
      | none => rfl
      | some o => rw [bb _ _ nMS nMG e] at hM; cases hM
    refine ⟨_, _, rfl, _, rfl, S, G, n + 60, 4, rfl, sk2, by omega, by decide, by decide, fun hN H3 r0 r1 b3 sk3 => ⟨_, rfl, by omega, by omega, ?_⟩⟩
    have hF2 := s2 _ _ hF
    have hM2 : (upd H1 M (.lst ([] : List V))) M = some (.lst []) := upd_same
    have hF3 := b3 _ _ nFS nFG hF2
    have hM3 := b3 _ _ nMS nMG hM2
    have bb3 : ButSG S G H H3 := (bb.trans (ButSG.same s2)).trans b3
    clear hF2 hM2 hS hG hm hc sk2 hF hM b3 s2
    have atW : ∀ i, i < 12 → atI (ws.map V.str) (i : Nat) = some (V.str (ws.getD i Str.empty)) := fun i hi => atI_nat (by
      rw [List.getElem?_map, List.getElem?_eq_getElem (by omega), List.getD_eq_getElem?_getD, List.getElem?_eq_getElem (by omega)]; rfl)
    refine for_steady steady_rng (fun i σ H' => ∃ (b : Nat → Nat) (z : Option V) (rs : List V), σ = [some (.ref S), some (.ref F1), some (.ref M), z] ∧ (∀ t, b t ≤ 1) ∧ ButSG S G H H' ∧ SkAt H' S G (n + 61 + i) ∧ H' F1 = some (.lst (ws.map V.str)) ∧ H' M = some (.lst rs) ∧ DpAll K H' rs (rowsB ws b i))
      ⟨fun _ => 0, _, [], rfl, fun _ => Nat.zero_le _, bb3, by rw [show n + 61 + ((0 : Nat) : Int) = n + 60 + 1 by omega]; exact sk3, hF3, hM3, .nil⟩ (fun _ _ _ _ _ => trivial) ?_ ?_
    · rintro i σ H4 hi ⟨b, z, rs, rfl, hb, b4, sk4, hF4, hM4, dr⟩
      have hi3 : i < 3 := by omega
      refine ⟨_, rfl, .inl ⟨rfl, _, .inl (.inl hM4)⟩, _, rfl, _, rfl, F1, _, _, _, rfl, rfl, .inl (.inl hF4), by rw [Int.zero_add]; exact atW i (by omega), _, rfl, _, rfl, S, G, n + 61 + i, 2, rfl, sk4, by omega, by decide, by decide, fun r H5 q0 q1 b5 sk5 => ?_⟩
      have hF5 := b5 _ _ nFS nFG hF4
      have hM5 := b5 _ _ nMS nMG hM4
      refine ⟨_, _, rfl, rfl, F1, _, _, _, rfl, rfl, .inl (.inl hF5), by rw [show (3 : Int) + r = ((3 + r.toNat : Nat) : Int) by omega]; exact atW _ (by omega), by rw [sl]; exact (by decide : 2 ≤ 16777216), fun t ht => ?_⟩
      have s6 := same_new (o := .tup [V.str (ws.getD i Str.empty), V.str (ws.getD (3 + r.toNat) Str.empty)]) ht
      have hM6 := s6 _ _ hM5
      have lr : rs.length = i := by rw [dp_len dr]; unfold rowsB; rw [List.length_map, List.length_range]
      have tp := (Tups.upd (K := K) (H := upd H5 t (.tup [V.str (ws.getD i Str.empty), V.str (ws.getD (3 + r.toNat) Str.empty)])) (a := M) (o := .lst (rs ++ [V.ref t])) fun u e => by rw [hM6] at e; cases e; exact True.intro)
      refine ⟨M, rs, _, rfl, rfl, hM6, by rw [sl]; omega, fun t' => if t' = i then r.toNat else b t', _, rs ++ [.ref t], rfl, fun t' => ?_, fun x o p q e => ?_, ?_, ?_, upd_same, ?_⟩
      · show (if t' = i then r.toNat else b t') ≤ 1
        split
        · omega
        · exact hb t'
      · rw [upd_ne (ne_of_none e hM0)]
        exact ((b4.trans b5).trans (ButSG.same s6)) x o p q e
      · obtain ⟨ne, gs, m, c, a1, a2, a3⟩ := sk5
        exact ⟨ne, gs, m, c, by rw [upd_ne nMS.symm]; exact s6 _ _ a1, by rw [upd_ne nMG.symm]; exact s6 _ _ a2, a3.1, a3.2.1, by have := a3.2.2; omega⟩
      · rw [upd_ne nMF.symm]; exact s6 _ _ hF5
      · rw [rowsB_succ]
        exact dps_app (dps_tups (((tups_but b5 sk4).trans (Tups.same s6)).trans tp) _ _ (rowsB_flat ws b i) dr) (.cons (.tup (tp _ _ (.inl (.inl upd_same))) (.cons (.str _) (.cons (.str _) .nil))) .nil)
    · rintro σ H4 ⟨b, z, rs, rfl, hb, b4, sk4, hF4, hM4, dr⟩
      refine ⟨_, rfl, M, rs, rfl, .inl ⟨.inl (.inl hM4), fun t1 h1 => ?_⟩⟩
      have s5 := same_new (o := .tup rs) h1
      have sk5 : SkAt (upd H4 t1 (.tup rs)) S G (n + 64) := by
        obtain ⟨ne, gs, m, c, a1, a2, a3⟩ := sk4
        exact ⟨ne, gs, m, c, s5 _ _ a1, s5 _ _ a2, a3.1, a3.2.1, by have := a3.2.2; omega⟩
      refine ⟨_, rfl, 6, rfl, _, rfl, S, G, n + 64, 4, rfl, sk5, by omega, by decide, by decide, fun j H6 j0 j1 b6 sk6 => ?_⟩
      have hF6 := b6 _ _ nFS nFG (s5 _ _ hF4)
      refine ⟨_, _, rfl, rfl, _, rfl, F1, _, rfl, .inl (.inl hF6), fun L hL => ⟨L, _, rfl, .inl ⟨.inl (.inl upd_same), fun t2 h2 => ?_⟩⟩⟩
      have cut : ∀ (a : Nat) (j : Int), 0 ≤ j → a + j ≤ 12 → cutV (ws.map V.str) (some (a : Int)) (some ((a : Int) + j)) = ((ws.drop a).take j.toNat).map V.str := fun a j h0 h1 => by
        unfold cutV
        have e : (a : Int) + j = ((a + j.toNat : Nat) : Int) := by omega
        rw [e, HT.sIx_nat, HT.sIx_nat, List.length_map, l12, List.map_take, List.map_drop, Nat.min_eq_left (by omega), Nat.min_eq_left (by omega), Nat.add_sub_cancel_left]
      have c6 : cutV (ws.map V.str) (some 6) (some (6 + j)) = ((ws.drop 6).take j.toNat).map V.str := cut 6 j j0 (by omega)
      rw [c6] at h2 ⊢
      have s7 := same_new (o := .lst (((ws.drop 6).take j.toNat).map V.str)) hL
      have s8 := same_new (o := .tup (((ws.drop 6).take j.toNat).map V.str)) h2
      have s78 := s7.trans s8
      have sk8 : SkAt (upd (upd H6 L (.lst (((ws.drop 6).take j.toNat).map V.str))) t2 (.tup (((ws.drop 6).take j.toNat).map V.str))) S G (n + 65) := by
        obtain ⟨ne, gs, m, c, a1, a2, a3⟩ := sk6
        exact ⟨ne, gs, m, c, s78 _ _ a1, s78 _ _ a2, a3.1, a3.2.1, by have := a3.2.2; omega⟩
      have d1 : Dp K (upd H4 t1 (.tup rs)) (.ref t1) (.tuple (rowsB ws b hN.toNat)) := .tup (.inl (.inl upd_same)) (dps_mono s5 _ _ dr)
      have d2 : SqT K (upd (upd H6 L (.lst (((ws.drop 6).take j.toNat).map V.str))) t2 (.tup (((ws.drop 6).take j.toNat).map V.str))) t2 (((ws.drop 6).take j.toNat).map V.str) := .inl (.inl upd_same)
      have tp1 := (tups_but (K := K) b6 sk5).trans (Tups.same s78)
      have bb8 : ButSG S G H _ := ((b4.trans (ButSG.same s5)).trans b6).trans (ButSG.same s78)
      have hF8 := s78 _ _ hF6
      generalize upd (upd H6 L (.lst (((ws.drop 6).take j.toNat).map V.str))) t2 (.tup (((ws.drop 6).take j.toNat).map V.str)) = H8 at *
      refine ⟨_, rfl, 9, rfl, _, rfl, S, G, n + 65, 4, rfl, sk8, by omega, by decide, by decide, fun k H9 k0 k1 b9 sk9 => ?_⟩
      have hF9 := b9 _ _ nFS nFG hF8
      refine ⟨_, _, rfl, rfl, _, rfl, F1, _, rfl, .inl (.inl hF9), fun L2 hL2 => ⟨L2, _, rfl, .inl ⟨.inl (.inl upd_same), fun t3 h3 => ?_⟩⟩⟩
      have c9 : cutV (ws.map V.str) (some 9) (some (9 + k)) = ((ws.drop 9).take k.toNat).map V.str := cut 9 k k0 (by omega)
      rw [c9] at h3 ⊢
      have s10 := (same_new (o := .lst (((ws.drop 9).take k.toNat).map V.str)) hL2).trans (same_new (o := .tup (((ws.drop 9).take k.toNat).map V.str)) h3)
      have d3 : SqT K (upd (upd H9 L2 (.lst (((ws.drop 9).take k.toNat).map V.str))) t3 (.tup (((ws.drop 9).take k.toNat).map V.str))) t3 (((ws.drop 9).take k.toNat).map V.str) := .inl (.inl upd_same)
      have sk10 : SkAt (upd (upd H9 L2 (.lst (((ws.drop 9).take k.toNat).map V.str))) t3 (.tup (((ws.drop 9).take k.toNat).map V.str))) S G (n + 66) := by
        obtain ⟨ne, gs, m, c, a1, a2, a3⟩ := sk9
        exact ⟨ne, gs, m, c, s10 _ _ a1, s10 _ _ a2, a3.1, a3.2.1, by have := a3.2.2; omega⟩
      have tp2 := (tups_but (K := K) b9 sk8).trans (Tups.same s10)
      have bbX : ButSG S G H _ := (bb8.trans b9).trans (ButSG.same s10)
      generalize upd (upd H9 L2 (.lst (((ws.drop 9).take k.toNat).map V.str))) t3 (.tup (((ws.drop 9).take k.toNat).map V.str)) = HX at *
      refine ⟨by rw [sl]; exact (by decide : 3 ≤ 16777216), fun R hR => ?_⟩
      have sR := same_new (o := .lst [V.ref t1, V.ref t2, V.ref t3]) hR
      have nR : H R = none := by
        cases e : H R with
        | none => rfl
        | some o =>
          obtain ⟨_, gs, m, c, a1, a2, _⟩ := sk10
          have p : R ≠ S := fun e => by rw [e, a1] at hR; cases hR
          have p2 : R ≠ G := fun e => by rw [e, a2] at hR; cases hR
          rw [bbX _ _ p p2 e] at hR; cases hR
      have okP := drawn_ok l12 nd (b := b) (h := hN.toNat) (j := j.toNat) (k := k.toNat) (by omega) hb (by omega) (by omega)
      obtain ⟨m1, m2, m3, m4⟩ := drawn_mem l12 (b := b) (h := hN.toNat) (j := j.toNat) (k := k.toNat) (by omega) hb (by omega) (by omega)
      have w16 : ∀ x ∈ namesL (drawnP ws hN.toNat b j.toNat k.toNat), x ∈ W16 := fun x hx2 => by
        have inW : ∀ {i : Nat} {x : Str}, ws[i]? = some x → x ∈ W16 := fun e => mem _ (List.mem_of_getElem? e)
        unfold namesL at hx2
        rcases List.mem_append.mp hx2 with hx2 | hx2
        · obtain ⟨i, _, e⟩ := m1 x hx2; exact inW e
        rcases List.mem_append.mp hx2 with hx2 | hx2
        · obtain ⟨i, _, _, e⟩ := m2 x hx2; exact inW e
        rcases List.mem_append.mp hx2 with hx2 | hx2
        · obtain ⟨i, _, _, e⟩ := m3 x hx2; exact inW e
        · obtain ⟨i, _, _, e⟩ := m4 x hx2; exact inW e
      refine q _ R (drawnP ws hN.toNat b j.toNat k.toNat) (bbX.trans (ButSG.same sR)) ?_ nR ⟨⟨t1, t2, t3, upd_same, ?_, ?_, ?_⟩, ?_⟩ okP w16
      · obtain ⟨ne, gs, m, c, a1, a2, a3⟩ := sk10
        exact ⟨ne, gs, m, c, sR _ _ a1, sR _ _ a2, a3⟩
      · have e : dA (drawnP ws hN.toNat b j.toNat k.toNat).arrays = .tuple (rowsB ws b hN.toNat) := by
          unfold dA drawnP rowsB
          rw [List.map_map]
          rfl
        rw [e]
        exact dp_tups ((tp1.trans tp2).trans (Tups.same sR)) _ _ (rowsB_flat ws b _) d1
      · exact dS_tup (Tups.same sR _ _ (tp2 _ _ d2))
      · exact dS_tup (Tups.same sR _ _ d3)
      · have inW : ∀ {i : Nat} {x : Str}, ws[i]? = some x → x ∈ W16 := fun e => mem _ (List.mem_of_getElem? e)
        unfold okB at okP
        simp only [Bool.and_eq_true, decide_eq_true_iff] at okP
        refine ⟨by omega, by omega, by omega, fun x hx => W16_nm x ?_⟩
        have hx2 := words_mem.mp hx
        unfold namesL at hx2
        rcases List.mem_append.mp hx2 with hx2 | hx2
        · obtain ⟨i, _, e⟩ := m1 x hx2; exact inW e
        rcases List.mem_append.mp hx2 with hx2 | hx2
        · obtain ⟨i, _, _, e⟩ := m2 x hx2; exact inW e
        rcases List.mem_append.mp hx2 with hx2 | hx2
        · obtain ⟨i, _, _, e⟩ := m3 x hx2; exact inW e
        · obtain ⟨i, _, _, e⟩ := m4 x hx2; exact inW e
end
end Fc
namespace Fc
open PySem PySem.Spec L2 PyProof.Rows
mutual
theorem dz_imp {K : PySem.W.Frag} {w : World} {ok ok2 : Addr → Prop} {H : Hp} (k : ∀ a, ok a → ok2 a) : ∀ (d : PyData) (v : V), Dz K w ok H v d → Dz K w ok2 H v d
  | .none, _, h => by cases h; exact .non
  | .bool b, _, h => by cases h; exact .bl b
  | .int i, _, h => by cases h; exact .int i
  | .str x, _, h => by cases h; exact .str x
  | .list ds, _, h => by cases h with | lst e o a => exact .lst e (k _ o) (dzs_imp k ds _ a)
  | .tuple ds, _, h => by cases h with | tup e a => exact .tup e (dzs_imp k ds _ a)
  | .dict _, _, h => by cases h with | dct e => exact .dct e
theorem dzs_imp {K : PySem.W.Frag} {w : World} {ok ok2 : Addr → Prop} {H : Hp} (k : ∀ a, ok a → ok2 a) : ∀ (ds : List PyData) (vs : List V), DzAll K w ok H vs ds → DzAll K w ok2 H vs ds
  | [], _, h => by cases h; exact .nil
  | d :: ds, _, h => by cases h with | cons a b => exact .cons (dz_imp k d _ a) (dzs_imp k ds _ b)
end
theorem dz_cut {K : PySem.W.Frag} {w : World} {ok : Addr → Prop} {H : Hp} {xs : List V} {ds : List PyData} (h : DzAll K w ok H xs ds) (lo hi : Option Int) : ∃ es, DzAll K w ok H (cutV xs lo hi) es ∧ (∀ d ∈ es, d ∈ ds) ∧ es.length ≤ ds.length :=
  ⟨_, dzs_take (dzs_drop h _) _, fun d hd => List.mem_of_mem_drop (List.mem_of_mem_take hd), by rw [List.length_take, List.length_drop]; omega⟩
/-- what stands in a row -/
structure IT (d : PyData) : Prop where
  fit : Fit 240 3 d
  ln : (partsL d).length ≤ 60
/-- a row, or what is no row -/
structure NB (d : PyData) : Prop where
  fit : Fit 6100 5 d
  ln : (partsL d).length ≤ 60
  li : ∀ e ∈ partsL d, (partsL e).length ≤ 60
theorem nb_tup {l : List PyData} (h : ∀ d ∈ l, IT d) (n : l.length ≤ 25) : NB (.tuple l) := ⟨(fit_tup (fun d hd => (h d hd).fit) n).le (by decide) (by decide), by show l.length ≤ 60; omega, fun e he => (h e he).ln⟩
theorem nb_lst {l : List PyData} (h : ∀ d ∈ l, IT d) (n : l.length ≤ 25) : NB (.list l) := ⟨(fit_lst (fun d hd => (h d hd).fit) n).le (by decide) (by decide), Nat.zero_le _, fun e he => nomatch he⟩
theorem nb_leaf {d : PyData} (h : Fit 240 1 d) (e : partsL d = []) : NB d := ⟨h.le (by decide) (by decide), by rw [e]; exact Nat.zero_le _, fun x hx => by rw [e] at hx; exact nomatch hx⟩
/-- what stands in the parts' own rows -/
structure RI (d : PyData) : Prop where
  fit : Fit 18 1 d
  ln : (partsL d).length ≤ 2
theorem RI.it {d : PyData} (h : RI d) : IT d := ⟨h.fit.le (by decide) (by decide), Nat.le_trans h.ln (by decide)⟩
theorem fit_s {x : Str} (h : (decide (x.length ≤ 10) && (x.cps.toList.all (fun c => decide (c < 16 ^ 8)) && oddS x)) = true) : Fit 10 0 (.str x) := by
  rw [Bool.and_eq_true, Bool.and_eq_true, decide_eq_true_iff] at h
  exact fit_str h.1 (by decide) h.2.1 h.2.2
def rowsD (P : Pa) : List PyData := [dA P.arrays, dS P.pos, dS P.vals]
theorem rows_ri {P : Pa} (ok : PaOk P) (od : OddP P) (k : Nat) (hk : k < 3) : ∃ ds, (rowsD P).getD k .none = .tuple ds ∧ ds.length ≤ 12 ∧ ∀ d ∈ ds, RI d := by
  obtain ⟨n1, n2, n3, n4⟩ := names_in (P := P)
  have nm : ∀ x ∈ namesL P, Fit 8 0 (.str x) := fun x h => fit_name (ok.nm x h) (od x h)
  match k, hk with
  | 0, _ => exact ⟨_, rfl, by rw [List.length_map]; exact ok.na, fun d hd => by
      obtain ⟨e, he, rfl⟩ := List.mem_map.mp hd
      refine ⟨fit_tup (n := 2) (W := 8) (fun d hd => ?_) (Nat.le_refl _), Nat.le_refl _⟩
      rcases List.mem_cons.mp hd with rfl | hd
      · exact nm _ (n1 _ (List.mem_map.mpr ⟨e, he, rfl⟩))
      · rw [List.mem_singleton.mp hd]; exact nm _ (n2 _ (mem_lensOf he))⟩
  | 1, _ => exact ⟨_, rfl, by rw [List.length_map]; exact Nat.le_trans ok.np (by decide), fun d hd => by
      obtain ⟨x, hx, rfl⟩ := List.mem_map.mp hd
      exact ⟨(nm _ (n3 _ hx)).le (by decide) (by decide), Nat.zero_le _⟩⟩
  | 2, _ => exact ⟨_, rfl, by rw [List.length_map]; exact Nat.le_trans ok.nv (by decide), fun d hd => by
      obtain ⟨x, hx, rfl⟩ := List.mem_map.mp hd
      exact ⟨(nm _ (n4 _ hx)).le (by decide) (by decide), Nat.zero_le _⟩⟩
theorem row_nb {ds : List PyData} (l : ds.length ≤ 12) (h : ∀ d ∈ ds, RI d) : NB (.tuple ds) := nb_tup (fun d hd => (h d hd).it) (by omega)
theorem row_it {ds : List PyData} (l : ds.length ≤ 12) (h : ∀ d ∈ ds, RI d) : IT (.tuple ds) := ⟨(fit_tup (fun d hd => (h d hd).fit) l).le (by decide) (by decide), by show ds.length ≤ 60; omega⟩
/-- names, and two more -/
def moreN (P : Pa) : List Str := namesL P ++ (["new", "other"] : List Str)
theorem moreN_fit {P : Pa} (ok : PaOk P) (od : OddP P) : ∀ x ∈ moreN P, Fit 10 0 (.str x) := fun x hx => by
  rcases List.mem_append.mp hx with h | h
  · exact (fit_name (ok.nm x h) (od x h)).le (by decide) (by decide)
  · rcases List.mem_cons.mp h with rfl | h
    · exact fit_s (by decide +kernel)
    · rw [List.mem_singleton.mp h]; exact fit_s (by decide +kernel)
theorem moreN_len {P : Pa} (ok : PaOk P) : (moreN P).length ≤ 60 ∧ 0 < (moreN P).length := by
  have a := ok.na
  have b := ok.np
  have c := ok.nv
  have e := lensOf_len P.arrays
  unfold moreN namesL
  simp only [List.length_append, List.length_map, List.length_cons, List.length_nil]
  omega
def oddA : List PyData := [.str "", .str "A", .str "ninelette", .none, .int 0, .str "a b", .tuple [.str "a"], .list [.str "a"], .str "*1", .bool true]
/-- one odd thing -/
structure OD (d : PyData) : Prop where
  fit : Fit 10 1 d
  ln : (partsL d).length ≤ 2
theorem oddA_ok : ∀ d ∈ oddA, OD d := fun d hd => by
  have st : ∀ {x : Str}, (decide (x.length ≤ 10) && (x.cps.toList.all (fun c => decide (c < 16 ^ 8)) && oddS x)) = true → OD (.str x) := fun h => ⟨(fit_s h).le (Nat.le_refl _) (by decide), Nat.zero_le _⟩
  simp only [oddA, List.mem_cons, List.not_mem_nil, or_false] at hd
  rcases hd with rfl | rfl | rfl | rfl | rfl | rfl | rfl | rfl | rfl | rfl
  · exact st (by decide +kernel)
  · exact st (by decide +kernel)
  · exact st (by decide +kernel)
  · exact ⟨fit_non.le (by decide) (by decide), Nat.zero_le _⟩
  · exact ⟨⟨by decide +kernel, by decide +kernel, rfl, rfl, by decide +kernel, Nat.zero_le _⟩, Nat.zero_le _⟩
  · exact st (by decide +kernel)
  · exact ⟨⟨by decide +kernel, by decide +kernel, by decide +kernel, by decide +kernel, by decide +kernel, by decide +kernel⟩, by decide⟩
  · exact ⟨⟨by decide +kernel, by decide +kernel, by decide +kernel, by decide +kernel, by decide +kernel, by decide +kernel⟩, by decide⟩
  · exact st (by decide +kernel)
  · exact ⟨(fit_bl true).le (by decide) (by decide), Nat.zero_le _⟩
theorem OD.it {d : PyData} (h : OD d) : IT d := ⟨h.fit.le (by decide) (by decide), Nat.le_trans h.ln (by decide)⟩
theorem OD.pair {d e : PyData} (h : OD d) (k : OD e) : IT (.tuple [d, e]) := ⟨(fit_tup (n := 2) (W := 10) (D := 1) (fun x hx => by
    rcases List.mem_cons.mp hx with rfl | hx
    · exact h.fit
    · rw [List.mem_singleton.mp hx]; exact k.fit) (Nat.le_refl _)).le (by decide) (by decide), by show 2 ≤ 60; decide⟩
def wordsW : List Str := ["wa", "wb", "wc", "wd", "we", "wf", "wg", "wh", "wi", "wj", "wk", "wl", "wm", "wn", "wo", "wp"]
theorem wordsW_fit : ∀ x ∈ wordsW, Fit 10 0 (.str x) := fun x hx => fit_s (by
  revert x
  decide +kernel)
theorem word_at : ∀ k, k < 16 → (Str.ofString "w" ++ (⟨#[(Str.ofString "abcdefghijklmnop").cps.getD k 0]⟩ : Str)) = wordsW.getD k Str.empty := by decide +kernel
end Fc
namespace Fc
open PySem PySem.Spec L2 PyProof.Rows
/-- new lists that are neither the skein's nor the one at F -/
abbrev okF (S G F : Addr) (H0 : Hp) : Addr → Prop := fun a => (okS S G a ∧ H0 a = none) ∧ a ≠ F
/-- what stands while parts near others are drawn -/
structure NR (K : PySem.W.Frag) (w : World) (S G F N uA uP uV : Addr) (R : Pa) (H0 : Hp) (z : Int) (H : Hp) : Prop where
  b : ButSG S G H0 H
  k : SkAt H S G z
  f : H F = some (.lst [.ref uA, .ref uP, .ref uV])
  n : H N = some (.lst ((moreN R).map V.str))
  d : DzAll K w (okF S G F H0) H [.ref uA, .ref uP, .ref uV] (rowsD R)
theorem Keep.butF {K : PySem.W.Frag} {w : World} {S G F : Addr} {n : Int} {H0 H H' : Hp} (b : ButSG S G H H') (k : SkAt H S G n) : Keep K w (okF S G F H0) H H' :=
  ⟨tups_but b k, fun a xs o e => b _ _ o.1.1.1 o.1.1.2 e, fun a e => but_get b k e (fun _ z => by cases z)⟩
theorem NR.same {K : PySem.W.Frag} {w : World} {S G F N uA uP uV : Addr} {R : Pa} {H0 H H' : Hp} {z : Int} (h : NR K w S G F N uA uP uV R H0 z H) (s : Same H H') : NR K w S G F N uA uP uV R H0 z H' :=
  ⟨h.b.trans (ButSG.same s), h.k.same s, s _ _ h.f, s _ _ h.n, dzs_mono (Keep.same s) _ _ h.d⟩
theorem NR.but {K : PySem.W.Frag} {w : World} {S G F N uA uP uV : Addr} {R : Pa} {H0 H H' : Hp} {z z' : Int} (h : NR K w S G F N uA uP uV R H0 z H) (pF : okS S G F) (pN : okS S G N) (b : ButSG S G H H') (k : SkAt H' S G z') : NR K w S G F N uA uP uV R H0 z' H' :=
  ⟨h.b.trans b, k, b _ _ pF.1 pF.2 h.f, b _ _ pN.1 pN.2 h.n, dzs_mono (Keep.butF b h.k) _ _ h.d⟩
/-- the parts near others -/
def spNearP (K : PySem.W.Frag) (w : World) : Sp := fun vs H Q _ => ∃ S G z r R, vs = [.ref S, .ref r] ∧ SkAt H S G z ∧ z + 100 < 2 ^ 60 ∧ RowAt K H r R ∧ PaOk R ∧ OddP R ∧
  ∀ H' F d1 d2 d3, ButSG S G H H' → SkAt H' S G (z + 10) → H F = none → okS S G F → LRow K w (fun a => okS S G a ∧ H a = none) H' F d1 d2 d3 → NB d1 → NB d2 → NB d3 → Q (.ref F) H'
section
variable {K : PySem.W.Frag} {mg : Str → Option Value} {base : Heap} {P : Program} {w : World}
abbrev nj45 : List Str := ["_law_skein_here", "_law_parts_here", "_law_found", "_law_kind", "_law_row", "_law_names", "_law_odd", "_law_item", "_law_spot", "_law_way", "_law_some", "_law_more", "_law_words", "_law_letter", "_law_word"]
theorem sp45 : FnScope nj45 ["_law_skein_here", "_law_parts_here"] (defScope (topK 45)) := ⟨rfl, rfl, rfl, by decide +kernel, rfl, by decide +kernel, by decide +kernel⟩
theorem op45 {f : Addr} {fd : FuncData} (F : Fun K "_law_near" "_law_near" (topK 45) f fd) (B : Blt mg) (c34 : Cal P w K mg base 1 "_law_pull" (spPull K)) (c35 : Cal P w K mg base 2 "_law_one_of" (spOne K)) (c40 : Cal P w K mg base 2 "_law_all_of" (spLawAll K)) : FnOk P w K mg base CX0 3 f fd ["_law_skein_here", "_law_parts_here"] (spNearP K w) := by
  refine F.ok sp45 (fun vs H Q E h => ?_) (fun cdv A outer s H vs Q E hr h => ?_)
  · obtain ⟨S, G, z, r, R, rfl, _⟩ := h
    rfl
  · have hu := hu70 hr
    refine ⟨_, (pss_cons (ps_par (i := 2) (j := 3) rfl sp45.nd rfl rfl (by decide) rfl rfl (pa_cons (pe_callTy call_list_of (by rfl) B.list boot_list (pa_cons (pv 1) pa_nil)) (pa_cons (pe_c c34 hr (by decide) (by rfl) (pa_cons (pv 0) (pa_cons pe_int pa_nil))) pa_nil)) (by rfl)) (pss_cons (ps_par (i := 4) (j := 5) rfl sp45.nd rfl rfl (by decide) rfl rfl (pa_cons (pe_ix ix_list (pv 2) (pv 3) (fun _ _ => rfl)) (pa_cons (pe_op op_cat (pe_c c40 hr (by decide) (by rfl) (pa_cons (pv 1) pa_nil)) (pe_lst (pa_cons pe_str (pa_cons pe_str pa_nil)))) pa_nil)) (by rfl)) (pss_cons (ps_set (i := 6) sp45.nd rfl (Or.inl rfl) (pe_c c35 hr (by decide) (by rfl) (pa_cons (pv 0) (pa_cons (pe_op op_cat (pe_op op_cat (pe_lst (pa_cons pe_str (pa_cons pe_str (pa_cons pe_str (pa_cons pe_non (pa_cons pe_int (pa_cons pe_str (pa_cons (pe_tup (pa_cons pe_str pa_nil)) (pa_cons (pe_lst (pa_cons pe_str pa_nil)) (pa_cons pe_str (pa_cons pe_bl pa_nil))))))))))) (pv 5)) (pv 5)) pa_nil)))) (pss_cons (ps_set (i := 7) sp45.nd rfl (Or.inl rfl) (pe_ifExp (pt_cmpR op_eq (pv 3) pe_int (nomark _)) (pe_tup (pa_cons (pv 6) (pa_cons (pe_c c35 hr (by decide) (by rfl) (pa_cons (pv 0) (pa_cons (pv 5) pa_nil))) pa_nil))) (pv 6))) (pss_cons (ps_set (i := 7) sp45.nd rfl (Or.inl rfl) (pe_ifExp (pw_and (pt_cmpR op_eq (pv 3) pe_int (nomark _)) (pw_and1 (pt_cmpR op_eq (pe_c c34 hr (by decide) (by rfl) (pa_cons (pv 0) (pa_cons pe_int pa_nil))) pe_int (nomark _)))).pt (pe_tup (pa_cons (pe_ix (r := rIxT K) ix_tup (pv 7) pe_int (fun _ _ => rfl)) (pa_cons (pv 6) pa_nil))) (pv 7))) (pss_cons (ps_par (i := 8) (j := 9) rfl sp45.nd rfl rfl (by decide) rfl rfl (pa_cons (pe_c c34 hr (by decide) (by rfl) (pa_cons (pv 0) (pa_cons (pe_op op_add (pe_callB call_len_seq (by rfl) B.len boot_len (pa_cons (pv 4) pa_nil)) pe_int) pa_nil))) (pa_cons (pe_c c34 hr (by decide) (by rfl) (pa_cons (pv 0) (pa_cons pe_int pa_nil))) pa_nil)) (by rfl)) (pss_cons (ps_if (pt_cmpR op_lt (pv 9) pe_int (nomark _)) (pss_one (ps_asg (pe_op op_catD (pe_op op_catD (pe_slice (r := rSlD K) sl_tupD (pv 4) po_none (po_some (pv 8))) (pe_tup (pa_cons (pv 7) pa_nil))) (pe_slice (r := rSlD K) sl_tupD (pv 4) (po_some (pe_op op_add (pv 8) (pe_op op_mod (pv 9) pe_int))) po_none)) (pg_sub (pv 2) (pv 3) set_list))) (pss_one (ps_if (pt_cmpR op_eq (pv 9) pe_int (nomark _)) (pss_one (ps_asg (pe_op op_catD (pe_slice (r := rSlD K) sl_tupD (pv 4) po_none (po_some (pv 8))) (pe_slice (r := rSlD K) sl_tupD (pv 4) (po_some (pe_op op_add (pv 8) pe_int)) po_none)) (pg_sub (pv 2) (pv 3) set_list))) (pss_one (ps_if (pt_cmpR op_eq (pv 9) pe_int (nomark _)) (pss_cons (ps_set (i := 10) sp45.nd rfl (Or.inl rfl) (pe_lst (pa_cons (pe_callTy call_list_of (by rfl) B.list boot_list (pa_cons (pv 4) pa_nil)) (pa_cons pe_non (pa_cons pe_int (pa_cons pe_str (pa_cons (pe_tup (pa_cons (pv 4) pa_nil)) (pa_cons pe_dnewM (pa_cons (pe_op op_catD (pv 4) (pe_tup (pa_cons (pe_tup pa_nil) pa_nil))) (pa_cons (pe_op op_catD (pv 4) (pe_tup (pa_cons (pe_tup (pa_cons pe_str (pa_cons pe_str (pa_cons pe_str pa_nil)))) pa_nil))) (pa_cons (pe_revT (pv 4)) pa_nil))))))))))) (pss_one (ps_asg (pe_c c35 hr (by decide) (by rfl) (pa_cons (pv 0) (pa_cons (pe_op op_cat (pv 10) (pe_lst (pa_cons (pe_op op_catD (pv 4) (pv 4)) pa_nil))) pa_nil))) (pg_sub (pv 2) (pv 3) set_list)))) (pss_cons (ps_set (i := 11) sp45.nd rfl (Or.inl rfl) (pe_c c35 hr (by decide) (by rfl) (pa_cons (pv 0) (pa_cons (pe_lst (pa_cons pe_int (pa_cons pe_int (pa_cons pe_int (pa_cons pe_int (pa_cons pe_int (pa_cons pe_int pa_nil))))))) pa_nil)))) (pss_cons (ps_set (i := 12) sp45.nd rfl (Or.inl rfl) (pe_slice sl_list (pe_lc (own := [("_law_letter", 13)]) (g := gName 13) (by rfl) sp45.nd (pi_str pe_str) (blkOk_by (N := nj45) (sc := defScope (topK 45)) (by decide +kernel)) (fun _ _ _ _ _ => (pg_name (i := 13) sp45.nd rfl (Or.inl rfl))) (fun _ _ _ _ _ => pts_nil) (fun _ _ _ _ _ => (pe_op op_add_str pe_str (pv 13)))) po_none (po_some (pv 11)))) (pss_one (ps_asg (pe_ifExp (pt_cmpR op_eq (pv 3) pe_int (nomark _)) (pe_callTy call_tuple_of (by rfl) B.tuple boot_tuple (pa_cons (pe_lc (own := [("_law_word", 14)]) (g := gName 14) (by rfl) sp45.nd (pi_list (pv 12)) (blkOk_by (N := nj45) (sc := defScope (topK 45)) (by decide +kernel)) (fun _ _ _ _ _ => (pg_name (i := 14) sp45.nd rfl (Or.inl rfl))) (fun _ _ _ _ _ => pts_nil) (fun _ _ _ _ _ => (pe_tup (pa_cons (pv 14) (pa_cons pe_str pa_nil))))) pa_nil)) (pe_callTy call_tuple_of (by rfl) B.tuple boot_tuple (pa_cons (pv 12) pa_nil))) (pg_sub (pv 2) (pv 3) set_list)))))))))) (pss_one (ps_ret (pv 2)))))))))), ?_⟩
    obtain ⟨S, G, z, r, R, rfl, sk, nb, row, pok, od, q⟩ := h
    have sl : sizeLine = 16777216 := sizeLine_eq
    obtain ⟨uA, uP, uV, r0, rA, rP, rV⟩ := row.ex
    obtain ⟨m60, m0⟩ := moreN_len pok
    have mf := moreN_fit pok od
    refine cutT fun T1 eT1 => ?_
    refine ⟨_, rfl, r, _, rfl, .inl (.inl (.inl r0)), fun F hF => ?_⟩
    have pF := sk.new hF
    have s1 := same_new (o := .lst [V.ref uA, V.ref uP, V.ref uV]) hF
    refine ⟨_, rfl, S, G, z, 3, rfl, sk.same s1, by omega, by decide, by decide, fun k3 H2 k0 k1 b2 k2 => ⟨_, _, rfl, ?_⟩⟩
    have k1' := sk.same s1
    have hF2 := b2 _ _ pF.1 pF.2 (upd_same (H := H) (a := F) (o := .lst [V.ref uA, V.ref uP, V.ref uV]))
    have row2 := (row.mono s1).but b2 k1'
    have b02 := (ButSG.same (S := S) (G := G) s1).trans b2
    obtain ⟨k, rfl⟩ : ∃ k : Nat, k3 = (k : Int) := ⟨k3.toNat, by omega⟩
    have hk : k < 3 := by omega
    have d2 : DzAll K w (okF S G F H) H2 [.ref uA, .ref uP, .ref uV] (rowsD R) :=
      .cons (dz_of _ _ (tupD_dA _) (dp_tups (tups_but b2 k1') _ _ (tupD_dA _) (dp_mono s1 _ _ rA))) (.cons (dz_of _ _ (tupD_dS _) (dp_tups (tups_but b2 k1') _ _ (tupD_dS _) (dp_mono s1 _ _ rP))) (.cons (dz_of _ _ (tupD_dS _) (dp_tups (tups_but b2 k1') _ _ (tupD_dS _) (dp_mono s1 _ _ rV))) .nil))
    obtain ⟨ds, ed, ld, ri⟩ := rows_ri pok od k hk
    obtain ⟨ρ, eρ⟩ : ∃ ρ, [V.ref uA, .ref uP, .ref uV].getD k .non = .ref ρ := by
      have := dz_at d2 (k := k) hk
      rw [ed] at this
      exact dz_ref this
    have at3 : atI [V.ref uA, .ref uP, .ref uV] (k : Int) = some (.ref ρ) := atI_nat (by rw [← eρ, List.getD_eq_getElem?_getD, List.getElem?_eq_getElem (by exact hk)]; rfl)
    -- the row itself, wherever
    have rowk : ∀ {N H' z'}, NR K w S G F N uA uP uV R H z' H' → ∃ xs, SqT K H' ρ xs ∧ DzAll K w (okF S G F H) H' xs ds := fun {N H' z'} nr => by
      have := dz_at nr.d (k := k) hk
      rw [eρ, ed] at this
      cases this with
      | tup sq da => exact ⟨_, sq, da⟩
    dsimp only
    subst eT1
    refine cutT fun T2 eT2 => ?_
    refine ⟨_, rfl, _, rfl, F, _, k, _, rfl, rfl, .inl (.inl hF2), at3, _, rfl, r, R, rfl, row2, fun H3 l3 s3 e3 n3 => ⟨by rw [sl]; exact (by decide : (2 : Nat) ≤ 16777216), fun l4 n4 => ?_⟩⟩
    have s4 := same_new (o := .lst [V.str (Str.ofString "new"), V.str (Str.ofString "other")]) n4
    have ln2 : ((namesL R).map V.str).length + 2 ≤ 62 := by
      have : (moreN R).length = (namesL R).length + 2 := by unfold moreN; rw [List.length_append]; rfl
      rw [List.length_map]; omega
    refine ⟨l3, l4, _, _, rfl, rfl, s4 _ _ e3, upd_same, by rw [sl]; exact Nat.le_trans ln2 (by decide), fun N hN => ⟨_, _, rfl, ?_⟩⟩
    have s5 := same_new (o := .lst ((namesL R).map V.str ++ [V.str (Str.ofString "new"), V.str (Str.ofString "other")])) hN
    have s25 := s3.trans (s4.trans s5)
    have k25 := k2.same s25
    have pN := (k2.same (s3.trans s4)).new hN
    have nr5 : NR K w S G F N uA uP uV R H (z + 1) _ := ⟨b02.trans (ButSG.same s25), k25, s25 _ _ hF2, (by
      have := upd_same (H := upd H3 l4 (.lst [V.str (Str.ofString "new"), V.str (Str.ofString "other")])) (a := N) (o := .lst ((namesL R).map V.str ++ [V.str (Str.ofString "new"), V.str (Str.ofString "other")]))
      unfold moreN
      rw [List.map_append]
      exact this), dzs_mono (Keep.same s25) _ _ d2⟩
    generalize upd (upd H3 l4 (.lst [V.str (Str.ofString "new"), V.str (Str.ofString "other")])) N (.lst ((namesL R).map V.str ++ [V.str (Str.ofString "new"), V.str (Str.ofString "other")])) = H5 at *
    clear s25 s5 s4 s3 k25 n4 n3 e3 row2 b02 hF2 b2 k2 d2 k1' s1
    dsimp only
    subst eT2
    refine cutT fun T3 eT3 => ?_
    have len_ix : ixN ([V.ref uA, .ref uP, .ref uV] : List V).length (k : Int) = some k := by
      match k, hk with
      | 0, _ => rfl
      | 1, _ => rfl
      | 2, _ => rfl
    have go3 : ∀ H6 v6 d6, NR K w S G F N uA uP uV R H (z + 2) H6 → Dz K w (okF S G F H) H6 v6 d6 → OD d6 → T3 { nx := fun x H' => Q V.non H', rt := Q } [some (.ref S), some (.ref r), some (.ref F), some (.int k), some (.ref ρ), some (.ref N), some v6, none, none, none, none, none, none, none, none] H6 := by
      intro H6 v6 d6 nr6 dv6 o6
      subst eT3
      refine cutT fun T4 eT4 => ?_
      have go4 : ∀ H7 v7 d7 z', z' ≤ z + 3 → NR K w S G F N uA uP uV R H z' H7 → Dz K w (okF S G F H) H7 v6 d6 → Dz K w (okF S G F H) H7 v7 d7 → (if k = 0 then ∃ x y, d7 = .tuple [x, y] ∧ OD x ∧ OD y else OD d7) → T4 { nx := fun x H' => Q V.non H', rt := Q } [some (.ref S), some (.ref r), some (.ref F), some (.int k), some (.ref ρ), some (.ref N), some v6, some v7, none, none, none, none, none, none, none] H7 := by
        intro H7 v7 d7 z7 hz7 nr7 dv6 dv7 o7
        subst eT4
        refine cutT fun T5 eT5 => ?_
        have go5 : ∀ H8 v8 d8 z', z' ≤ z + 4 → NR K w S G F N uA uP uV R H z' H8 → Dz K w (okF S G F H) H8 v8 d8 → IT d8 → T5 { nx := fun x H' => Q V.non H', rt := Q } [some (.ref S), some (.ref r), some (.ref F), some (.int k), some (.ref ρ), some (.ref N), some v6, some v8, none, none, none, none, none, none, none] H8 := by
          intro H8 v8 d8 z8 hz8 nr8 dv8 o8
          subst eT5
          refine cutT fun T6 eT6 => ?_
          have go6 : ∀ H9 (s9 w9 : Int) z', 0 ≤ s9 → s9 ≤ 12 → 0 ≤ w9 → w9 < 6 → z' ≤ z + 6 → NR K w S G F N uA uP uV R H z' H9 → Dz K w (okF S G F H) H9 v8 d8 → T6 { nx := fun x H' => Q V.non H', rt := Q } [some (.ref S), some (.ref r), some (.ref F), some (.int k), some (.ref ρ), some (.ref N), some v6, some v8, some (.int s9), some (.int w9), none, none, none, none, none] H9 := by
            intro H9 s9 w9 z9 p0 p1 q0 q1 hz9 nr9 dv8
            subst eT6
            refine cutT fun T7 eT7 => ?_
            have go7 : ∀ HA v d z' y10 y11 y12, z' ≤ z + 10 → NR K w S G F N uA uP uV R H z' HA → Dz K w (okF S G F H) HA v d → NB d → T7 { nx := fun x H' => Q V.non H', rt := Q } [some (.ref S), some (.ref r), some (.ref F), some (.int k), some (.ref ρ), some (.ref N), some v6, some v8, some (.int s9), some (.int w9), y10, y11, y12, none, none] (upd HA F (.lst ([V.ref uA, .ref uP, .ref uV].set k v))) := by
              intro HA v d zA y10 y11 y12 hzA nrA dv nb
              subst eT7
              have kp : Keep K w (okF S G F H) HA (upd HA F (.lst ([V.ref uA, .ref uP, .ref uV].set k v))) := ⟨Tups.upd fun u e => by rw [nrA.f] at e; cases e; exact True.intro, fun a xs o e => by rw [upd_ne o.2]; exact e, fun a e => by rw [upd_ne (fun h => by rw [h, nrA.f] at e; cases e)]; exact e⟩
              have bb : ButSG S G H (upd HA F (.lst ([V.ref uA, .ref uP, .ref uV].set k v))) := fun b o p q e => by rw [upd_ne (ne_of_none e hF)]; exact nrA.b b o p q e
              have kk := (nrA.k.upd (o := .lst ([V.ref uA, .ref uP, .ref uV].set k v)) pF).le (n' := z + 10) hzA
              have up : ∀ x y, Dz K w (okF S G F H) HA y x → Dz K w (fun a => okS S G a ∧ H a = none) (upd HA F (.lst ([V.ref uA, .ref uP, .ref uV].set k v))) y x := fun x y h => dz_imp (ok := okF S G F H) (fun _ h => h.1) _ _ (dz_mono kp _ _ h)
              have cA := up _ _ (dz_at nrA.d (k := 0) (by show 0 < 3; decide))
              have cP := up _ _ (dz_at nrA.d (k := 1) (by show 1 < 3; decide))
              have cV := up _ _ (dz_at nrA.d (k := 2) (by show 2 < 3; decide))
              have cd := up _ _ dv
              have nbA : NB (dA R.arrays) := by obtain ⟨l, e, a, b⟩ := rows_ri pok od 0 (by decide); rw [show dA R.arrays = .tuple l from e]; exact row_nb a b
              have nbP : NB (dS R.pos) := by obtain ⟨l, e, a, b⟩ := rows_ri pok od 1 (by decide); rw [show dS R.pos = .tuple l from e]; exact row_nb a b
              have nbV : NB (dS R.vals) := by obtain ⟨l, e, a, b⟩ := rows_ri pok od 2 (by decide); rw [show dS R.vals = .tuple l from e]; exact row_nb a b
              refine ⟨_, rfl, ?_⟩
              have hFn := upd_same (H := HA) (a := F) (o := .lst ([V.ref uA, .ref uP, .ref uV].set k v))
              have li : ∀ {e : PyData}, NB e → ∀ x ∈ partsL e, (partsL x).length ≤ 1000 := fun h x hx => Nat.le_trans (h.li x hx) (by decide)
              match k, hk with
              | 0, _ => exact q _ F d _ _ bb kk hF pF ⟨⟨_, _, _, hFn, cd, cP, cV⟩, ⟨nb.fit.sm, nbP.fit.sm, nbV.fit.sm⟩, ⟨nb.ln, nbP.ln, nbV.ln⟩, li nb⟩ nb nbP nbV
              | 1, _ => exact q _ F _ d _ bb kk hF pF ⟨⟨_, _, _, hFn, cA, cd, cV⟩, ⟨nbA.fit.sm, nb.fit.sm, nbV.fit.sm⟩, ⟨nbA.ln, nb.ln, nbV.ln⟩, li nbA⟩ nbA nb nbV
              | 2, _ => exact q _ F _ _ d bb kk hF pF ⟨⟨_, _, _, hFn, cA, cP, cd⟩, ⟨nbA.fit.sm, nbP.fit.sm, nb.fit.sm⟩, ⟨nbA.ln, nbP.ln, nb.ln⟩, li nbA⟩ nbA nbP nb
            clear q
            refine ⟨_, rfl, _, _, rfl, rfl, _, rfl, ?_⟩
            have itd : ∀ d ∈ ds, IT d := fun d hd => (ri d hd).it
            by_cases c : w9 < 3
            · rw [decide_eq_true c]
              obtain ⟨xs, sq, da⟩ := rowk nr9
              have lx := dzs_len da
              refine iteT ⟨_, rfl, _, rfl, s9, rfl, ρ, xs, rfl, sq, fun p1 H1 s1 q1 => ?_⟩
              obtain ⟨e1, da1, in1, l1⟩ := dz_cut da none (some s9)
              have da1' := dzs_mono (Keep.same s1) _ _ da1
              have lx1 := dzs_len da1
              refine ⟨_, rfl, by rw [sl]; exact (by decide : (1 : Nat) ≤ 16777216), fun t2 n2 => ?_⟩
              have s2 := same_new (o := .tup [v8]) n2
              refine ⟨p1, t2, _, _, rfl, rfl, Tups.same s2 _ _ q1, .inl (.inl upd_same), by rw [sl]; show _ + 1 ≤ 16777216; omega, fun p3 H3 s3 q3 => ?_⟩
              have s13 := s1.trans (s2.trans s3)
              have sq3 := Tups.same s13 _ _ sq
              refine ⟨_, rfl, _, rfl, _, rfl, _, _, rfl, rfl, (by show (0 : Int) < 2; decide), _, _, rfl, rfl, _, rfl, ρ, xs, rfl, sq3, fun p4 H4 s4 q4 => ?_⟩
              obtain ⟨e4, da4, in4, l4⟩ := dz_cut (dzs_mono (Keep.same s13) _ _ da) (some (s9 + w9 % 2)) none
              have lx4 := dzs_len da4
              refine ⟨p3, p4, _, _, rfl, rfl, Tups.same s4 _ _ q3, q4, by rw [sl, List.length_append]; show _ + 1 + _ ≤ 16777216; omega, fun p5 H5' s5 q5 => ?_⟩
              have s15 := s13.trans (s4.trans s5)
              have nr5' := nr9.same s15
              refine ⟨_, rfl, _, rfl, F, _, (k : Int), k, rfl, rfl, nr5'.f, len_ix, ?_⟩
              have dall : DzAll K w (okF S G F H) H5' _ ((e1 ++ [d8]) ++ e4) := dzs_app (dzs_app (dzs_mono (Keep.same s15) _ _ da1) (dzs_one (dz_mono (Keep.same s15) _ _ dv8))) (dzs_mono (Keep.same (s4.trans s5)) _ _ da4)
              exact go7 H5' _ (.tuple ((e1 ++ [d8]) ++ e4)) z9 none none none (by omega) nr5' (.tup q5 dall) (nb_tup (fun d hd => by
                rcases List.mem_append.mp hd with h | h
                · rcases List.mem_append.mp h with h | h
                  · exact itd _ (in1 _ h)
                  · rw [List.mem_singleton.mp h]; exact o8
                · exact itd _ (in4 _ h)) (by rw [List.length_append, List.length_append]; show _ + 1 + _ ≤ 25; omega))
            rw [decide_eq_false c]
            refine iteF ⟨_, rfl, rfl, _, rfl, ?_⟩
            by_cases c3 : w9 = 3
            · rw [decide_eq_true (by rw [c3])]
              obtain ⟨xs, sq, da⟩ := rowk nr9
              have lx := dzs_len da
              refine iteT ⟨_, rfl, _, rfl, s9, rfl, ρ, xs, rfl, sq, fun p1 H1 s1 q1 => ?_⟩
              obtain ⟨e1, da1, in1, l1⟩ := dz_cut da none (some s9)
              have lx1 := dzs_len da1
              have sq3 := Tups.same s1 _ _ sq
              refine ⟨_, rfl, _, rfl, _, _, rfl, rfl, _, rfl, ρ, xs, rfl, sq3, fun p4 H4 s4 q4 => ?_⟩
              obtain ⟨e4, da4, in4, l4⟩ := dz_cut (dzs_mono (Keep.same s1) _ _ da) (some (s9 + 1)) none
              have lx4 := dzs_len da4
              refine ⟨p1, p4, _, _, rfl, rfl, Tups.same s4 _ _ q1, q4, by rw [sl]; omega, fun p5 H5' s5 q5 => ?_⟩
              have s15 := s1.trans (s4.trans s5)
              have nr5' := nr9.same s15
              refine ⟨_, rfl, _, rfl, F, _, (k : Int), k, rfl, rfl, nr5'.f, len_ix, ?_⟩
              have dall : DzAll K w (okF S G F H) H5' _ (e1 ++ e4) := dzs_app (dzs_mono (Keep.same s15) _ _ da1) (dzs_mono (Keep.same (s4.trans s5)) _ _ da4)
              exact go7 H5' _ (.tuple (e1 ++ e4)) z9 none none none (by omega) nr5' (.tup q5 dall) (nb_tup (fun d hd => by
                rcases List.mem_append.mp hd with h | h
                · exact itd _ (in1 _ h)
                · exact itd _ (in4 _ h)) (by rw [List.length_append]; omega))
            rw [decide_eq_false (fun e => c3 (V.int.inj e))]
            refine iteF ⟨_, rfl, rfl, _, rfl, ?_⟩
            by_cases c4 : w9 = 4
            · rw [decide_eq_true (by rw [c4])]
              obtain ⟨xs, sq, da⟩ := rowk nr9
              have lx := dzs_len da
              have it0 : IT (.tuple []) := ⟨(fit_tup (ds := []) (n := 0) (W := 0) (D := 0) (fun d hd => (List.not_mem_nil hd).elim) (Nat.le_refl _)).le (by decide) (by decide), Nat.zero_le _⟩
              have it3 : IT (.tuple [.str "one", .str "two", .str "three"]) := ⟨(fit_tup (n := 3) (W := 10) (D := 0) (fun d hd => by
                simp only [List.mem_cons, List.not_mem_nil, or_false] at hd
                rcases hd with rfl | rfl | rfl <;> exact fit_s (by decide +kernel)) (Nat.le_refl _)).le (by decide) (by decide), by show 3 ≤ 60; decide⟩
              refine iteT ?_
              refine cutT fun T8 eT8 => ?_
              refine ⟨_, rfl, ρ, xs, rfl, .inr sq, fun L1 n1 => ?_⟩
              have s1 := same_new (o := .lst xs) n1
              refine ⟨_, rfl, by rw [sl]; exact (by decide : (1 : Nat) ≤ 16777216), fun t2 n2 => fun D n3 => ?_⟩
              have s2 := same_new (o := .tup [V.ref ρ]) n2
              have s3 := same_new (o := MD w D []) n3
              refine ⟨_, rfl, Nat.zero_le _, fun t4 n4 => ⟨by rw [sl]; exact (by decide : (1 : Nat) ≤ 16777216), fun t5 n5 => ?_⟩⟩
              have s4 := same_new (o := .tup []) n4
              have s5 := same_new (o := .tup [V.ref t4]) n5
              have sa := s1.trans (s2.trans (s3.trans (s4.trans s5)))
              refine ⟨ρ, t5, _, _, rfl, rfl, Tups.same sa _ _ sq, .inl (.inl upd_same), by rw [sl]; show _ + 1 ≤ 16777216; omega, fun p6 H6 s6 q6 => ?_⟩
              refine ⟨_, rfl, by rw [sl]; exact (by decide : (3 : Nat) ≤ 16777216), fun t7 n7 => ⟨by rw [sl]; exact (by decide : (1 : Nat) ≤ 16777216), fun t8 n8 => ?_⟩⟩
              have s7 := same_new (o := .tup [V.str (Str.ofString "one"), V.str (Str.ofString "two"), V.str (Str.ofString "three")]) n7
              have s8 := same_new (o := .tup [V.ref t7]) n8
              have sb := sa.trans (s6.trans (s7.trans s8))
              refine ⟨ρ, t8, _, _, rfl, rfl, Tups.same sb _ _ sq, .inl (.inl upd_same), by rw [sl]; show _ + 1 ≤ 16777216; omega, fun p9 H9' s9' q9 => ?_⟩
              have sc := sb.trans s9'
              refine ⟨_, rfl, ρ, xs, rfl, Tups.same sc _ _ sq, fun p10 n10 => ⟨by rw [sl]; exact (by decide : (9 : Nat) ≤ 16777216), fun L11 n11 => ?_⟩⟩
              have s10 := same_new (o := .tup xs.reverse) n10
              have s11 := same_new (o := .lst [V.ref L1, V.non, V.int 0, V.str (Str.ofString "ab"), V.ref t2, V.ref D, V.ref p6, V.ref p9, V.ref p10]) n11
              have sd := sc.trans (s10.trans s11)
              have z1 : Dz K w (okF S G F H) _ (.ref L1) (.list ds) := mkL n1 ⟨⟨nr9.k.new n1, ButSG.none_of nr9.b n1 (nr9.k.new n1).1 (nr9.k.new n1).2⟩, (ne_of_none nr9.f n1).symm⟩ da
              have z2 := mkT (K := K) (w := w) (ok := okF S G F H) n2 (dzs_one (d := .tuple ds) (.tup (Tups.same s1 _ _ sq) (dzs_mono (Keep.same s1) _ _ da)))
              have z3 : Dz K w (okF S G F H) (upd (upd (upd H9 L1 (.lst xs)) t2 (.tup [V.ref ρ])) D (MD w D [])) (.ref D) (.dict []) := .dct upd_same
              have z4 := mkT (K := K) (w := w) (ok := okF S G F H) n4 .nil
              have z5 := kpT (K := K) (w := w) (ok := okF S G F H) (o := .tup [V.ref t4]) n5 z4
              have z6 : Dz K w (okF S G F H) H6 (.ref p6) (.tuple (ds ++ [.tuple []])) := .tup q6 (dzs_app (dzs_mono (Keep.same (sa.trans s6)) _ _ da) (dzs_one (dz_mono (Keep.same s6) _ _ z5)))
              have z7 := mkT (K := K) (w := w) (ok := okF S G F H) n7 (dz_strs ["one", "two", "three"])
              have z8 := kpT (K := K) (w := w) (ok := okF S G F H) (o := .tup [V.ref t7]) n8 z7
              have z9' : Dz K w (okF S G F H) H9' (.ref p9) (.tuple (ds ++ [.tuple [.str "one", .str "two", .str "three"]])) := .tup q9 (dzs_app (dzs_mono (Keep.same sc) _ _ da) (dzs_one (dz_mono (Keep.same s9') _ _ z8)))
              have z10 : Dz K w (okF S G F H) (upd H9' p10 (.tup xs.reverse)) (.ref p10) (.tuple ds.reverse) := mkT n10 (dzs_rev (dzs_mono (Keep.same sc) _ _ da))
              have dal : DzAll K w (okF S G F H) (upd H9' p10 (.tup xs.reverse)) [V.ref L1, V.non, V.int 0, V.str (Str.ofString "ab"), V.ref t2, V.ref D, V.ref p6, V.ref p9, V.ref p10] [.list ds, .none, .int 0, .str "ab", .tuple [.tuple ds], .dict [], .tuple (ds ++ [.tuple []]), .tuple (ds ++ [.tuple [.str "one", .str "two", .str "three"]]), .tuple ds.reverse] :=
                .cons (dz_mono (Keep.same (s2.trans (s3.trans (s4.trans (s5.trans (s6.trans (s7.trans (s8.trans (s9'.trans s10))))))))) _ _ z1) (.cons .non (.cons (.int _) (.cons (.str _) (.cons (dz_mono (Keep.same (s3.trans (s4.trans (s5.trans (s6.trans (s7.trans (s8.trans (s9'.trans s10)))))))) _ _ z2)
                (.cons (dz_mono (Keep.same (s4.trans (s5.trans (s6.trans (s7.trans (s8.trans (s9'.trans s10))))))) _ _ z3) (.cons (dz_mono (Keep.same (s7.trans (s8.trans (s9'.trans s10)))) _ _ z6) (.cons (dz_mono (Keep.same s10) _ _ z9') (.cons z10 .nil))))))))
              have hL11 := upd_same (H := upd H9' p10 (.tup xs.reverse)) (a := L11) (o := .lst [V.ref L1, V.non, V.int 0, V.str (Str.ofString "ab"), V.ref t2, V.ref D, V.ref p6, V.ref p9, V.ref p10])
              have nrd := nr9.same sd
              have sqd := Tups.same sd _ _ sq
              have dad := dzs_mono (Keep.same sd) _ _ da
              have dal' := dzs_mono (Keep.same s11) _ _ dal
              refine gn_i ?_
              generalize upd (upd H9' p10 (.tup xs.reverse)) L11 (.lst [V.ref L1, V.non, V.int 0, V.str (Str.ofString "ab"), V.ref t2, V.ref D, V.ref p6, V.ref p9, V.ref p10]) = HB at *
              clear sd s11 s10 sc s9' sb s8 s7 s6 sa s5 s4 s3 s2 s1 z1 z2 z3 z4 z5 z6 z7 z8 z9' z10 dal n11 n10
              dsimp only
              subst eT8
              refine ⟨_, rfl, _, rfl, _, rfl, _, rfl, ρ, ρ, xs, xs, rfl, rfl, sqd, sqd, by rw [sl]; omega, fun p12 HC sC q12 => ⟨by rw [sl]; exact (by decide : (1 : Nat) ≤ 16777216), fun L13 n13 => ?_⟩⟩
              have s13 := same_new (o := .lst [V.ref p12]) n13
              refine ⟨L11, L13, _, _, rfl, rfl, (sC.trans s13) _ _ hL11, upd_same, by rw [sl]; exact (by decide : (9 + 1 : Nat) ≤ 16777216), fun L14 n14 => ?_⟩
              have s14 := same_new (o := .lst ([V.ref L1, V.non, V.int 0, V.str (Str.ofString "ab"), V.ref t2, V.ref D, V.ref p6, V.ref p9, V.ref p10] ++ [V.ref p12])) n14
              have se := sC.trans (s13.trans s14)
              have nre := nrd.same se
              have pL14 := (nrd.same (sC.trans s13)).k.new n14
              have z12 : Dz K w (okF S G F H) HC (.ref p12) (.tuple (ds ++ ds)) := .tup q12 (dzs_app (dzs_mono (Keep.same sC) _ _ dad) (dzs_mono (Keep.same sC) _ _ dad))
              have dall := dzs_app (dzs_mono (Keep.same se) _ _ dal') (dzs_one (dz_mono (Keep.same (s13.trans s14)) _ _ z12))
              refine ⟨S, G, z9, L14, _, rfl, nre.k, by omega, .inl (.inl upd_same), pL14.1, pL14.2, by simp, by show 10 < 1000; decide, fun v HD hv bD kD => ?_⟩
              obtain ⟨d, hd, dv⟩ := dzs_mem dall hv
              have nrD := nre.but pF pN bD kD
              refine ⟨_, rfl, _, rfl, F, _, (k : Int), k, rfl, rfl, nrD.f, len_ix, ?_⟩
              refine go7 HD v d (z9 + 1) _ none none (by omega) nrD (dz_mono (Keep.butF bD nre.k) _ _ dv) ?_
              rcases List.mem_append.mp hd with h | h
              · simp only [List.mem_cons, List.not_mem_nil, or_false] at h
                rcases h with rfl | rfl | rfl | rfl | rfl | rfl | rfl | rfl | rfl
                · exact nb_lst itd (by omega)
                · exact nb_leaf (fit_non.le (by decide) (by decide)) rfl
                · exact nb_leaf ⟨by decide +kernel, by decide +kernel, rfl, rfl, by decide +kernel, Nat.zero_le _⟩ rfl
                · exact nb_leaf ((fit_s (by decide +kernel)).le (by decide) (by decide)) rfl
                · exact nb_tup (fun e he => by rw [List.mem_singleton.mp he]; exact row_it ld ri) (by show 1 ≤ 25; decide)
                · exact nb_leaf (fit_dct.le (by decide) (by decide)) rfl
                · exact nb_tup (fun e he => by
                    rcases List.mem_append.mp he with h | h
                    · exact itd _ h
                    · rw [List.mem_singleton.mp h]; exact it0) (by rw [List.length_append]; show _ + 1 ≤ 25; omega)
                · exact nb_tup (fun e he => by
                    rcases List.mem_append.mp he with h | h
                    · exact itd _ h
                    · rw [List.mem_singleton.mp h]; exact it3) (by rw [List.length_append]; show _ + 1 ≤ 25; omega)
                · exact nb_tup (fun e he => itd _ (List.mem_reverse.mp he)) (by rw [List.length_reverse]; omega)
              · rw [List.mem_singleton.mp h]
                exact nb_tup (fun e he => (List.mem_append.mp he).elim (itd _) (itd _)) (by rw [List.length_append]; omega)
            rw [decide_eq_false (fun e => c4 (V.int.inj e))]
            refine iteF ?_
            refine cutT fun T8 eT8 => ?_
            refine ⟨_, rfl, by rw [sl]; exact (by decide : (6 : Nat) ≤ 16777216), fun L1 n1 => ?_⟩
            have s1 := same_new (o := .lst [V.int 6, V.int 7, V.int 8, V.int 9, V.int 12, V.int 13]) n1
            have nr1 := nr9.same s1
            have pL1 := nr9.k.new n1
            refine ⟨S, G, z9, L1, _, rfl, nr1.k, by omega, .inl (.inl upd_same), pL1.1, pL1.2, by simp, by show 6 < 1000; decide, fun v HB hv bB kB => ?_⟩
            obtain ⟨m, rfl⟩ : ∃ m : Int, v = .int m := by
              simp only [List.mem_cons, List.not_mem_nil, or_false] at hv
              rcases hv with rfl | rfl | rfl | rfl | rfl | rfl <;> exact ⟨_, rfl⟩
            have nrB := nr1.but pF pN bB kB
            refine gn_i ?_
            dsimp only
            subst eT8
            refine cutT fun T9 eT9 => ?_
            refine ⟨_, rfl, fun D hD => ?_⟩
            refine lc_map (K := K) (fun _ k y => y = .str (wordsW.getD k Str.empty)) (steady_str (x := Str.ofString "abcdefghijklmnop")) (fun _ _ _ _ _ h => h) (fun _ _ => True.intro) (by decide) hD (fun j H' Q' hj s' q' => ?_) fun HC ys sC hys py => ?_
            · refine gn_i ⟨rfl, ?_⟩
              refine ⟨_, rfl, _, _, rfl, rfl, by rw [sl]; exact (by decide : (1 + 1 : Nat) ≤ 16777216), q' _ _ (Same.refl _) ?_⟩
              rw [word_at j hj]
            obtain rfl : ys = wordsW.map V.str := paired_range (z := Str.empty) py
            refine ⟨_, rfl, m, rfl, D, _, rfl, .inl (.inl hys), fun p np => ?_⟩
            have nrC := nrB.same sC
            obtain ⟨ws, ew, inw, lw⟩ : ∃ ws : List Str, cutV (wordsW.map V.str) none (some m) = ws.map V.str ∧ (∀ x ∈ ws, x ∈ wordsW) ∧ ws.length ≤ 16 := by
              unfold cutV
              rw [← List.map_drop, ← List.map_take]
              exact ⟨_, rfl, fun x hx => List.mem_of_mem_drop (List.mem_of_mem_take hx), by rw [List.length_take, List.length_drop]; show min _ (16 - _) ≤ 16; omega⟩
            rw [ew]
            have sD := same_new (o := .lst (ws.map V.str)) np
            have nrD := nrC.same sD
            have hp : (upd HC p (.lst (ws.map V.str))) p = some (.lst (ws.map V.str)) := upd_same
            have wf : ∀ x ∈ ws, Fit 10 0 (.str x) := fun x hx => wordsW_fit x (inw x hx)
            refine gn_i ?_
            generalize upd HC p (.lst (ws.map V.str)) = HD at *
            dsimp only
            subst eT9
            refine ⟨_, rfl, rfl, _, rfl, ?_⟩
            rw [show decide (V.int (k : Int) = V.int 0) = decide (k = 0) from decide_eq_decide.mpr ⟨fun e => by have := V.int.inj e; omega, fun e => by rw [e]; rfl⟩]
            by_cases ck : k = 0
            · rw [decide_eq_true ck]
              refine iteT ⟨_, rfl, p, rfl, ⟨_, .inl (.inl hp)⟩, fun D2 hD2 => ?_⟩
              refine lc_map (K := K) (fun H k y => ∃ t, y = .ref t ∧ SqT K H t [.str (ws.getD k Str.empty), .str "n"]) (steady_list (K := K) (a := p) (xs := ws.map V.str)) (fun _ _ _ _ tp h => by
                obtain ⟨t, e, sq⟩ := h
                exact ⟨t, e, tp _ _ sq⟩) (fun H' s' => .inl (.inl (s' _ _ hp))) (by rw [List.length_map]; omega) hD2 (fun j H' Q' hj s' q' => ?_) fun HE ys sE hys2 py2 => ?_
              · rw [List.length_map] at hj
                refine gn_i ⟨rfl, ?_⟩
                refine ⟨_, rfl, by rw [sl]; exact (by decide : (2 : Nat) ≤ 16777216), fun t nt => q' _ _ (same_new nt) ⟨t, rfl, ?_⟩⟩
                have ex : (ws.map V.str).getD j .non = .str (ws.getD j Str.empty) := by
                  rw [List.getD_eq_getElem?_getD, List.getElem?_map, List.getD_eq_getElem?_getD, List.getElem?_eq_getElem hj]; rfl
                rw [ex]
                exact .inl (.inl upd_same)
              have nrE := nrD.same sE
              rw [List.length_map] at py2
              have dall : DzAll K w (okF S G F H) HE ys (ws.map fun x => PyData.tuple [.str x, .str "n"]) := by
                have gen : ∀ (l : List Str) (ns : List Nat) (zs : List V), Paired (fun k y => ∃ t, y = .ref t ∧ SqT K HE t [.str (ws.getD k Str.empty), .str "n"]) ns zs → (ns.map fun k => ws.getD k Str.empty) = l → DzAll K w (okF S G F H) HE zs (l.map fun x => PyData.tuple [.str x, .str "n"]) := by
                  intro l ns zs hpd
                  induction hpd generalizing l with
                  | nil => rintro rfl; exact .nil
                  | cons a _ ih =>
                    rintro rfl
                    obtain ⟨t, rfl, sq⟩ := a
                    exact .cons (.tup sq (.cons (.str _) (.cons (.str _) .nil))) (ih _ rfl)
                exact gen ws _ _ py2 (range_getL ws Str.empty)
              refine ⟨D2, _, rfl, .inl ⟨.inl (.inl hys2), fun t nt => ?_⟩⟩
              have sF := same_new (o := .tup ys) nt
              have nrF := nrE.same sF
              refine ⟨_, rfl, _, rfl, F, _, (k : Int), k, rfl, rfl, nrF.f, len_ix, ?_⟩
              refine go7 _ _ _ (z9 + 1) _ _ _ (by omega) nrF (mkT nt dall) (nb_tup (fun d hd => ?_) (by rw [List.length_map]; omega))
              obtain ⟨x, hx, rfl⟩ := List.mem_map.mp hd
              exact ⟨(fit_tup (n := 2) (W := 10) (D := 0) (fun e he => by
                rcases List.mem_cons.mp he with rfl | he
                · exact wf x hx
                · rw [List.mem_singleton.mp he]; exact fit_s (by decide +kernel)) (Nat.le_refl _)).le (by decide) (by decide), by show 2 ≤ 60; decide⟩
            · rw [decide_eq_false ck]
              refine iteF ⟨_, rfl, p, _, rfl, .inl ⟨.inl (.inl hp), fun t nt => ?_⟩⟩
              have sF := same_new (o := .tup (ws.map V.str)) nt
              have nrF := nrD.same sF
              refine ⟨_, rfl, _, rfl, F, _, (k : Int), k, rfl, rfl, nrF.f, len_ix, ?_⟩
              refine go7 _ _ _ (z9 + 1) _ _ _ (by omega) nrF (mkT nt (dz_strs ws)) (nb_tup (fun d hd => ?_) (by rw [List.length_map]; omega))
              obtain ⟨x, hx, rfl⟩ := List.mem_map.mp hd
              exact ⟨(wf x hx).le (by decide) (by decide), Nat.zero_le _⟩
          obtain ⟨xs, sq, da⟩ := rowk nr8
          have lx := dzs_len da
          refine ⟨_, rfl, _, rfl, ρ, xs, rfl, .inr sq, _, _, rfl, rfl, S, G, z8, _, rfl, nr8.k, by omega, by omega, by omega, fun s9 H9 s0 s1' b9 k9 => ⟨_, rfl, S, G, z8 + 1, 6, rfl, k9, by omega, by decide, by decide, fun w9 HA w0 w1' bA kA => ⟨_, _, rfl, ?_⟩⟩⟩
          have nr9 := nr8.but pF pN b9 k9
          have nrA := nr9.but pF pN bA kA
          exact go6 HA s9 w9 (z8 + 1 + 1) s0 (by omega) w0 w1' (by omega) nrA (dz_mono (Keep.butF bA nr9.k) _ _ (dz_mono (Keep.butF b9 nr8.k) _ _ dv8))
        refine ⟨_, rfl, rfl, _, rfl, ?_⟩
        rw [show decide (V.int (k : Int) = V.int 0) = decide (k = 0) from decide_eq_decide.mpr ⟨fun e => by have := V.int.inj e; omega, fun e => by rw [e]; rfl⟩]
        by_cases ck : k = 0
        case neg =>
          rw [if_neg ck] at o7
          rw [decide_eq_false ck]
          refine iteF ⟨_, rfl, ?_⟩
          refine gn_i ?_
          exact go5 H7 v7 d7 z7 (by omega) nr7 dv7 o7.it
        rw [if_pos ck] at o7
        rw [decide_eq_true ck]
        obtain ⟨x, y, rfl, ox, oy⟩ := o7
        refine iteT ⟨_, rfl, S, G, z7, 2, rfl, nr7.k, by omega, by decide, by decide, fun i H8 i0 i1 b8 k8 => ⟨rfl, _, rfl, ?_⟩⟩
        have nr8 := nr7.but pF pN b8 k8
        have kp := Keep.butF (K := K) (w := w) (F := F) (H0 := H) b8 nr7.k
        have dv6' := dz_mono kp _ _ dv6
        have dv7' := dz_mono kp _ _ dv7
        by_cases ci : i = 0
        · rw [decide_eq_true (by rw [ci])]
          obtain ⟨t7, rfl⟩ := dz_ref dv7'
          cases dv7' with
          | @tup _ zs _ sq da =>
          obtain ⟨a0, a1, rfl⟩ : ∃ a0 a1, zs = [a0, a1] := by
            cases da with
            | cons p q => cases q with | cons p2 q2 => cases q2; exact ⟨_, _, rfl⟩
          have e1 : Dz K w (okF S G F H) H8 a1 y := dz_at da (k := 1) (by decide : 1 < 2)
          refine iteT ⟨_, rfl, t7, _, 1, _, rfl, rfl, sq, rfl, _, rfl, by rw [sl]; exact (by decide : (2 : Nat) ≤ 16777216), fun t9 n9 => ?_⟩
          refine gn_i ?_
          exact go5 _ _ _ (z7 + 1) (by omega) (nr8.same (same_new n9)) (mkT n9 (.cons e1 (.cons dv6' .nil))) (OD.pair oy o6)
        · rw [decide_eq_false (fun e => ci (V.int.inj e))]
          refine iteF ⟨_, rfl, ?_⟩
          refine gn_i ?_
          exact go5 H8 v7 _ (z7 + 1) (by omega) nr8 dv7' (OD.pair ox oy)
      refine ⟨_, rfl, rfl, _, rfl, ?_⟩
      rw [show decide (V.int (k : Int) = V.int 0) = decide (k = 0) from decide_eq_decide.mpr ⟨fun e => by have := V.int.inj e; omega, fun e => by rw [e]; rfl⟩]
      by_cases ck : k = 0
      · rw [decide_eq_true ck]
        refine iteT ⟨_, rfl, _, rfl, _, rfl, S, G, z + 2, N, _, rfl, nr6.k, by omega, .inl (.inl nr6.n), pN.1, pN.2, (fun e => by rw [List.map_eq_nil_iff.mp e] at m0; exact absurd m0 (by decide)), by rw [List.length_map]; omega, fun y7 H7 hv b7 k7 => ⟨by rw [sl]; exact (by decide : (2 : Nat) ≤ 16777216), fun t7 n7 => ?_⟩⟩
        obtain ⟨x7, hx7, rfl⟩ := List.mem_map.mp hv
        have nr7 := nr6.but pF pN b7 k7
        have s8 := same_new (o := .tup [v6, V.str x7]) n7
        have kp := Keep.butF (K := K) (w := w) (F := F) (H0 := H) b7 nr6.k
        refine gn_i ?_
        refine go4 _ _ _ (z + 2 + 1) (by omega) (nr7.same s8) (kpT n7 (dz_mono kp _ _ dv6)) (mkT n7 (.cons (dz_mono kp _ _ dv6) (.cons (.str x7) .nil))) ?_
        rw [if_pos ck]
        exact ⟨_, _, rfl, o6, ⟨(mf x7 hx7).le (Nat.le_refl _) (by decide), Nat.zero_le _⟩⟩
      · rw [decide_eq_false ck]
        refine iteF ⟨_, rfl, ?_⟩
        refine gn_i ?_
        refine go4 H6 v6 d6 (z + 2) (by omega) nr6 dv6 dv6 ?_
        rw [if_neg ck]
        exact o6
    refine ⟨_, rfl, by rw [sl]; exact (by decide : (1 : Nat) ≤ 16777216), fun t1 n1 => ⟨by rw [sl]; exact (by decide : (1 : Nat) ≤ 16777216), fun l1 n2 => ⟨by rw [sl]; exact (by decide : (10 : Nat) ≤ 16777216), fun L1 n3 => ?_⟩⟩⟩
    have s1 := same_new (o := .tup [V.str (Str.ofString "a")]) n1
    have s2 := same_new (o := .lst [V.str (Str.ofString "a")]) n2
    have s3 := same_new (o := .lst [V.str (Str.ofString ""), V.str (Str.ofString "A"), V.str (Str.ofString "ninelette"), V.non, V.int 0, V.str (Str.ofString "a b"), V.ref t1, V.ref l1, V.str (Str.ofString "*1"), V.bl true]) n3
    have b1 := mkT (K := K) (w := w) (ok := okF S G F H) n1 (dz_strs ["a"])
    have pl1 : okF S G F H l1 := ⟨⟨(nr5.k.same s1).new n2, ButSG.none_of (nr5.b.trans (ButSG.same s1)) n2 ((nr5.k.same s1).new n2).1 ((nr5.k.same s1).new n2).2⟩, (ne_of_none (s1 _ _ nr5.f) n2).symm⟩
    have b2 := mkL (K := K) (w := w) (ok := okF S G F H) n2 pl1 (dz_strs ["a"])
    have da3 : DzAll K w (okF S G F H) (upd (upd H5 t1 (.tup [V.str (Str.ofString "a")])) l1 (.lst [V.str (Str.ofString "a")])) [V.str (Str.ofString ""), V.str (Str.ofString "A"), V.str (Str.ofString "ninelette"), V.non, V.int 0, V.str (Str.ofString "a b"), V.ref t1, V.ref l1, V.str (Str.ofString "*1"), V.bl true] oddA :=
      .cons (.str _) (.cons (.str _) (.cons (.str _) (.cons .non (.cons (.int _) (.cons (.str _) (.cons (kpT n2 b1) (.cons b2 (.cons (.str _) (.cons (.bl _) .nil)))))))))
    have s13 := s1.trans (s2.trans s3)
    have nr8 := nr5.same s13
    refine ⟨_, rfl, L1, N, _, _, rfl, rfl, upd_same, nr8.n, by rw [sl, List.length_map]; exact Nat.le_trans (Nat.add_le_add_left m60 10) (by decide), fun L2 n4 => ?_⟩
    have s4 := same_new (o := .lst ([V.str (Str.ofString ""), V.str (Str.ofString "A"), V.str (Str.ofString "ninelette"), V.non, V.int 0, V.str (Str.ofString "a b"), V.ref t1, V.ref l1, V.str (Str.ofString "*1"), V.bl true] ++ (moreN R).map V.str)) n4
    have nr9 := nr8.same s4
    refine ⟨_, rfl, L2, N, _, _, rfl, rfl, upd_same, nr9.n, by rw [sl, List.length_append, List.length_map]; exact Nat.le_trans (Nat.add_le_add (Nat.add_le_add_left m60 10) m60) (by decide), fun L3 n5 => ?_⟩
    have s5 := same_new (o := .lst (([V.str (Str.ofString ""), V.str (Str.ofString "A"), V.str (Str.ofString "ninelette"), V.non, V.int 0, V.str (Str.ofString "a b"), V.ref t1, V.ref l1, V.str (Str.ofString "*1"), V.bl true] ++ (moreN R).map V.str) ++ (moreN R).map V.str)) n5
    have nr10 := nr9.same s5
    have pL3 := nr9.k.new n5
    have da6 := dzs_app (dzs_app (dzs_mono (Keep.same (s3.trans (s4.trans s5))) _ _ da3) (dz_strs (K := K) (w := w) (ok := okF S G F H) (moreN R))) (dz_strs (K := K) (w := w) (ok := okF S G F H) (moreN R))
    refine ⟨S, G, z + 1, L3, _, rfl, nr10.k, by omega, .inl (.inl upd_same), pL3.1, pL3.2, by simp, by simp only [List.length_append, List.length_map, List.length_cons, List.length_nil]; omega, fun v6 H6 hv b6 k6 => ?_⟩
    obtain ⟨d6, hd6, dv6⟩ := dzs_mem da6 hv
    have o6 : OD d6 := by
      rcases List.mem_append.mp hd6 with h | h
      · rcases List.mem_append.mp h with h | h
        · exact oddA_ok _ h
        · obtain ⟨x, hx, rfl⟩ := List.mem_map.mp h
          exact ⟨(mf x hx).le (Nat.le_refl _) (by decide), Nat.zero_le _⟩
      · obtain ⟨x, hx, rfl⟩ := List.mem_map.mp h
        exact ⟨(mf x hx).le (Nat.le_refl _) (by decide), Nat.zero_le _⟩
    refine gn_i ?_
    exact go3 H6 v6 d6 (by have := nr10.but pF pN b6 k6; rwa [show z + 1 + 1 = z + 2 by omega] at this) (dz_mono (Keep.butF b6 nr10.k) _ _ dv6) o6
end
end Fc
namespace Fc
open PySem PySem.Spec L2 PyProof.Rows
/-! a frame against a list -/
section
variable {prog : Program} {w : World} {A : Around} {E : Value → Shared → Prop} {s : Shared} {K : PySem.W.Frag} {x C f : Addr} {ox : Obj} {od : Option Obj}
theorem list_sub (C : Addr) : PySem.W.subIn K (.type "list") (.ref C) = some false := by rfl
theorem ne_L {y : Addr} {oy : Obj} {Q : Value → Shared → Prop} (hu : A.in1.units < cLine) (hu0 : A.units < cLine) (X : K.In s.heap) (I : PySem.W.InstAt s.heap x ox C od) (hy : s.heap.get? y = some oy) (hc : oy.cls = .type "list") (hm : PySem.W.mroIn K C (.type "object") = some true)
    (hn : PySem.W.findIn K (.ref C) "__ne__" = some (some (.builtin "object.__ne__"))) (hs : PySem.W.findIn K (.ref C) "__eq__" = some (some (.ref f))) (hf : PySem.W.isFn K (.ref f) = true)
    (h : wpAny (model prog w) A.in1 (call (.ref f) [.ref x, .ref y]) (fun v s' => ∃ b, v = .bool b ∧ Q (.bool (!b)) s') E s) : wpAny (model prog w) A (compareOp .NotEq (.ref x) (.ref y)) Q E s := by
  have one : wpAny (model prog w) A (tryCompare (.ref x) "__ne__" (.ref y)) (fun r s' => ∃ v, r = some v ∧ Q v s') E s := by
    unfold tryCompare
    refine wpAny_bind (bound_slot X I hn PySem.F.slot_object_ne.bind (obj_ne hu X I hm hs hf (wpAny_mono h (fun v s' hv => ?_) fun _ _ e => e)))
    obtain ⟨b, rfl, hq⟩ := hv
    exact ⟨b, rfl, wpAny_pure ⟨_, rfl, hq⟩⟩
  have ty : PySem.W.Looks (model prog w) s.heap (typeOf (.ref y)) (.type "list") := hc ▸ (PySem.W.Looks.ld hy).andThen .now
  unfold compareOp richCompare
  simp only [oneThing_ref]
  refine wpAny_holding (wpAny_bind (wpAny_cRoomFor hu0 ?_))
  refine wpAny_bind (I.type.here (wpAny_bind (ty.here ?_)))
  rw [show (Value.ref C != Value.type "list") = true from rfl]
  simp only [if_true]
  refine wpAny_bind ((PySem.W.looks_subIn X (list_sub C)).here ?_)
  simp only [Bool.false_eq_true, if_false]
  refine wpAny_bind (wpAny_mono one (fun r s' z => ?_) fun _ _ e => e)
  obtain ⟨v, rfl, hq⟩ := z
  exact wpAny_pure hq
end
def rNeOL (K : PySem.W.Frag) (C : Addr) (sp : Sp) : R2 := fun x y H Q => ∃ a b dx fs xs, x = .ref a ∧ y = .ref b ∧ H a = some (.ins C dx fs) ∧ H b = some (.lst xs) ∧ sp [.ref a, .ref b] H (fun v H' => ∃ c, v = .bl c ∧ Q (.bl (!c)) H') E0
theorem op_neOL {X : Cx} {k : Nat} {C : Addr} {sp : Sp} (M : OwnM X.prog X.w X.K X.mg X.base k C "__eq__" sp) (N : NeTxt X.K C) (hr : Room (k + 1) X.A) : OpR X (compareOp .NotEq) (rNeOL X.K C sp) := by
  intro pins s σ H x y v u Q I rx ry h
  obtain ⟨a, b, dx, fs, xs, rfl, rfl, ha, hb, hsp⟩ := h
  obtain ⟨f, fd, ps, F, hs, hf, hbd⟩ := M.at_
  cases rx
  cases ry
  obtain ⟨mA, J, _⟩ := ins_get I.hok ha
  obtain ⟨od, J, _⟩ := J.look
  obtain ⟨its, rv, pl, _⟩ := I.list (a := b) (xs := xs) (.inl (.inl hb))
  obtain ⟨oy, hy, hc, _, _⟩ := pl.isList
  refine ne_L hr.in1.units0 hr.units0 I.kIn J hy hc N.m N.n hs hf ?_
  refine wpAny_mono (own_call (vs := [V.ref a, V.ref b]) F hbd hr.in1 rfl I (.cons rfl (.cons rfl .nil)) hsp) (fun r s' q => ?_) fun _ _ e => e
  obtain ⟨z, H', I', rz, c, ez, q⟩ := q
  subst ez
  cases rz
  exact ⟨c, rfl, .bl (!c), H', I', rfl, q⟩
def spEqL (K : PySem.W.Frag) (C : Addr) : Sp := fun vs H Q _ => ∃ p r P xs, vs = [.ref p, .ref r] ∧ FrAt K C H p P ∧ H r = some (.lst xs) ∧ Q (.bl false) H
section
variable {K : PySem.W.Frag} {mg : Str → Option Value} {base : Heap} {P : Program} {w : World}
theorem okM15L {f C : Addr} {fd : FuncData} (F : Fun K "__eq__" "Frame.__eq__" (mF 15) f fd) (B : Blt mg) (T : FrTxt K mg C) (hk : PySem.W.kitOne K (.type "list") (.ref C) = some false) : FnOk P w K mg base CX0 1 f fd ["self", "other"] (spEqL K C) := by
  refine F.ok scM15 (fun vs H Q E h => ?_) (fun cdv A outer s H vs Q E hr h => ?_)
  · obtain ⟨p, r, P, xs, rfl, _⟩ := h
    rfl
  · have hu := hu70 hr
    refine ⟨_, pss_cons (ps_if (pt_not (pt_val (pe_callB call_isi (by rfl) B.isinstance boot_isinstance (pa_cons (pv 1) (pa_cons (pe_glob (v := .ref C) (by rfl) T.g rfl) pa_nil))))) (pss_one (ps_ret pe_bl)) pss_nil)
      (pss_cons (ps_if (pw_or (pt_cmpR (op_neP (hu64 hu)) (pe_fld (pv 0) rfl) (pe_fld (pv 1) rfl) (nomark _)) (pw_or1 (pt_cmpR (op_neP (hu64 hu)) (pe_fld (pv 0) rfl) (pe_fld (pv 1) rfl) (nomark _)))).pt (pss_one (ps_ret pe_bl)) pss_nil)
      (pss_one (ps_ret (pe_cmpR (op_eqP (hu64 hu)) (pe_fld (pv 0) rfl) (pe_fld (pv 1) rfl) (nomark _))))), ?_⟩
    obtain ⟨p, r, P, xs, rfl, fr, hl, q⟩ := h
    exact ⟨_, rfl, .ref r, .ref C, _, _, false, rfl, .own C, .base (.lst hl), hk, _, rfl, iteT q⟩
end
end Fc
namespace Fc
open PySem PySem.Spec L2 PyProof.Rows
theorem Keep.butS {K : PySem.W.Frag} {w : World} {ok : Addr → Prop} {S G : Addr} {n : Int} {H H' : Hp} (ho : ∀ a, ok a → okS S G a) (b : ButSG S G H H') (k : SkAt H S G n) : Keep K w ok H H' :=
  ⟨tups_but b k, fun a xs o e => b _ _ (ho a o).1 (ho a o).2 e, fun a e => but_get b k e (fun _ z => by cases z)⟩
theorem Keep.fill {K : PySem.W.Frag} {w : World} {ok : Addr → Prop} {H : Hp} {D : Addr} {zs ws : List V} (ho : ∀ a, ok a → a ≠ D) (hD : H D = some (.lst zs)) : Keep K w ok H (upd H D (.lst ws)) :=
  ⟨Tups.upd fun u e => by rw [hD] at e; cases e; exact True.intro, fun a xs o e => by rw [upd_ne (ho a o)]; exact e, fun a e => by rw [upd_ne (fun z => by rw [z, hD] at e; cases e)]; exact e⟩
theorem LRow.keep {K : PySem.W.Frag} {w : World} {ok : Addr → Prop} {H H' : Hp} {r : Addr} {d1 d2 d3 : PyData} (h : LRow K w ok H r d1 d2 d3) (k : Keep K w ok H H') (hr : ∀ xs, H r = some (.lst xs) → H' r = some (.lst xs)) : LRow K w ok H' r d1 d2 d3 := by
  obtain ⟨⟨v1, v2, v3, h0, z1, z2, z3⟩, b, c, d⟩ := h
  exact ⟨⟨v1, v2, v3, hr _ h0, dz_mono k _ _ z1, dz_mono k _ _ z2, dz_mono k _ _ z3⟩, b, c, d⟩
theorem LRow.imp {K : PySem.W.Frag} {w : World} {ok ok2 : Addr → Prop} {H : Hp} {r : Addr} {d1 d2 d3 : PyData} (h : LRow K w ok H r d1 d2 d3) (k : ∀ a, ok a → ok2 a) : LRow K w ok2 H r d1 d2 d3 := by
  obtain ⟨⟨v1, v2, v3, h0, z1, z2, z3⟩, b, c, d⟩ := h
  exact ⟨⟨v1, v2, v3, h0, dz_imp k _ _ z1, dz_imp k _ _ z2, dz_imp k _ _ z3⟩, b, c, d⟩
/-- parts, or what is near some -/
def ValN (K : PySem.W.Frag) (w : World) (ok : Addr → Prop) (H : Hp) (z : V) : Prop := ∃ F d1 d2 d3, z = .ref F ∧ ok F ∧ LRow K w ok H F d1 d2 d3 ∧ NB d1 ∧ NB d2 ∧ NB d3
theorem ValN.keep {K : PySem.W.Frag} {w : World} {ok : Addr → Prop} {H H' : Hp} {z : V} (h : ValN K w ok H z) (k : Keep K w ok H H') : ValN K w ok H' z := by
  obtain ⟨F, d1, d2, d3, e, o, l, n⟩ := h
  exact ⟨F, d1, d2, d3, e, o, l.keep k fun xs e => k.lst _ _ o e, n⟩
theorem ValN.imp {K : PySem.W.Frag} {w : World} {ok ok2 : Addr → Prop} {H : Hp} {z : V} (h : ValN K w ok H z) (k : ∀ a, ok a → ok2 a) : ValN K w ok2 H z := by
  obtain ⟨F, d1, d2, d3, e, o, l, n⟩ := h
  exact ⟨F, d1, d2, d3, e, k _ o, l.imp k, n⟩
theorem lc_near {K : PySem.W.Frag} {w : World} {S G D : Addr} {te : TE} {i : Nat} {σ : L2.St} {H1 : Hp} {Qd : Hp → Prop} {n0 : Int} (hi : i < σ.length) (hD : H1 D = none) (k1 : SkAt H1 S G n0)
    (step : ∀ k H2 Q', k < 8 → ButSG S G H1 H2 → SkAt H2 S G (n0 + ((k * 10 : Nat) : Int)) → (∀ H3 F d1 d2 d3, ButSG S G H2 H3 → SkAt H3 S G (n0 + (((k + 1) * 10 : Nat) : Int)) → H2 F = none → okS S G F → LRow K w (fun a => okS S G a ∧ H2 a = none) H3 F d1 d2 d3 → NB d1 → NB d2 → NB d3 → Q' (.ref F) H3) → te ((wipe σ [i]).set i (some (.int (0 + (k : Int))))) H2 Q')
    (done : ∀ H3 zs, ButSG S G H1 H3 → SkAt H3 S G (n0 + 80) → H3 D = some (.lst zs) → zs.length = 8 → (∀ z ∈ zs, ValN K w (okS S G) H3 z) → Qd H3) :
    ∃ W : Nat → Nat → Hp → Prop, (∃ m, W 0 m (upd H1 D (.lst []))) ∧ ∀ i_1 m H, W i_1 m H → ((Itr 0 8).stop i_1 H ∧ Qd H) ∨
      ((Itr 0 8).go i_1 H ∧ ∃ Nx : Hp → Prop, (∀ H', Nx H' → ∃ m', m' < m ∧ W (i_1 + 1) m' H') ∧ ∀ x H', (Itr 0 8).yld i_1 H x H' → gName i x (wipe σ [i]) H' fun σ2 H2 => wipe σ2 [i] = wipe σ [i] ∧ tYes σ2 H2 fun b H3 =>
        if b = true then te σ2 H3 fun y H4 => ∃ acc, H4 D = some (.lst acc) ∧ acc.length < sizeLine ∧ Nx (upd H4 D (.lst (acc ++ [y]))) else Nx H3) := by
  have pD := k1.new hD
  refine lc_steady steady_rng (fun k H => ButSG S G H1 H ∧ SkAt H S G (n0 + ((k * 10 : Nat) : Int)) ∧ ∃ zs, H D = some (.lst zs) ∧ zs.length = k ∧ ∀ z ∈ zs, ValN K w (fun a => okS S G a ∧ a ≠ D) H z)
    ⟨ButSG.same (same_new hD), (by have := k1.same (same_new (o := .lst ([] : List V)) hD); simpa using this), [], upd_same, rfl, fun d h => by cases h⟩ (fun _ _ _ _ => trivial) (fun k H2 hk h => ?_) fun H h => ?_
  · obtain ⟨b2, k2, zs, hz, lz, vz⟩ := h
    have w1 : wipe ((wipe σ [i]).set i (some (.int (0 + (k : Int))))) [i] = wipe σ [i] := by
      show ((σ.set i none).set i (some _)).set i none = σ.set i none
      rw [List.set_set, List.set_set]
    refine ⟨w1, yes_i (iteT (step k H2 _ hk b2 k2 fun H3 F d1 d2 d3 b3 k3 nF pF lr e1 e2 e3 => ?_))⟩
    have hz3 := b3 _ _ pD.1 pD.2 hz
    have FD : F ≠ D := fun z => by rw [z, hz] at nF; cases nF
    have lr2 : LRow K w (fun a => okS S G a ∧ a ≠ D) H3 F d1 d2 d3 := lr.imp fun a o => ⟨o.1, fun z => by rw [z, hz] at o; exact nomatch o.2⟩
    have kf : Keep K w (fun a => okS S G a ∧ a ≠ D) H3 (upd H3 D (.lst (zs ++ [V.ref F]))) := Keep.fill (fun a o => o.2) hz3
    refine ⟨zs, hz3, by rw [sizeLine_eq]; omega, fun b o p q e => ?_, k3.upd pD, zs ++ [.ref F], upd_same, by rw [List.length_append, lz]; rfl, fun z hz' => ?_⟩
    · rw [upd_ne (ne_of_none e hD)]
      exact b3 _ _ p q (b2 _ _ p q e)
    · rcases List.mem_append.mp hz' with h | h
      · exact ((vz z h).keep (Keep.butS (fun a o => o.1) b3 k2)).keep kf
      · rw [List.mem_singleton.mp h]
        exact ValN.keep ⟨F, d1, d2, d3, rfl, ⟨pF, FD⟩, lr2, e1, e2, e3⟩ kf
  · obtain ⟨b2, k2, zs, hz, lz, vz⟩ := h
    exact done H zs b2 k2 hz lz fun z hz => (vz z hz).imp fun a o => o.1
theorem ff_names {d1 d2 d3 : PyData} (f : formD d1 d2 d3 = true) (h1 : ffD d1 = true) (h2 : ffD d2 = true) (h3 : ffD d3 = true) : OddP (paD d1 d2 d3) := by
  obtain ⟨e1, e2, e3, nm⟩ := form_eq f
  generalize paD d1 d2 d3 = P at *
  subst e1 e2 e3
  have a2 : ∀ l : List Str, ffD (dS l) = true → ∀ x ∈ l, oddS x = true := fun l h x hx => (ffDs_iff _).mp h _ (List.mem_map.mpr ⟨x, hx, rfl⟩)
  intro x hx
  have : x ∈ wordsL P := words_mem.mpr hx
  unfold wordsL at this
  rcases List.mem_append.mp this with h | h
  · obtain ⟨e, he, hx⟩ := List.mem_flatMap.mp h
    have := (ffDs_iff _).mp h1 _ (List.mem_map.mpr ⟨e, he, rfl⟩)
    have t := (ffDs_iff _).mp this
    rcases List.mem_cons.mp hx with rfl | hx
    · exact t (.str e.1) (by simp)
    · rw [List.mem_singleton.mp hx]; exact t (.str e.2) (by simp)
  · rcases List.mem_append.mp h with h | h
    · exact a2 _ h2 x h
    · exact a2 _ h3 x h
theorem eqv_rows (P R : Pa) : PyData.eqv (.list (rowsD P)) (.list (rowsD R)) = decide (P = R) := by
  show PyData.eqvAll (rowsD P) (rowsD R) = _
  have : PyData.eqvAll (rowsD P) (rowsD R) = (PyData.eqv (dA P.arrays) (dA R.arrays) && (PyData.eqv (dS P.pos) (dS R.pos) && (PyData.eqv (dS P.vals) (dS R.vals) && true))) := rfl
  rw [this, eqv_dA, eqv_dS, eqv_dS, Bool.and_true, Bool.eq_iff_iff]
  simp only [Bool.and_eq_true, decide_eq_true_eq]
  constructor
  · rintro ⟨a, b, c⟩
    cases P; cases R; cases a; cases b; cases c; rfl
  · rintro rfl; exact ⟨rfl, rfl, rfl⟩
theorem pl_rows (P : Pa) : plD (.list (rowsD P)) := by
  obtain ⟨a1, a2⟩ := pl_dA P.arrays
  obtain ⟨b1, b2⟩ := pl_dS P.pos
  obtain ⟨c1, c2⟩ := pl_dS P.vals
  have dd : ∀ l : List Str, (dS l).depth ≤ 1 := fun l => by
    have e2 : PyData.depthAll (l.map PyData.str) ≤ 0 := (depAll_iff 0 _).mpr fun d hd => by obtain ⟨x, _, rfl⟩ := List.mem_map.mp hd; exact Nat.le_refl _
    show PyData.depthAll (l.map PyData.str) + 1 ≤ 1
    omega
  have da : (dA P.arrays).depth ≤ 2 := by
    have e2 : PyData.depthAll (P.arrays.map fun e => PyData.tuple [.str e.1, .str e.2]) ≤ 1 := (depAll_iff 1 _).mpr fun d hd => by obtain ⟨x, _, rfl⟩ := List.mem_map.mp hd; exact Nat.le_refl _
    show PyData.depthAll (P.arrays.map fun e => PyData.tuple [.str e.1, .str e.2]) + 1 ≤ 2
    omega
  refine ⟨?_, ?_⟩
  · show PyData.plainAll (rowsD P) = true
    exact plainAll_iff _ fun d hd => by
      simp only [rowsD, List.mem_cons, List.not_mem_nil, or_false] at hd
      rcases hd with rfl | rfl | rfl
      · exact a1
      · exact b1
      · exact c1
  · have e2 : PyData.depthAll (rowsD P) ≤ 2 := (depAll_iff 2 _).mpr fun d hd => by
      simp only [rowsD, List.mem_cons, List.not_mem_nil, or_false] at hd
      rcases hd with rfl | rfl | rfl
      · exact da
      · exact Nat.le_trans (dd _) (by decide)
      · exact Nat.le_trans (dd _) (by decide)
    show PyData.depthAll (rowsD P) + 1 ≤ 64
    omega
theorem RowAt.dp {K : PySem.W.Frag} {H : Hp} {r : Addr} {P : Pa} (h : RowAt K H r P) : Dp K H (.ref r) (.list (rowsD P)) := by
  obtain ⟨tA, tP, tV, h1, h2, h3, h4⟩ := h.ex
  exact .lst (.inl (.inl h1)) (.cons h2 (.cons h3 (.cons h4 .nil)))
theorem RowAt.val {K : PySem.W.Frag} {w : World} {H : Hp} {r : Addr} {P : Pa} (h : RowAt K H r P) (ok : PaOk P) (od : OddP P) : ValN K w (fun _ => True) H (.ref r) := by
  obtain ⟨tA, tP, tV, h1, h2, h3, h4⟩ := h.ex
  have nbA : NB (dA P.arrays) := by obtain ⟨l, e, a, b⟩ := rows_ri ok od 0 (by decide); rw [show dA P.arrays = .tuple l from e]; exact row_nb a b
  have nbP : NB (dS P.pos) := by obtain ⟨l, e, a, b⟩ := rows_ri ok od 1 (by decide); rw [show dS P.pos = .tuple l from e]; exact row_nb a b
  have nbV : NB (dS P.vals) := by obtain ⟨l, e, a, b⟩ := rows_ri ok od 2 (by decide); rw [show dS P.vals = .tuple l from e]; exact row_nb a b
  exact ⟨r, _, _, _, rfl, trivial, ⟨⟨_, _, _, h1, dz_of _ _ (tupD_dA _) h2, dz_of _ _ (tupD_dS _) h3, dz_of _ _ (tupD_dS _) h4⟩, ⟨nbA.fit.sm, nbP.fit.sm, nbV.fit.sm⟩, ⟨nbA.ln, nbP.ln, nbV.ln⟩, fun d hd => Nat.le_trans (nbA.li d hd) (by decide)⟩, nbA, nbP, nbV⟩
theorem ref_non (p : Addr) : decide (V.bl (!decide (V.ref p = V.non)) = V.bl true) = true := by
  rw [decide_eq_false (fun z : V.ref p = V.non => by cases z)]; rfl
def spRightN (K : PySem.W.Frag) : Sp := fun vs H Q _ => ∃ (S G : Addr) (n : Int), vs = [.ref S] ∧ SkAt H S G n ∧ n + 1000 < 2 ^ 60 ∧ ∀ H', ButSG S G H H' → SkAt H' S G (n + 200) → Q (.bl true) H'
section
variable {K : PySem.W.Frag} {mg : Str → Option Value} {base : Heap} {P : Program} {w : World}
abbrev nj46 : List Str := ["_law_skein_here", "_law_parts_here", "_law_value", "_law_text", "_law_due_here", "_law_one", "_law_two", "_law_turn"]
theorem sp46 : FnScope nj46 ["_law_skein_here"] (defScope (topK 46)) := ⟨rfl, rfl, rfl, by decide +kernel, rfl, by decide +kernel, by decide +kernel⟩
theorem op46 {f C Cf : Addr} {fd : FuncData} (F : Fun K "_law_right" "_law_right" (topK 46) f fd) (B : Blt mg) (N : NeTxt K C)
    (c37 : Cal P w K mg base 3 "_law_parts" (spPartsW K)) (c45 : Cal P w K mg base 3 "_law_near" (spNearP K w)) (c42 : Cal P w K mg base 3 "_law_are_parts" (spAreP K w)) (c43 : Cal P w K mg base 5 "_law_met" (spMet K w C)) (c44 : CalG P w K mg base 7 "_law_is_told" (spTold K C)) (c39 : CalX P w K mg base 5 "_law_frame" (spLawFr K C Cf))
    (M15 : OwnM P w K mg base 1 C "__eq__" (spEqF K C)) (M15L : OwnM P w K mg base 1 C "__eq__" (spEqL K C)) : FnG P w K mg base 8 f fd ["_law_skein_here"] (spRightN K) := by
  refine okG F sp46 (fun vs H Q E h => ?_) (fun cdv A outer s H vs Q E hgd hr h => ?_)
  · obtain ⟨S, G, n, rfl, _⟩ := h
    rfl
  · have hu := hu70 hr
    refine ⟨_, (pss_cons (ps_set (i := 1) sp46.nd rfl (Or.inr rfl) (pe_c c37 hr (by decide) (by rfl) (pa_cons (pv 0) pa_nil))) (pss_cons (ps_for PassesOwn.never rfl (pi_list (pe_op op_cat (pe_lst (pa_cons (pv 1) pa_nil)) (pe_lc (own := [("_law_turn", 7)]) (g := gName 7) (by rfl) sp46.nd (pi_range1 (by rfl) B.range (pa_cons pe_int pa_nil)) (blkOk_by (N := nj46) (sc := defScope (topK 46)) (by decide +kernel)) (fun _ _ _ _ _ => (pg_name (i := 7) sp46.nd rfl (Or.inl rfl))) (fun _ _ _ _ _ => pts_nil) (fun _ _ _ _ _ => (pe_c c45 hr (by decide) (by rfl) (pa_cons (pv 0) (pa_cons (pv 1) pa_nil))))))) (pg_name (i := 2) sp46.nd rfl (Or.inl rfl)) (pss_cons (ps_par (i := 3) (j := 4) rfl sp46.nd rfl rfl (by decide) rfl rfl (pa_cons (pe_callB (r := rRepZ K w) (call_reprZ hgd (hu65 hu)) (by rfl) B.repr boot_repr (pa_cons (pv 2) pa_nil)) (pa_cons (pe_c c42 hr (by decide) (by rfl) (pa_cons (pv 2) pa_nil)) pa_nil)) (by rfl)) (pss_cons (ps_par (i := 5) (j := 6) rfl sp46.nd rfl rfl (by decide) rfl rfl (pa_cons (pe_c c43 hr (by decide) (by rfl) (pa_cons (pv 2) pa_nil)) (pa_cons (pe_c c43 hr (by decide) (by rfl) (pa_cons (pv 2) pa_nil)) pa_nil)) (by rfl)) (pss_cons (ps_if (pw_or (pt_cmpR op_ne (pe_cmpR op_notN (pv 5) pe_non (nomark _)) (pv 4) (nomark _)) (pw_or (pt_cmpR op_ne (pe_cmpR op_notN (pv 6) pe_non (nomark _)) (pv 4) (nomark _)) (pw_or1 (pt_cmpR op_ne (pe_callB (r := rRepZ K w) (call_reprZ hgd (hu65 hu)) (by rfl) B.repr boot_repr (pa_cons (pv 2) pa_nil)) (pv 3) (nomark _))))).pt (pss_one (ps_ret pe_bl)) pss_nil) (pss_cons (ps_if (pw_and (pt_val (pv 4)) (pw_and1 (pw_or (pt_cmpR (op_neO M15 N (hr.mono (by decide))) (pv 5) (pv 6) (nomark _)) (pw_or1 (pt_not (pt_val (pe_cg c44 hgd hr (by decide) (by rfl) (pa_cons (pv 5) (pa_cons (pv 2) pa_nil))))))).pt)).pt (pss_one (ps_ret pe_bl)) pss_nil) (pss_one (ps_if (pw_and (pt_val (pv 4)) (pw_and1 (pt_cmpR op_ne (pe_cmpR (op_eqO M15 (hr.mono (by decide))) (pv 5) (pe_cx c39 hr (by decide) (by rfl) (pa_cons (pv 1) pa_nil)) (nomark _)) (pe_cmpR (op_eqP (hu64 hu)) (pv 2) (pv 1) (nomark _)) (nomark _)))).pt (pss_one (ps_ret pe_bl)) pss_nil))))))) (pss_one (ps_ret (pe_cmpR (op_neOL M15L N (hr.mono (by decide))) (pe_cx c39 hr (by decide) (by rfl) (pa_cons (pv 1) pa_nil)) (pv 1) (nomark _)))))), ?_⟩
    obtain ⟨S, G, n, rfl, sk, nb, q⟩ := h
    have sl : sizeLine = 16777216 := sizeLine_eq
    refine cutT fun T1 eT1 => ?_
    refine ⟨_, rfl, S, G, n, rfl, sk, by omega, fun H1 r R b1 k1 nr row1 okR w16 => ?_⟩
    have pok := PaOk.of row1.nm okR
    have od : OddP R := fun x hx => (by decide +kernel : ∀ x ∈ W16, oddS x = true) x (w16 x hx)
    have pr := row1.ne k1
    refine gn_i ?_
    dsimp only
    subst eT1
    refine cutT fun T2 eT2 => ?_
    refine ⟨_, rfl, by rw [sl]; exact (by decide : (1 : Nat) ≤ 16777216), fun L1 n1 => ?_⟩
    have s1 := same_new (o := .lst [V.ref r]) n1
    have k2 := k1.same s1
    have row2 := row1.mono s1
    have pL1 := k1.new n1
    refine ⟨8, rfl, by decide, by decide, fun D hD => ?_⟩
    refine lc_near (K := K) (w := w) (by show 7 < 8; decide) hD k2 (fun k H2 Q' hk b2 k2' st => ?_) fun H3 zs b3 k3 hz lz vz => ?_
    · have row3 := row2.but b2 k2
      refine ⟨_, rfl, _, rfl, S, G, _, r, R, rfl, k2', by omega, row3, pok, od, fun H3 F' d1 d2 d3 b3 k3 nF pF lr e1 e2 e3 => ?_⟩
      exact st H3 F' d1 d2 d3 b3 (k3.le (by omega)) nF pF lr e1 e2 e3
    · have hL := b3 _ _ pL1.1 pL1.2 (upd_same (H := H1) (a := L1) (o := .lst [V.ref r]))
      refine ⟨L1, D, _, _, rfl, rfl, hL, hz, by rw [sl, lz]; exact (by decide : (1 + 8 : Nat) ≤ 16777216), fun L2 n2 => ?_⟩
      have s4 := same_new (o := .lst ([V.ref r] ++ zs)) n2
      have row4 := (row2.but b3 k2).mono s4
      have k4 := k3.same s4
      have b4 : ButSG S G H _ := ((b1.trans (ButSG.same s1)).trans b3).trans (ButSG.same s4)
      have va : ∀ z ∈ [V.ref r] ++ zs, ValN K w (fun _ => True) (upd H3 L2 (.lst ([V.ref r] ++ zs))) z := fun z hz => by
        rcases List.mem_append.mp hz with h | h
        · rw [List.mem_singleton.mp h]; exact row4.val pok od
        · exact ((vz z h).imp fun _ _ => trivial).keep (Keep.same s4)
      have lv : ([V.ref r] ++ zs).length = 9 := by rw [List.length_append, lz]; rfl
      have hL2 : SqL K (upd H3 L2 (.lst ([V.ref r] ++ zs))) L2 ([V.ref r] ++ zs) := .inl (.inl upd_same)
      refine ⟨L2, rfl, ⟨_, hL2⟩, ?_⟩
      generalize upd H3 L2 (.lst ([V.ref r] ++ zs)) = H4 at *
      generalize [V.ref r] ++ zs = ws at *
      clear s4 n2 hL hz vz lz b3 k3 hD pL1 row2 k2 s1 n1 row1 pr k1 b1
      refine for_steady steady_list (fun i σ H' => Same H4 H' ∧ ∃ z2 z3 z4 z5 z6, σ = [some (.ref S), some (.ref r), z2, z3, z4, z5, z6, none]) ⟨Same.refl _, _, _, _, _, _, rfl⟩ (fun i σ H' hi h => sqL_same h.1 hL2) ?_ ?_
      · rintro i σ H5 hi ⟨s5, z2, z3, z4, z5, z6, rfl⟩
        obtain ⟨F', d1, d2, d3, ev, _, lr, e1, e2, e3⟩ := va (ws.getD i .non) (by
          rw [List.getD_eq_getElem?_getD, List.getElem?_eq_getElem hi]
          exact List.getElem_mem hi)
        rw [ev]
        replace lr := lr.mono s5
        have row5 := row4.mono s5
        obtain ⟨v1, v2, v3, h0, y1, y2, y3⟩ := lr.ex
        have ft : Fit 18400 6 (.list [d1, d2, d3]) := (fit_lst (n := 3) (fun d hd => by
          simp only [List.mem_cons, List.not_mem_nil, or_false] at hd
          rcases hd with rfl | rfl | rfl
          · exact e1.fit
          · exact e2.fit
          · exact e3.fit) (Nat.le_refl _)).le (by decide) (by decide)
        have dv : ∀ {H'}, Same H5 H' → Dz K w (fun _ => True) H' (.ref F') (.list [d1, d2, d3]) := fun {H'} s => .lst (s _ _ h0) trivial (.cons (dz_mono (Keep.same s) _ _ y1) (.cons (dz_mono (Keep.same s) _ _ y2) (.cons (dz_mono (Keep.same s) _ _ y3) .nil)))
        refine gn_i ?_
        dsimp only
        refine ⟨_, rfl, fun _ => True, .ref F', _, rfl, dv (Same.refl _), ft.bp (by decide), Nat.le_trans ft.dp (by decide), _, rfl, fun _ => True, F', d1, d2, d3, rfl, lr, fun H6 s6 => ⟨_, _, rfl, ?_⟩⟩
        cases fd' : frameD d1 d2 d3 with
        | false =>
          refine ⟨_, rfl, fun _ => True, F', d1, d2, d3, rfl, lr.mono s6, fun _ H7 s7 => ⟨_, rfl, fun _ => True, F', d1, d2, d3, rfl, lr.mono (s6.trans s7), fun _ H8 s8 => ⟨_, _, rfl, ?_⟩, fun e => by rw [fd'] at e; cases e⟩, fun e => by rw [fd'] at e; cases e⟩
          have s68 := s6.trans (s7.trans s8)
          refine ⟨_, rfl, rfl, _, rfl, rfl, _, rfl, ?_⟩
          rw [show decide (V.bl (!decide (V.non = V.non)) = V.bl false) = true by decide]
          refine iteF ⟨_, rfl, rfl, _, rfl, rfl, _, rfl, ?_⟩
          rw [show decide (V.bl (!decide (V.non = V.non)) = V.bl false) = true by decide]
          refine iteF ⟨_, rfl, fun _ => True, .ref F', _, rfl, dv s68, ft.bp (by decide), Nat.le_trans ft.dp (by decide), _, rfl, rfl, _, rfl, ?_⟩
          rw [decide_eq_true rfl]
          refine iteF ?_
          refine ⟨_, rfl, _, rfl, iteF ?_⟩
          refine ⟨_, rfl, _, rfl, iteF ?_⟩
          exact ⟨s5.trans s68, _, _, _, _, _, rfl⟩
        | true =>
          refine ⟨_, rfl, fun _ => True, F', d1, d2, d3, rfl, lr.mono s6, (fun e => by rw [fd'] at e; cases e), fun _ H7 p s7 np fb => ⟨_, rfl, fun _ => True, F', d1, d2, d3, rfl, lr.mono (s6.trans s7), (fun e => by rw [fd'] at e; cases e), fun _ H8 p2 s8 np2 fb2 => ⟨_, _, rfl, ?_⟩⟩⟩
          have s68 := s6.trans (s7.trans s8)
          have f : formD d1 d2 d3 = true := by
            unfold frameD at fd'
            exact (Bool.and_eq_true_iff.mp fd').1
          have odd := ff_names f e1.fit.ff e2.fit.ff e3.fit.ff
          refine ⟨_, rfl, rfl, _, rfl, rfl, _, rfl, ?_⟩
          rw [ref_non p]
          refine iteF ⟨_, rfl, rfl, _, rfl, rfl, _, rfl, ?_⟩
          rw [ref_non p2]
          refine iteF ⟨_, rfl, fun _ => True, .ref F', _, rfl, dv s68, ft.bp (by decide), Nat.le_trans ft.dp (by decide), _, rfl, rfl, _, rfl, ?_⟩
          rw [decide_eq_true rfl]
          refine iteF ?_
          have fb8 := fb.same s8
          have rowF := (lr.mono s68).row f
          have row8 := row5.mono s68
          obtain ⟨_, dx, fs, _, _, _, _, q1, _⟩ := fb8.fr
          obtain ⟨_, dx2, fs2, _, _, _, _, q2, _⟩ := fb2.fr
          refine ⟨_, rfl, _, rfl, iteT ⟨_, rfl, _, rfl, p, p2, dx, dx2, fs, fs2, rfl, rfl, q1, q2, p, p2, _, _, rfl, fb8.fr, fb2.fr, _, rfl, _, rfl, ?_⟩⟩
          rw [decide_eq_true rfl]
          refine iteF ⟨_, rfl, _, rfl, p, F', _, rfl, fb8, rowF, odd, fun H9 s9 => ⟨_, rfl, iteF ?_⟩⟩
          have row9 := row8.mono s9
          refine ⟨_, rfl, _, rfl, iteT ⟨_, rfl, _, rfl, r, R, rfl, row9, (fun e => by rw [okR] at e; cases e), fun _ HA p3 sA fr3 => ?_⟩⟩
          have frA := fb8.fr.same (s9.trans sA)
          obtain ⟨_, dx3, fs3, _, _, _, _, q3, _⟩ := id fr3
          refine ⟨p, p3, dx, dx3, fs, fs3, rfl, rfl, (s9.trans sA) _ _ q1, q3, p, p3, _, _, rfl, frA, fr3, _, rfl, _, rfl, _, rfl, _, _, (rowF.mono (s9.trans sA)).dp, (row9.mono sA).dp, pl_rows _, pl_rows _, rfl, _, rfl, ?_⟩
          rw [eqv_rows, decide_eq_true rfl]
          exact iteF ⟨s5.trans (s68.trans (s9.trans sA)), _, _, _, _, _, rfl⟩
      · rintro σ H5 ⟨s5, z2, z3, z4, z5, z6, rfl⟩
        subst eT2
        have row5 := row4.mono s5
        refine ⟨_, rfl, r, R, rfl, row5, (fun e => by rw [okR] at e; cases e), fun _ H6 p s6 fr => ?_⟩
        obtain ⟨_, dx, fs, _, _, _, _, q1, _⟩ := id fr
        obtain ⟨uA, uP, uV, r0, _⟩ := (row5.mono s6).ex
        exact ⟨_, rfl, p, r, dx, fs, _, rfl, rfl, q1, r0, p, r, R, _, rfl, fr, r0, _, rfl, q _ (b4.trans (ButSG.same (s5.trans s6))) ((k4.same (s5.trans s6)).le (by omega))⟩
end
end Fc
namespace Fc
open PySem PySem.Spec L2 PyProof.Rows
/-! a text n times -/
theorem rep_size (c : Array Nat) : ∀ (n : Nat) (a : Array Nat), ((List.replicate n c).foldl (· ++ ·) a).size = a.size + n * c.size
  | 0, a => by simp
  | n + 1, a => by
    rw [List.replicate_succ, List.foldl_cons, rep_size c n, Array.size_append, Nat.add_mul, Nat.one_mul]
    omega
def rMulS : R2 := fun x y H Q => ∃ (a : Str) (n : Int), x = .str a ∧ y = .int n ∧ 0 ≤ n ∧ n ≤ 1000 ∧ a.length ≤ 1000 ∧ ∀ z : Str, z.length ≤ a.length * n.toNat → Q (.str z) H
theorem op_mulS {X : Cx} : OpR X (binaryOp .Mult) rMulS := by
  intro pins s σ H x y v u Q I rx ry h
  obtain ⟨a, n, rfl, rfl, n0, n1, al, q⟩ := h
  obtain ⟨t, rfl⟩ := (show ∃ t, v = Value.str a t from rx)
  obtain ⟨t2, rfl⟩ := (show ∃ t, u = Value.int n t from ry)
  have m : a.length * n.toNat ≤ 1000 * 1000 := Nat.mul_le_mul al (by omega)
  have fin : ∀ (z : Str) (t : Tok) (k : Nat), z.length ≤ a.length * n.toNat → EP X pins σ Q (.str z t) { s with toks := k } := fun z t k h => ⟨.str z, H, I.tok k, ⟨_, rfl⟩, q z h⟩
  refine P.mul_str (by rw [decide_eq_false (by omega), decide_eq_false (by omega)]; rfl) (fun h1 _ h2 => ?_) (fun _ _ => short24 (by omega)) ?_
  · have : (2 ^ 63 - 1) / n ≥ (2 ^ 63 - 1) / 1000 := by
      have e : (2 ^ 63 - 1 : Int) / 1000 * n ≤ 2 ^ 63 - 1 := by omega
      exact (Int.le_ediv_iff_mul_le (by omega)).mpr e
    omega
  · by_cases c1 : n < 1
    · rw [if_pos c1]
      exact ⟨by decide, fin _ _ _ (Nat.zero_le _)⟩
    · rw [if_neg c1]
      by_cases c2 : (n == 1 || a.length == 0) = true
      · rw [if_pos c2]
        refine fin a t s.toks ?_
        have : 1 ≤ n.toNat := by omega
        exact Nat.le_mul_of_pos_right _ this
      · rw [if_neg c2]
        have z : ((⟨(List.replicate n.toNat a.cps).foldl (· ++ ·) #[]⟩ : Str)).length = n.toNat * a.length := by
          show Array.size _ = _
          rw [rep_size]
          simp [Str.length]
        exact ⟨by rw [sizeLine_eq, z, Nat.mul_comm]; omega, fin _ _ _ (by rw [z, Nat.mul_comm]; exact Nat.le_refl _)⟩
/-! names told, of texts and of all else -/
def spNameK (K : PySem.W.Frag) : Sp := fun vs H Q _ => ∃ a kvs, vs = [.ref a] ∧ H a = some (.dK kvs) ∧ Q (.bl false) H
def spNameY (K : PySem.W.Frag) (w : World) : Sp := fun vs H Q E => spNameZ K w vs H Q E ∨ spNameK K vs H Q E
def spLNameZ (K : PySem.W.Frag) (w : World) : Sp := fun vs H Q _ => ∃ ok v d, vs = [v] ∧ Dz K w ok H v d ∧ smD d = true ∧ ∀ H', Same H H' → Q (.bl (isNameD d)) H'
def spLNameY (K : PySem.W.Frag) (w : World) : Sp := fun vs H Q E => spLNameZ K w vs H Q E ∨ spNameK K vs H Q E
/-- one sign of a text, drawn -/
def spOneS : Sp := fun vs H Q _ => ∃ S G n x, vs = [.ref S, .str x] ∧ SkAt H S G n ∧ n < 2 ^ 60 ∧ 0 < x.length ∧ x.length < 1000 ∧ ∀ (c : Nat) H', ButSG S G H H' → SkAt H' S G (n + 1) → Q (.str ⟨#[c]⟩) H'
section
variable {K : PySem.W.Frag} {mg : Str → Option Value} {base : Heap} {P : Program} {w : World}
theorem ok35S {f : Addr} {fd : FuncData} (F : Fun K "_law_one_of" "_law_one_of" (topS 35) f fd) (B : Blt mg) (c34 : Cal P w K mg base 1 "_law_pull" (spPull K)) : FnOk P w K mg base CX0 2 f fd n35 spOneS := by
  refine F.ok sc35 (fun vs H Q E h => ?_) (fun cdv A outer s H vs Q E hr h => ?_)
  · obtain ⟨S, G, n, x, rfl, _⟩ := h
    rfl
  · refine ⟨_, pss_one (ps_ret (pe_ix ix_str (pv 1) (pe_c c34 hr (by decide) (by rfl) (pa_cons (pv 0) (pa_cons (pe_callB call_len_str (by rfl) B.len boot_len (pa_cons (pv 1) pa_nil)) pa_nil))) (fun _ _ => rfl))), ?_⟩
    obtain ⟨S, G, n, x, rfl, sk, nb, pos, hl, q⟩ := h
    have sl : sizeLine = 16777216 := sizeLine_eq
    refine ⟨_, rfl, _, rfl, _, rfl, x, rfl, by rw [sl]; omega, S, G, n, _, rfl, sk, nb, by omega, by omega, fun r H' r0 r1 b sk' => ?_⟩
    have hr : r.toNat < x.cps.toList.length := by have : x.cps.toList.length = x.length := by simp [Str.length]
                                                  omega
    have hat : atI x.cps.toList r = some x.cps.toList[r.toNat] := by
      have h := atI_nat (List.getElem?_eq_getElem hr)
      rw [show ((r.toNat : Nat) : Int) = r by omega] at h
      exact h
    exact ⟨x, r, _, rfl, rfl, by rw [sl]; omega, hat, q _ _ b sk'⟩
theorem ok21K {f : Addr} {fd : FuncData} (F : Fun K "is_name" "is_name" (topS 21) f fd) (B : Blt mg) : FnOk P w K mg base CX0 1 f fd ["value"] (spNameK K) := by
  refine F.ok sc21 (fun vs H Q E h => ?_) (fun cdv A outer s H vs Q E hr h => ?_)
  · obtain ⟨a, kvs, rfl, _⟩ := h
    rfl
  · obtain ⟨a, kvs, rfl, ha, q⟩ := h
    refine ⟨_, pss_cons (ps_if (pw_or (pt_not (pt_val (pe_callB call_isi (by rfl) B.isinstance boot_isinstance (pa_cons (pv 0) (pa_cons (pe_bltn (v := .ty "str") (by rfl) B.str boot_str rfl) pa_nil)))))
        (pw_or1 (pt_not (pt_chain op_le op_le pe_int (pe_callB call_len_str (by rfl) B.len boot_len (pa_cons (pv 0) pa_nil)) pe_int)))).pt (pss_one (ps_ret pe_bl)) pss_nil)
      (pss_cons (ps_for PassesOwn.never rfl (pi_str (pv 0)) (pg_name (i := 1) sc21.nd rfl (Or.inl rfl)) (pss_one (ps_if (pt_not (pt_chain op_le_str op_le_str pe_str (pv 1) pe_str)) (pss_one (ps_ret pe_bl)) pss_nil)))
      (pss_one (ps_ret pe_bl))), ?_⟩
    exact ⟨_, rfl, .ref a, .ty "str", _, _, false, rfl, .ty "str", .base (.dK ha), kit_ty (by decide +kernel), _, rfl, iteT q⟩
abbrev nj47 : List Str := ["_law_value", "_law_letter"]
theorem sp47 : FnScope nj47 ["_law_value"] (defScope (topK 47)) := ⟨rfl, rfl, rfl, by decide +kernel, rfl, by decide +kernel, by decide +kernel⟩
theorem op47 {f : Addr} {fd : FuncData} (F : Fun K "_law_is_name" "_law_is_name" (topK 47) f fd) (B : Blt mg) : FnOk P w K mg base CX0 1 f fd ["_law_value"] (spLNameZ K w) := by
  refine F.ok sp47 (fun vs H Q E h => ?_) (fun cdv A outer s H vs Q E hr h => ?_)
  · obtain ⟨ok, v, d, rfl, _⟩ := h
    rfl
  · have hu := hu70 hr
    refine ⟨_, (pss_cons (ps_if (pw_or (pt_not (pt_val (pe_callB call_isiZ (by rfl) B.isinstance boot_isinstance (pa_cons (pv 0) (pa_cons (pe_bltn (v := .ty "str") (by rfl) B.str boot_str rfl) pa_nil))))) (pw_or1 (pt_not (pt_chain op_le op_le pe_int (pe_callB call_len_str (by rfl) B.len boot_len (pa_cons (pv 0) pa_nil)) pe_int)))).pt (pss_one (ps_ret pe_bl)) pss_nil) (pss_one (ps_ret (pe_cmpR (op_eqNil (hu64 hu)) (pe_lc (own := [("_law_letter", 1)]) (g := gName 1) (by rfl) sp47.nd (pi_str (pv 0)) (blkOk_by (N := nj47) (sc := defScope (topK 47)) (by decide +kernel)) (fun _ _ _ _ _ => (pg_name (i := 1) sp47.nd rfl (Or.inl rfl))) (fun _ _ _ _ _ => pts_one (pt_not (pt_chain op_le_str op_le_str pe_str (pv 1) pe_str))) (fun _ _ _ _ _ => (pv 1))) (pe_lst pa_nil) (nomark _))))), ?_⟩
    obtain ⟨ok, v, d, rfl, hd, hz, q⟩ := h
    have no : isTy d "str" = false → Q (.bl false) H := fun e => by
      have := q H (Same.refl _)
      cases d <;> first | exact this | (exact nomatch e)
    refine ⟨_, rfl, ok, v, d, _, rfl, hd, .inr (.inr (.inl rfl)), _, rfl, ?_⟩
    cases hd with
    | non => exact iteT (no rfl)
    | bl _ => exact iteT (no rfl)
    | int _ => exact iteT (no rfl)
    | lst _ _ _ => exact iteT (no rfl)
    | tup _ _ => exact iteT (no rfl)
    | dct _ => exact iteT (no rfl)
    | str x =>
    clear no
    replace hz : x.length ≤ 1000 := of_decide_eq_true hz
    replace q : ∀ H', Same H H' → Q (.bl (isNameS x)) H' := q
    have z1 : x.length ≤ sizeLine := by rw [sizeLine_eq]; omega
    refine iteF ⟨_, rfl, x, rfl, z1, 1, _, rfl, rfl, _, rfl, ?_⟩
    unfold isNameS at q
    by_cases c1 : (1 : Int) ≤ (x.length : Int)
    case neg =>
      rw [decide_eq_false c1] at q ⊢
      exact iteF ⟨_, rfl, iteT (q _ (Same.refl _))⟩
    rw [decide_eq_true c1] at q ⊢
    refine iteT ⟨_, _, rfl, rfl, _, rfl, ?_⟩
    by_cases c2 : (x.length : Int) ≤ 8
    case neg =>
      rw [decide_eq_false c2] at q ⊢
      exact iteT (q _ (Same.refl _))
    rw [decide_eq_true c2] at q ⊢
    refine iteF ⟨_, rfl, x, rfl, fun D hD => ?_⟩
    replace q : ∀ H', Same H H' → Q (.bl (x.cps.toList.all lowC)) H' := q
    refine lc_gen2 (K := K) (fun k => !lowC (x.cps.getD k 0)) (fun _ _ _ => True) (steady_str (x := x)) (fun _ _ _ _ _ h => h) (fun _ _ => True.intro) (show 1 < 2 by decide) (by show x.length ≤ 5000; omega) hD (fun k H3 Q' hk s3 q' => ?_) (fun k H3 Q' hk _ s3 q' => ?_) fun H2 ys s2 hys py => ?_
    · have q1 := q' _ (Same.refl _)
      refine ⟨_, rfl, _, _, rfl, rfl, _, rfl, ?_⟩
      have e1 : (!decide (({ cps := #[x.cps.getD k 0] } : Str).cps.toList < (Str.ofString "a").cps.toList)) = !decide ([x.cps.getD k 0] < [97]) := rfl
      have e2 : (!decide ((Str.ofString "z").cps.toList < ({ cps := #[x.cps.getD k 0] } : Str).cps.toList)) = !decide ([122] < [x.cps.getD k 0]) := rfl
      unfold lowC at q1
      rw [e1]
      cases d1 : !decide ([x.cps.getD k 0] < [97]) with
      | false => rw [d1] at q1; exact iteF ⟨_, rfl, q1⟩
      | true =>
        rw [d1] at q1
        refine iteT ⟨_, _, rfl, rfl, ?_⟩
        rw [e2]
        exact ⟨_, rfl, q1⟩
    · exact ⟨_, rfl, q' _ _ (Same.refl _) True.intro⟩
    have ey : decide (ys = []) = x.cps.toList.all lowC := by
      rw [Bool.eq_iff_iff, decide_eq_true_iff, List.all_eq_true]
      have := paired_len py
      constructor
      · rintro rfl c hc
        have e := List.eq_nil_of_length_eq_zero this
        rw [List.filter_eq_nil_iff] at e
        obtain ⟨i, hi, rfl⟩ := List.getElem_of_mem hc
        have := e i (List.mem_range.mpr (by simpa using hi))
        rw [Array.getD_eq_getD_getElem?, Array.getElem?_eq_getElem (by simpa using hi)] at this
        simpa using this
      · intro h
        have e : (List.range x.cps.size).filter (fun k => !lowC (x.cps.getD k 0)) = [] := by
          rw [List.filter_eq_nil_iff]
          intro k hk
          have hk := List.mem_range.mp hk
          rw [Array.getD_eq_getD_getElem?, Array.getElem?_eq_getElem hk]
          have := h x.cps[k] (by simp)
          simp [this]
        rw [e] at this
        exact List.eq_nil_of_length_eq_zero this.symm
    refine ⟨Nat.zero_le _, fun N hN => ?_⟩
    have s3 := same_new (o := .lst []) hN
    refine ⟨D, ys, N, rfl, rfl, .inl (.inl (s3 _ _ hys)), .inl (.inl upd_same), ?_⟩
    show Q (.bl (decide (ys = []))) _
    rw [ey]
    exact q _ (s2.trans s3)
theorem op47K {f : Addr} {fd : FuncData} (F : Fun K "_law_is_name" "_law_is_name" (topK 47) f fd) (B : Blt mg) : FnOk P w K mg base CX0 1 f fd ["_law_value"] (spNameK K) := by
  refine F.ok sp47 (fun vs H Q E h => ?_) (fun cdv A outer s H vs Q E hr h => ?_)
  · obtain ⟨a, kvs, rfl, _⟩ := h
    rfl
  · have hu := hu70 hr
    obtain ⟨a, kvs, rfl, ha, q⟩ := h
    refine ⟨_, (pss_cons (ps_if (pw_or (pt_not (pt_val (pe_callB call_isi (by rfl) B.isinstance boot_isinstance (pa_cons (pv 0) (pa_cons (pe_bltn (v := .ty "str") (by rfl) B.str boot_str rfl) pa_nil))))) (pw_or1 (pt_not (pt_chain op_le op_le pe_int (pe_callB call_len_str (by rfl) B.len boot_len (pa_cons (pv 0) pa_nil)) pe_int)))).pt (pss_one (ps_ret pe_bl)) pss_nil) (pss_one (ps_ret (pe_cmpR (op_eqNil (hu64 hu)) (pe_lc (own := [("_law_letter", 1)]) (g := gName 1) (by rfl) sp47.nd (pi_str (pv 0)) (blkOk_by (N := nj47) (sc := defScope (topK 47)) (by decide +kernel)) (fun _ _ _ _ _ => (pg_name (i := 1) sp47.nd rfl (Or.inl rfl))) (fun _ _ _ _ _ => pts_one (pt_not (pt_chain op_le_str op_le_str pe_str (pv 1) pe_str))) (fun _ _ _ _ _ => (pv 1))) (pe_lst pa_nil) (nomark _))))), ?_⟩
    exact ⟨_, rfl, .ref a, .ty "str", _, _, false, rfl, .ty "str", .base (.dK ha), kit_ty (by decide +kernel), _, rfl, iteT q⟩
end
end Fc
namespace Fc
open PySem PySem.Spec L2 PyProof.Rows
/-- what is a name just if b -/
def IsY (K : PySem.W.Frag) (w : World) (ok : Addr → Prop) (H : Hp) (v : V) (b : Bool) : Prop := (∃ d, Dz K w ok H v d ∧ smD d = true ∧ b = isNameD d) ∨ ∃ a kvs, v = .ref a ∧ H a = some (.dK kvs) ∧ b = false
theorem IsY.same {K : PySem.W.Frag} {w : World} {ok : Addr → Prop} {H H' : Hp} {v : V} {b : Bool} (h : IsY K w ok H v b) (s : Same H H') : IsY K w ok H' v b :=
  h.elim (fun ⟨d, h, r⟩ => .inl ⟨d, dz_mono (Keep.same s) _ _ h, r⟩) fun ⟨a, k, e, h, r⟩ => .inr ⟨a, k, e, s _ _ h, r⟩
theorem IsY.but {K : PySem.W.Frag} {w : World} {S G : Addr} {n : Int} {H H' : Hp} {v : V} {b : Bool} (h : IsY K w (okS S G) H v b) (bt : ButSG S G H H') (k : SkAt H S G n) : IsY K w (okS S G) H' v b :=
  h.elim (fun ⟨d, h, r⟩ => .inl ⟨d, dz_mono (Keep.butS (fun _ o => o) bt k) _ _ h, r⟩) fun ⟨a, kv, e, h, r⟩ => .inr ⟨a, kv, e, but_get bt k h (fun _ z => by cases z), r⟩
theorem isY_name {K : PySem.W.Frag} {w : World} {ok : Addr → Prop} {H : Hp} {v : V} {b : Bool} {Q : VK} {E : XK} (h : IsY K w ok H v b) (q : Q (.bl b) H) : spNameY K w [v] H Q E := by
  rcases h with ⟨d, h, sm, rfl⟩ | ⟨a, kvs, rfl, h, rfl⟩
  · exact .inl ⟨ok, v, d, rfl, h, sm, q⟩
  · exact .inr ⟨a, kvs, rfl, h, q⟩
theorem isY_law {K : PySem.W.Frag} {w : World} {ok : Addr → Prop} {H : Hp} {v : V} {b : Bool} {Q : VK} {E : XK} (h : IsY K w ok H v b) (q : ∀ H', Same H H' → Q (.bl b) H') : spLNameY K w [v] H Q E := by
  rcases h with ⟨d, h, sm, rfl⟩ | ⟨a, kvs, rfl, h, rfl⟩
  · exact .inl ⟨ok, v, d, rfl, h, sm, q⟩
  · exact .inr ⟨a, kvs, rfl, h, q _ (Same.refl _)⟩
theorem isY_str {K : PySem.W.Frag} {w : World} {ok : Addr → Prop} {H : Hp} {x : Str} (h : x.length ≤ 1000) : IsY K w ok H (.str x) (isNameS x) := .inl ⟨.str x, .str x, decide_eq_true h, rfl⟩
theorem cutS_le (x : Str) (lo hi : Option Int) : (cutS x lo hi).length ≤ x.length := by
  unfold cutS
  simp [Str.length]
  omega
def spWordsR (K : PySem.W.Frag) : Sp := fun vs H Q _ => ∃ (S G : Addr) (n : Int), vs = [.ref S] ∧ SkAt H S G n ∧ n + 1000 < 2 ^ 60 ∧ ∀ H', ButSG S G H H' → SkAt H' S G (n + 100) → Q (.bl true) H'
section
variable {K : PySem.W.Frag} {mg : Str → Option Value} {base : Heap} {P : Program} {w : World}
abbrev nj55 : List Str := ["_law_skein_here", "_law_word", "_law_odd", "_law_value", "_law_turn"]
theorem sp55 : FnScope nj55 ["_law_skein_here"] (defScope (topK 55)) := ⟨rfl, rfl, rfl, by decide +kernel, rfl, by decide +kernel, by decide +kernel⟩
theorem op55 {f : Addr} {fd : FuncData} (F : Fun K "_law_words_right" "_law_words_right" (topK 55) f fd) (B : Blt mg) (c34 : Cal P w K mg base 1 "_law_pull" (spPull K)) (c35 : Cal P w K mg base 2 "_law_one_of" (spOne K)) (c35S : Cal P w K mg base 2 "_law_one_of" spOneS)
    (c21 : Cal P w K mg base 1 "is_name" (spNameY K w)) (c47 : Cal P w K mg base 1 "_law_is_name" (spLNameY K w)) : FnG P w K mg base 3 f fd ["_law_skein_here"] (spWordsR K) := by
  refine okG F sp55 (fun vs H Q E h => ?_) (fun cdv A outer s H vs Q E hgd hr h => ?_)
  · obtain ⟨S, G, n, rfl, _⟩ := h
    rfl
  · have hu := hu70 hr
    refine ⟨_, (pss_cons (ps_set (i := 1) sp55.nd rfl (Or.inl rfl) (pe_join pe_str (pe_lc (own := [("_law_turn", 4)]) (g := gName 4) (by rfl) sp55.nd (pi_range1 (by rfl) B.range (pa_cons (pe_c c34 hr (by decide) (by rfl) (pa_cons (pv 0) (pa_cons pe_int pa_nil))) pa_nil)) (blkOk_by (N := nj55) (sc := defScope (topK 55)) (by decide +kernel)) (fun _ _ _ _ _ => (pg_name (i := 4) sp55.nd rfl (Or.inl rfl))) (fun _ _ _ _ _ => pts_nil) (fun _ _ _ _ _ => (pe_c c35S hr (by decide) (by rfl) (pa_cons (pv 0) (pa_cons pe_str pa_nil))))))) (pss_cons (ps_set (i := 2) sp55.nd rfl (Or.inl rfl) (pe_lst (pa_cons (pe_upper (pv 1)) (pa_cons (pe_op op_add_str (pv 1) pe_str) (pa_cons (pe_op op_add_str pe_str (pv 1)) (pa_cons (pe_op op_add_str (pv 1) pe_str) (pa_cons pe_str (pa_cons pe_str (pa_cons pe_non (pa_cons pe_int (pa_cons (pe_tup (pa_cons (pv 1) pa_nil)) (pa_cons (pe_lst (pa_cons (pv 1) pa_nil)) (pa_cons (pe_disp (pps_cons (pv 1) pe_int pps_nil) rfl rfl (by simp) (by decide)) (pa_cons pe_bl (pa_cons pe_str pa_nil))))))))))))))) (pss_cons (ps_for PassesOwn.never rfl (pi_list (pe_lst (pa_cons (pv 1) (pa_cons (pe_slice sl_str (pv 1) po_none (po_some pe_int)) (pa_cons pe_str (pa_cons pe_str (pa_cons pe_str (pa_cons (pe_c c35 hr (by decide) (by rfl) (pa_cons (pv 0) (pa_cons (pv 2) pa_nil))) (pa_cons (pe_op op_mulS pe_str (pe_c c34 hr (by decide) (by rfl) (pa_cons (pv 0) (pa_cons pe_int pa_nil)))) pa_nil))))))))) (pg_name (i := 3) sp55.nd rfl (Or.inl rfl)) (pss_one (ps_if (pt_cmpR op_ne (pe_callB (r := rRepZ K w) (call_reprZ hgd (hu65 hu)) (by rfl) B.repr boot_repr (pa_cons (pe_lst (pa_cons (pe_c c21 hr (by decide) (by rfl) (pa_cons (pv 3) pa_nil)) (pa_cons (pe_c c21 hr (by decide) (by rfl) (pa_cons (pv 3) pa_nil)) pa_nil))) pa_nil)) (pe_callB (r := rRepZ K w) (call_reprZ hgd (hu65 hu)) (by rfl) B.repr boot_repr (pa_cons (pe_op op_rep (pe_lst (pa_cons (pe_c c47 hr (by decide) (by rfl) (pa_cons (pv 3) pa_nil)) pa_nil)) pe_int) pa_nil)) (nomark _)) (pss_one (ps_ret pe_bl)) pss_nil))) (pss_one (ps_ret pe_bl))))), ?_⟩
    obtain ⟨S, G, n, rfl, sk, nb, q⟩ := h
    have sl : sizeLine = 16777216 := sizeLine_eq
    refine cutT fun T1 eT1 => ?_
    refine ⟨⟨_, rfl⟩, _, rfl, S, G, n, 11, rfl, sk, by omega, by decide, by decide, fun m H1 m0 m1 b1 k1 => ?_⟩
    refine ⟨m, rfl, by omega, by omega, fun D hD => ?_⟩
    have pD := k1.new hD
    have go1 : ∀ H2 (x : Str), x.length ≤ 10 → ButSG S G H H2 → SkAt H2 S G (n + 20) → T1 { nx := fun x H' => Q V.non H', rt := Q } [some (.ref S), some (.str x), none, none, none] H2 := by
      intro H2 x lx b2 k2
      subst eT1
      have go2 : True := trivial
      refine cutT fun T2 eT2 => ?_
      refine ⟨_, rfl, ⟨x, rfl⟩, x, rfl, rfl, by omega, _, rfl, _, _, rfl, rfl, by rw [sl]; show x.length + 1 ≤ 16777216; omega, _, rfl, _, _, rfl, rfl, by rw [sl]; show 1 + x.length ≤ 16777216; omega, _, rfl, _, _, rfl, rfl, by rw [sl]; show x.length + 1 ≤ 16777216; omega, ?_⟩
      refine ⟨_, rfl, by rw [sl]; exact (by decide : (1 : Nat) ≤ 16777216), fun t1 n1 => ⟨_, rfl, by rw [sl]; exact (by decide : (1 : Nat) ≤ 16777216), fun l1 n2 => fun p1 n3 => ⟨_, rfl, upd_same, ?_⟩⟩⟩
      refine ⟨[(.inr x, .int 1)], rfl, (by show 1 ≤ 15; decide), by rw [sl]; exact (by decide : (13 : Nat) ≤ 16777216), fun L2 n4 => ?_⟩
      rw [upd_upd] at n4 ⊢
      have s1 := same_new (o := .tup [V.str x]) n1
      have s2 := same_new (o := .lst [V.str x]) n2
      have s3 := same_new (o := .dK (mergeK [] [(Sum.inr x, V.int 1)])) n3
      have s4 := same_new (o := .lst [V.str (Txt.upper x), V.str (x ++ Str.ofString "1"), V.str (Str.ofString " " ++ x), V.str (x ++ Str.ofString "_"), V.str (Str.ofString ""), V.str (Str.ofString "*1"), V.non, V.int 0, V.ref t1, V.ref l1, V.ref p1, V.bl true, V.str (Str.ofString "a\n")]) n4
      have c1 := mkT (K := K) (w := w) (ok := okS S G) n1 (dz_strs [x])
      have pl := (k2.same s1).new n2
      have c2 := mkL (K := K) (w := w) (ok := okS S G) n2 pl (dz_strs [x])
      have smx : smD (.tuple [.str x]) = true ∧ smD (.list [.str x]) = true := by
        have : smDs [.str x] = true := by show (decide (x.length ≤ 1000) && true) = true; rw [decide_eq_true (by omega)]; rfl
        exact ⟨this, this⟩
      have s14 := s1.trans (s2.trans (s3.trans s4))
      have k3 := k2.same s14
      have b3 := b2.trans (ButSG.same s14)
      have pL2 := (k2.same (s1.trans (s2.trans s3))).new n4
      have lu := len_upper x
      have va : ∀ v ∈ [V.str (Txt.upper x), V.str (x ++ Str.ofString "1"), V.str (Str.ofString " " ++ x), V.str (x ++ Str.ofString "_"), V.str (Str.ofString ""), V.str (Str.ofString "*1"), V.non, V.int 0, V.ref t1, V.ref l1, V.ref p1, V.bl true, V.str (Str.ofString "a\n")], ∃ b, IsY K w (okS S G) (upd (upd (upd (upd H2 t1 (.tup [V.str x])) l1 (.lst [V.str x])) p1 (.dK (mergeK [] [(Sum.inr x, V.int 1)]))) L2 (.lst [V.str (Txt.upper x), V.str (x ++ Str.ofString "1"), V.str (Str.ofString " " ++ x), V.str (x ++ Str.ofString "_"), V.str (Str.ofString ""), V.str (Str.ofString "*1"), V.non, V.int 0, V.ref t1, V.ref l1, V.ref p1, V.bl true, V.str (Str.ofString "a\n")])) v b := fun v hv => by
        simp only [List.mem_cons, List.not_mem_nil, or_false] at hv
        rcases hv with rfl | rfl | rfl | rfl | rfl | rfl | rfl | rfl | rfl | rfl | rfl | rfl | rfl
        · exact ⟨_, isY_str (by omega)⟩
        · exact ⟨_, isY_str (by rw [Str.length_append]; show x.length + 1 ≤ 1000; omega)⟩
        · exact ⟨_, isY_str (by rw [Str.length_append]; show 1 + x.length ≤ 1000; omega)⟩
        · exact ⟨_, isY_str (by rw [Str.length_append]; show x.length + 1 ≤ 1000; omega)⟩
        · exact ⟨_, isY_str (by decide)⟩
        · exact ⟨_, isY_str (by decide)⟩
        · exact ⟨_, .inl ⟨_, .non, rfl, rfl⟩⟩
        · exact ⟨_, .inl ⟨_, .int 0, rfl, rfl⟩⟩
        · exact ⟨_, .inl ⟨_, kpT n4 (kpT n3 (kpT n2 c1)), smx.1, rfl⟩⟩
        · exact ⟨_, .inl ⟨_, kpT n4 (kpT n3 c2), smx.2, rfl⟩⟩
        · exact ⟨_, .inr ⟨p1, _, rfl, s4 _ _ upd_same, rfl⟩⟩
        · exact ⟨_, .inl ⟨_, .bl true, rfl, rfl⟩⟩
        · exact ⟨_, isY_str (by decide)⟩
      have hL2 : (upd (upd (upd (upd H2 t1 (.tup [V.str x])) l1 (.lst [V.str x])) p1 (.dK (mergeK [] [(Sum.inr x, V.int 1)]))) L2 (.lst [V.str (Txt.upper x), V.str (x ++ Str.ofString "1"), V.str (Str.ofString " " ++ x), V.str (x ++ Str.ofString "_"), V.str (Str.ofString ""), V.str (Str.ofString "*1"), V.non, V.int 0, V.ref t1, V.ref l1, V.ref p1, V.bl true, V.str (Str.ofString "a\n")])) L2 = some (.lst [V.str (Txt.upper x), V.str (x ++ Str.ofString "1"), V.str (Str.ofString " " ++ x), V.str (x ++ Str.ofString "_"), V.str (Str.ofString ""), V.str (Str.ofString "*1"), V.non, V.int 0, V.ref t1, V.ref l1, V.ref p1, V.bl true, V.str (Str.ofString "a\n")]) := upd_same
      refine gn_i ?_
      generalize upd (upd (upd (upd H2 t1 (.tup [V.str x])) l1 (.lst [V.str x])) p1 (.dK (mergeK [] [(Sum.inr x, V.int 1)]))) L2 (.lst [V.str (Txt.upper x), V.str (x ++ Str.ofString "1"), V.str (Str.ofString " " ++ x), V.str (x ++ Str.ofString "_"), V.str (Str.ofString ""), V.str (Str.ofString "*1"), V.non, V.int 0, V.ref t1, V.ref l1, V.ref p1, V.bl true, V.str (Str.ofString "a\n")]) = H3 at *
      clear s14 s4 s3 s2 s1 c1 c2 n4 n3 n2 n1 pl smx lu
      dsimp only
      subst eT2
      refine cutT fun T3 eT3 => ?_
      refine ⟨_, rfl, _, rfl, 8, rfl, x, rfl, by rw [sl]; omega, _, rfl, _, rfl, S, G, n + 20, L2, _, rfl, k3, by omega, .inl (.inl hL2), pL2.1, pL2.2, by simp, by show 13 < 1000; decide, fun v6 H4 hv b4 k4 => ?_⟩
      obtain ⟨b6, y6⟩ := va v6 hv
      have y6' := y6.but b4 k3
      refine ⟨_, rfl, S, G, n + 20 + 1, 99, rfl, k4, by omega, by decide, by decide, fun m5 H5 p0 p1' b5 k5 => ⟨Str.ofString "a", m5, rfl, rfl, p0, by omega, by decide, fun z lz => ⟨by rw [sl]; exact (by decide : (7 : Nat) ≤ 16777216), fun L5 n5 => ?_⟩⟩⟩
      have y7 := y6'.but b5 k4
      have lz' : z.length ≤ 1000 := Nat.le_trans lz (by show 1 * _ ≤ 1000; omega)
      have s5 := same_new (o := .lst [V.str x, V.str (cutS x none (some 8)), V.str (Str.ofString "in"), V.str (Str.ofString "abcdefgh"), V.str (Str.ofString "abcdefghi"), v6, V.str z]) n5
      have vb : ∀ i, i < 7 → ∃ b, IsY K w (okS S G) (upd H5 L5 (.lst [V.str x, V.str (cutS x none (some 8)), V.str (Str.ofString "in"), V.str (Str.ofString "abcdefgh"), V.str (Str.ofString "abcdefghi"), v6, V.str z])) ([V.str x, V.str (cutS x none (some 8)), V.str (Str.ofString "in"), V.str (Str.ofString "abcdefgh"), V.str (Str.ofString "abcdefghi"), v6, V.str z].getD i .non) b := fun i hi => by
        match i, hi with
        | 0, _ => exact ⟨_, isY_str (by omega)⟩
        | 1, _ => exact ⟨_, isY_str (Nat.le_trans (cutS_le _ _ _) (by omega))⟩
        | 2, _ => exact ⟨_, isY_str (by decide)⟩
        | 3, _ => exact ⟨_, isY_str (by decide)⟩
        | 4, _ => exact ⟨_, isY_str (by decide)⟩
        | 5, _ => exact ⟨_, y7.same s5⟩
        | 6, _ => exact ⟨_, isY_str lz'⟩
      have sq : SqL K (upd H5 L5 (.lst [V.str x, V.str (cutS x none (some 8)), V.str (Str.ofString "in"), V.str (Str.ofString "abcdefgh"), V.str (Str.ofString "abcdefghi"), v6, V.str z])) L5 [V.str x, V.str (cutS x none (some 8)), V.str (Str.ofString "in"), V.str (Str.ofString "abcdefgh"), V.str (Str.ofString "abcdefghi"), v6, V.str z] := .inl (.inl upd_same)
      have bF := ((b3.trans b4).trans b5).trans (ButSG.same s5)
      have kF := (k5.same s5).le (n' := n + 100) (by omega)
      refine ⟨L5, rfl, ⟨_, sq⟩, ?_⟩
      generalize upd H5 L5 (.lst [V.str x, V.str (cutS x none (some 8)), V.str (Str.ofString "in"), V.str (Str.ofString "abcdefgh"), V.str (Str.ofString "abcdefghi"), v6, V.str z]) = H6 at *
      refine for_steady steady_list (fun i σ H' => Same H6 H' ∧ ∃ z3, σ = [some (.ref S), some (.str x), some (.ref L2), z3, none]) ⟨Same.refl _, none, rfl⟩ (fun i σ H' hi h => sqL_same h.1 sq) ?_ ?_
      · rintro i σ H7 hi ⟨s7, z3, rfl⟩
        obtain ⟨b, y⟩ := vb i hi
        have y7 := y.same s7
        refine gn_i ?_
        refine ⟨_, rfl, isY_name y7 ⟨_, rfl, isY_name y7 ⟨by rw [sl]; exact (by decide : (2 : Nat) ≤ 16777216), fun N1 m1 => ?_⟩⟩⟩
        have t1 := same_new (o := .lst [V.bl b, V.bl b]) m1
        have ft : Fit 2 1 (.list [.bool b, .bool b]) := fit_lst (W := 0) (D := 0) (n := 2) (fun d hd => by
          simp only [List.mem_cons, List.not_mem_nil, or_false] at hd
          rcases hd with rfl | rfl <;> exact fit_bl _) (Nat.le_refl _)
        refine ⟨fun _ => True, .ref N1, _, rfl, .lst upd_same trivial (.cons (.bl b) (.cons (.bl b) .nil)), ft.bp (by decide), Nat.le_trans ft.dp (by decide), ?_⟩
        refine ⟨_, rfl, isY_law (y7.same t1) fun H8 s8 => ⟨by rw [sl]; exact (by decide : (1 : Nat) ≤ 16777216), fun N2 m2 => ⟨N2, 2, _, rfl, rfl, upd_same, by decide, by decide, by rw [sl]; exact (by decide : 1 * 2 ≤ 16777216), fun N3 m3 => ?_⟩⟩⟩
        have t2 := same_new (o := .lst [V.bl b]) m2
        refine ⟨fun _ => True, .ref N3, _, rfl, .lst upd_same trivial (.cons (.bl b) (.cons (.bl b) .nil)), ft.bp (by decide), Nat.le_trans ft.dp (by decide), rfl, _, rfl, ?_⟩
        rw [decide_eq_true rfl]
        exact iteF ⟨s7.trans (t1.trans (s8.trans (t2.trans (same_new m3)))), _, rfl⟩
      · rintro σ H7 ⟨s7, z3, rfl⟩
        subst eT3
        exact q _ (bF.trans (ButSG.same s7)) (kF.same s7)
    refine lc_steady steady_rng (fun k H' => ButSG S G H H' ∧ SkAt H' S G (n + 1 + (k : Int)) ∧ ∃ ws : List Str, H' D = some (.lst (ws.map V.str)) ∧ ws.length = k ∧ ∀ w ∈ ws, w.length = 1)
      ⟨b1.trans (ButSG.same (same_new hD)), (by have := k1.same (same_new (o := .lst ([] : List V)) hD); simpa using this), [], upd_same, rfl, fun d h => by cases h⟩ (fun _ _ _ _ => trivial) (fun k H2 hk h => ?_) fun H2 h => ?_
    · obtain ⟨b2, k2, ws, hz, lz, vz⟩ := h
      refine ⟨rfl, yes_i (iteT ?_)⟩
      refine ⟨_, rfl, S, G, _, _, rfl, k2, by omega, by decide, by decide, fun c H3 b3 k3 => ?_⟩
      have hz3 := b3 _ _ pD.1 pD.2 hz
      refine ⟨_, hz3, by rw [sl, List.length_map]; omega, fun b o p q e => ?_, ?_, ws ++ [⟨#[c]⟩], ?_, by rw [List.length_append, lz]; rfl, fun z hz' => ?_⟩
      · by_cases hb : b = D
        · rw [hb] at e
          rw [b1.none_of hD pD.1 pD.2] at e
          cases e
        · rw [upd_ne hb]; exact b3 _ _ p q (b2 _ _ p q e)
      · have := k3.upd (o := .lst (ws.map V.str ++ [V.str ⟨#[c]⟩])) pD
        rwa [show n + 1 + (k : Int) + 1 = n + 1 + ((k + 1 : Nat) : Int) by omega] at this
      · rw [List.map_append]
        exact upd_same
      · rcases List.mem_append.mp hz' with h | h
        · exact vz z h
        · rw [List.mem_singleton.mp h]; rfl
    · obtain ⟨b2, k2, ws, hz, lz, vz⟩ := h
      have lw : ws.length ≤ 10 := by rw [lz]; omega
      have sw : (ws.map (·.length)).sum ≤ 10 := Nat.le_trans (sum_le (c := 1) fun y hy => Nat.le_of_eq (vz y hy)) (by omega)
      refine ⟨_, D, ws, rfl, rfl, .inl (.inl (.inl hz)), by show _ + _ * 0 ≤ 16777216; omega, ?_⟩
      refine gn_i ?_
      refine go1 H2 _ ?_ b2 (k2.le (by omega))
      have := StrLaws.join_length_le (Str.ofString "") ws
      have e : Txt.join (Str.ofString "") ws = Str.join (Str.ofString "") ws := by unfold Txt.join; exact StrLaws.glued_eq_join _ _
      rw [e]
      exact Nat.le_trans this (by show _ + _ * 0 ≤ 10; omega)
end
end Fc
/-! own exceptions over any built-in one -/
namespace FcX
open PySem PySem.HandSPX
open Builtin Builtin.ObjectAttr
section
variable {M : Model} {A : Around} {E : Value → Shared → Prop} {hp : Heap} {gs : Array GenState} {dr : Drawn} {tk : Nat} {os : OsState}
variable {nm qn : Str} {D N : Addr} {bs bm bmB : List Value} {hd : Bool} {sn : List Str} {sub : List Value} {ab : Bool} {col : Option Bool} {dd : Option Addr} {s0 s1 s2 s3 s5 : Option Value} {B mk ini : String}
/-- what is asked of the classes above -/
structure Over (B : String) (bm : List Value) : Prop where
  has : bm.contains (.type B) = true
  noA : bm.contains (.type "AttributeError") = false
  noN : bm.contains (.type "NameError") = false
theorem own_check (F : ExcBaseFacts B mk ini bmB) (V : Over B bm) {us : List Value} {Q : Unit → Shared → Prop}
    (hD : hp.get? D = some (excClassObj nm qn D N bs bm hd sn sub ab col dd s0 s1 s2 s3 s5 mk)) (q : Q () ⟨hp, gs, dr, tk, os⟩) : wpAny M A (checkBuiltinCall mk ⟨.ref D :: us, []⟩) Q E ⟨hp, gs, dr, tk, os⟩ := by
  have isB : (Value.ref D :: bm).contains (.type B) = true := by rw [List.contains_cons, V.has, Bool.or_true]
  have star := F.noStar
  simp only [checkBuiltinCall, F.newKind, F.newSplit, F.newRow]
  repeat
    first
      | refine wpAny_loadPart_at hD ?_
      | (refine wpAny_isSubtype_exc hD ?_; rw [isB])
      | refine wpAny_staticBase_exc hD ?_
      | refine wpAny_madeBy_exc hD ?_
      | simp only [bne_self_eq_false, Bool.false_eq_true, if_false]
      | wp_step
  exact q
end
section
variable {prog : Program} {w : World} {A : Around} {E : Value → Shared → Prop} {R : Result → Shared → Prop} {hp : Heap} {gs : Array GenState} {dr : Drawn} {tk : Nat} {os : OsState}
variable {nm qn : Str} {D N : Addr} {bs bm bmB : List Value} {hd : Bool} {sn : List Str} {sub : List Value} {ab : Bool} {col : Option Bool} {dd : Option Addr} {s0 s1 s2 s3 s5 : Option Value} {B mk ini : String}
/-- the heap with the new exception's tuple and the new exception -/
abbrev withX (hp : Heap) (D : Addr) (us : List Value) : Heap := (hp.push (W.kdv_tup us)).push (excO D hp.objs.size)
theorem own_new (F : ExcBaseFacts B mk ini bmB) (V : Over B bm) {us : List Value} (hD : hp.get? D = some (excClassObj nm qn D N bs bm hd sn sub ab col dd s0 s1 s2 s3 s5 mk)) (z : us.length ≤ sizeLine)
    (q : R (.ok (.ret (.ref (hp.objs.size + 1)))) ⟨withX hp D us, gs, dr, tk, os⟩) : codeAny (model prog w) A (.builtin mk ⟨.ref D :: us, []⟩) R ⟨hp, gs, dr, tk, os⟩ := by
  have ends := F.ends
  have isB : (Value.ref D :: bm).contains (.type B) = true := by rw [List.contains_cons, V.has, Bool.or_true]
  have isA : (Value.ref D :: bm).contains (.type "AttributeError") = false := by rw [List.contains_cons, V.noA]; rfl
  have isN : (Value.ref D :: bm).contains (.type "NameError") = false := by rw [List.contains_cons, V.noN]; rfl
  refine codeAny_builtinAt F.entry ?_
  unfold Builtin.«BaseException.__new__»
  refine wpAt_bind ?_
  show wpAt _ _ _ (stack >>= _) _ _ _
  refine wpAt_bind (wpAt_stack fun _ _ => wpAt_of_wpAny ?_)
  wp_walk
  refine wpAt_of_wpAny ?_
  rw [F.owner]
  repeat
    first
      | with_reducible refine wpAny_madeHere_exc F.canon hD ?_
      | with_reducible refine wpAny_loadPart_at hD ?_
      | (with_reducible refine wpAny_isSubtype_exc hD ?_; first | rw [isB] | rw [isA] | rw [isN])
      | wp_step
  show R _ _
  rw [Heap.size_push]
  exact q
theorem own_tcall (F : ExcBaseFacts B mk ini bmB) (V : Over B bm) {us : List Value} {fI : Addr} {Q : Fin → Shared → Prop} (hD : hp.get? D = some (excClassObj nm qn D N bs bm hd sn sub ab col dd s0 s1 s2 s3 s5 mk))
    (li : W.Looks (model prog w) hp (typeLookup (.ref D) "__init__") (some (.ref fI))) (lb : ∀ self, W.Looks (model prog w) hp (bindSpecial (.ref fI) self) (.ref fI, [self])) (z : us.length ≤ sizeLine)
    (q : codeAny (model prog w) A (.call (.ref fI) ⟨.ref (hp.objs.size + 1) :: us, []⟩) (fun r s' => match r with | .ok (.ret v) => v = .none ∧ Q (.done (.ret (.ref (hp.objs.size + 1)))) s' | .ok _ => False | .error e => E e s') ⟨withX hp D us, gs, dr, tk, os⟩) :
    wpAny (model prog w) A (Builtin.«type.__call__» ⟨.ref D :: us, []⟩) Q E ⟨hp, gs, dr, tk, os⟩ := by
  repeat
    first
      | with_reducible refine wpAny_loadPart_at hD ?_
      | with_reducible refine wpAny_madeBy_exc hD ?_
      | wp_step
  refine codeAny_call_builtin_code (Code.quiet_builtin _ F.quiet) (own_check F V hD ?_)
  refine own_new F V hD z ?_
  show wpAny _ _ _ _ _ _
  have up : ∀ b o, hp.get? b = some o → (withX hp D us).get? b = some o := fun b o e => Heap.get?_push_of_some _ (Heap.get?_push_of_some _ e)
  have hD2 := up _ _ hD
  have ge : (withX hp D us).get? (hp.objs.size + 1) = some (excO D hp.objs.size) := by heap_get
  have self : (Value.ref D :: bm).contains (.ref D) = true := by simp
  have li2 := li.keeps up
  have lb2 := (lb (.ref (hp.objs.size + 1))).keeps up
  unfold isInstance
  repeat
    first
      | with_reducible refine wpAny_loadPart_at ge ?_
      | (with_reducible refine wpAny_isSubtype_exc hD2 ?_; rw [self])
      | wp_step
  show wpAny _ _ (typeLookup (.ref D) _) _ _ _
  refine li2.at ?_
  refine wpAny_holding (wpAny_bind (lb2.at ?_))
  refine wpAny_bind (wpAny_call (codeAny_mono q fun r s' y => ?_))
  cases r with
  | error e => exact y
  | ok fl =>
    cases fl with
    | ret v =>
      obtain ⟨rfl, y⟩ := y
      first
        | exact wpAny_pure (wpAny_pure y)
        | (wp_walk; exact y)
    | next => exact y.elim
    | brk => exact y.elim
    | cont => exact y.elim
/-- D(..), D with an own __init__ at fI -/
theorem own_make (F : ExcBaseFacts B mk ini bmB) (V : Over B bm) {us : List Value} {fI : Addr} (hD : hp.get? D = some (excClassObj nm qn D N bs bm hd sn sub ab col dd s0 s1 s2 s3 s5 mk))
    (li : W.Looks (model prog w) hp (typeLookup (.ref D) "__init__") (some (.ref fI))) (lb : ∀ self, W.Looks (model prog w) hp (bindSpecial (.ref fI) self) (.ref fI, [self])) (z : us.length ≤ sizeLine)
    (q : codeAny (model prog w) (A.under (.builtin "type.__call__" ⟨.ref D :: us, []⟩)) (.call (.ref fI) ⟨.ref (hp.objs.size + 1) :: us, []⟩) (W.InitBack (hp.objs.size + 1) R) ⟨withX hp D us, gs, dr, tk, os⟩) :
    codeAny (model prog w) A (.call (.ref D) ⟨us, []⟩) R ⟨hp, gs, dr, tk, os⟩ := by
  have f1 := tc_lookup
  have f2 := tc_bind (.ref D)
  have ty : (⟨hp, gs, dr, tk, os⟩ : Shared).TypeIs (.ref D) "type" := ⟨_, hD, rfl⟩
  refine codeAny_of_tree ?_
  show wpAny _ _ (callAny (.ref D) _) _ _ _
  repeat (any_goals (first | assumption | with_reducible refine wpAny_loadPart_at hD ?_ | wp_step))
  refine ⟨rfl, ?_⟩
  refine codeAny_call_builtin_at (Code.quiet_builtin _ (by decide +kernel)) entry_typeCall (wpAny_check_type_call_sub hD (own_tcall F V hD li lb z ?_))
  refine codeAny_mono q fun r s' y => ?_
  cases r with
  | error e => exact y
  | ok fl => cases fl <;> exact y
end
end FcX
namespace PySem.F
theorem store_KeyError : StoreFacts "KeyError" [.type "KeyError", .type "LookupError", .type "Exception", .type "BaseException", .type "object"] "object.__setattr__" "object" where
  mro := by kernel_rfl
  slot := .of (owner := "object") (n := "__setattr__")
    (by rw [typeLookup_type, builtinLookup_eq_fast]; kernel_rfl)
    (by decide +kernel) (by decide +kernel)
    (by decide +kernel)
    (by first
      | exact .inl (by decide +kernel)
      | exact .inr (by decide +kernel))
    (by rw [isSubtype_type]; kernel_rfl)
  entry := entry_object_sa
  kind := by decide +kernel
  split := by decide +kernel
  hasOwner := by decide +kernel
  args := fun a b c => by
    unfold argsOk
    kernel_rfl
  passes := fun self => by kernel_rfl
end PySem.F
namespace FcX
open PySem PySem.W PySem.HandSPX PySem.Spec
open Builtin Builtin.ObjectAttr
section
variable {prog : Program} {w : World} {A : Around} {E : Value → Shared → Prop} {R : Result → Shared → Prop} {hp : Heap} {gs : Array GenState} {dr : Drawn} {tk : Nat} {os : OsState} {K : W.Frag} {B : String} {bmB : List Value}
/-- the first field of an exception -/
theorem own_store (SF : StoreFacts B bmB "object.__setattr__" "object") {name : Str} {t : Tok} {v : Value} {x D : Addr} {fv : Array Value} {cd : ClassData} (X : K.In hp) (hx : hp.get? x = some { cls := .ref D, data := .fields fv }) (ov : excOver K D bmB = true) (hcd : W.clsIn K D = some cd)
    (hh : cd.hasDict = true) (ha : takerIn K D name = some none)
    (q : ∀ h' tk' dx, (∀ b o, b ≠ x → hp.get? b = some o → h'.get? b = some o) → hp.objs.size ≤ dx → dx ≠ x → h'.get? x = some { cls := .ref D, dict := some dx, data := .fields fv } → h'.Ns1 dx (fun y => if y = name then some v else none) → R (.ok (.ret .none)) ⟨h', gs, dr, tk', os⟩) :
    codeAny (model prog w) A (.call (.builtin "object.__setattr__") ⟨[.ref x, .str name t, v], []⟩) R ⟨hp, gs, dr, tk, os⟩ := by
  have I : W.InstAt hp x { cls := .ref D, data := .fields fv } D none := ⟨hx, rfl, rfl, trivial⟩
  have nx : x ≠ hp.objs.size := Nat.ne_of_lt (Heap.lt_size hx)
  have lc : W.Looks (model prog w) hp (classData D) cd := W.looks_clsIn X hcd
  refine osa_openX SF X I ov ha fun b => ?_
  obtain ⟨nm, bs, mro, ns, qn, hd, sn, sb, ab, col, del⟩ := cd
  dsimp only at hh
  subst hh
  unfold storeInOwnDict ownDictForStores
  repeat
    first
      | with_reducible refine store_in_new ?_ ?_
      | with_reducible refine wpAny_loadPart_at hx ?_
      | with_reducible refine lc.at ?_
      | wp_step
  · exact ⟨_, #[], _, (Heap.get?_update_ne _ _ _ _ nx.symm).trans (Heap.get?_push_at rfl rfl), rfl, fun e he => absurd he (by simp), fun _ => rfl⟩
  · intro h' tk' hn' hs
    have hx1 : (hp.push { cls := .type "dict", data := .dict #[] }).get? x = some { cls := .ref D, data := .fields fv } := Heap.get?_push_of_some _ hx
    refine q h' tk' hp.objs.size (fun b o hb ho => ?_) (Nat.le_refl _) nx.symm ((hs.2 x nx).trans (Heap.get?_update_self _ hx1 rfl)) hn'
    exact (hs.2 b (Nat.ne_of_lt (Heap.lt_size ho))).trans ((Heap.get?_update_ne _ _ _ _ hb).trans (Heap.get?_push_of_some _ ho))
end
end FcX
namespace Fc
open PySem PySem.Spec L2 PyProof.Rows
/-- an own exception class: its line of classes above it -/
structure OexG (K : PySem.W.Frag) (D : Addr) (bm bmB : List Value) (mk : String) : Prop where
  cls : ∃ nm q N bs sn sub ab col dd k0 k1 k2 k3 k5, K.lookup D = some (excClassObj nm q D N bs bm true sn sub ab col dd k0 k1 k2 k3 k5 mk)
  tl : PySem.W.excTail bmB bm = true
  sa : PySem.W.findIn K (.ref D) "__setattr__" = some (some (.builtin "object.__setattr__"))
  kC : PySem.W.keepIn K (.ref D) = true
section
variable {K : PySem.W.Frag} {D : Addr} {bm bmB : List Value} {mk : String}
theorem OexG.cl (T : OexG K D bm bmB mk) : ∃ cd, PySem.W.clsIn K D = some cd ∧ cd.mro = .ref D :: bm ∧ cd.hasDict = true := by
  obtain ⟨nm, q, N, bs, sn, sub, ab, col, dd, k0, k1, k2, k3, k5, h⟩ := T.cls
  refine ⟨⟨nm, bs, .ref D :: bm, N, q, true, sn, sub, ab, col, false⟩, ?_, rfl, rfl⟩
  unfold PySem.W.clsIn
  rw [h]
theorem OexG.over (T : OexG K D bm bmB mk) : PySem.W.excOver K D bmB = true := by
  obtain ⟨cd, h, m, _⟩ := T.cl
  unfold PySem.W.excOver
  rw [h]
  show (match cd.mro with | .ref C' :: l => C' == D && PySem.W.excTail bmB l | _ => false) = true
  rw [m]
  show (D == D && PySem.W.excTail bmB bm) = true
  rw [T.tl]
  simp
theorem OexG.mro (T : OexG K D bm bmB mk) (c : Value) : PySem.W.mroIn K D c = some ((Value.ref D :: bm).contains c) := by
  obtain ⟨cd, h, m, _⟩ := T.cl
  unfold PySem.W.mroIn
  rw [h, Option.bind_some, if_neg (by rw [m]; simp), m]
theorem OexG.sub (T : OexG K D bm bmB mk) (c : Value) : PySem.W.subIn K (.ref D) c = some ((Value.ref D :: bm).contains c) := T.mro c
theorem OexG.typ (T : OexG K D bm bmB mk) : PySem.W.typeIn K (.ref D) = some (.type "type") := by
  obtain ⟨nm, q, N, bs, sn, sub, ab, col, dd, k0, k1, k2, k3, k5, h⟩ := T.cls
  unfold PySem.W.typeIn
  simp only [h]
  rfl
theorem OexG.hd (T : OexG K D bm bmB mk) : PySem.W.hasDictIn K D = true := by
  obtain ⟨cd, h, m, e⟩ := T.cl
  unfold PySem.W.hasDictIn
  rw [h]
  exact e
end
end Fc
namespace Fc
open PySem PySem.Spec L2 PyProof.Rows
section
variable {X : Cx} {pins : List (Addr × Obj)} {σ : L2.St} {H : Hp} {s : Shared} {a D : Addr} {f : Str} {y : V} {u : Value} {Q : Unit → Shared → Prop} {E : Value → Shared → Prop} {A : Around} {bm bmB : List Value} {B mk : String}
/-- self.f = y on an exception that is new -/
theorem own_field (SF : StoreFacts B bmB "object.__setattr__" "object") (T : OexG X.K D bm bmB mk) (I : Inv X pins σ H s) (e : H a = some (exo a D none)) (hno : PySem.W.findIn X.K (.ref D) f = some none) (ry : RelV y u)
    (q : ∀ dx s', H dx = none → dx ≠ a → Inv X pins σ (upd (upd H dx (exd dx [(f, y)])) a (exo a D (some dx))) s' → Q () s') : wpAny (model X.prog X.w) A (setAttr (.ref a) f u) Q E s := by
  obtain ⟨cd, hcl, hm, hd⟩ := T.cl
  obtain ⟨t1, ho⟩ := exo_at I.hok e
  obtain ⟨hp, g, d, t, os⟩ := s
  refine PySem.W.set_plain I.kIn (ox := { cls := .ref D, dict := none, data := .fields #[.ref t1, .none, .none, .none, .bool false, .none] }) (od := none) ⟨ho, rfl, rfl, trivial⟩ T.sa ?_
  refine FcX.own_store SF I.kIn ho T.over hcl hd (by unfold PySem.W.takerIn; rw [hno]; rfl) fun h' tk' dx k nd ne hx hn => ?_
  have nH : H dx = none := I.hok.fresh nd
  have old : ∀ {b : Addr} {o : Obj}, hp.get? b = some o → b ≠ dx := fun {b o} z => Nat.ne_of_lt (Nat.lt_of_lt_of_le (Heap.lt_size z) nd)
  have nota : ∀ {b : Addr}, H b = none → b ≠ a := fun {b} n z => by
    rw [z, e] at n
    cases n
  have st : ∀ {b : Addr}, b ≠ a → b ≠ dx → upd (upd H dx (exd dx [(f, y)])) a (exo a D (some dx)) b = H b := fun {b} p q => by rw [upd_ne p, upd_ne q]
  have tr : ∀ {b : Addr} {o : HO}, H b = some o → exo a D none ≠ o → b ≠ a := fun {b o} z n w => by
    rw [w, e] at z
    exact n (Option.some.inj z)
  have U : Un X.fs [] H (upd (upd H dx (exd dx [(f, y)])) a (exo a D (some dx))) hp h' := {
    keep := fun b o z n _ _ => k b o (nota n) z
    slot := fun b o z n _ _ => ⟨o.slots, k b o (nota n) z⟩
    free := fun b o z n _ => by rw [st (nota n) (old z)]; exact n
    there := fun b o z _ => by
      by_cases c : b = a
      · rw [c]; exact ⟨_, hx⟩
      · exact ⟨o, k b o c z⟩
    tups := fun b xs z => by rw [st (tr z exo_tup) (ne_of_none z nH)]; exact z
    frzs := fun b o v z => by rw [st (tr z exo_frz) (ne_of_none z nH)]; exact z
    tbls := fun b ps z => ⟨#[], by rw [st (tr z exo_tbl) (ne_of_none z nH), z]; simp⟩ }
  refine q dx _ nH ne (I.un (t' := tk') U fun b o z => ?_)
  by_cases c : b = a
  · rw [c, upd_same] at z
    cases z
    rw [c]
    exact exo_ok hx
  · rw [upd_ne c] at z
    by_cases c2 : b = dx
    · rw [c2, upd_same] at z
      cases z
      rw [c2]
      exact exd_ok hn (relO_put (fs := []) ry fun g => True.intro)
    · rw [upd_ne c2] at z
      refine (I.hok b o z).stay (fun i v hi w => k i v ?_ w) (fun i hi => ?_) (fun i xs hi => ?_)
      · rcases hi with hi | hi
        · rw [hi]; exact c
        · exact tr hi exo_own
      · rw [st (tr hi exo_own) (ne_of_none hi nH)]; exact hi
      · rw [st (tr hi exo_tup) (ne_of_none hi nH)]; exact hi
end
/-- self.f = e, self a new exception of the class at D -/
def tOwn (D : Addr) (f : Str) (to te : TE) : TS := fun En σ H => te σ H fun y H1 => to σ H1 fun x H2 => ∃ a, x = .ref a ∧ H2 a = some (exo a D none) ∧ ∀ dx, H2 dx = none → dx ≠ a → En.nx σ (upd (upd H2 dx (exd dx [(f, y)])) a (exo a D (some dx)))
theorem ps_own {X : Cx} {o e : Expr} {to te : TE} {f : Str} {p' pos : Pos} {D : Addr} {bm bmB : List Value} {B mk : String} (SF : StoreFacts B bmB "object.__setattr__" "object") (T : OexG X.K D bm bmB mk) (hno : PySem.W.findIn X.K (.ref D) f = some none) (ho : PE X o to) (he : PE X e te)
    (hs : swapsWith e (some (.Attribute o f p')) pos.line X.env = pure false := by rfl) : PS X (.Assign [.Attribute o f p'] e pos) (tOwn D f to te) := by
  refine ⟨fun pins s σ H En I h => ?_⟩
  refine plainObj_wpAny_Assign_Attribute (thn (he.run pins s σ H _ I h) fun v s1 ⟨y, H1, I1, r1, q1⟩ => thn (ho.run pins s1 σ H1 _ I1 q1) fun u s2 ⟨x, H2, I2, r2, a, ex, ea, q⟩ => ?_) hs
  subst ex
  obtain rfl : u = Value.ref a := r2
  exact own_field SF T I2 ea hno r1 fun dx s' n ne J => ⟨σ, _, J, q dx n ne⟩
/-- what its __init__ does -/
def spInitX (D : Addr) (f : Str) : Sp := fun vs H Q _ => ∃ a y, vs = [.ref a, y] ∧ H a = some (exo a D none) ∧ ∀ dx, H dx = none → dx ≠ a → Q .non (upd (upd H dx (exd dx [(f, y)])) a (exo a D (some dx)))
/-- such a class, whole -/
structure MadeX (P : Program) (w : World) (K : PySem.W.Frag) (mg : Str → Option Value) (base : Heap) (x : Str) (D : Addr) (bm bmB : List Value) (mk f : Str) (mks : String) : Prop where
  T : OexG K D bm bmB mks
  g : mg x = some (.ref D)
  V : ∃ B ini bmF, ExcBaseFacts B mks ini bmF ∧ FcX.Over B bm
  I : ∃ (fI : Addr) (fd : FuncData) (ps : List Str), PySem.W.findIn K (.ref D) "__init__" = some (some (.ref fI)) ∧ PySem.W.typeIn K (.ref fI) = some (.type "function") ∧ FnOk P w K mg base CX0 1 fI fd ps (spInitX D f) ∧ Binds K fd ps []
  b : PySem.W.subIn K (.ref D) (.type "BaseException") = some true
section
variable {X : Cx} {D : Addr} {bm bmB : List Value} {mk f x : Str} {mks : String} {e : Expr} {te : TE} {p pos : Pos} {j : Nat}
/-- the call, and what stands when __init__ is done -/
theorem own_call2 (M : MadeX X.prog X.w X.K X.mg X.base x D bm bmB mk f mks) {pins : List (Addr × Obj)} {σ : L2.St} {H1 : Hp} {s1 : Shared} {u : Value} {y : V} {R : Value → Shared → Prop} {E : Value → Shared → Prop} {A : Around} (hA : A.frames = X.A.frames) (hr : Room 2 A) (I1 : Inv X pins σ H1 s1) (ru : RelV y u)
    (q : ∀ (a d : Addr) (I2 : Heap) (s' : Shared), s1.heap.objs.size ≤ a → a = s1.heap.objs.size + 1 → H1 a = none → H1 d = none → d ≠ a → (∀ b o, s1.heap.get? b = some o → I2.get? b = some o) → s'.os = s1.os → AllBare s'.gens →
      Un (frs X.stack) [] (upd H1 a (exo a D none)) (upd (upd (upd H1 a (exo a D none)) d (exd d [(f, y)])) a (exo a D (some d))) I2 s'.heap → HOk X.prog X.w (upd (upd (upd H1 a (exo a D none)) d (exd d [(f, y)])) a (exo a D (some d))) s'.heap →
      Inv X pins σ (upd (upd (upd H1 a (exo a D none)) d (exd d [(f, y)])) a (exo a D (some d))) s' → R (.ref a) s') : wpAny (model X.prog X.w) A (call (.ref D) [u]) R E s1 := by
  obtain ⟨nm, qn, N, bs, sn, sub, ab, col, dd, k0, k1, k2, k3, k5, hC⟩ := M.T.cls
  obtain ⟨B, ini, bmF, F, Ov⟩ := M.V
  obtain ⟨fI, fd, ps, iC, tI, F1, hb⟩ := M.I
  obtain ⟨hp, g, dr, tk, os⟩ := s1
  have hsz : hp.objs.size ≤ hp.objs.size + 1 := Nat.le_succ _
  have hn : H1 (hp.objs.size + 1) = none := I1.hok.fresh hsz
  have kk : ∀ b o, hp.get? b = some o → (FcX.withX hp D [u]).get? b = some o := fun b o e => Heap.get?_push_of_some _ (Heap.get?_push_of_some _ e)
  have hget : (FcX.withX hp D [u]).get? (hp.objs.size + 1) = some (PySem.HandSPX.excO D hp.objs.size) := by heap_get
  have I2 : Inv X pins σ (upd H1 (hp.objs.size + 1) (exo (hp.objs.size + 1) D none)) ⟨FcX.withX hp D [u], g, dr, tk, os⟩ :=
    I1.laid (t' := tk) (a := hp.objs.size + 1) (o := exo (hp.objs.size + 1) D none) (h' := FcX.withX hp D [u]) kk hsz (exo_ok hget)
  have r2 : Vals [V.ref (hp.objs.size + 1), y] [Value.ref (hp.objs.size + 1), u] := .cons rfl (.cons ru .nil)
  have hq : spInitX D f [V.ref (hp.objs.size + 1), y] (upd H1 (hp.objs.size + 1) (exo (hp.objs.size + 1) D none)) (fun v H2 => v = .non ∧ ∃ d, H1 d = none ∧ d ≠ hp.objs.size + 1 ∧ H2 = upd (upd (upd H1 (hp.objs.size + 1) (exo (hp.objs.size + 1) D none)) d (exd d [(f, y)])) (hp.objs.size + 1) (exo (hp.objs.size + 1) D (some d))) E0 :=
    ⟨_, y, rfl, upd_same, fun d nd ne => ⟨rfl, d, by rw [upd_ne ne] at nd; exact nd, ne, rfl⟩⟩
  have hl : [Value.ref (hp.objs.size + 1), u].length = ps.length := F1.len _ _ _ _ hq
  have hbind := hb _ [Value.ref (hp.objs.size + 1), u] I2.kIn (by rw [List.append_nil]; exact hl)
  rw [List.append_nil] at hbind
  have e0 : Env0 X.prog X.w X.K X.mg X.base A X.stack ⟨FcX.withX hp D [u], g, dr, tk, os⟩ (upd H1 (hp.objs.size + 1) (exo (hp.objs.size + 1) D none)) := by
    have e := I2.env0
    exact ⟨by rw [hA]; exact e.frames, e.mod, e.bs, e.bsz, e.funs, e.frf, e.hok, e.bare⟩
  refine wpAny_call (FcX.own_make F Ov (I1.kIn _ _ hC) (PySem.W.looks_findIn I1.kIn iC) (fun self => PySem.W.bind_fn I1.kIn self tI) (by show 1 ≤ sizeLine; rw [sizeLine_eq]; omega)
    (codeAny_mono (F1.run _ X.stack _ _ ⟨[Value.ref (hp.objs.size + 1), u], []⟩ [.ref (hp.objs.size + 1), u] [V.ref (hp.objs.size + 1), y] _ E0 (hr.make D [u] []) (e0.make D [u] []) hbind r2 hq) fun r s' hq' => ?_))
  cases r with
  | error er => exact hq'.elim
  | ok fl =>
    cases fl with
    | ret v =>
      obtain ⟨v1, H2, os2, bare2, un2, hok2, rv, e1, d, nd, ne, e2⟩ := id hq'
      subst e1 e2
      refine ⟨rv, ?_⟩
      have I4 := (I2.after (Q := fun v H4 => H4 = _) (⟨_, _, os2, bare2, un2, hok2, rv, rfl⟩ : CE X.stack X.prog X.w _ _ _ v s'))
      obtain ⟨_, H5, I5, _, e5⟩ := I4
      subst e5
      exact q _ d _ s' hsz rfl hn nd ne kk os2 bare2 un2 hok2 I5
    | next => exact hq'.elim
    | brk => exact hq'.elim
    | cont => exact hq'.elim
end
end Fc
namespace Fc
open PySem PySem.Spec L2 PyProof.Rows
theorem upd3 {H : Hp} {a d : Addr} {o1 o2 o3 : HO} (ne : d ≠ a) : upd (upd (upd H a o1) d o2) a o3 = upd (upd H d o2) a o3 := by
  funext b
  by_cases c : b = a
  · rw [c, upd_same, upd_same]
  · rw [upd_ne c, upd_ne c]
    by_cases c2 : b = d
    · rw [c2, upd_same, upd_same]
    · rw [upd_ne c2, upd_ne c2, upd_ne c]
theorem del3 {H : Hp} {a d : Addr} {o1 o2 o3 o4 : HO} (ne : d ≠ a) (ha : H a = none) : upd (del (upd (upd (upd H a o1) d o2) a o3) a) d o4 = upd H d o4 := by
  funext b
  by_cases c : b = d
  · rw [c, upd_same, upd_same]
  · rw [upd_ne c, upd_ne c]
    by_cases c2 : b = a
    · rw [c2, del_same, ha]
    · rw [del_ne c2, upd_ne c2, upd_ne c, upd_ne c2]
section
variable {X : Cx} {D : Addr} {bm bmB : List Value} {mk f x : Str} {mks : String} {e : Expr} {te : TE} {p pos : Pos} {j : Nat}
/-- x(e), its own __init__ keeping e: a new exception object -/
theorem pe_ownX (M : MadeX X.prog X.w X.K X.mg X.base x D bm bmB mk f mks) (hr : Room j X.A) (hj : 2 ≤ j) (hg : Gl X x) (he : PE X e te) (hs : starEach [e] X.env = (false, eval e X.env) :: starEach [] X.env := by rfl) (hdb : (x == ("__debug__" : Str)) = false := by decide) :
    PE X (.Call (.Name x p) [e] [] pos) (fun σ H Q => te σ H fun y H1 => ∀ a d, H1 a = none → H1 d = none → d ≠ a → Q (.ref a) (upd (upd H1 d (exd d [(f, y)])) a (exo a D (some d)))) := by
  refine ⟨fun pins s σ H Q I h => ?_⟩
  refine wpAny_Call_Name_kw (ld_glob I hg M.g ?_ hdb)
  refine PySem.W.callWith_K (h₀ := X.base) I.ok.mod.kin M.T.kC ?_ hs (by rfl)
  rw [hs]
  show wpAny _ _ (spliced ((false, eval e X.env) :: backTo pos (starEach [] X.env))) _ _ s
  refine Calls.spliced_cons (thn (he.run pins s σ H _ I h) fun u s1 ⟨y, H1, I1, r1, q1⟩ => ?_)
  refine Calls.spliced_nil ⟨I1.kIn, ?_⟩
  exact own_call2 M rfl (hr.mono hj) I1 r1 fun a d _ s' _ _ na nd ne _ _ _ _ _ I3 => ⟨.ref a, _, by rw [upd3 ne] at I3; exact I3, rfl, q1 a d na nd ne⟩
/-- the same, to be raised -/
theorem pmk_ownX (M : MadeX X.prog X.w X.K X.mg X.base x D bm bmB mk f mks) (hr : Room j X.A) (hj : 2 ≤ j) (hg : Gl X x) (he : PE X e te) (hs : starEach [e] X.env = (false, eval e X.env) :: starEach [] X.env := by rfl) (hdb : (x == ("__debug__" : Str)) = false := by decide) :
    PMk X (.Call (.Name x p) [e] [] pos) (fun σ H Q => te σ H fun y H1 => ∀ d, H1 d = none → Q (.ref D) (some d) (upd H1 d (.xd [(f, y)]))) := by
  intro pins s σ H Q I h
  refine wpAny_Call_Name_kw (ld_glob I hg M.g ?_ hdb)
  refine PySem.W.callWith_K (h₀ := X.base) I.ok.mod.kin M.T.kC ?_ hs (by rfl)
  rw [hs]
  show wpAny _ _ (spliced ((false, eval e X.env) :: backTo pos (starEach [] X.env))) _ _ s
  refine Calls.spliced_cons (thn (he.run pins s σ H _ I h) fun u s1 ⟨y, H1, I1, r1, q1⟩ => ?_)
  refine Calls.spliced_nil ⟨I1.kIn, ?_⟩
  refine own_call2 M rfl (hr.mono hj) I1 r1 fun a d I2 s' ha _ na nd ne kk os bare un hok I3 => ?_
  obtain ⟨hp, g1, d1, t1, os1⟩ := s1
  obtain ⟨h2, g2, d2, t2, os2⟩ := s'
  refine mk_end (raises_own M.b M.T.typ) I1 ha kk un hok os bare upd_same (by rw [upd_ne ne, upd_same]) nd ?_
  rw [del3 ne na]
  exact q1 d nd
end
end Fc
namespace Fc
open PySem PySem.Spec L2 PyProof.Rows
/-- at a an exception of the class at D: a plain one, or one with its own dict -/
def IsX (H : Hp) (a D : Addr) : Prop := H a = some (ExO (.ref D) a) ∨ ∃ d fs, H a = some (exo a D (some d)) ∧ H d = some (exd d fs)
theorem IsX.same {H H' : Hp} {a D : Addr} (h : IsX H a D) (s : Same H H') : IsX H' a D := h.elim (fun e => .inl (s _ _ e)) fun ⟨d, fs, e, f⟩ => .inr ⟨d, fs, s _ _ e, s _ _ f⟩
theorem IsX.inst {X : Cx} {pins : List (Addr × Obj)} {σ : L2.St} {H : Hp} {s : Shared} {a D : Addr} (I : Inv X pins σ H s) (h : IsX H a D) : ∃ ox od, PySem.W.InstAt s.heap a ox D od := by
  rcases h with e | ⟨d, fs, e, f⟩
  · obtain ⟨⟨oe, vs, ho, hz, hd, _⟩, _, _⟩ := I.hok a _ e
    obtain ⟨oc, od, oda, osl⟩ := oe
    obtain ⟨h1, h2⟩ := hz
    dsimp only at h1 h2 hd
    subst h1 h2 hd
    exact ⟨_, none, ho, rfl, rfl, trivial⟩
  · obtain ⟨t1, ho⟩ := exo_at I.hok e
    obtain ⟨mA, ⟨o, es, ep, e1, e2⟩, _⟩ := exd_at I.hok f
    exact ⟨_, some o, ho, rfl, rfl, e1⟩
/-- isinstance(e, c), e an exception made before -/
def rIsX (K : PySem.W.Frag) : List V → Hp → VK → Prop := fun xs H Q => ∃ (a D : Addr) (c : V) (cv : Value) (b : Bool), xs = [.ref a, c] ∧ IsX H a D ∧ ExcC K D ∧ (∀ u, RelV c u → u = cv) ∧ PySem.W.kitOne K (.ref D) cv = some b ∧ Q (.bl b) H
theorem call_isX {X : Cx} : CallR X (.builtin "isinstance") (rIsX X.K) := by
  intro pins s σ H xs us Q I r h
  obtain ⟨a, D, c, cv, b, rfl, hx, C, hcv, e, q⟩ := h
  cases r with
  | cons rx rr =>
    cases rr with
    | cons rt rr =>
      cases rr
      cases rx
      have ec := hcv _ rt
      subst ec
      obtain ⟨ox, od, J⟩ := hx.inst I
      obtain ⟨cd, hcd, _⟩ := PySem.W.any_some C.hd
      exact PySem.W.kia_one (PySem.W.kitx_exc (od := od) (by rw [hcd]; rfl) C.hg C.hk C.hs C.ha C.hn C.ht C.hm) I.kIn J e (fun z => nomatch z) fun tk => ⟨.bl b, H, I.kept (t' := tk) fun _ _ z => z, rfl, q⟩
end Fc
namespace Fc
open PySem PySem.Spec L2 PyProof.Rows
/-! the sixteen errors, by the order of the law -/
def nmE : Nat → Str
  | 0 => "ParseError"
  | 1 => "InvalidNumber"
  | 2 => "UnknownName"
  | 3 => "NothingToUndo"
  | 4 => "TooMany"
  | 5 => "Refused"
  | 6 => "InvalidFrame"
  | 7 => "InvalidTerm"
  | 8 => "InvalidClaim"
  | 9 => "InvalidSituation"
  | 10 => "InvalidQuestion"
  | 11 => "InvalidFunction"
  | 12 => "InvalidProgram"
  | 13 => "InvalidOperation"
  | 14 => "InvalidName"
  | 15 => "ClaimError"
  | _ => ""
def fldE : Nat → Str
  | 0 => "index" | 1 => "number" | 2 => "name" | 3 => "asked" | 4 => "bound" | 5 => "reason" | _ => ""
abbrev VE : List Value := [.type "ValueError", .type "Exception", .type "BaseException", .type "object"]
/-- the built-in classes above each -/
def tlE : Nat → List Value
  | 1 => [.type "IndexError", .type "LookupError", .type "Exception", .type "BaseException", .type "object"]
  | 2 => [.type "KeyError", .type "LookupError", .type "Exception", .type "BaseException", .type "object"]
  | 3 => [.type "LookupError", .type "Exception", .type "BaseException", .type "object"]
  | 4 => [.type "OverflowError", .type "ArithmeticError", .type "Exception", .type "BaseException", .type "object"]
  | 5 => [.type "ArithmeticError", .type "Exception", .type "BaseException", .type "object"]
  | _ => VE
def mkE : Nat → String
  | 1 => "IndexError.__new__" | 2 => "LookupError.__new__" | 3 => "LookupError.__new__" | 4 => "OverflowError.__new__" | 5 => "ArithmeticError.__new__" | _ => "ValueError.__new__"
/-- whether it derives from the common base, without being it -/
def frE (i : Nat) : Bool := decide (i = 0) || (decide (5 < i) && decide (i < 15))
def bmE (e : Nat → Addr) (i : Nat) : List Value := if frE i then .ref (e 15) :: tlE i else tlE i
/-- the built-in classes that are asked for -/
def tyE : Nat → String
  | 16 => "ValueError"
  | 17 => "IndexError"
  | 18 => "KeyError"
  | 19 => "LookupError"
  | 20 => "OverflowError"
  | 21 => "ArithmeticError"
  | _ => ""
/-- what the text says of the errors -/
structure ErrTxt (K : PySem.W.Frag) (mg : Str → Option Value) (e : Nat → Addr) : Prop where
  nd : ∀ i j, i < 16 → j < 16 → e i = e j → i = j
  T : ∀ i, i < 16 → OexG K (e i) (bmE e i) (tlE i) (mkE i)
  C : ∀ i, i < 16 → ExcC K (e i)
  g : ∀ i, i < 16 → mg (nmE i) = some (.ref (e i))
structure BltE (mg : Str → Option Value) : Prop where
  ValueError : mg "ValueError" = none
  IndexError : mg "IndexError" = none
  KeyError : mg "KeyError" = none
  LookupError : mg "LookupError" = none
  OverflowError : mg "OverflowError" = none
  ArithmeticError : mg "ArithmeticError" = none
/-- to which classes the i-th belongs -/
def tab (i j : Nat) : Bool := if j < 16 then decide (i = j) || (frE i && decide (j = 15)) else (tlE i).contains (.type (tyE j))
theorem tl_refs (i : Nat) (c : Addr) : (tlE i).contains (.ref c) = false := by
  unfold tlE
  split <;> rfl
theorem mro_ref {K : PySem.W.Frag} {mg : Str → Option Value} {e : Nat → Addr} (E : ErrTxt K mg e) {i j : Nat} (hi : i < 16) (hj : j < 16) : (Value.ref (e i) :: bmE e i).contains (.ref (e j)) = tab i j := by
  have eq : ∀ a b, a < 16 → b < 16 → (Value.ref (e a) == Value.ref (e b)) = decide (a = b) := fun a b ha hb => by
    by_cases c : a = b
    · subst c; rw [decide_eq_true rfl]; exact beq_self_eq_true _
    · rw [decide_eq_false c]
      exact beq_eq_false_iff_ne.mpr fun z => c (E.nd a b ha hb (Value.ref.inj z))
  unfold tab bmE
  rw [if_pos hj, List.contains_cons, eq j i hj hi]
  have sy : decide (j = i) = decide (i = j) := decide_eq_decide.mpr ⟨Eq.symm, Eq.symm⟩
  rw [sy]
  cases frE i with
  | false => rw [if_neg (by simp), tl_refs]; rfl
  | true => rw [if_pos rfl, List.contains_cons, tl_refs, eq j 15 hj (by decide)]; simp
theorem mro_ty (e : Nat → Addr) (i : Nat) (S : String) : (Value.ref (e i) :: bmE e i).contains (.type S) = (tlE i).contains (.type S) := by
  unfold bmE
  rw [List.contains_cons]
  cases frE i with
  | false => rfl
  | true => rw [if_pos rfl, List.contains_cons]; rfl
theorem kit_ref {K : PySem.W.Frag} {mg : Str → Option Value} {e : Nat → Addr} (E : ErrTxt K mg e) {i j : Nat} (hi : i < 16) (hj : j < 16) : PySem.W.kitOne K (.ref (e i)) (.ref (e j)) = some (tab i j) := by
  unfold PySem.W.kitOne
  by_cases c : (Value.ref (e i) == Value.ref (e j)) = true
  · rw [if_pos c]
    have : i = j := E.nd i j hi hj (Value.ref.inj (eq_of_beq c))
    unfold tab
    rw [if_pos hj, decide_eq_true this]; rfl
  · rw [if_neg c]
    unfold PySem.W.kitCls
    obtain ⟨cd, hc, _⟩ := (E.T j hj).cl
    have one : ((PySem.W.clsIn K (e j)).isSome && PySem.W.typeIn K (.ref (e j)) == some (.type "type")) = true := by rw [hc, (E.T j hj).typ]; rfl
    show (if ((PySem.W.clsIn K (e j)).isSome && PySem.W.typeIn K (.ref (e j)) == some (.type "type")) = true then PySem.W.subIn K (.ref (e i)) (.ref (e j)) else none) = _
    rw [if_pos one, (E.T i hi).sub, mro_ref E hi hj]
theorem kit_ty2 {K : PySem.W.Frag} {mg : Str → Option Value} {e : Nat → Addr} (E : ErrTxt K mg e) {i : Nat} (hi : i < 16) (S : String) (hS : PySem.W.kitMeta S = true) : PySem.W.kitOne K (.ref (e i)) (.type S) = some ((tlE i).contains (.type S)) := by
  unfold PySem.W.kitOne
  rw [if_neg (show ¬ (Value.ref (e i) == Value.type S) = true from fun z => by cases eq_of_beq z)]
  unfold PySem.W.kitCls
  show (if PySem.W.kitMeta S = true then PySem.W.subIn K (.ref (e i)) (.type S) else none) = _
  rw [if_pos hS, (E.T i hi).sub, mro_ty]
theorem exm_ref2 {K : PySem.W.Frag} {mg : Str → Option Value} {e : Nat → Addr} (E : ErrTxt K mg e) {i j : Nat} (hi : i < 16) (hj : j < 16) : PySem.W.exmOne K (.ref (e i)) (.ref (e j)) = some (tab i j) :=
  PySem.W.exm_ref (E.C j hj).hs (E.T j hj).hd (E.T j hj).typ (by rw [(E.T i hi).sub, mro_ref E hi hj])
def dg (b : Bool) : Str := if b then "1" else "0"
def kindL (i : Nat) : List Str := (List.range 22).map fun j => dg (tab i j)
def kindT (i : Nat) : Str := Txt.join (Str.ofString "") (kindL i)
theorem dg_str (b : Bool) : Str.ofString (toString (if b then (1 : Int) else 0)) = dg b := by cases b <;> rfl
theorem dg_len (b : Bool) : (dg b).length = 1 := by cases b <;> rfl
def spKindsX (e : Nat → Addr) : Sp := fun vs H Q _ => ∃ a i, vs = [.ref a] ∧ i < 16 ∧ IsX H a (e i) ∧ ∀ H', Same H H' → Q (.str (kindT i)) H'
section
variable {K : PySem.W.Frag} {mg : Str → Option Value} {base : Heap} {P : Program} {w : World}
abbrev nj49 : List Str := ["_law_error", "_law_row", "_law_one"]
theorem sp49 : FnScope nj49 ["_law_error"] (defScope (topK 49)) := ⟨rfl, rfl, rfl, by decide +kernel, rfl, by decide +kernel, by decide +kernel⟩
theorem op49 {f : Addr} {fd : FuncData} {e : Nat → Addr} (F : Fun K "_law_kinds" "_law_kinds" (topK 49) f fd) (B : Blt mg) (BE : BltE mg) (E : ErrTxt K mg e) : FnOk P w K mg base CX0 1 f fd ["_law_error"] (spKindsX e) := by
  refine F.ok sp49 (fun vs H Q X h => ?_) (fun cdv A outer s H vs Q X hr h => ?_)
  · obtain ⟨a, i, rfl, _⟩ := h
    rfl
  · refine ⟨_, (pss_cons (ps_set (i := 1) sp49.nd rfl (Or.inl rfl) (pe_lst (pa_cons (pe_callB (r := rIsX K) call_isX (by rfl) B.isinstance boot_isinstance (pa_cons (pv 0) (pa_cons (pe_glob (v := .ref (e 0)) (by rfl) (E.g 0 (by decide)) rfl) pa_nil))) (pa_cons (pe_callB (r := rIsX K) call_isX (by rfl) B.isinstance boot_isinstance (pa_cons (pv 0) (pa_cons (pe_glob (v := .ref (e 1)) (by rfl) (E.g 1 (by decide)) rfl) pa_nil))) (pa_cons (pe_callB (r := rIsX K) call_isX (by rfl) B.isinstance boot_isinstance (pa_cons (pv 0) (pa_cons (pe_glob (v := .ref (e 2)) (by rfl) (E.g 2 (by decide)) rfl) pa_nil))) pa_nil))))) (pss_cons (ps_set (i := 1) sp49.nd rfl (Or.inl rfl) (pe_op op_cat (pv 1) (pe_lst (pa_cons (pe_callB (r := rIsX K) call_isX (by rfl) B.isinstance boot_isinstance (pa_cons (pv 0) (pa_cons (pe_glob (v := .ref (e 3)) (by rfl) (E.g 3 (by decide)) rfl) pa_nil))) (pa_cons (pe_callB (r := rIsX K) call_isX (by rfl) B.isinstance boot_isinstance (pa_cons (pv 0) (pa_cons (pe_glob (v := .ref (e 4)) (by rfl) (E.g 4 (by decide)) rfl) pa_nil))) (pa_cons (pe_callB (r := rIsX K) call_isX (by rfl) B.isinstance boot_isinstance (pa_cons (pv 0) (pa_cons (pe_glob (v := .ref (e 5)) (by rfl) (E.g 5 (by decide)) rfl) pa_nil))) pa_nil)))))) (pss_cons (ps_set (i := 1) sp49.nd rfl (Or.inl rfl) (pe_op op_cat (pv 1) (pe_lst (pa_cons (pe_callB (r := rIsX K) call_isX (by rfl) B.isinstance boot_isinstance (pa_cons (pv 0) (pa_cons (pe_glob (v := .ref (e 6)) (by rfl) (E.g 6 (by decide)) rfl) pa_nil))) (pa_cons (pe_callB (r := rIsX K) call_isX (by rfl) B.isinstance boot_isinstance (pa_cons (pv 0) (pa_cons (pe_glob (v := .ref (e 7)) (by rfl) (E.g 7 (by decide)) rfl) pa_nil))) (pa_cons (pe_callB (r := rIsX K) call_isX (by rfl) B.isinstance boot_isinstance (pa_cons (pv 0) (pa_cons (pe_glob (v := .ref (e 8)) (by rfl) (E.g 8 (by decide)) rfl) pa_nil))) pa_nil)))))) (pss_cons (ps_set (i := 1) sp49.nd rfl (Or.inl rfl) (pe_op op_cat (pv 1) (pe_lst (pa_cons (pe_callB (r := rIsX K) call_isX (by rfl) B.isinstance boot_isinstance (pa_cons (pv 0) (pa_cons (pe_glob (v := .ref (e 9)) (by rfl) (E.g 9 (by decide)) rfl) pa_nil))) (pa_cons (pe_callB (r := rIsX K) call_isX (by rfl) B.isinstance boot_isinstance (pa_cons (pv 0) (pa_cons (pe_glob (v := .ref (e 10)) (by rfl) (E.g 10 (by decide)) rfl) pa_nil))) pa_nil))))) (pss_cons (ps_set (i := 1) sp49.nd rfl (Or.inl rfl) (pe_op op_cat (pv 1) (pe_lst (pa_cons (pe_callB (r := rIsX K) call_isX (by rfl) B.isinstance boot_isinstance (pa_cons (pv 0) (pa_cons (pe_glob (v := .ref (e 11)) (by rfl) (E.g 11 (by decide)) rfl) pa_nil))) (pa_cons (pe_callB (r := rIsX K) call_isX (by rfl) B.isinstance boot_isinstance (pa_cons (pv 0) (pa_cons (pe_glob (v := .ref (e 12)) (by rfl) (E.g 12 (by decide)) rfl) pa_nil))) pa_nil))))) (pss_cons (ps_set (i := 1) sp49.nd rfl (Or.inl rfl) (pe_op op_cat (pv 1) (pe_lst (pa_cons (pe_callB (r := rIsX K) call_isX (by rfl) B.isinstance boot_isinstance (pa_cons (pv 0) (pa_cons (pe_glob (v := .ref (e 13)) (by rfl) (E.g 13 (by decide)) rfl) pa_nil))) (pa_cons (pe_callB (r := rIsX K) call_isX (by rfl) B.isinstance boot_isinstance (pa_cons (pv 0) (pa_cons (pe_glob (v := .ref (e 14)) (by rfl) (E.g 14 (by decide)) rfl) pa_nil))) (pa_cons (pe_callB (r := rIsX K) call_isX (by rfl) B.isinstance boot_isinstance (pa_cons (pv 0) (pa_cons (pe_glob (v := .ref (e 15)) (by rfl) (E.g 15 (by decide)) rfl) pa_nil))) pa_nil)))))) (pss_cons (ps_set (i := 1) sp49.nd rfl (Or.inl rfl) (pe_op op_cat (pv 1) (pe_lst (pa_cons (pe_callB (r := rIsX K) call_isX (by rfl) B.isinstance boot_isinstance (pa_cons (pv 0) (pa_cons (pe_bltn (v := .ty "ValueError") (by rfl) BE.ValueError PyProof.Rows.Boot.«ValueError» rfl) pa_nil))) (pa_cons (pe_callB (r := rIsX K) call_isX (by rfl) B.isinstance boot_isinstance (pa_cons (pv 0) (pa_cons (pe_bltn (v := .ty "IndexError") (by rfl) BE.IndexError PyProof.Rows.Boot.«IndexError» rfl) pa_nil))) (pa_cons (pe_callB (r := rIsX K) call_isX (by rfl) B.isinstance boot_isinstance (pa_cons (pv 0) (pa_cons (pe_bltn (v := .ty "KeyError") (by rfl) BE.KeyError PyProof.Rows.Boot.«KeyError» rfl) pa_nil))) pa_nil)))))) (pss_cons (ps_set (i := 1) sp49.nd rfl (Or.inl rfl) (pe_op op_cat (pv 1) (pe_lst (pa_cons (pe_callB (r := rIsX K) call_isX (by rfl) B.isinstance boot_isinstance (pa_cons (pv 0) (pa_cons (pe_bltn (v := .ty "LookupError") (by rfl) BE.LookupError PyProof.Rows.Boot.«LookupError» rfl) pa_nil))) (pa_cons (pe_callB (r := rIsX K) call_isX (by rfl) B.isinstance boot_isinstance (pa_cons (pv 0) (pa_cons (pe_bltn (v := .ty "OverflowError") (by rfl) BE.OverflowError PyProof.Rows.Boot.«OverflowError» rfl) pa_nil))) (pa_cons (pe_callB (r := rIsX K) call_isX (by rfl) B.isinstance boot_isinstance (pa_cons (pv 0) (pa_cons (pe_bltn (v := .ty "ArithmeticError") (by rfl) BE.ArithmeticError PyProof.Rows.Boot.«ArithmeticError» rfl) pa_nil))) pa_nil)))))) (pss_one (ps_ret (pe_join pe_str (pe_lc (own := [("_law_one", 2)]) (g := gName 2) (by rfl) sp49.nd (pi_list (pv 1)) (blkOk_by (N := nj49) (sc := defScope (topK 49)) (by decide +kernel)) (fun _ _ _ _ _ => (pg_name (i := 2) sp49.nd rfl (Or.inl rfl))) (fun _ _ _ _ _ => pts_nil) (fun _ _ _ _ _ => (pe_callTy call_str_int (by rfl) B.str boot_str (pa_cons (pe_callTy call_int1 (by rfl) B.int boot_int (pa_cons (pv 2) pa_nil)) pa_nil))))))))))))))), ?_⟩
    obtain ⟨a, i, rfl, hi, hx, q⟩ := h
    have sl : sizeLine = 16777216 := sizeLine_eq
    have kt : ∀ j, j < 16 → PySem.W.kitOne K (.ref (e i)) (.ref (e j)) = some (tab i j) := fun j hj => kit_ref E hi hj
    have ty16 : PySem.W.kitOne K (.ref (e i)) (.type "ValueError") = some (tab i 16) := kit_ty2 E hi _ (by decide +kernel)
    have ty17 : PySem.W.kitOne K (.ref (e i)) (.type "IndexError") = some (tab i 17) := kit_ty2 E hi _ (by decide +kernel)
    have ty18 : PySem.W.kitOne K (.ref (e i)) (.type "KeyError") = some (tab i 18) := kit_ty2 E hi _ (by decide +kernel)
    have ty19 : PySem.W.kitOne K (.ref (e i)) (.type "LookupError") = some (tab i 19) := kit_ty2 E hi _ (by decide +kernel)
    have ty20 : PySem.W.kitOne K (.ref (e i)) (.type "OverflowError") = some (tab i 20) := kit_ty2 E hi _ (by decide +kernel)
    have ty21 : PySem.W.kitOne K (.ref (e i)) (.type "ArithmeticError") = some (tab i 21) := kit_ty2 E hi _ (by decide +kernel)
    refine ⟨_, rfl, a, e i, .ref (e 0), .ref (e 0), tab i 0, rfl, hx, (E.C i hi), (fun _ r => r), kt 0 (by decide), _, rfl, a, e i, .ref (e 1), .ref (e 1), tab i 1, rfl, hx, (E.C i hi), (fun _ r => r), kt 1 (by decide), _, rfl, a, e i, .ref (e 2), .ref (e 2), tab i 2, rfl, hx, (E.C i hi), (fun _ r => r), kt 2 (by decide), by rw [sl]; exact (by decide : (3 : Nat) ≤ 16777216), fun L0 n0 => ?_⟩
    have s0 := same_new (o := .lst [V.bl (tab i 0), V.bl (tab i 1), V.bl (tab i 2)]) n0
    have g0 := s0
    have h0 : (upd H L0 (.lst [V.bl (tab i 0), V.bl (tab i 1), V.bl (tab i 2)])) L0 = some (.lst [V.bl (tab i 0), V.bl (tab i 1), V.bl (tab i 2)]) := upd_same
    replace hx := hx.same s0
    refine gn_i ?_
    generalize upd H L0 (.lst [V.bl (tab i 0), V.bl (tab i 1), V.bl (tab i 2)]) = H0 at *
    dsimp only
    refine ⟨_, rfl, _, rfl, a, e i, .ref (e 3), .ref (e 3), tab i 3, rfl, hx, (E.C i hi), (fun _ r => r), kt 3 (by decide), _, rfl, a, e i, .ref (e 4), .ref (e 4), tab i 4, rfl, hx, (E.C i hi), (fun _ r => r), kt 4 (by decide), _, rfl, a, e i, .ref (e 5), .ref (e 5), tab i 5, rfl, hx, (E.C i hi), (fun _ r => r), kt 5 (by decide), by rw [sl]; exact (by decide : (3 : Nat) ≤ 16777216), fun M1 m1 => ?_⟩
    have t1 := same_new (o := .lst [V.bl (tab i 3), V.bl (tab i 4), V.bl (tab i 5)]) m1
    refine ⟨L0, M1, _, _, rfl, rfl, t1 _ _ h0, upd_same, by rw [sl]; exact (by decide : (3 + 3 : Nat) ≤ 16777216), fun L1 n1 => ?_⟩
    have s1 := same_new (o := .lst ([V.bl (tab i 0), V.bl (tab i 1), V.bl (tab i 2)] ++ [V.bl (tab i 3), V.bl (tab i 4), V.bl (tab i 5)])) n1
    have g1 := g0.trans (t1.trans s1)
    have h1 : (upd (upd H0 M1 (.lst [V.bl (tab i 3), V.bl (tab i 4), V.bl (tab i 5)])) L1 (.lst ([V.bl (tab i 0), V.bl (tab i 1), V.bl (tab i 2)] ++ [V.bl (tab i 3), V.bl (tab i 4), V.bl (tab i 5)]))) L1 = some (.lst [V.bl (tab i 0), V.bl (tab i 1), V.bl (tab i 2), V.bl (tab i 3), V.bl (tab i 4), V.bl (tab i 5)]) := upd_same
    replace hx := hx.same (t1.trans s1)
    refine gn_i ?_
    generalize upd (upd H0 M1 (.lst [V.bl (tab i 3), V.bl (tab i 4), V.bl (tab i 5)])) L1 (.lst ([V.bl (tab i 0), V.bl (tab i 1), V.bl (tab i 2)] ++ [V.bl (tab i 3), V.bl (tab i 4), V.bl (tab i 5)])) = H1 at *
    clear s1 t1 g0 h0 n1 m1
    dsimp only
    refine ⟨_, rfl, _, rfl, a, e i, .ref (e 6), .ref (e 6), tab i 6, rfl, hx, (E.C i hi), (fun _ r => r), kt 6 (by decide), _, rfl, a, e i, .ref (e 7), .ref (e 7), tab i 7, rfl, hx, (E.C i hi), (fun _ r => r), kt 7 (by decide), _, rfl, a, e i, .ref (e 8), .ref (e 8), tab i 8, rfl, hx, (E.C i hi), (fun _ r => r), kt 8 (by decide), by rw [sl]; exact (by decide : (3 : Nat) ≤ 16777216), fun M2 m2 => ?_⟩
    have t2 := same_new (o := .lst [V.bl (tab i 6), V.bl (tab i 7), V.bl (tab i 8)]) m2
    refine ⟨L1, M2, _, _, rfl, rfl, t2 _ _ h1, upd_same, by rw [sl]; exact (by decide : (6 + 3 : Nat) ≤ 16777216), fun L2 n2 => ?_⟩
    have s2 := same_new (o := .lst ([V.bl (tab i 0), V.bl (tab i 1), V.bl (tab i 2), V.bl (tab i 3), V.bl (tab i 4), V.bl (tab i 5)] ++ [V.bl (tab i 6), V.bl (tab i 7), V.bl (tab i 8)])) n2
    have g2 := g1.trans (t2.trans s2)
    have h2 : (upd (upd H1 M2 (.lst [V.bl (tab i 6), V.bl (tab i 7), V.bl (tab i 8)])) L2 (.lst ([V.bl (tab i 0), V.bl (tab i 1), V.bl (tab i 2), V.bl (tab i 3), V.bl (tab i 4), V.bl (tab i 5)] ++ [V.bl (tab i 6), V.bl (tab i 7), V.bl (tab i 8)]))) L2 = some (.lst [V.bl (tab i 0), V.bl (tab i 1), V.bl (tab i 2), V.bl (tab i 3), V.bl (tab i 4), V.bl (tab i 5), V.bl (tab i 6), V.bl (tab i 7), V.bl (tab i 8)]) := upd_same
    replace hx := hx.same (t2.trans s2)
    refine gn_i ?_
    generalize upd (upd H1 M2 (.lst [V.bl (tab i 6), V.bl (tab i 7), V.bl (tab i 8)])) L2 (.lst ([V.bl (tab i 0), V.bl (tab i 1), V.bl (tab i 2), V.bl (tab i 3), V.bl (tab i 4), V.bl (tab i 5)] ++ [V.bl (tab i 6), V.bl (tab i 7), V.bl (tab i 8)])) = H2 at *
    clear s2 t2 g1 h1 n2 m2
    dsimp only
    refine ⟨_, rfl, _, rfl, a, e i, .ref (e 9), .ref (e 9), tab i 9, rfl, hx, (E.C i hi), (fun _ r => r), kt 9 (by decide), _, rfl, a, e i, .ref (e 10), .ref (e 10), tab i 10, rfl, hx, (E.C i hi), (fun _ r => r), kt 10 (by decide), by rw [sl]; exact (by decide : (2 : Nat) ≤ 16777216), fun M3 m3 => ?_⟩
    have t3 := same_new (o := .lst [V.bl (tab i 9), V.bl (tab i 10)]) m3
    refine ⟨L2, M3, _, _, rfl, rfl, t3 _ _ h2, upd_same, by rw [sl]; exact (by decide : (9 + 2 : Nat) ≤ 16777216), fun L3 n3 => ?_⟩
    have s3 := same_new (o := .lst ([V.bl (tab i 0), V.bl (tab i 1), V.bl (tab i 2), V.bl (tab i 3), V.bl (tab i 4), V.bl (tab i 5), V.bl (tab i 6), V.bl (tab i 7), V.bl (tab i 8)] ++ [V.bl (tab i 9), V.bl (tab i 10)])) n3
    have g3 := g2.trans (t3.trans s3)
    have h3 : (upd (upd H2 M3 (.lst [V.bl (tab i 9), V.bl (tab i 10)])) L3 (.lst ([V.bl (tab i 0), V.bl (tab i 1), V.bl (tab i 2), V.bl (tab i 3), V.bl (tab i 4), V.bl (tab i 5), V.bl (tab i 6), V.bl (tab i 7), V.bl (tab i 8)] ++ [V.bl (tab i 9), V.bl (tab i 10)]))) L3 = some (.lst [V.bl (tab i 0), V.bl (tab i 1), V.bl (tab i 2), V.bl (tab i 3), V.bl (tab i 4), V.bl (tab i 5), V.bl (tab i 6), V.bl (tab i 7), V.bl (tab i 8), V.bl (tab i 9), V.bl (tab i 10)]) := upd_same
    replace hx := hx.same (t3.trans s3)
    refine gn_i ?_
    generalize upd (upd H2 M3 (.lst [V.bl (tab i 9), V.bl (tab i 10)])) L3 (.lst ([V.bl (tab i 0), V.bl (tab i 1), V.bl (tab i 2), V.bl (tab i 3), V.bl (tab i 4), V.bl (tab i 5), V.bl (tab i 6), V.bl (tab i 7), V.bl (tab i 8)] ++ [V.bl (tab i 9), V.bl (tab i 10)])) = H3 at *
    clear s3 t3 g2 h2 n3 m3
    dsimp only
    refine ⟨_, rfl, _, rfl, a, e i, .ref (e 11), .ref (e 11), tab i 11, rfl, hx, (E.C i hi), (fun _ r => r), kt 11 (by decide), _, rfl, a, e i, .ref (e 12), .ref (e 12), tab i 12, rfl, hx, (E.C i hi), (fun _ r => r), kt 12 (by decide), by rw [sl]; exact (by decide : (2 : Nat) ≤ 16777216), fun M4 m4 => ?_⟩
    have t4 := same_new (o := .lst [V.bl (tab i 11), V.bl (tab i 12)]) m4
    refine ⟨L3, M4, _, _, rfl, rfl, t4 _ _ h3, upd_same, by rw [sl]; exact (by decide : (11 + 2 : Nat) ≤ 16777216), fun L4 n4 => ?_⟩
    have s4 := same_new (o := .lst ([V.bl (tab i 0), V.bl (tab i 1), V.bl (tab i 2), V.bl (tab i 3), V.bl (tab i 4), V.bl (tab i 5), V.bl (tab i 6), V.bl (tab i 7), V.bl (tab i 8), V.bl (tab i 9), V.bl (tab i 10)] ++ [V.bl (tab i 11), V.bl (tab i 12)])) n4
    have g4 := g3.trans (t4.trans s4)
    have h4 : (upd (upd H3 M4 (.lst [V.bl (tab i 11), V.bl (tab i 12)])) L4 (.lst ([V.bl (tab i 0), V.bl (tab i 1), V.bl (tab i 2), V.bl (tab i 3), V.bl (tab i 4), V.bl (tab i 5), V.bl (tab i 6), V.bl (tab i 7), V.bl (tab i 8), V.bl (tab i 9), V.bl (tab i 10)] ++ [V.bl (tab i 11), V.bl (tab i 12)]))) L4 = some (.lst [V.bl (tab i 0), V.bl (tab i 1), V.bl (tab i 2), V.bl (tab i 3), V.bl (tab i 4), V.bl (tab i 5), V.bl (tab i 6), V.bl (tab i 7), V.bl (tab i 8), V.bl (tab i 9), V.bl (tab i 10), V.bl (tab i 11), V.bl (tab i 12)]) := upd_same
    replace hx := hx.same (t4.trans s4)
    refine gn_i ?_
    generalize upd (upd H3 M4 (.lst [V.bl (tab i 11), V.bl (tab i 12)])) L4 (.lst ([V.bl (tab i 0), V.bl (tab i 1), V.bl (tab i 2), V.bl (tab i 3), V.bl (tab i 4), V.bl (tab i 5), V.bl (tab i 6), V.bl (tab i 7), V.bl (tab i 8), V.bl (tab i 9), V.bl (tab i 10)] ++ [V.bl (tab i 11), V.bl (tab i 12)])) = H4 at *
    clear s4 t4 g3 h3 n4 m4
    dsimp only
    refine ⟨_, rfl, _, rfl, a, e i, .ref (e 13), .ref (e 13), tab i 13, rfl, hx, (E.C i hi), (fun _ r => r), kt 13 (by decide), _, rfl, a, e i, .ref (e 14), .ref (e 14), tab i 14, rfl, hx, (E.C i hi), (fun _ r => r), kt 14 (by decide), _, rfl, a, e i, .ref (e 15), .ref (e 15), tab i 15, rfl, hx, (E.C i hi), (fun _ r => r), kt 15 (by decide), by rw [sl]; exact (by decide : (3 : Nat) ≤ 16777216), fun M5 m5 => ?_⟩
    have t5 := same_new (o := .lst [V.bl (tab i 13), V.bl (tab i 14), V.bl (tab i 15)]) m5
    refine ⟨L4, M5, _, _, rfl, rfl, t5 _ _ h4, upd_same, by rw [sl]; exact (by decide : (13 + 3 : Nat) ≤ 16777216), fun L5 n5 => ?_⟩
    have s5 := same_new (o := .lst ([V.bl (tab i 0), V.bl (tab i 1), V.bl (tab i 2), V.bl (tab i 3), V.bl (tab i 4), V.bl (tab i 5), V.bl (tab i 6), V.bl (tab i 7), V.bl (tab i 8), V.bl (tab i 9), V.bl (tab i 10), V.bl (tab i 11), V.bl (tab i 12)] ++ [V.bl (tab i 13), V.bl (tab i 14), V.bl (tab i 15)])) n5
    have g5 := g4.trans (t5.trans s5)
    have h5 : (upd (upd H4 M5 (.lst [V.bl (tab i 13), V.bl (tab i 14), V.bl (tab i 15)])) L5 (.lst ([V.bl (tab i 0), V.bl (tab i 1), V.bl (tab i 2), V.bl (tab i 3), V.bl (tab i 4), V.bl (tab i 5), V.bl (tab i 6), V.bl (tab i 7), V.bl (tab i 8), V.bl (tab i 9), V.bl (tab i 10), V.bl (tab i 11), V.bl (tab i 12)] ++ [V.bl (tab i 13), V.bl (tab i 14), V.bl (tab i 15)]))) L5 = some (.lst [V.bl (tab i 0), V.bl (tab i 1), V.bl (tab i 2), V.bl (tab i 3), V.bl (tab i 4), V.bl (tab i 5), V.bl (tab i 6), V.bl (tab i 7), V.bl (tab i 8), V.bl (tab i 9), V.bl (tab i 10), V.bl (tab i 11), V.bl (tab i 12), V.bl (tab i 13), V.bl (tab i 14), V.bl (tab i 15)]) := upd_same
    replace hx := hx.same (t5.trans s5)
    refine gn_i ?_
    generalize upd (upd H4 M5 (.lst [V.bl (tab i 13), V.bl (tab i 14), V.bl (tab i 15)])) L5 (.lst ([V.bl (tab i 0), V.bl (tab i 1), V.bl (tab i 2), V.bl (tab i 3), V.bl (tab i 4), V.bl (tab i 5), V.bl (tab i 6), V.bl (tab i 7), V.bl (tab i 8), V.bl (tab i 9), V.bl (tab i 10), V.bl (tab i 11), V.bl (tab i 12)] ++ [V.bl (tab i 13), V.bl (tab i 14), V.bl (tab i 15)])) = H5 at *
    clear s5 t5 g4 h4 n5 m5
    dsimp only
    refine ⟨_, rfl, _, rfl, a, e i, .ty "ValueError", .type "ValueError", tab i 16, rfl, hx, (E.C i hi), (fun _ r => r), ty16, _, rfl, a, e i, .ty "IndexError", .type "IndexError", tab i 17, rfl, hx, (E.C i hi), (fun _ r => r), ty17, _, rfl, a, e i, .ty "KeyError", .type "KeyError", tab i 18, rfl, hx, (E.C i hi), (fun _ r => r), ty18, by rw [sl]; exact (by decide : (3 : Nat) ≤ 16777216), fun M6 m6 => ?_⟩
    have t6 := same_new (o := .lst [V.bl (tab i 16), V.bl (tab i 17), V.bl (tab i 18)]) m6
    refine ⟨L5, M6, _, _, rfl, rfl, t6 _ _ h5, upd_same, by rw [sl]; exact (by decide : (16 + 3 : Nat) ≤ 16777216), fun L6 n6 => ?_⟩
    have s6 := same_new (o := .lst ([V.bl (tab i 0), V.bl (tab i 1), V.bl (tab i 2), V.bl (tab i 3), V.bl (tab i 4), V.bl (tab i 5), V.bl (tab i 6), V.bl (tab i 7), V.bl (tab i 8), V.bl (tab i 9), V.bl (tab i 10), V.bl (tab i 11), V.bl (tab i 12), V.bl (tab i 13), V.bl (tab i 14), V.bl (tab i 15)] ++ [V.bl (tab i 16), V.bl (tab i 17), V.bl (tab i 18)])) n6
    have g6 := g5.trans (t6.trans s6)
    have h6 : (upd (upd H5 M6 (.lst [V.bl (tab i 16), V.bl (tab i 17), V.bl (tab i 18)])) L6 (.lst ([V.bl (tab i 0), V.bl (tab i 1), V.bl (tab i 2), V.bl (tab i 3), V.bl (tab i 4), V.bl (tab i 5), V.bl (tab i 6), V.bl (tab i 7), V.bl (tab i 8), V.bl (tab i 9), V.bl (tab i 10), V.bl (tab i 11), V.bl (tab i 12), V.bl (tab i 13), V.bl (tab i 14), V.bl (tab i 15)] ++ [V.bl (tab i 16), V.bl (tab i 17), V.bl (tab i 18)]))) L6 = some (.lst [V.bl (tab i 0), V.bl (tab i 1), V.bl (tab i 2), V.bl (tab i 3), V.bl (tab i 4), V.bl (tab i 5), V.bl (tab i 6), V.bl (tab i 7), V.bl (tab i 8), V.bl (tab i 9), V.bl (tab i 10), V.bl (tab i 11), V.bl (tab i 12), V.bl (tab i 13), V.bl (tab i 14), V.bl (tab i 15), V.bl (tab i 16), V.bl (tab i 17), V.bl (tab i 18)]) := upd_same
    replace hx := hx.same (t6.trans s6)
    refine gn_i ?_
    generalize upd (upd H5 M6 (.lst [V.bl (tab i 16), V.bl (tab i 17), V.bl (tab i 18)])) L6 (.lst ([V.bl (tab i 0), V.bl (tab i 1), V.bl (tab i 2), V.bl (tab i 3), V.bl (tab i 4), V.bl (tab i 5), V.bl (tab i 6), V.bl (tab i 7), V.bl (tab i 8), V.bl (tab i 9), V.bl (tab i 10), V.bl (tab i 11), V.bl (tab i 12), V.bl (tab i 13), V.bl (tab i 14), V.bl (tab i 15)] ++ [V.bl (tab i 16), V.bl (tab i 17), V.bl (tab i 18)])) = H6 at *
    clear s6 t6 g5 h5 n6 m6
    dsimp only
    refine ⟨_, rfl, _, rfl, a, e i, .ty "LookupError", .type "LookupError", tab i 19, rfl, hx, (E.C i hi), (fun _ r => r), ty19, _, rfl, a, e i, .ty "OverflowError", .type "OverflowError", tab i 20, rfl, hx, (E.C i hi), (fun _ r => r), ty20, _, rfl, a, e i, .ty "ArithmeticError", .type "ArithmeticError", tab i 21, rfl, hx, (E.C i hi), (fun _ r => r), ty21, by rw [sl]; exact (by decide : (3 : Nat) ≤ 16777216), fun M7 m7 => ?_⟩
    have t7 := same_new (o := .lst [V.bl (tab i 19), V.bl (tab i 20), V.bl (tab i 21)]) m7
    refine ⟨L6, M7, _, _, rfl, rfl, t7 _ _ h6, upd_same, by rw [sl]; exact (by decide : (19 + 3 : Nat) ≤ 16777216), fun L7 n7 => ?_⟩
    have s7 := same_new (o := .lst ([V.bl (tab i 0), V.bl (tab i 1), V.bl (tab i 2), V.bl (tab i 3), V.bl (tab i 4), V.bl (tab i 5), V.bl (tab i 6), V.bl (tab i 7), V.bl (tab i 8), V.bl (tab i 9), V.bl (tab i 10), V.bl (tab i 11), V.bl (tab i 12), V.bl (tab i 13), V.bl (tab i 14), V.bl (tab i 15), V.bl (tab i 16), V.bl (tab i 17), V.bl (tab i 18)] ++ [V.bl (tab i 19), V.bl (tab i 20), V.bl (tab i 21)])) n7
    have g7 := g6.trans (t7.trans s7)
    have h7 : (upd (upd H6 M7 (.lst [V.bl (tab i 19), V.bl (tab i 20), V.bl (tab i 21)])) L7 (.lst ([V.bl (tab i 0), V.bl (tab i 1), V.bl (tab i 2), V.bl (tab i 3), V.bl (tab i 4), V.bl (tab i 5), V.bl (tab i 6), V.bl (tab i 7), V.bl (tab i 8), V.bl (tab i 9), V.bl (tab i 10), V.bl (tab i 11), V.bl (tab i 12), V.bl (tab i 13), V.bl (tab i 14), V.bl (tab i 15), V.bl (tab i 16), V.bl (tab i 17), V.bl (tab i 18)] ++ [V.bl (tab i 19), V.bl (tab i 20), V.bl (tab i 21)]))) L7 = some (.lst [V.bl (tab i 0), V.bl (tab i 1), V.bl (tab i 2), V.bl (tab i 3), V.bl (tab i 4), V.bl (tab i 5), V.bl (tab i 6), V.bl (tab i 7), V.bl (tab i 8), V.bl (tab i 9), V.bl (tab i 10), V.bl (tab i 11), V.bl (tab i 12), V.bl (tab i 13), V.bl (tab i 14), V.bl (tab i 15), V.bl (tab i 16), V.bl (tab i 17), V.bl (tab i 18), V.bl (tab i 19), V.bl (tab i 20), V.bl (tab i 21)]) := upd_same
    replace hx := hx.same (t7.trans s7)
    refine gn_i ?_
    generalize upd (upd H6 M7 (.lst [V.bl (tab i 19), V.bl (tab i 20), V.bl (tab i 21)])) L7 (.lst ([V.bl (tab i 0), V.bl (tab i 1), V.bl (tab i 2), V.bl (tab i 3), V.bl (tab i 4), V.bl (tab i 5), V.bl (tab i 6), V.bl (tab i 7), V.bl (tab i 8), V.bl (tab i 9), V.bl (tab i 10), V.bl (tab i 11), V.bl (tab i 12), V.bl (tab i 13), V.bl (tab i 14), V.bl (tab i 15), V.bl (tab i 16), V.bl (tab i 17), V.bl (tab i 18)] ++ [V.bl (tab i 19), V.bl (tab i 20), V.bl (tab i 21)])) = H7 at *
    clear s7 t7 g6 h6 n7 m7
    dsimp only
    refine ⟨⟨_, rfl⟩, _, rfl, L7, rfl, ⟨_, .inl (.inl h7)⟩, fun D hD => ?_⟩
    refine lc_map (K := K) (fun _ k y => y = .str ((kindL i).getD k Str.empty)) (steady_list (K := K) (a := L7) (xs := [V.bl (tab i 0), V.bl (tab i 1), V.bl (tab i 2), V.bl (tab i 3), V.bl (tab i 4), V.bl (tab i 5), V.bl (tab i 6), V.bl (tab i 7), V.bl (tab i 8), V.bl (tab i 9), V.bl (tab i 10), V.bl (tab i 11), V.bl (tab i 12), V.bl (tab i 13), V.bl (tab i 14), V.bl (tab i 15), V.bl (tab i 16), V.bl (tab i 17), V.bl (tab i 18), V.bl (tab i 19), V.bl (tab i 20), V.bl (tab i 21)])) (fun _ _ _ _ _ h => h) (fun H' s' => .inl (.inl (s' _ _ h7))) (by show (22 : Nat) ≤ 5000; decide) hD (fun k H' Q' hk s' q' => ?_) fun HB ys sB hys py => ?_
    · have hk : k < 22 := hk
      have ev : ([V.bl (tab i 0), V.bl (tab i 1), V.bl (tab i 2), V.bl (tab i 3), V.bl (tab i 4), V.bl (tab i 5), V.bl (tab i 6), V.bl (tab i 7), V.bl (tab i 8), V.bl (tab i 9), V.bl (tab i 10), V.bl (tab i 11), V.bl (tab i 12), V.bl (tab i 13), V.bl (tab i 14), V.bl (tab i 15), V.bl (tab i 16), V.bl (tab i 17), V.bl (tab i 18), V.bl (tab i 19), V.bl (tab i 20), V.bl (tab i 21)]).getD k .non = .bl (tab i k) := by
        have : ([V.bl (tab i 0), V.bl (tab i 1), V.bl (tab i 2), V.bl (tab i 3), V.bl (tab i 4), V.bl (tab i 5), V.bl (tab i 6), V.bl (tab i 7), V.bl (tab i 8), V.bl (tab i 9), V.bl (tab i 10), V.bl (tab i 11), V.bl (tab i 12), V.bl (tab i 13), V.bl (tab i 14), V.bl (tab i 15), V.bl (tab i 16), V.bl (tab i 17), V.bl (tab i 18), V.bl (tab i 19), V.bl (tab i 20), V.bl (tab i 21)]) = (List.range 22).map fun j => V.bl (tab i j) := rfl
        rw [this, List.getD_eq_getElem?_getD, List.getElem?_map, List.getElem?_range hk]; rfl
      rw [ev]
      refine gn_i ⟨rfl, ?_⟩
      refine ⟨_, rfl, .inr ⟨_, rfl, _, rfl, by cases tab i k <;> decide, ?_⟩⟩
      refine q' _ _ (Same.refl _) ?_
      have e2 : (kindL i).getD k Str.empty = dg (tab i k) := by
        unfold kindL
        rw [List.getD_eq_getElem?_getD, List.getElem?_map, List.getElem?_range hk]; rfl
      rw [e2, ← dg_str]
    have ey : ys = (kindL i).map V.str := paired_range (z := Str.empty) py
    subst ey
    refine ⟨_, D, kindL i, rfl, rfl, .inl (.inl (.inl hys)), ?_, q _ (g7.trans sB)⟩
    have b := sum_le (c := 1) (ys := kindL i) fun y hy => by
      obtain ⟨j, _, rfl⟩ := List.mem_map.mp hy
      exact Nat.le_of_eq (dg_len _)
    have l : (kindL i).length = 22 := by unfold kindL; rw [List.length_map, List.length_range]
    show _ + _ * 0 ≤ 16777216
    omega
end
end Fc
namespace Fc
open PySem PySem.Spec L2 PyProof.Rows
/-- the errors, each once -/
def ErrL (e : Nat → Addr) (H : Hp) (es : List V) : Prop := es.length = 16 ∧ ∀ i, i < 16 → ∃ a, es.getD i .non = .ref a ∧ IsX H a (e i)
def spMade16 (e : Nat → Addr) : Sp := fun vs H Q _ => ∃ y, vs = [y] ∧ ∀ H' L es, Same H H' → H' L = some (.lst es) → es.length = 16 → (∀ i, i < 16 → ∃ a, es.getD i .non = .ref a ∧ IsX H' a (e i)) → Q (.ref L) H'
section
variable {K : PySem.W.Frag} {mg : Str → Option Value} {base : Heap} {P : Program} {w : World}
abbrev nj48 : List Str := ["_law_value", "_law_found"]
theorem sp48 : FnScope nj48 ["_law_value"] (defScope (topK 48)) := ⟨rfl, rfl, rfl, by decide +kernel, rfl, by decide +kernel, by decide +kernel⟩
theorem op48 {f : Addr} {fd : FuncData} {e : Nat → Addr} (F : Fun K "_law_made" "_law_made" (topK 48) f fd) (O : ∀ i, 6 ≤ i → i < 16 → OwnX K mg (nmE i) (e i)) (M0 : MadeX P w K mg base "ParseError" (e 0) (bmE e 0) (tlE 0) "" (fldE 0) (mkE 0)) (M1 : MadeX P w K mg base "InvalidNumber" (e 1) (bmE e 1) (tlE 1) "" (fldE 1) (mkE 1)) (M2 : MadeX P w K mg base "UnknownName" (e 2) (bmE e 2) (tlE 2) "" (fldE 2) (mkE 2)) (M3 : MadeX P w K mg base "NothingToUndo" (e 3) (bmE e 3) (tlE 3) "" (fldE 3) (mkE 3)) (M4 : MadeX P w K mg base "TooMany" (e 4) (bmE e 4) (tlE 4) "" (fldE 4) (mkE 4)) (M5 : MadeX P w K mg base "Refused" (e 5) (bmE e 5) (tlE 5) "" (fldE 5) (mkE 5)) : FnOk P w K mg base CX0 3 f fd ["_law_value"] (spMade16 e) := by
  refine F.ok sp48 (fun vs H Q X h => ?_) (fun cdv A outer s H vs Q X hr h => ?_)
  · obtain ⟨y, rfl, _⟩ := h
    rfl
  · refine ⟨_, (pss_cons (ps_set (i := 1) sp48.nd rfl (Or.inl rfl) (pe_lst (pa_cons (pe_ownX M0 hr (by decide) (by rfl) (pv 0)) (pa_cons (pe_ownX M1 hr (by decide) (by rfl) (pv 0)) (pa_cons (pe_ownX M2 hr (by decide) (by rfl) (pv 0)) (pa_cons (pe_ownX M3 hr (by decide) (by rfl) (pv 0)) (pa_cons (pe_ownX M4 hr (by decide) (by rfl) (pv 0)) pa_nil))))))) (pss_cons (ps_set (i := 1) sp48.nd rfl (Or.inl rfl) (pe_op op_cat (pv 1) (pe_lst (pa_cons (pe_ownX M5 hr (by decide) (by rfl) (pv 0)) (pa_cons (pe_exc1 PySem.F.excBase_ValueError (O 6 (by decide) (by decide)).x (O 6 (by decide) (by decide)).g (O 6 (by decide) (by decide)).k (by rfl) pe_str) (pa_cons (pe_exc1 PySem.F.excBase_ValueError (O 7 (by decide) (by decide)).x (O 7 (by decide) (by decide)).g (O 7 (by decide) (by decide)).k (by rfl) pe_str) (pa_cons (pe_exc1 PySem.F.excBase_ValueError (O 8 (by decide) (by decide)).x (O 8 (by decide) (by decide)).g (O 8 (by decide) (by decide)).k (by rfl) pe_str) (pa_cons (pe_exc1 PySem.F.excBase_ValueError (O 9 (by decide) (by decide)).x (O 9 (by decide) (by decide)).g (O 9 (by decide) (by decide)).k (by rfl) pe_str) pa_nil)))))))) (pss_cons (ps_set (i := 1) sp48.nd rfl (Or.inl rfl) (pe_op op_cat (pv 1) (pe_lst (pa_cons (pe_exc1 PySem.F.excBase_ValueError (O 10 (by decide) (by decide)).x (O 10 (by decide) (by decide)).g (O 10 (by decide) (by decide)).k (by rfl) pe_str) (pa_cons (pe_exc1 PySem.F.excBase_ValueError (O 11 (by decide) (by decide)).x (O 11 (by decide) (by decide)).g (O 11 (by decide) (by decide)).k (by rfl) pe_str) (pa_cons (pe_exc1 PySem.F.excBase_ValueError (O 12 (by decide) (by decide)).x (O 12 (by decide) (by decide)).g (O 12 (by decide) (by decide)).k (by rfl) pe_str) (pa_cons (pe_exc1 PySem.F.excBase_ValueError (O 13 (by decide) (by decide)).x (O 13 (by decide) (by decide)).g (O 13 (by decide) (by decide)).k (by rfl) pe_str) pa_nil))))))) (pss_one (ps_ret (pe_op op_cat (pv 1) (pe_lst (pa_cons (pe_exc1 PySem.F.excBase_ValueError (O 14 (by decide) (by decide)).x (O 14 (by decide) (by decide)).g (O 14 (by decide) (by decide)).k (by rfl) pe_str) (pa_cons (pe_exc1 PySem.F.excBase_ValueError (O 15 (by decide) (by decide)).x (O 15 (by decide) (by decide)).g (O 15 (by decide) (by decide)).k (by rfl) pe_str) pa_nil))))))))), ?_⟩
    obtain ⟨y, rfl, q⟩ := h
    have sl : sizeLine = 16777216 := sizeLine_eq
    refine ⟨_, rfl, fun a0 d0 na0 nd0 ne0 => ?_⟩
    have sa0 := same_new (o := exd d0 [(fldE 0, y)]) nd0
    have sb0 := same_new (H := upd H d0 (exd d0 [(fldE 0, y)])) (a := a0) (o := exo a0 (e 0) (some d0)) (by rw [upd_ne ne0.symm]; exact na0)
    have x0 : IsX (upd (upd H d0 (exd d0 [(fldE 0, y)])) a0 (exo a0 (e 0) (some d0))) a0 (e 0) := .inr ⟨d0, _, upd_same, sb0 _ _ upd_same⟩
    have s0 := sa0.trans sb0
    generalize upd (upd H d0 (exd d0 [(fldE 0, y)])) a0 (exo a0 (e 0) (some d0)) = G0 at *
    refine ⟨_, rfl, fun a1 d1 na1 nd1 ne1 => ?_⟩
    have sa1 := same_new (o := exd d1 [(fldE 1, y)]) nd1
    have sb1 := same_new (H := upd G0 d1 (exd d1 [(fldE 1, y)])) (a := a1) (o := exo a1 (e 1) (some d1)) (by rw [upd_ne ne1.symm]; exact na1)
    have x1 : IsX (upd (upd G0 d1 (exd d1 [(fldE 1, y)])) a1 (exo a1 (e 1) (some d1))) a1 (e 1) := .inr ⟨d1, _, upd_same, sb1 _ _ upd_same⟩
    have s1 := sa1.trans sb1
    generalize upd (upd G0 d1 (exd d1 [(fldE 1, y)])) a1 (exo a1 (e 1) (some d1)) = G1 at *
    refine ⟨_, rfl, fun a2 d2 na2 nd2 ne2 => ?_⟩
    have sa2 := same_new (o := exd d2 [(fldE 2, y)]) nd2
    have sb2 := same_new (H := upd G1 d2 (exd d2 [(fldE 2, y)])) (a := a2) (o := exo a2 (e 2) (some d2)) (by rw [upd_ne ne2.symm]; exact na2)
    have x2 : IsX (upd (upd G1 d2 (exd d2 [(fldE 2, y)])) a2 (exo a2 (e 2) (some d2))) a2 (e 2) := .inr ⟨d2, _, upd_same, sb2 _ _ upd_same⟩
    have s2 := sa2.trans sb2
    generalize upd (upd G1 d2 (exd d2 [(fldE 2, y)])) a2 (exo a2 (e 2) (some d2)) = G2 at *
    refine ⟨_, rfl, fun a3 d3 na3 nd3 ne3 => ?_⟩
    have sa3 := same_new (o := exd d3 [(fldE 3, y)]) nd3
    have sb3 := same_new (H := upd G2 d3 (exd d3 [(fldE 3, y)])) (a := a3) (o := exo a3 (e 3) (some d3)) (by rw [upd_ne ne3.symm]; exact na3)
    have x3 : IsX (upd (upd G2 d3 (exd d3 [(fldE 3, y)])) a3 (exo a3 (e 3) (some d3))) a3 (e 3) := .inr ⟨d3, _, upd_same, sb3 _ _ upd_same⟩
    have s3 := sa3.trans sb3
    generalize upd (upd G2 d3 (exd d3 [(fldE 3, y)])) a3 (exo a3 (e 3) (some d3)) = G3 at *
    refine ⟨_, rfl, fun a4 d4 na4 nd4 ne4 => ?_⟩
    have sa4 := same_new (o := exd d4 [(fldE 4, y)]) nd4
    have sb4 := same_new (H := upd G3 d4 (exd d4 [(fldE 4, y)])) (a := a4) (o := exo a4 (e 4) (some d4)) (by rw [upd_ne ne4.symm]; exact na4)
    have x4 : IsX (upd (upd G3 d4 (exd d4 [(fldE 4, y)])) a4 (exo a4 (e 4) (some d4))) a4 (e 4) := .inr ⟨d4, _, upd_same, sb4 _ _ upd_same⟩
    have s4 := sa4.trans sb4
    generalize upd (upd G3 d4 (exd d4 [(fldE 4, y)])) a4 (exo a4 (e 4) (some d4)) = G4 at *
    refine ⟨by rw [sl]; exact (by decide : (5 : Nat) ≤ 16777216), fun N0 m0 => ?_⟩
    have t0 := same_new (o := .lst [V.ref a0, V.ref a1, V.ref a2, V.ref a3, V.ref a4]) m0
    have l0 : (upd G4 N0 (.lst [V.ref a0, V.ref a1, V.ref a2, V.ref a3, V.ref a4])) N0 = some (.lst [V.ref a0, V.ref a1, V.ref a2, V.ref a3, V.ref a4]) := upd_same
    refine gn_i ?_
    generalize upd G4 N0 (.lst [V.ref a0, V.ref a1, V.ref a2, V.ref a3, V.ref a4]) = J0 at *
    dsimp only
    refine ⟨_, rfl, ?_⟩
    refine ⟨_, rfl, fun a5 d5 na5 nd5 ne5 => ?_⟩
    have sa5 := same_new (o := exd d5 [(fldE 5, y)]) nd5
    have sb5 := same_new (H := upd J0 d5 (exd d5 [(fldE 5, y)])) (a := a5) (o := exo a5 (e 5) (some d5)) (by rw [upd_ne ne5.symm]; exact na5)
    have x5 : IsX (upd (upd J0 d5 (exd d5 [(fldE 5, y)])) a5 (exo a5 (e 5) (some d5))) a5 (e 5) := .inr ⟨d5, _, upd_same, sb5 _ _ upd_same⟩
    have s5 := sa5.trans sb5
    generalize upd (upd J0 d5 (exd d5 [(fldE 5, y)])) a5 (exo a5 (e 5) (some d5)) = G5 at *
    refine fun a6 na6 => ?_
    have s6 := same_new (o := ExO (.ref (e 6)) a6) na6
    have x6 : IsX (upd G5 a6 (ExO (.ref (e 6)) a6)) a6 (e 6) := .inl upd_same
    generalize upd G5 a6 (ExO (.ref (e 6)) a6) = G6 at *
    refine fun a7 na7 => ?_
    have s7 := same_new (o := ExO (.ref (e 7)) a7) na7
    have x7 : IsX (upd G6 a7 (ExO (.ref (e 7)) a7)) a7 (e 7) := .inl upd_same
    generalize upd G6 a7 (ExO (.ref (e 7)) a7) = G7 at *
    refine fun a8 na8 => ?_
    have s8 := same_new (o := ExO (.ref (e 8)) a8) na8
    have x8 : IsX (upd G7 a8 (ExO (.ref (e 8)) a8)) a8 (e 8) := .inl upd_same
    generalize upd G7 a8 (ExO (.ref (e 8)) a8) = G8 at *
    refine fun a9 na9 => ?_
    have s9 := same_new (o := ExO (.ref (e 9)) a9) na9
    have x9 : IsX (upd G8 a9 (ExO (.ref (e 9)) a9)) a9 (e 9) := .inl upd_same
    generalize upd G8 a9 (ExO (.ref (e 9)) a9) = G9 at *
    refine ⟨by rw [sl]; exact (by decide : (5 : Nat) ≤ 16777216), fun N1 m1 => ?_⟩
    have t1 := same_new (o := .lst [V.ref a5, V.ref a6, V.ref a7, V.ref a8, V.ref a9]) m1
    have up1 : N0 = N0 := rfl
    refine ⟨N0, N1, _, _, rfl, rfl, ((((((s5).trans s6).trans s7).trans s8).trans s9).trans t1) _ _ l0, upd_same, by rw [sl]; exact (by decide : (5 + 5 : Nat) ≤ 16777216), fun P1 p1 => ?_⟩
    have v1 := same_new (o := .lst ([V.ref a0, V.ref a1, V.ref a2, V.ref a3, V.ref a4] ++ [V.ref a5, V.ref a6, V.ref a7, V.ref a8, V.ref a9])) p1
    have l1 : (upd (upd G9 N1 (.lst [V.ref a5, V.ref a6, V.ref a7, V.ref a8, V.ref a9])) P1 (.lst ([V.ref a0, V.ref a1, V.ref a2, V.ref a3, V.ref a4] ++ [V.ref a5, V.ref a6, V.ref a7, V.ref a8, V.ref a9]))) P1 = some (.lst [V.ref a0, V.ref a1, V.ref a2, V.ref a3, V.ref a4, V.ref a5, V.ref a6, V.ref a7, V.ref a8, V.ref a9]) := upd_same
    refine gn_i ?_
    generalize upd (upd G9 N1 (.lst [V.ref a5, V.ref a6, V.ref a7, V.ref a8, V.ref a9])) P1 (.lst ([V.ref a0, V.ref a1, V.ref a2, V.ref a3, V.ref a4] ++ [V.ref a5, V.ref a6, V.ref a7, V.ref a8, V.ref a9])) = J1 at *
    dsimp only
    refine ⟨_, rfl, ?_⟩
    refine fun a10 na10 => ?_
    have s10 := same_new (o := ExO (.ref (e 10)) a10) na10
    have x10 : IsX (upd J1 a10 (ExO (.ref (e 10)) a10)) a10 (e 10) := .inl upd_same
    generalize upd J1 a10 (ExO (.ref (e 10)) a10) = G10 at *
    refine fun a11 na11 => ?_
    have s11 := same_new (o := ExO (.ref (e 11)) a11) na11
    have x11 : IsX (upd G10 a11 (ExO (.ref (e 11)) a11)) a11 (e 11) := .inl upd_same
    generalize upd G10 a11 (ExO (.ref (e 11)) a11) = G11 at *
    refine fun a12 na12 => ?_
    have s12 := same_new (o := ExO (.ref (e 12)) a12) na12
    have x12 : IsX (upd G11 a12 (ExO (.ref (e 12)) a12)) a12 (e 12) := .inl upd_same
    generalize upd G11 a12 (ExO (.ref (e 12)) a12) = G12 at *
    refine fun a13 na13 => ?_
    have s13 := same_new (o := ExO (.ref (e 13)) a13) na13
    have x13 : IsX (upd G12 a13 (ExO (.ref (e 13)) a13)) a13 (e 13) := .inl upd_same
    generalize upd G12 a13 (ExO (.ref (e 13)) a13) = G13 at *
    refine ⟨by rw [sl]; exact (by decide : (4 : Nat) ≤ 16777216), fun N2 m2 => ?_⟩
    have t2 := same_new (o := .lst [V.ref a10, V.ref a11, V.ref a12, V.ref a13]) m2
    have up2 : P1 = P1 := rfl
    refine ⟨P1, N2, _, _, rfl, rfl, (((((s10).trans s11).trans s12).trans s13).trans t2) _ _ l1, upd_same, by rw [sl]; exact (by decide : (10 + 4 : Nat) ≤ 16777216), fun P2 p2 => ?_⟩
    have v2 := same_new (o := .lst ([V.ref a0, V.ref a1, V.ref a2, V.ref a3, V.ref a4, V.ref a5, V.ref a6, V.ref a7, V.ref a8, V.ref a9] ++ [V.ref a10, V.ref a11, V.ref a12, V.ref a13])) p2
    have l2 : (upd (upd G13 N2 (.lst [V.ref a10, V.ref a11, V.ref a12, V.ref a13])) P2 (.lst ([V.ref a0, V.ref a1, V.ref a2, V.ref a3, V.ref a4, V.ref a5, V.ref a6, V.ref a7, V.ref a8, V.ref a9] ++ [V.ref a10, V.ref a11, V.ref a12, V.ref a13]))) P2 = some (.lst [V.ref a0, V.ref a1, V.ref a2, V.ref a3, V.ref a4, V.ref a5, V.ref a6, V.ref a7, V.ref a8, V.ref a9, V.ref a10, V.ref a11, V.ref a12, V.ref a13]) := upd_same
    refine gn_i ?_
    generalize upd (upd G13 N2 (.lst [V.ref a10, V.ref a11, V.ref a12, V.ref a13])) P2 (.lst ([V.ref a0, V.ref a1, V.ref a2, V.ref a3, V.ref a4, V.ref a5, V.ref a6, V.ref a7, V.ref a8, V.ref a9] ++ [V.ref a10, V.ref a11, V.ref a12, V.ref a13])) = J2 at *
    dsimp only
    refine ⟨_, rfl, ?_⟩
    refine fun a14 na14 => ?_
    have s14 := same_new (o := ExO (.ref (e 14)) a14) na14
    have x14 : IsX (upd J2 a14 (ExO (.ref (e 14)) a14)) a14 (e 14) := .inl upd_same
    generalize upd J2 a14 (ExO (.ref (e 14)) a14) = G14 at *
    refine fun a15 na15 => ?_
    have s15 := same_new (o := ExO (.ref (e 15)) a15) na15
    have x15 : IsX (upd G14 a15 (ExO (.ref (e 15)) a15)) a15 (e 15) := .inl upd_same
    generalize upd G14 a15 (ExO (.ref (e 15)) a15) = G15 at *
    refine ⟨by rw [sl]; exact (by decide : (2 : Nat) ≤ 16777216), fun N3 m3 => ?_⟩
    have t3 := same_new (o := .lst [V.ref a14, V.ref a15]) m3
    have up3 : P2 = P2 := rfl
    refine ⟨P2, N3, _, _, rfl, rfl, (((s14).trans s15).trans t3) _ _ l2, upd_same, by rw [sl]; exact (by decide : (14 + 2 : Nat) ≤ 16777216), fun P3 p3 => ?_⟩
    have v3 := same_new (o := .lst ([V.ref a0, V.ref a1, V.ref a2, V.ref a3, V.ref a4, V.ref a5, V.ref a6, V.ref a7, V.ref a8, V.ref a9, V.ref a10, V.ref a11, V.ref a12, V.ref a13] ++ [V.ref a14, V.ref a15])) p3
    have l3 : (upd (upd G15 N3 (.lst [V.ref a14, V.ref a15])) P3 (.lst ([V.ref a0, V.ref a1, V.ref a2, V.ref a3, V.ref a4, V.ref a5, V.ref a6, V.ref a7, V.ref a8, V.ref a9, V.ref a10, V.ref a11, V.ref a12, V.ref a13] ++ [V.ref a14, V.ref a15]))) P3 = some (.lst [V.ref a0, V.ref a1, V.ref a2, V.ref a3, V.ref a4, V.ref a5, V.ref a6, V.ref a7, V.ref a8, V.ref a9, V.ref a10, V.ref a11, V.ref a12, V.ref a13, V.ref a14, V.ref a15]) := upd_same
    refine q _ P3 [V.ref a0, V.ref a1, V.ref a2, V.ref a3, V.ref a4, V.ref a5, V.ref a6, V.ref a7, V.ref a8, V.ref a9, V.ref a10, V.ref a11, V.ref a12, V.ref a13, V.ref a14, V.ref a15] (s0.trans (s1.trans (s2.trans (s3.trans (s4.trans (t0.trans (s5.trans (s6.trans (s7.trans (s8.trans (s9.trans (t1.trans (v1.trans (s10.trans (s11.trans (s12.trans (s13.trans (t2.trans (v2.trans (s14.trans (s15.trans (t3.trans (v3))))))))))))))))))))))) l3 rfl fun i hi => ?_
    match i, hi with
    | 0, _ => exact ⟨a0, rfl, x0.same (s1.trans (s2.trans (s3.trans (s4.trans (t0.trans (s5.trans (s6.trans (s7.trans (s8.trans (s9.trans (t1.trans (v1.trans (s10.trans (s11.trans (s12.trans (s13.trans (t2.trans (v2.trans (s14.trans (s15.trans (t3.trans (v3))))))))))))))))))))))⟩
    | 1, _ => exact ⟨a1, rfl, x1.same (s2.trans (s3.trans (s4.trans (t0.trans (s5.trans (s6.trans (s7.trans (s8.trans (s9.trans (t1.trans (v1.trans (s10.trans (s11.trans (s12.trans (s13.trans (t2.trans (v2.trans (s14.trans (s15.trans (t3.trans (v3)))))))))))))))))))))⟩
    | 2, _ => exact ⟨a2, rfl, x2.same (s3.trans (s4.trans (t0.trans (s5.trans (s6.trans (s7.trans (s8.trans (s9.trans (t1.trans (v1.trans (s10.trans (s11.trans (s12.trans (s13.trans (t2.trans (v2.trans (s14.trans (s15.trans (t3.trans (v3))))))))))))))))))))⟩
    | 3, _ => exact ⟨a3, rfl, x3.same (s4.trans (t0.trans (s5.trans (s6.trans (s7.trans (s8.trans (s9.trans (t1.trans (v1.trans (s10.trans (s11.trans (s12.trans (s13.trans (t2.trans (v2.trans (s14.trans (s15.trans (t3.trans (v3)))))))))))))))))))⟩
    | 4, _ => exact ⟨a4, rfl, x4.same (t0.trans (s5.trans (s6.trans (s7.trans (s8.trans (s9.trans (t1.trans (v1.trans (s10.trans (s11.trans (s12.trans (s13.trans (t2.trans (v2.trans (s14.trans (s15.trans (t3.trans (v3))))))))))))))))))⟩
    | 5, _ => exact ⟨a5, rfl, x5.same (s6.trans (s7.trans (s8.trans (s9.trans (t1.trans (v1.trans (s10.trans (s11.trans (s12.trans (s13.trans (t2.trans (v2.trans (s14.trans (s15.trans (t3.trans (v3))))))))))))))))⟩
    | 6, _ => exact ⟨a6, rfl, x6.same (s7.trans (s8.trans (s9.trans (t1.trans (v1.trans (s10.trans (s11.trans (s12.trans (s13.trans (t2.trans (v2.trans (s14.trans (s15.trans (t3.trans (v3)))))))))))))))⟩
    | 7, _ => exact ⟨a7, rfl, x7.same (s8.trans (s9.trans (t1.trans (v1.trans (s10.trans (s11.trans (s12.trans (s13.trans (t2.trans (v2.trans (s14.trans (s15.trans (t3.trans (v3))))))))))))))⟩
    | 8, _ => exact ⟨a8, rfl, x8.same (s9.trans (t1.trans (v1.trans (s10.trans (s11.trans (s12.trans (s13.trans (t2.trans (v2.trans (s14.trans (s15.trans (t3.trans (v3)))))))))))))⟩
    | 9, _ => exact ⟨a9, rfl, x9.same (t1.trans (v1.trans (s10.trans (s11.trans (s12.trans (s13.trans (t2.trans (v2.trans (s14.trans (s15.trans (t3.trans (v3))))))))))))⟩
    | 10, _ => exact ⟨a10, rfl, x10.same (s11.trans (s12.trans (s13.trans (t2.trans (v2.trans (s14.trans (s15.trans (t3.trans (v3)))))))))⟩
    | 11, _ => exact ⟨a11, rfl, x11.same (s12.trans (s13.trans (t2.trans (v2.trans (s14.trans (s15.trans (t3.trans (v3))))))))⟩
    | 12, _ => exact ⟨a12, rfl, x12.same (s13.trans (t2.trans (v2.trans (s14.trans (s15.trans (t3.trans (v3)))))))⟩
    | 13, _ => exact ⟨a13, rfl, x13.same (t2.trans (v2.trans (s14.trans (s15.trans (t3.trans (v3))))))⟩
    | 14, _ => exact ⟨a14, rfl, x14.same (s15.trans (t3.trans (v3)))⟩
    | 15, _ => exact ⟨a15, rfl, x15.same (t3.trans (v3))⟩
    | n + 16, h => exact absurd h (by omega)
end
end Fc
namespace Fc
open PySem PySem.Spec L2 PyProof.Rows
theorem decI (i n : Nat) : decide (V.int (i : Int) = V.int (n : Int)) = decide (i = n) := decide_eq_decide.mpr ⟨fun e => by have := V.int.inj e; omega, fun e => by rw [e]⟩
/-- a truth as a number -/
def bi (b : Bool) : Int := if b then 1 else 0
theorem inV3 : ∀ i : Nat, i < 16 → inV (.int (i : Int)) [V.int 1, V.int 2, V.int 3] = (decide (i = 1) || (decide (i = 2) || decide (i = 3))) := by decide +kernel
theorem inV2 : ∀ i : Nat, i < 16 → inV (.int (i : Int)) [V.int 4, V.int 5] = (decide (i = 4) || decide (i = 5)) := by decide +kernel
theorem due_eq : ∀ i : Nat, i < 16 → ((List.range 15).map fun k => bi (decide (i = k))) ++ [bi (decide (i = 0) || decide (5 < i)), bi (decide (i = 0) || decide (5 < i)), bi (decide (i = 1)), bi (decide (i = 2)), bi (decide (i = 1) || (decide (i = 2) || decide (i = 3))), bi (decide (i = 4)), bi (decide (i = 4) || decide (i = 5))] = (List.range 22).map fun j => bi (tab i j) := by decide +kernel
def spKeep (e : Nat → Addr) : Sp := fun vs H _ E => ∃ (i : Nat) (y : V), vs = [.int (i : Int), y] ∧ i < 6 ∧ ∀ d, H d = none → E (.ref (e i)) (some d) (upd H d (.xd [(fldE i, y)]))
def spPlain (e : Nat → Addr) : Sp := fun vs H _ E => ∃ (i : Nat), vs = [.int (i : Int)] ∧ i < 10 ∧ ∀ H', Same H H' → E (.ref (e (6 + i))) none H'
def spDue : Sp := fun vs H Q _ => ∃ (i : Nat), vs = [.int (i : Int)] ∧ i < 16 ∧ ∀ H', Same H H' → Q (.str (kindT i)) H'
section
variable {K : PySem.W.Frag} {mg : Str → Option Value} {base : Heap} {P : Program} {w : World}
theorem sp51 : FnScope ["_law_at", "_law_value"] ["_law_at", "_law_value"] (defScope (topK 51)) := ⟨rfl, rfl, rfl, by decide +kernel, rfl, by decide +kernel, by decide +kernel⟩
theorem op51 {f : Addr} {fd : FuncData} {e : Nat → Addr} (F : Fun K "_law_keeping" "_law_keeping" (topK 51) f fd) (M0 : MadeX P w K mg base "ParseError" (e 0) (bmE e 0) (tlE 0) "" (fldE 0) (mkE 0)) (M1 : MadeX P w K mg base "InvalidNumber" (e 1) (bmE e 1) (tlE 1) "" (fldE 1) (mkE 1)) (M2 : MadeX P w K mg base "UnknownName" (e 2) (bmE e 2) (tlE 2) "" (fldE 2) (mkE 2)) (M3 : MadeX P w K mg base "NothingToUndo" (e 3) (bmE e 3) (tlE 3) "" (fldE 3) (mkE 3)) (M4 : MadeX P w K mg base "TooMany" (e 4) (bmE e 4) (tlE 4) "" (fldE 4) (mkE 4)) (M5 : MadeX P w K mg base "Refused" (e 5) (bmE e 5) (tlE 5) "" (fldE 5) (mkE 5)) : FnOk P w K mg base (L2.CX P w) 3 f fd ["_law_at", "_law_value"] (spKeep e) := by
  refine F.okX sp51 (fun vs H Q E h => ?_) (fun cdv A outer s H vs Q E hr h => ?_)
  · obtain ⟨i, y, rfl, _⟩ := h
    rfl
  · refine ⟨_, (pss_cons (ps_if (pt_cmpR op_eq (pv 0) pe_int (nomark _)) (pss_one (ps_raise rfl (takes_of rfl rfl rfl rfl) (pmk_ownX M0 hr (by decide) (by rfl) (pv 1)))) pss_nil) (pss_cons (ps_if (pt_cmpR op_eq (pv 0) pe_int (nomark _)) (pss_one (ps_raise rfl (takes_of rfl rfl rfl rfl) (pmk_ownX M1 hr (by decide) (by rfl) (pv 1)))) pss_nil) (pss_cons (ps_if (pt_cmpR op_eq (pv 0) pe_int (nomark _)) (pss_one (ps_raise rfl (takes_of rfl rfl rfl rfl) (pmk_ownX M2 hr (by decide) (by rfl) (pv 1)))) pss_nil) (pss_cons (ps_if (pt_cmpR op_eq (pv 0) pe_int (nomark _)) (pss_one (ps_raise rfl (takes_of rfl rfl rfl rfl) (pmk_ownX M3 hr (by decide) (by rfl) (pv 1)))) pss_nil) (pss_cons (ps_if (pt_cmpR op_eq (pv 0) pe_int (nomark _)) (pss_one (ps_raise rfl (takes_of rfl rfl rfl rfl) (pmk_ownX M4 hr (by decide) (by rfl) (pv 1)))) pss_nil) (pss_one (ps_raise rfl (takes_of rfl rfl rfl rfl) (pmk_ownX M5 hr (by decide) (by rfl) (pv 1))))))))), ?_⟩
    obtain ⟨i, y, rfl, hi, q⟩ := h
    refine ⟨_, rfl, rfl, _, rfl, ?_⟩
    rw [show decide (V.int (i : Int) = V.int 0) = decide (i = 0) from decI i 0]
    by_cases c0 : i = 0
    · rw [decide_eq_true c0]
      subst c0
      exact iteT ⟨_, rfl, q⟩
    rw [decide_eq_false c0]
    refine iteF ?_
    refine ⟨_, rfl, rfl, _, rfl, ?_⟩
    rw [show decide (V.int (i : Int) = V.int 1) = decide (i = 1) from decI i 1]
    by_cases c1 : i = 1
    · rw [decide_eq_true c1]
      subst c1
      exact iteT ⟨_, rfl, q⟩
    rw [decide_eq_false c1]
    refine iteF ?_
    refine ⟨_, rfl, rfl, _, rfl, ?_⟩
    rw [show decide (V.int (i : Int) = V.int 2) = decide (i = 2) from decI i 2]
    by_cases c2 : i = 2
    · rw [decide_eq_true c2]
      subst c2
      exact iteT ⟨_, rfl, q⟩
    rw [decide_eq_false c2]
    refine iteF ?_
    refine ⟨_, rfl, rfl, _, rfl, ?_⟩
    rw [show decide (V.int (i : Int) = V.int 3) = decide (i = 3) from decI i 3]
    by_cases c3 : i = 3
    · rw [decide_eq_true c3]
      subst c3
      exact iteT ⟨_, rfl, q⟩
    rw [decide_eq_false c3]
    refine iteF ?_
    refine ⟨_, rfl, rfl, _, rfl, ?_⟩
    rw [show decide (V.int (i : Int) = V.int 4) = decide (i = 4) from decI i 4]
    by_cases c4 : i = 4
    · rw [decide_eq_true c4]
      subst c4
      exact iteT ⟨_, rfl, q⟩
    rw [decide_eq_false c4]
    refine iteF ?_
    obtain rfl : i = 5 := by omega
    exact ⟨_, rfl, q⟩
theorem sp52 : FnScope ["_law_at"] ["_law_at"] (defScope (topK 52)) := ⟨rfl, rfl, rfl, by decide +kernel, rfl, by decide +kernel, by decide +kernel⟩
theorem op52 {f : Addr} {fd : FuncData} {e : Nat → Addr} (F : Fun K "_law_plain" "_law_plain" (topK 52) f fd) (O : ∀ i, 6 ≤ i → i < 16 → OwnX K mg (nmE i) (e i)) : FnOk P w K mg base (L2.CX P w) 1 f fd ["_law_at"] (spPlain e) := by
  refine F.okX sp52 (fun vs H Q E h => ?_) (fun cdv A outer s H vs Q E hr h => ?_)
  · obtain ⟨i, rfl, _⟩ := h
    rfl
  · refine ⟨_, (pss_cons (ps_if (pt_cmpR op_eq (pv 0) pe_int (nomark _)) (pss_one (ps_raise rfl (takes_of rfl rfl rfl rfl) (pmk_own PySem.F.excBase_ValueError (O 6 (by decide) (by decide)).x (O 6 (by decide) (by decide)).g (O 6 (by decide) (by decide)).k (raises_own (O 6 (by decide) (by decide)).b (O 6 (by decide) (by decide)).t) rfl))) pss_nil) (pss_cons (ps_if (pt_cmpR op_eq (pv 0) pe_int (nomark _)) (pss_one (ps_raise rfl (takes_of rfl rfl rfl rfl) (pmk_own PySem.F.excBase_ValueError (O 7 (by decide) (by decide)).x (O 7 (by decide) (by decide)).g (O 7 (by decide) (by decide)).k (raises_own (O 7 (by decide) (by decide)).b (O 7 (by decide) (by decide)).t) rfl))) pss_nil) (pss_cons (ps_if (pt_cmpR op_eq (pv 0) pe_int (nomark _)) (pss_one (ps_raise rfl (takes_of rfl rfl rfl rfl) (pmk_own PySem.F.excBase_ValueError (O 8 (by decide) (by decide)).x (O 8 (by decide) (by decide)).g (O 8 (by decide) (by decide)).k (raises_own (O 8 (by decide) (by decide)).b (O 8 (by decide) (by decide)).t) rfl))) pss_nil) (pss_cons (ps_if (pt_cmpR op_eq (pv 0) pe_int (nomark _)) (pss_one (ps_raise rfl (takes_of rfl rfl rfl rfl) (pmk_own PySem.F.excBase_ValueError (O 9 (by decide) (by decide)).x (O 9 (by decide) (by decide)).g (O 9 (by decide) (by decide)).k (raises_own (O 9 (by decide) (by decide)).b (O 9 (by decide) (by decide)).t) rfl))) pss_nil) (pss_cons (ps_if (pt_cmpR op_eq (pv 0) pe_int (nomark _)) (pss_one (ps_raise rfl (takes_of rfl rfl rfl rfl) (pmk_own PySem.F.excBase_ValueError (O 10 (by decide) (by decide)).x (O 10 (by decide) (by decide)).g (O 10 (by decide) (by decide)).k (raises_own (O 10 (by decide) (by decide)).b (O 10 (by decide) (by decide)).t) rfl))) pss_nil) (pss_cons (ps_if (pt_cmpR op_eq (pv 0) pe_int (nomark _)) (pss_one (ps_raise rfl (takes_of rfl rfl rfl rfl) (pmk_own PySem.F.excBase_ValueError (O 11 (by decide) (by decide)).x (O 11 (by decide) (by decide)).g (O 11 (by decide) (by decide)).k (raises_own (O 11 (by decide) (by decide)).b (O 11 (by decide) (by decide)).t) rfl))) pss_nil) (pss_cons (ps_if (pt_cmpR op_eq (pv 0) pe_int (nomark _)) (pss_one (ps_raise rfl (takes_of rfl rfl rfl rfl) (pmk_own PySem.F.excBase_ValueError (O 12 (by decide) (by decide)).x (O 12 (by decide) (by decide)).g (O 12 (by decide) (by decide)).k (raises_own (O 12 (by decide) (by decide)).b (O 12 (by decide) (by decide)).t) rfl))) pss_nil) (pss_cons (ps_if (pt_cmpR op_eq (pv 0) pe_int (nomark _)) (pss_one (ps_raise rfl (takes_of rfl rfl rfl rfl) (pmk_own PySem.F.excBase_ValueError (O 13 (by decide) (by decide)).x (O 13 (by decide) (by decide)).g (O 13 (by decide) (by decide)).k (raises_own (O 13 (by decide) (by decide)).b (O 13 (by decide) (by decide)).t) rfl))) pss_nil) (pss_cons (ps_if (pt_cmpR op_eq (pv 0) pe_int (nomark _)) (pss_one (ps_raise rfl (takes_of rfl rfl rfl rfl) (pmk_own PySem.F.excBase_ValueError (O 14 (by decide) (by decide)).x (O 14 (by decide) (by decide)).g (O 14 (by decide) (by decide)).k (raises_own (O 14 (by decide) (by decide)).b (O 14 (by decide) (by decide)).t) rfl))) pss_nil) (pss_one (ps_raise rfl (takes_of rfl rfl rfl rfl) (pmk_own PySem.F.excBase_ValueError (O 15 (by decide) (by decide)).x (O 15 (by decide) (by decide)).g (O 15 (by decide) (by decide)).k (raises_own (O 15 (by decide) (by decide)).b (O 15 (by decide) (by decide)).t) rfl)))))))))))), ?_⟩
    obtain ⟨i, rfl, hi, q⟩ := h
    refine ⟨_, rfl, rfl, _, rfl, ?_⟩
    rw [show decide (V.int (i : Int) = V.int 0) = decide (i = 0) from decI i 0]
    by_cases c0 : i = 0
    · rw [decide_eq_true c0]
      subst c0
      exact iteT (q _ (Same.refl _))
    rw [decide_eq_false c0]
    refine iteF ?_
    refine ⟨_, rfl, rfl, _, rfl, ?_⟩
    rw [show decide (V.int (i : Int) = V.int 1) = decide (i = 1) from decI i 1]
    by_cases c1 : i = 1
    · rw [decide_eq_true c1]
      subst c1
      exact iteT (q _ (Same.refl _))
    rw [decide_eq_false c1]
    refine iteF ?_
    refine ⟨_, rfl, rfl, _, rfl, ?_⟩
    rw [show decide (V.int (i : Int) = V.int 2) = decide (i = 2) from decI i 2]
    by_cases c2 : i = 2
    · rw [decide_eq_true c2]
      subst c2
      exact iteT (q _ (Same.refl _))
    rw [decide_eq_false c2]
    refine iteF ?_
    refine ⟨_, rfl, rfl, _, rfl, ?_⟩
    rw [show decide (V.int (i : Int) = V.int 3) = decide (i = 3) from decI i 3]
    by_cases c3 : i = 3
    · rw [decide_eq_true c3]
      subst c3
      exact iteT (q _ (Same.refl _))
    rw [decide_eq_false c3]
    refine iteF ?_
    refine ⟨_, rfl, rfl, _, rfl, ?_⟩
    rw [show decide (V.int (i : Int) = V.int 4) = decide (i = 4) from decI i 4]
    by_cases c4 : i = 4
    · rw [decide_eq_true c4]
      subst c4
      exact iteT (q _ (Same.refl _))
    rw [decide_eq_false c4]
    refine iteF ?_
    refine ⟨_, rfl, rfl, _, rfl, ?_⟩
    rw [show decide (V.int (i : Int) = V.int 5) = decide (i = 5) from decI i 5]
    by_cases c5 : i = 5
    · rw [decide_eq_true c5]
      subst c5
      exact iteT (q _ (Same.refl _))
    rw [decide_eq_false c5]
    refine iteF ?_
    refine ⟨_, rfl, rfl, _, rfl, ?_⟩
    rw [show decide (V.int (i : Int) = V.int 6) = decide (i = 6) from decI i 6]
    by_cases c6 : i = 6
    · rw [decide_eq_true c6]
      subst c6
      exact iteT (q _ (Same.refl _))
    rw [decide_eq_false c6]
    refine iteF ?_
    refine ⟨_, rfl, rfl, _, rfl, ?_⟩
    rw [show decide (V.int (i : Int) = V.int 7) = decide (i = 7) from decI i 7]
    by_cases c7 : i = 7
    · rw [decide_eq_true c7]
      subst c7
      exact iteT (q _ (Same.refl _))
    rw [decide_eq_false c7]
    refine iteF ?_
    refine ⟨_, rfl, rfl, _, rfl, ?_⟩
    rw [show decide (V.int (i : Int) = V.int 8) = decide (i = 8) from decI i 8]
    by_cases c8 : i = 8
    · rw [decide_eq_true c8]
      subst c8
      exact iteT (q _ (Same.refl _))
    rw [decide_eq_false c8]
    refine iteF ?_
    obtain rfl : i = 9 := by omega
    exact (q _ (Same.refl _))
abbrev nj50 : List Str := ["_law_at", "_law_row", "_law_is_base", "_law_spot", "_law_one"]
theorem sp50 : FnScope nj50 ["_law_at"] (defScope (topK 50)) := ⟨rfl, rfl, rfl, by decide +kernel, rfl, by decide +kernel, by decide +kernel⟩
theorem op50 {f : Addr} {fd : FuncData} (F : Fun K "_law_due" "_law_due" (topK 50) f fd) (B : Blt mg) : FnOk P w K mg base CX0 1 f fd ["_law_at"] spDue := by
  refine F.ok sp50 (fun vs H Q E h => ?_) (fun cdv A outer s H vs Q E hr h => ?_)
  · obtain ⟨i, rfl, _⟩ := h
    rfl
  · refine ⟨_, (pss_cons (ps_setLc (i := 1) (own := [("_law_spot", 3)]) (g := gName 3) (by rfl) sp50.nd rfl rfl (sw_true rfl rfl rfl (by decide +kernel)) (pi_range1 (by rfl) B.range (pa_cons pe_int pa_nil)) (blkOk_by (N := nj50) (sc := defScope (topK 50)) (by decide +kernel)) (fun _ _ _ _ _ => (pg_name (i := 3) sp50.nd rfl (Or.inl rfl))) (fun _ _ _ _ _ => pts_nil) (fun _ _ _ _ _ => (pe_callTy call_int1 (by rfl) B.int boot_int (pa_cons (pe_cmpR op_eq (pv 0) (pv 3) (nomark _)) pa_nil)))) (pss_cons (ps_set (i := 2) sp50.nd rfl (Or.inl rfl) (pe_callTy call_int1 (by rfl) B.int boot_int (pa_cons (pe_or (pe_cmpR op_eq (pv 0) pe_int (nomark _)) (pe_one (pe_cmpR op_gt (pv 0) pe_int (nomark _)))) pa_nil))) (pss_cons (ps_set (i := 1) sp50.nd rfl (Or.inl rfl) (pe_op op_cat (pv 1) (pe_lst (pa_cons (pv 2) (pa_cons (pv 2) (pa_cons (pe_callTy call_int1 (by rfl) B.int boot_int (pa_cons (pe_cmpR op_eq (pv 0) pe_int (nomark _)) pa_nil)) (pa_cons (pe_callTy call_int1 (by rfl) B.int boot_int (pa_cons (pe_cmpR op_eq (pv 0) pe_int (nomark _)) pa_nil)) (pa_cons (pe_callTy call_int1 (by rfl) B.int boot_int (pa_cons (pe_cmpR op_in_seq (pv 0) (pe_tup (pa_cons pe_int (pa_cons pe_int (pa_cons pe_int pa_nil)))) rfl) pa_nil)) (pa_cons (pe_callTy call_int1 (by rfl) B.int boot_int (pa_cons (pe_cmpR op_eq (pv 0) pe_int (nomark _)) pa_nil)) (pa_cons (pe_callTy call_int1 (by rfl) B.int boot_int (pa_cons (pe_cmpR op_in_seq (pv 0) (pe_tup (pa_cons pe_int (pa_cons pe_int pa_nil))) rfl) pa_nil)) pa_nil)))))))))) (pss_one (ps_ret (pe_join pe_str (pe_lc (own := [("_law_one", 4)]) (g := gName 4) (by rfl) sp50.nd (pi_list (pv 1)) (blkOk_by (N := nj50) (sc := defScope (topK 50)) (by decide +kernel)) (fun _ _ _ _ _ => (pg_name (i := 4) sp50.nd rfl (Or.inl rfl))) (fun _ _ _ _ _ => pts_nil) (fun _ _ _ _ _ => (pe_callTy call_str_int (by rfl) B.str boot_str (pa_cons (pv 4) pa_nil)))))))))), ?_⟩
    obtain ⟨i, rfl, hi, q⟩ := h
    have sl : sizeLine = 16777216 := sizeLine_eq
    refine ⟨15, rfl, by decide, by decide, fun D hD => ?_⟩
    refine lc_map (K := K) (fun _ k y => y = .int (bi (decide (i = k)))) steady_rng (fun _ _ _ _ _ h => h) (fun _ _ => True.intro) (by decide) hD (fun k H' Q' hk s' q' => ?_) fun H1 ys s1 hys py => ?_
    · refine gn_i ⟨rfl, ?_⟩
      refine ⟨_, rfl, _, rfl, rfl, .inr ⟨_, rfl, q' _ _ (Same.refl _) ?_⟩⟩
      rw [show decide (V.int (i : Int) = V.int (0 + (k : Int))) = decide (i = k) from decide_eq_decide.mpr ⟨fun e => by have := V.int.inj e; omega, fun e => by rw [e, Int.zero_add]⟩]
      rfl
    have ey : ys = (List.range 15).map fun k => V.int (bi (decide (i = k))) := by
      refine List.ext_getElem? fun j => ?_
      have lp := paired_len py
      rw [List.length_range] at lp
      by_cases c : j < 15
      · have cj : j < ys.length := by omega
        have := paired_at py (i := j) (a := j) (b := ys[j]) (by rw [List.getElem?_range (by omega)]) (List.getElem?_eq_getElem cj)
        rw [List.getElem?_eq_getElem cj, this, List.getElem?_map, List.getElem?_range c]
        rfl
      · rw [List.getElem?_eq_none (by omega), List.getElem?_eq_none (by rw [List.length_map, List.length_range]; omega)]
    refine gn_i ?_
    dsimp only
    refine cutT fun T1 eT1 => ?_
    have go1 : T1 { nx := fun x H' => Q V.non H', rt := Q } [some (.int (i : Int)), some (.ref D), some (.int (bi (decide (i = 0) || decide (5 < i)))), none, none] H1 := by
      subst eT1
      refine cutT fun T2 eT2 => ?_
      refine ⟨_, rfl, _, rfl, _, rfl, _, rfl, rfl, .inr ⟨_, rfl, _, rfl, rfl, .inr ⟨_, rfl, ?_⟩⟩⟩
      refine ⟨_, rfl, by rw [sl]; exact (by decide : (3 : Nat) ≤ 16777216), fun t1 n1 => ?_⟩
      have s2 := same_new (o := .tup [V.int 1, V.int 2, V.int 3]) n1
      refine ⟨t1, _, rfl, .inr (.inl (.inl upd_same)), rfl, rfl, .inr ⟨_, rfl, _, rfl, rfl, .inr ⟨_, rfl, ?_⟩⟩⟩
      refine ⟨_, rfl, by rw [sl]; exact (by decide : (2 : Nat) ≤ 16777216), fun t2 n2 => ?_⟩
      have s3 := same_new (o := .tup [V.int 4, V.int 5]) n2
      refine ⟨t2, _, rfl, .inr (.inl (.inl upd_same)), rfl, rfl, .inr ⟨_, rfl, by rw [sl]; exact (by decide : (7 : Nat) ≤ 16777216), fun L1 n3 => ?_⟩⟩
      have s4 := same_new (o := .lst [V.int (bi (decide (i = 0) || decide (5 < i))), V.int (bi (decide (i = 0) || decide (5 < i))), V.int (if decide (V.int (i : Int) = V.int 1) = true then 1 else 0), V.int (if decide (V.int (i : Int) = V.int 2) = true then 1 else 0), V.int (if (if false = true then !inV (.int (i : Int)) [V.int 1, V.int 2, V.int 3] else inV (.int (i : Int)) [V.int 1, V.int 2, V.int 3]) = true then 1 else 0), V.int (if decide (V.int (i : Int) = V.int 4) = true then 1 else 0), V.int (if (if false = true then !inV (.int (i : Int)) [V.int 4, V.int 5] else inV (.int (i : Int)) [V.int 4, V.int 5]) = true then 1 else 0)]) n3
      have s24 := s2.trans (s3.trans s4)
      refine ⟨D, L1, _, _, rfl, rfl, s24 _ _ hys, upd_same, by rw [ey, sl, List.length_map]; exact (by decide : (15 + 7 : Nat) ≤ 16777216), fun L2 n4 => ?_⟩
      have ez : ys ++ [V.int (bi (decide (i = 0) || decide (5 < i))), V.int (bi (decide (i = 0) || decide (5 < i))), V.int (if decide (V.int (i : Int) = V.int 1) = true then 1 else 0), V.int (if decide (V.int (i : Int) = V.int 2) = true then 1 else 0), V.int (if (if false = true then !inV (.int (i : Int)) [V.int 1, V.int 2, V.int 3] else inV (.int (i : Int)) [V.int 1, V.int 2, V.int 3]) = true then 1 else 0), V.int (if decide (V.int (i : Int) = V.int 4) = true then 1 else 0), V.int (if (if false = true then !inV (.int (i : Int)) [V.int 4, V.int 5] else inV (.int (i : Int)) [V.int 4, V.int 5]) = true then 1 else 0)] = (List.range 22).map fun j => V.int (bi (tab i j)) := by
        have dI : ∀ n : Nat, (if decide (V.int (i : Int) = V.int (n : Int)) = true then (1 : Int) else 0) = bi (decide (i = n)) := fun n => by rw [decI]; rfl
        have i3 := inV3 i hi
        have i2 := inV2 i hi
        rw [ey, show (if decide (V.int (i : Int) = V.int 1) = true then (1 : Int) else 0) = bi (decide (i = 1)) from dI 1, show (if decide (V.int (i : Int) = V.int 2) = true then (1 : Int) else 0) = bi (decide (i = 2)) from dI 2, show (if decide (V.int (i : Int) = V.int 4) = true then (1 : Int) else 0) = bi (decide (i = 4)) from dI 4]
        simp only [Bool.false_eq_true, if_false]
        rw [i3, i2]
        have e := congrArg (List.map V.int) (due_eq i hi)
        rw [List.map_append, List.map_map, List.map_map] at e
        exact e
      rw [ez]
      have s5 := same_new (o := .lst ((List.range 22).map fun j => V.int (bi (tab i j)))) n4
      have s25 := s1.trans (s24.trans s5)
      have h2 := upd_same (H := upd (upd (upd H1 t1 (.tup [V.int 1, V.int 2, V.int 3])) t2 (.tup [V.int 4, V.int 5])) L1 (.lst [V.int (bi (decide (i = 0) || decide (5 < i))), V.int (bi (decide (i = 0) || decide (5 < i))), V.int (if decide (V.int (i : Int) = V.int 1) = true then 1 else 0), V.int (if decide (V.int (i : Int) = V.int 2) = true then 1 else 0), V.int (if (if false = true then !inV (.int (i : Int)) [V.int 1, V.int 2, V.int 3] else inV (.int (i : Int)) [V.int 1, V.int 2, V.int 3]) = true then 1 else 0), V.int (if decide (V.int (i : Int) = V.int 4) = true then 1 else 0), V.int (if (if false = true then !inV (.int (i : Int)) [V.int 4, V.int 5] else inV (.int (i : Int)) [V.int 4, V.int 5]) = true then 1 else 0)])) (a := L2) (o := .lst ((List.range 22).map fun j => V.int (bi (tab i j))))
      refine gn_i ?_
      dsimp only
      subst eT2
      refine ⟨⟨_, rfl⟩, _, rfl, L2, rfl, ⟨_, .inl (.inl h2)⟩, fun D2 hD2 => ?_⟩
      refine lc_map (K := K) (fun _ k y => y = .str ((kindL i).getD k Str.empty)) (steady_list (K := K) (a := L2) (xs := (List.range 22).map fun j => V.int (bi (tab i j)))) (fun _ _ _ _ _ h => h) (fun H' s' => .inl (.inl (s' _ _ h2))) (by rw [List.length_map, List.length_range]; decide) hD2 (fun k H' Q' hk s' q' => ?_) fun HB ys2 sB hys2 py2 => ?_
      · have hk : k < 22 := by simpa using hk
        have ev : ((List.range 22).map fun j => V.int (bi (tab i j))).getD k .non = .int (bi (tab i k)) := by
          rw [List.getD_eq_getElem?_getD, List.getElem?_map, List.getElem?_range hk]; rfl
        rw [ev]
        refine gn_i ⟨rfl, ?_⟩
        refine ⟨_, rfl, _, rfl, by cases tab i k <;> decide, ?_⟩
        refine q' _ _ (Same.refl _) ?_
        have e2 : (kindL i).getD k Str.empty = dg (tab i k) := by
          unfold kindL
          rw [List.getD_eq_getElem?_getD, List.getElem?_map, List.getElem?_range hk]; rfl
        rw [e2, ← dg_str]
        rfl
      have l : (kindL i).length = 22 := by unfold kindL; rw [List.length_map, List.length_range]
      have ey2 : ys2 = (kindL i).map V.str := by
        rw [List.length_map, List.length_range, ← l] at py2
        exact paired_range (z := Str.empty) py2
      subst ey2
      refine ⟨_, D2, kindL i, rfl, rfl, .inl (.inl (.inl hys2)), ?_, q _ (s25.trans sB)⟩
      have b := sum_le (c := 1) (ys := kindL i) fun y hy => by
        obtain ⟨j, _, rfl⟩ := List.mem_map.mp hy
        exact Nat.le_of_eq (dg_len _)
      show _ + _ * 0 ≤ 16777216
      omega
    refine ⟨_, rfl, rfl, ?_⟩
    rw [show decide (V.int (i : Int) = V.int 0) = decide (i = 0) from decI i 0]
    by_cases c : i = 0
    · rw [decide_eq_true c] at go1 ⊢
      exact ⟨_, rfl, iteT (.inr ⟨_, rfl, gn_i go1⟩)⟩
    · rw [decide_eq_false c, Bool.false_or] at go1
      rw [decide_eq_false c]
      refine ⟨_, rfl, iteF ⟨_, rfl, _, _, rfl, rfl, .inr ⟨_, rfl, ?_⟩⟩⟩
      rw [show decide ((5 : Int) < (i : Int)) = decide (5 < i) from decide_eq_decide.mpr (by omega)]
      exact gn_i go1
end
end Fc
/-! try with clauses of which some name the exception; each of them returns, and one of them takes it -/
namespace Fc
open PySem PySem.Spec L2 PyProof.Rows
/-- a clause: its class, the slot of its name, what its suite does -/
abbrev Cla := Value × Option Nat × (Addr → Value → Option Addr → TS)
/-- the ends of a suite that returns -/
def onlyRt (D : Ends) : Ends := { nx := fun _ _ => False, rt := D.rt, bk := fun _ _ => False, ct := fun _ _ => False }
def inSlot (o : Option Nat) (a : Addr) (σ : L2.St) : L2.St := match o with | none => σ | some i => σ.set i (some (.ref a))
def wMix (K : PySem.W.Frag) (n : Nat) (D : Ends) : List Cla → WX
  | [] => fun _ _ _ _ => False
  | (c, o, ts) :: r => fun cls d σ H => ∃ b, PySem.W.exmOne K cls c = some b ∧ (b = true → σ.length = n → ∀ a, H a = none → ts a cls d (onlyRt D) (inSlot o a σ) H) ∧ (b = false → wMix K n D r cls d σ H)
inductive HdsM (X : Cx) : List ExceptHandler → List Cla → Prop
  | nil : HdsM X [] []
  | plain {x : Str} {c : Value} {ts : Addr → Value → Option Addr → TS} {b0 : Stmt} {su : List Stmt} {p1 p2 : Pos} {hds : List ExceptHandler} {l : List Cla} (hc : Names X x c)
      (hsu : ∀ (a : Addr) (oe : Obj) (cls : Value) (d : Option Addr) (pn : List (Addr × Obj)), Zc cls d oe → (∃ vs, oe.data = .fields vs) → PSs (X.suite a ((a, oe) :: pn)) (b0 :: su) (ts a cls d)) (r : HdsM X hds l) :
      HdsM X (.ExceptHandler (some (.Name x p1)) none (b0 :: su) p2 :: hds) ((c, none, ts) :: l)
  | named {x n : Str} {i : Nat} {c : Value} {ts : Addr → Value → Option Addr → TS} {b0 : Stmt} {su : List Stmt} {p1 p2 : Pos} {hds : List ExceptHandler} {l : List Cla} (hi : X.N[i]? = some n) (hn : X.env.kindOf n = some .local) (hc : Names X x c)
      (hsu : ∀ (a : Addr) (oe : Obj) (cls : Value) (d : Option Addr) (pn : List (Addr × Obj)), Zc cls d oe → (∃ vs, oe.data = .fields vs) → PSs (X.suite a ((a, oe) :: pn)) (b0 :: su) (ts a cls d)) (r : HdsM X hds l) :
      HdsM X (.ExceptHandler (some (.Name x p1)) (some n) (b0 :: su) p2 :: hds) ((c, some i, ts) :: l)
section
variable {X : Cx} {body : List Stmt} {h0 : ExceptHandler} {hds : List ExceptHandler} {l : List Cla} {pos : Pos} {tb : WX → TS}
theorem ps_try_mix (hs : X.stack = X.env :: X.outer) (hf : X.env.frame = some X.env.locals) (hN : X.N.Nodup)
    (hb : ∀ (W : WX) (pn : List (Addr × Obj)) (xe : Value → Shared → Prop), Takes (X.tr pn xe) W → PassesOwn (model X.prog X.w) X.A X.env xe → PSs (X.tr pn xe) body (tb W)) (hh : HdsM X (h0 :: hds) l) :
    PS X (.Try body (h0 :: hds) [] [] pos) (fun D σ H => tb (wMix X.K X.N.length D l) D σ H) := by
  refine ⟨fun pins s σ H D I h => ?_⟩
  have ok := I.ok
  have fr : X.A.frames = some (X.env :: X.outer) := by rw [ok.frames, hs]
  refine wpAny_Try_except (wpAny_mono ((hb (wMix X.K X.N.length D l) (X.pn ++ pins) (fun e s1 => wpAny (model X.prog X.w) X.A (noteFrame e X.env) (fun _ s2 => wpAny (model X.prog X.w) X.A (setFlight e none)
    (fun _ s3 => wpAny (model X.prog X.w) X.A (handleBy e X.env (h0 :: hds)) (SP X pins D) X.xe s3) X.xe s2) X.xe s1) (fun u sx xx => ?_) PassesOwn.looking).run [] s σ H D (I.toTry _) h) (fun f s1 q => ?_) fun _ _ z => z)
  · obtain ⟨a, B, sI, pins2, σ2, H2, cls, d, rfl, Jt, nb, up, sky, na, os, ag, wish⟩ := xx
    have J : Inv X pins σ2 H2 sI := Jt.ofTry ok
    have sky2 : Sky B (X.env :: X.outer) a (Zc cls d) X.env.locals sx.heap := by rw [← hs]; exact sky
    show wpAny (model X.prog X.w) X.A (noteFrame (.ref a) X.env) _ _ _
    refine Sky.land Zc.steady fr hf sky2 fun h3 fl up3 => ?_
    have U : Inv X pins σ2 H2 { sx with heap := h3 } := J.landed nb fl.1 (up.trans up3) os ag
    obtain ⟨oe, vs, he, hz, hd⟩ := fl.there
    have noF : a ∉ frs (X.env :: X.outer) := fun hm => by
      obtain ⟨_, o2, e2, hnf⟩ := fl.2.2.1.mem hm
      rw [he] at e2
      cases e2
      exact hnf _ hd
    have nL : a ≠ X.env.locals := fun z => noF (List.mem_filterMap.mpr ⟨X.env, List.mem_cons_self, by rw [hf, z]⟩)
    have nF : a ∉ X.fs := fun hm => by
      obtain ⟨e, he, q⟩ := List.mem_filterMap.mp hm
      exact noF (List.mem_filterMap.mpr ⟨e, List.mem_cons_of_mem _ he, q⟩)
    have T := U.suite he hd na nL nF
    have lt : PySem.W.Looks (model X.prog X.w) h3 (typeOf (.ref a)) cls := fun A Q E s k q => wpAny_typeOf_ref (k _ _ he) (by rw [hz.1]; exact q)
    have named : ∀ {x : Str} {c : Value} {p1 : Pos} {Q : Value → Shared → Prop} {E : Value → Shared → Prop}, Names X x c → Q c { sx with heap := h3 } → wpAny (model X.prog X.w) (X.A.mark (some (.ref a))) (eval (.Name x p1) X.env) Q E { sx with heap := h3 } := fun hc q => by
      obtain ⟨hg, hdbg, hm | ⟨hm, hv, hnn⟩⟩ := hc
      · exact ld_glob (X := X.suite a ((a, oe) :: (X.pn ++ pins))) T hg hm q hdbg
      · exact ld_blt (X := X.suite a ((a, oe) :: (X.pn ++ pins))) T hg hm hv q hnn hdbg
    have go : ∀ {hs2 : List ExceptHandler} {l2 : List Cla}, HdsM X hs2 l2 → wMix X.K X.N.length D l2 cls d σ2 H2 → wpAny (model X.prog X.w) X.A (handleBy (.ref a) X.env hs2) (SP X pins D) X.xe { sx with heap := h3 } := by
      intro hs2 l2 hk
      induction hk with
      | nil => exact fun z => z.elim
      | plain hc hsu r ih =>
        rintro ⟨b, e1, yes, no⟩
        refine wpAny_handleBy_cons (codeAny_handlers_test ?_) (by intro q; cases q)
        refine named hc ((PySem.W.exm_one (M := model X.prog X.w) U.kIn lt e1).here ?_)
        cases b with
        | false => exact ih (no rfl)
        | true =>
          refine codeAny_handlers_suite (HandSPX.lands_againZ fl fun h4 fl4 up4 => ?_)
          obtain ⟨oe4, vs4, he4, hz4, hd4⟩ := fl4.there
          have U4 : Inv X pins σ2 H2 { sx with heap := h4 } := J.landed nb fl4.1 ((up.trans up3).trans up4) os ag
          have T4 := U4.suite he4 hd4 na nL nF
          refine wpAny_mono ((hsu a oe4 cls d (X.pn ++ pins) hz4 ⟨_, hd4⟩).run [] _ _ H2 _ T4 (yes rfl J.len a na)) (fun f s6 z => ?_) fun _ _ z => False.elim z
          cases f with
          | ret u =>
            obtain ⟨v, σ6, H6, S6, r6, q6⟩ := z
            exact ⟨_, _, _, S6.unsuite ok, r6, q6⟩
          | next => obtain ⟨_, _, _, z⟩ := z; exact z.elim
          | brk => obtain ⟨_, _, _, z⟩ := z; exact z.elim
          | cont => obtain ⟨_, _, _, z⟩ := z; exact z.elim
      | named hi hn hc hsu r ih =>
        rintro ⟨b, e1, yes, no⟩
        refine wpAny_handleBy_cons (codeAny_handlers_test ?_) (by intro q; cases q)
        refine named hc ((PySem.W.exm_one (M := model X.prog X.w) U.kIn lt e1).here ?_)
        cases b with
        | false => exact ih (no rfl)
        | true =>
          refine codeAny_handlers_suite_as (HandSPX.lands_againZ fl fun h4 fl4 up4 => ?_)
          obtain ⟨oe4, vs4, he4, hz4, hd4⟩ := fl4.there
          have U4 : Inv X pins σ2 H2 { sx with heap := h4 } := J.landed nb fl4.1 ((up.trans up3).trans up4) os ag
          have T4 := U4.suite he4 hd4 na nL nF
          refine store_ok (X := X.suite a ((a, oe4) :: (X.pn ++ pins))) (v := .ref a) T4 hN hi (.inl hn) rfl (fun s5 S5 => ?_) (.inr hn)
          refine wpAny_mono ((hsu a oe4 cls d (X.pn ++ pins) hz4 ⟨_, hd4⟩).run [] s5 _ H2 _ S5 (yes rfl J.len a na)) (fun f s6 z => ?_) fun _ _ z => False.elim z
          cases f with
          | ret u =>
            obtain ⟨v, σ6, H6, S6, r6, q6⟩ := z
            exact gone_ok (S6.unsuite ok) hN hi hn fun s7 J7 => ⟨_, _, _, J7, r6, q6⟩
          | next => obtain ⟨_, _, _, z⟩ := z; exact z.elim
          | brk => obtain ⟨_, _, _, z⟩ := z; exact z.elim
          | cont => obtain ⟨_, _, _, z⟩ := z; exact z.elim
    exact go hh wish
  · cases f with
    | next =>
      obtain ⟨σ2, H2, J, z⟩ := q
      exact wpAny_execs_nil ⟨σ2, H2, J.ofTry ok, z⟩
    | brk =>
      obtain ⟨σ2, H2, J, z⟩ := q
      exact ⟨σ2, H2, J.ofTry ok, z⟩
    | cont =>
      obtain ⟨σ2, H2, J, z⟩ := q
      exact ⟨σ2, H2, J.ofTry ok, z⟩
    | ret u =>
      obtain ⟨v, σ2, H2, J, r, z⟩ := q
      exact ⟨v, σ2, H2, J.ofTry ok, r, z⟩
end
end Fc
/-! the six __init__ -/
namespace Fc
open PySem PySem.Spec L2 PyProof.Rows
section
variable {K : PySem.W.Frag} {mg : Str → Option Value} {base : Heap} {P : Program} {w : World}
theorem okI0 {f : Addr} {fd : FuncData} {e : Nat → Addr} (F : Fun K "__init__" "ParseError.__init__" (inClass (topK 14) 0) f fd) (T : OexG K (e 0) (bmE e 0) (tlE 0) (mkE 0)) (hno : PySem.W.findIn K (.ref (e 0)) (fldE 0) = some none) : FnOk P w K mg base CX0 1 f fd ["self", "index"] (spInitX (e 0) (fldE 0)) := by
  have S : FnScope ["self", "index"] ["self", "index"] (defScope (inClass (topK 14) 0)) := ⟨rfl, rfl, rfl, by decide +kernel, rfl, by decide +kernel, by decide +kernel⟩
  refine F.ok S (fun vs H Q X h => ?_) (fun cdv A outer s H vs Q X hr h => ?_)
  · obtain ⟨a, y, rfl, _⟩ := h
    rfl
  · refine ⟨_, pss_one (ps_own PySem.F.store_ValueError T hno (pv 0) (pv 1)), ?_⟩
    obtain ⟨a, y, rfl, ha, q⟩ := h
    exact ⟨_, rfl, _, rfl, a, rfl, ha, q⟩
theorem okI1 {f : Addr} {fd : FuncData} {e : Nat → Addr} (F : Fun K "__init__" "InvalidNumber.__init__" (inClass (topK 15) 0) f fd) (T : OexG K (e 1) (bmE e 1) (tlE 1) (mkE 1)) (hno : PySem.W.findIn K (.ref (e 1)) (fldE 1) = some none) : FnOk P w K mg base CX0 1 f fd ["self", "number"] (spInitX (e 1) (fldE 1)) := by
  have S : FnScope ["self", "number"] ["self", "number"] (defScope (inClass (topK 15) 0)) := ⟨rfl, rfl, rfl, by decide +kernel, rfl, by decide +kernel, by decide +kernel⟩
  refine F.ok S (fun vs H Q X h => ?_) (fun cdv A outer s H vs Q X hr h => ?_)
  · obtain ⟨a, y, rfl, _⟩ := h
    rfl
  · refine ⟨_, pss_one (ps_own PySem.F.store_IndexError T hno (pv 0) (pv 1)), ?_⟩
    obtain ⟨a, y, rfl, ha, q⟩ := h
    exact ⟨_, rfl, _, rfl, a, rfl, ha, q⟩
theorem okI2 {f : Addr} {fd : FuncData} {e : Nat → Addr} (F : Fun K "__init__" "UnknownName.__init__" (inClass (topK 16) 0) f fd) (T : OexG K (e 2) (bmE e 2) (tlE 2) (mkE 2)) (hno : PySem.W.findIn K (.ref (e 2)) (fldE 2) = some none) : FnOk P w K mg base CX0 1 f fd ["self", "name"] (spInitX (e 2) (fldE 2)) := by
  have S : FnScope ["self", "name"] ["self", "name"] (defScope (inClass (topK 16) 0)) := ⟨rfl, rfl, rfl, by decide +kernel, rfl, by decide +kernel, by decide +kernel⟩
  refine F.ok S (fun vs H Q X h => ?_) (fun cdv A outer s H vs Q X hr h => ?_)
  · obtain ⟨a, y, rfl, _⟩ := h
    rfl
  · refine ⟨_, pss_one (ps_own PySem.F.store_KeyError T hno (pv 0) (pv 1)), ?_⟩
    obtain ⟨a, y, rfl, ha, q⟩ := h
    exact ⟨_, rfl, _, rfl, a, rfl, ha, q⟩
theorem okI3 {f : Addr} {fd : FuncData} {e : Nat → Addr} (F : Fun K "__init__" "NothingToUndo.__init__" (inClass (topK 17) 0) f fd) (T : OexG K (e 3) (bmE e 3) (tlE 3) (mkE 3)) (hno : PySem.W.findIn K (.ref (e 3)) (fldE 3) = some none) : FnOk P w K mg base CX0 1 f fd ["self", "asked"] (spInitX (e 3) (fldE 3)) := by
  have S : FnScope ["self", "asked"] ["self", "asked"] (defScope (inClass (topK 17) 0)) := ⟨rfl, rfl, rfl, by decide +kernel, rfl, by decide +kernel, by decide +kernel⟩
  refine F.ok S (fun vs H Q X h => ?_) (fun cdv A outer s H vs Q X hr h => ?_)
  · obtain ⟨a, y, rfl, _⟩ := h
    rfl
  · refine ⟨_, pss_one (ps_own PySem.F.store_LookupError T hno (pv 0) (pv 1)), ?_⟩
    obtain ⟨a, y, rfl, ha, q⟩ := h
    exact ⟨_, rfl, _, rfl, a, rfl, ha, q⟩
theorem okI4 {f : Addr} {fd : FuncData} {e : Nat → Addr} (F : Fun K "__init__" "TooMany.__init__" (inClass (topK 18) 0) f fd) (T : OexG K (e 4) (bmE e 4) (tlE 4) (mkE 4)) (hno : PySem.W.findIn K (.ref (e 4)) (fldE 4) = some none) : FnOk P w K mg base CX0 1 f fd ["self", "bound"] (spInitX (e 4) (fldE 4)) := by
  have S : FnScope ["self", "bound"] ["self", "bound"] (defScope (inClass (topK 18) 0)) := ⟨rfl, rfl, rfl, by decide +kernel, rfl, by decide +kernel, by decide +kernel⟩
  refine F.ok S (fun vs H Q X h => ?_) (fun cdv A outer s H vs Q X hr h => ?_)
  · obtain ⟨a, y, rfl, _⟩ := h
    rfl
  · refine ⟨_, pss_one (ps_own PySem.F.store_OverflowError T hno (pv 0) (pv 1)), ?_⟩
    obtain ⟨a, y, rfl, ha, q⟩ := h
    exact ⟨_, rfl, _, rfl, a, rfl, ha, q⟩
theorem okI5 {f : Addr} {fd : FuncData} {e : Nat → Addr} (F : Fun K "__init__" "Refused.__init__" (inClass (topK 19) 0) f fd) (T : OexG K (e 5) (bmE e 5) (tlE 5) (mkE 5)) (hno : PySem.W.findIn K (.ref (e 5)) (fldE 5) = some none) : FnOk P w K mg base CX0 1 f fd ["self", "reason"] (spInitX (e 5) (fldE 5)) := by
  have S : FnScope ["self", "reason"] ["self", "reason"] (defScope (inClass (topK 19) 0)) := ⟨rfl, rfl, rfl, by decide +kernel, rfl, by decide +kernel, by decide +kernel⟩
  refine F.ok S (fun vs H Q X h => ?_) (fun cdv A outer s H vs Q X hr h => ?_)
  · obtain ⟨a, y, rfl, _⟩ := h
    rfl
  · refine ⟨_, pss_one (ps_own PySem.F.store_ArithmeticError T hno (pv 0) (pv 1)), ?_⟩
    obtain ⟨a, y, rfl, ha, q⟩ := h
    exact ⟨_, rfl, _, rfl, a, rfl, ha, q⟩
end
end Fc
/-! what an error keeps, as _law_raised tells it -/
namespace Fc
open PySem PySem.Spec L2 PyProof.Rows LamX
def wdE : Nat → Str
  | 0 => "parse" | 1 => "number" | 2 => "name" | 3 => "undo" | 4 => "many" | 5 => "refused" | _ => ""
/-- what it makes of the call -/
def EchR (e : Nat → Addr) (Q : VK) : XK := fun cls d H' =>
  (∃ (i : Nat) (y : V) (dd : Addr), i < 6 ∧ cls = .ref (e i) ∧ d = some dd ∧ H' dd = some (.xd [(fldE i, y)]) ∧ ∀ L, H' L = none → Q (.ref L) (upd H' L (.lst [.str (wdE i), y]))) ∨
  (∃ i : Nat, 6 ≤ i ∧ i < 16 ∧ cls = .ref (e i) ∧ ∀ L, H' L = none → Q (.ref L) (upd H' L (.lst [.str "claim"])))
def TTr (e : Nat → Addr) : (XK → Hp → VK → Prop) → Hp → VK → Prop := fun tl H Q => tl (EchR e Q) H (fun _ H' => Q .non H')
theorem tabR : ∀ i, i < 16 → 6 ≤ i → tab i 0 = false ∧ tab i 15 = true := by decide +kernel
abbrev nj53 : List Str := ["_law_call", "e"]
theorem sp53 : FnScope nj53 ["_law_call"] (defScope (topK 53)) := ⟨rfl, rfl, rfl, by decide +kernel, rfl, by decide +kernel, by decide +kernel⟩
section
variable {X : Cx} {e : Nat → Addr}
theorem gives53 (E : ErrTxt X.K X.mg e) (XF : ∀ i, i < 6 → XfC X.K (e i)) (NO : ∀ i, i < 6 → PySem.W.findIn X.K (.ref (e i)) (fldE i) = some none) {g : Addr} {cdg : Value} {q : Str} :
    GivesTo X nj53 "_law_raised" (defScope (topK 53)) g cdg (defBody (topK 53)) "_law_call" q (TTr e) := by
  intro f c' s H Q tl act hc h
  have hN : nj53.Nodup := sp53.nd
  have nm : ∀ i, i < 16 → (defScope (topK 53)).names.lookup (nmE i) = some .globalImplicit → (nmE i == ("__debug__" : Str)) = false → Names (cxOf C8.CX0 X.prog X.w X.K X.mg X.base nj53 "_law_raised" (defScope (topK 53)) g cdg X.A X.stack s H C8.E0).nox (nmE i) (.ref (e i)) := fun i hi h1 h2 => ⟨h1, h2, .inl (E.g i hi)⟩
  refine ⟨_, pss_one (ps_try_mix (X := (cxOf C8.CX0 X.prog X.w X.K X.mg X.base nj53 "_law_raised" (defScope (topK 53)) g cdg X.A X.stack s H C8.E0).nox)
      (tb := fun W D σ H => ∃ Ech : XK, (∀ cls d σ' H', Ech cls d H' → W cls d σ' H') ∧ σ[0]? = some (some (.ref f)) ∧ H c' = some (CodeO c' q) ∧ tl Ech H (fun _ H' => D.nx σ H'))
      rfl rfl hN (fun W pn xe tk _ => ?_)
      (.named (i := 1) rfl rfl (nm 0 (by decide) rfl (by decide)) (fun a oe cls d pn hz hf => pss_one (ps_ret (pe_lst (pa_cons pe_str (pa_cons (pe_xf (XF 0 (by decide)) (NO 0 (by decide)) hz hf (pv 1)) pa_nil)))))
      (.plain (nm 15 (by decide) rfl (by decide)) (fun a oe cls d pn hz hf => pss_one (ps_ret (pe_lst (pa_cons pe_str pa_nil))))
      (.named (i := 1) rfl rfl (nm 1 (by decide) rfl (by decide)) (fun a oe cls d pn hz hf => pss_one (ps_ret (pe_lst (pa_cons pe_str (pa_cons (pe_xf (XF 1 (by decide)) (NO 1 (by decide)) hz hf (pv 1)) pa_nil)))))
      (.named (i := 1) rfl rfl (nm 2 (by decide) rfl (by decide)) (fun a oe cls d pn hz hf => pss_one (ps_ret (pe_lst (pa_cons pe_str (pa_cons (pe_xf (XF 2 (by decide)) (NO 2 (by decide)) hz hf (pv 1)) pa_nil)))))
      (.named (i := 1) rfl rfl (nm 3 (by decide) rfl (by decide)) (fun a oe cls d pn hz hf => pss_one (ps_ret (pe_lst (pa_cons pe_str (pa_cons (pe_xf (XF 3 (by decide)) (NO 3 (by decide)) hz hf (pv 1)) pa_nil)))))
      (.named (i := 1) rfl rfl (nm 4 (by decide) rfl (by decide)) (fun a oe cls d pn hz hf => pss_one (ps_ret (pe_lst (pa_cons pe_str (pa_cons (pe_xf (XF 4 (by decide)) (NO 4 (by decide)) hz hf (pv 1)) pa_nil)))))
      (.named (i := 1) rfl rfl (nm 5 (by decide) rfl (by decide)) (fun a oe cls d pn hz hf => pss_one (ps_ret (pe_lst (pa_cons pe_str (pa_cons (pe_xf (XF 5 (by decide)) (NO 5 (by decide)) hz hf (pv 1)) pa_nil))))) .nil)))))))), ?_⟩
  · refine ⟨fun pins s' σ H' D I h' => ?_⟩
    obtain ⟨Ech, hW, h1, h2, h3⟩ := h'
    exact (pss_one (ps_expr (act W pn xe Ech _ _ tk hW))).run pins s' σ H' D I ⟨h1, h2, h3⟩
  · have sl : sizeLine = 16777216 := sizeLine_eq
    refine ⟨EchR e Q, fun cls d σ' H' hx => ?_, rfl, hc, h⟩
    rcases hx with ⟨i, y, dd, hi, rfl, rfl, hd, k⟩ | ⟨i, h6, hi, rfl, k⟩
    · have ex : ∀ j, j < 16 → PySem.W.exmOne X.K (.ref (e i)) (.ref (e j)) = some (tab i j) := fun j hj => exm_ref2 E (by omega) hj
      match i, hi with
      | 0, _ =>
        refine ⟨_, ex 0 (by decide), fun _ hl a ha => ?_, (fun z => absurd z (by decide))⟩
        exact ⟨_, by show (σ'.set 1 (some (.ref a)))[1]? = _; rw [List.getElem?_set_self (by rw [hl]; show 1 < 2; decide)], rfl, rfl, dd, _, y, rfl, hd, by rfl, by rw [sl]; exact (by decide : (2 : Nat) ≤ 16777216), fun L hL => k L hL⟩
      | 1, _ =>
        refine ⟨_, ex 0 (by decide), (fun z => absurd z (by decide)), fun _ => ⟨_, ex 15 (by decide), (fun z => absurd z (by decide)), fun _ => ⟨_, ex 1 (by decide), fun _ hl a ha => ?_, (fun z => absurd z (by decide))⟩⟩⟩
        exact ⟨_, by show (σ'.set 1 (some (.ref a)))[1]? = _; rw [List.getElem?_set_self (by rw [hl]; show 1 < 2; decide)], rfl, rfl, dd, _, y, rfl, hd, by rfl, by rw [sl]; exact (by decide : (2 : Nat) ≤ 16777216), fun L hL => k L hL⟩
      | 2, _ =>
        refine ⟨_, ex 0 (by decide), (fun z => absurd z (by decide)), fun _ => ⟨_, ex 15 (by decide), (fun z => absurd z (by decide)), fun _ => ⟨_, ex 1 (by decide), (fun z => absurd z (by decide)), fun _ => ⟨_, ex 2 (by decide), fun _ hl a ha => ?_, (fun z => absurd z (by decide))⟩⟩⟩⟩
        exact ⟨_, by show (σ'.set 1 (some (.ref a)))[1]? = _; rw [List.getElem?_set_self (by rw [hl]; show 1 < 2; decide)], rfl, rfl, dd, _, y, rfl, hd, by rfl, by rw [sl]; exact (by decide : (2 : Nat) ≤ 16777216), fun L hL => k L hL⟩
      | 3, _ =>
        refine ⟨_, ex 0 (by decide), (fun z => absurd z (by decide)), fun _ => ⟨_, ex 15 (by decide), (fun z => absurd z (by decide)), fun _ => ⟨_, ex 1 (by decide), (fun z => absurd z (by decide)), fun _ => ⟨_, ex 2 (by decide), (fun z => absurd z (by decide)), fun _ => ⟨_, ex 3 (by decide), fun _ hl a ha => ?_, (fun z => absurd z (by decide))⟩⟩⟩⟩⟩
        exact ⟨_, by show (σ'.set 1 (some (.ref a)))[1]? = _; rw [List.getElem?_set_self (by rw [hl]; show 1 < 2; decide)], rfl, rfl, dd, _, y, rfl, hd, by rfl, by rw [sl]; exact (by decide : (2 : Nat) ≤ 16777216), fun L hL => k L hL⟩
      | 4, _ =>
        refine ⟨_, ex 0 (by decide), (fun z => absurd z (by decide)), fun _ => ⟨_, ex 15 (by decide), (fun z => absurd z (by decide)), fun _ => ⟨_, ex 1 (by decide), (fun z => absurd z (by decide)), fun _ => ⟨_, ex 2 (by decide), (fun z => absurd z (by decide)), fun _ => ⟨_, ex 3 (by decide), (fun z => absurd z (by decide)), fun _ => ⟨_, ex 4 (by decide), fun _ hl a ha => ?_, (fun z => absurd z (by decide))⟩⟩⟩⟩⟩⟩
        exact ⟨_, by show (σ'.set 1 (some (.ref a)))[1]? = _; rw [List.getElem?_set_self (by rw [hl]; show 1 < 2; decide)], rfl, rfl, dd, _, y, rfl, hd, by rfl, by rw [sl]; exact (by decide : (2 : Nat) ≤ 16777216), fun L hL => k L hL⟩
      | 5, _ =>
        refine ⟨_, ex 0 (by decide), (fun z => absurd z (by decide)), fun _ => ⟨_, ex 15 (by decide), (fun z => absurd z (by decide)), fun _ => ⟨_, ex 1 (by decide), (fun z => absurd z (by decide)), fun _ => ⟨_, ex 2 (by decide), (fun z => absurd z (by decide)), fun _ => ⟨_, ex 3 (by decide), (fun z => absurd z (by decide)), fun _ => ⟨_, ex 4 (by decide), (fun z => absurd z (by decide)), fun _ => ⟨_, ex 5 (by decide), fun _ hl a ha => ?_, (fun z => absurd z (by decide))⟩⟩⟩⟩⟩⟩⟩
        exact ⟨_, by show (σ'.set 1 (some (.ref a)))[1]? = _; rw [List.getElem?_set_self (by rw [hl]; show 1 < 2; decide)], rfl, rfl, dd, _, y, rfl, hd, by rfl, by rw [sl]; exact (by decide : (2 : Nat) ≤ 16777216), fun L hL => k L hL⟩
      | n + 6, h => exact absurd h (by omega)
    · have ex : ∀ j, j < 16 → PySem.W.exmOne X.K (.ref (e i)) (.ref (e j)) = some (tab i j) := fun j hj => exm_ref2 E hi hj
      obtain ⟨t0, t15⟩ := tabR i hi h6
      refine ⟨_, ex 0 (by decide), fun z => absurd z (by rw [t0]; decide), fun _ => ⟨_, ex 15 (by decide), fun _ hl a ha => ?_, fun z => absurd z (by rw [t15]; decide)⟩⟩
      exact ⟨by rw [sl]; exact (by decide : (1 : Nat) ≤ 16777216), fun L hL => k L hL⟩
end
end Fc
/-! a lambda handed to _law_raised; calls that raise -/
namespace Fc
open PySem PySem.Spec L2 PyProof.Rows LamX
/-- a call whose exceptions are those that are wished -/
def tCalE (sp : Sp) (t : TA) (E : XK) : TE := fun σ H Q => t σ H fun vs H1 => sp vs H1 Q E
theorem pe_cE {X : Cx} {k j : Nat} {x : Str} {sp : Sp} {p pos : Pos} {e : Expr} {es : List Expr} {t : TA} {E : XK} (c : CalX X.prog X.w X.K X.mg X.base k x sp) (hr : Room j X.A) (hk : k ≤ j) (hg : Gl X x) (tk : Takes X (fun cls d _ H => E cls d H)) (ha : PA X (e :: es) t) (hdb : (x == ("__debug__" : Str)) = false := by decide)
    (he : starEach (e :: es) X.env = (false, eval e X.env) :: starEach es X.env := by rfl) (hpl : (backTo pos (starEach es X.env)).any (·.1) = false := by rfl) : PE X (.Call (.Name x p) (e :: es) [] pos) (tCalE sp t E) := by
  obtain ⟨f, fd, ps, F, hm, kp, b⟩ := c.at_
  have q := pe_call (p := p) (pos := pos) (E := E) F (hr.mono hk) hg hm kp b .nil (passes_call tk fun _ _ _ _ h => h) ha hdb he hpl
  refine ⟨fun pins s σ H Q I h => q.run pins s σ H Q I ?_⟩
  have e : tCall sp [] E t = tCalE sp t E := by funext σ H Q; unfold tCall tCalE; simp only [List.append_nil]
  rw [e]
  exact h
abbrev aL0 : Arguments := { posonlyargs := [], args := [], vararg := none, kwonlyargs := [], kw_defaults := [], kwarg := none, defaults := [] }
/-- the name that the lambdas of _law_errors_right bear -/
def qL : Str := (envOfC "_law_errors_right" (defScope (topK 54)) 0 0 .none).qual ++ "<lambda>"
section
variable {X : Cx} {e : Nat → Addr}
theorem pe_told {c P g : Addr} {fdR : FuncData} {k : Nat} {body : Expr} {scope : Scope} {t : XK → TE} {p lpos pos : Pos} (E : ErrTxt X.K X.mg e) (XF : ∀ i, i < 6 → XfC X.K (e i)) (NO : ∀ i, i < 6 → PySem.W.findIn X.K (.ref (e i)) (fldE i) = some none)
    (FR : Fun X.K "_law_raised" "_law_raised" (topK 53) g fdR) (hm : X.mg "_law_raised" = some (.ref g)) (hb : L2.Binds X.K fdR ["_law_call"] []) (hg : Gl X "_law_raised")
    (TB : TabB X.base X.mg c P) (hcode : X.env.code = .ref c) (hq : X.env.qual ++ "<lambda>" = qL) (hr : Room (k + 2) X.A) (L : LamS X.env.scope scope)
    (hbody : ∀ (A : Around) (outer : List Env) (s : Shared) (H : Hp) (E : XK) (f c' : Addr), Room k (A.deeper (lamEnv X scope s.heap.objs.size f c')) → PE (lamCx X A outer s H E scope f c') body (t E)) :
    PE X (.Call (.Name "_law_raised" p) [.Lambda aL0 body scope lpos] [] pos) (tLam [(P, qL)] (TTr e) t) := by
  obtain ⟨oc, od, kV, doc, pm, an, cdv, ct, osl, ef, lk, hcd⟩ := FR.ex
  subst ef
  exact pe_lamcall (T := [(P, qL)]) (TT := TTr e) (c := c) (P := P) (k := k) (t := t) hg hm FR.kp lk hcd hb sp53 rfl (.inl rfl) (gives53 E XF NO) TB hcode (by rw [hq]; exact List.mem_singleton.mpr rfl) (fun p hp _ => by rw [hq, List.mem_singleton.mp hp]) hr L rfl (fun _ _ _ _ _ => rfl) hbody
end
end Fc
/-! errors made, caught and told -/
namespace Fc
open PySem PySem.Spec L2 PyProof.Rows LamX
/-- all but the skein's two lists and the tables stay -/
def ButT (S G : Addr) (H H' : Hp) : Prop := ∀ b o, b ≠ S → b ≠ G → (∀ ps, o ≠ .tbl ps) → H b = some o → H' b = some o
theorem ButT.trans {S G : Addr} {H H1 H2 : Hp} (a : ButT S G H H1) (b : ButT S G H1 H2) : ButT S G H H2 := fun x o p q n h => b x o p q n (a x o p q n h)
theorem ButT.but {S G : Addr} {H H' : Hp} (b : ButSG S G H H') : ButT S G H H' := fun x o p q _ h => b x o p q h
theorem ButT.ext {S G : Addr} {H H' : Hp} (x : ExtN H H') : ButT S G H H' := fun b o _ _ n h => x b o h n
theorem Tabs.but {T : List (Addr × Str)} {S G : Addr} {n : Int} {H H' : Hp} (t : Tabs T H) (b : ButSG S G H H') (k : SkAt H S G n) : Tabs T H' := fun p hp => by
  obtain ⟨ps, h1, h2, h3⟩ := t p hp
  refine ⟨ps, but_get b k h1 (fun l z => by cases z), h2, fun pos cv hc => ?_⟩
  obtain ⟨c, e1, e2⟩ := h3 pos cv hc
  exact ⟨c, e1, but_get b k e2 (fun l z => by unfold CodeO at z; cases z)⟩
theorem SkAt.ext {S G : Addr} {H H' : Hp} {n : Int} (k : SkAt H S G n) (s : ExtN H H') : SkAt H' S G n := by
  obtain ⟨ne, gs, m, c, h1, h2, h3⟩ := k
  exact ⟨ne, gs, m, c, s _ _ h1 (fun _ z => by cases z), s _ _ h2 (fun _ z => by cases z), h3⟩
theorem Keep.ext {K : PySem.W.Frag} {w : World} {ok : Addr → Prop} {H H' : Hp} (s : ExtN H H') : Keep K w ok H H' := by
  refine ⟨.of fun b ys r => ?_, fun a xs _ e => s _ _ e (fun _ z => by cases z), fun a e => s _ _ e (fun _ z => by unfold MD at z; cases z)⟩
  exact r.elim (fun z => .inl (s _ _ z (fun _ z => by cases z))) fun ⟨o, z⟩ => .inr ⟨o, s _ _ z (fun _ z => by cases z)⟩
theorem Tabs.fill {T : List (Addr × Str)} {D : Addr} {xs : List V} {o : HO} {H : Hp} (t : Tabs T H) (h : H D = some (.lst xs)) : Tabs T (upd H D o) := fun p hp => by
  obtain ⟨ps, h1, h2, h3⟩ := t p hp
  refine ⟨ps, by rw [upd_ne (fun z => by rw [z, h] at h1; cases h1)]; exact h1, h2, fun pos cv hc => ?_⟩
  obtain ⟨c, e1, e2⟩ := h3 pos cv hc
  exact ⟨c, e1, by rw [upd_ne (fun z => by rw [z, h] at e2; unfold CodeO at e2; cases e2)]; exact e2⟩
theorem Keep.fillD {K : PySem.W.Frag} {w : World} {D : Addr} {xs ys : List V} {H : Hp} (h : H D = some (.lst xs)) : Keep K w (fun a => a ≠ D) H (upd H D (.lst ys)) := by
  refine ⟨Tups.upd fun u e => by rw [h] at e; cases e; exact True.intro, fun a zs o e => by rw [upd_ne o]; exact e, fun a e => ?_⟩
  rw [upd_ne (fun z => by rw [z, h] at e; unfold MD at e; cases e)]
  exact e
theorem rows_step {K : PySem.W.Frag} {w : World} {T : List (Addr × Str)} {J1 J J' : Hp} {D : Addr} {k : Nat} {rows : List V} {F : Nat → PyData} {y : V} (hD : J1 D = none) (xJ : ExtN J1 J) (hr : J D = some (.lst rows)) (lr : rows.length = k) (hk : k < 100)
    (dr : DzAll K w (fun a => a ≠ D) J rows ((List.range k).map F)) (x' : ExtN J J') (t' : Tabs T J') (dy : Dz K w (fun a => a ≠ D) J' y (F k)) :
    ∃ acc, J' D = some (.lst acc) ∧ acc.length < sizeLine ∧ ExtN J1 (upd J' D (.lst (acc ++ [y]))) ∧ Tabs T (upd J' D (.lst (acc ++ [y]))) ∧ ∃ rows, upd J' D (.lst (acc ++ [y])) D = some (.lst rows) ∧ rows.length = k + 1 ∧ DzAll K w (fun a => a ≠ D) (upd J' D (.lst (acc ++ [y]))) rows ((List.range (k + 1)).map F) := by
  have h' : J' D = some (.lst rows) := x' _ _ hr (fun _ z => by cases z)
  have kf : Keep K w (fun a => a ≠ D) J' (upd J' D (.lst (rows ++ [y]))) := Keep.fillD h'
  refine ⟨rows, h', by rw [sizeLine_eq]; omega, fun b o e n => by rw [upd_ne (ne_of_none e hD)]; exact x' _ _ (xJ _ _ e n) n, Tabs.fill t' h', _, upd_same, by rw [List.length_append, lr]; rfl, ?_⟩
  rw [List.range_succ, List.map_append]
  exact dzs_app (dzs_mono kf _ _ (dzs_mono (Keep.ext x') _ _ dr)) (.cons (dz_mono kf _ _ dy) .nil)
theorem paired_fn {F : Nat → V} {l : List Nat} {ys : List V} (p : Paired (fun k y => y = F k) l ys) : ys = l.map F := by
  induction p with
  | nil => rfl
  | cons h _ ih => rw [List.map_cons, h, ih]
theorem dps_fn {K : PySem.W.Frag} {H : Hp} {F : Nat → Str} : ∀ l : List Nat, DpAll K H (l.map fun k => V.str (F k)) (l.map fun k => PyData.str (F k))
  | [] => .nil
  | _ :: l => .cons (.str _) (dps_fn l)
section
variable {K : PySem.W.Frag} {mg : Str → Option Value} {base : Heap} {P : Program} {w : World}
theorem okGC {x qual : Str} {st : Stmt} {f : Addr} {oc kV doc pm cdv ct : Value} {od an : Option Addr} {osl : Array (Option Value)} {N ps : List Str} {k : Nat} {sp : Sp} (lk : K.lookup f = some ⟨oc, od, .func (PySem.W.fnOf x qual (defArgs st) (defBody st) (defScope st) .none kV doc pm an cdv ct), osl⟩) (hcd : PySem.W.codeIn K cdv qual = true)
    (S : FnScope N ps (defScope st)) (len : ∀ vs H Q E, sp vs H Q E → vs.length = ps.length)
    (body : ∀ (A : Around) (outer : List Env) (s : Shared) (H : Hp) (vs : List V) (Q : VK) (E : XK), A.guards = some [] → Room k (A.deeper (envOfC qual (defScope st) s.heap.objs.size f cdv)) → sp vs H Q E →
      ∃ t, PSs (cxOf CX0 P w K mg base N qual (defScope st) f cdv A outer s H E).nox (defBody st) t ∧ t { nx := fun _ H' => Q .non H', rt := Q } (start N vs) H) : FnG P w K mg base (k + 1) f (PySem.W.fnOf x qual (defArgs st) (defBody st) (defScope st) .none kV doc pm an cdv ct) ps sp := by
  refine ⟨len, fun A outer s H args us vs Q E hgd hr e0 hb r hsp => ?_⟩
  have old : ∀ b o, base.get? b = some o → s.heap.get? b = some o := fun b o e => (e0.bs b o e).1
  have KX : K.In s.heap := e0.mod.kin.keeps old
  have par : ∀ y ∈ ps.zip us, (defScope st).names.lookup y.1 = some .local ∨ ((defScope st).names.lookup y.1 = some .cell ∧ ((cellsFrom (s.heap.objs.size + 1) (defScope st).names []).lookup y.1).isSome = true) := fun y hy =>
    (S.par y.1 (List.of_mem_zip (a := y.1) (b := y.2) hy).1).imp id fun q => ⟨q, PySem.W.cellsFrom_some _ _ _ (.inl q)⟩
  refine codeAny_call_function hr.depth (KX _ _ lk) rfl S.co S.gen rfl (PySem.W.codeRec_of KX hcd) (hb _ _ _ _ (wpAny_newFunctionEnv_cells S.kind par fun env he s1 z => ?_))
  subst he
  refine ⟨(e0.mod.nolimit.keeps old).keeps z.toInCall.keep, codeAny_func ?_⟩
  obtain ⟨t, ht, hq⟩ := body A outer s H vs Q E hgd (hr.deeper _) hsp
  have I := inv_start (CX := CX0) (E := E) (cd := cdv) S hr.hd e0 (len _ _ _ _ hsp) r z
  refine wpAny_mono (ht.nox.run [] s1 (start N vs) H _ I hq) (fun fl s' hs => ?_) fun e s' hs => hs
  cases fl with
  | ret u => obtain ⟨v, σ', H', J, rv, q⟩ := hs; exact ⟨v, H', J.os, J.bare, J.base, J.hok, rv, q⟩
  | next => obtain ⟨σ', H', J, q⟩ := hs; exact ⟨.non, H', J.os, J.bare, J.base, J.hok, rfl, q⟩
  | brk => obtain ⟨_, _, _, q⟩ := hs; exact q.elim
  | cont => obtain ⟨_, _, _, q⟩ := hs; exact q.elim
end
theorem ints_fit : ∀ k : Nat, k < 99 → PyData.showable (.int (k : Int)) = true ∧ PyData.leavesShort 100 (.int (k : Int)) = true ∧ smD (.int (k : Int)) = true ∧ ffD (.int (k : Int)) = true ∧ PyData.weight (.int (k : Int)) ≤ 200 ∧ PyData.depth (.int (k : Int)) ≤ 3 := by decide +kernel
def kindsD : List PyData := (List.range 16).map fun k => .str (kindT k)
theorem kinds_pl : plD (.list kindsD) := ⟨by decide +kernel, by decide +kernel⟩
theorem kinds_eq : PyData.eqv (.list kindsD) (.list kindsD) = true := by decide +kernel
theorem wd_fit : ∀ i, i < 6 → (wdE i).length ≤ 8 ∧ (wdE i).cps.toList.all (fun c => decide (c < 16 ^ 8)) = true ∧ oddS (wdE i) = true := by decide +kernel
theorem fit_told {dv : PyData} (ft : Fit 200 3 dv) : Fit 7000 6 (.list (((List.range 6).map fun i => PyData.list [.str (wdE i), dv]) ++ (List.range 10).map fun _ => .list [.str "claim"])) := by
  refine (fit_lst (n := 16) (W := 402) (D := 4) (fun d hd => ?_) (by simp)).le (by decide) (by decide)
  rcases List.mem_append.mp hd with h | h
  · obtain ⟨i, hi, rfl⟩ := List.mem_map.mp h
    obtain ⟨w1, w2, w3⟩ := wd_fit i (List.mem_range.mp hi)
    refine (fit_lst (n := 2) (W := 200) (D := 3) (fun d hd => ?_) (by simp)).le (by decide) (by decide)
    rcases List.mem_cons.mp hd with rfl | hd
    · exact (fit_str w1 (by decide) w2 w3).le (by decide) (by decide)
    · rw [List.mem_singleton.mp hd]; exact ft
  · obtain ⟨i, hi, rfl⟩ := List.mem_map.mp h
    refine (fit_lst (n := 1) (W := 8) (D := 0) (fun d hd => ?_) (by simp)).le (by decide) (by decide)
    rw [List.mem_singleton.mp hd]
    exact fit_str (by decide) (by decide) (by decide +kernel) (by decide +kernel)
def spErrR (P : Addr) : Sp := fun vs H Q _ => ∃ (S G : Addr) (n : Int), vs = [.ref S] ∧ SkAt H S G n ∧ n + 1000 < 2 ^ 60 ∧ Tabs [(P, qL)] H ∧ ∀ H', ButT S G H H' → SkAt H' S G (n + 2) → Tabs [(P, qL)] H' → Q (.bl true) H'
section
variable {K : PySem.W.Frag} {mg : Str → Option Value} {base : Heap} {P : Program} {w : World}
abbrev nj54 : List Str := ["_law_skein_here", "_law_made_here", "_law_told", "_law_due_here", "_law_value", "_law_error", "_law_at", "_law_word"]
theorem sp54 : FnScope nj54 ["_law_skein_here"] (defScope (topK 54)) := ⟨rfl, rfl, rfl, by decide +kernel, rfl, by decide +kernel, by decide +kernel⟩
abbrev scA : Scope := { kind := .function, names := [(".0", .local), ("_law_at", .cell), ("_law_raised", .globalImplicit), ("_law_value", .cell)], isGenerator := false, isCoroutine := false, more := [] }
abbrev scB : Scope := { kind := .function, names := [(".0", .local), ("_law_at", .cell), ("_law_raised", .globalImplicit)], isGenerator := false, isCoroutine := false, more := [] }
theorem op54 {f c54 PT gR : Addr} {fdR : FuncData} {oc kV doc pm ct : Value} {od an : Option Addr} {osl : Array (Option Value)} {e : Nat → Addr} (lk : K.lookup f = some ⟨oc, od, .func (PySem.W.fnOf "_law_errors_right" "_law_errors_right" (defArgs (topK 54)) (defBody (topK 54)) (defScope (topK 54)) .none kV doc pm an (.ref c54) ct), osl⟩) (hcd : PySem.W.codeIn K (.ref c54) "_law_errors_right" = true) (B : Blt mg)
    (TB : TabB base mg c54 PT) (E : ErrTxt K mg e) (XF : ∀ i, i < 6 → XfC K (e i)) (NO : ∀ i, i < 6 → PySem.W.findIn K (.ref (e i)) (fldE i) = some none)
    (FR : Fun K "_law_raised" "_law_raised" (topK 53) gR fdR) (hmR : mg "_law_raised" = some (.ref gR)) (hbR : L2.Binds K fdR ["_law_call"] [])
    (c34 : Cal P w K mg base 1 "_law_pull" (spPull K)) (c35 : Cal P w K mg base 2 "_law_one_of" (spOne K)) (c48 : Cal P w K mg base 3 "_law_made" (spMade16 e)) (c49 : Cal P w K mg base 1 "_law_kinds" (spKindsX e)) (c50 : Cal P w K mg base 1 "_law_due" spDue)
    (c51 : CalX P w K mg base 3 "_law_keeping" (spKeep e)) (c52 : CalX P w K mg base 1 "_law_plain" (spPlain e)) : FnG P w K mg base 6 f (PySem.W.fnOf "_law_errors_right" "_law_errors_right" (defArgs (topK 54)) (defBody (topK 54)) (defScope (topK 54)) .none kV doc pm an (.ref c54) ct) ["_law_skein_here"] (spErrR PT) := by
  refine okGC lk hcd sp54 (fun vs H Q X h => ?_) (fun A outer s H vs Q X hgd hr h => ?_)
  · obtain ⟨S, G, n, rfl, _⟩ := h
    rfl
  · have hu := hu70 hr
    refine ⟨_, (pss_cons (ps_set (i := 4) sp54.nd rfl (Or.inr rfl) (pe_c c35 hr (by decide) (by rfl) (pa_cons (pv 0) (pa_cons (pe_lst (pa_cons pe_non (pa_cons pe_int (pa_cons pe_bl (pa_cons pe_str (pa_cons (pe_tup (pa_cons pe_str (pa_cons (pe_tup (pa_cons pe_int pa_nil)) pa_nil))) (pa_cons (pe_lst (pa_cons pe_int (pa_cons pe_int pa_nil))) (pa_cons pe_dnewM (pa_cons (pe_un un_neg pe_int) (pa_cons (pe_op op_pow pe_int pe_int) (pa_cons (pe_c c34 hr (by decide) (by rfl) (pa_cons (pv 0) (pa_cons pe_int pa_nil))) pa_nil))))))))))) pa_nil)))) (pss_cons (ps_set (i := 1) sp54.nd rfl (Or.inl rfl) (pe_c c48 hr (by decide) (by rfl) (pa_cons (pv 4) pa_nil))) (pss_cons (ps_if (pt_cmpR (op_neP (hu64 hu)) (pe_lc (own := [("_law_error", 5)]) (g := gName 5) (by rfl) sp54.nd (pi_list (pv 1)) (blkOk_by (N := nj54) (sc := defScope (topK 54)) (by decide +kernel)) (fun _ _ _ _ _ => (pg_name (i := 5) sp54.nd rfl (Or.inl rfl))) (fun _ _ _ _ _ => pts_nil) (fun _ _ _ _ _ => (pe_c c49 hr (by decide) (by rfl) (pa_cons (pv 5) pa_nil)))) (pe_lc (own := [("_law_at", 6)]) (g := gName 6) (by rfl) sp54.nd (pi_range1 (by rfl) B.range (pa_cons pe_int pa_nil)) (blkOk_by (N := nj54) (sc := defScope (topK 54)) (by decide +kernel)) (fun _ _ _ _ _ => (pg_name (i := 6) sp54.nd rfl (Or.inl rfl))) (fun _ _ _ _ _ => pts_nil) (fun _ _ _ _ _ => (pe_c c50 hr (by decide) (by rfl) (pa_cons (pv 6) pa_nil)))) (nomark _)) (pss_one (ps_ret pe_bl)) pss_nil) (pss_cons (ps_setLc (i := 2) (own := [("_law_at", 6)]) (g := gName 6) (by rfl) sp54.nd rfl rfl (sw_true rfl rfl rfl (by decide +kernel)) (pi_range1 (by rfl) B.range (pa_cons pe_int pa_nil)) (blkOk_by (N := nj54) (sc := defScope (topK 54)) (by decide +kernel)) (fun _ _ _ _ _ => (pg_name (i := 6) sp54.nd rfl (Or.inr rfl))) (fun _ _ _ _ _ => pts_nil) (fun _ _ _ _ _ => (pe_told (k := 3) E XF NO FR hmR hbR (by rfl) TB rfl rfl (hr.mono (by decide)) (show LamS scA { kind := .function, names := [("_law_at", .free), ("_law_value", .free), ("_law_keeping", .globalImplicit)], isGenerator := false, isCoroutine := false, more := [] } from lamS_by (by decide +kernel)) (fun A outer s H Ech f c hr2 => pe_cE c51 hr2 (by decide) (by rfl) (takes_of rfl rfl rfl rfl) (pa_cons (pv 6) (pa_cons (pv 4) pa_nil)))))) (pss_cons (ps_set (i := 2) sp54.nd rfl (Or.inl rfl) (pe_op op_cat (pv 2) (pe_lc (own := [("_law_at", 6)]) (g := gName 6) (by rfl) sp54.nd (pi_range1 (by rfl) B.range (pa_cons pe_int pa_nil)) (blkOk_by (N := nj54) (sc := defScope (topK 54)) (by decide +kernel)) (fun _ _ _ _ _ => (pg_name (i := 6) sp54.nd rfl (Or.inr rfl))) (fun _ _ _ _ _ => pts_nil) (fun _ _ _ _ _ => (pe_told (k := 3) E XF NO FR hmR hbR (by rfl) TB rfl rfl (hr.mono (by decide)) (show LamS scB { kind := .function, names := [("_law_at", .free), ("_law_plain", .globalImplicit)], isGenerator := false, isCoroutine := false, more := [] } from lamS_by (by decide +kernel)) (fun A outer s H Ech f c hr2 => pe_cE c52 hr2 (by decide) (by rfl) (takes_of rfl rfl rfl rfl) (pa_cons (pv 6) pa_nil))))))) (pss_cons (ps_set (i := 3) sp54.nd rfl (Or.inl rfl) (pe_op op_cat (pe_lc (own := [("_law_word", 7)]) (g := gName 7) (by rfl) sp54.nd (pi_tup (pe_tup (pa_cons pe_str (pa_cons pe_str (pa_cons pe_str (pa_cons pe_str (pa_cons pe_str (pa_cons pe_str pa_nil)))))))) (blkOk_by (N := nj54) (sc := defScope (topK 54)) (by decide +kernel)) (fun _ _ _ _ _ => (pg_name (i := 7) sp54.nd rfl (Or.inl rfl))) (fun _ _ _ _ _ => pts_nil) (fun _ _ _ _ _ => (pe_lst (pa_cons (pv 7) (pa_cons (pv 4) pa_nil))))) (pe_op op_rep (pe_lst (pa_cons (pe_lst (pa_cons pe_str pa_nil)) pa_nil)) pe_int))) (pss_one (ps_ret (pe_cmpR op_eq (pe_callB (r := rRepZ K w) (call_reprZ hgd (hu65 hu)) (by rfl) B.repr boot_repr (pa_cons (pv 2) pa_nil)) (pe_callB (r := rRepZ K w) (call_reprZ hgd (hu65 hu)) (by rfl) B.repr boot_repr (pa_cons (pv 3) pa_nil)) (nomark _)))))))))), ?_⟩
    obtain ⟨S, G, n, rfl, hS, hn, hT, q⟩ := h
    have sl : sizeLine = 16777216 := sizeLine_eq
    refine cutT fun T1 eT1 => ?_
    have go1 : ∀ (H1 : Hp) (v : V) (dv : PyData) (l1 : Addr), ButSG S G H H1 → SkAt H1 S G (n + 2) → (∃ xs, H1 l1 = some (.lst xs)) → Dz K w (fun a => a = l1) H1 v dv → Fit 200 3 dv → T1 { nx := fun x H' => Q V.non H', rt := Q } [some (.ref S), none, none, none, some v, none, none, none] H1 := by
      intro H1 v dv l1 b1 k1 ⟨ol, h1⟩ dz ft
      subst eT1
      refine cutT fun T2 eT2 => ?_
      refine ⟨_, rfl, v, rfl, fun H2 L es s2 hL len hes => ?_⟩
      refine gn_i ?_
      dsimp only
      subst eT2
      refine cutT fun T3 eT3 => ?_
      refine ⟨_, rfl, L, rfl, ⟨_, .inl (.inl hL)⟩, fun D hD => ?_⟩
      refine lc_map (K := K) (fun _ k y => y = .str (kindT k)) (steady_list (K := K) (a := L) (xs := es)) (fun _ _ _ _ _ h => h) (fun H9 s9 => .inl (.inl (s9 _ _ hL))) (by rw [len]; decide) hD (fun k H' Q' hk s' q' => ?_) fun H3 ys s3 hys py => ?_
      · rw [len] at hk
        obtain ⟨a, ea, xa⟩ := hes k hk
        refine gn_i ⟨rfl, ?_⟩
        exact ⟨_, rfl, a, k, congrArg (fun z => [z]) ea, hk, xa.same s', fun H9 s9 => q' _ _ s9 rfl⟩
      refine ⟨16, rfl, by decide, by decide, fun D2 hD2 => ?_⟩
      refine lc_map (K := K) (fun _ k y => y = .str (kindT k)) steady_rng (fun _ _ _ _ _ h => h) (fun _ _ => True.intro) (by decide) hD2 (fun k H' Q' hk s' q' => ?_) fun H4 zs s4 hzs pz => ?_
      · refine gn_i ⟨rfl, ?_⟩
        exact ⟨_, rfl, k, by rw [Int.zero_add], hk, fun H9 s9 => q' _ _ s9 rfl⟩
      rw [len] at py
      have ey := paired_fn py
      have ez := paired_fn pz
      subst ey ez
      refine ⟨.list kindsD, .list kindsD, .lst (.inl (.inl (s4 _ _ hys))) (dps_fn _), .lst (.inl (.inl hzs)) (dps_fn _), kinds_pl, kinds_pl, ?_⟩
      rw [kinds_eq]
      refine ⟨_, rfl, iteF ?_⟩
      have b4 := (b1.trans (ButSG.same s2)).trans (ButSG.same (s3.trans s4))
      have k4 := k1.same (s2.trans (s3.trans s4))
      have dz4 := dz_mono (Keep.same (s2.trans (s3.trans s4))) _ _ dz
      have hT4 := Tabs.but hT b4 hS
      have h4 := s4 _ _ (s3 _ _ (s2 _ _ h1))
      clear hzs hys pz py hD hD2
      suffices goA : T3 { nx := fun x H' => Q V.non H', rt := Q } [some (.ref S), some (.ref L), none, none, some v, none, none, none] H4 from goA
      generalize H4 = J1 at *
      subst eT3
      refine cutT fun T4 eT4 => ?_
      refine ⟨6, rfl, by decide, by decide, fun D hD => ?_⟩
      have go2 : ∀ (J2 : Hp) (rows : List V), ExtN J1 J2 → Tabs [(PT, qL)] J2 → J2 D = some (.lst rows) → rows.length = 6 → DzAll K w (fun a => a ≠ D) J2 rows ((List.range 6).map fun i => .list [.str (wdE i), dv]) → T4 { nx := fun x H' => Q V.non H', rt := Q } [some (.ref S), some (.ref L), some (.ref D), none, some v, none, none, none] J2 := by
        intro J2 rows x2 t2 h2 l2 d2
        subst eT4
        refine cutT fun T5 eT5 => ?_
        have go3 : ∀ (J4 : Hp) (M : Addr) (rws : List V), ExtN J1 J4 → Tabs [(PT, qL)] J4 → J4 M = some (.lst rws) → DzAll K w (fun _ => True) J4 rws (((List.range 6).map fun i => .list [.str (wdE i), dv]) ++ (List.range 10).map fun _ => .list [.str "claim"]) → T5 { nx := fun x H' => Q V.non H', rt := Q } [some (.ref S), some (.ref L), some (.ref M), none, some v, none, none, none] J4 := by
          intro J4 M rws x4 t4 hM d4
          subst eT5
          refine cutT fun T6 eT6 => ?_
          have dz5 : Dz K w (fun a => a = l1) J4 v dv := dz_mono (Keep.ext x4) _ _ dz4
          have go4 : ∀ (J5 : Hp) (M2 : Addr) (rws2 : List V), ExtN J4 J5 → Tabs [(PT, qL)] J5 → J5 M2 = some (.lst rws2) → DzAll K w (fun _ => True) J5 rws2 (((List.range 6).map fun i => .list [.str (wdE i), dv]) ++ (List.range 10).map fun _ => .list [.str "claim"]) → T6 { nx := fun x H' => Q V.non H', rt := Q } [some (.ref S), some (.ref L), some (.ref M), some (.ref M2), some v, none, none, none] J5 := by
            intro J5 M2 rws2 s5 t5 hM2 d5
            subst eT6
            have fR : Fit 7000 6 (.list (((List.range 6).map fun i => PyData.list [.str (wdE i), dv]) ++ (List.range 10).map fun _ => .list [.str "claim"])) := fit_told ft
            refine ⟨_, rfl, _, _, _, rfl, .lst (s5 _ _ hM (fun _ z => by cases z)) True.intro (dzs_mono (Keep.ext s5) _ _ d4), fR.bp (by decide), Nat.le_trans fR.dp (by decide), ?_⟩
            refine ⟨_, rfl, _, _, _, rfl, .lst hM2 True.intro d5, fR.bp (by decide), Nat.le_trans fR.dp (by decide), ?_⟩
            refine ⟨rfl, ?_⟩
            rw [decide_eq_true rfl]
            exact q _ ((ButT.but b4).trans (ButT.ext (x4.trans s5))) (SkAt.ext k4 (x4.trans s5)) t5
          refine ⟨by rw [sl]; exact (by decide : (6 : Nat) ≤ 16777216), fun tp ht => ?_⟩
          have st := same_new (o := .tup [V.str "parse", .str "number", .str "name", .str "undo", .str "many", .str "refused"]) ht
          refine ⟨tp, rfl, ⟨_, .inl (.inl upd_same)⟩, fun D3 hD3 => ?_⟩
          have t6 := Tabs.ext t4 st
          have dz6 := dz_mono (Keep.same st) _ _ dz5
          generalize hJ6 : upd J4 tp (.tup [V.str "parse", .str "number", .str "name", .str "undo", .str "many", .str "refused"]) = J6 at *
          have htp : J6 tp = some (.tup [V.str "parse", .str "number", .str "name", .str "undo", .str "many", .str "refused"]) := by rw [← hJ6]; exact upd_same
          clear hJ6
          have h6 := st _ _ (x4 _ _ h4 (fun _ z => by cases z))
          refine lc_steady (n := 6) (steady_tup (K := K) (a := tp) (xs := [V.str "parse", .str "number", .str "name", .str "undo", .str "many", .str "refused"])) (fun k J => ExtN J6 J ∧ Tabs [(PT, qL)] J ∧ ∃ rows, J D3 = some (.lst rows) ∧ rows.length = k ∧ DzAll K w (fun a => a ≠ D3) J rows ((List.range k).map fun i => .list [.str (wdE i), dv]))
            ⟨ExtN.of (same_new hD3), Tabs.ext t6 (same_new hD3), [], upd_same, rfl, .nil⟩ (fun k J hk h => .inl (.inl (h.1 _ _ htp (fun _ z => by cases z)))) (fun k J hk h => ?_) fun J h => ?_
          · obtain ⟨xJ, tJ, rows3, hr2, lr, dr⟩ := h
            have hk : k < 6 := hk
            have ew : ([V.str "parse", .str "number", .str "name", .str "undo", .str "many", .str "refused"]).getD k .non = .str (wdE k) := by
              match k, hk with
              | 0, _ => rfl
              | 1, _ => rfl
              | 2, _ => rfl
              | 3, _ => rfl
              | 4, _ => rfl
              | 5, _ => rfl
              | n + 6, h => exact absurd h (by omega)
            rw [ew]
            refine gn_i ⟨rfl, _, rfl, v, rfl, by rw [sl]; exact (by decide : (2 : Nat) ≤ 16777216), fun L9 n9 => ?_⟩
            have sd := same_new (o := .lst [.str (wdE k), v]) n9
            have nD : L9 ≠ D3 := fun z => by
              rw [← z, n9] at hr2
              cases hr2
            have nl : D3 ≠ l1 := fun z => by rw [z, h6] at hD3; cases hD3
            have d9 : Dz K w (fun a => a ≠ D3) J v dv := dz_mono (Keep.ext xJ) _ _ (dz_imp (ok := fun a => a = l1) (ok2 := fun a => a ≠ D3) (fun a (e : a = l1) (z : a = D3) => nl (z.symm.trans e)) _ _ dz6)
            exact rows_step (F := fun i => .list [.str (wdE i), dv]) hD3 xJ hr2 lr (by omega) dr (ExtN.of sd) (Tabs.ext tJ sd) (mkL n9 nD (.cons (.str _) (.cons d9 .nil)))
          · obtain ⟨xJ, tJ, rows3, hr3, lr, dr⟩ := h
            refine ⟨by rw [sl]; exact (by decide : (1 : Nat) ≤ 16777216), fun a1 m1 => ⟨by rw [sl]; exact (by decide : (1 : Nat) ≤ 16777216), fun a2 m2 => ?_⟩⟩
            have sa := same_new (o := .lst [.str "claim"]) m1
            have sb := same_new (o := .lst [.ref a1]) m2
            refine ⟨a2, 10, _, rfl, rfl, upd_same, by decide, by decide, by rw [sl]; exact (by decide : (1 * 10 : Nat) ≤ 16777216), fun a3 m3 => ?_⟩
            have sc := same_new (o := .lst (List.replicate (10 : Int).toNat [V.ref a1]).flatten) m3
            refine ⟨D3, a3, _, _, rfl, rfl, (sa.trans (sb.trans sc)) _ _ hr3, upd_same, by rw [lr, sl]; exact (by decide : (6 + 10 : Nat) ≤ 16777216), fun M2 hM2 => ?_⟩
            have sd := same_new (o := .lst (rows3 ++ (List.replicate (10 : Int).toNat [V.ref a1]).flatten)) hM2
            refine gn_i ?_
            dsimp only
            have c1 : Dz K w (fun _ => True) (upd J a1 (.lst [.str "claim"])) (.ref a1) (.list [.str "claim"]) := mkL m1 True.intro (.cons (.str _) .nil)
            have c2 := dz_mono (Keep.same (sb.trans (sc.trans sd))) _ _ c1
            have d10 := dzs_mono (Keep.same (sa.trans (sb.trans (sc.trans sd)))) _ _ (dzs_imp (ok2 := fun _ => True) (fun _ _ => True.intro) _ _ dr)
            exact go4 _ M2 _ ((ExtN.of st).trans (xJ.trans (ExtN.of (sa.trans (sb.trans (sc.trans sd)))))) (Tabs.ext tJ (sa.trans (sb.trans (sc.trans sd)))) upd_same (dzs_app d10 (.cons c2 (.cons c2 (.cons c2 (.cons c2 (.cons c2 (.cons c2 (.cons c2 (.cons c2 (.cons c2 (.cons c2 .nil)))))))))))
        refine ⟨_, rfl, 10, rfl, by decide, by decide, fun D2 hD2 => ?_⟩
        refine lc_steady (n := 10) steady_rng (fun k J => ExtN J2 J ∧ Tabs [(PT, qL)] J ∧ ∃ rows, J D2 = some (.lst rows) ∧ rows.length = k ∧ DzAll K w (fun a => a ≠ D2) J rows ((List.range k).map fun _ => .list [.str "claim"]))
          ⟨ExtN.of (same_new hD2), Tabs.ext t2 (same_new hD2), [], upd_same, rfl, .nil⟩ (fun _ _ _ _ => trivial) (fun k J hk h => ?_) fun J h => ?_
        · obtain ⟨xJ, tJ, rows, hr2, lr, dr⟩ := h
          refine gn_i ⟨rfl, tJ, fun J9 x9 t9 => ⟨_, rfl, k, by rw [Int.zero_add], hk, fun H' s' => .inr ⟨6 + k, by omega, by omega, rfl, fun L9 n9 => ?_⟩⟩⟩
          have sd := s'.trans (same_new (o := .lst [.str "claim"]) n9)
          have nD : L9 ≠ D2 := fun z => by
            have := s' _ _ (x9 _ _ hr2 (fun _ z => by cases z))
            rw [← z, n9] at this
            cases this
          exact rows_step (F := fun _ => .list [.str "claim"]) hD2 xJ hr2 lr (by omega) dr (x9.trans (ExtN.of sd)) (Tabs.ext t9 sd) (mkL n9 nD (.cons (.str _) .nil))
        · obtain ⟨xJ, tJ, rows2, hr2, lr, dr⟩ := h
          refine ⟨D, D2, _, _, rfl, rfl, xJ _ _ h2 (fun _ z => by cases z), hr2, by rw [l2, lr, sl]; decide, fun M hM => ?_⟩
          have sM := same_new (o := .lst (rows ++ rows2)) hM
          refine gn_i ?_
          dsimp only
          exact go3 _ M _ (x2.trans (xJ.trans (ExtN.of sM))) (Tabs.ext tJ sM) upd_same (dzs_app (dzs_mono (Keep.same sM) _ _ (dzs_mono (Keep.ext xJ) _ _ (dzs_imp (fun _ _ => True.intro) _ _ d2))) (dzs_mono (Keep.same sM) _ _ (dzs_imp (fun _ _ => True.intro) _ _ dr)))
      refine lc_steady (n := 6) steady_rng (fun k J => ExtN J1 J ∧ Tabs [(PT, qL)] J ∧ ∃ rows, J D = some (.lst rows) ∧ rows.length = k ∧ DzAll K w (fun a => a ≠ D) J rows ((List.range k).map fun i => .list [.str (wdE i), dv]))
        ⟨ExtN.of (same_new hD), Tabs.ext hT4 (same_new hD), [], upd_same, rfl, .nil⟩ (fun _ _ _ _ => trivial) (fun k J hk h => ?_) fun J h => ?_
      · obtain ⟨xJ, tJ, rows, hr2, lr, dr⟩ := h
        refine gn_i ⟨rfl, tJ, fun J9 x9 t9 => ⟨_, rfl, v, rfl, k, v, by rw [Int.zero_add], hk, fun d hd => .inl ⟨k, v, d, hk, rfl, rfl, upd_same, fun L9 n9 => ?_⟩⟩⟩
        have sd := (same_new (o := .xd [(fldE k, v)]) hd).trans (same_new (o := .lst [.str (wdE k), v]) n9)
        have nD : L9 ≠ D := fun z => by
          have := (same_new (o := .xd [(fldE k, v)]) hd) _ _ (x9 _ _ hr2 (fun _ z => by cases z))
          rw [← z, n9] at this
          cases this
        have nl : D ≠ l1 := fun z => by rw [z, h4] at hD; cases hD
        have d9 : Dz K w (fun a => a ≠ D) J9 v dv := dz_mono (Keep.ext (xJ.trans x9)) _ _ (dz_imp (ok := fun a => a = l1) (ok2 := fun a => a ≠ D) (fun a (e : a = l1) (z : a = D) => nl (z.symm.trans e)) _ _ dz4)
        exact rows_step (F := fun i => .list [.str (wdE i), dv]) hD xJ hr2 lr (by omega) dr (x9.trans (ExtN.of sd)) (Tabs.ext t9 sd) (mkL n9 nD (.cons (.str _) (.cons (kpT hd d9) .nil)))
      · obtain ⟨xJ, tJ, rows, hr2, lr, dr⟩ := h
        refine gn_i ?_
        dsimp only
        exact go2 J rows xJ tJ hr2 lr dr
    clear eT1
    refine ⟨_, rfl, by rw [sl]; exact (by decide : (1 : Nat) ≤ 16777216), fun t1 n1 => ⟨by rw [sl]; exact (by decide : (2 : Nat) ≤ 16777216), fun t2 n2 => ⟨by rw [sl]; exact (by decide : (2 : Nat) ≤ 16777216), fun l1 n3 p1 n4 => ⟨_, rfl, _, _, rfl, rfl, ⟨by decide, by decide, by decide⟩, ?_⟩⟩⟩⟩
    have s1 := same_new (o := .tup [V.int 1]) n1
    have s2 := same_new (o := .tup [V.str (Str.ofString "a"), V.ref t1]) n2
    have s3 := same_new (o := .lst [V.int 1, V.int 2]) n3
    have s4 := same_new (o := MD w p1 []) n4
    have dT : Dz K w (fun a => a = l1) (upd (upd (upd (upd H t1 (.tup [V.int 1])) t2 (.tup [V.str (Str.ofString "a"), V.ref t1])) l1 (.lst [V.int 1, V.int 2])) p1 (MD w p1 [])) (.ref t2) (.tuple [.str (Str.ofString "a"), .tuple [.int 1]]) :=
      kpT n4 (kpT n3 (mkT n2 (.cons (.str _) (.cons (mkT n1 (.cons (.int 1) .nil)) .nil))))
    have dL : Dz K w (fun a => a = l1) (upd (upd (upd (upd H t1 (.tup [V.int 1])) t2 (.tup [V.str (Str.ofString "a"), V.ref t1])) l1 (.lst [V.int 1, V.int 2])) p1 (MD w p1 [])) (.ref l1) (.list [.int 1, .int 2]) :=
      kpT n4 (mkL n3 rfl (.cons (.int 1) (.cons (.int 2) .nil)))
    have dD : Dz K w (fun a => a = l1) (upd (upd (upd (upd H t1 (.tup [V.int 1])) t2 (.tup [V.str (Str.ofString "a"), V.ref t1])) l1 (.lst [V.int 1, V.int 2])) p1 (MD w p1 [])) (.ref p1) (.dict []) := .dct upd_same
    have f1 := ((hS.same s1).same s2).new n3
    have s14 := s1.trans (s2.trans (s3.trans s4))
    refine ⟨_, rfl, S, G, n, 99, rfl, hS.same s14, by omega, by decide, by decide, fun m H5 p0 p1' b5 k5 => ⟨by rw [sl]; exact (by decide : (10 : Nat) ≤ 16777216), fun L hL => ?_⟩⟩
    have b5' := (ButSG.same (S := S) (G := G) s14).trans b5
    have s6 := same_new (o := .lst [V.non, .int 0, .bl true, .str "name", .ref t2, .ref l1, .ref p1, .int (-5), .int (10 ^ 59), .int m]) hL
    have fL := k5.new hL
    have va : ∀ v ∈ [V.non, .int 0, .bl true, .str "name", .ref t2, .ref l1, .ref p1, .int (-5), .int (10 ^ 59), .int m], ∃ d, Dz K w (fun a => a = l1) (upd H5 L (.lst [V.non, .int 0, .bl true, .str "name", .ref t2, .ref l1, .ref p1, .int (-5), .int (10 ^ 59), .int m])) v d ∧ Fit 200 3 d := fun v hv => by
      have kp : Keep K w (fun a => a = l1) _ (upd H5 L (.lst [V.non, .int 0, .bl true, .str "name", .ref t2, .ref l1, .ref p1, .int (-5), .int (10 ^ 59), .int m])) := Keep.butS (fun a e => by rw [e]; exact f1) (b5.trans (ButSG.same s6)) (hS.same s14)
      simp only [List.mem_cons, List.not_mem_nil, or_false] at hv
      rcases hv with rfl | rfl | rfl | rfl | rfl | rfl | rfl | rfl | rfl | rfl
      · exact ⟨_, .non, fit_non.le (by decide) (by decide)⟩
      · exact ⟨_, .int 0, ⟨rfl, rfl, rfl, rfl, by decide, by decide⟩⟩
      · exact ⟨_, .bl true, (fit_bl true).le (by decide) (by decide)⟩
      · exact ⟨_, .str _, (fit_str (n := 4) (by decide) (by decide) (by decide +kernel) (by decide +kernel)).le (by decide) (by decide)⟩
      · exact ⟨_, dz_mono kp _ _ dT, ⟨by decide +kernel, by decide +kernel, by decide +kernel, by decide +kernel, by decide +kernel, by decide +kernel⟩⟩
      · exact ⟨_, dz_mono kp _ _ dL, ⟨by decide +kernel, by decide +kernel, by decide +kernel, by decide +kernel, by decide +kernel, by decide +kernel⟩⟩
      · exact ⟨_, dz_mono kp _ _ dD, fit_dct.le (by decide) (by decide)⟩
      · exact ⟨_, .int _, ⟨by decide +kernel, by decide +kernel, by decide +kernel, by decide +kernel, by decide +kernel, by decide +kernel⟩⟩
      · exact ⟨_, .int _, ⟨by decide +kernel, by decide +kernel, by decide +kernel, by decide +kernel, by decide +kernel, by decide +kernel⟩⟩
      · refine ⟨_, .int m, ?_⟩
        obtain ⟨k, rfl⟩ := Int.eq_ofNat_of_zero_le p0
        have : ∀ k : Nat, k < 99 → Fit 200 3 (.int (k : Int)) := fun k hk => by
          have z := ints_fit k hk
          exact ⟨z.1, z.2.1, z.2.2.1, z.2.2.2.1, z.2.2.2.2.1, z.2.2.2.2.2⟩
        exact this k (by omega)
    refine ⟨S, G, n + 1, L, _, rfl, k5.same s6, by omega, .inl (.inl upd_same), fL.1, fL.2, by simp, by show 10 < 1000; decide, fun v H6 hv b6 k6 => ?_⟩
    obtain ⟨d, dz, ft⟩ := va v hv
    have b16 := b5'.trans ((ButSG.same s6).trans b6)
    have dz6 := dz_mono (Keep.butS (fun a e => by rw [e]; exact f1) b6 (k5.same s6)) _ _ dz
    refine gn_i ?_
    dsimp only
    exact go1 H6 v d l1 b16 (by have := k6; rwa [show n + 1 + 1 = n + 2 by omega] at this) ⟨_, b6 _ _ f1.1 f1.2 (s6 _ _ (b5 _ _ f1.1 f1.2 ((same_new n4) _ _ upd_same)))⟩ dz6 ft
end
end Fc
/-! enumerate of a text; tuple of a text -/
namespace Fc
open PySem PySem.Spec L2 PyProof.Rows
/-- the signs of x, each in a new pair -/
def Ites (x : Str) : It := ⟨fun i _ => i < x.cps.size, fun i H v H' => ∃ T c, v = .ref T ∧ H T = none ∧ x.cps[i]? = some c ∧ H' = upd H T (.tup [.int (i : Nat), .str ⟨#[c]⟩]), fun i _ => x.cps.size ≤ i⟩
theorem turn_enumS {P : Program} {w : World} {K : PySem.W.Frag} {elts : List Expr} {kk : Nat} {tpos : Pos} (x : Str) (t : Tok) (e it : Addr) :
    Turn P w K (.Tuple elts kk tpos) (Ites x) [e, it] e (fun i h => i ≤ x.cps.size ∧ (∃ old, IsEnum h e it ((i : Nat) : Int) old) ∧ h.IsStrIter it (strIterType x) x t i ∧ e ≠ it) where
  mem := by simp
  obj := fun i h st b hb => by
    obtain ⟨_, ⟨old, he⟩, ⟨o, ho, hc, hd⟩, _⟩ := st
    have e' : b = e ∨ b = it := by simpa using hb
    rcases e' with z | z
    · rw [z]; exact ⟨_, he, fun v q => nomatch q⟩
    · rw [z]; exact ⟨o, ho, fun v q => by rw [hd] at q; cases q⟩
  keep := fun i h h' st k => let ⟨hle, ⟨old, he⟩, ⟨o, ho, r⟩, hne⟩ := st; ⟨hle, ⟨old, k e (by simp) _ he⟩, ⟨o, k it (by simp) o ho, r⟩, hne⟩
  item := by
    intro X hP hw hK hc i pins s σ H E I hf st hg
    subst hP hw hK
    obtain ⟨hle, ⟨old, he⟩, hit, hne⟩ := st
    have hg : i < x.cps.size := hg
    have hel : e < s.heap.objs.size := Heap.lt_size he
    have hil : it < s.heap.objs.size := by obtain ⟨_, q, _⟩ := hit; exact Heap.lt_size q
    have D : Draws X.prog X.w X.A.in1 it [it] x.cps.size (fun i v => ∃ c u, x.cps[i]? = some c ∧ v = .str ⟨#[c]⟩ u) (fun i h => h.IsStrIter it (strIterType x) x t i) := Draws.text (A := X.A.in1) (show X.A.in1.handled = none from I.ok.hd hc) it x t
    refine wpAny_pyNext_enum_itemD D he hit hg hne (by simpa using hne) fun u h' tk hP ho hit' hT hsz hk => ?_
    obtain ⟨c, tu, hcx, rfl⟩ := hP
    refine ⟨_, rfl, wpAny_letOwnedTupleGo_enum (s := { s with heap := h', toks := tk + 1 }) ho fun h'' he' sb => ?_⟩
    have hT2 : h''.get? s.heap.objs.size = some { cls := .type "tuple", data := .seq #[.int i tk, .str ⟨#[c]⟩ tu] } := (sb.2 _ (Nat.ne_of_gt hel)).trans hT
    have new : ObjOk X.prog X.w (upd H s.heap.objs.size (.tup [.int (i : Nat), .str ⟨#[c]⟩])) h'' s.heap.objs.size (.tup [.int (i : Nat), .str ⟨#[c]⟩]) :=
      ⟨by show 2 ≤ sizeLine; decide, [.int i tk, .str ⟨#[c]⟩ tu], .cons ⟨_, rfl⟩ (.cons ⟨_, rfl⟩ .nil), ⟨_, hT2, rfl, _, rfl⟩⟩
    have I1 : Inv X pins σ (upd H s.heap.objs.size (.tup [.int (i : Nat), .str ⟨#[c]⟩])) { s with heap := h'', toks := tk + 1 } :=
      I.turnedNew (ch := [e, it]) (fun b ob hb q => (sb.2 b (fun z => hb (by simp [z]))).trans (hk b ob (fun z => hb (by simp [z])) (fun z => hb (by simp [z])) q)) hf (Nat.le_refl _) new
    refine ⟨.ref s.heap.objs.size, _, I1, rfl, ⟨_, c, rfl, I.hok.fresh (Nat.le_refl _), hcx, rfl⟩, ⟨hg, ⟨.str ⟨#[c]⟩ tu, ?_⟩, ?_, hne⟩, fun b hb => ?_⟩
    · have e1 : ((i + 1 : Nat) : Int) = (i : Int) + 1 := by omega
      rw [e1]; exact he'
    · obtain ⟨o, q, r⟩ := hit'
      exact ⟨o, (sb.2 it (Ne.symm hne)).trans q, r⟩
    · have hb' : b < s.heap.objs.size := by
        have e' : b = e ∨ b = it := by simpa using hb
        rcases e' with z | z
        · rw [z]; exact hel
        · rw [z]; exact hil
      rw [upd_ne (Nat.ne_of_lt hb')]
      exact (hf b hb).1
  done := by
    intro X hP hw hK hc i pins s σ H E I hf st hg
    subst hP hw hK
    obtain ⟨hle, ⟨old, he⟩, hit, hne⟩ := st
    have hg : x.cps.size ≤ i := hg
    obtain rfl : i = x.cps.size := Nat.le_antisymm hle hg
    obtain ⟨f0, f1, f2, f3, f4, f5⟩ := hf it (by simp)
    have D : Draws X.prog X.w X.A.in1 it [it] x.cps.size (fun i v => ∃ c u, x.cps[i]? = some c ∧ v = .str ⟨#[c]⟩ u) (fun i h => h.IsStrIter it (strIterType x) x t i) := Draws.text (A := X.A.in1) (show X.A.in1.handled = none from I.ok.hd hc) it x t
    exact wpAny_pyNext_enum_endD D he hit fun h' eb => ⟨rfl, I.turned (t' := s.toks) (fun b o hb q => eb b o hb q) f0 f1 f3 f4 f5⟩
  self := fun A i s Q E st h => let ⟨_, ⟨_, he⟩, _⟩ := st; wpAny_pyIter_enum he h
def iEnumS (ta : TA) : TI := fun σ H R => ta σ H fun vs H1 => ∃ x, vs = [.str x] ∧ R (Ites x) H1
theorem pi_enumS {X : Cx} {e : Expr} {ta : TA} {p pos tpos : Pos} {elts : List Expr} {kk : Nat} (hg : Gl X "enumerate") (hm : X.mg "enumerate" = none) (ha : PA X [e] ta) (hs : starEach [e] X.env = [(false, eval e X.env)] := by rfl) :
    PI X (.Tuple elts kk tpos) (.Call (.Name "enumerate" p) [e] [] pos) (iEnumS ta) := by
  refine ⟨fun pins s σ H R I h => ?_⟩
  refine Call_ (ld_blt I hg hm boot_enumerate (PyProof.Rows.callWith_type1 (thn (ha.run pos pins s σ H _ I h) fun us s1 ⟨vs, H1, I1, r1, q1⟩ => ?_) hs rfl))
  obtain ⟨x, ex, q⟩ := q1
  subst ex
  cases r1 with
  | cons r rr =>
    cases rr
    obtain ⟨t, rfl⟩ := r
    refine call_enumerate_str fun h' he hit hsz hk => wpAny_pyIter_enum he ?_
    have I2 : Inv X pins σ H1 { s1 with heap := h' } := I1.kept (t' := s1.toks) hk
    refine ⟨s1.heap.objs.size + 1, [s1.heap.objs.size + 1, s1.heap.objs.size], _, _, H1, rfl, I2, turn_enumS x t (s1.heap.objs.size + 1) s1.heap.objs.size, ⟨Nat.zero_le _, ⟨.none, he⟩, hit, Nat.succ_ne_self _⟩, fun b hb => ?_, q⟩
    have e' : b = s1.heap.objs.size + 1 ∨ b = s1.heap.objs.size := by simpa using hb
    have hle : s1.heap.objs.size ≤ b := by
      rcases e' with z | z
      · rw [z]; exact Nat.le_add_right _ _
      · rw [z]; exact Nat.le_refl _
    exact I1.fpOk hle (I1.hok.fresh hle)
/-- tuple(x) of a text -/
abbrev rTupS : List V → Hp → VK → Prop := fun xs H Q => ∃ x : Str, xs = [.str x] ∧ x.length ≤ 1000 ∧ ∀ p, H p = none → Q (.ref p) (upd H p (.tup ((signs x).map V.str)))
theorem call_tupS {X : Cx} (hc : X.calm = true) : CallR X (.type "tuple") rTupS := by
  intro pins s σ H xs us Q I r ⟨x, e, hl, q⟩
  subst e
  obtain ⟨u, rfl, rx⟩ := vals1 r
  obtain ⟨t, rfl⟩ := (show ∃ t, u = Value.str x t from rx)
  have hz : x.cps.size ≤ sizeLine := by rw [sizeLine_eq]; exact Nat.le_trans hl (by decide)
  refine call_tuple_str (hsz := hz) (I.ok.hd hc) x t fun h' tk acc k it => ?_
  have I1 : Inv X pins σ H { s with heap := h', toks := tk } := I.kept k
  have nH := I1.hok.fresh (Nat.le_refl _)
  have vs : Vals ((signs x).map V.str) acc.toList := by
    refine vals_of_at ?_ fun i a b ha hb => ?_
    · rw [List.length_map, signs_length, Array.length_toList, it.1]; rfl
    · obtain ⟨c, t2, hc2, eb⟩ := it.2 i b (by simpa using hb)
      unfold signs at ha
      rw [List.map_map, List.getElem?_map, Array.getElem?_toList, hc2] at ha
      cases ha
      subst eb
      exact ⟨t2, rfl⟩
  exact ⟨.ref h'.objs.size, _, I1.laid (t' := tk) (a := h'.objs.size) (o := .tup ((signs x).map V.str)) (h' := h'.push { cls := .type "tuple", data := .seq acc }) (fun b o e => Heap.get?_push_of_some _ e) (Nat.le_refl _) ⟨by rw [List.length_map, signs_length]; exact hz, acc.toList, vs, _, Heap.get?_push_size _ rfl, rfl, 0, by simp⟩, rfl, q _ nH⟩
end Fc
/-! the law -/
namespace Fc
open PySem PySem.Spec L2 PyProof.Rows LamX
theorem lc_enumS {x : Str} {g : TG} {tt : TT} {te : TE} {vs : List Nat} {σ : L2.St} {H1 : Hp} {D : Addr} {Qd : Hp → Prop} (Pv : Nat → Hp → Prop) (h0 : Pv 0 (upd H1 D (.lst [])))
    (hs : ∀ i c H T, x.cps[i]? = some c → Pv i H → H T = none → g (.ref T) (wipe σ vs) (upd H T (.tup [.int (i : Nat), .str ⟨#[c]⟩])) fun σ2 H2 => wipe σ2 vs = wipe σ vs ∧ tt σ2 H2 fun b H3 => if b = true then te σ2 H3 fun y H4 => ∃ acc, H4 D = some (.lst acc) ∧ acc.length < sizeLine ∧ Pv (i + 1) (upd H4 D (.lst (acc ++ [y]))) else Pv (i + 1) H3)
    (hd : ∀ H, Pv x.cps.size H → Qd H) : ∃ W : Nat → Nat → Hp → Prop, (∃ m, W 0 m (upd H1 D (.lst []))) ∧ ∀ i m H, W i m H → ((Ites x).stop i H ∧ Qd H) ∨
      ((Ites x).go i H ∧ ∃ Nx : Hp → Prop, (∀ H', Nx H' → ∃ m', m' < m ∧ W (i + 1) m' H') ∧ ∀ v H', (Ites x).yld i H v H' → g v (wipe σ vs) H' fun σ2 H2 => wipe σ2 vs = wipe σ vs ∧ tt σ2 H2 fun b H3 =>
        if b = true then te σ2 H3 fun y H4 => ∃ acc, H4 D = some (.lst acc) ∧ acc.length < sizeLine ∧ Nx (upd H4 D (.lst (acc ++ [y]))) else Nx H3) := by
  refine ⟨fun i m H => m + i = x.cps.size ∧ Pv i H, ⟨x.cps.size, rfl, h0⟩, fun i m H ⟨e, p⟩ => ?_⟩
  by_cases c : i = x.cps.size
  · subst c
    exact .inl ⟨Nat.le_refl _, hd _ p⟩
  · have lt : i < x.cps.size := by omega
    refine .inr ⟨lt, Pv (i + 1), fun H' p' => ⟨m - 1, by omega, by omega, p'⟩, fun v H' ⟨T, cc, ev, hT, hc, eH⟩ => ?_⟩
    subst ev eH
    exact hs i cc H T hc p hT
theorem ButT.seq0 {K : PySem.W.Frag} {S G p : Addr} {H H1 H' : Hp} {xs : List V} (s : Same H H1) (nS : H S = none) (nG : H G = none) (b : ButT S G H1 H') (h : SqL K H p xs) : SqL K H' p xs := by
  rcases h with (h | ⟨o, h⟩) | h
  · exact .inl (.inl (b _ _ (ne_of_none h nS) (ne_of_none h nG) (fun _ z => by cases z) (s _ _ h)))
  · exact .inl (.inr ⟨o, b _ _ (ne_of_none h nS) (ne_of_none h nG) (fun _ z => by cases z) (s _ _ h)⟩)
  · exact .inr h
def cN (k : Nat) : Nat := if k % 2 = 0 then 110 else 109
/-- the arrays of the law -/
def arD (k : Nat) : PyData := .tuple [.str ⟨#[(Str.ofString "abcdefghijkl").cps.getD k 0]⟩, .str ⟨#[cN k]⟩]
def arrD : PyData := .tuple ((List.range 12).map arD)
theorem nm_at : ∀ k : Nat, k < 12 → atI (Str.ofString "nm").cps.toList ((k : Int) % 2) = some (cN k) := by decide +kernel
def posD : PyData := dS (signs "opqrstuv")
def valD : PyData := dS ["w", "x", "y", "z", "ww", "zz"]
theorem law_fr : frameD arrD posD valD = true := by decide +kernel
theorem law_sm : smD arrD = true ∧ smD posD = true ∧ smD valD = true := by decide +kernel
theorem law_ln : (partsL arrD).length ≤ 60 ∧ (partsL posD).length ≤ 60 ∧ (partsL valD).length ≤ 60 := by decide +kernel
theorem law_li : ∀ d ∈ partsL arrD, (partsL d).length ≤ 1000 := by decide +kernel
theorem law_28 : (namesL (paD arrD posD valD)).length = 28 := by decide +kernel
theorem dzs_strs {K : PySem.W.Frag} {w : World} {ok : Addr → Prop} {H : Hp} : ∀ l : List Str, DzAll K w ok H (l.map V.str) (l.map PyData.str)
  | [] => .nil
  | x :: l => .cons (.str x) (dzs_strs l)
def spLawT (K : PySem.W.Frag) (PT : Addr) : Sp := fun vs H Q _ => ∃ (ns : List Int) (a : Addr), vs = [.ref a] ∧ SqL K H a (ns.map V.int) ∧ ns.length ≤ 63 ∧ Tabs [(PT, qL)] H ∧ ∀ H', Q (.bl true) H'
section
variable {K : PySem.W.Frag} {mg : Str → Option Value} {base : Heap} {P : Program} {w : World}
abbrev nj56 : List Str := ["_law_script", "_law_cases", "_law_at", "_law_skein_here", "_law_arrays", "_law_told", "_law_name", "_law_one"]
theorem sp56 : FnScope nj56 ["_law_script"] (defScope (topK 56)) := ⟨rfl, rfl, rfl, by decide +kernel, rfl, by decide +kernel, by decide +kernel⟩
theorem op56 {f C PT : Addr} {fd : FuncData} (F : Fun K "law" "law" (topK 56) f fd) (B : Blt mg) (T : FrTxt K mg C) (c33 : Cal P w K mg base 1 "_law_skein" (spSkein K)) (c46 : CalG P w K mg base 8 "_law_right" (spRightN K)) (c54 : CalG P w K mg base 6 "_law_errors_right" (spErrR PT)) (c55 : CalG P w K mg base 3 "_law_words_right" (spWordsR K))
    (c43 : Cal P w K mg base 5 "_law_met" (spMet K w C)) (M14 : OwnM P w K mg base 1 C "__len__" (spLenF K C)) : FnG P w K mg base 9 f fd ["_law_script"] (spLawT K PT) := by
  refine okG F sp56 (fun vs H Q E h => ?_) (fun cdv A outer s H vs Q E hgd hr h => ?_)
  · obtain ⟨ns, a, rfl, _⟩ := h
    rfl
  · have hu := hu70 hr
    refine ⟨_, (pss_cons (ps_set (i := 1) sp56.nd rfl (Or.inl rfl) (pe_callB (call_max2 rfl) (by rfl) B.max boot_max (pa_cons pe_int (pa_cons (pe_callB (call_min2 rfl) (by rfl) B.min boot_min (pa_cons pe_int (pa_cons (pe_callB call_len_seq (by rfl) B.len boot_len (pa_cons (pv 0) pa_nil)) pa_nil))) pa_nil)))) (pss_cons (ps_for PassesOwn.never rfl (pi_range1 (by rfl) B.range (pa_cons (pv 1) pa_nil)) (pg_name (i := 2) sp56.nd rfl (Or.inl rfl)) (pss_cons (ps_set (i := 3) sp56.nd rfl (Or.inl rfl) (pe_c c33 hr (by decide) (by rfl) (pa_cons (pv 0) (pa_cons (pv 2) (pa_cons (pv 1) pa_nil))))) (pss_one (ps_if (pw_or (pt_not (pt_val (pe_cg c46 hgd hr (by decide) (by rfl) (pa_cons (pv 3) pa_nil)))) (pw_or (pt_not (pt_val (pe_cg c54 hgd hr (by decide) (by rfl) (pa_cons (pv 3) pa_nil)))) (pw_or1 (pt_not (pt_val (pe_cg c55 hgd hr (by decide) (by rfl) (pa_cons (pv 3) pa_nil))))))).pt (pss_one (ps_ret pe_bl)) pss_nil)))) (pss_cons (ps_set (i := 4) sp56.nd rfl (Or.inl rfl) (pe_callTy call_tuple_of (by rfl) B.tuple boot_tuple (pa_cons (pe_lc (own := [("_law_at", 2), ("_law_name", 6)]) (g := gTup K 2 (gCons (gName 2) (gCons (gName 6) gNil))) (by rfl) sp56.nd (pi_enumS (by rfl) B.enumerate (pa_cons pe_str pa_nil)) (blkOk_by (N := nj56) (sc := defScope (topK 56)) (by decide +kernel)) (fun _ _ _ _ _ => (pg_tup rfl (pgs_cons (pg_name (i := 2) sp56.nd rfl (Or.inl rfl)) (pgs_cons (pg_name (i := 6) sp56.nd rfl (Or.inl rfl)) pgs_nil)))) (fun _ _ _ _ _ => pts_nil) (fun _ _ _ _ _ => (pe_tup (pa_cons (pv 6) (pa_cons (pe_ix ix_str pe_str (pe_op op_mod (pe_callTy call_int1 (by rfl) B.int boot_int (pa_cons (pv 2) pa_nil)) pe_int) (fun _ _ => rfl)) pa_nil))))) pa_nil))) (pss_cons (ps_set (i := 5) sp56.nd rfl (Or.inl rfl) (pe_lst (pa_cons (pe_c c43 hr (by decide) (by rfl) (pa_cons (pe_lst (pa_cons (pv 4) (pa_cons (pe_callTy (call_tupS rfl) (by rfl) B.tuple boot_tuple (pa_cons pe_str pa_nil)) (pa_cons (pe_tup (pa_cons pe_str (pa_cons pe_str (pa_cons pe_str (pa_cons pe_str (pa_cons pe_str (pa_cons pe_str pa_nil))))))) pa_nil)))) pa_nil)) (pa_cons (pe_c c43 hr (by decide) (by rfl) (pa_cons (pe_lst (pa_cons (pe_tup (pa_cons (pe_tup (pa_cons pe_str (pa_cons pe_str pa_nil))) pa_nil)) (pa_cons (pe_tup pa_nil) (pa_cons (pe_tup pa_nil) pa_nil)))) pa_nil)) pa_nil)))) (pss_cons (ps_set (i := 5) sp56.nd rfl (Or.inl rfl) (pe_op op_cat (pv 5) (pe_lst (pa_cons (pe_c c43 hr (by decide) (by rfl) (pa_cons (pe_lst (pa_cons (pe_tup pa_nil) (pa_cons (pe_tup (pa_cons pe_str (pa_cons pe_str pa_nil))) (pa_cons (pe_tup (pa_cons pe_str pa_nil)) pa_nil)))) pa_nil)) (pa_cons (pe_c c43 hr (by decide) (by rfl) (pa_cons (pe_lst (pa_cons (pe_tup pa_nil) (pa_cons (pe_callTy (call_tupS rfl) (by rfl) B.tuple boot_tuple (pa_cons pe_str pa_nil)) (pa_cons (pe_tup pa_nil) pa_nil)))) pa_nil)) (pa_cons (pe_c c43 hr (by decide) (by rfl) (pa_cons (pe_lst (pa_cons (pe_tup pa_nil) (pa_cons (pe_tup pa_nil) (pa_cons (pe_tup pa_nil) pa_nil)))) pa_nil)) pa_nil)))))) (pss_one (ps_ret (pe_and (pe_cmpR (op_eqP (hu64 hu)) (pe_lc (own := [("_law_one", 7)]) (g := gName 7) (by rfl) sp56.nd (pi_list (pv 5)) (blkOk_by (N := nj56) (sc := defScope (topK 56)) (by decide +kernel)) (fun _ _ _ _ _ => (pg_name (i := 7) sp56.nd rfl (Or.inl rfl))) (fun _ _ _ _ _ => pts_nil) (fun _ _ _ _ _ => (pe_cmpR op_isN (pv 7) pe_non (nomark _)))) (pe_lst (pa_cons pe_bl (pa_cons pe_bl (pa_cons pe_bl (pa_cons pe_bl (pa_cons pe_bl pa_nil)))))) (nomark _)) (pe_one (pe_cmpR op_eq (pe_callB (call_lenO M14 (hr.mono (by decide))) (by rfl) B.len boot_len (pa_cons (pe_ix ix_list (pv 5) pe_int (fun _ _ => rfl)) pa_nil)) pe_int (nomark _))))))))))), ?_⟩
    obtain ⟨ns, a, rfl, hS, hl, hT, q⟩ := h
    have sl : sizeLine = 16777216 := sizeLine_eq
    refine ⟨_, rfl, a, _, rfl, .inl hS, _, _, rfl, _, _, rfl, ?_⟩
    obtain ⟨c, hc, c0, c3⟩ : ∃ c : Int, c = (if (if (((ns.map V.int).length : Nat) : Int) < 4 then (((ns.map V.int).length : Nat) : Int) else 4) > 1 then (if (((ns.map V.int).length : Nat) : Int) < 4 then (((ns.map V.int).length : Nat) : Int) else 4) else 1) ∧ 1 ≤ c ∧ c ≤ 4 := by
      refine ⟨_, rfl, ?_, ?_⟩
      · split
        · omega
        · omega
      · split
        · split <;> omega
        · omega
    rw [← hc]
    clear hc
    refine gn_i ?_
    dsimp only
    refine cutT fun T1 e1 => ?_
    have go1 : ∀ H1 z2 z3, T1 { nx := fun x H' => Q V.non H', rt := Q } [some (.ref a), some (.int c), z2, z3, none, none, none, none] H1 := fun H1 z2 z3 => by
      subst e1
      refine cutT fun T2 e2 => ?_
      have go2 : ∀ (H2 : Hp) (tA : Addr), Dz K w (fun _ => True) H2 (.ref tA) arrD → T2 { nx := fun x H' => Q V.non H', rt := Q } [some (.ref a), some (.int c), z2, z3, some (.ref tA), none, none, none] H2 := by
        intro H2 tA dA
        subst e2
        refine cutT fun T3 e3 => ?_
        have go3 : ∀ (H3 : Hp) (M p1 : Addr), FrB K C H3 p1 (paD arrD posD valD) → H3 M = some (.lst [.ref p1, .non]) → T3 { nx := fun x H' => Q V.non H', rt := Q } [some (.ref a), some (.int c), z2, z3, some (.ref tA), some (.ref M), none, none] H3 := by
          intro H3 M p1 fr hM
          subst e3
          refine cutT fun T4 e4 => ?_
          have go4 : ∀ (H4 : Hp) (M3 p2 : Addr), FrB K C H4 p1 (paD arrD posD valD) → H4 M3 = some (.lst [.ref p1, .non, .non, .non, .ref p2]) → T4 { nx := fun x H' => Q V.non H', rt := Q } [some (.ref a), some (.int c), z2, z3, some (.ref tA), some (.ref M3), none, none] H4 := by
            intro H4 M3 p2 fr4 h4
            subst e4
            refine ⟨_, rfl, M3, rfl, ⟨_, .inl (.inl h4)⟩, fun D hD => ?_⟩
            refine lc_map (K := K) (fun _ k y => y = .bl ([false, true, true, true, false].getD k true)) (steady_list (K := K) (a := M3) (xs := [V.ref p1, .non, .non, .non, .ref p2])) (fun _ _ _ _ _ h => h) (fun H9 s9 => .inl (.inl (s9 _ _ h4))) (by show 5 ≤ 5000; decide) hD (fun k H' Q' hk s' q' => ?_) fun H5 ys s5 hys py => ?_
            · have hk : k < 5 := hk
              refine gn_i ⟨rfl, ?_⟩
              refine ⟨_, rfl, rfl, ?_⟩
              match k, hk with
              | 0, _ => exact q' _ _ (Same.refl _) rfl
              | 1, _ => exact q' _ _ (Same.refl _) rfl
              | 2, _ => exact q' _ _ (Same.refl _) rfl
              | 3, _ => exact q' _ _ (Same.refl _) rfl
              | 4, _ => exact q' _ _ (Same.refl _) rfl
              | n + 5, h => exact absurd h (by omega)
            have ey := paired_fn py
            have ey : ys = [V.bl false, .bl true, .bl true, .bl true, .bl false] := ey
            subst ey
            refine ⟨by rw [sl]; exact (by decide : (5 : Nat) ≤ 16777216), fun M5 h5 => ?_⟩
            have s6 := same_new (o := .lst [V.bl false, .bl true, .bl true, .bl true, .bl false]) h5
            refine ⟨.list [.bool false, .bool true, .bool true, .bool true, .bool false], .list [.bool false, .bool true, .bool true, .bool true, .bool false], .lst (.inl (.inl (s6 _ _ hys))) (.cons (.bl _) (.cons (.bl _) (.cons (.bl _) (.cons (.bl _) (.cons (.bl _) .nil))))), .lst (.inl (.inl upd_same)) (.cons (.bl _) (.cons (.bl _) (.cons (.bl _) (.cons (.bl _) (.cons (.bl _) .nil))))), ⟨by decide +kernel, by decide +kernel⟩, ⟨by decide +kernel, by decide +kernel⟩, ?_⟩
            have ee : PyData.eqv (.list [.bool false, .bool true, .bool true, .bool true, .bool false]) (.list [.bool false, .bool true, .bool true, .bool true, .bool false]) = true := by decide +kernel
            rw [ee]
            refine ⟨_, rfl, iteT ?_⟩
            have fr6 := fr4.same (s5.trans s6)
            obtain ⟨dx, fs, _, _, hp, _⟩ := fr6.ex
            refine ⟨_, rfl, M3, _, 0, _, rfl, rfl, .inl (.inl ((s5.trans s6) _ _ h4)), rfl, p1, dx, fs, rfl, hp, p1, _, rfl, fr6.fr, _, rfl, ?_, ?_⟩
            · rw [law_28]; decide
            · rw [law_28]
              exact ⟨rfl, q _⟩
          clear e4
          refine ⟨_, rfl, by rw [sl]; exact (by decide : (0 : Nat) ≤ 16777216), fun t1 n1 => ⟨by rw [sl]; exact (by decide : (2 : Nat) ≤ 16777216), fun t2 n2 => ⟨by rw [sl]; exact (by decide : (1 : Nat) ≤ 16777216), fun t3 n3 => ⟨by rw [sl]; exact (by decide : (3 : Nat) ≤ 16777216), fun l1 m1 => ?_⟩⟩⟩⟩
          have r1 : LRow K w (fun _ => True) _ l1 (.tuple []) (.tuple [.str "i", .str "j"]) (.tuple [.str "i"]) := ⟨⟨_, _, _, upd_same, kpT m1 (kpT n3 (kpT n2 (mkT n1 .nil))), kpT m1 (kpT n3 (mkT n2 (.cons (.str _) (.cons (.str _) .nil)))), kpT m1 (mkT n3 (.cons (.str _) .nil))⟩, by decide +kernel, by decide +kernel, by decide +kernel⟩
          have s1 := (same_new (o := .tup []) n1).trans ((same_new (o := .tup [V.str "i", .str "j"]) n2).trans ((same_new (o := .tup [V.str "i"]) n3).trans (same_new (o := .lst [V.ref t1, .ref t2, .ref t3]) m1)))
          refine ⟨_, l1, _, _, _, rfl, r1, fun _ H4 s2 => ?_, fun z => absurd z (by decide +kernel)⟩
          refine ⟨by rw [sl]; exact (by decide : (0 : Nat) ≤ 16777216), fun t4 n4 => ⟨_, rfl, by decide, fun t5 n5 => ⟨by rw [sl]; exact (by decide : (0 : Nat) ≤ 16777216), fun t6 n6 => ⟨by rw [sl]; exact (by decide : (3 : Nat) ≤ 16777216), fun l2 m2 => ?_⟩⟩⟩⟩
          have r2 : LRow K w (fun _ => True) _ l2 (.tuple []) (dS (signs "opqrstuvw")) (.tuple []) := ⟨⟨_, _, _, upd_same, kpT m2 (kpT n6 (kpT n5 (mkT n4 .nil))), kpT m2 (kpT n6 (mkT n5 (dzs_strs _))), kpT m2 (mkT n6 .nil)⟩, by decide +kernel, by decide +kernel, by decide +kernel⟩
          have s3 := (same_new (o := .tup []) n4).trans ((same_new (o := .tup ((signs "opqrstuvw").map V.str)) n5).trans ((same_new (o := .tup []) n6).trans (same_new (o := .lst [V.ref t4, .ref t5, .ref t6]) m2)))
          refine ⟨_, l2, _, _, _, rfl, r2, fun _ H5 s4 => ?_, fun z => absurd z (by decide +kernel)⟩
          refine ⟨by rw [sl]; exact (by decide : (0 : Nat) ≤ 16777216), fun t7 n7 => ⟨by rw [sl]; exact (by decide : (0 : Nat) ≤ 16777216), fun t8 n8 => ⟨by rw [sl]; exact (by decide : (0 : Nat) ≤ 16777216), fun t9 n9 => ⟨by rw [sl]; exact (by decide : (3 : Nat) ≤ 16777216), fun l3 m3 => ?_⟩⟩⟩⟩
          have r3 : LRow K w (fun _ => True) _ l3 (.tuple []) (.tuple []) (.tuple []) := ⟨⟨_, _, _, upd_same, kpT m3 (kpT n9 (kpT n8 (mkT n7 .nil))), kpT m3 (kpT n9 (mkT n8 .nil)), kpT m3 (mkT n9 .nil)⟩, by decide +kernel, by decide +kernel, by decide +kernel⟩
          have s5 := (same_new (o := .tup []) n7).trans ((same_new (o := .tup []) n8).trans ((same_new (o := .tup []) n9).trans (same_new (o := .lst [V.ref t7, .ref t8, .ref t9]) m3)))
          refine ⟨_, l3, _, _, _, rfl, r3, fun z => absurd z (by decide +kernel), fun _ H6 p2 s6 np fr2 => ?_⟩
          refine ⟨by rw [sl]; exact (by decide : (3 : Nat) ≤ 16777216), fun M2 hM2 => ?_⟩
          have s7 := same_new (o := .lst [V.non, .non, .ref p2]) hM2
          have s17 := s1.trans (s2.trans (s3.trans (s4.trans (s5.trans (s6.trans s7)))))
          refine ⟨M, M2, _, _, rfl, rfl, s17 _ _ hM, upd_same, by rw [sl]; exact (by decide : (2 + 3 : Nat) ≤ 16777216), fun M3 hM3 => ?_⟩
          have s8 := same_new (o := .lst ([V.ref p1, .non] ++ [V.non, .non, .ref p2])) hM3
          refine gn_i ?_
          dsimp only
          exact go4 _ M3 p2 (fr.same (s17.trans s8)) upd_same
        clear e3
        refine ⟨_, rfl, _, rfl, by decide, fun t1 n1 => ⟨by rw [sl]; exact (by decide : (6 : Nat) ≤ 16777216), fun t2 n2 => ⟨by rw [sl]; exact (by decide : (3 : Nat) ≤ 16777216), fun l1 m1 => ?_⟩⟩⟩
        have s1 := same_new (o := .tup ((signs "opqrstuv").map V.str)) n1
        have s2 := same_new (o := .tup [V.str "w", .str "x", .str "y", .str "z", .str "ww", .str "zz"]) n2
        have s3 := same_new (o := .lst [V.ref tA, .ref t1, .ref t2]) m1
        have d1 : Dz K w (fun _ => True) (upd (upd (upd H2 t1 (.tup ((signs "opqrstuv").map V.str))) t2 (.tup [V.str "w", .str "x", .str "y", .str "z", .str "ww", .str "zz"])) l1 (.lst [V.ref tA, .ref t1, .ref t2])) (.ref t1) posD := kpT m1 (kpT n2 (mkT n1 (dzs_strs _)))
        have d2 : Dz K w (fun _ => True) (upd (upd (upd H2 t1 (.tup ((signs "opqrstuv").map V.str))) t2 (.tup [V.str "w", .str "x", .str "y", .str "z", .str "ww", .str "zz"])) l1 (.lst [V.ref tA, .ref t1, .ref t2])) (.ref t2) valD := kpT m1 (mkT n2 (dzs_strs ["w", "x", "y", "z", "ww", "zz"]))
        have r1 : LRow K w (fun _ => True) _ l1 arrD posD valD := ⟨⟨_, _, _, upd_same, dz_mono (Keep.same (s1.trans (s2.trans s3))) _ _ dA, d1, d2⟩, law_sm, law_ln, law_li⟩
        refine ⟨_, l1, arrD, posD, valD, rfl, r1, fun z => absurd z (by rw [law_fr]; decide), fun _ H3 p1 s4 np fr => ?_⟩
        refine ⟨by rw [sl]; exact (by decide : (2 : Nat) ≤ 16777216), fun t3 n3 => ⟨by rw [sl]; exact (by decide : (1 : Nat) ≤ 16777216), fun t4 n4 => ⟨by rw [sl]; exact (by decide : (0 : Nat) ≤ 16777216), fun t5 n5 => ⟨by rw [sl]; exact (by decide : (0 : Nat) ≤ 16777216), fun t6 n6 => ⟨by rw [sl]; exact (by decide : (3 : Nat) ≤ 16777216), fun l2 m2 => ?_⟩⟩⟩⟩⟩
        have r2 : LRow K w (fun _ => True) _ l2 (.tuple [.tuple [.str "a", .str "a"]]) (.tuple []) (.tuple []) := ⟨⟨_, _, _, upd_same, kpT m2 (kpT n6 (kpT n5 (mkT n4 (.cons (mkT n3 (.cons (.str _) (.cons (.str _) .nil))) .nil)))), kpT m2 (kpT n6 (mkT n5 .nil)), kpT m2 (mkT n6 .nil)⟩, by decide +kernel, by decide +kernel, by decide +kernel⟩
        have s5 := (same_new (o := .tup [V.str "a", .str "a"]) n3).trans ((same_new (o := .tup [V.ref t3]) n4).trans ((same_new (o := .tup []) n5).trans ((same_new (o := .tup []) n6).trans (same_new (o := .lst [V.ref t4, .ref t5, .ref t6]) m2))))
        refine ⟨_, l2, _, _, _, rfl, r2, fun _ H4 s6 => ?_, fun z => absurd z (by decide +kernel)⟩
        refine ⟨by rw [sl]; exact (by decide : (2 : Nat) ≤ 16777216), fun M hM => ?_⟩
        have s7 := same_new (o := .lst [V.ref p1, .non]) hM
        refine gn_i ?_
        dsimp only
        exact go3 _ M p1 (fr.same (s5.trans (s6.trans s7))) upd_same
      clear e2
      refine ⟨_, rfl, fun D hD => ?_⟩
      refine lc_enumS (fun k H => ExtN H1 H ∧ Tabs [] H ∧ ∃ rows, H D = some (.lst rows) ∧ rows.length = k ∧ DzAll K w (fun a => a ≠ D) H rows ((List.range k).map arD))
        ⟨ExtN.of (same_new hD), (fun p hp => by cases hp), [], upd_same, rfl, .nil⟩ (fun k c0 J TT hc0 h hTT => ?_) fun J h => ?_
      · obtain ⟨xJ, tJ, rows, hr2, lr, dr⟩ := h
        have hk : k < 12 := (Array.getElem?_eq_some_iff.mp hc0).1
        have ec : c0 = (Str.ofString "abcdefghijkl").cps.getD k 0 := by rw [Array.getD_eq_getD_getElem?, hc0]; rfl
        have sT := same_new (o := .tup [V.int (k : Int), V.str ⟨#[c0]⟩]) hTT
        refine ⟨TT, _, rfl, .inl (.inl upd_same), rfl, ?_⟩
        refine ⟨_, _, rfl, ?_⟩
        refine gn_i ?_
        refine ⟨_, _, rfl, ?_⟩
        refine gn_i ⟨rfl, rfl, ?_⟩
        have n1 := nm_at k hk
        refine ⟨_, rfl, _, rfl, .inl ⟨_, rfl, _, _, rfl, rfl, (by decide : (0 : Int) < 2), _, _, cN k, rfl, rfl, by rw [sl]; exact (by decide : (2 : Nat) ≤ 16777216), n1, by rw [sl]; exact (by decide : (2 : Nat) ≤ 16777216), fun p hp => ?_⟩⟩
        have sp := same_new (o := .tup [V.str ⟨#[c0]⟩, V.str ⟨#[cN k]⟩]) hp
        refine rows_step (F := arD) hD xJ hr2 lr (by omega) dr (ExtN.of (sT.trans sp)) (fun p hp => by cases hp) ?_
        have := mkT (K := K) (w := w) (ok := fun a => a ≠ D) hp (.cons (.str ⟨#[c0]⟩) (.cons (.str ⟨#[cN k]⟩) .nil))
        rw [ec] at this ⊢
        exact this
      · obtain ⟨xJ, tJ, rows, hr2, lr, dr⟩ := h
        have lr : rows.length = 12 := lr
        refine ⟨D, rows, rfl, .inl ⟨.inl (.inl hr2), fun tA hA => ?_⟩⟩
        refine gn_i ?_
        dsimp only
        exact go2 _ tA (mkT hA (dzs_imp (fun _ _ => True.intro) _ _ dr))
    clear e1
    refine ⟨_, rfl, _, rfl, by omega, by omega, ?_⟩
    refine for_steady steady_rng (fun i σ H' => (∃ z2 z3 : Option V, σ = [some (.ref a), some (.int c), z2, z3, none, none, none, none]) ∧ SqL K H' a (ns.map V.int) ∧ Tabs [(PT, qL)] H') ⟨⟨_, _, rfl⟩, hS, hT⟩ (fun _ _ _ _ _ => trivial) ?_ ?_
    · rintro i σ H1 hi ⟨⟨z2, z3, rfl⟩, sq, tT⟩
      have hi3 : i < 4 := Nat.lt_of_lt_of_le hi (by omega)
      refine gn_i ?_
      refine ⟨_, rfl, _, rfl, _, rfl, a, ns, 0 + (i : Int), c, rfl, sq, by omega, by omega, by omega, by omega, fun H2 S G s2 sk nS nG => ?_⟩
      refine gn_i ?_
      dsimp only
      refine ⟨_, rfl, S, G, 0, rfl, sk, by decide, fun H3 b3 k3 => ⟨_, rfl, iteF ?_⟩⟩
      have tT3 := Tabs.but (Tabs.ext tT s2) b3 sk
      refine ⟨_, rfl, S, G, 0 + 200, rfl, k3, by decide, tT3, fun H4 b4 k4 t4 => ⟨_, rfl, iteF ?_⟩⟩
      refine ⟨_, rfl, S, G, 0 + 200 + 2, rfl, k4, by decide, fun H5 b5 k5 => ⟨_, rfl, iteF ?_⟩⟩
      exact ⟨⟨_, _, rfl⟩, ButT.seq0 s2 nS nG (((ButT.but b3).trans b4).trans (ButT.but b5)) sq, Tabs.but t4 b5 k4⟩
    rintro σ H1 ⟨⟨z2, z3, rfl⟩, sq, tT⟩
    exact go1 H1 z2 z3
end
end Fc
/-! the law's row, with one table of code objects -/
namespace Fc
open PySem L2 PyProof.Rows LamX
/-- at the law's beginning: the empty table at p, the script locked or nothing -/
def tabH (p : Addr) (H : Hp) : Hp := fun b => if b = p then some (.tbl #[]) else H b
theorem tabH_at {p : Addr} {H : Hp} : tabH p H p = some (.tbl #[]) := if_pos rfl
theorem tabH_ne {p b : Addr} {H : Hp} (h : b ≠ p) : tabH p H b = H b := if_neg h
theorem lawTb {P : Program} {w : World} {K : PySem.W.Frag} {mg mb : Str → Option Value} {k : Nat} {fa a c p : Addr} {fd : FuncData} {x : Str} {sp : Sp} {s₁ : Shared} {vs : List Value} {ns : List Int} (KX : K.In s₁.heap) (hns : s₁.heap.Ns mainGlobals mg) (hb : s₁.heap.Ns builtinsNs mb)
    (hbb : ∀ x : Str, x ≠ "__name__" → mb x = bootBuiltins x) (hlim : s₁.heap.NoLimit) (hg : s₁.gens = #[]) (ha : s₁.heap.get? a = some { cls := .type "list", data := .seq vs.toArray }) (hi : IntsAre vs ns) (hl : ns.length ≤ sizeLine) (hr : Room k callerA)
    (hp : s₁.heap.get? p = some { cls := .none, data := .fields #[] }) (np : K.lookup p = none) (hc : PySem.W.codeHdIn K c p = true)
    (hbm : ∃ (bm : Addr) (ob : Obj), mg "__builtins__" = some (.ref bm) ∧ bm ≠ builtinsNs ∧ s₁.heap.get? bm = some ob ∧ ob.cls = .type "module" ∧ ob.dict = some builtinsNs ∧ ob.data = .plain)
    (F : ∀ base : Heap, K.In base → base.Ns mainGlobals mg → TabB base mg c p → FnG P w K mg base k fa fd [x] sp) (hbind : ∀ (s : Shared) (u : Value), BindsTo s fd ⟨[u], []⟩ [(x, u)])
    (hsp : ∀ H : Hp, H p = some (.tbl #[]) → SqL K H a (ns.map V.int) → sp [.ref a] H (fun v _ => v = .bl true) fun _ _ _ => False) :
    codeAny (model P w) callerA (.call (.ref fa) ⟨[.ref a], []⟩) (fun out z => out = .ok (.ret (.bool true)) ∧ OldK s₁.heap z.heap ∧ z.os = s₁.os ∧ AllBare z.gens) s₁ := by
  have rv := vals_of_ints hi
  have nap : a ≠ p := fun z => by
    rw [z, hp] at ha
    cases ha
  obtain ⟨t, htr, hS0⟩ : ∃ t : Bool, (t = true → K.lookup a = none) ∧ SqL K (startH a vs ns t) a (ns.map V.int) := by
    cases e : K.lookup a with
    | none => exact ⟨true, fun _ => rfl, .inl (.inr ⟨_, if_pos ⟨rfl, rfl⟩⟩)⟩
    | some o =>
      have q := KX a o e
      rw [ha] at q
      cases q
      refine ⟨false, fun z => (nomatch z), .inr ⟨_, vs.toArray, _, e, rfl, rfl, rfl, ?_, by simpa using rv⟩⟩
      have l := hi.length
      rw [List.size_toArray]
      omega
  have hS : SqL K (tabH p (startH a vs ns t)) a (ns.map V.int) := by
    rcases hS0 with (h | ⟨o, h⟩) | h
    · exact .inl (.inl (by rw [tabH_ne nap]; exact h))
    · exact .inl (.inr ⟨o, by rw [tabH_ne nap]; exact h⟩)
    · exact .inr h
  have what : ∀ {b : Addr} {u : HO}, tabH p (startH a vs ns t) b = some u → (b = p ∧ u = .tbl #[]) ∨ (b = a ∧ t = true ∧ u = .frz { cls := .type "list", data := .seq vs.toArray } (.lst (ns.map V.int))) := fun {b u} e => by
    by_cases z : b = p
    · rw [z, tabH_at] at e
      exact .inl ⟨z, (Option.some.inj e).symm⟩
    · rw [tabH_ne z] at e
      exact .inr (startH_some e)
  have hok : HOk P w (tabH p (startH a vs ns t)) s₁.heap := fun b u e => by
    rcases what e with ⟨rfl, rfl⟩ | ⟨rfl, _, rfl⟩
    · exact hp
    · refine ⟨ha, ?_, vs, _, rv, ha⟩
      simpa using hl
  have bare0 : ∀ {b : Addr} {o : Obj}, s₁.heap.get? b = some o → o.data ≠ .fields #[] → (∀ vs n, o.data ≠ .seq vs n) → tabH p (startH a vs ns t) b = none := fun {b o} e h1 h2 => by
    cases q : tabH p (startH a vs ns t) b with
    | none => rfl
    | some u =>
      rcases what q with ⟨rfl, _⟩ | ⟨rfl, _, _⟩
      · rw [hp] at e; cases e; exact (h1 rfl).elim
      · rw [ha] at e; cases e; exact (h2 _ _ rfl).elim
  have nsK : ∀ {b : Addr} {m : Str → Option Value}, s₁.heap.Ns b m → (hidT s₁.heap (tabH p (startH a vs ns t))).Ns b m := fun {b m} ⟨o, es, ep, e, d, r⟩ => ⟨o, es, ep, hidT_get e (bare0 e (by rw [d]; exact fun z => nomatch z) (fun _ _ => by rw [d]; exact fun z => nomatch z)), d, r⟩
  have hKb : K.In (hidT s₁.heap (tabH p (startH a vs ns t))) := fun b o e => hidT_get (KX b o e) (by
    cases q : tabH p (startH a vs ns t) b with
    | none => rfl
    | some u =>
      rcases what q with ⟨rfl, _⟩ | ⟨rfl, tt, _⟩
      · rw [np] at e; cases e
      · rw [htr tt] at e; cases e)
  have hM : Mod K mg (hidT s₁.heap (tabH p (startH a vs ns t))) := ⟨hKb, nsK hns, ⟨mb, nsK hb, hbb⟩, let ⟨mc, h1, h2⟩ := hlim; ⟨mc, nsK h1, h2⟩⟩
  have e0 : Env0 P w K mg (hidT s₁.heap (tabH p (startH a vs ns t))) callerA [] s₁ (tabH p (startH a vs ns t)) :=
    ⟨rfl, hM, fun b o e => of_hidT e, Nat.le_of_eq (hidT_size _ _), trivial, fun b hb => absurd (show b ∈ ([] : List Addr) from hb) (by simp), hok, .of_eq hg⟩
  have TB : TabB (hidT s₁.heap (tabH p (startH a vs ns t))) mg c p := by
    have nd : ∀ {b : Addr} {m : Str → Option Value}, s₁.heap.Ns b m → b ≠ p := fun {b m} ⟨o, es, ep, e, d, _⟩ z => by
      rw [z, hp] at e
      cases e
      cases d
    refine NdefX.tabB_of_K hKb hc ?_ (nd hns)
    obtain ⟨bm, ob, b1, b2, b3, b4, b5, b6⟩ := hbm
    refine ⟨bm, ob, b1, b2, fun z => ?_, fun z => ?_, hidT_get b3 (bare0 b3 (by rw [b6]; exact fun z => nomatch z) (fun _ _ => by rw [b6]; exact fun z => nomatch z)), b4, b5, b6⟩
    · obtain ⟨o, es, ep, e, d, _⟩ := hns
      rw [z, e] at b3
      cases b3
      rw [d] at b6
      cases b6
    · rw [z, hp] at b3
      cases b3
      cases b6
  refine codeAny_mono ((F _ hKb (nsK hns) TB).run callerA [] s₁ _ ⟨[.ref a], []⟩ [.ref a] [.ref a] _ _ rfl hr e0 (hbind s₁ (.ref a)) (.cons rfl .nil) (hsp _ tabH_at hS)) fun r s' h => ?_
  cases r with
  | error e => exact (show False from h).elim
  | ok fl =>
    cases fl with
    | next => exact (show False from h).elim
    | brk => exact (show False from h).elim
    | cont => exact (show False from h).elim
    | ret u =>
      obtain ⟨v, H', os, bare, un, hok', r', q⟩ := h
      obtain rfl : v = .bl true := q
      obtain rfl : u = Value.bool true := r'
      have bare_ : ∀ b : Addr, b ∉ ([] : List Addr) := fun _ => List.not_mem_nil
      have stay : ∀ b o, b ≠ p → s₁.heap.get? b = some o → s'.heap.get? b = some o := fun b o nb e => by
        cases q : tabH p (startH a vs ns t) b with
        | none => exact un.keep b o e q (bare_ b) (bare_ b)
        | some u =>
          rcases what q with ⟨z, _⟩ | ⟨rfl, _, rfl⟩
          · exact absurd z nb
          · have z := un.frzs _ _ _ q
            obtain ⟨e2, _⟩ := hok' _ _ z
            rw [ha] at e
            cases e
            exact e2
      obtain ⟨more, z⟩ := un.tbls p #[] tabH_at
      have grown : s'.heap.get? p = some { cls := .none, data := .fields (#[] ++ more) } := hok' p _ z
      have isT := ((PySem.W.codeHd_of_K KX hc).tab hp).isCodeTable
      refine ⟨rfl, ⟨fun b o e => ?_, fun b o e => ?_⟩, os, bare⟩
      · by_cases hb : b = p
        · subst hb
          rw [hp] at e
          cases e
          exact .inr (.inl ⟨isT, rfl, #[], more, rfl, grown⟩)
        · exact .inl (stay b o hb e)
      · by_cases hb : b = p
        · rw [hb]; exact ⟨_, grown⟩
        · exact ⟨o, stay b o hb e⟩
theorem walkT {l : PySem.W.OpenLaw} {n k : Nat} {q : Program} {loose : List Str} {XP : (Str → Option Value) → Heap → Prop} {YP : World → Heap → Prop} {d : DefRec} {K : Params → PySem.W.Frag} {sp : Addr → PySem.W.Frag → Sp} {x : Str} {p : Addr} (hn : l.most = some n) (hn2 : n ≤ sizeLine) (hdf : d.params.defaults = [])
    (hr : Room k callerA) (hY : ∀ (w : World) (h : Heap), YP w h → (K w.params).In h) (hP : ∀ (w : World) (h : Heap), YP w h → h.get? p = some { cls := .none, data := .fields #[] })
    (made : ∀ (w : World) (names : Str → Option Value) (at_ : Addr) (h : Heap), (K w.params).In h → h.Ns mainGlobals names → names d.name = some (.ref at_) →
      ∃ (fd : FuncData) (c : Addr), (K w.params).lookup p = none ∧ PySem.W.codeHdIn (K w.params) c p = true ∧ (∀ (s : Shared) (u : Value), BindsTo s fd ⟨[u], []⟩ [(x, u)]) ∧ ∀ base : Heap, (K w.params).In base → base.Ns mainGlobals names → TabB base names c p → FnG l.prog w (K w.params) names base k at_ fd [x] (sp p (K w.params)))
    (hsp : ∀ (K : PySem.W.Frag) (H : Hp) (a : Addr) (ns : List Int), ns.length ≤ n → H p = some (.tbl #[]) → SqL K H a (ns.map V.int) → sp p K [.ref a] H (fun v _ => v = .bl true) fun _ _ _ => False) : PySem.W.WalkO q loose XP YP l.row.toRowW d [] (fun f vs => PySem.call f vs) :=
  Att.attach_callB hn hdf fun w _ s names _ at_ _ _ _ _ a vs ns G Y _ _ _ here obj whole short bits bare =>
    let KX := hY w _ Y
    let ⟨_, _, np, hc, bind, F⟩ := made w names at_ _ KX G.T.g here
    lawTb KX G.T.g G.T.b G.T.builtins G.T.nolimit bare obj whole (Nat.le_trans short hn2) hr (hP w _ Y) np hc G.T.bmain F bind fun H hH sq => hsp _ H a ns short hH sq
end Fc
namespace Fc
open PySem L2 PyProof.Rows LamX
theorem all16 {P : Nat → Prop} (h0 : P 0) (h1 : P 1) (h2 : P 2) (h3 : P 3) (h4 : P 4) (h5 : P 5) (h6 : P 6) (h7 : P 7) (h8 : P 8) (h9 : P 9) (h10 : P 10) (h11 : P 11) (h12 : P 12) (h13 : P 13) (h14 : P 14) (h15 : P 15) : ∀ i, i < 16 → P i := fun i hi => by
  match i, hi with
  | 0, _ => exact h0
  | 1, _ => exact h1
  | 2, _ => exact h2
  | 3, _ => exact h3
  | 4, _ => exact h4
  | 5, _ => exact h5
  | 6, _ => exact h6
  | 7, _ => exact h7
  | 8, _ => exact h8
  | 9, _ => exact h9
  | 10, _ => exact h10
  | 11, _ => exact h11
  | 12, _ => exact h12
  | 13, _ => exact h13
  | 14, _ => exact h14
  | 15, _ => exact h15
  | n + 16, h => exact absurd h (by omega)
theorem all6 {P : Nat → Prop} (h0 : P 0) (h1 : P 1) (h2 : P 2) (h3 : P 3) (h4 : P 4) (h5 : P 5) : ∀ i, i < 6 → P i := fun i hi => by
  match i, hi with
  | 0, _ => exact h0
  | 1, _ => exact h1
  | 2, _ => exact h2
  | 3, _ => exact h3
  | 4, _ => exact h4
  | 5, _ => exact h5
  | n + 6, h => exact absurd h (by omega)
theorem all10 {P : Nat → Prop} (h6 : P 6) (h7 : P 7) (h8 : P 8) (h9 : P 9) (h10 : P 10) (h11 : P 11) (h12 : P 12) (h13 : P 13) (h14 : P 14) (h15 : P 15) : ∀ i, 6 ≤ i → i < 16 → P i := fun i hge hi => by
  match i, hge, hi with
  | 0, hge, _ => exact absurd hge (by omega)
  | 1, hge, _ => exact absurd hge (by omega)
  | 2, hge, _ => exact absurd hge (by omega)
  | 3, hge, _ => exact absurd hge (by omega)
  | 4, hge, _ => exact absurd hge (by omega)
  | 5, hge, _ => exact absurd hge (by omega)
  | 6, _, _ => exact h6
  | 7, _, _ => exact h7
  | 8, _, _ => exact h8
  | 9, _, _ => exact h9
  | 10, _, _ => exact h10
  | 11, _, _ => exact h11
  | 12, _, _ => exact h12
  | 13, _, _ => exact h13
  | 14, _, _ => exact h14
  | 15, _, _ => exact h15
  | n + 16, _, h => exact absurd h (by omega)
theorem tail_tl (i : Nat) : PySem.W.excTail (tlE i) (tlE i) = true := by
  unfold tlE
  split <;> decide +kernel
theorem tail_bm (e : Nat → Addr) (i : Nat) : PySem.W.excTail (tlE i) (bmE e i) = true := by
  unfold bmE
  cases frE i with
  | false => exact tail_tl i
  | true => exact tail_tl i
theorem over_ref {B : String} {bm : List Value} (V : FcX.Over B bm) (a : Addr) : FcX.Over B (.ref a :: bm) := by
  refine ⟨?_, ?_, ?_⟩
  · rw [List.contains_cons, V.has, Bool.or_true]
  · rw [List.contains_cons, V.noA]; rfl
  · rw [List.contains_cons, V.noN]; rfl
theorem addr_nd {l : List Addr} (h : l.Nodup) {i j : Nat} (hi : i < l.length) (hj : j < l.length) (e : l.getD i 0 = l.getD j 0) : i = j := by
  rw [List.getD_eq_getElem?_getD, List.getD_eq_getElem?_getD, List.getElem?_eq_getElem hi, List.getElem?_eq_getElem hj] at e
  exact (List.getElem_inj h).mp e
theorem prop_mk {P : Program} {w : World} {K : PySem.W.Frag} {mg : Str → Option Value} {base : Heap} {C p g : Addr} {name qual f : Str} {st : Stmt} {kV doc pm cdv ct oc : Value} {an od : Option Addr} {osl : Array (Option Value)} {rest : List Value} {p1 p2 p3 : Pos} (a : PySem.W.findIn K (.ref C) name = some (some (.ref p))) (gt : PySem.W.specialIn K (.ref p) "__get__" = some (some (.builtin "property.__get__"))) (tk : PySem.W.takesIn K (.ref p) = some true) (rc : PySem.W.recIn K p "property" = some (.ref g :: rest))
    (lk : K.lookup g = some ⟨oc, od, .func (PySem.W.fnOf name qual (defArgs st) (defBody st) (defScope st) .none kV doc pm an cdv ct), osl⟩) (hcd : PySem.W.codeIn K cdv qual = true) (S : FnScope ["self"] ["self"] (defScope st)) (hb : defBody st = [.Return (some (.Attribute (.Name "self" p1) f p2)) p3]) (c : Cls K C) (n : NoAttr K C f) (bd : Binds K (PySem.W.fnOf name qual (defArgs st) (defBody st) (defScope st) .none kV doc pm an cdv ct) ["self"] []) : PropM P w K mg base C name f :=
  ⟨p, g, _, ⟨a, gt, tk, _, rc⟩, fn_getter (k := 0) lk hcd S rfl hb c n, bd⟩
theorem all_mk {P : Program} {w : World} {K : PySem.W.Frag} {h : Heap} {mg : Str → Option Value} {fa PT : Addr} (X : K.In h) (G : h.Ns mainGlobals mg) (hfa : mg "law" = some (.ref fa))
    {fs11 fs21 fs23 fs24 fs27 fs28 fs29 fs30 fs33 fs34 fs35 fs36 fs37 fs38 fs39 fs40 fk41 fk42 fk43 fk44 fk45 fk46 fk47 fk48 fk49 fk50 fk51 fk52 fk53 fk54 fk55 fk56 fM0 fM5 fM6 fM7 fM13 fM14 fM15 fM16 fP1 fP2 fP3 fP4 fI0 fI1 fI2 fI3 fI4 fI5 C c54 p1 p2 p3 p4 E0 E1 E2 E3 E4 E5 E6 E7 E8 E9 E10 E11 E12 E13 E14 E15 NE0 NE1 NE2 NE3 NE4 NE5 NE6 NE7 NE8 NE9 NE10 NE11 NE12 NE13 NE14 NE15 : Addr} {ods11 ods21 ods23 ods24 ods27 ods28 ods29 ods30 ods33 ods34 ods35 ods36 ods37 ods38 ods39 ods40 odk41 odk42 odk43 odk44 odk45 odk46 odk47 odk48 odk49 odk50 odk51 odk52 odk53 odk54 odk55 odk56 odM0 odM5 odM6 odM7 odM13 odM14 odM15 odM16 odP1 odP2 odP3 odP4 odI0 odI1 odI2 odI3 odI4 odI5 ans11 ans21 ans23 ans24 ans27 ans28 ans29 ans30 ans33 ans34 ans35 ans36 ans37 ans38 ans39 ans40 ank41 ank42 ank43 ank44 ank45 ank46 ank47 ank48 ank49 ank50 ank51 ank52 ank53 ank54 ank55 ank56 anM0 anM5 anM6 anM7 anM13 anM14 anM15 anM16 anP1 anP2 anP3 anP4 anI0 anI1 anI2 anI3 anI4 anI5 ddE0 ddE1 ddE2 ddE3 ddE4 ddE5 ddE6 ddE7 ddE8 ddE9 ddE10 ddE11 ddE12 ddE13 ddE14 ddE15 : Option Addr} {sls11 sls21 sls23 sls24 sls27 sls28 sls29 sls30 sls33 sls34 sls35 sls36 sls37 sls38 sls39 sls40 slk41 slk42 slk43 slk44 slk45 slk46 slk47 slk48 slk49 slk50 slk51 slk52 slk53 slk54 slk55 slk56 slM0 slM5 slM6 slM7 slM13 slM14 slM15 slM16 slP1 slP2 slP3 slP4 slI0 slI1 slI2 slI3 slI4 slI5 : Array (Option Value)}
    {nmE0 nmE1 nmE2 nmE3 nmE4 nmE5 nmE6 nmE7 nmE8 nmE9 nmE10 nmE11 nmE12 nmE13 nmE14 nmE15 qE0 qE1 qE2 qE3 qE4 qE5 qE6 qE7 qE8 qE9 qE10 qE11 qE12 qE13 qE14 qE15 : Str} {bsE0 bsE1 bsE2 bsE3 bsE4 bsE5 bsE6 bsE7 bsE8 bsE9 bsE10 bsE11 bsE12 bsE13 bsE14 bsE15 suE0 suE1 suE2 suE3 suE4 suE5 suE6 suE7 suE8 suE9 suE10 suE11 suE12 suE13 suE14 suE15 rP1 rP2 rP3 rP4 : List Value} {snE0 snE1 snE2 snE3 snE4 snE5 snE6 snE7 snE8 snE9 snE10 snE11 snE12 snE13 snE14 snE15 : List Str} {abE0 abE1 abE2 abE3 abE4 abE5 abE6 abE7 abE8 abE9 abE10 abE11 abE12 abE13 abE14 abE15 : Bool} {coE0 coE1 coE2 coE3 coE4 coE5 coE6 coE7 coE8 coE9 coE10 coE11 coE12 coE13 coE14 coE15 : Option Bool} {z0E0 z1E0 z2E0 z3E0 z5E0 z0E1 z1E1 z2E1 z3E1 z5E1 z0E2 z1E2 z2E2 z3E2 z5E2 z0E3 z1E3 z2E3 z3E3 z5E3 z0E4 z1E4 z2E4 z3E4 z5E4 z0E5 z1E5 z2E5 z3E5 z5E5 z0E6 z1E6 z2E6 z3E6 z5E6 z0E7 z1E7 z2E7 z3E7 z5E7 z0E8 z1E8 z2E8 z3E8 z5E8 z0E9 z1E9 z2E9 z3E9 z5E9 z0E10 z1E10 z2E10 z3E10 z5E10 z0E11 z1E11 z2E11 z3E11 z5E11 z0E12 z1E12 z2E12 z3E12 z5E12 z0E13 z1E13 z2E13 z3E13 z5E13 z0E14 z1E14 z2E14 z3E14 z5E14 z0E15 z1E15 z2E15 z3E15 z5E15 : Option Value}
    {ocs11 kVs11 dcs11 pms11 cts11 cds11 ocs21 kVs21 dcs21 pms21 cts21 cds21 ocs23 kVs23 dcs23 pms23 cts23 cds23 ocs24 kVs24 dcs24 pms24 cts24 cds24 ocs27 kVs27 dcs27 pms27 cts27 cds27 ocs28 kVs28 dcs28 pms28 cts28 cds28 ocs29 kVs29 dcs29 pms29 cts29 cds29 ocs30 kVs30 dcs30 pms30 cts30 cds30 ocs33 kVs33 dcs33 pms33 cts33 cds33 ocs34 kVs34 dcs34 pms34 cts34 cds34 ocs35 kVs35 dcs35 pms35 cts35 cds35 ocs36 kVs36 dcs36 pms36 cts36 cds36 ocs37 kVs37 dcs37 pms37 cts37 cds37 ocs38 kVs38 dcs38 pms38 cts38 cds38 ocs39 kVs39 dcs39 pms39 cts39 cds39 ocs40 kVs40 dcs40 pms40 cts40 cds40 ock41 kVk41 dck41 pmk41 ctk41 cdk41 ock42 kVk42 dck42 pmk42 ctk42 cdk42 ock43 kVk43 dck43 pmk43 ctk43 cdk43 ock44 kVk44 dck44 pmk44 ctk44 cdk44 ock45 kVk45 dck45 pmk45 ctk45 cdk45 ock46 kVk46 dck46 pmk46 ctk46 cdk46 ock47 kVk47 dck47 pmk47 ctk47 cdk47 ock48 kVk48 dck48 pmk48 ctk48 cdk48 ock49 kVk49 dck49 pmk49 ctk49 cdk49 ock50 kVk50 dck50 pmk50 ctk50 cdk50 ock51 kVk51 dck51 pmk51 ctk51 cdk51 ock52 kVk52 dck52 pmk52 ctk52 cdk52 ock53 kVk53 dck53 pmk53 ctk53 cdk53 ock54 kVk54 dck54 pmk54 ctk54 ock55 kVk55 dck55 pmk55 ctk55 cdk55 ock56 kVk56 dck56 pmk56 ctk56 cdk56 ocM0 kVM0 dcM0 pmM0 ctM0 cdM0 ocM5 kVM5 dcM5 pmM5 ctM5 cdM5 ocM6 kVM6 dcM6 pmM6 ctM6 cdM6 ocM7 kVM7 dcM7 pmM7 ctM7 cdM7 ocM13 kVM13 dcM13 pmM13 ctM13 cdM13 ocM14 kVM14 dcM14 pmM14 ctM14 cdM14 ocM15 kVM15 dcM15 pmM15 ctM15 cdM15 ocM16 kVM16 dcM16 pmM16 ctM16 cdM16 ocP1 kVP1 dcP1 pmP1 ctP1 cdP1 ocP2 kVP2 dcP2 pmP2 ctP2 cdP2 ocP3 kVP3 dcP3 pmP3 ctP3 cdP3 ocP4 kVP4 dcP4 pmP4 ctP4 cdP4 ocI0 kVI0 dcI0 pmI0 ctI0 cdI0 ocI1 kVI1 dcI1 pmI1 ctI1 cdI1 ocI2 kVI2 dcI2 pmI2 ctI2 cdI2 ocI3 kVI3 dcI3 pmI3 ctI3 cdI3 ocI4 kVI4 dcI4 pmI4 ctI4 cdI4 ocI5 kVI5 dcI5 pmI5 ctI5 cdI5 : Value} {t12 tp8 tv6 : Tok}
    (as11 : PySem.W.nsIn K mainGlobals "kind_among" = some (some (.ref fs11))) (ls11 : K.lookup fs11 = some ⟨ocs11, ods11, .func (PySem.W.fnOf "kind_among" "kind_among" (defArgs (topS 11)) (defBody (topS 11)) (defScope (topS 11)) .none kVs11 dcs11 pms11 ans11 cds11 cts11), sls11⟩) (cs11 : PySem.W.codeIn K cds11 "kind_among" = true) (ks11 : PySem.W.keepIn K (.ref fs11) = true)
    (as21 : PySem.W.nsIn K mainGlobals "is_name" = some (some (.ref fs21))) (ls21 : K.lookup fs21 = some ⟨ocs21, ods21, .func (PySem.W.fnOf "is_name" "is_name" (defArgs (topS 21)) (defBody (topS 21)) (defScope (topS 21)) .none kVs21 dcs21 pms21 ans21 cds21 cts21), sls21⟩) (cs21 : PySem.W.codeIn K cds21 "is_name" = true) (ks21 : PySem.W.keepIn K (.ref fs21) = true)
    (as23 : PySem.W.nsIn K mainGlobals "shown_pairs" = some (some (.ref fs23))) (ls23 : K.lookup fs23 = some ⟨ocs23, ods23, .func (PySem.W.fnOf "shown_pairs" "shown_pairs" (defArgs (topS 23)) (defBody (topS 23)) (defScope (topS 23)) .none kVs23 dcs23 pms23 ans23 cds23 cts23), sls23⟩) (cs23 : PySem.W.codeIn K cds23 "shown_pairs" = true) (ks23 : PySem.W.keepIn K (.ref fs23) = true)
    (as24 : PySem.W.nsIn K mainGlobals "shown_words" = some (some (.ref fs24))) (ls24 : K.lookup fs24 = some ⟨ocs24, ods24, .func (PySem.W.fnOf "shown_words" "shown_words" (defArgs (topS 24)) (defBody (topS 24)) (defScope (topS 24)) .none kVs24 dcs24 pms24 ans24 cds24 cts24), sls24⟩) (cs24 : PySem.W.codeIn K cds24 "shown_words" = true) (ks24 : PySem.W.keepIn K (.ref fs24) = true)
    (as27 : PySem.W.nsIn K mainGlobals "are_pairs" = some (some (.ref fs27))) (ls27 : K.lookup fs27 = some ⟨ocs27, ods27, .func (PySem.W.fnOf "are_pairs" "are_pairs" (defArgs (topS 27)) (defBody (topS 27)) (defScope (topS 27)) .none kVs27 dcs27 pms27 ans27 cds27 cts27), sls27⟩) (cs27 : PySem.W.codeIn K cds27 "are_pairs" = true) (ks27 : PySem.W.keepIn K (.ref fs27) = true)
    (as28 : PySem.W.nsIn K mainGlobals "different_lengths" = some (some (.ref fs28))) (ls28 : K.lookup fs28 = some ⟨ocs28, ods28, .func (PySem.W.fnOf "different_lengths" "different_lengths" (defArgs (topS 28)) (defBody (topS 28)) (defScope (topS 28)) .none kVs28 dcs28 pms28 ans28 cds28 cts28), sls28⟩) (cs28 : PySem.W.codeIn K cds28 "different_lengths" = true) (ks28 : PySem.W.keepIn K (.ref fs28) = true)
    (as29 : PySem.W.nsIn K mainGlobals "is_frame_content" = some (some (.ref fs29))) (ls29 : K.lookup fs29 = some ⟨ocs29, ods29, .func (PySem.W.fnOf "is_frame_content" "is_frame_content" (defArgs (topS 29)) (defBody (topS 29)) (defScope (topS 29)) .none kVs29 dcs29 pms29 ans29 cds29 cts29), sls29⟩) (cs29 : PySem.W.codeIn K cds29 "is_frame_content" = true) (ks29 : PySem.W.keepIn K (.ref fs29) = true)
    (as30 : PySem.W.nsIn K mainGlobals "kinds_of_names" = some (some (.ref fs30))) (ls30 : K.lookup fs30 = some ⟨ocs30, ods30, .func (PySem.W.fnOf "kinds_of_names" "kinds_of_names" (defArgs (topS 30)) (defBody (topS 30)) (defScope (topS 30)) .none kVs30 dcs30 pms30 ans30 cds30 cts30), sls30⟩) (cs30 : PySem.W.codeIn K cds30 "kinds_of_names" = true) (ks30 : PySem.W.keepIn K (.ref fs30) = true)
    (as33 : PySem.W.nsIn K mainGlobals "_law_skein" = some (some (.ref fs33))) (ls33 : K.lookup fs33 = some ⟨ocs33, ods33, .func (PySem.W.fnOf "_law_skein" "_law_skein" (defArgs (topS 33)) (defBody (topS 33)) (defScope (topS 33)) .none kVs33 dcs33 pms33 ans33 cds33 cts33), sls33⟩) (cs33 : PySem.W.codeIn K cds33 "_law_skein" = true) (ks33 : PySem.W.keepIn K (.ref fs33) = true)
    (as34 : PySem.W.nsIn K mainGlobals "_law_pull" = some (some (.ref fs34))) (ls34 : K.lookup fs34 = some ⟨ocs34, ods34, .func (PySem.W.fnOf "_law_pull" "_law_pull" (defArgs (topS 34)) (defBody (topS 34)) (defScope (topS 34)) .none kVs34 dcs34 pms34 ans34 cds34 cts34), sls34⟩) (cs34 : PySem.W.codeIn K cds34 "_law_pull" = true) (ks34 : PySem.W.keepIn K (.ref fs34) = true)
    (as35 : PySem.W.nsIn K mainGlobals "_law_one_of" = some (some (.ref fs35))) (ls35 : K.lookup fs35 = some ⟨ocs35, ods35, .func (PySem.W.fnOf "_law_one_of" "_law_one_of" (defArgs (topS 35)) (defBody (topS 35)) (defScope (topS 35)) .none kVs35 dcs35 pms35 ans35 cds35 cts35), sls35⟩) (cs35 : PySem.W.codeIn K cds35 "_law_one_of" = true) (ks35 : PySem.W.keepIn K (.ref fs35) = true)
    (as36 : PySem.W.nsIn K mainGlobals "_law_few_of" = some (some (.ref fs36))) (ls36 : K.lookup fs36 = some ⟨ocs36, ods36, .func (PySem.W.fnOf "_law_few_of" "_law_few_of" (defArgs (topS 36)) (defBody (topS 36)) (defScope (topS 36)) .none kVs36 dcs36 pms36 ans36 cds36 cts36), sls36⟩) (cs36 : PySem.W.codeIn K cds36 "_law_few_of" = true) (ks36 : PySem.W.keepIn K (.ref fs36) = true)
    (as37 : PySem.W.nsIn K mainGlobals "_law_parts" = some (some (.ref fs37))) (ls37 : K.lookup fs37 = some ⟨ocs37, ods37, .func (PySem.W.fnOf "_law_parts" "_law_parts" (defArgs (topS 37)) (defBody (topS 37)) (defScope (topS 37)) .none kVs37 dcs37 pms37 ans37 cds37 cts37), sls37⟩) (cs37 : PySem.W.codeIn K cds37 "_law_parts" = true) (ks37 : PySem.W.keepIn K (.ref fs37) = true)
    (as38 : PySem.W.nsIn K mainGlobals "_law_lengths" = some (some (.ref fs38))) (ls38 : K.lookup fs38 = some ⟨ocs38, ods38, .func (PySem.W.fnOf "_law_lengths" "_law_lengths" (defArgs (topS 38)) (defBody (topS 38)) (defScope (topS 38)) .none kVs38 dcs38 pms38 ans38 cds38 cts38), sls38⟩) (cs38 : PySem.W.codeIn K cds38 "_law_lengths" = true) (ks38 : PySem.W.keepIn K (.ref fs38) = true)
    (as39 : PySem.W.nsIn K mainGlobals "_law_frame" = some (some (.ref fs39))) (ls39 : K.lookup fs39 = some ⟨ocs39, ods39, .func (PySem.W.fnOf "_law_frame" "_law_frame" (defArgs (topS 39)) (defBody (topS 39)) (defScope (topS 39)) .none kVs39 dcs39 pms39 ans39 cds39 cts39), sls39⟩) (cs39 : PySem.W.codeIn K cds39 "_law_frame" = true) (ks39 : PySem.W.keepIn K (.ref fs39) = true)
    (as40 : PySem.W.nsIn K mainGlobals "_law_all_of" = some (some (.ref fs40))) (ls40 : K.lookup fs40 = some ⟨ocs40, ods40, .func (PySem.W.fnOf "_law_all_of" "_law_all_of" (defArgs (topS 40)) (defBody (topS 40)) (defScope (topS 40)) .none kVs40 dcs40 pms40 ans40 cds40 cts40), sls40⟩) (cs40 : PySem.W.codeIn K cds40 "_law_all_of" = true) (ks40 : PySem.W.keepIn K (.ref fs40) = true)
    (ak41 : PySem.W.nsIn K mainGlobals "_law_are_names" = some (some (.ref fk41))) (lk41 : K.lookup fk41 = some ⟨ock41, odk41, .func (PySem.W.fnOf "_law_are_names" "_law_are_names" (defArgs (topK 41)) (defBody (topK 41)) (defScope (topK 41)) .none kVk41 dck41 pmk41 ank41 cdk41 ctk41), slk41⟩) (ck41 : PySem.W.codeIn K cdk41 "_law_are_names" = true) (kk41 : PySem.W.keepIn K (.ref fk41) = true)
    (ak42 : PySem.W.nsIn K mainGlobals "_law_are_parts" = some (some (.ref fk42))) (lk42 : K.lookup fk42 = some ⟨ock42, odk42, .func (PySem.W.fnOf "_law_are_parts" "_law_are_parts" (defArgs (topK 42)) (defBody (topK 42)) (defScope (topK 42)) .none kVk42 dck42 pmk42 ank42 cdk42 ctk42), slk42⟩) (ck42 : PySem.W.codeIn K cdk42 "_law_are_parts" = true) (kk42 : PySem.W.keepIn K (.ref fk42) = true)
    (ak43 : PySem.W.nsIn K mainGlobals "_law_met" = some (some (.ref fk43))) (lk43 : K.lookup fk43 = some ⟨ock43, odk43, .func (PySem.W.fnOf "_law_met" "_law_met" (defArgs (topK 43)) (defBody (topK 43)) (defScope (topK 43)) .none kVk43 dck43 pmk43 ank43 cdk43 ctk43), slk43⟩) (ck43 : PySem.W.codeIn K cdk43 "_law_met" = true) (kk43 : PySem.W.keepIn K (.ref fk43) = true)
    (ak44 : PySem.W.nsIn K mainGlobals "_law_is_told" = some (some (.ref fk44))) (lk44 : K.lookup fk44 = some ⟨ock44, odk44, .func (PySem.W.fnOf "_law_is_told" "_law_is_told" (defArgs (topK 44)) (defBody (topK 44)) (defScope (topK 44)) .none kVk44 dck44 pmk44 ank44 cdk44 ctk44), slk44⟩) (ck44 : PySem.W.codeIn K cdk44 "_law_is_told" = true) (kk44 : PySem.W.keepIn K (.ref fk44) = true)
    (ak45 : PySem.W.nsIn K mainGlobals "_law_near" = some (some (.ref fk45))) (lk45 : K.lookup fk45 = some ⟨ock45, odk45, .func (PySem.W.fnOf "_law_near" "_law_near" (defArgs (topK 45)) (defBody (topK 45)) (defScope (topK 45)) .none kVk45 dck45 pmk45 ank45 cdk45 ctk45), slk45⟩) (ck45 : PySem.W.codeIn K cdk45 "_law_near" = true) (kk45 : PySem.W.keepIn K (.ref fk45) = true)
    (ak46 : PySem.W.nsIn K mainGlobals "_law_right" = some (some (.ref fk46))) (lk46 : K.lookup fk46 = some ⟨ock46, odk46, .func (PySem.W.fnOf "_law_right" "_law_right" (defArgs (topK 46)) (defBody (topK 46)) (defScope (topK 46)) .none kVk46 dck46 pmk46 ank46 cdk46 ctk46), slk46⟩) (ck46 : PySem.W.codeIn K cdk46 "_law_right" = true) (kk46 : PySem.W.keepIn K (.ref fk46) = true)
    (ak47 : PySem.W.nsIn K mainGlobals "_law_is_name" = some (some (.ref fk47))) (lk47 : K.lookup fk47 = some ⟨ock47, odk47, .func (PySem.W.fnOf "_law_is_name" "_law_is_name" (defArgs (topK 47)) (defBody (topK 47)) (defScope (topK 47)) .none kVk47 dck47 pmk47 ank47 cdk47 ctk47), slk47⟩) (ck47 : PySem.W.codeIn K cdk47 "_law_is_name" = true) (kk47 : PySem.W.keepIn K (.ref fk47) = true)
    (ak48 : PySem.W.nsIn K mainGlobals "_law_made" = some (some (.ref fk48))) (lk48 : K.lookup fk48 = some ⟨ock48, odk48, .func (PySem.W.fnOf "_law_made" "_law_made" (defArgs (topK 48)) (defBody (topK 48)) (defScope (topK 48)) .none kVk48 dck48 pmk48 ank48 cdk48 ctk48), slk48⟩) (ck48 : PySem.W.codeIn K cdk48 "_law_made" = true) (kk48 : PySem.W.keepIn K (.ref fk48) = true)
    (ak49 : PySem.W.nsIn K mainGlobals "_law_kinds" = some (some (.ref fk49))) (lk49 : K.lookup fk49 = some ⟨ock49, odk49, .func (PySem.W.fnOf "_law_kinds" "_law_kinds" (defArgs (topK 49)) (defBody (topK 49)) (defScope (topK 49)) .none kVk49 dck49 pmk49 ank49 cdk49 ctk49), slk49⟩) (ck49 : PySem.W.codeIn K cdk49 "_law_kinds" = true) (kk49 : PySem.W.keepIn K (.ref fk49) = true)
    (ak50 : PySem.W.nsIn K mainGlobals "_law_due" = some (some (.ref fk50))) (lk50 : K.lookup fk50 = some ⟨ock50, odk50, .func (PySem.W.fnOf "_law_due" "_law_due" (defArgs (topK 50)) (defBody (topK 50)) (defScope (topK 50)) .none kVk50 dck50 pmk50 ank50 cdk50 ctk50), slk50⟩) (ck50 : PySem.W.codeIn K cdk50 "_law_due" = true) (kk50 : PySem.W.keepIn K (.ref fk50) = true)
    (ak51 : PySem.W.nsIn K mainGlobals "_law_keeping" = some (some (.ref fk51))) (lk51 : K.lookup fk51 = some ⟨ock51, odk51, .func (PySem.W.fnOf "_law_keeping" "_law_keeping" (defArgs (topK 51)) (defBody (topK 51)) (defScope (topK 51)) .none kVk51 dck51 pmk51 ank51 cdk51 ctk51), slk51⟩) (ck51 : PySem.W.codeIn K cdk51 "_law_keeping" = true) (kk51 : PySem.W.keepIn K (.ref fk51) = true)
    (ak52 : PySem.W.nsIn K mainGlobals "_law_plain" = some (some (.ref fk52))) (lk52 : K.lookup fk52 = some ⟨ock52, odk52, .func (PySem.W.fnOf "_law_plain" "_law_plain" (defArgs (topK 52)) (defBody (topK 52)) (defScope (topK 52)) .none kVk52 dck52 pmk52 ank52 cdk52 ctk52), slk52⟩) (ck52 : PySem.W.codeIn K cdk52 "_law_plain" = true) (kk52 : PySem.W.keepIn K (.ref fk52) = true)
    (ak53 : PySem.W.nsIn K mainGlobals "_law_raised" = some (some (.ref fk53))) (lk53 : K.lookup fk53 = some ⟨ock53, odk53, .func (PySem.W.fnOf "_law_raised" "_law_raised" (defArgs (topK 53)) (defBody (topK 53)) (defScope (topK 53)) .none kVk53 dck53 pmk53 ank53 cdk53 ctk53), slk53⟩) (ck53 : PySem.W.codeIn K cdk53 "_law_raised" = true) (kk53 : PySem.W.keepIn K (.ref fk53) = true)
    (ak54 : PySem.W.nsIn K mainGlobals "_law_errors_right" = some (some (.ref fk54))) (lk54 : K.lookup fk54 = some ⟨ock54, odk54, .func (PySem.W.fnOf "_law_errors_right" "_law_errors_right" (defArgs (topK 54)) (defBody (topK 54)) (defScope (topK 54)) .none kVk54 dck54 pmk54 ank54 (.ref c54) ctk54), slk54⟩) (ck54 : PySem.W.codeIn K (.ref c54) "_law_errors_right" = true) (kk54 : PySem.W.keepIn K (.ref fk54) = true)
    (ak55 : PySem.W.nsIn K mainGlobals "_law_words_right" = some (some (.ref fk55))) (lk55 : K.lookup fk55 = some ⟨ock55, odk55, .func (PySem.W.fnOf "_law_words_right" "_law_words_right" (defArgs (topK 55)) (defBody (topK 55)) (defScope (topK 55)) .none kVk55 dck55 pmk55 ank55 cdk55 ctk55), slk55⟩) (ck55 : PySem.W.codeIn K cdk55 "_law_words_right" = true) (kk55 : PySem.W.keepIn K (.ref fk55) = true)
    (ak56 : PySem.W.nsIn K mainGlobals "law" = some (some (.ref fk56))) (lk56 : K.lookup fk56 = some ⟨ock56, odk56, .func (PySem.W.fnOf "law" "law" (defArgs (topK 56)) (defBody (topK 56)) (defScope (topK 56)) .none kVk56 dck56 pmk56 ank56 cdk56 ctk56), slk56⟩) (ck56 : PySem.W.codeIn K cdk56 "law" = true) (kk56 : PySem.W.keepIn K (.ref fk56) = true)
    (np : K.lookup PT = none) (hcT : PySem.W.codeHdIn K c54 PT = true)
    (aF : PySem.W.nsIn K mainGlobals "Frame" = some (some (.ref C)))
    (aM0 : PySem.W.findIn K (.ref C) "__init__" = some (some (.ref fM0))) (nM0 : PySem.W.isFn K (.ref fM0) = true) (lM0 : K.lookup fM0 = some ⟨ocM0, odM0, .func (PySem.W.fnOf "__init__" "Frame.__init__" (defArgs (mF 0)) (defBody (mF 0)) (defScope (mF 0)) .none kVM0 dcM0 pmM0 anM0 cdM0 ctM0), slM0⟩) (cM0 : PySem.W.codeIn K cdM0 "Frame.__init__" = true) (kM0 : PySem.W.keepIn K (.ref fM0) = true)
    (aM5 : PySem.W.findIn K (.ref C) "length_of" = some (some (.ref fM5))) (nM5 : PySem.W.isFn K (.ref fM5) = true) (lM5 : K.lookup fM5 = some ⟨ocM5, odM5, .func (PySem.W.fnOf "length_of" "Frame.length_of" (defArgs (mF 5)) (defBody (mF 5)) (defScope (mF 5)) .none kVM5 dcM5 pmM5 anM5 cdM5 ctM5), slM5⟩) (cM5 : PySem.W.codeIn K cdM5 "Frame.length_of" = true) (kM5 : PySem.W.keepIn K (.ref fM5) = true)
    (aM6 : PySem.W.findIn K (.ref C) "kind_of" = some (some (.ref fM6))) (nM6 : PySem.W.isFn K (.ref fM6) = true) (lM6 : K.lookup fM6 = some ⟨ocM6, odM6, .func (PySem.W.fnOf "kind_of" "Frame.kind_of" (defArgs (mF 6)) (defBody (mF 6)) (defScope (mF 6)) .none kVM6 dcM6 pmM6 anM6 cdM6 ctM6), slM6⟩) (cM6 : PySem.W.codeIn K cdM6 "Frame.kind_of" = true) (kM6 : PySem.W.keepIn K (.ref fM6) = true)
    (aM7 : PySem.W.findIn K (.ref C) "is_fresh" = some (some (.ref fM7))) (nM7 : PySem.W.isFn K (.ref fM7) = true) (lM7 : K.lookup fM7 = some ⟨ocM7, odM7, .func (PySem.W.fnOf "is_fresh" "Frame.is_fresh" (defArgs (mF 7)) (defBody (mF 7)) (defScope (mF 7)) .none kVM7 dcM7 pmM7 anM7 cdM7 ctM7), slM7⟩) (cM7 : PySem.W.codeIn K cdM7 "Frame.is_fresh" = true) (kM7 : PySem.W.keepIn K (.ref fM7) = true)
    (aM13 : PySem.W.findIn K (.ref C) "__contains__" = some (some (.ref fM13))) (nM13 : PySem.W.isFn K (.ref fM13) = true) (lM13 : K.lookup fM13 = some ⟨ocM13, odM13, .func (PySem.W.fnOf "__contains__" "Frame.__contains__" (defArgs (mF 13)) (defBody (mF 13)) (defScope (mF 13)) .none kVM13 dcM13 pmM13 anM13 cdM13 ctM13), slM13⟩) (cM13 : PySem.W.codeIn K cdM13 "Frame.__contains__" = true) (kM13 : PySem.W.keepIn K (.ref fM13) = true)
    (aM14 : PySem.W.findIn K (.ref C) "__len__" = some (some (.ref fM14))) (nM14 : PySem.W.isFn K (.ref fM14) = true) (lM14 : K.lookup fM14 = some ⟨ocM14, odM14, .func (PySem.W.fnOf "__len__" "Frame.__len__" (defArgs (mF 14)) (defBody (mF 14)) (defScope (mF 14)) .none kVM14 dcM14 pmM14 anM14 cdM14 ctM14), slM14⟩) (cM14 : PySem.W.codeIn K cdM14 "Frame.__len__" = true) (kM14 : PySem.W.keepIn K (.ref fM14) = true)
    (aM15 : PySem.W.findIn K (.ref C) "__eq__" = some (some (.ref fM15))) (nM15 : PySem.W.isFn K (.ref fM15) = true) (lM15 : K.lookup fM15 = some ⟨ocM15, odM15, .func (PySem.W.fnOf "__eq__" "Frame.__eq__" (defArgs (mF 15)) (defBody (mF 15)) (defScope (mF 15)) .none kVM15 dcM15 pmM15 anM15 cdM15 ctM15), slM15⟩) (cM15 : PySem.W.codeIn K cdM15 "Frame.__eq__" = true) (kM15 : PySem.W.keepIn K (.ref fM15) = true)
    (aM16 : PySem.W.findIn K (.ref C) "__str__" = some (some (.ref fM16))) (nM16 : PySem.W.isFn K (.ref fM16) = true) (lM16 : K.lookup fM16 = some ⟨ocM16, odM16, .func (PySem.W.fnOf "__str__" "Frame.__str__" (defArgs (mF 16)) (defBody (mF 16)) (defScope (mF 16)) .none kVM16 dcM16 pmM16 anM16 cdM16 ctM16), slM16⟩) (cM16 : PySem.W.codeIn K cdM16 "Frame.__str__" = true) (kM16 : PySem.W.keepIn K (.ref fM16) = true)
    (aP1 : PySem.W.findIn K (.ref C) "arrays" = some (some (.ref p1))) (gP1 : PySem.W.specialIn K (.ref p1) "__get__" = some (some (.builtin "property.__get__"))) (tP1 : PySem.W.takesIn K (.ref p1) = some true) (recP1 : PySem.W.recIn K p1 "property" = some (.ref fP1 :: rP1)) (lP1 : K.lookup fP1 = some ⟨ocP1, odP1, .func (PySem.W.fnOf "arrays" "Frame.arrays" (defArgs (mF 1)) (defBody (mF 1)) (defScope (mF 1)) .none kVP1 dcP1 pmP1 anP1 cdP1 ctP1), slP1⟩) (cP1 : PySem.W.codeIn K cdP1 "Frame.arrays" = true) (kP1 : PySem.W.keepIn K (.ref fP1) = true)
    (aP2 : PySem.W.findIn K (.ref C) "positions" = some (some (.ref p2))) (gP2 : PySem.W.specialIn K (.ref p2) "__get__" = some (some (.builtin "property.__get__"))) (tP2 : PySem.W.takesIn K (.ref p2) = some true) (recP2 : PySem.W.recIn K p2 "property" = some (.ref fP2 :: rP2)) (lP2 : K.lookup fP2 = some ⟨ocP2, odP2, .func (PySem.W.fnOf "positions" "Frame.positions" (defArgs (mF 2)) (defBody (mF 2)) (defScope (mF 2)) .none kVP2 dcP2 pmP2 anP2 cdP2 ctP2), slP2⟩) (cP2 : PySem.W.codeIn K cdP2 "Frame.positions" = true) (kP2 : PySem.W.keepIn K (.ref fP2) = true)
    (aP3 : PySem.W.findIn K (.ref C) "amounts" = some (some (.ref p3))) (gP3 : PySem.W.specialIn K (.ref p3) "__get__" = some (some (.builtin "property.__get__"))) (tP3 : PySem.W.takesIn K (.ref p3) = some true) (recP3 : PySem.W.recIn K p3 "property" = some (.ref fP3 :: rP3)) (lP3 : K.lookup fP3 = some ⟨ocP3, odP3, .func (PySem.W.fnOf "amounts" "Frame.amounts" (defArgs (mF 3)) (defBody (mF 3)) (defScope (mF 3)) .none kVP3 dcP3 pmP3 anP3 cdP3 ctP3), slP3⟩) (cP3 : PySem.W.codeIn K cdP3 "Frame.amounts" = true) (kP3 : PySem.W.keepIn K (.ref fP3) = true)
    (aP4 : PySem.W.findIn K (.ref C) "lengths" = some (some (.ref p4))) (gP4 : PySem.W.specialIn K (.ref p4) "__get__" = some (some (.builtin "property.__get__"))) (tP4 : PySem.W.takesIn K (.ref p4) = some true) (recP4 : PySem.W.recIn K p4 "property" = some (.ref fP4 :: rP4)) (lP4 : K.lookup fP4 = some ⟨ocP4, odP4, .func (PySem.W.fnOf "lengths" "Frame.lengths" (defArgs (mF 4)) (defBody (mF 4)) (defScope (mF 4)) .none kVP4 dcP4 pmP4 anP4 cdP4 ctP4), slP4⟩) (cP4 : PySem.W.codeIn K cdP4 "Frame.lengths" = true) (kP4 : PySem.W.keepIn K (.ref fP4) = true)
    (x_pg : PySem.W.plainGet K C Str.empty = true)
    (x_hd : PySem.W.hasDictIn K C = true)
    (x_po : PySem.W.plainOver K C = true)
    (x_sa : PySem.W.findIn K (.ref C) "__setattr__" = some (some (.builtin "object.__setattr__")))
    (x_mk : PySem.W.makesIn K C = true)
    (x_kC : PySem.W.keepIn K (.ref C) = true)
    (x_i1 : PySem.W.findIn K (.ref C) "__class__" = some (some (.builtin "object.__class__")))
    (x_i2 : PySem.W.specialIn K (.builtin "object.__class__") "__get__" = some (some (.builtin "getset_descriptor.__get__")))
    (x_i3 : PySem.W.takesIn K (.builtin "object.__class__") = some true)
    (x_i4 : PySem.W.mroIn K C (.type "object") = some true)
    (x_ne : PySem.W.findIn K (.ref C) "__ne__" = some (some (.builtin "object.__ne__")))
    (x_kit : PySem.W.kitOne K (.type "list") (.ref C) = some false)
    (y0 : PySem.W.findIn K (.ref C) "_arrays" = some none)
    (y1 : PySem.W.findIn K (.ref C) "_positions" = some none)
    (y2 : PySem.W.findIn K (.ref C) "_amounts" = some none)
    (y3 : PySem.W.findIn K (.ref C) "_lengths" = some none)
    (y4 : PySem.W.findIn K (.ref C) "_length_of" = some none)
    (y5 : PySem.W.findIn K (.ref C) "_kinds" = some none)
    (aE0 : PySem.W.nsIn K mainGlobals "ParseError" = some (some (.ref E0))) (oE0 : K.lookup E0 = some (excClassObj nmE0 qE0 E0 NE0 bsE0 (.ref E15 :: [.type "ValueError", .type "Exception", .type "BaseException", .type "object"]) true snE0 suE0 abE0 coE0 ddE0 z0E0 z1E0 z2E0 z3E0 z5E0 "ValueError.__new__"))
    (sE0 : PySem.W.findIn K (.ref E0) "__setattr__" = some (some (.builtin "object.__setattr__"))) (kE0 : PySem.W.keepIn K (.ref E0) = true) (gE0 : PySem.W.findIn K (.ref E0) "__getattribute__" = some (some (.builtin "BaseException.__getattribute__"))) (hE0 : PySem.W.findIn K (.ref E0) "__getattr__" = some none) (bE0 : PySem.W.subIn K (.ref E0) (.type "BaseException") = some true) (cE0 : PySem.W.findIn K (.ref E0) "__class__" = some (some (.builtin "object.__class__")))
    (iE0 : PySem.W.findIn K (.ref E0) "__init__" = some (some (.ref fI0))) (yE0 : PySem.W.typeIn K (.ref fI0) = some (.type "function")) (lI0 : K.lookup fI0 = some ⟨ocI0, odI0, .func (PySem.W.fnOf "__init__" "ParseError.__init__" (defArgs (inClass (topK 14) 0)) (defBody (inClass (topK 14) 0)) (defScope (inClass (topK 14) 0)) .none kVI0 dcI0 pmI0 anI0 cdI0 ctI0), slI0⟩) (cI0 : PySem.W.codeIn K cdI0 "ParseError.__init__" = true) (kI0 : PySem.W.keepIn K (.ref fI0) = true) (nE0 : PySem.W.findIn K (.ref E0) "index" = some none)
    (aE1 : PySem.W.nsIn K mainGlobals "InvalidNumber" = some (some (.ref E1))) (oE1 : K.lookup E1 = some (excClassObj nmE1 qE1 E1 NE1 bsE1 [.type "IndexError", .type "LookupError", .type "Exception", .type "BaseException", .type "object"] true snE1 suE1 abE1 coE1 ddE1 z0E1 z1E1 z2E1 z3E1 z5E1 "IndexError.__new__"))
    (sE1 : PySem.W.findIn K (.ref E1) "__setattr__" = some (some (.builtin "object.__setattr__"))) (kE1 : PySem.W.keepIn K (.ref E1) = true) (gE1 : PySem.W.findIn K (.ref E1) "__getattribute__" = some (some (.builtin "BaseException.__getattribute__"))) (hE1 : PySem.W.findIn K (.ref E1) "__getattr__" = some none) (bE1 : PySem.W.subIn K (.ref E1) (.type "BaseException") = some true) (cE1 : PySem.W.findIn K (.ref E1) "__class__" = some (some (.builtin "object.__class__")))
    (iE1 : PySem.W.findIn K (.ref E1) "__init__" = some (some (.ref fI1))) (yE1 : PySem.W.typeIn K (.ref fI1) = some (.type "function")) (lI1 : K.lookup fI1 = some ⟨ocI1, odI1, .func (PySem.W.fnOf "__init__" "InvalidNumber.__init__" (defArgs (inClass (topK 15) 0)) (defBody (inClass (topK 15) 0)) (defScope (inClass (topK 15) 0)) .none kVI1 dcI1 pmI1 anI1 cdI1 ctI1), slI1⟩) (cI1 : PySem.W.codeIn K cdI1 "InvalidNumber.__init__" = true) (kI1 : PySem.W.keepIn K (.ref fI1) = true) (nE1 : PySem.W.findIn K (.ref E1) "number" = some none)
    (aE2 : PySem.W.nsIn K mainGlobals "UnknownName" = some (some (.ref E2))) (oE2 : K.lookup E2 = some (excClassObj nmE2 qE2 E2 NE2 bsE2 [.type "KeyError", .type "LookupError", .type "Exception", .type "BaseException", .type "object"] true snE2 suE2 abE2 coE2 ddE2 z0E2 z1E2 z2E2 z3E2 z5E2 "LookupError.__new__"))
    (sE2 : PySem.W.findIn K (.ref E2) "__setattr__" = some (some (.builtin "object.__setattr__"))) (kE2 : PySem.W.keepIn K (.ref E2) = true) (gE2 : PySem.W.findIn K (.ref E2) "__getattribute__" = some (some (.builtin "BaseException.__getattribute__"))) (hE2 : PySem.W.findIn K (.ref E2) "__getattr__" = some none) (bE2 : PySem.W.subIn K (.ref E2) (.type "BaseException") = some true) (cE2 : PySem.W.findIn K (.ref E2) "__class__" = some (some (.builtin "object.__class__")))
    (iE2 : PySem.W.findIn K (.ref E2) "__init__" = some (some (.ref fI2))) (yE2 : PySem.W.typeIn K (.ref fI2) = some (.type "function")) (lI2 : K.lookup fI2 = some ⟨ocI2, odI2, .func (PySem.W.fnOf "__init__" "UnknownName.__init__" (defArgs (inClass (topK 16) 0)) (defBody (inClass (topK 16) 0)) (defScope (inClass (topK 16) 0)) .none kVI2 dcI2 pmI2 anI2 cdI2 ctI2), slI2⟩) (cI2 : PySem.W.codeIn K cdI2 "UnknownName.__init__" = true) (kI2 : PySem.W.keepIn K (.ref fI2) = true) (nE2 : PySem.W.findIn K (.ref E2) "name" = some none)
    (aE3 : PySem.W.nsIn K mainGlobals "NothingToUndo" = some (some (.ref E3))) (oE3 : K.lookup E3 = some (excClassObj nmE3 qE3 E3 NE3 bsE3 [.type "LookupError", .type "Exception", .type "BaseException", .type "object"] true snE3 suE3 abE3 coE3 ddE3 z0E3 z1E3 z2E3 z3E3 z5E3 "LookupError.__new__"))
    (sE3 : PySem.W.findIn K (.ref E3) "__setattr__" = some (some (.builtin "object.__setattr__"))) (kE3 : PySem.W.keepIn K (.ref E3) = true) (gE3 : PySem.W.findIn K (.ref E3) "__getattribute__" = some (some (.builtin "BaseException.__getattribute__"))) (hE3 : PySem.W.findIn K (.ref E3) "__getattr__" = some none) (bE3 : PySem.W.subIn K (.ref E3) (.type "BaseException") = some true) (cE3 : PySem.W.findIn K (.ref E3) "__class__" = some (some (.builtin "object.__class__")))
    (iE3 : PySem.W.findIn K (.ref E3) "__init__" = some (some (.ref fI3))) (yE3 : PySem.W.typeIn K (.ref fI3) = some (.type "function")) (lI3 : K.lookup fI3 = some ⟨ocI3, odI3, .func (PySem.W.fnOf "__init__" "NothingToUndo.__init__" (defArgs (inClass (topK 17) 0)) (defBody (inClass (topK 17) 0)) (defScope (inClass (topK 17) 0)) .none kVI3 dcI3 pmI3 anI3 cdI3 ctI3), slI3⟩) (cI3 : PySem.W.codeIn K cdI3 "NothingToUndo.__init__" = true) (kI3 : PySem.W.keepIn K (.ref fI3) = true) (nE3 : PySem.W.findIn K (.ref E3) "asked" = some none)
    (aE4 : PySem.W.nsIn K mainGlobals "TooMany" = some (some (.ref E4))) (oE4 : K.lookup E4 = some (excClassObj nmE4 qE4 E4 NE4 bsE4 [.type "OverflowError", .type "ArithmeticError", .type "Exception", .type "BaseException", .type "object"] true snE4 suE4 abE4 coE4 ddE4 z0E4 z1E4 z2E4 z3E4 z5E4 "OverflowError.__new__"))
    (sE4 : PySem.W.findIn K (.ref E4) "__setattr__" = some (some (.builtin "object.__setattr__"))) (kE4 : PySem.W.keepIn K (.ref E4) = true) (gE4 : PySem.W.findIn K (.ref E4) "__getattribute__" = some (some (.builtin "BaseException.__getattribute__"))) (hE4 : PySem.W.findIn K (.ref E4) "__getattr__" = some none) (bE4 : PySem.W.subIn K (.ref E4) (.type "BaseException") = some true) (cE4 : PySem.W.findIn K (.ref E4) "__class__" = some (some (.builtin "object.__class__")))
    (iE4 : PySem.W.findIn K (.ref E4) "__init__" = some (some (.ref fI4))) (yE4 : PySem.W.typeIn K (.ref fI4) = some (.type "function")) (lI4 : K.lookup fI4 = some ⟨ocI4, odI4, .func (PySem.W.fnOf "__init__" "TooMany.__init__" (defArgs (inClass (topK 18) 0)) (defBody (inClass (topK 18) 0)) (defScope (inClass (topK 18) 0)) .none kVI4 dcI4 pmI4 anI4 cdI4 ctI4), slI4⟩) (cI4 : PySem.W.codeIn K cdI4 "TooMany.__init__" = true) (kI4 : PySem.W.keepIn K (.ref fI4) = true) (nE4 : PySem.W.findIn K (.ref E4) "bound" = some none)
    (aE5 : PySem.W.nsIn K mainGlobals "Refused" = some (some (.ref E5))) (oE5 : K.lookup E5 = some (excClassObj nmE5 qE5 E5 NE5 bsE5 [.type "ArithmeticError", .type "Exception", .type "BaseException", .type "object"] true snE5 suE5 abE5 coE5 ddE5 z0E5 z1E5 z2E5 z3E5 z5E5 "ArithmeticError.__new__"))
    (sE5 : PySem.W.findIn K (.ref E5) "__setattr__" = some (some (.builtin "object.__setattr__"))) (kE5 : PySem.W.keepIn K (.ref E5) = true) (gE5 : PySem.W.findIn K (.ref E5) "__getattribute__" = some (some (.builtin "BaseException.__getattribute__"))) (hE5 : PySem.W.findIn K (.ref E5) "__getattr__" = some none) (bE5 : PySem.W.subIn K (.ref E5) (.type "BaseException") = some true) (cE5 : PySem.W.findIn K (.ref E5) "__class__" = some (some (.builtin "object.__class__")))
    (iE5 : PySem.W.findIn K (.ref E5) "__init__" = some (some (.ref fI5))) (yE5 : PySem.W.typeIn K (.ref fI5) = some (.type "function")) (lI5 : K.lookup fI5 = some ⟨ocI5, odI5, .func (PySem.W.fnOf "__init__" "Refused.__init__" (defArgs (inClass (topK 19) 0)) (defBody (inClass (topK 19) 0)) (defScope (inClass (topK 19) 0)) .none kVI5 dcI5 pmI5 anI5 cdI5 ctI5), slI5⟩) (cI5 : PySem.W.codeIn K cdI5 "Refused.__init__" = true) (kI5 : PySem.W.keepIn K (.ref fI5) = true) (nE5 : PySem.W.findIn K (.ref E5) "reason" = some none)
    (aE6 : PySem.W.nsIn K mainGlobals "InvalidFrame" = some (some (.ref E6))) (oE6 : K.lookup E6 = some (excClassObj nmE6 qE6 E6 NE6 bsE6 (.ref E15 :: [.type "ValueError", .type "Exception", .type "BaseException", .type "object"]) true snE6 suE6 abE6 coE6 ddE6 z0E6 z1E6 z2E6 z3E6 z5E6 "ValueError.__new__"))
    (sE6 : PySem.W.findIn K (.ref E6) "__setattr__" = some (some (.builtin "object.__setattr__"))) (kE6 : PySem.W.keepIn K (.ref E6) = true) (gE6 : PySem.W.findIn K (.ref E6) "__getattribute__" = some (some (.builtin "BaseException.__getattribute__"))) (hE6 : PySem.W.findIn K (.ref E6) "__getattr__" = some none) (bE6 : PySem.W.subIn K (.ref E6) (.type "BaseException") = some true) (cE6 : PySem.W.findIn K (.ref E6) "__class__" = some (some (.builtin "object.__class__")))
    (xE6 : PySem.W.excIn K E6 [.type "ValueError", .type "Exception", .type "BaseException", .type "object"] "ValueError.__new__" = true)
    (aE7 : PySem.W.nsIn K mainGlobals "InvalidTerm" = some (some (.ref E7))) (oE7 : K.lookup E7 = some (excClassObj nmE7 qE7 E7 NE7 bsE7 (.ref E15 :: [.type "ValueError", .type "Exception", .type "BaseException", .type "object"]) true snE7 suE7 abE7 coE7 ddE7 z0E7 z1E7 z2E7 z3E7 z5E7 "ValueError.__new__"))
    (sE7 : PySem.W.findIn K (.ref E7) "__setattr__" = some (some (.builtin "object.__setattr__"))) (kE7 : PySem.W.keepIn K (.ref E7) = true) (gE7 : PySem.W.findIn K (.ref E7) "__getattribute__" = some (some (.builtin "BaseException.__getattribute__"))) (hE7 : PySem.W.findIn K (.ref E7) "__getattr__" = some none) (bE7 : PySem.W.subIn K (.ref E7) (.type "BaseException") = some true) (cE7 : PySem.W.findIn K (.ref E7) "__class__" = some (some (.builtin "object.__class__")))
    (xE7 : PySem.W.excIn K E7 [.type "ValueError", .type "Exception", .type "BaseException", .type "object"] "ValueError.__new__" = true)
    (aE8 : PySem.W.nsIn K mainGlobals "InvalidClaim" = some (some (.ref E8))) (oE8 : K.lookup E8 = some (excClassObj nmE8 qE8 E8 NE8 bsE8 (.ref E15 :: [.type "ValueError", .type "Exception", .type "BaseException", .type "object"]) true snE8 suE8 abE8 coE8 ddE8 z0E8 z1E8 z2E8 z3E8 z5E8 "ValueError.__new__"))
    (sE8 : PySem.W.findIn K (.ref E8) "__setattr__" = some (some (.builtin "object.__setattr__"))) (kE8 : PySem.W.keepIn K (.ref E8) = true) (gE8 : PySem.W.findIn K (.ref E8) "__getattribute__" = some (some (.builtin "BaseException.__getattribute__"))) (hE8 : PySem.W.findIn K (.ref E8) "__getattr__" = some none) (bE8 : PySem.W.subIn K (.ref E8) (.type "BaseException") = some true) (cE8 : PySem.W.findIn K (.ref E8) "__class__" = some (some (.builtin "object.__class__")))
    (xE8 : PySem.W.excIn K E8 [.type "ValueError", .type "Exception", .type "BaseException", .type "object"] "ValueError.__new__" = true)
    (aE9 : PySem.W.nsIn K mainGlobals "InvalidSituation" = some (some (.ref E9))) (oE9 : K.lookup E9 = some (excClassObj nmE9 qE9 E9 NE9 bsE9 (.ref E15 :: [.type "ValueError", .type "Exception", .type "BaseException", .type "object"]) true snE9 suE9 abE9 coE9 ddE9 z0E9 z1E9 z2E9 z3E9 z5E9 "ValueError.__new__"))
    (sE9 : PySem.W.findIn K (.ref E9) "__setattr__" = some (some (.builtin "object.__setattr__"))) (kE9 : PySem.W.keepIn K (.ref E9) = true) (gE9 : PySem.W.findIn K (.ref E9) "__getattribute__" = some (some (.builtin "BaseException.__getattribute__"))) (hE9 : PySem.W.findIn K (.ref E9) "__getattr__" = some none) (bE9 : PySem.W.subIn K (.ref E9) (.type "BaseException") = some true) (cE9 : PySem.W.findIn K (.ref E9) "__class__" = some (some (.builtin "object.__class__")))
    (xE9 : PySem.W.excIn K E9 [.type "ValueError", .type "Exception", .type "BaseException", .type "object"] "ValueError.__new__" = true)
    (aE10 : PySem.W.nsIn K mainGlobals "InvalidQuestion" = some (some (.ref E10))) (oE10 : K.lookup E10 = some (excClassObj nmE10 qE10 E10 NE10 bsE10 (.ref E15 :: [.type "ValueError", .type "Exception", .type "BaseException", .type "object"]) true snE10 suE10 abE10 coE10 ddE10 z0E10 z1E10 z2E10 z3E10 z5E10 "ValueError.__new__"))
    (sE10 : PySem.W.findIn K (.ref E10) "__setattr__" = some (some (.builtin "object.__setattr__"))) (kE10 : PySem.W.keepIn K (.ref E10) = true) (gE10 : PySem.W.findIn K (.ref E10) "__getattribute__" = some (some (.builtin "BaseException.__getattribute__"))) (hE10 : PySem.W.findIn K (.ref E10) "__getattr__" = some none) (bE10 : PySem.W.subIn K (.ref E10) (.type "BaseException") = some true) (cE10 : PySem.W.findIn K (.ref E10) "__class__" = some (some (.builtin "object.__class__")))
    (xE10 : PySem.W.excIn K E10 [.type "ValueError", .type "Exception", .type "BaseException", .type "object"] "ValueError.__new__" = true)
    (aE11 : PySem.W.nsIn K mainGlobals "InvalidFunction" = some (some (.ref E11))) (oE11 : K.lookup E11 = some (excClassObj nmE11 qE11 E11 NE11 bsE11 (.ref E15 :: [.type "ValueError", .type "Exception", .type "BaseException", .type "object"]) true snE11 suE11 abE11 coE11 ddE11 z0E11 z1E11 z2E11 z3E11 z5E11 "ValueError.__new__"))
    (sE11 : PySem.W.findIn K (.ref E11) "__setattr__" = some (some (.builtin "object.__setattr__"))) (kE11 : PySem.W.keepIn K (.ref E11) = true) (gE11 : PySem.W.findIn K (.ref E11) "__getattribute__" = some (some (.builtin "BaseException.__getattribute__"))) (hE11 : PySem.W.findIn K (.ref E11) "__getattr__" = some none) (bE11 : PySem.W.subIn K (.ref E11) (.type "BaseException") = some true) (cE11 : PySem.W.findIn K (.ref E11) "__class__" = some (some (.builtin "object.__class__")))
    (xE11 : PySem.W.excIn K E11 [.type "ValueError", .type "Exception", .type "BaseException", .type "object"] "ValueError.__new__" = true)
    (aE12 : PySem.W.nsIn K mainGlobals "InvalidProgram" = some (some (.ref E12))) (oE12 : K.lookup E12 = some (excClassObj nmE12 qE12 E12 NE12 bsE12 (.ref E15 :: [.type "ValueError", .type "Exception", .type "BaseException", .type "object"]) true snE12 suE12 abE12 coE12 ddE12 z0E12 z1E12 z2E12 z3E12 z5E12 "ValueError.__new__"))
    (sE12 : PySem.W.findIn K (.ref E12) "__setattr__" = some (some (.builtin "object.__setattr__"))) (kE12 : PySem.W.keepIn K (.ref E12) = true) (gE12 : PySem.W.findIn K (.ref E12) "__getattribute__" = some (some (.builtin "BaseException.__getattribute__"))) (hE12 : PySem.W.findIn K (.ref E12) "__getattr__" = some none) (bE12 : PySem.W.subIn K (.ref E12) (.type "BaseException") = some true) (cE12 : PySem.W.findIn K (.ref E12) "__class__" = some (some (.builtin "object.__class__")))
    (xE12 : PySem.W.excIn K E12 [.type "ValueError", .type "Exception", .type "BaseException", .type "object"] "ValueError.__new__" = true)
    (aE13 : PySem.W.nsIn K mainGlobals "InvalidOperation" = some (some (.ref E13))) (oE13 : K.lookup E13 = some (excClassObj nmE13 qE13 E13 NE13 bsE13 (.ref E15 :: [.type "ValueError", .type "Exception", .type "BaseException", .type "object"]) true snE13 suE13 abE13 coE13 ddE13 z0E13 z1E13 z2E13 z3E13 z5E13 "ValueError.__new__"))
    (sE13 : PySem.W.findIn K (.ref E13) "__setattr__" = some (some (.builtin "object.__setattr__"))) (kE13 : PySem.W.keepIn K (.ref E13) = true) (gE13 : PySem.W.findIn K (.ref E13) "__getattribute__" = some (some (.builtin "BaseException.__getattribute__"))) (hE13 : PySem.W.findIn K (.ref E13) "__getattr__" = some none) (bE13 : PySem.W.subIn K (.ref E13) (.type "BaseException") = some true) (cE13 : PySem.W.findIn K (.ref E13) "__class__" = some (some (.builtin "object.__class__")))
    (xE13 : PySem.W.excIn K E13 [.type "ValueError", .type "Exception", .type "BaseException", .type "object"] "ValueError.__new__" = true)
    (aE14 : PySem.W.nsIn K mainGlobals "InvalidName" = some (some (.ref E14))) (oE14 : K.lookup E14 = some (excClassObj nmE14 qE14 E14 NE14 bsE14 (.ref E15 :: [.type "ValueError", .type "Exception", .type "BaseException", .type "object"]) true snE14 suE14 abE14 coE14 ddE14 z0E14 z1E14 z2E14 z3E14 z5E14 "ValueError.__new__"))
    (sE14 : PySem.W.findIn K (.ref E14) "__setattr__" = some (some (.builtin "object.__setattr__"))) (kE14 : PySem.W.keepIn K (.ref E14) = true) (gE14 : PySem.W.findIn K (.ref E14) "__getattribute__" = some (some (.builtin "BaseException.__getattribute__"))) (hE14 : PySem.W.findIn K (.ref E14) "__getattr__" = some none) (bE14 : PySem.W.subIn K (.ref E14) (.type "BaseException") = some true) (cE14 : PySem.W.findIn K (.ref E14) "__class__" = some (some (.builtin "object.__class__")))
    (xE14 : PySem.W.excIn K E14 [.type "ValueError", .type "Exception", .type "BaseException", .type "object"] "ValueError.__new__" = true)
    (aE15 : PySem.W.nsIn K mainGlobals "ClaimError" = some (some (.ref E15))) (oE15 : K.lookup E15 = some (excClassObj nmE15 qE15 E15 NE15 bsE15 [.type "ValueError", .type "Exception", .type "BaseException", .type "object"] true snE15 suE15 abE15 coE15 ddE15 z0E15 z1E15 z2E15 z3E15 z5E15 "ValueError.__new__"))
    (sE15 : PySem.W.findIn K (.ref E15) "__setattr__" = some (some (.builtin "object.__setattr__"))) (kE15 : PySem.W.keepIn K (.ref E15) = true) (gE15 : PySem.W.findIn K (.ref E15) "__getattribute__" = some (some (.builtin "BaseException.__getattribute__"))) (hE15 : PySem.W.findIn K (.ref E15) "__getattr__" = some none) (bE15 : PySem.W.subIn K (.ref E15) (.type "BaseException") = some true) (cE15 : PySem.W.findIn K (.ref E15) "__class__" = some (some (.builtin "object.__class__")))
    (xE15 : PySem.W.excIn K E15 [.type "ValueError", .type "Exception", .type "BaseException", .type "object"] "ValueError.__new__" = true)
    (ndE : [E0, E1, E2, E3, E4, E5, E6, E7, E8, E9, E10, E11, E12, E13, E14, E15].Nodup)
    (mA : PySem.W.nsIn K mainGlobals "MAX_ARRAYS" = some (some (.int 12 t12))) (mP : PySem.W.nsIn K mainGlobals "MAX_POSITIONS" = some (some (.int 8 tp8))) (mV : PySem.W.nsIn K mainGlobals "MAX_VALUES" = some (some (.int 6 tv6)))
    (z_isinstance : PySem.W.nsIn K mainGlobals "isinstance" = some none)
    (z_int : PySem.W.nsIn K mainGlobals "int" = some none)
    (z_bool : PySem.W.nsIn K mainGlobals "bool" = some none)
    (z_str : PySem.W.nsIn K mainGlobals "str" = some none)
    (z_tuple : PySem.W.nsIn K mainGlobals "tuple" = some none)
    (z_dict : PySem.W.nsIn K mainGlobals "dict" = some none)
    (z_list : PySem.W.nsIn K mainGlobals "list" = some none)
    (z_set : PySem.W.nsIn K mainGlobals "set" = some none)
    (z_len : PySem.W.nsIn K mainGlobals "len" = some none)
    (z_abs : PySem.W.nsIn K mainGlobals "abs" = some none)
    (z_range : PySem.W.nsIn K mainGlobals "range" = some none)
    (z_zip : PySem.W.nsIn K mainGlobals "zip" = some none)
    (z_enumerate : PySem.W.nsIn K mainGlobals "enumerate" = some none)
    (z_max : PySem.W.nsIn K mainGlobals "max" = some none)
    (z_min : PySem.W.nsIn K mainGlobals "min" = some none)
    (z_repr : PySem.W.nsIn K mainGlobals "repr" = some none)
    (z_ValueError : PySem.W.nsIn K mainGlobals "ValueError" = some none)
    (z_IndexError : PySem.W.nsIn K mainGlobals "IndexError" = some none)
    (z_KeyError : PySem.W.nsIn K mainGlobals "KeyError" = some none)
    (z_LookupError : PySem.W.nsIn K mainGlobals "LookupError" = some none)
    (z_OverflowError : PySem.W.nsIn K mainGlobals "OverflowError" = some none)
    (z_ArithmeticError : PySem.W.nsIn K mainGlobals "ArithmeticError" = some none)
    : ∃ (fd : FuncData) (c : Addr), K.lookup PT = none ∧ PySem.W.codeHdIn K c PT = true ∧ (∀ (s : Shared) (v : Value), BindsTo s fd ⟨[v], []⟩ [("_law_script", v)]) ∧ ∀ base : Heap, K.In base → base.Ns mainGlobals mg → TabB base mg c PT → FnG P w K mg base 9 fa fd ["_law_script"] (spLawT K PT) := by
  have e := hfa.symm.trans (PySem.W.mg_of X G ak56)
  cases e
  have B : Blt mg := ⟨PySem.W.mg_none_of X G z_isinstance, PySem.W.mg_none_of X G z_int, PySem.W.mg_none_of X G z_bool, PySem.W.mg_none_of X G z_str, PySem.W.mg_none_of X G z_tuple, PySem.W.mg_none_of X G z_dict, PySem.W.mg_none_of X G z_list, PySem.W.mg_none_of X G z_set, PySem.W.mg_none_of X G z_len, PySem.W.mg_none_of X G z_abs, PySem.W.mg_none_of X G z_range, PySem.W.mg_none_of X G z_zip, PySem.W.mg_none_of X G z_enumerate, PySem.W.mg_none_of X G z_max, PySem.W.mg_none_of X G z_min, PySem.W.mg_none_of X G z_repr⟩
  have BE : BltE mg := ⟨PySem.W.mg_none_of X G z_ValueError, PySem.W.mg_none_of X G z_IndexError, PySem.W.mg_none_of X G z_KeyError, PySem.W.mg_none_of X G z_LookupError, PySem.W.mg_none_of X G z_OverflowError, PySem.W.mg_none_of X G z_ArithmeticError⟩
  have MX : MaxTxt mg := ⟨⟨_, PySem.W.mg_of X G mA⟩, ⟨_, PySem.W.mg_of X G mP⟩, ⟨_, PySem.W.mg_of X G mV⟩⟩
  have T : FrTxt K mg C := ⟨⟨x_pg, x_hd, x_po, x_sa⟩, y0, y1, y2, y3, y4, y5, PySem.W.mg_of X G aF⟩
  have Z : IsiTxt K C := ⟨x_i1, x_i2, x_i3, x_i4⟩
  have NT : NeTxt K C := ⟨x_i4, x_ne⟩
  obtain ⟨e, he⟩ : ∃ e : Nat → Addr, e = fun i => [E0, E1, E2, E3, E4, E5, E6, E7, E8, E9, E10, E11, E12, E13, E14, E15].getD i 0 := ⟨_, rfl⟩
  have e0 : e 0 = E0 := by rw [he]; rfl
  have e1 : e 1 = E1 := by rw [he]; rfl
  have e2 : e 2 = E2 := by rw [he]; rfl
  have e3 : e 3 = E3 := by rw [he]; rfl
  have e4 : e 4 = E4 := by rw [he]; rfl
  have e5 : e 5 = E5 := by rw [he]; rfl
  have e6 : e 6 = E6 := by rw [he]; rfl
  have e7 : e 7 = E7 := by rw [he]; rfl
  have e8 : e 8 = E8 := by rw [he]; rfl
  have e9 : e 9 = E9 := by rw [he]; rfl
  have e10 : e 10 = E10 := by rw [he]; rfl
  have e11 : e 11 = E11 := by rw [he]; rfl
  have e12 : e 12 = E12 := by rw [he]; rfl
  have e13 : e 13 = E13 := by rw [he]; rfl
  have e14 : e 14 = E14 := by rw [he]; rfl
  have e15 : e 15 = E15 := by rw [he]; rfl
  have x0 : OexG K (e 0) (bmE e 0) (tlE 0) (mkE 0) := by
    have b : bmE e 0 = (.ref E15 :: [.type "ValueError", .type "Exception", .type "BaseException", .type "object"]) := by show (if frE 0 = true then Value.ref (e 15) :: tlE 0 else tlE 0) = _; rw [e15]; rfl
    refine ⟨?_, tail_bm e 0, by rw [e0]; exact sE0, by rw [e0]; exact kE0⟩
    rw [b, e0]
    exact ⟨_, _, _, _, _, _, _, _, _, _, _, _, _, _, oE0⟩
  have y0C : ExcC K (e 0) := by rw [e0]; exact ⟨gE0, hE0, bE0, by have := x0.hd; rwa [e0] at this, cE0, x_i2, x_i3, by have : PySem.W.mroIn K (e 0) (.type "object") = some true := (x0.mro (.type "object")).trans (congrArg some ((mro_ty e 0 "object").trans (by decide +kernel))); rwa [e0] at this⟩
  have g0E : mg (nmE 0) = some (.ref (e 0)) := by rw [e0]; exact PySem.W.mg_of X G aE0
  have x1 : OexG K (e 1) (bmE e 1) (tlE 1) (mkE 1) := by
    have b : bmE e 1 = [.type "IndexError", .type "LookupError", .type "Exception", .type "BaseException", .type "object"] := by show (if frE 1 = true then Value.ref (e 15) :: tlE 1 else tlE 1) = _; rw [e15]; rfl
    refine ⟨?_, tail_bm e 1, by rw [e1]; exact sE1, by rw [e1]; exact kE1⟩
    rw [b, e1]
    exact ⟨_, _, _, _, _, _, _, _, _, _, _, _, _, _, oE1⟩
  have y1C : ExcC K (e 1) := by rw [e1]; exact ⟨gE1, hE1, bE1, by have := x1.hd; rwa [e1] at this, cE1, x_i2, x_i3, by have : PySem.W.mroIn K (e 1) (.type "object") = some true := (x1.mro (.type "object")).trans (congrArg some ((mro_ty e 1 "object").trans (by decide +kernel))); rwa [e1] at this⟩
  have g1E : mg (nmE 1) = some (.ref (e 1)) := by rw [e1]; exact PySem.W.mg_of X G aE1
  have x2 : OexG K (e 2) (bmE e 2) (tlE 2) (mkE 2) := by
    have b : bmE e 2 = [.type "KeyError", .type "LookupError", .type "Exception", .type "BaseException", .type "object"] := by show (if frE 2 = true then Value.ref (e 15) :: tlE 2 else tlE 2) = _; rw [e15]; rfl
    refine ⟨?_, tail_bm e 2, by rw [e2]; exact sE2, by rw [e2]; exact kE2⟩
    rw [b, e2]
    exact ⟨_, _, _, _, _, _, _, _, _, _, _, _, _, _, oE2⟩
  have y2C : ExcC K (e 2) := by rw [e2]; exact ⟨gE2, hE2, bE2, by have := x2.hd; rwa [e2] at this, cE2, x_i2, x_i3, by have : PySem.W.mroIn K (e 2) (.type "object") = some true := (x2.mro (.type "object")).trans (congrArg some ((mro_ty e 2 "object").trans (by decide +kernel))); rwa [e2] at this⟩
  have g2E : mg (nmE 2) = some (.ref (e 2)) := by rw [e2]; exact PySem.W.mg_of X G aE2
  have x3 : OexG K (e 3) (bmE e 3) (tlE 3) (mkE 3) := by
    have b : bmE e 3 = [.type "LookupError", .type "Exception", .type "BaseException", .type "object"] := by show (if frE 3 = true then Value.ref (e 15) :: tlE 3 else tlE 3) = _; rw [e15]; rfl
    refine ⟨?_, tail_bm e 3, by rw [e3]; exact sE3, by rw [e3]; exact kE3⟩
    rw [b, e3]
    exact ⟨_, _, _, _, _, _, _, _, _, _, _, _, _, _, oE3⟩
  have y3C : ExcC K (e 3) := by rw [e3]; exact ⟨gE3, hE3, bE3, by have := x3.hd; rwa [e3] at this, cE3, x_i2, x_i3, by have : PySem.W.mroIn K (e 3) (.type "object") = some true := (x3.mro (.type "object")).trans (congrArg some ((mro_ty e 3 "object").trans (by decide +kernel))); rwa [e3] at this⟩
  have g3E : mg (nmE 3) = some (.ref (e 3)) := by rw [e3]; exact PySem.W.mg_of X G aE3
  have x4 : OexG K (e 4) (bmE e 4) (tlE 4) (mkE 4) := by
    have b : bmE e 4 = [.type "OverflowError", .type "ArithmeticError", .type "Exception", .type "BaseException", .type "object"] := by show (if frE 4 = true then Value.ref (e 15) :: tlE 4 else tlE 4) = _; rw [e15]; rfl
    refine ⟨?_, tail_bm e 4, by rw [e4]; exact sE4, by rw [e4]; exact kE4⟩
    rw [b, e4]
    exact ⟨_, _, _, _, _, _, _, _, _, _, _, _, _, _, oE4⟩
  have y4C : ExcC K (e 4) := by rw [e4]; exact ⟨gE4, hE4, bE4, by have := x4.hd; rwa [e4] at this, cE4, x_i2, x_i3, by have : PySem.W.mroIn K (e 4) (.type "object") = some true := (x4.mro (.type "object")).trans (congrArg some ((mro_ty e 4 "object").trans (by decide +kernel))); rwa [e4] at this⟩
  have g4E : mg (nmE 4) = some (.ref (e 4)) := by rw [e4]; exact PySem.W.mg_of X G aE4
  have x5 : OexG K (e 5) (bmE e 5) (tlE 5) (mkE 5) := by
    have b : bmE e 5 = [.type "ArithmeticError", .type "Exception", .type "BaseException", .type "object"] := by show (if frE 5 = true then Value.ref (e 15) :: tlE 5 else tlE 5) = _; rw [e15]; rfl
    refine ⟨?_, tail_bm e 5, by rw [e5]; exact sE5, by rw [e5]; exact kE5⟩
    rw [b, e5]
    exact ⟨_, _, _, _, _, _, _, _, _, _, _, _, _, _, oE5⟩
  have y5C : ExcC K (e 5) := by rw [e5]; exact ⟨gE5, hE5, bE5, by have := x5.hd; rwa [e5] at this, cE5, x_i2, x_i3, by have : PySem.W.mroIn K (e 5) (.type "object") = some true := (x5.mro (.type "object")).trans (congrArg some ((mro_ty e 5 "object").trans (by decide +kernel))); rwa [e5] at this⟩
  have g5E : mg (nmE 5) = some (.ref (e 5)) := by rw [e5]; exact PySem.W.mg_of X G aE5
  have x6 : OexG K (e 6) (bmE e 6) (tlE 6) (mkE 6) := by
    have b : bmE e 6 = (.ref E15 :: [.type "ValueError", .type "Exception", .type "BaseException", .type "object"]) := by show (if frE 6 = true then Value.ref (e 15) :: tlE 6 else tlE 6) = _; rw [e15]; rfl
    refine ⟨?_, tail_bm e 6, by rw [e6]; exact sE6, by rw [e6]; exact kE6⟩
    rw [b, e6]
    exact ⟨_, _, _, _, _, _, _, _, _, _, _, _, _, _, oE6⟩
  have y6C : ExcC K (e 6) := by rw [e6]; exact ⟨gE6, hE6, bE6, by have := x6.hd; rwa [e6] at this, cE6, x_i2, x_i3, by have : PySem.W.mroIn K (e 6) (.type "object") = some true := (x6.mro (.type "object")).trans (congrArg some ((mro_ty e 6 "object").trans (by decide +kernel))); rwa [e6] at this⟩
  have g6E : mg (nmE 6) = some (.ref (e 6)) := by rw [e6]; exact PySem.W.mg_of X G aE6
  have x7 : OexG K (e 7) (bmE e 7) (tlE 7) (mkE 7) := by
    have b : bmE e 7 = (.ref E15 :: [.type "ValueError", .type "Exception", .type "BaseException", .type "object"]) := by show (if frE 7 = true then Value.ref (e 15) :: tlE 7 else tlE 7) = _; rw [e15]; rfl
    refine ⟨?_, tail_bm e 7, by rw [e7]; exact sE7, by rw [e7]; exact kE7⟩
    rw [b, e7]
    exact ⟨_, _, _, _, _, _, _, _, _, _, _, _, _, _, oE7⟩
  have y7C : ExcC K (e 7) := by rw [e7]; exact ⟨gE7, hE7, bE7, by have := x7.hd; rwa [e7] at this, cE7, x_i2, x_i3, by have : PySem.W.mroIn K (e 7) (.type "object") = some true := (x7.mro (.type "object")).trans (congrArg some ((mro_ty e 7 "object").trans (by decide +kernel))); rwa [e7] at this⟩
  have g7E : mg (nmE 7) = some (.ref (e 7)) := by rw [e7]; exact PySem.W.mg_of X G aE7
  have x8 : OexG K (e 8) (bmE e 8) (tlE 8) (mkE 8) := by
    have b : bmE e 8 = (.ref E15 :: [.type "ValueError", .type "Exception", .type "BaseException", .type "object"]) := by show (if frE 8 = true then Value.ref (e 15) :: tlE 8 else tlE 8) = _; rw [e15]; rfl
    refine ⟨?_, tail_bm e 8, by rw [e8]; exact sE8, by rw [e8]; exact kE8⟩
    rw [b, e8]
    exact ⟨_, _, _, _, _, _, _, _, _, _, _, _, _, _, oE8⟩
  have y8C : ExcC K (e 8) := by rw [e8]; exact ⟨gE8, hE8, bE8, by have := x8.hd; rwa [e8] at this, cE8, x_i2, x_i3, by have : PySem.W.mroIn K (e 8) (.type "object") = some true := (x8.mro (.type "object")).trans (congrArg some ((mro_ty e 8 "object").trans (by decide +kernel))); rwa [e8] at this⟩
  have g8E : mg (nmE 8) = some (.ref (e 8)) := by rw [e8]; exact PySem.W.mg_of X G aE8
  have x9 : OexG K (e 9) (bmE e 9) (tlE 9) (mkE 9) := by
    have b : bmE e 9 = (.ref E15 :: [.type "ValueError", .type "Exception", .type "BaseException", .type "object"]) := by show (if frE 9 = true then Value.ref (e 15) :: tlE 9 else tlE 9) = _; rw [e15]; rfl
    refine ⟨?_, tail_bm e 9, by rw [e9]; exact sE9, by rw [e9]; exact kE9⟩
    rw [b, e9]
    exact ⟨_, _, _, _, _, _, _, _, _, _, _, _, _, _, oE9⟩
  have y9C : ExcC K (e 9) := by rw [e9]; exact ⟨gE9, hE9, bE9, by have := x9.hd; rwa [e9] at this, cE9, x_i2, x_i3, by have : PySem.W.mroIn K (e 9) (.type "object") = some true := (x9.mro (.type "object")).trans (congrArg some ((mro_ty e 9 "object").trans (by decide +kernel))); rwa [e9] at this⟩
  have g9E : mg (nmE 9) = some (.ref (e 9)) := by rw [e9]; exact PySem.W.mg_of X G aE9
  have x10 : OexG K (e 10) (bmE e 10) (tlE 10) (mkE 10) := by
    have b : bmE e 10 = (.ref E15 :: [.type "ValueError", .type "Exception", .type "BaseException", .type "object"]) := by show (if frE 10 = true then Value.ref (e 15) :: tlE 10 else tlE 10) = _; rw [e15]; rfl
    refine ⟨?_, tail_bm e 10, by rw [e10]; exact sE10, by rw [e10]; exact kE10⟩
    rw [b, e10]
    exact ⟨_, _, _, _, _, _, _, _, _, _, _, _, _, _, oE10⟩
  have y10C : ExcC K (e 10) := by rw [e10]; exact ⟨gE10, hE10, bE10, by have := x10.hd; rwa [e10] at this, cE10, x_i2, x_i3, by have : PySem.W.mroIn K (e 10) (.type "object") = some true := (x10.mro (.type "object")).trans (congrArg some ((mro_ty e 10 "object").trans (by decide +kernel))); rwa [e10] at this⟩
  have g10E : mg (nmE 10) = some (.ref (e 10)) := by rw [e10]; exact PySem.W.mg_of X G aE10
  have x11 : OexG K (e 11) (bmE e 11) (tlE 11) (mkE 11) := by
    have b : bmE e 11 = (.ref E15 :: [.type "ValueError", .type "Exception", .type "BaseException", .type "object"]) := by show (if frE 11 = true then Value.ref (e 15) :: tlE 11 else tlE 11) = _; rw [e15]; rfl
    refine ⟨?_, tail_bm e 11, by rw [e11]; exact sE11, by rw [e11]; exact kE11⟩
    rw [b, e11]
    exact ⟨_, _, _, _, _, _, _, _, _, _, _, _, _, _, oE11⟩
  have y11C : ExcC K (e 11) := by rw [e11]; exact ⟨gE11, hE11, bE11, by have := x11.hd; rwa [e11] at this, cE11, x_i2, x_i3, by have : PySem.W.mroIn K (e 11) (.type "object") = some true := (x11.mro (.type "object")).trans (congrArg some ((mro_ty e 11 "object").trans (by decide +kernel))); rwa [e11] at this⟩
  have g11E : mg (nmE 11) = some (.ref (e 11)) := by rw [e11]; exact PySem.W.mg_of X G aE11
  have x12 : OexG K (e 12) (bmE e 12) (tlE 12) (mkE 12) := by
    have b : bmE e 12 = (.ref E15 :: [.type "ValueError", .type "Exception", .type "BaseException", .type "object"]) := by show (if frE 12 = true then Value.ref (e 15) :: tlE 12 else tlE 12) = _; rw [e15]; rfl
    refine ⟨?_, tail_bm e 12, by rw [e12]; exact sE12, by rw [e12]; exact kE12⟩
    rw [b, e12]
    exact ⟨_, _, _, _, _, _, _, _, _, _, _, _, _, _, oE12⟩
  have y12C : ExcC K (e 12) := by rw [e12]; exact ⟨gE12, hE12, bE12, by have := x12.hd; rwa [e12] at this, cE12, x_i2, x_i3, by have : PySem.W.mroIn K (e 12) (.type "object") = some true := (x12.mro (.type "object")).trans (congrArg some ((mro_ty e 12 "object").trans (by decide +kernel))); rwa [e12] at this⟩
  have g12E : mg (nmE 12) = some (.ref (e 12)) := by rw [e12]; exact PySem.W.mg_of X G aE12
  have x13 : OexG K (e 13) (bmE e 13) (tlE 13) (mkE 13) := by
    have b : bmE e 13 = (.ref E15 :: [.type "ValueError", .type "Exception", .type "BaseException", .type "object"]) := by show (if frE 13 = true then Value.ref (e 15) :: tlE 13 else tlE 13) = _; rw [e15]; rfl
    refine ⟨?_, tail_bm e 13, by rw [e13]; exact sE13, by rw [e13]; exact kE13⟩
    rw [b, e13]
    exact ⟨_, _, _, _, _, _, _, _, _, _, _, _, _, _, oE13⟩
  have y13C : ExcC K (e 13) := by rw [e13]; exact ⟨gE13, hE13, bE13, by have := x13.hd; rwa [e13] at this, cE13, x_i2, x_i3, by have : PySem.W.mroIn K (e 13) (.type "object") = some true := (x13.mro (.type "object")).trans (congrArg some ((mro_ty e 13 "object").trans (by decide +kernel))); rwa [e13] at this⟩
  have g13E : mg (nmE 13) = some (.ref (e 13)) := by rw [e13]; exact PySem.W.mg_of X G aE13
  have x14 : OexG K (e 14) (bmE e 14) (tlE 14) (mkE 14) := by
    have b : bmE e 14 = (.ref E15 :: [.type "ValueError", .type "Exception", .type "BaseException", .type "object"]) := by show (if frE 14 = true then Value.ref (e 15) :: tlE 14 else tlE 14) = _; rw [e15]; rfl
    refine ⟨?_, tail_bm e 14, by rw [e14]; exact sE14, by rw [e14]; exact kE14⟩
    rw [b, e14]
    exact ⟨_, _, _, _, _, _, _, _, _, _, _, _, _, _, oE14⟩
  have y14C : ExcC K (e 14) := by rw [e14]; exact ⟨gE14, hE14, bE14, by have := x14.hd; rwa [e14] at this, cE14, x_i2, x_i3, by have : PySem.W.mroIn K (e 14) (.type "object") = some true := (x14.mro (.type "object")).trans (congrArg some ((mro_ty e 14 "object").trans (by decide +kernel))); rwa [e14] at this⟩
  have g14E : mg (nmE 14) = some (.ref (e 14)) := by rw [e14]; exact PySem.W.mg_of X G aE14
  have x15 : OexG K (e 15) (bmE e 15) (tlE 15) (mkE 15) := by
    have b : bmE e 15 = [.type "ValueError", .type "Exception", .type "BaseException", .type "object"] := by show (if frE 15 = true then Value.ref (e 15) :: tlE 15 else tlE 15) = _; rw [e15]; rfl
    refine ⟨?_, tail_bm e 15, by rw [e15]; exact sE15, by rw [e15]; exact kE15⟩
    rw [b, e15]
    exact ⟨_, _, _, _, _, _, _, _, _, _, _, _, _, _, oE15⟩
  have y15C : ExcC K (e 15) := by rw [e15]; exact ⟨gE15, hE15, bE15, by have := x15.hd; rwa [e15] at this, cE15, x_i2, x_i3, by have : PySem.W.mroIn K (e 15) (.type "object") = some true := (x15.mro (.type "object")).trans (congrArg some ((mro_ty e 15 "object").trans (by decide +kernel))); rwa [e15] at this⟩
  have g15E : mg (nmE 15) = some (.ref (e 15)) := by rw [e15]; exact PySem.W.mg_of X G aE15
  have ET : ErrTxt K mg e := ⟨fun i j hi hj z => addr_nd ndE hi hj (by rw [he] at z; exact z), all16 x0 x1 x2 x3 x4 x5 x6 x7 x8 x9 x10 x11 x12 x13 x14 x15, all16 y0C y1C y2C y3C y4C y5C y6C y7C y8C y9C y10C y11C y12C y13C y14C y15C, all16 g0E g1E g2E g3E g4E g5E g6E g7E g8E g9E g10E g11E g12E g13E g14E g15E⟩
  have O6 : OwnX K mg (nmE 6) (e 6) := ⟨g6E, by rw [e6]; exact xE6, by rw [e6]; exact kE6, by rw [e6]; exact bE6, x6.typ, (exm_ref2 ET (by decide) (by decide)).trans (by decide +kernel)⟩
  have O7 : OwnX K mg (nmE 7) (e 7) := ⟨g7E, by rw [e7]; exact xE7, by rw [e7]; exact kE7, by rw [e7]; exact bE7, x7.typ, (exm_ref2 ET (by decide) (by decide)).trans (by decide +kernel)⟩
  have O8 : OwnX K mg (nmE 8) (e 8) := ⟨g8E, by rw [e8]; exact xE8, by rw [e8]; exact kE8, by rw [e8]; exact bE8, x8.typ, (exm_ref2 ET (by decide) (by decide)).trans (by decide +kernel)⟩
  have O9 : OwnX K mg (nmE 9) (e 9) := ⟨g9E, by rw [e9]; exact xE9, by rw [e9]; exact kE9, by rw [e9]; exact bE9, x9.typ, (exm_ref2 ET (by decide) (by decide)).trans (by decide +kernel)⟩
  have O10 : OwnX K mg (nmE 10) (e 10) := ⟨g10E, by rw [e10]; exact xE10, by rw [e10]; exact kE10, by rw [e10]; exact bE10, x10.typ, (exm_ref2 ET (by decide) (by decide)).trans (by decide +kernel)⟩
  have O11 : OwnX K mg (nmE 11) (e 11) := ⟨g11E, by rw [e11]; exact xE11, by rw [e11]; exact kE11, by rw [e11]; exact bE11, x11.typ, (exm_ref2 ET (by decide) (by decide)).trans (by decide +kernel)⟩
  have O12 : OwnX K mg (nmE 12) (e 12) := ⟨g12E, by rw [e12]; exact xE12, by rw [e12]; exact kE12, by rw [e12]; exact bE12, x12.typ, (exm_ref2 ET (by decide) (by decide)).trans (by decide +kernel)⟩
  have O13 : OwnX K mg (nmE 13) (e 13) := ⟨g13E, by rw [e13]; exact xE13, by rw [e13]; exact kE13, by rw [e13]; exact bE13, x13.typ, (exm_ref2 ET (by decide) (by decide)).trans (by decide +kernel)⟩
  have O14 : OwnX K mg (nmE 14) (e 14) := ⟨g14E, by rw [e14]; exact xE14, by rw [e14]; exact kE14, by rw [e14]; exact bE14, x14.typ, (exm_ref2 ET (by decide) (by decide)).trans (by decide +kernel)⟩
  have O15 : OwnX K mg (nmE 15) (e 15) := ⟨g15E, by rw [e15]; exact xE15, by rw [e15]; exact kE15, by rw [e15]; exact bE15, x15.typ, (exm_ref2 ET (by decide) (by decide)).trans (by decide +kernel)⟩
  have OX := all10 (P := fun i => OwnX K mg (nmE i) (e i)) O6 O7 O8 O9 O10 O11 O12 O13 O14 O15
  have Of : OwnX K mg "InvalidFrame" (e 6) := O6
  have XF : ∀ i, i < 6 → XfC K (e i) := fun i hi => ⟨(ET.C i (by omega)).hg, (ET.C i (by omega)).hk, (ET.C i (by omega)).hs, (ET.C i (by omega)).hd⟩
  have NO : ∀ i, i < 6 → PySem.W.findIn K (.ref (e i)) (fldE i) = some none := all6 (by rw [e0]; exact nE0) (by rw [e1]; exact nE1) (by rw [e2]; exact nE2) (by rw [e3]; exact nE3) (by rw [e4]; exact nE4) (by rw [e5]; exact nE5)
  have Fs11 := fun_mk (st := (topS 11)) ls11 cs11 ks11
  have bs11 := Fs11.binds (ps := ["kinds", "word"]) fun _ _ _ _ _ _ us hl => match us, hl with | [_, _], _ => rfl
  have hs11 := PySem.W.mg_of X G as11
  have Fs21 := fun_mk (st := (topS 21)) ls21 cs21 ks21
  have bs21 := Fs21.binds (ps := ["value"]) fun _ _ _ _ _ _ us hl => match us, hl with | [_], _ => rfl
  have hs21 := PySem.W.mg_of X G as21
  have Fs23 := fun_mk (st := (topS 23)) ls23 cs23 ks23
  have bs23 := Fs23.binds (ps := ["arrays"]) fun _ _ _ _ _ _ us hl => match us, hl with | [_], _ => rfl
  have hs23 := PySem.W.mg_of X G as23
  have Fs24 := fun_mk (st := (topS 24)) ls24 cs24 ks24
  have bs24 := Fs24.binds (ps := ["words"]) fun _ _ _ _ _ _ us hl => match us, hl with | [_], _ => rfl
  have hs24 := PySem.W.mg_of X G as24
  have Fs27 := fun_mk (st := (topS 27)) ls27 cs27 ks27
  have bs27 := Fs27.binds (ps := ["value"]) fun _ _ _ _ _ _ us hl => match us, hl with | [_], _ => rfl
  have hs27 := PySem.W.mg_of X G as27
  have Fs28 := fun_mk (st := (topS 28)) ls28 cs28 ks28
  have bs28 := Fs28.binds (ps := ["arrays"]) fun _ _ _ _ _ _ us hl => match us, hl with | [_], _ => rfl
  have hs28 := PySem.W.mg_of X G as28
  have Fs29 := fun_mk (st := (topS 29)) ls29 cs29 ks29
  have bs29 := Fs29.binds (ps := ["arrays", "positions", "values"]) fun _ _ _ _ _ _ us hl => match us, hl with | [_, _, _], _ => rfl
  have hs29 := PySem.W.mg_of X G as29
  have Fs30 := fun_mk (st := (topS 30)) ls30 cs30 ks30
  have bs30 := Fs30.binds (ps := ["arrays", "positions", "values"]) fun _ _ _ _ _ _ us hl => match us, hl with | [_, _, _], _ => rfl
  have hs30 := PySem.W.mg_of X G as30
  have Fs33 := fun_mk (st := (topS 33)) ls33 cs33 ks33
  have bs33 := Fs33.binds (ps := ["_law_script", "_law_at", "_law_cases"]) fun _ _ _ _ _ _ us hl => match us, hl with | [_, _, _], _ => rfl
  have hs33 := PySem.W.mg_of X G as33
  have Fs34 := fun_mk (st := (topS 34)) ls34 cs34 ks34
  have bs34 := Fs34.binds (ps := ["_law_skein_here", "_law_total"]) fun _ _ _ _ _ _ us hl => match us, hl with | [_, _], _ => rfl
  have hs34 := PySem.W.mg_of X G as34
  have Fs35 := fun_mk (st := (topS 35)) ls35 cs35 ks35
  have bs35 := Fs35.binds (ps := ["_law_skein_here", "_law_items"]) fun _ _ _ _ _ _ us hl => match us, hl with | [_, _], _ => rfl
  have hs35 := PySem.W.mg_of X G as35
  have Fs36 := fun_mk (st := (topS 36)) ls36 cs36 ks36
  have bs36 := Fs36.binds (ps := ["_law_skein_here", "_law_items", "_law_count"]) fun _ _ _ _ _ _ us hl => match us, hl with | [_, _, _], _ => rfl
  have hs36 := PySem.W.mg_of X G as36
  have Fs37 := fun_mk (st := (topS 37)) ls37 cs37 ks37
  have bs37 := Fs37.binds (ps := ["_law_skein_here"]) fun _ _ _ _ _ _ us hl => match us, hl with | [_], _ => rfl
  have hs37 := PySem.W.mg_of X G as37
  have Fs38 := fun_mk (st := (topS 38)) ls38 cs38 ks38
  have bs38 := Fs38.binds (ps := ["_law_parts_here"]) fun _ _ _ _ _ _ us hl => match us, hl with | [_], _ => rfl
  have hs38 := PySem.W.mg_of X G as38
  have Fs39 := fun_mk (st := (topS 39)) ls39 cs39 ks39
  have bs39 := Fs39.binds (ps := ["_law_parts_here"]) fun _ _ _ _ _ _ us hl => match us, hl with | [_], _ => rfl
  have hs39 := PySem.W.mg_of X G as39
  have Fs40 := fun_mk (st := (topS 40)) ls40 cs40 ks40
  have bs40 := Fs40.binds (ps := ["_law_parts_here"]) fun _ _ _ _ _ _ us hl => match us, hl with | [_], _ => rfl
  have hs40 := PySem.W.mg_of X G as40
  have Fk41 := fun_mk (st := (topK 41)) lk41 ck41 kk41
  have bk41 := Fk41.binds (ps := ["_law_value"]) fun _ _ _ _ _ _ us hl => match us, hl with | [_], _ => rfl
  have hk41 := PySem.W.mg_of X G ak41
  have Fk42 := fun_mk (st := (topK 42)) lk42 ck42 kk42
  have bk42 := Fk42.binds (ps := ["_law_parts_here"]) fun _ _ _ _ _ _ us hl => match us, hl with | [_], _ => rfl
  have hk42 := PySem.W.mg_of X G ak42
  have Fk43 := fun_mk (st := (topK 43)) lk43 ck43 kk43
  have bk43 := Fk43.binds (ps := ["_law_parts_here"]) fun _ _ _ _ _ _ us hl => match us, hl with | [_], _ => rfl
  have hk43 := PySem.W.mg_of X G ak43
  have Fk44 := fun_mk (st := (topK 44)) lk44 ck44 kk44
  have bk44 := Fk44.binds (ps := ["_law_frame_here", "_law_parts_here"]) fun _ _ _ _ _ _ us hl => match us, hl with | [_, _], _ => rfl
  have hk44 := PySem.W.mg_of X G ak44
  have Fk45 := fun_mk (st := (topK 45)) lk45 ck45 kk45
  have bk45 := Fk45.binds (ps := ["_law_skein_here", "_law_parts_here"]) fun _ _ _ _ _ _ us hl => match us, hl with | [_, _], _ => rfl
  have hk45 := PySem.W.mg_of X G ak45
  have Fk46 := fun_mk (st := (topK 46)) lk46 ck46 kk46
  have bk46 := Fk46.binds (ps := ["_law_skein_here"]) fun _ _ _ _ _ _ us hl => match us, hl with | [_], _ => rfl
  have hk46 := PySem.W.mg_of X G ak46
  have Fk47 := fun_mk (st := (topK 47)) lk47 ck47 kk47
  have bk47 := Fk47.binds (ps := ["_law_value"]) fun _ _ _ _ _ _ us hl => match us, hl with | [_], _ => rfl
  have hk47 := PySem.W.mg_of X G ak47
  have Fk48 := fun_mk (st := (topK 48)) lk48 ck48 kk48
  have bk48 := Fk48.binds (ps := ["_law_value"]) fun _ _ _ _ _ _ us hl => match us, hl with | [_], _ => rfl
  have hk48 := PySem.W.mg_of X G ak48
  have Fk49 := fun_mk (st := (topK 49)) lk49 ck49 kk49
  have bk49 := Fk49.binds (ps := ["_law_error"]) fun _ _ _ _ _ _ us hl => match us, hl with | [_], _ => rfl
  have hk49 := PySem.W.mg_of X G ak49
  have Fk50 := fun_mk (st := (topK 50)) lk50 ck50 kk50
  have bk50 := Fk50.binds (ps := ["_law_at"]) fun _ _ _ _ _ _ us hl => match us, hl with | [_], _ => rfl
  have hk50 := PySem.W.mg_of X G ak50
  have Fk51 := fun_mk (st := (topK 51)) lk51 ck51 kk51
  have bk51 := Fk51.binds (ps := ["_law_at", "_law_value"]) fun _ _ _ _ _ _ us hl => match us, hl with | [_, _], _ => rfl
  have hk51 := PySem.W.mg_of X G ak51
  have Fk52 := fun_mk (st := (topK 52)) lk52 ck52 kk52
  have bk52 := Fk52.binds (ps := ["_law_at"]) fun _ _ _ _ _ _ us hl => match us, hl with | [_], _ => rfl
  have hk52 := PySem.W.mg_of X G ak52
  have Fk53 := fun_mk (st := (topK 53)) lk53 ck53 kk53
  have bk53 := Fk53.binds (ps := ["_law_call"]) fun _ _ _ _ _ _ us hl => match us, hl with | [_], _ => rfl
  have hk53 := PySem.W.mg_of X G ak53
  have Fk55 := fun_mk (st := (topK 55)) lk55 ck55 kk55
  have bk55 := Fk55.binds (ps := ["_law_skein_here"]) fun _ _ _ _ _ _ us hl => match us, hl with | [_], _ => rfl
  have hk55 := PySem.W.mg_of X G ak55
  have Fk56 := fun_mk (st := (topK 56)) lk56 ck56 kk56
  have Fk54 := fun_mk (st := (topK 54)) lk54 ck54 kk54
  have bk54 := Fk54.binds (ps := ["_law_skein_here"]) fun _ _ _ _ _ _ us hl => match us, hl with | [_], _ => rfl
  have hk54 := PySem.W.mg_of X G ak54
  have FM0 := fun_mk (st := mF 0) lM0 cM0 kM0
  have b0M := FM0.binds (ps := ["self", "arrays", "positions", "values"]) fun _ _ _ _ _ _ us hl => match us, hl with | [_, _, _, _], _ => rfl
  have FM5 := fun_mk (st := mF 5) lM5 cM5 kM5
  have b5M := FM5.binds (ps := ["self", "array"]) fun _ _ _ _ _ _ us hl => match us, hl with | [_, _], _ => rfl
  have FM6 := fun_mk (st := mF 6) lM6 cM6 kM6
  have b6M := FM6.binds (ps := ["self", "word"]) fun _ _ _ _ _ _ us hl => match us, hl with | [_, _], _ => rfl
  have FM7 := fun_mk (st := mF 7) lM7 cM7 kM7
  have b7M := FM7.binds (ps := ["self", "value"]) fun _ _ _ _ _ _ us hl => match us, hl with | [_, _], _ => rfl
  have FM13 := fun_mk (st := mF 13) lM13 cM13 kM13
  have b13M := FM13.binds (ps := ["self", "value"]) fun _ _ _ _ _ _ us hl => match us, hl with | [_, _], _ => rfl
  have FM14 := fun_mk (st := mF 14) lM14 cM14 kM14
  have b14M := FM14.binds (ps := ["self"]) fun _ _ _ _ _ _ us hl => match us, hl with | [_], _ => rfl
  have FM15 := fun_mk (st := mF 15) lM15 cM15 kM15
  have b15M := FM15.binds (ps := ["self", "other"]) fun _ _ _ _ _ _ us hl => match us, hl with | [_, _], _ => rfl
  have FM16 := fun_mk (st := mF 16) lM16 cM16 kM16
  have b16M := FM16.binds (ps := ["self"]) fun _ _ _ _ _ _ us hl => match us, hl with | [_], _ => rfl
  have FP1 := fun_mk (st := mF 1) lP1 cP1 kP1
  have b1P := FP1.binds (ps := ["self"]) fun _ _ _ _ _ _ us hl => match us, hl with | [_], _ => rfl
  have FP2 := fun_mk (st := mF 2) lP2 cP2 kP2
  have b2P := FP2.binds (ps := ["self"]) fun _ _ _ _ _ _ us hl => match us, hl with | [_], _ => rfl
  have FP3 := fun_mk (st := mF 3) lP3 cP3 kP3
  have b3P := FP3.binds (ps := ["self"]) fun _ _ _ _ _ _ us hl => match us, hl with | [_], _ => rfl
  have FP4 := fun_mk (st := mF 4) lP4 cP4 kP4
  have b4P := FP4.binds (ps := ["self"]) fun _ _ _ _ _ _ us hl => match us, hl with | [_], _ => rfl
  have FI0 := fun_mk (st := inClass (topK 14) 0) lI0 cI0 kI0
  have b0I := FI0.binds (ps := ["self", "index"]) fun _ _ _ _ _ _ us hl => match us, hl with | [_, _], _ => rfl
  have FI1 := fun_mk (st := inClass (topK 15) 0) lI1 cI1 kI1
  have b1I := FI1.binds (ps := ["self", "number"]) fun _ _ _ _ _ _ us hl => match us, hl with | [_, _], _ => rfl
  have FI2 := fun_mk (st := inClass (topK 16) 0) lI2 cI2 kI2
  have b2I := FI2.binds (ps := ["self", "name"]) fun _ _ _ _ _ _ us hl => match us, hl with | [_, _], _ => rfl
  have FI3 := fun_mk (st := inClass (topK 17) 0) lI3 cI3 kI3
  have b3I := FI3.binds (ps := ["self", "asked"]) fun _ _ _ _ _ _ us hl => match us, hl with | [_, _], _ => rfl
  have FI4 := fun_mk (st := inClass (topK 18) 0) lI4 cI4 kI4
  have b4I := FI4.binds (ps := ["self", "bound"]) fun _ _ _ _ _ _ us hl => match us, hl with | [_, _], _ => rfl
  have FI5 := fun_mk (st := inClass (topK 19) 0) lI5 cI5 kI5
  have b5I := FI5.binds (ps := ["self", "reason"]) fun _ _ _ _ _ _ us hl => match us, hl with | [_, _], _ => rfl
  refine ⟨PySem.W.fnOf "law" "law" (defArgs (topK 56)) (defBody (topK 56)) (defScope (topK 56)) .none kVk56 dck56 pmk56 ank56 cdk56 ctk56, c54, np, hcT, fun s v => .of_eq rfl, fun base _ _ TB => ?_⟩
  have g11 : Cal P w K mg base 1 "kind_among" (spKindZ K w) := ⟨fs11, _, ["kinds", "word"], ok11Z Fs11 B, hs11, ks11, bs11⟩
  have g21 : Cal P w K mg base 1 "is_name" (spName K w) := ⟨fs21, _, ["value"], ok21 Fs21 B, hs21, ks21, bs21⟩
  have g21Z : Cal P w K mg base 1 "is_name" (spNameZ K w) := ⟨fs21, _, ["value"], ok21Z Fs21 B, hs21, ks21, bs21⟩
  have g21Y : Cal P w K mg base 1 "is_name" (spNameY K w) := ⟨fs21, _, ["value"], fn_or (ok21Z Fs21 B) (ok21K Fs21 B), hs21, ks21, bs21⟩
  have g27 : Cal P w K mg base 1 "are_pairs" (spPairs K w) := ⟨fs27, _, ["value"], ok27 Fs27 B, hs27, ks27, bs27⟩
  have g27Z : Cal P w K mg base 1 "are_pairs" (spPairsZ K w) := ⟨fs27, _, ["value"], ok27Z Fs27 B, hs27, ks27, bs27⟩
  have g28 : Cal P w K mg base 1 "different_lengths" (spLens K w) := ⟨fs28, _, ["arrays"], ok28 Fs28 B, hs28, ks28, bs28⟩
  have g29 : Cal P w K mg base 2 "is_frame_content" (spContent K w) := ⟨fs29, _, ["arrays", "positions", "values"], ok29 Fs29 B MX g27 g21 g28, hs29, ks29, bs29⟩
  have g29B : Cal P w K mg base 2 "is_frame_content" (spContentBad K w) := ⟨fs29, _, ["arrays", "positions", "values"], ok29B Fs29 B MX g27Z g21Z g28, hs29, ks29, bs29⟩
  have g30 : Cal P w K mg base 1 "kinds_of_names" (spKinds K w) := ⟨fs30, _, ["arrays", "positions", "values"], ok30 Fs30, hs30, ks30, bs30⟩
  have g24 : Cal P w K mg base 1 "shown_words" (spWords K) := ⟨fs24, _, ["words"], ok24 Fs24 B, hs24, ks24, bs24⟩
  have g23 : Cal P w K mg base 2 "shown_pairs" (spShowP K) := ⟨fs23, _, ["arrays"], ok23 Fs23 g24, hs23, ks23, bs23⟩
  have mM : Mk K C fM0 := ⟨x_mk, aM0, nM0, x_kC⟩
  have MF : MkFr P w K mg base C (e 6) := ⟨fM0, _, mM, okM0 FM0 T Of g29 g28 g30, b0M, PySem.W.mg_of X G aF⟩
  have MZ : MkZ P w K mg base C (e 6) := ⟨fM0, _, mM, okM0Z (okM0B FM0 T Of g29 g28 g30) (okM0X FM0 T Of g29B g28 g30), b0M, PySem.W.mg_of X G aF⟩
  have m5 : MetF P w K mg base 2 C "length_of" (spLenOf K C) := ⟨fM5, _, _, ⟨aM5, nM5, kM5⟩, okM5 FM5 T g11, b5M⟩
  have m6 : MetF P w K mg base 2 C "kind_of" (spKindOf K C) := ⟨fM6, _, _, ⟨aM6, nM6, kM6⟩, okM6 FM6 T g11, b6M⟩
  have m7 : MetF P w K mg base 2 C "is_fresh" (spFreshZ K w C) := ⟨fM7, _, _, ⟨aM7, nM7, kM7⟩, okM7Z FM7 B T g21Z, b7M⟩
  have M13 : OwnM P w K mg base 2 C "__contains__" (spHasZ K w C) := ⟨fM13, _, _, okM13Z FM13 T g11, aM13, nM13, b13M⟩
  have M14 : OwnM P w K mg base 1 C "__len__" (spLenF K C) := ⟨fM14, _, _, okM14 FM14 B T, aM14, nM14, b14M⟩
  have M15 : OwnM P w K mg base 1 C "__eq__" (spEqF K C) := ⟨fM15, _, _, okM15 FM15 B T Z, aM15, nM15, b15M⟩
  have M15L : OwnM P w K mg base 1 C "__eq__" (spEqL K C) := ⟨fM15, _, _, okM15L FM15 B T x_kit, aM15, nM15, b15M⟩
  have M16 : OwnM P w K mg base 3 C "__str__" (spStrF K C) := ⟨fM16, _, _, okM16 FM16 T g23 g24, aM16, nM16, b16M⟩
  have R1 : PropM P w K mg base C "arrays" "_arrays" := prop_mk (st := mF 1) aP1 gP1 tP1 recP1 lP1 cP1 ⟨rfl, rfl, rfl, by decide +kernel, rfl, by decide +kernel, by decide +kernel⟩ rfl T.cl T.nA b1P
  have R2 : PropM P w K mg base C "positions" "_positions" := prop_mk (st := mF 2) aP2 gP2 tP2 recP2 lP2 cP2 ⟨rfl, rfl, rfl, by decide +kernel, rfl, by decide +kernel, by decide +kernel⟩ rfl T.cl T.nP b2P
  have R3 : PropM P w K mg base C "amounts" "_amounts" := prop_mk (st := mF 3) aP3 gP3 tP3 recP3 lP3 cP3 ⟨rfl, rfl, rfl, by decide +kernel, rfl, by decide +kernel, by decide +kernel⟩ rfl T.cl T.nV b3P
  have R4 : PropM P w K mg base C "lengths" "_lengths" := prop_mk (st := mF 4) aP4 gP4 tP4 recP4 lP4 cP4 ⟨rfl, rfl, rfl, by decide +kernel, rfl, by decide +kernel, by decide +kernel⟩ rfl T.cl T.nL b4P
  have g33 : Cal P w K mg base 1 "_law_skein" (spSkein K) := ⟨fs33, _, ["_law_script", "_law_at", "_law_cases"], ok33 Fs33 B, hs33, ks33, bs33⟩
  have g34 : Cal P w K mg base 1 "_law_pull" (spPull K) := ⟨fs34, _, ["_law_skein_here", "_law_total"], ok34 Fs34 B, hs34, ks34, bs34⟩
  have g35 : Cal P w K mg base 2 "_law_one_of" (spOne K) := ⟨fs35, _, ["_law_skein_here", "_law_items"], ok35 Fs35 B g34, hs35, ks35, bs35⟩
  have g35S : Cal P w K mg base 2 "_law_one_of" spOneS := ⟨fs35, _, ["_law_skein_here", "_law_items"], ok35S Fs35 B g34, hs35, ks35, bs35⟩
  have g36 : Cal P w K mg base 2 "_law_few_of" (spFew K) := ⟨fs36, _, ["_law_skein_here", "_law_items", "_law_count"], ok36 Fs36 B g34, hs36, ks36, bs36⟩
  have g37 : Cal P w K mg base 3 "_law_parts" (spPartsW K) := ⟨fs37, _, ["_law_skein_here"], ok37W Fs37 B g34 g36, hs37, ks37, bs37⟩
  have g38 : Cal P w K mg base 1 "_law_lengths" (spLawLens K) := ⟨fs38, _, ["_law_parts_here"], ok38 Fs38 B, hs38, ks38, bs38⟩
  have g39 : CalX P w K mg base 5 "_law_frame" (spLawFr K C (e 6)) := ⟨fs39, _, ["_law_parts_here"], ok39 Fs39 MF, hs39, ks39, bs39⟩
  have g40 : Cal P w K mg base 2 "_law_all_of" (spLawAll K) := ⟨fs40, _, ["_law_parts_here"], ok40 Fs40 B g38, hs40, ks40, bs40⟩
  have c41 : Cal P w K mg base 1 "_law_are_names" (spAreN K w) := ⟨fk41, _, ["_law_value"], op41 Fk41 B, hk41, kk41, bk41⟩
  have c42 : Cal P w K mg base 3 "_law_are_parts" (spAreP K w) := ⟨fk42, _, ["_law_parts_here"], op42 Fk42 B c41 g40, hk42, kk42, bk42⟩
  have c43 : Cal P w K mg base 5 "_law_met" (spMet K w C) := ⟨fk43, _, ["_law_parts_here"], op43 Fk43 Of MZ, hk43, kk43, bk43⟩
  have c44 : CalG P w K mg base 7 "_law_is_told" (spTold K C) := ⟨fk44, _, ["_law_frame_here", "_law_parts_here"], op44 Fk44 B T R1 R2 R3 R4 g38 g40 m6 m5 m7 M13 M14 M16, hk44, kk44, bk44⟩
  have c45 : Cal P w K mg base 3 "_law_near" (spNearP K w) := ⟨fk45, _, ["_law_skein_here", "_law_parts_here"], op45 Fk45 B g34 g35 g40, hk45, kk45, bk45⟩
  have c46 : CalG P w K mg base 8 "_law_right" (spRightN K) := ⟨fk46, _, ["_law_skein_here"], op46 Fk46 B NT g37 c45 c42 c43 c44 g39 M15 M15L, hk46, kk46, bk46⟩
  have c47 : Cal P w K mg base 1 "_law_is_name" (spLNameY K w) := ⟨fk47, _, ["_law_value"], fn_or (op47 Fk47 B) (op47K Fk47 B), hk47, kk47, bk47⟩
  have D0 : MadeX P w K mg base "ParseError" (e 0) (bmE e 0) (tlE 0) "" (fldE 0) (mkE 0) := ⟨x0, g0E, ⟨_, _, _, PySem.F.excBase_ValueError, over_ref (show FcX.Over _ (tlE 0) from ⟨by decide +kernel, by decide +kernel, by decide +kernel⟩) _⟩, ⟨fI0, _, ["self", "index"], by rw [e0]; exact iE0, yE0, okI0 FI0 x0 (NO 0 (by decide)), b0I⟩, by rw [e0]; exact bE0⟩
  have D1 : MadeX P w K mg base "InvalidNumber" (e 1) (bmE e 1) (tlE 1) "" (fldE 1) (mkE 1) := ⟨x1, g1E, ⟨_, _, _, PySem.F.excBase_IndexError, show FcX.Over _ (tlE 1) from ⟨by decide +kernel, by decide +kernel, by decide +kernel⟩⟩, ⟨fI1, _, ["self", "number"], by rw [e1]; exact iE1, yE1, okI1 FI1 x1 (NO 1 (by decide)), b1I⟩, by rw [e1]; exact bE1⟩
  have D2 : MadeX P w K mg base "UnknownName" (e 2) (bmE e 2) (tlE 2) "" (fldE 2) (mkE 2) := ⟨x2, g2E, ⟨_, _, _, PySem.F.excBase_LookupError, show FcX.Over _ (tlE 2) from ⟨by decide +kernel, by decide +kernel, by decide +kernel⟩⟩, ⟨fI2, _, ["self", "name"], by rw [e2]; exact iE2, yE2, okI2 FI2 x2 (NO 2 (by decide)), b2I⟩, by rw [e2]; exact bE2⟩
  have D3 : MadeX P w K mg base "NothingToUndo" (e 3) (bmE e 3) (tlE 3) "" (fldE 3) (mkE 3) := ⟨x3, g3E, ⟨_, _, _, PySem.F.excBase_LookupError, show FcX.Over _ (tlE 3) from ⟨by decide +kernel, by decide +kernel, by decide +kernel⟩⟩, ⟨fI3, _, ["self", "asked"], by rw [e3]; exact iE3, yE3, okI3 FI3 x3 (NO 3 (by decide)), b3I⟩, by rw [e3]; exact bE3⟩
  have D4 : MadeX P w K mg base "TooMany" (e 4) (bmE e 4) (tlE 4) "" (fldE 4) (mkE 4) := ⟨x4, g4E, ⟨_, _, _, PySem.F.excBase_OverflowError, show FcX.Over _ (tlE 4) from ⟨by decide +kernel, by decide +kernel, by decide +kernel⟩⟩, ⟨fI4, _, ["self", "bound"], by rw [e4]; exact iE4, yE4, okI4 FI4 x4 (NO 4 (by decide)), b4I⟩, by rw [e4]; exact bE4⟩
  have D5 : MadeX P w K mg base "Refused" (e 5) (bmE e 5) (tlE 5) "" (fldE 5) (mkE 5) := ⟨x5, g5E, ⟨_, _, _, PySem.F.excBase_ArithmeticError, show FcX.Over _ (tlE 5) from ⟨by decide +kernel, by decide +kernel, by decide +kernel⟩⟩, ⟨fI5, _, ["self", "reason"], by rw [e5]; exact iE5, yE5, okI5 FI5 x5 (NO 5 (by decide)), b5I⟩, by rw [e5]; exact bE5⟩
  have c48 : Cal P w K mg base 3 "_law_made" (spMade16 e) := ⟨fk48, _, ["_law_value"], op48 Fk48 OX D0 D1 D2 D3 D4 D5, hk48, kk48, bk48⟩
  have c49 : Cal P w K mg base 1 "_law_kinds" (spKindsX e) := ⟨fk49, _, ["_law_error"], op49 Fk49 B BE ET, hk49, kk49, bk49⟩
  have c50 : Cal P w K mg base 1 "_law_due" spDue := ⟨fk50, _, ["_law_at"], op50 Fk50 B, hk50, kk50, bk50⟩
  have c51 : CalX P w K mg base 3 "_law_keeping" (spKeep e) := ⟨fk51, _, ["_law_at", "_law_value"], op51 Fk51 D0 D1 D2 D3 D4 D5, hk51, kk51, bk51⟩
  have c52 : CalX P w K mg base 1 "_law_plain" (spPlain e) := ⟨fk52, _, ["_law_at"], op52 Fk52 OX, hk52, kk52, bk52⟩
  have c54G : CalG P w K mg base 6 "_law_errors_right" (spErrR PT) := ⟨fk54, _, ["_law_skein_here"], op54 lk54 ck54 B TB ET XF NO Fk53 hk53 bk53 g34 g35 c48 c49 c50 c51 c52, hk54, kk54, bk54⟩
  have c55 : CalG P w K mg base 3 "_law_words_right" (spWordsR K) := ⟨fk55, _, ["_law_skein_here"], op55 Fk55 B g34 g35 g35S g21Y c47, hk55, kk55, bk55⟩
  exact op56 Fk56 B T g33 c46 c54G c55 c43 M14
end Fc
open PySem PySem.W PyProof.Rows in
set_option maxRecDepth 100000 in
set_option maxHeartbeats 0 in
theorem PySem.Challenge.cw_forkcells_k00_errors_names_and_frames_holds : PySem.Challenge.rw_forkcells_k00_errors_names_and_frames.Holds := by
  w_on; o_law; k_head; (case hw => w_witness2)
  k_fill
  refine Fc.walkT (p := 581) (l := PySem.Challenge.rw_forkcells_k00_errors_names_and_frames) (n := 63) (k := 9) (x := "_law_script") (sp := fun p K => Fc.spLawT K p) rfl (by decide) rfl ⟨rfl, by decide, by decide⟩ (fun w h Y => PySem.W.km_in_of Y) (fun w h Y => PySem.W.km_tabs_of Y 581 (List.mem_singleton.mpr rfl)) ?F (fun K H a ns hl hT hS => ⟨ns, a, rfl, hS, hl, fun p hp => by rw [List.mem_singleton.mp hp]; exact LamX.TabS.nil hT, fun _ => rfl⟩)
  case F =>
    intro w mg fa h KX G hmg
    refine' Fc.all_mk KX G hmg ?as11 ?ls11 ?cs11 ?ks11 ?as21 ?ls21 ?cs21 ?ks21 ?as23 ?ls23 ?cs23 ?ks23 ?as24 ?ls24 ?cs24 ?ks24 ?as27 ?ls27 ?cs27 ?ks27 ?as28 ?ls28 ?cs28 ?ks28 ?as29 ?ls29 ?cs29 ?ks29 ?as30 ?ls30 ?cs30 ?ks30 ?as33 ?ls33 ?cs33 ?ks33 ?as34 ?ls34 ?cs34 ?ks34 ?as35 ?ls35 ?cs35 ?ks35 ?as36 ?ls36 ?cs36 ?ks36 ?as37 ?ls37 ?cs37 ?ks37 ?as38 ?ls38 ?cs38 ?ks38 ?as39 ?ls39 ?cs39 ?ks39 ?as40 ?ls40 ?cs40 ?ks40 ?ak41 ?lk41 ?ck41 ?kk41 ?ak42 ?lk42 ?ck42 ?kk42 ?ak43 ?lk43 ?ck43 ?kk43 ?ak44 ?lk44 ?ck44 ?kk44 ?ak45 ?lk45 ?ck45 ?kk45 ?ak46 ?lk46 ?ck46 ?kk46 ?ak47 ?lk47 ?ck47 ?kk47 ?ak48 ?lk48 ?ck48 ?kk48 ?ak49 ?lk49 ?ck49 ?kk49 ?ak50 ?lk50 ?ck50 ?kk50 ?ak51 ?lk51 ?ck51 ?kk51 ?ak52 ?lk52 ?ck52 ?kk52 ?ak53 ?lk53 ?ck53 ?kk53 ?ak54 ?lk54 ?ck54 ?kk54 ?ak55 ?lk55 ?ck55 ?kk55 ?ak56 ?lk56 ?ck56 ?kk56 ?np ?hcT ?aF ?aM0 ?nM0 ?lM0 ?cM0 ?kM0 ?aM5 ?nM5 ?lM5 ?cM5 ?kM5 ?aM6 ?nM6 ?lM6 ?cM6 ?kM6 ?aM7 ?nM7 ?lM7 ?cM7 ?kM7 ?aM13 ?nM13 ?lM13 ?cM13 ?kM13 ?aM14 ?nM14 ?lM14 ?cM14 ?kM14 ?aM15 ?nM15 ?lM15 ?cM15 ?kM15 ?aM16 ?nM16 ?lM16 ?cM16 ?kM16 ?aP1 ?gP1 ?tP1 ?recP1 ?lP1 ?cP1 ?kP1 ?aP2 ?gP2 ?tP2 ?recP2 ?lP2 ?cP2 ?kP2 ?aP3 ?gP3 ?tP3 ?recP3 ?lP3 ?cP3 ?kP3 ?aP4 ?gP4 ?tP4 ?recP4 ?lP4 ?cP4 ?kP4 ?x_pg ?x_hd ?x_po ?x_sa ?x_mk ?x_kC ?x_i1 ?x_i2 ?x_i3 ?x_i4 ?x_ne ?x_kit ?y0 ?y1 ?y2 ?y3 ?y4 ?y5 ?aE0 ?oE0 ?sE0 ?kE0 ?gE0 ?hE0 ?bE0 ?cE0 ?iE0 ?yE0 ?lI0 ?cI0 ?kI0 ?nE0 ?aE1 ?oE1 ?sE1 ?kE1 ?gE1 ?hE1 ?bE1 ?cE1 ?iE1 ?yE1 ?lI1 ?cI1 ?kI1 ?nE1 ?aE2 ?oE2 ?sE2 ?kE2 ?gE2 ?hE2 ?bE2 ?cE2 ?iE2 ?yE2 ?lI2 ?cI2 ?kI2 ?nE2 ?aE3 ?oE3 ?sE3 ?kE3 ?gE3 ?hE3 ?bE3 ?cE3 ?iE3 ?yE3 ?lI3 ?cI3 ?kI3 ?nE3 ?aE4 ?oE4 ?sE4 ?kE4 ?gE4 ?hE4 ?bE4 ?cE4 ?iE4 ?yE4 ?lI4 ?cI4 ?kI4 ?nE4 ?aE5 ?oE5 ?sE5 ?kE5 ?gE5 ?hE5 ?bE5 ?cE5 ?iE5 ?yE5 ?lI5 ?cI5 ?kI5 ?nE5 ?aE6 ?oE6 ?sE6 ?kE6 ?gE6 ?hE6 ?bE6 ?cE6 ?xE6 ?aE7 ?oE7 ?sE7 ?kE7 ?gE7 ?hE7 ?bE7 ?cE7 ?xE7 ?aE8 ?oE8 ?sE8 ?kE8 ?gE8 ?hE8 ?bE8 ?cE8 ?xE8 ?aE9 ?oE9 ?sE9 ?kE9 ?gE9 ?hE9 ?bE9 ?cE9 ?xE9 ?aE10 ?oE10 ?sE10 ?kE10 ?gE10 ?hE10 ?bE10 ?cE10 ?xE10 ?aE11 ?oE11 ?sE11 ?kE11 ?gE11 ?hE11 ?bE11 ?cE11 ?xE11 ?aE12 ?oE12 ?sE12 ?kE12 ?gE12 ?hE12 ?bE12 ?cE12 ?xE12 ?aE13 ?oE13 ?sE13 ?kE13 ?gE13 ?hE13 ?bE13 ?cE13 ?xE13 ?aE14 ?oE14 ?sE14 ?kE14 ?gE14 ?hE14 ?bE14 ?cE14 ?xE14 ?aE15 ?oE15 ?sE15 ?kE15 ?gE15 ?hE15 ?bE15 ?cE15 ?xE15 ?ndE ?mA ?mP ?mV ?z_isinstance ?z_int ?z_bool ?z_str ?z_tuple ?z_dict ?z_list ?z_set ?z_len ?z_abs ?z_range ?z_zip ?z_enumerate ?z_max ?z_min ?z_repr ?z_ValueError ?z_IndexError ?z_KeyError ?z_LookupError ?z_OverflowError ?z_ArithmeticError
    (case as11 => k_is)
    (case ls11 => k_is)
    (case cs11 => k_is)
    (case ks11 => k_is)
    (case as21 => k_is)
    (case ls21 => k_is)
    (case cs21 => k_is)
    (case ks21 => k_is)
    (case as23 => k_is)
    (case ls23 => k_is)
    (case cs23 => k_is)
    (case ks23 => k_is)
    (case as24 => k_is)
    (case ls24 => k_is)
    (case cs24 => k_is)
    (case ks24 => k_is)
    (case as27 => k_is)
    (case ls27 => k_is)
    (case cs27 => k_is)
    (case ks27 => k_is)
    (case as28 => k_is)
    (case ls28 => k_is)
    (case cs28 => k_is)
    (case ks28 => k_is)
    (case as29 => k_is)
    (case ls29 => k_is)
    (case cs29 => k_is)
    (case ks29 => k_is)
    (case as30 => k_is)
    (case ls30 => k_is)
    (case cs30 => k_is)
    (case ks30 => k_is)
    (case as33 => k_is)
    (case ls33 => k_is)
    (case cs33 => k_is)
    (case ks33 => k_is)
    (case as34 => k_is)
    (case ls34 => k_is)
    (case cs34 => k_is)
    (case ks34 => k_is)
    (case as35 => k_is)
    (case ls35 => k_is)
    (case cs35 => k_is)
    (case ks35 => k_is)
    (case as36 => k_is)
    (case ls36 => k_is)
    (case cs36 => k_is)
    (case ks36 => k_is)
    (case as37 => k_is)
    (case ls37 => k_is)
    (case cs37 => k_is)
    (case ks37 => k_is)
    (case as38 => k_is)
    (case ls38 => k_is)
    (case cs38 => k_is)
    (case ks38 => k_is)
    (case as39 => k_is)
    (case ls39 => k_is)
    (case cs39 => k_is)
    (case ks39 => k_is)
    (case as40 => k_is)
    (case ls40 => k_is)
    (case cs40 => k_is)
    (case ks40 => k_is)
    (case ak41 => k_is)
    (case lk41 => k_is)
    (case ck41 => k_is)
    (case kk41 => k_is)
    (case ak42 => k_is)
    (case lk42 => k_is)
    (case ck42 => k_is)
    (case kk42 => k_is)
    (case ak43 => k_is)
    (case lk43 => k_is)
    (case ck43 => k_is)
    (case kk43 => k_is)
    (case ak44 => k_is)
    (case lk44 => k_is)
    (case ck44 => k_is)
    (case kk44 => k_is)
    (case ak45 => k_is)
    (case lk45 => k_is)
    (case ck45 => k_is)
    (case kk45 => k_is)
    (case ak46 => k_is)
    (case lk46 => k_is)
    (case ck46 => k_is)
    (case kk46 => k_is)
    (case ak47 => k_is)
    (case lk47 => k_is)
    (case ck47 => k_is)
    (case kk47 => k_is)
    (case ak48 => k_is)
    (case lk48 => k_is)
    (case ck48 => k_is)
    (case kk48 => k_is)
    (case ak49 => k_is)
    (case lk49 => k_is)
    (case ck49 => k_is)
    (case kk49 => k_is)
    (case ak50 => k_is)
    (case lk50 => k_is)
    (case ck50 => k_is)
    (case kk50 => k_is)
    (case ak51 => k_is)
    (case lk51 => k_is)
    (case ck51 => k_is)
    (case kk51 => k_is)
    (case ak52 => k_is)
    (case lk52 => k_is)
    (case ck52 => k_is)
    (case kk52 => k_is)
    (case ak53 => k_is)
    (case lk53 => k_is)
    (case ck53 => k_is)
    (case kk53 => k_is)
    (case ak54 => k_is)
    (case lk54 => k_is)
    (case ck54 => k_is)
    (case kk54 => k_is)
    (case ak55 => k_is)
    (case lk55 => k_is)
    (case ck55 => k_is)
    (case kk55 => k_is)
    (case ak56 => k_is)
    (case lk56 => k_is)
    (case ck56 => k_is)
    (case kk56 => k_is)
    (case np => kernel_rfl)
    (case hcT => kernel_rfl)
    (case aF => k_is)
    (case aM0 => k_is)
    (case nM0 => k_is)
    (case lM0 => k_is)
    (case cM0 => k_is)
    (case kM0 => k_is)
    (case aM5 => k_is)
    (case nM5 => k_is)
    (case lM5 => k_is)
    (case cM5 => k_is)
    (case kM5 => k_is)
    (case aM6 => k_is)
    (case nM6 => k_is)
    (case lM6 => k_is)
    (case cM6 => k_is)
    (case kM6 => k_is)
    (case aM7 => k_is)
    (case nM7 => k_is)
    (case lM7 => k_is)
    (case cM7 => k_is)
    (case kM7 => k_is)
    (case aM13 => k_is)
    (case nM13 => k_is)
    (case lM13 => k_is)
    (case cM13 => k_is)
    (case kM13 => k_is)
    (case aM14 => k_is)
    (case nM14 => k_is)
    (case lM14 => k_is)
    (case cM14 => k_is)
    (case kM14 => k_is)
    (case aM15 => k_is)
    (case nM15 => k_is)
    (case lM15 => k_is)
    (case cM15 => k_is)
    (case kM15 => k_is)
    (case aM16 => k_is)
    (case nM16 => k_is)
    (case lM16 => k_is)
    (case cM16 => k_is)
    (case kM16 => k_is)
    (case aP1 => k_is)
    (case gP1 => k_is)
    (case tP1 => k_is)
    (case recP1 => k_is)
    (case lP1 => k_is)
    (case cP1 => k_is)
    (case kP1 => k_is)
    (case aP2 => k_is)
    (case gP2 => k_is)
    (case tP2 => k_is)
    (case recP2 => k_is)
    (case lP2 => k_is)
    (case cP2 => k_is)
    (case kP2 => k_is)
    (case aP3 => k_is)
    (case gP3 => k_is)
    (case tP3 => k_is)
    (case recP3 => k_is)
    (case lP3 => k_is)
    (case cP3 => k_is)
    (case kP3 => k_is)
    (case aP4 => k_is)
    (case gP4 => k_is)
    (case tP4 => k_is)
    (case recP4 => k_is)
    (case lP4 => k_is)
    (case cP4 => k_is)
    (case kP4 => k_is)
    (case x_pg => k_is)
    (case x_hd => k_is)
    (case x_po => k_is)
    (case x_sa => k_is)
    (case x_mk => k_is)
    (case x_kC => k_is)
    (case x_i1 => k_is)
    (case x_i2 => k_is)
    (case x_i3 => k_is)
    (case x_i4 => k_is)
    (case x_ne => k_is)
    (case x_kit => kit_is)
    (case y0 => k_is)
    (case y1 => k_is)
    (case y2 => k_is)
    (case y3 => k_is)
    (case y4 => k_is)
    (case y5 => k_is)
    (case aE0 => k_is)
    (case oE0 => k_is)
    (case sE0 => k_is)
    (case kE0 => k_is)
    (case gE0 => k_is)
    (case hE0 => k_is)
    (case bE0 => k_is)
    (case cE0 => k_is)
    (case iE0 => k_is)
    (case yE0 => k_is)
    (case lI0 => k_is)
    (case cI0 => k_is)
    (case kI0 => k_is)
    (case nE0 => k_is)
    (case aE1 => k_is)
    (case oE1 => k_is)
    (case sE1 => k_is)
    (case kE1 => k_is)
    (case gE1 => k_is)
    (case hE1 => k_is)
    (case bE1 => k_is)
    (case cE1 => k_is)
    (case iE1 => k_is)
    (case yE1 => k_is)
    (case lI1 => k_is)
    (case cI1 => k_is)
    (case kI1 => k_is)
    (case nE1 => k_is)
    (case aE2 => k_is)
    (case oE2 => k_is)
    (case sE2 => k_is)
    (case kE2 => k_is)
    (case gE2 => k_is)
    (case hE2 => k_is)
    (case bE2 => k_is)
    (case cE2 => k_is)
    (case iE2 => k_is)
    (case yE2 => k_is)
    (case lI2 => k_is)
    (case cI2 => k_is)
    (case kI2 => k_is)
    (case nE2 => k_is)
    (case aE3 => k_is)
    (case oE3 => k_is)
    (case sE3 => k_is)
    (case kE3 => k_is)
    (case gE3 => k_is)
    (case hE3 => k_is)
    (case bE3 => k_is)
    (case cE3 => k_is)
    (case iE3 => k_is)
    (case yE3 => k_is)
    (case lI3 => k_is)
    (case cI3 => k_is)
    (case kI3 => k_is)
    (case nE3 => k_is)
    (case aE4 => k_is)
    (case oE4 => k_is)
    (case sE4 => k_is)
    (case kE4 => k_is)
    (case gE4 => k_is)
    (case hE4 => k_is)
    (case bE4 => k_is)
    (case cE4 => k_is)
    (case iE4 => k_is)
    (case yE4 => k_is)
    (case lI4 => k_is)
    (case cI4 => k_is)
    (case kI4 => k_is)
    (case nE4 => k_is)
    (case aE5 => k_is)
    (case oE5 => k_is)
    (case sE5 => k_is)
    (case kE5 => k_is)
    (case gE5 => k_is)
    (case hE5 => k_is)
    (case bE5 => k_is)
    (case cE5 => k_is)
    (case iE5 => k_is)
    (case yE5 => k_is)
    (case lI5 => k_is)
    (case cI5 => k_is)
    (case kI5 => k_is)
    (case nE5 => k_is)
    (case aE6 => k_is)
    (case oE6 => k_is)
    (case sE6 => k_is)
    (case kE6 => k_is)
    (case gE6 => k_is)
    (case hE6 => k_is)
    (case bE6 => k_is)
    (case cE6 => k_is)
    (case xE6 => k_exc)
    (case aE7 => k_is)
    (case oE7 => k_is)
    (case sE7 => k_is)
    (case kE7 => k_is)
    (case gE7 => k_is)
    (case hE7 => k_is)
    (case bE7 => k_is)
    (case cE7 => k_is)
    (case xE7 => k_exc)
    (case aE8 => k_is)
    (case oE8 => k_is)
    (case sE8 => k_is)
    (case kE8 => k_is)
    (case gE8 => k_is)
    (case hE8 => k_is)
    (case bE8 => k_is)
    (case cE8 => k_is)
    (case xE8 => k_exc)
    (case aE9 => k_is)
    (case oE9 => k_is)
    (case sE9 => k_is)
    (case kE9 => k_is)
    (case gE9 => k_is)
    (case hE9 => k_is)
    (case bE9 => k_is)
    (case cE9 => k_is)
    (case xE9 => k_exc)
    (case aE10 => k_is)
    (case oE10 => k_is)
    (case sE10 => k_is)
    (case kE10 => k_is)
    (case gE10 => k_is)
    (case hE10 => k_is)
    (case bE10 => k_is)
    (case cE10 => k_is)
    (case xE10 => k_exc)
    (case aE11 => k_is)
    (case oE11 => k_is)
    (case sE11 => k_is)
    (case kE11 => k_is)
    (case gE11 => k_is)
    (case hE11 => k_is)
    (case bE11 => k_is)
    (case cE11 => k_is)
    (case xE11 => k_exc)
    (case aE12 => k_is)
    (case oE12 => k_is)
    (case sE12 => k_is)
    (case kE12 => k_is)
    (case gE12 => k_is)
    (case hE12 => k_is)
    (case bE12 => k_is)
    (case cE12 => k_is)
    (case xE12 => k_exc)
    (case aE13 => k_is)
    (case oE13 => k_is)
    (case sE13 => k_is)
    (case kE13 => k_is)
    (case gE13 => k_is)
    (case hE13 => k_is)
    (case bE13 => k_is)
    (case cE13 => k_is)
    (case xE13 => k_exc)
    (case aE14 => k_is)
    (case oE14 => k_is)
    (case sE14 => k_is)
    (case kE14 => k_is)
    (case gE14 => k_is)
    (case hE14 => k_is)
    (case bE14 => k_is)
    (case cE14 => k_is)
    (case xE14 => k_exc)
    (case aE15 => k_is)
    (case oE15 => k_is)
    (case sE15 => k_is)
    (case kE15 => k_is)
    (case gE15 => k_is)
    (case hE15 => k_is)
    (case bE15 => k_is)
    (case cE15 => k_is)
    (case xE15 => k_exc)
    (case ndE => decide)
    (case mA => k_is)
    (case mP => k_is)
    (case mV => k_is)
    (case z_isinstance => k_is)
    (case z_int => k_is)
    (case z_bool => k_is)
    (case z_str => k_is)
    (case z_tuple => k_is)
    (case z_dict => k_is)
    (case z_list => k_is)
    (case z_set => k_is)
    (case z_len => k_is)
    (case z_abs => k_is)
    (case z_range => k_is)
    (case z_zip => k_is)
    (case z_enumerate => k_is)
    (case z_max => k_is)
    (case z_min => k_is)
    (case z_repr => k_is)
    (case z_ValueError => k_is)
    (case z_IndexError => k_is)
    (case z_KeyError => k_is)
    (case z_LookupError => k_is)
    (case z_OverflowError => k_is)
    (case z_ArithmeticError => k_is)
