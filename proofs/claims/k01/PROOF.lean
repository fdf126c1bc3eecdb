import PyProof.Rows.All
import Wide.All
import OpenK.AllK
import Wide.FinOn
import HandS.ForMost
import KE.KeyNested
import KE.KDictWalk
import KE.KDictCopyH
import HandS.Conv
import HandS.IsInst
import HandS.DictComp
import HandS.Words
import HandS.Codes
import HandS.Style
import HandS.TupAny
import HandS.Wide
import HandS.OwnEq
import HandS.Property
import HandS.Defaults
import HandS.FStr
import HandS.ForExc
import PyProof.SetRoads
import HandS.Strs
import HandS.SetBool
import KE.KCallOwn
import KE.KFmtOwn
import PyProof.InstEq
import KE.DataEq
import HandS.HotCalls
import PyProof.EqAt
import HandS.Zip
import HandS.DictTup
import KE.KDictZip
import HandS.TryOnly
import PyProof.TupleOfStr
import HandS.MakeKwOnly
import HandS.ExcIs
import PySem.Challenge.RW_forkcells_k01_whole_terms_in_changed_fra
set_option Elab.async false
set_option linter.all false
set_option maxRecDepth 100000
set_option maxHeartbeats 4000000
/-! Tables whose keys are flat values and tuples together. -/
namespace Fc
open PySem
abbrev NK := NestedKey
/-- the entries es of a table bear the keys ks, one by one -/
structure Tab (w : World) (h : Heap) (ks : List NK) (es : Array DictEntry) : Prop where
  size : es.size = ks.length
  each : ∀ j (hj : j < es.size), ∃ k, ks[j]? = some k ∧ es[j].hash = k.hash w ∧ NestedIs h k es[j].key ∧ k.depth ≤ 8
  nd : ks.Nodup
/-- where a key stands -/
def posK (ks : List NK) (k : NK) : Option Nat := ks.findIdx? fun x => decide (x = k)
theorem posK_none {ks : List NK} {k : NK} (h : ∀ j : Nat, ks[j]? ≠ some k) : posK ks k = none := by
  unfold posK
  rw [List.findIdx?_eq_none_iff]
  intro x hx
  obtain ⟨j, hj⟩ := List.mem_iff_getElem?.mp hx
  exact decide_eq_false fun e => h j (by rw [hj, e])
theorem posK_some {ks : List NK} (nd : ks.Nodup) {k : NK} {j : Nat} (h : ks[j]? = some k) : posK ks k = some j := by
  obtain ⟨hj, e⟩ := List.getElem?_eq_some_iff.mp h
  unfold posK
  refine List.findIdx?_eq_some_iff_getElem.mpr ⟨hj, decide_eq_true e, fun i hi => ?_⟩
  intro q
  have e2 : ks[i] = k := of_decide_eq_true q
  exact Nat.ne_of_lt hi ((List.getElem_inj nd).mp (e2.trans e.symm))
section
variable {A : Around} {P : Program} {w : World} {s : Shared} {E : Value → Shared → Prop}
/-- what the look for k has met among the first i places -/
def Met (ks : List NK) (k : NK) (i : Nat) (hit : Option Nat) : Prop :=
  (hit = none ∧ ∀ j, j < i → ks[j]? ≠ some k) ∨ ∃ j, hit = some j ∧ j < i ∧ ks[j]? = some k
theorem Met.go {ks : List NK} {k : NK} {i i' : Nat} {hit : Option Nat} (m : Met ks k i hit) (hi : i ≤ i') (no : ∀ j, i ≤ j → j < i' → ks[j]? ≠ some k) : Met ks k i' hit := by
  rcases m with ⟨a, b⟩ | ⟨j, a, b, c⟩
  · refine .inl ⟨a, fun j hj => ?_⟩
    rcases Nat.lt_or_ge j i with q | q
    · exact b j q
    · exact no j q hj
  · exact .inr ⟨j, a, Nat.lt_of_lt_of_le b hi, c⟩
theorem Met.fin {ks : List NK} {k : NK} {hit : Option Nat} (nd : ks.Nodup) (m : Met ks k ks.length hit) : hit = posK ks k := by
  rcases m with ⟨a, b⟩ | ⟨j, a, b, c⟩
  · rw [a, posK_none]
    intro j q
    exact b j (List.getElem?_eq_some_iff.mp q).1 q
  · rw [a, posK_some nd c]
theorem may_quiet {k : NK} {key : Value} {st : List Value} {Q : Bool → Shared → Prop} (hk : NestedIs s.heap k key) (hd : k.depth ≤ 8) (hs : ∀ v ∈ st, ∃ k' : NK, NestedIs s.heap k' v ∧ k'.depth ≤ 8) (h : Q false s) :
    wpAny (model P w) A (tableMayTell key st) Q E s := by
  unfold tableMayTell
  by_cases e : st.isEmpty = true
  · rw [if_pos e]
    exact wpAny_pure h
  rw [if_neg e]
  refine wpAny_bind (quiet_key k key 8 s hk hd A E _ ?_)
  simp only [Bool.not_true, Bool.false_eq_true, if_false]
  refine wpAny_bind (wpAny_forIn_list _ (fun l r s' => (s' = s ∧ r = (none, ())) ∧ ∀ v ∈ l, v ∈ st) _ ?_ ?_ _ _ ⟨⟨rfl, rfl⟩, fun _ z => z⟩)
  · rintro v l r s' ⟨⟨rfl, rfl⟩, all⟩
    obtain ⟨k', h1, h2⟩ := hs v (all v List.mem_cons_self)
    refine wpAny_bind (quiet_key k' v 8 s' h1 h2 A E _ ?_)
    simp only [Bool.not_true, Bool.false_eq_true, if_false]
    exact wpAny_pure ⟨⟨rfl, rfl⟩, fun v hv => all v (List.mem_cons_of_mem _ hv)⟩
  · rintro r s' ⟨⟨rfl, rfl⟩, _⟩
    exact wpAny_pure h
/-- the places that are asked: their hash is the key's -/
abbrev hashAt (es : Array DictEntry) (j : Nat) : Option Int := es[j]?.map (·.hash)
theorem Tab.key {h : Heap} {ks : List NK} {es : Array DictEntry} (T : Tab w h ks es) {k : NK} {j : Nat} (e : ks[j]? = some k) : hashAt es j = some (k.hash w) := by
  have hj : j < es.size := by rw [T.size]; exact (List.getElem?_eq_some_iff.mp e).1
  obtain ⟨k', e', hh, _⟩ := T.each j hj
  rw [e] at e'
  cases e'
  unfold hashAt
  rw [Array.getElem?_eq_getElem hj, Option.map_some, hh]
theorem Tab.stored {h : Heap} {ks : List NK} {es : Array DictEntry} (T : Tab w h ks es) (f : Nat → Bool) : ∀ v ∈ ((List.range es.size).filter f).filterMap (fun i => es[i]?.map (·.key)), ∃ k' : NK, NestedIs h k' v ∧ k'.depth ≤ 8 := by
  intro v hv
  obtain ⟨i, _, e⟩ := List.mem_filterMap.mp hv
  cases q : es[i]? with
  | none => rw [q] at e; cases e
  | some en =>
    rw [q] at e
    obtain ⟨hi, e2⟩ := Array.getElem?_eq_some_iff.mp q
    obtain ⟨k, _, _, n, d⟩ := T.each i hi
    rw [e2] at n
    have e3 : en.key = v := by simpa using e
    rw [e3] at n
    exact ⟨k, n, d⟩
theorem dFind {d : Addr} {o : Obj} {es : Array DictEntry} {ep : Nat} {ks : List NK} {k : NK} {key : Value} {Q : Option Nat → Shared → Prop} (hu : A.units + 8 < cLine) (T : Tab w s.heap ks es)
    (hk : NestedIs s.heap k key) (hkd : k.depth ≤ 8) (ho : s.heap.get? d = some o) (hd : o.data = .dict es ep) (h : Q (posK ks k) s) : wpAny (model P w) A (dictFind d key (k.hash w)) Q E s := by
  have hst := T.stored (w := w) (fun i => hashAt es i == some (k.hash w))
  -- one step of the walk: what is between two places of the same hash is another key
  have skip : ∀ (i x : Nat) (hit : Option Nat), Met ks k i hit → i ≤ x → (∀ j, i ≤ j → j < x → (hashAt es j == some (k.hash w)) = false) → Met ks k x hit := fun i x hit m hi no => m.go hi fun j a b e => by
    have q := no j a b
    rw [T.key e] at q
    simp at q
  have eqs : ∀ (x : Nat) (hx : x < es.size) (k' : NK), ks[x]? = some k' → ∀ (Q' : Bool → Shared → Prop), Q' (decide (k' = k)) s → wpAny (model P w) A (eqBool es[x].key key) Q' E s := fun x hx k' e Q' q => by
    obtain ⟨k2, e2, _, n, dd⟩ := T.each x hx
    rw [e] at e2
    cases e2
    exact eqAt_key k' k A s _ _ n hk (by omega) _ _ _ _ (by rw [← NestedKey.decide_eq]; exact q)
  unfold dictFind
  try with_reducible refine wpAny_holding ?_
  refine wpAny_bind (wpAny_dictEntries ho hd ?_)
  dsimp only
  have text : ∀ (x : Str) (t : Tok), key = .str x t → (es.all fun e => isExactStrKey e.key) = true → wpAny (model P w) A (foundByValue d key es x) Q E s := by
    intro x t ek ha
    subst ek
    cases hk
    have exact' : ∀ j (hj : j < es.size) (k' : NK), ks[j]? = some k' → ∃ y u, k' = .text y ∧ es[j].key = .str y u := fun j hj k' e => by
      obtain ⟨k2, e2, _, n, _⟩ := T.each j hj
      rw [e] at e2
      cases e2
      have z : isExactStrKey es[j].key = true := Array.all_eq_true.mp ha j hj
      generalize es[j].key = v at n z
      cases n with
      | text y u => exact ⟨y, u, rfl, rfl⟩
      | none => cases z
      | bool e => cases z
      | int i u => cases z
      | tup a b c e => cases z
    unfold foundByValue
    cases hf : es.findIdx? (fun e => e.key.isStr x) with
    | none =>
      refine wpAny_pure ?_
      rw [posK_none (k := NestedKey.text x) (fun j e => ?_)] at h
      · exact h
      · have hj : j < es.size := by rw [T.size]; exact (List.getElem?_eq_some_iff.mp e).1
        obtain ⟨y, u, e1, e2⟩ := exact' j hj _ e
        cases e1
        have z := Array.findIdx?_eq_none_iff.mp hf es[j] (Array.getElem_mem hj)
        rw [e2] at z
        simp [Value.isStr] at z
    | some i =>
      obtain ⟨hi, z, _⟩ := Array.findIdx?_eq_some_iff_getElem.mp hf
      have hik : i < ks.length := by rw [← T.size]; exact hi
      obtain ⟨y, u, e1, e2⟩ := exact' i hi ks[i] (List.getElem?_eq_getElem hik)
      rw [e2] at z
      have exy : y = x := by
        have z2 : (y == x) = true := z
        exact eq_of_beq z2
      subst exy
      have hki : ks[i]? = some (NestedKey.text y) := by rw [List.getElem?_eq_getElem hik, e1]
      rw [posK_some T.nd hki] at h
      simp only [Array.getElem?_eq_getElem hi]
      refine wpAny_bind (wpAny_dictEpoch ho hd (wpAny_bind (eqs i hi _ hki _ (wpAny_bind (wpAny_dictEpoch ho hd ?_)))))
      simp only [bne_self_eq_false, Bool.false_eq_true, if_false, decide_true, if_true]
      exact wpAny_bind (wpAny_rule (wpAny_pure h))
  have walk : wpAny (model P w) A (dictWalkPlain d key (k.hash w) es (placesWithHash es.size (fun i => es[i]?.map (·.hash)) (k.hash w))) Q E s := by
    unfold dictWalkPlain
    refine wpAny_bind (wpAny_forIn_list _ (fun l r s' => (s' = s ∧ r = (none, ())) ∧ ∃ i, i ≤ es.size ∧ Met ks k i none ∧ l = (List.range' i (es.size - i)).filter (fun j => hashAt es j == some (k.hash w))) _ ?_ ?_ _ _
      ⟨⟨rfl, rfl⟩, 0, Nat.zero_le _, .inl ⟨rfl, fun j hj => absurd hj (Nat.not_lt_zero j)⟩, by rw [placesWithHash, List.range_eq_range', Nat.sub_zero]⟩)
    · rintro x l r s' ⟨⟨rfl, rfl⟩, i, hi, m, el⟩
      obtain ⟨h1, h2, _, h4, h5⟩ := filter_range'_cons _ _ _ _ _ el.symm
      have hx : x < es.size := by omega
      have m1 := skip i x none m h1 h4
      obtain ⟨k', ek, hh, n, dd⟩ := T.each x hx
      have l' : l = (List.range' (x + 1) (es.size - (x + 1))).filter (fun j => hashAt es j == some (k.hash w)) := by rw [h5]; congr 2; omega
      have on : ¬ k' = k → Met ks k (x + 1) none := fun ne => m1.go (Nat.le_succ x) fun j a b q => by
        have e : j = x := by omega
        rw [e, ek] at q
        exact ne (Option.some.inj q)
      simp only [Array.getElem?_eq_getElem hx]
      by_cases eh : (es[x].hash == k.hash w) = true
      · rw [if_pos eh]
        refine wpAny_bind (wpAny_dictEpoch ho hd (wpAny_bind (eqs x hx k' ek _ (wpAny_bind (wpAny_dictEpoch ho hd ?_)))))
        simp only [bne_self_eq_false, Bool.false_eq_true, if_false]
        by_cases q : k' = k
        · rw [q] at ek
          rw [posK_some T.nd ek] at h
          simp only [decide_eq_true q, if_true]
          exact wpAny_bind (wpAny_rule (wpAny_pure (wpAny_pure h)))
        · simp only [decide_eq_false q, Bool.false_eq_true, if_false]
          exact wpAny_bind (wpAny_rule (wpAny_pure ⟨⟨rfl, rfl⟩, x + 1, hx, on q, l'⟩))
      · rw [if_neg eh]
        refine wpAny_pure ⟨⟨rfl, rfl⟩, x + 1, hx, on fun q => ?_, l'⟩
        rw [hh, q] at eh
        exact eh (beq_self_eq_true _)
    · rintro r s' ⟨⟨rfl, rfl⟩, i, hi, m, el⟩
      have m1 := skip i es.size none m hi fun j a b => by
        have z := List.filter_eq_nil_iff.mp el.symm j (List.mem_range'_1.mpr ⟨a, by omega⟩)
        simpa using z
      rw [T.size] at m1
      rw [← m1.fin T.nd] at h
      exact wpAny_pure h
  have noStale : ∀ a : Addr, key = .ref a → ¬ (es.any fun e => e.key == key && e.hash != k.hash w) = true := by
    intro a ek z
    rw [← Array.any_toList, List.any_eq_true] at z
    obtain ⟨e, he, z⟩ := z
    obtain ⟨j, hj, e2⟩ := Array.mem_iff_getElem.mp (Array.mem_toList_iff.mp he)
    obtain ⟨k', ek', hh, n, _⟩ := T.each j hj
    rw [e2] at hh n
    simp only [Bool.and_eq_true, beq_iff_eq, bne_iff_ne] at z
    rw [z.1] at n
    rw [NestedIs.inj _ _ _ n hk] at hh
    exact z.2 hh
  split
  · rename_i x t
    by_cases ha : (es.all fun e => isExactStrKey e.key) = true
    · rw [if_pos ha]
      exact text x t rfl ha
    · rw [if_neg ha]
      by_cases hall : ((Value.str x t :: (placesWithHash es.size (fun i => es[i]?.map (·.hash)) (k.hash w)).filterMap fun i => es[i]?.map (·.key)).all carriedByValue) = true
      · rw [if_pos hall]
        exact walk
      · rw [if_neg hall]
        dsimp only
        by_cases hone : (((placesWithHash es.size (fun i => es[i]?.map (·.hash)) (k.hash w)).filterMap fun i => es[i]?.map (·.key)) == [Value.str x t]) = true
        · rw [if_pos hone]
          refine wpAny_bind (wpAny_pure ?_)
          simp only [Bool.false_and, Bool.false_eq_true, if_false]
          refine wpAny_bind (wpAny_forIn_list _ (fun l r s' => s' = s ∧ ∃ i hit, r = (none, hit) ∧ i ≤ es.size ∧ Met ks k i hit ∧ l = (List.range' i (es.size - i)).filter (fun j => hashAt es j == some (k.hash w))) _ ?_ ?_ _ _
            ⟨rfl, 0, none, rfl, Nat.zero_le _, .inl ⟨rfl, fun j hj => absurd hj (Nat.not_lt_zero j)⟩, by rw [placesWithHash, List.range_eq_range', Nat.sub_zero]⟩)
          · rintro x l r s' ⟨rfl, i, hit, rfl, hi, m, el⟩
            obtain ⟨h1, h2, _, h4, h5⟩ := filter_range'_cons _ _ _ _ _ el.symm
            have hx : x < es.size := by omega
            have m1 := skip i x hit m h1 h4
            obtain ⟨k', ek, hh, n, dd⟩ := T.each x hx
            have l' : l = (List.range' (x + 1) (es.size - (x + 1))).filter (fun j => hashAt es j == some (k.hash w)) := by rw [h5]; congr 2; omega
            have on : ¬ k' = k → Met ks k (x + 1) hit := fun ne => m1.go (Nat.le_succ x) fun j a b q => by
              have e : j = x := by omega
              rw [e, ek] at q
              exact ne (Option.some.inj q)
            simp only [Array.getElem?_eq_getElem hx]
            by_cases eh : (es[x].hash == k.hash w) = true
            · rw [if_pos eh]
              refine wpAny_bind (wpAny_dictEpoch ho hd (wpAny_bind (eqs x hx k' ek _ (wpAny_bind (wpAny_dictEpoch ho hd ?_)))))
              simp only [bne_self_eq_false, Bool.false_eq_true, if_false]
              by_cases q : k' = k
              · rw [q] at ek
                have eh0 : hit = none := by
                  rcases m1 with ⟨z, _⟩ | ⟨j, _, hj, e⟩
                  · exact z
                  · exact absurd ((List.getElem?_inj (List.getElem?_eq_some_iff.mp e).1 T.nd).mp (e.trans ek.symm)) (Nat.ne_of_lt hj)
                subst eh0
                simp only [decide_eq_true q, if_true, Option.isSome_none, Bool.false_eq_true, if_false]
                refine wpAny_bind (wpAny_rule ?_)
                split
                · rw [posK_some T.nd ek] at h
                  exact wpAny_pure (wpAny_pure h)
                · exact wpAny_pure ⟨rfl, x + 1, some x, rfl, hx, .inr ⟨x, rfl, Nat.lt_succ_self x, ek⟩, l'⟩
              · simp only [decide_eq_false q, Bool.false_eq_true, if_false]
                refine wpAny_bind (wpAny_rule ?_)
                exact wpAny_pure ⟨rfl, x + 1, hit, rfl, hx, on q, l'⟩
            · rw [if_neg eh]
              refine wpAny_pure ⟨rfl, x + 1, hit, rfl, hx, on fun q => ?_, l'⟩
              rw [hh, q] at eh
              exact eh (beq_self_eq_true _)
          · rintro r s' ⟨rfl, i, hit, rfl, hi, m, el⟩
            have m1 := skip i es.size hit m hi fun j a b => by
              have z := List.filter_eq_nil_iff.mp el.symm j (List.mem_range'_1.mpr ⟨a, by omega⟩)
              simpa using z
            rw [T.size] at m1
            rw [← m1.fin T.nd] at h
            exact wpAny_pure h
        · rw [if_neg hone]
          refine wpAny_bind (may_quiet hk hkd hst ?_)
          simp only [Bool.false_and, Bool.false_eq_true, if_false]
          refine wpAny_bind (wpAny_forIn_list _ (fun l r s' => s' = s ∧ ∃ i hit, r = (none, hit) ∧ i ≤ es.size ∧ Met ks k i hit ∧ l = (List.range' i (es.size - i)).filter (fun j => hashAt es j == some (k.hash w))) _ ?_ ?_ _ _
            ⟨rfl, 0, none, rfl, Nat.zero_le _, .inl ⟨rfl, fun j hj => absurd hj (Nat.not_lt_zero j)⟩, by rw [placesWithHash, List.range_eq_range', Nat.sub_zero]⟩)
          · rintro x l r s' ⟨rfl, i, hit, rfl, hi, m, el⟩
            obtain ⟨h1, h2, _, h4, h5⟩ := filter_range'_cons _ _ _ _ _ el.symm
            have hx : x < es.size := by omega
            have m1 := skip i x hit m h1 h4
            obtain ⟨k', ek, hh, n, dd⟩ := T.each x hx
            have l' : l = (List.range' (x + 1) (es.size - (x + 1))).filter (fun j => hashAt es j == some (k.hash w)) := by rw [h5]; congr 2; omega
            have on : ¬ k' = k → Met ks k (x + 1) hit := fun ne => m1.go (Nat.le_succ x) fun j a b q => by
              have e : j = x := by omega
              rw [e, ek] at q
              exact ne (Option.some.inj q)
            simp only [Array.getElem?_eq_getElem hx]
            by_cases eh : (es[x].hash == k.hash w) = true
            · rw [if_pos eh]
              refine wpAny_bind (wpAny_dictEpoch ho hd (wpAny_bind (eqs x hx k' ek _ (wpAny_bind (wpAny_dictEpoch ho hd ?_)))))
              simp only [bne_self_eq_false, Bool.false_eq_true, if_false]
              by_cases q : k' = k
              · rw [q] at ek
                have eh0 : hit = none := by
                  rcases m1 with ⟨z, _⟩ | ⟨j, _, hj, e⟩
                  · exact z
                  · exact absurd ((List.getElem?_inj (List.getElem?_eq_some_iff.mp e).1 T.nd).mp (e.trans ek.symm)) (Nat.ne_of_lt hj)
                subst eh0
                simp only [decide_eq_true q, if_true, Option.isSome_none, Bool.false_eq_true, if_false]
                refine wpAny_bind (wpAny_rule ?_)
                split
                · rw [posK_some T.nd ek] at h
                  exact wpAny_pure (wpAny_pure h)
                · exact wpAny_pure ⟨rfl, x + 1, some x, rfl, hx, .inr ⟨x, rfl, Nat.lt_succ_self x, ek⟩, l'⟩
              · simp only [decide_eq_false q, Bool.false_eq_true, if_false]
                refine wpAny_bind (wpAny_rule ?_)
                exact wpAny_pure ⟨rfl, x + 1, hit, rfl, hx, on q, l'⟩
            · rw [if_neg eh]
              refine wpAny_pure ⟨rfl, x + 1, hit, rfl, hx, on fun q => ?_, l'⟩
              rw [hh, q] at eh
              exact eh (beq_self_eq_true _)
          · rintro r s' ⟨rfl, i, hit, rfl, hi, m, el⟩
            have m1 := skip i es.size hit m hi fun j a b => by
              have z := List.filter_eq_nil_iff.mp el.symm j (List.mem_range'_1.mpr ⟨a, by omega⟩)
              simpa using z
            rw [T.size] at m1
            rw [← m1.fin T.nd] at h
            exact wpAny_pure h
  · by_cases hall : ((key :: (placesWithHash es.size (fun i => es[i]?.map (·.hash)) (k.hash w)).filterMap fun i => es[i]?.map (·.key)).all carriedByValue) = true
    · rw [if_pos hall]
      exact walk
    · rw [if_neg hall]
      split
      · rename_i a _z
        rw [if_neg (noStale a rfl)]
        by_cases hone : (((placesWithHash es.size (fun i => es[i]?.map (·.hash)) (k.hash w)).filterMap fun i => es[i]?.map (·.key)) == [Value.ref a]) = true
        · rw [if_pos hone]
          refine wpAny_bind (wpAny_pure ?_)
          simp only [Bool.false_and, Bool.false_eq_true, if_false]
          refine wpAny_bind (wpAny_forIn_list _ (fun l r s' => s' = s ∧ ∃ i hit, r = (none, hit) ∧ i ≤ es.size ∧ Met ks k i hit ∧ l = (List.range' i (es.size - i)).filter (fun j => hashAt es j == some (k.hash w))) _ ?_ ?_ _ _
            ⟨rfl, 0, none, rfl, Nat.zero_le _, .inl ⟨rfl, fun j hj => absurd hj (Nat.not_lt_zero j)⟩, by rw [placesWithHash, List.range_eq_range', Nat.sub_zero]⟩)
          · rintro x l r s' ⟨rfl, i, hit, rfl, hi, m, el⟩
            obtain ⟨h1, h2, _, h4, h5⟩ := filter_range'_cons _ _ _ _ _ el.symm
            have hx : x < es.size := by omega
            have m1 := skip i x hit m h1 h4
            obtain ⟨k', ek, hh, n, dd⟩ := T.each x hx
            have l' : l = (List.range' (x + 1) (es.size - (x + 1))).filter (fun j => hashAt es j == some (k.hash w)) := by rw [h5]; congr 2; omega
            have on : ¬ k' = k → Met ks k (x + 1) hit := fun ne => m1.go (Nat.le_succ x) fun j a b q => by
              have e : j = x := by omega
              rw [e, ek] at q
              exact ne (Option.some.inj q)
            simp only [Array.getElem?_eq_getElem hx]
            by_cases eh : (es[x].hash == k.hash w) = true
            · rw [if_pos eh]
              refine wpAny_bind (wpAny_dictEpoch ho hd (wpAny_bind (eqs x hx k' ek _ (wpAny_bind (wpAny_dictEpoch ho hd ?_)))))
              simp only [bne_self_eq_false, Bool.false_eq_true, if_false]
              by_cases q : k' = k
              · rw [q] at ek
                have eh0 : hit = none := by
                  rcases m1 with ⟨z, _⟩ | ⟨j, _, hj, e⟩
                  · exact z
                  · exact absurd ((List.getElem?_inj (List.getElem?_eq_some_iff.mp e).1 T.nd).mp (e.trans ek.symm)) (Nat.ne_of_lt hj)
                subst eh0
                simp only [decide_eq_true q, if_true, Option.isSome_none, Bool.false_eq_true, if_false]
                refine wpAny_bind (wpAny_rule ?_)
                split
                · rw [posK_some T.nd ek] at h
                  exact wpAny_pure (wpAny_pure h)
                · exact wpAny_pure ⟨rfl, x + 1, some x, rfl, hx, .inr ⟨x, rfl, Nat.lt_succ_self x, ek⟩, l'⟩
              · simp only [decide_eq_false q, Bool.false_eq_true, if_false]
                refine wpAny_bind (wpAny_rule ?_)
                exact wpAny_pure ⟨rfl, x + 1, hit, rfl, hx, on q, l'⟩
            · rw [if_neg eh]
              refine wpAny_pure ⟨rfl, x + 1, hit, rfl, hx, on fun q => ?_, l'⟩
              rw [hh, q] at eh
              exact eh (beq_self_eq_true _)
          · rintro r s' ⟨rfl, i, hit, rfl, hi, m, el⟩
            have m1 := skip i es.size hit m hi fun j a b => by
              have z := List.filter_eq_nil_iff.mp el.symm j (List.mem_range'_1.mpr ⟨a, by omega⟩)
              simpa using z
            rw [T.size] at m1
            rw [← m1.fin T.nd] at h
            exact wpAny_pure h
        · rw [if_neg hone]
          refine wpAny_bind (may_quiet hk hkd hst ?_)
          simp only [Bool.false_and, Bool.false_eq_true, if_false]
          refine wpAny_bind (wpAny_forIn_list _ (fun l r s' => s' = s ∧ ∃ i hit, r = (none, hit) ∧ i ≤ es.size ∧ Met ks k i hit ∧ l = (List.range' i (es.size - i)).filter (fun j => hashAt es j == some (k.hash w))) _ ?_ ?_ _ _
            ⟨rfl, 0, none, rfl, Nat.zero_le _, .inl ⟨rfl, fun j hj => absurd hj (Nat.not_lt_zero j)⟩, by rw [placesWithHash, List.range_eq_range', Nat.sub_zero]⟩)
          · rintro x l r s' ⟨rfl, i, hit, rfl, hi, m, el⟩
            obtain ⟨h1, h2, _, h4, h5⟩ := filter_range'_cons _ _ _ _ _ el.symm
            have hx : x < es.size := by omega
            have m1 := skip i x hit m h1 h4
            obtain ⟨k', ek, hh, n, dd⟩ := T.each x hx
            have l' : l = (List.range' (x + 1) (es.size - (x + 1))).filter (fun j => hashAt es j == some (k.hash w)) := by rw [h5]; congr 2; omega
            have on : ¬ k' = k → Met ks k (x + 1) hit := fun ne => m1.go (Nat.le_succ x) fun j a b q => by
              have e : j = x := by omega
              rw [e, ek] at q
              exact ne (Option.some.inj q)
            simp only [Array.getElem?_eq_getElem hx]
            by_cases eh : (es[x].hash == k.hash w) = true
            · rw [if_pos eh]
              refine wpAny_bind (wpAny_dictEpoch ho hd (wpAny_bind (eqs x hx k' ek _ (wpAny_bind (wpAny_dictEpoch ho hd ?_)))))
              simp only [bne_self_eq_false, Bool.false_eq_true, if_false]
              by_cases q : k' = k
              · rw [q] at ek
                have eh0 : hit = none := by
                  rcases m1 with ⟨z, _⟩ | ⟨j, _, hj, e⟩
                  · exact z
                  · exact absurd ((List.getElem?_inj (List.getElem?_eq_some_iff.mp e).1 T.nd).mp (e.trans ek.symm)) (Nat.ne_of_lt hj)
                subst eh0
                simp only [decide_eq_true q, if_true, Option.isSome_none, Bool.false_eq_true, if_false]
                refine wpAny_bind (wpAny_rule ?_)
                split
                · rw [posK_some T.nd ek] at h
                  exact wpAny_pure (wpAny_pure h)
                · exact wpAny_pure ⟨rfl, x + 1, some x, rfl, hx, .inr ⟨x, rfl, Nat.lt_succ_self x, ek⟩, l'⟩
              · simp only [decide_eq_false q, Bool.false_eq_true, if_false]
                refine wpAny_bind (wpAny_rule ?_)
                exact wpAny_pure ⟨rfl, x + 1, hit, rfl, hx, on q, l'⟩
            · rw [if_neg eh]
              refine wpAny_pure ⟨rfl, x + 1, hit, rfl, hx, on fun q => ?_, l'⟩
              rw [hh, q] at eh
              exact eh (beq_self_eq_true _)
          · rintro r s' ⟨rfl, i, hit, rfl, hi, m, el⟩
            have m1 := skip i es.size hit m hi fun j a b => by
              have z := List.filter_eq_nil_iff.mp el.symm j (List.mem_range'_1.mpr ⟨a, by omega⟩)
              simpa using z
            rw [T.size] at m1
            rw [← m1.fin T.nd] at h
            exact wpAny_pure h
      · by_cases hone : (((placesWithHash es.size (fun i => es[i]?.map (·.hash)) (k.hash w)).filterMap fun i => es[i]?.map (·.key)) == [key]) = true
        · rw [if_pos hone]
          refine wpAny_bind (wpAny_pure ?_)
          simp only [Bool.false_and, Bool.false_eq_true, if_false]
          refine wpAny_bind (wpAny_forIn_list _ (fun l r s' => s' = s ∧ ∃ i hit, r = (none, hit) ∧ i ≤ es.size ∧ Met ks k i hit ∧ l = (List.range' i (es.size - i)).filter (fun j => hashAt es j == some (k.hash w))) _ ?_ ?_ _ _
            ⟨rfl, 0, none, rfl, Nat.zero_le _, .inl ⟨rfl, fun j hj => absurd hj (Nat.not_lt_zero j)⟩, by rw [placesWithHash, List.range_eq_range', Nat.sub_zero]⟩)
          · rintro x l r s' ⟨rfl, i, hit, rfl, hi, m, el⟩
            obtain ⟨h1, h2, _, h4, h5⟩ := filter_range'_cons _ _ _ _ _ el.symm
            have hx : x < es.size := by omega
            have m1 := skip i x hit m h1 h4
            obtain ⟨k', ek, hh, n, dd⟩ := T.each x hx
            have l' : l = (List.range' (x + 1) (es.size - (x + 1))).filter (fun j => hashAt es j == some (k.hash w)) := by rw [h5]; congr 2; omega
            have on : ¬ k' = k → Met ks k (x + 1) hit := fun ne => m1.go (Nat.le_succ x) fun j a b q => by
              have e : j = x := by omega
              rw [e, ek] at q
              exact ne (Option.some.inj q)
            simp only [Array.getElem?_eq_getElem hx]
            by_cases eh : (es[x].hash == k.hash w) = true
            · rw [if_pos eh]
              refine wpAny_bind (wpAny_dictEpoch ho hd (wpAny_bind (eqs x hx k' ek _ (wpAny_bind (wpAny_dictEpoch ho hd ?_)))))
              simp only [bne_self_eq_false, Bool.false_eq_true, if_false]
              by_cases q : k' = k
              · rw [q] at ek
                have eh0 : hit = none := by
                  rcases m1 with ⟨z, _⟩ | ⟨j, _, hj, e⟩
                  · exact z
                  · exact absurd ((List.getElem?_inj (List.getElem?_eq_some_iff.mp e).1 T.nd).mp (e.trans ek.symm)) (Nat.ne_of_lt hj)
                subst eh0
                simp only [decide_eq_true q, if_true, Option.isSome_none, Bool.false_eq_true, if_false]
                refine wpAny_bind (wpAny_rule ?_)
                split
                · rw [posK_some T.nd ek] at h
                  exact wpAny_pure (wpAny_pure h)
                · exact wpAny_pure ⟨rfl, x + 1, some x, rfl, hx, .inr ⟨x, rfl, Nat.lt_succ_self x, ek⟩, l'⟩
              · simp only [decide_eq_false q, Bool.false_eq_true, if_false]
                refine wpAny_bind (wpAny_rule ?_)
                exact wpAny_pure ⟨rfl, x + 1, hit, rfl, hx, on q, l'⟩
            · rw [if_neg eh]
              refine wpAny_pure ⟨rfl, x + 1, hit, rfl, hx, on fun q => ?_, l'⟩
              rw [hh, q] at eh
              exact eh (beq_self_eq_true _)
          · rintro r s' ⟨rfl, i, hit, rfl, hi, m, el⟩
            have m1 := skip i es.size hit m hi fun j a b => by
              have z := List.filter_eq_nil_iff.mp el.symm j (List.mem_range'_1.mpr ⟨a, by omega⟩)
              simpa using z
            rw [T.size] at m1
            rw [← m1.fin T.nd] at h
            exact wpAny_pure h
        · rw [if_neg hone]
          refine wpAny_bind (may_quiet hk hkd hst ?_)
          simp only [Bool.false_and, Bool.false_eq_true, if_false]
          refine wpAny_bind (wpAny_forIn_list _ (fun l r s' => s' = s ∧ ∃ i hit, r = (none, hit) ∧ i ≤ es.size ∧ Met ks k i hit ∧ l = (List.range' i (es.size - i)).filter (fun j => hashAt es j == some (k.hash w))) _ ?_ ?_ _ _
            ⟨rfl, 0, none, rfl, Nat.zero_le _, .inl ⟨rfl, fun j hj => absurd hj (Nat.not_lt_zero j)⟩, by rw [placesWithHash, List.range_eq_range', Nat.sub_zero]⟩)
          · rintro x l r s' ⟨rfl, i, hit, rfl, hi, m, el⟩
            obtain ⟨h1, h2, _, h4, h5⟩ := filter_range'_cons _ _ _ _ _ el.symm
            have hx : x < es.size := by omega
            have m1 := skip i x hit m h1 h4
            obtain ⟨k', ek, hh, n, dd⟩ := T.each x hx
            have l' : l = (List.range' (x + 1) (es.size - (x + 1))).filter (fun j => hashAt es j == some (k.hash w)) := by rw [h5]; congr 2; omega
            have on : ¬ k' = k → Met ks k (x + 1) hit := fun ne => m1.go (Nat.le_succ x) fun j a b q => by
              have e : j = x := by omega
              rw [e, ek] at q
              exact ne (Option.some.inj q)
            simp only [Array.getElem?_eq_getElem hx]
            by_cases eh : (es[x].hash == k.hash w) = true
            · rw [if_pos eh]
              refine wpAny_bind (wpAny_dictEpoch ho hd (wpAny_bind (eqs x hx k' ek _ (wpAny_bind (wpAny_dictEpoch ho hd ?_)))))
              simp only [bne_self_eq_false, Bool.false_eq_true, if_false]
              by_cases q : k' = k
              · rw [q] at ek
                have eh0 : hit = none := by
                  rcases m1 with ⟨z, _⟩ | ⟨j, _, hj, e⟩
                  · exact z
                  · exact absurd ((List.getElem?_inj (List.getElem?_eq_some_iff.mp e).1 T.nd).mp (e.trans ek.symm)) (Nat.ne_of_lt hj)
                subst eh0
                simp only [decide_eq_true q, if_true, Option.isSome_none, Bool.false_eq_true, if_false]
                refine wpAny_bind (wpAny_rule ?_)
                split
                · rw [posK_some T.nd ek] at h
                  exact wpAny_pure (wpAny_pure h)
                · exact wpAny_pure ⟨rfl, x + 1, some x, rfl, hx, .inr ⟨x, rfl, Nat.lt_succ_self x, ek⟩, l'⟩
              · simp only [decide_eq_false q, Bool.false_eq_true, if_false]
                refine wpAny_bind (wpAny_rule ?_)
                exact wpAny_pure ⟨rfl, x + 1, hit, rfl, hx, on q, l'⟩
            · rw [if_neg eh]
              refine wpAny_pure ⟨rfl, x + 1, hit, rfl, hx, on fun q => ?_, l'⟩
              rw [hh, q] at eh
              exact eh (beq_self_eq_true _)
          · rintro r s' ⟨rfl, i, hit, rfl, hi, m, el⟩
            have m1 := skip i es.size hit m hi fun j a b => by
              have z := List.filter_eq_nil_iff.mp el.symm j (List.mem_range'_1.mpr ⟨a, by omega⟩)
              simpa using z
            rw [T.size] at m1
            rw [← m1.fin T.nd] at h
            exact wpAny_pure h
end
end Fc
namespace Fc
open PySem L2
section
variable {A : Around} {P : Program} {w : World} {s : Shared} {E : Value → Shared → Prop}
/-- what stands under a key among the entries -/
def under (ks : List NK) (es : Array DictEntry) (k : NK) : Option Value := (posK ks k).bind fun i => es[i]?.map (·.val)
theorem dGet {d : Addr} {o : Obj} {es : Array DictEntry} {ep : Nat} {ks : List NK} {k : NK} {key : Value} {Q : Option Value → Shared → Prop} (hu : A.units + 8 < cLine) (T : Tab w s.heap ks es)
    (hk : NestedIs s.heap k key) (hkd : k.depth ≤ 8) (ho : s.heap.get? d = some o) (hd : o.data = .dict es ep) (h : ∀ t, Q (under ks es k) { s with toks := t }) : wpAny (model P w) A (dictGet d key) Q E s := by
  have h' := h (s.toks + k.draws)
  unfold dictGet
  try with_reducible refine wpAny_holding ?_
  refine wpAny_bind (pyHash_key k key A s _ hk (by omega) (wpAny_bind (dFind (s := { s with toks := s.toks + k.draws }) hu T hk hkd ho hd ?_)))
  unfold under at h'
  cases e : posK ks k with
  | none =>
    rw [e] at h'
    exact wpAny_pure h'
  | some i =>
    rw [e] at h'
    exact wpAny_bind (wpAny_dictEntries (s := { s with toks := s.toks + k.draws }) ho hd (wpAny_pure h'))
/-- the entries behind a store -/
def put (w : World) (ks : List NK) (es : Array DictEntry) (k : NK) (key v : Value) : Array DictEntry :=
  match posK ks k with
  | some i => es.modify i fun e => { e with val := v }
  | none => es.push ⟨k.hash w, key, v⟩
theorem dSet {d : Addr} {o : Obj} {es : Array DictEntry} {ep : Nat} {ks : List NK} {k : NK} {key v : Value} {Q : Unit → Shared → Prop} (hu : A.units + 8 < cLine) (T : Tab w s.heap ks es)
    (hk : NestedIs s.heap k key) (hkd : k.depth ≤ 8) (ho : s.heap.get? d = some o) (hc : o.ExactDict) (hd : o.data = .dict es ep) (hz : es.size ≤ sizeLine)
    (h : ∀ h' t o' ep', Heap.SameBut d s.heap h' → h'.get? d = some o' → o'.ExactDict → o'.data = .dict (put w ks es k key v) ep' → Q () { s with heap := h', toks := t }) : wpAny (model P w) A (dictSet d key v) Q E s := by
  unfold dictSet
  try with_reducible refine wpAny_holding ?_
  refine wpAny_bind (pyHash_key k key A s _ hk (by omega) ?_)
  unfold dictSetHashed
  try with_reducible refine wpAny_holding ?_
  refine wpAny_bind (dFind (s := { s with toks := s.toks + k.draws }) hu T hk hkd ho hd ?_)
  unfold put at h
  cases e : posK ks k with
  | none =>
    rw [e] at h
    exact wpAny_bind (wpAny_rule (wpAny_updateDictKeys (hz := hz) (s := { s with toks := s.toks + k.draws }) ho hd
      (h _ _ _ (ep + 1) (Heap.SameBut.update ..) (Heap.get?_update_self _ ho (Obj.isFreed_of_dict (Obj.data_mapDictKeys hd _))) (hc.mapDictKeys _) (Obj.data_mapDictKeys hd _))))
  | some i =>
    rw [e] at h
    exact wpAny_bind (wpAny_rule (wpAny_bind (wpAny_updateDict (s := { s with toks := s.toks + k.draws }) ho hd (wpAny_point
      (h _ _ _ ep (Heap.SameBut.update ..) (Heap.get?_update_self _ ho (Obj.isFreed_of_dict (Obj.data_mapDict hd _))) (hc.mapDict _) (Obj.data_mapDict hd _))))))
end
end Fc
namespace Fc
open PySem L2
section
variable {A : Around} {P : Program} {w : World} {s : Shared} {E : Value → Shared → Prop}
theorem dHas {d : Addr} {o : Obj} {es : Array DictEntry} {ep : Nat} {ks : List NK} {k : NK} {key : Value} {Q : Bool → Shared → Prop} (hu : A.units + 9 < cLine) (T : Tab w s.heap ks es)
    (hk : NestedIs s.heap k key) (hkd : k.depth ≤ 8) (ho : s.heap.get? d = some o) (hc : o.ExactDict) (hd : o.data = .dict es ep) (hs : (d == sysModules) = false) (h : ∀ t, Q (under ks es k).isSome { s with toks := t }) :
    wpAny (model P w) A (contains (.ref d) key) Q E s := by
  have hT : s.TypeIs (.ref d) "dict" := ⟨o, ho, hc.1⟩
  unfold contains
  try with_reducible refine wpAny_holding ?_
  refine wpAny_bind (wpAny_specialOf hT slot_dict_contains.lookup ?_)
  simp only [beq_builtin_none, Bool.false_eq_true, if_false]
  refine wpAny_bind (wpAny_callSpecialUnlessNone?_slot (name := Str.ofString "__contains__") hT slot_dict_contains (wpAny_call_entry slot_dict_contains hT entry_dict_contains ?_ (args_dict_contains _ _)))
  show wpAny _ _ (dictGet d key >>= _) _ _ s
  refine wpAny_bind (dGet (by show A.units + 1 + 8 < cLine; omega) T hk hkd ho hd fun t => ?_)
  have h' := h t
  cases e : under ks es k with
  | some v =>
    rw [e] at h'
    show wpAny _ _ (ret (.bool true)) _ _ _
    exact wpAny_pure ⟨_, rfl, wpAny_truthy_bool h'⟩
  | none =>
    rw [e] at h'
    show wpAny _ _ (Builtin.Dict.pendingKey? d key >>= _) _ _ _
    exact wpAny_bind (wpAny_pendingKey_other hs (wpAny_pure ⟨_, rfl, wpAny_truthy_bool h'⟩))
theorem dItem {d : Addr} {o : Obj} {es : Array DictEntry} {ep : Nat} {ks : List NK} {k : NK} {key v : Value} {Q : Value → Shared → Prop} (hu : A.units + 9 < cLine) (T : Tab w s.heap ks es)
    (hk : NestedIs s.heap k key) (hkd : k.depth ≤ 8) (ho : s.heap.get? d = some o) (hc : o.ExactDict) (hd : o.data = .dict es ep) (hv : under ks es k = some v) (h : ∀ t, Q v { s with toks := t }) :
    wpAny (model P w) A (getItem (.ref d) key) Q E s := by
  have hT : s.TypeIs (.ref d) "dict" := ⟨o, ho, hc.1⟩
  unfold getItem
  try with_reducible refine wpAny_holding ?_
  refine wpAny_bind (wpAny_sequenceKey hT (by decide) ?_)
  refine wpAny_bind (wpAny_callSpecial?_slot (name := Str.ofString "__getitem__") hT slot_dict_getitem (wpAny_call_entry slot_dict_getitem hT entry_dict_getitem ?_ (args_dict_getitem _ _)))
  show wpAny _ _ (dictGet d key >>= _) _ _ s
  refine wpAny_bind (dGet (by show A.units + 1 + 8 < cLine; omega) T hk hkd ho hd fun t => ?_)
  rw [hv]
  exact wpAny_pure ⟨v, rfl, wpAny_pure (h t)⟩
theorem dPut {d : Addr} {o : Obj} {es : Array DictEntry} {ep : Nat} {ks : List NK} {k : NK} {key v : Value} {Q : Unit → Shared → Prop} (hu : A.units + 9 < cLine) (T : Tab w s.heap ks es)
    (hk : NestedIs s.heap k key) (hkd : k.depth ≤ 8) (ho : s.heap.get? d = some o) (hc : o.ExactDict) (hd : o.data = .dict es ep) (hz : es.size ≤ sizeLine)
    (h : ∀ h' t o' ep', Heap.SameBut d s.heap h' → h'.get? d = some o' → o'.ExactDict → o'.data = .dict (put w ks es k key v) ep' → Q () { s with heap := h', toks := t }) :
    wpAny (model P w) A (setItem (.ref d) key v) Q E s := by
  have hT : s.TypeIs (.ref d) "dict" := ⟨o, ho, hc.1⟩
  unfold setItem
  try with_reducible refine wpAny_holding ?_
  refine wpAny_bind (wpAny_sequenceKey hT (by decide) ?_)
  refine wpAny_bind (wpAny_callSpecial?_slot (name := Str.ofString "__setitem__") hT slot_dict_setitem (wpAny_call_entry slot_dict_setitem hT entry_dict_setitem ?_ (args_dict_setitem _ _ _)))
  show wpAny _ _ (Builtin.Dict.notOrdered "__setitem__" ⟨[.ref d, key, v], []⟩ >>= _) _ _ s
  refine wpAny_bind (wpAny_notOrdered_dict hT ?_)
  show wpAny _ _ (dictSet d key v >>= _) _ _ s
  exact wpAny_bind (dSet (by show A.units + 1 + 8 < cLine; omega) T hk hkd ho hc hd hz fun h' t o' ep' a b c e => wpAny_pure ⟨.none, rfl, wpAny_pure (h h' t o' ep' a b c e)⟩)
end
end Fc
namespace Fc
open PySem L2
/-! ### tables over the layer's heap -/
inductive FlatK : NK → V → Prop
  | non : FlatK .none .non
  | num (i : Int) : FlatK (.num i) (.int i)
  | bl (b : Bool) : FlatK (.num (if b = true then 1 else 0)) (.bl b)
  | text (x : Str) : FlatK (.text x) (.str x)
/-- the value v is the key k: flat, or a tuple of flat ones -/
def Key1 (K : PySem.W.Frag) (H : Hp) (k : NK) (v : V) : Prop := FlatK k v ∨ ∃ a vs ks, v = .ref a ∧ SqT K H a vs ∧ k = .tup ks ∧ Paired FlatK ks vs
/-- .. or a tuple of such -/
def KeyV (K : PySem.W.Frag) (H : Hp) (k : NK) (v : V) : Prop := Key1 K H k v ∨ ∃ a vs ks, v = .ref a ∧ SqT K H a vs ∧ k = .tup ks ∧ Paired (Key1 K H) ks vs
abbrev Ent := NK × V × V
abbrev keys (xs : List Ent) : List NK := xs.map (·.1)
def Ents (w : World) (xs : List Ent) (es : Array DictEntry) : Prop :=
  es.size = xs.length ∧ ∀ (j : Nat) (hj : j < es.size) (x : Ent), xs[j]? = some x → es[j].hash = x.1.hash w ∧ RelV x.2.1 es[j].key ∧ RelV x.2.2 es[j].val
def MDat (w : World) (a : Addr) (xs : List Ent) (h : Heap) : Prop :=
  xs.length ≤ sizeLine ∧ (a == sysModules) = false ∧ (keys xs).Nodup ∧ ∃ o es ep, h.get? a = some o ∧ o.ExactDict ∧ o.data = .dict es ep ∧ Ents w xs es
/-- a dict whose keys are flat values and tuples of such -/
def MD (w : World) (a : Addr) (xs : List Ent) : HO := .ext (MDat w a xs)
theorem MDat.ok {P : Program} {w : World} {H : Hp} {h : Heap} {a : Addr} {xs : List Ent} (m : MDat w a xs h) : ObjOk P w H h a (MD w a xs) := by
  have ⟨_, _, _, o, _, _, e, _⟩ := m
  exact ⟨m, ⟨o, e⟩, fun h1 h2 ⟨z1, z2, z3, o1, es, ep, e1, r⟩ k => ⟨z1, z2, z3, o1, es, ep, k _ e1, r⟩⟩
/-- a table that may be read: its keys stand -/
structure TabAt (K : PySem.W.Frag) (w : World) (H : Hp) (a : Addr) (xs : List Ent) : Prop where
  md : Rd H a (MD w a xs)
  ks : ∀ x ∈ xs, KeyV K H x.1 x.2.1
def posM (xs : List Ent) (k : NK) : Option Nat := posK (keys xs) k
def valM (xs : List Ent) (k : NK) : Option V := (posM xs k).bind fun i => xs[i]?.map (·.2.2)
def putM (xs : List Ent) (k : NK) (kv v : V) : List Ent :=
  match posM xs k with
  | some i => xs.modify i fun x => (x.1, x.2.1, v)
  | none => xs ++ [(k, kv, v)]
section
variable {X : Cx} {pins : List (Addr × Obj)} {σ : St} {H : Hp} {s : Shared} {a : Addr} {xs : List Ent} {k : NK} {v : V} {u : Value}
theorem FlatK.is {h : Heap} (f : FlatK k v) (r : RelV v u) : NestedIs h k u ∧ k.depth = 0 := by
  cases f with
  | non => cases r; exact ⟨.none, rfl⟩
  | num i => obtain ⟨t, rfl⟩ := r; exact ⟨.int i t, rfl⟩
  | bl b => cases r; exact ⟨.bool rfl, rfl⟩
  | text x => obtain ⟨t, rfl⟩ := r; exact ⟨.text x t, rfl⟩
theorem flats_is {h : Heap} : ∀ {ks : List NK} {vs : List V} {us : List Value}, Paired FlatK ks vs → Vals vs us → NestedAll h ks us ∧ NestedKey.depthAll ks = 0
  | _, _, _, .nil, .nil => ⟨.nil, rfl⟩
  | _, _, _, .cons f fs, .cons r rs => by
    obtain ⟨n, d⟩ := f.is (h := h) r
    obtain ⟨ns, ds⟩ := flats_is (h := h) fs rs
    exact ⟨.cons n ns, by simp only [NestedKey.depthAll, d, ds]; rfl⟩
theorem Key1.is (I : Inv X pins σ H s) (h : Key1 X.K H k v) (r : RelV v u) : NestedIs s.heap k u ∧ k.depth ≤ 1 := by
  rcases h with f | ⟨b, vs, ks, rfl, hs, rfl, fs⟩
  · obtain ⟨n, d⟩ := f.is (h := s.heap) r
    exact ⟨n, by omega⟩
  · obtain rfl : u = Value.ref b := r
    obtain ⟨its, rv, ⟨o, ho, hc, n, hd⟩, _⟩ := I.tuple hs
    obtain ⟨ns, ds⟩ := flats_is (h := s.heap) fs rv
    exact ⟨.tup ho hc hd (by simpa using ns), by simp only [NestedKey.depth, ds]; omega⟩
theorem key1s_is (I : Inv X pins σ H s) : ∀ {ks : List NK} {vs : List V} {us : List Value}, Paired (Key1 X.K H) ks vs → Vals vs us → NestedAll s.heap ks us ∧ NestedKey.depthAll ks ≤ 1
  | _, _, _, .nil, .nil => ⟨.nil, Nat.zero_le _⟩
  | _, _, _, .cons f fs, .cons r rs => by
    obtain ⟨n, d⟩ := f.is I r
    obtain ⟨ns, ds⟩ := key1s_is I fs rs
    exact ⟨.cons n ns, by simp only [NestedKey.depthAll]; omega⟩
theorem KeyV.is (I : Inv X pins σ H s) (h : KeyV X.K H k v) (r : RelV v u) : NestedIs s.heap k u ∧ k.depth ≤ 8 := by
  rcases h with f | ⟨b, vs, ks, rfl, hs, rfl, fs⟩
  · obtain ⟨n, d⟩ := f.is I r
    exact ⟨n, by omega⟩
  · obtain rfl : u = Value.ref b := r
    obtain ⟨its, rv, ⟨o, ho, hc, n, hd⟩, _⟩ := I.tuple hs
    obtain ⟨ns, ds⟩ := key1s_is I fs rv
    exact ⟨.tup ho hc hd (by simpa using ns), by simp only [NestedKey.depth]; omega⟩
theorem TabAt.get (I : Inv X pins σ H s) (t : TabAt X.K X.w H a xs) : xs.length ≤ sizeLine ∧ (a == sysModules) = false ∧
    ∃ o es ep, s.heap.get? a = some o ∧ o.ExactDict ∧ o.data = .dict es ep ∧ Ents X.w xs es ∧ Tab X.w s.heap (keys xs) es := by
  have ok : ObjOk X.prog X.w H s.heap a (MD X.w a xs) := t.md.ok I.hok
  obtain ⟨⟨z, sm, nd, o, es, ep, ho, hc, hd, ee⟩, _⟩ := ok
  refine ⟨z, sm, o, es, ep, ho, hc, hd, ee, ⟨by rw [ee.1, List.length_map], fun j hj => ?_, nd⟩⟩
  have hx : j < xs.length := by rw [← ee.1]; exact hj
  obtain ⟨e1, e2, _⟩ := ee.2 j hj xs[j] (List.getElem?_eq_getElem hx)
  obtain ⟨n, d⟩ := (t.ks xs[j] (List.getElem_mem hx)).is I e2
  exact ⟨xs[j].1, by rw [List.getElem?_map, List.getElem?_eq_getElem hx]; rfl, e1, n, d⟩
theorem Ents.val {w : World} {es : Array DictEntry} (ee : Ents w xs es) (k : NK) : RelO (valM xs k) (under (keys xs) es k) := by
  unfold valM under posM
  cases e : posK (keys xs) k with
  | none => trivial
  | some i =>
    show RelO (xs[i]?.map (·.2.2)) (es[i]?.map (·.val))
    by_cases hi : i < es.size
    · have hx : i < xs.length := by rw [← ee.1]; exact hi
      rw [Array.getElem?_eq_getElem hi, List.getElem?_eq_getElem hx]
      exact (ee.2 i hi xs[i] (List.getElem?_eq_getElem hx)).2.2
    · have hx : ¬ i < xs.length := by rw [← ee.1]; exact hi
      rw [Array.getElem?_eq_none (by omega), List.getElem?_eq_none (by omega)]
      trivial
theorem keys_putM (xs : List Ent) (k : NK) (kv v : V) : keys (putM xs k kv v) = match posM xs k with | some _ => keys xs | none => keys xs ++ [k] := by
  unfold putM
  cases e : posM xs k with
  | some i =>
    show (xs.modify i _).map (·.1) = xs.map (·.1)
    apply List.ext_getElem?
    intro j
    rw [List.getElem?_map, List.getElem?_modify, List.getElem?_map]
    cases xs[j]? with
    | none => rfl
    | some x => by_cases q : i = j <;> simp [q]
  | none => show (xs ++ [(k, kv, v)]).map (·.1) = _; rw [List.map_append]; rfl
theorem posK_isSome {ks : List NK} {k : NK} : (posK ks k).isSome = true ↔ k ∈ ks := by
  constructor
  · intro h
    obtain ⟨i, e⟩ := Option.isSome_iff_exists.mp h
    unfold posK at e
    obtain ⟨hi, q, _⟩ := List.findIdx?_eq_some_iff_getElem.mp e
    have q2 : ks[i] = k := of_decide_eq_true q
    rw [← q2]
    exact List.getElem_mem hi
  · intro h
    cases e : posK ks k with
    | some i => rfl
    | none =>
      unfold posK at e
      have q := List.findIdx?_eq_none_iff.mp e k h
      simp at q
theorem nd_putM (xs : List Ent) (k : NK) (kv v : V) (nd : (keys xs).Nodup) : (keys (putM xs k kv v)).Nodup := by
  rw [keys_putM]
  cases e : posM xs k with
  | some i => exact nd
  | none =>
    refine List.nodup_append.mpr ⟨nd, by simp, fun x hx y hy => ?_⟩
    rw [List.mem_singleton] at hy
    rintro rfl
    have q := posK_isSome.mpr (hy ▸ hx)
    unfold posM at e
    rw [e] at q
    cases q
theorem len_putM (xs : List Ent) (k : NK) (kv v : V) : (putM xs k kv v).length ≤ xs.length + 1 := by
  unfold putM
  cases posM xs k with
  | some i => show (xs.modify i _).length ≤ _; rw [List.length_modify]; omega
  | none => show (xs ++ [_]).length ≤ _; rw [List.length_append]; exact Nat.le_refl _
theorem Ents.put {w : World} {es : Array DictEntry} (ee : Ents w xs es) (k : NK) {kv v : V} {key r : Value} (rk : RelV kv key) (rv : RelV v r) : Ents w (putM xs k kv v) (Fc.put w (keys xs) es k key r) := by
  unfold putM Fc.put posM
  cases e : posK (keys xs) k with
  | none =>
    refine ⟨by show (es.push _).size = (xs ++ [_]).length; rw [Array.size_push, ee.1, List.length_append]; rfl, fun j hj x hx => ?_⟩
    have hj' : j < es.size + 1 := by simpa using hj
    show (es.push _)[j].hash = _ ∧ RelV _ (es.push _)[j].key ∧ RelV _ (es.push _)[j].val
    rcases Nat.lt_or_ge j es.size with q | q
    · rw [Array.getElem_push_lt q]
      refine ee.2 j q x ?_
      rw [List.getElem?_append_left (by rw [← ee.1]; exact q)] at hx
      exact hx
    · have ej : j = es.size := by omega
      subst ej
      rw [List.getElem?_append_right (by rw [ee.1]; exact Nat.le_refl _), ee.1, Nat.sub_self] at hx
      cases hx
      rw [Array.getElem_push_eq]
      exact ⟨rfl, rk, rv⟩
  | some i =>
    refine ⟨by show (es.modify i _).size = (xs.modify i _).length; rw [Array.size_modify, List.length_modify]; exact ee.1, fun j hj x hx => ?_⟩
    have hj' : j < es.size := by simpa using hj
    have hxj : j < xs.length := by rw [← ee.1]; exact hj'
    obtain ⟨p1, p2, p3⟩ := ee.2 j hj' xs[j] (List.getElem?_eq_getElem hxj)
    have hx' : (xs.modify i fun x => (x.1, x.2.1, v))[j]? = some x := hx
    rw [List.getElem?_modify, List.getElem?_eq_getElem hxj] at hx'
    replace hx' : (if i = j then (xs[j].1, xs[j].2.1, v) else xs[j]) = x := Option.some.inj hx'
    show (es.modify i _)[j].hash = _ ∧ RelV _ (es.modify i _)[j].key ∧ RelV _ (es.modify i _)[j].val
    rw [Array.getElem_modify]
    by_cases q : i = j
    · rw [if_pos q] at hx' ⊢
      cases hx'
      exact ⟨p1, p2, rv⟩
    · rw [if_neg q] at hx' ⊢
      cases hx'
      exact ⟨p1, p2, p3⟩
end
end Fc
namespace Fc
open PySem L2
/-- tuples stand as they stood -/
def Tups (K : PySem.W.Frag) (H H' : Hp) : Prop := ∀ b ys, SqT K H b ys → SqT K H' b ys
theorem Tups.of {K : PySem.W.Frag} {H H' : Hp} (t : ∀ b ys, Rd H b (.tup ys) → Rd H' b (.tup ys)) : Tups K H H' := fun b ys h => h.elim (fun r => .inl (t b ys r)) .inr
theorem Tups.same {K : PySem.W.Frag} {H H' : Hp} (e : Same H H') : Tups K H H' := .of fun b ys r => r.elim (fun z => .inl (e _ _ z)) fun ⟨o, z⟩ => .inr ⟨o, e _ _ z⟩
theorem Tups.upd {K : PySem.W.Frag} {H : Hp} {a : Addr} {o : HO} (h : ∀ u, H a = some u → Mut (some u)) : Tups K H (upd H a o) := .of fun b ys r => by
  have ne : ∀ u, H b = some u → ¬ Mut (some u) → b ≠ a := fun u e n z => n (h u (z ▸ e))
  rcases r with r | ⟨ob, r⟩
  · exact .inl (by rw [upd_ne (ne _ r fun z => z)]; exact r)
  · exact .inr ⟨ob, by rw [upd_ne (ne _ r fun z => z)]; exact r⟩
theorem Tups.trans {K : PySem.W.Frag} {H H1 H2 : Hp} (a : Tups K H H1) (b : Tups K H1 H2) : Tups K H H2 := fun c ys h => b c ys (a c ys h)
theorem Key1.mono {K : PySem.W.Frag} {H H' : Hp} {k : NK} {v : V} (t : Tups K H H') (h : Key1 K H k v) : Key1 K H' k v := by
  rcases h with f | ⟨b, vs, ks, e, hs, ek, fs⟩
  · exact .inl f
  · exact .inr ⟨b, vs, ks, e, t _ _ hs, ek, fs⟩
theorem KeyV.mono {K : PySem.W.Frag} {H H' : Hp} {k : NK} {v : V} (t : Tups K H H') (h : KeyV K H k v) : KeyV K H' k v := by
  rcases h with f | ⟨b, vs, ks, e, hs, ek, fs⟩
  · exact .inl (f.mono t)
  · refine .inr ⟨b, vs, ks, e, t _ _ hs, ek, ?_⟩
    clear hs e ek
    induction fs with
    | nil => exact .nil
    | cons h _ ih => exact .cons (h.mono t) ih
theorem TabAt.mono {K : PySem.W.Frag} {w : World} {H H' : Hp} {a : Addr} {xs : List Ent} (t : Tups K H H') (r : Rd H' a (MD w a xs)) (h : TabAt K w H a xs) : TabAt K w H' a xs := ⟨r, fun x hx => (h.ks x hx).mono t⟩
section
variable {X : Cx}
def rInM (K : PySem.W.Frag) (w : World) (g : Bool → Bool) : R2 := fun x y H Q => ∃ a xs k, y = .ref a ∧ TabAt K w H a xs ∧ KeyV K H k x ∧ Q (.bl (g (valM xs k).isSome)) H
theorem op_inM (hu : X.A.units + 9 < cLine) : OpR X (compareOp .In) (rInM X.K X.w id) := by
  intro pins s σ H x y v u Q I rx ry ⟨a, xs, k, e, t, hk, q⟩
  subst e
  obtain rfl : u = Value.ref a := ry
  obtain ⟨_, sm, o, es, ep, ho, hc, hd, ee, T⟩ := t.get I
  obtain ⟨n, d⟩ := hk.is I rx
  show wpAny _ _ (do return Value.bool (← contains (.ref a) v)) _ _ s
  have eb := (ee.val k).isSome_eq
  exact wpAny_bind (dHas hu T n d ho hc hd sm fun tk => wpAny_pure ⟨.bl (valM xs k).isSome, H, I.tok tk, by rw [eb]; rfl, q⟩)
theorem op_notInM (hu : X.A.units + 9 < cLine) : OpR X (compareOp .NotIn) (rInM X.K X.w not) := by
  intro pins s σ H x y v u Q I rx ry ⟨a, xs, k, e, t, hk, q⟩
  subst e
  obtain rfl : u = Value.ref a := ry
  obtain ⟨_, sm, o, es, ep, ho, hc, hd, ee, T⟩ := t.get I
  obtain ⟨n, d⟩ := hk.is I rx
  show wpAny _ _ (do return Value.bool (!(← contains (.ref a) v))) _ _ s
  have eb := (ee.val k).isSome_eq
  exact wpAny_bind (dHas hu T n d ho hc hd sm fun tk => wpAny_pure ⟨.bl (!(valM xs k).isSome), H, I.tok tk, by rw [eb]; rfl, q⟩)
def rIxM (K : PySem.W.Frag) (w : World) : R2 := fun x y H Q => ∃ a xs k v, x = .ref a ∧ TabAt K w H a xs ∧ KeyV K H k y ∧ valM xs k = some v ∧ Q v H
theorem ix_md (hu : X.A.units + 9 < cLine) : IxR X (rIxM X.K X.w) := by
  intro value slice pins s σ H x y v u Q I rx ry ⟨a, xs, k, z, e, t, hk, hv, q⟩ hs
  subst e
  obtain rfl : v = Value.ref a := rx
  obtain ⟨_, sm, o, es, ep, ho, hc, hd, ee, T⟩ := t.get I
  obtain ⟨n, d⟩ := hk.is I ry
  have r := ee.val k
  rw [hv] at r
  obtain ⟨r', hr, rr⟩ := r.some_of
  exact PyProof.Rows.subscriptTail_builtinR (x := r') ⟨o, ho, hc.1⟩ slot_dict_getitem.lookup (dItem hu T n d ho hc hd hr fun tk => ⟨rfl, z, H, I.tok tk, rr, q⟩) hs
def rSetM (K : PySem.W.Frag) (w : World) : TSet := fun o i v H Q => ∃ a xs k, o = .ref a ∧ H a = some (MD w a xs) ∧ (∀ x ∈ xs, KeyV K H x.1 x.2.1) ∧ KeyV K H k i ∧ xs.length < sizeLine ∧ Q (upd H a (MD w a (putM xs k i v)))
theorem md_write {pins : List (Addr × Obj)} {σ : St} {H : Hp} {s : Shared} {a : Addr} {xs ys : List Ent} {h' : Heap} {t : Nat} (I : Inv X pins σ H s) (hH : H a = some (MD X.w a xs)) (sb : Heap.SameBut a s.heap h') (m : MDat X.w a ys h') :
    Inv X pins σ (upd H a (MD X.w a ys)) { s with heap := h', toks := t } := by
  have ⟨_, _, _, o, _, _, e, _⟩ := m
  exact d_write I (by rw [hH]; exact True.intro) sb ⟨o, e⟩ m.ok
theorem md_put {pins : List (Addr × Obj)} {σ : St} {H : Hp} {s : Shared} {a : Addr} {xs : List Ent} {k : NK} {kv v : V} {key r : Value} {h' : Heap} {o' : Obj} {ep' : Nat} {es : Array DictEntry} (hH : H a = some (MD X.w a xs)) (I : Inv X pins σ H s)
    (hl : xs.length < sizeLine) (ee : Ents X.w xs es) (rk : RelV kv key) (rv : RelV v r) (sb : Heap.SameBut a s.heap h') (e1 : h'.get? a = some o') (e2 : o'.ExactDict) (e3 : o'.data = .dict (put X.w (keys xs) es k key r) ep') (t : Nat) :
    Inv X pins σ (upd H a (MD X.w a (putM xs k kv v))) { s with heap := h', toks := t } := by
  obtain ⟨_, sm, nd, _⟩ := (I.hok a _ hH).1
  exact md_write I hH sb ⟨Nat.le_trans (len_putM xs k kv v) hl, sm, nd_putM xs k kv v nd, o', _, ep', e1, e2, e3, ee.put k rk rv⟩
theorem set_md (hu : X.A.units + 9 < cLine) : PSet X (rSetM X.K X.w) := by
  intro pins s σ H o i v ov iv u Q I ro ri rv ⟨a, xs, k, e, hH, hks, hk, hl, q⟩
  subst e
  obtain rfl : ov = Value.ref a := ro
  have t : TabAt X.K X.w H a xs := ⟨.inl hH, hks⟩
  obtain ⟨z, sm, o, es, ep, ho, hc, hd, ee, T⟩ := t.get I
  obtain ⟨n, d⟩ := hk.is I ri
  exact dPut hu T n d ho hc hd (by rw [ee.1]; exact z) fun h' tk o' ep' sb e1 e2 e3 => ⟨_, md_put hH I hl ee ri rv sb e1 e2 e3 tk, q⟩
/-- len(d) -/
theorem call_lenM : CallR X (.builtin "len") (fun xs H Q => ∃ a es, xs = [.ref a] ∧ TabAt X.K X.w H a es ∧ Q (.int es.length) H) := by
  intro pins s σ H xs us Q I r ⟨a, ys, e, t, q⟩
  subst e
  obtain ⟨u, rfl, rx⟩ := vals1 r
  obtain rfl : u = Value.ref a := rx
  obtain ⟨z, sm, o, es, ep, ho, hc, hd, ee, T⟩ := t.get I
  rw [sizeLine_eq] at z
  refine PyProof.Rows.call_len_slot (n := es.size) ⟨o, ho, hc.1⟩ F.slot_dict_len (fun Q' hq => call_len_raw sm ⟨o, ho, hc, hd⟩ hq) (by omega) (by rw [ee.1]; omega) ?_
  exact ⟨.int ys.length, H, I.tok _, ⟨_, by rw [ee.1]⟩, q⟩
/-- list(d) -/
theorem call_listM (hcalm : X.calm = true) : CallR X (.type "list") (fun xs H Q => ∃ a es, xs = [.ref a] ∧ TabAt X.K X.w H a es ∧ ∀ p, H p = none → Q (.ref p) (upd H p (.lst (es.map (·.2.1))))) := by
  intro pins s σ H xs us Q I r ⟨a, ys, e, t, q⟩
  subst e
  obtain ⟨u, rfl, rx⟩ := vals1 r
  obtain rfl : u = Value.ref a := rx
  obtain ⟨z, sm, o, es, ep, ho, hc, hd, ee, T⟩ := t.get I
  refine PySem.W.kdl_call (kdl_raw sm hc hd) (I.ok.hd hcalm) ho (by rw [ee.1]; exact z) fun h' tk acc' c' kp e it => ?_
  have hl : acc'.toList.length = ys.length := by rw [Array.length_toList, it.1]; exact ee.1
  have rv : Vals (ys.map (·.2.1)) acc'.toList := by
    have gen : ∀ (l1 : List Ent) (l2 : List Value), l1.length = l2.length → (∀ (j : Nat) (x : Ent), l1[j]? = some x → ∀ v : Value, l2[j]? = some v → RelV x.2.1 v) → Vals (l1.map (·.2.1)) l2 := by
      intro l1
      induction l1 with
      | nil => intro l2 hl _; cases l2 with
        | nil => exact .nil
        | cons _ _ => cases hl
      | cons x l1 ih => intro l2 hl h; cases l2 with
        | nil => cases hl
        | cons v l2 => exact .cons (h 0 x rfl v rfl) (ih l2 (by simpa using hl) fun j y hy v hv => h (j + 1) y (by simpa using hy) v (by simpa using hv))
    refine gen ys acc'.toList hl.symm fun j x hx v hv => ?_
    obtain ⟨en, hen, ev⟩ := it.2 j v (by rw [← Array.getElem?_toList]; exact hv)
    obtain ⟨hj, e2⟩ := Array.getElem?_eq_some_iff.mp hen
    have q2 := (ee.2 j hj x hx).2.1
    rw [ev, ← e2]
    exact q2
  refine ⟨.ref s.heap.objs.size, _, I.laid (t' := tk) (o := .lst (ys.map (·.2.1))) kp (Nat.le_refl _) ⟨by rw [List.length_map]; exact z, acc'.toList, c', rv, by rw [Array.toArray_toList]; exact e⟩, rfl, q _ (I.hok.fresh (Nat.le_refl _))⟩
/-- isinstance(d, T) -/
theorem call_isiM : CallR X (.builtin "isinstance") (fun xs H Q => ∃ a es c u b, xs = [.ref a, c] ∧ ClsV c u ∧ TabAt X.K X.w H a es ∧ PySem.W.kitOne X.K (.type "dict") u = some b ∧ Q (.bl b) H) := by
  intro pins s σ H xs us Q I r ⟨a, es, c, u, b, e, k, t, kt, q⟩
  subst e
  obtain ⟨u1, u2, rfl, r1, r2⟩ := vals2 r
  have e2 := k.eq r2
  subst e2
  obtain rfl : u1 = Value.ref a := r1
  obtain ⟨_, _, o, _, _, ho, hc, _⟩ := t.get I
  exact PySem.W.kia_one PySem.W.kitx_dict I.kIn (⟨o, ho, hc.1⟩) kt (fun z => nomatch z) fun tk => ⟨.bl b, H, I.tok tk, rfl, q⟩
end
end Fc
namespace Fc
open PySem L2
/-- the keys of a locked table, one by one -/
def ItM (w : World) (d : Addr) (o : Obj) (xs : List Ent) : It :=
  ⟨fun n H => H d = some (.frz o (MD w d xs)) ∧ n < xs.length, fun n H x H' => H' = H ∧ ∃ e, xs[n]? = some e ∧ x = e.2.1, fun n H => H d = some (.frz o (MD w d xs)) ∧ xs.length ≤ n⟩
theorem frzM {X : Cx} {pins : List (Addr × Obj)} {σ : St} {H : Hp} {s : Shared} {d : Addr} {o : Obj} {xs : List Ent} (I : Inv X pins σ H s) (h : H d = some (.frz o (MD X.w d xs))) :
    (d == sysModules) = false ∧ s.heap.get? d = some o ∧ o.ExactDict ∧ ∃ es ep, o.data = .dict es ep ∧ Ents X.w xs es := by
  obtain ⟨hg, ⟨⟨_, sm, _, o', es, ep, e, c, dt, ee⟩, _⟩⟩ := I.hok d _ h
  rw [hg] at e
  cases e
  exact ⟨sm, hg, c, es, ep, dt, ee⟩
theorem turnM {P : Program} {w : World} {K : PySem.W.Frag} {tg : Expr} {d : Addr} {o : Obj} {es : Array DictEntry} {ep : Nat} {xs : List Ent} (it : Addr) (hod : o.data = .dict es ep) :
    Turn P w K tg (ItM w d o xs) [it] it (fun n h => h.IsKeyIter it d n xs.length ep) := by
  refine ⟨List.mem_singleton.mpr rfl, fun n h st b hb => ?_, fun n h h' st k => st.at fun ob e => k it (List.mem_singleton.mpr rfl) ob e, ?_, ?_, fun A n s Q E st h => ?_⟩
  · rw [List.mem_singleton] at hb
    subst hb
    obtain ⟨ob, e, _, dt⟩ := st
    exact ⟨ob, e, fun v z => by rw [dt] at z; cases z⟩
  · intro X e1 e2 e3 hc n pins s σ H E I hf st hg
    subst e1 e2 e3
    obtain ⟨hd, hn⟩ := hg
    have F := hf it (List.mem_singleton.mpr rfl)
    obtain ⟨_, g, _, es', ep', dt, ee⟩ := frzM I hd
    obtain ⟨q1, q2⟩ := dict_ep hod dt
    subst q1 q2
    have hx : n < es'.size := by rw [ee.1]; exact hn
    refine next_key_item st g hod ee.1 (Array.getElem?_eq_getElem hx) fun h' st' sb => ⟨es'[n].key, rfl, ?_⟩
    have I1 : Inv X pins σ H { s with heap := h' } := I.turned (t' := s.toks) (fun b ob ne e => (sb.2 b ne).trans e) F.1 F.2.1 F.2.2.2.1 F.2.2.2.2.1 F.2.2.2.2.2
    have ⟨ob, e, c, dt'⟩ := st'
    exact go_of (s := { s with heap := h' }) e c dt' (by decide) ⟨xs[n].2.1, H, I1, (ee.2 n hx xs[n] (List.getElem?_eq_getElem hn)).2.1, ⟨rfl, xs[n], List.getElem?_eq_getElem hn, rfl⟩, st', fun b hb => (hf b hb).1⟩
  · intro X e1 e2 e3 hc n pins s σ H E I hf st hg
    subst e1 e2 e3
    obtain ⟨hd, hn⟩ := hg
    have F := hf it (List.mem_singleton.mpr rfl)
    obtain ⟨_, g, _, es', ep', dt, ee⟩ := frzM I hd
    obtain ⟨q1, q2⟩ := dict_ep hod dt
    subst q1 q2
    exact next_key_end (I.ok.hd hc) st g hod ee.1 hn fun h' eb => ⟨rfl, I.turned (t' := s.toks) (fun b ob ne e => eb b ob ne e) F.1 F.2.1 F.2.2.2.1 F.2.2.2.2.1 F.2.2.2.2.2⟩
  · exact wpAny_pyIter_keyiter st h
/-- for k in d, d a locked table -/
def iKeyM (w : World) (td : TE) : TI := fun σ H R => td σ H fun x H1 => ∃ d o xs, x = .ref d ∧ H1 d = some (.frz o (MD w d xs)) ∧ R (ItM w d o xs) H1
theorem pi_keyM {X : Cx} {tg e : Expr} {td : TE} (he : PE X e td) : PI X tg e (iKeyM X.w td) := by
  refine ⟨fun pins s σ H R I h => thn (he.run pins s σ H _ I h) fun u s1 ⟨x, H1, I1, rx, d, o, xs, ex, hd, q⟩ => ?_⟩
  subst ex
  obtain rfl : u = Value.ref d := rx
  obtain ⟨sm, g, c, es, ep, dt, ee⟩ := frzM I1 hd
  refine iter_keys sm g c dt (pi_one (tk := s1.toks) I1 _ (turnM _ dt) ⟨_, Heap.get?_push_size _ rfl, rfl, ?_⟩ q)
  rw [ee.1]
  rfl
/-! ### {k: v for ..}, keys of all kinds -/
def tDcM (K : PySem.W.Frag) (w : World) (wi : TI) (g : TG) (tk tv : TE) (vs : List Nat) : TE := fun σ H Q => wi σ H fun J H1 => ∀ D, H1 D = none → ∃ W : Nat → Nat → Hp → Prop, (∃ m, W 0 m (upd H1 D (MD w D []))) ∧ ∀ i m H, W i m H →
  (J.stop i H ∧ Q (.ref D) H) ∨ (J.go i H ∧ ∃ Nx : Hp → Prop, (∀ H', Nx H' → ∃ m', m' < m ∧ W (i + 1) m' H') ∧ ∀ x H', J.yld i H x H' → g x (wipe σ vs) H' fun σ2 H2 => wipe σ2 vs = wipe σ vs ∧
    tk σ2 H2 fun y H4 => tv σ2 H4 fun z H5 => ∃ xs k, H5 D = some (MD w D xs) ∧ (∀ x ∈ xs, KeyV K H5 x.1 x.2.1) ∧ KeyV K H5 k y ∧ xs.length < sizeLine ∧ Nx (upd H5 D (MD w D (putM xs k y z))))
theorem md_empty {P : Program} {w : World} {H : Hp} (h : Heap) (hb : sysModules < h.objs.size) : ObjOk P w H (h.push { cls := .type "dict", data := .dict #[] }) h.objs.size (MD w h.objs.size []) :=
  MDat.ok ⟨Nat.zero_le _, beq_eq_false_iff_ne.mpr (Nat.ne_of_gt hb), List.nodup_nil, _, #[], 0, Heap.get?_push_size _ rfl, ⟨rfl, rfl, rfl⟩, rfl, rfl, fun j hj => absurd hj (Nat.not_lt_zero j)⟩
theorem dcM_core {X : Cx} {pins : List (Addr × Obj)} {s : Shared} {σ : St} {H : Hp} {Q : VK} {kx vx tg iter : Expr} {scope : Scope} {own : List (Str × Nat)} {pos pos' : Pos} {wi : TI} {g : TG} {tk tv : TE} {use : Option (Value → Sem Unit)} {Qf : Value → Shared → Prop} (hu : X.A.units + 9 < cLine) (hc : X.calm = true) (hN : X.N.Nodup) (I : Inv X pins σ H s) (hi : PI X tg iter wi) (ok : BlkOk X.N X.env.scope scope own)
    (hg : ∀ (s : Shared) (H : Hp) (C : Addr) (cl : List (Str × Addr)) (fp : List Addr), PG (X.blk s H scope (compEnvC scope cl C X.env) fp) tg g)
    (hk : ∀ (s : Shared) (H : Hp) (C : Addr) (cl : List (Str × Addr)) (fp : List Addr), PE (X.blk s H scope (compEnvC scope cl C X.env) fp) kx tk)
    (hv : ∀ (s : Shared) (H : Hp) (C : Addr) (cl : List (Str × Addr)) (fp : List Addr), PE (X.blk s H scope (compEnvC scope cl C X.env) fp) vx tv) (hs : ∀ x, foldedSetIterable iter X.env x = pure x)
    (h : tDcM X.K X.w wi g tk tv (own.map (·.2)) σ H Q)
    (hRR : ∀ D C s' m H', Inv X pins σ H' s' → Q (.ref D) H' → s'.heap.Ns C m → FpOk X pins H' C → compPost (model X.prog X.w) X.A X.xe use Qf (.ref D) C (.ok .next) s') :
    wpAny (model X.prog X.w) X.A (comprehension (.DictComp kx vx [⟨tg, iter, [], 0⟩] scope pos) scope X.env pos' newDict false (eval iter X.env) use) Qf X.xe s := by
  have frees : ∀ y ∈ scope.names, y.2 = .free → ∃ c, X.env.cells.lookup y.1 = some c := fun y hy e => (ok.free y hy e).elim (fun k => I.ok.has _ (.inl k)) fun k => I.ok.has _ (.inr k)
  refine wpAny_comprehension_free (use := use) rfl hs (closure_ok frees) ok.kind (fun y hy e => by rw [ok.uniq y hy, e]) (thn (hi.run pins s σ H _ I h) fun xv s1 hx => thn hx fun itv s2 hh => ?_)
  obtain ⟨it, fp, tn, J, H2, e, I2, T, st2, f2, q⟩ := hh
  subst e
  refine wpAny_newObj_type (newEnv_comp ?_)
  have hDn : H2 s2.heap.objs.size = none := I2.hok.fresh (Nat.le_refl _)
  have new : Inv X pins σ (upd H2 s2.heap.objs.size (MD X.w s2.heap.objs.size [])) { s2 with heap := s2.heap.push { cls := .type "dict", data := .dict #[] } } :=
    I2.laid (t' := s2.toks) (fun b o e => Heap.get?_push_of_some _ e) (Nat.le_refl _) (md_empty s2.heap I2.big)
  obtain ⟨W, ⟨m0, w0⟩, turn⟩ := q s2.heap.objs.size hDn
  have old : ∀ b ∈ fp, b < s2.heap.objs.size := fun b hb => let ⟨o, e, _⟩ := T.obj _ _ st2 b hb; Heap.lt_size e
  have f3 : ∀ b ∈ fp, FpOk X pins (upd H2 s2.heap.objs.size (MD X.w s2.heap.objs.size [])) b ∧ b < (s2.heap.push { cls := .type "dict", data := .dict #[] }).objs.size := fun b hb =>
    ⟨⟨by rw [upd_ne (Nat.ne_of_lt (old b hb))]; exact (f2 b hb).1, (f2 b hb).2⟩, by rw [Heap.size_push]; exact Nat.lt_succ_of_lt (old b hb)⟩
  have st3 : tn 0 (s2.heap.push { cls := .type "dict", data := .dict #[] }) := T.keep _ _ _ st2 fun b _ o e => Heap.get?_push_of_some _ e
  generalize eD : s2.heap.objs.size = D at *
  generalize e3 : ({ s2 with heap := s2.heap.push { cls := .type "dict", data := .dict #[] } } : Shared) = s3 at *
  have h3 : s3.heap = s2.heap.push { cls := .type "dict", data := .dict #[] } := by rw [← e3]
  rw [← h3] at f3 st3
  have B := block_start new ok hN f3
  have pg := hg s3 (upd H2 D (MD X.w D [])) s3.heap.objs.size (cellsFrom (s3.heap.objs.size + 1) scope.names (cloFrom X.env.cells scope.names [])) fp
  have pk := hk s3 (upd H2 D (MD X.w D [])) s3.heap.objs.size (cellsFrom (s3.heap.objs.size + 1) scope.names (cloFrom X.env.cells scope.names [])) fp
  have pw := hv s3 (upd H2 D (MD X.w D [])) s3.heap.objs.size (cellsFrom (s3.heap.objs.size + 1) scope.names (cloFrom X.env.cells scope.names [])) fp
  change codeAny _ _ (.compStart (.DictComp kx vx [⟨tg, iter, [], 0⟩] scope pos) 0 (.ref it) (.ref D) (compEnvC scope (cellsFrom (s3.heap.objs.size + 1) scope.names (cloFrom X.env.cells scope.names [])) s3.heap.objs.size X.env))
    (compPost (model X.prog X.w) X.A X.xe use Qf (.ref D) s3.heap.objs.size) { s3 with heap := pushCells (s3.heap.push { cls := .type "dict", data := .dict #[] }) scope.names }
  generalize ec : compEnvC scope (cellsFrom (s3.heap.objs.size + 1) scope.names (cloFrom X.env.cells scope.names [])) s3.heap.objs.size X.env = ce at B pg pk pw ⊢
  have el : ce.locals = s3.heap.objs.size := by rw [← ec]; rfl
  generalize eH : upd H2 D (MD X.w D []) = H3 at new B pg pk pw w0 f3
  have nfp : ∀ b ∈ fp, H3 b = none := fun b hb => (f3 b hb).1.1
  generalize es4 : ({ s3 with heap := pushCells (s3.heap.push { cls := .type "dict", data := .dict #[] }) scope.names } : Shared) = s4 at B ⊢
  have st4 : tn 0 s4.heap := T.keep _ _ _ st3 fun b _ o e => by rw [← es4]; exact pushCells_keeps _ _ _ _ (Heap.get?_push_of_some _ e)
  have stat : ∀ {τ : St} {G : Hp} {r : Shared}, Inv (X.blk s3 H3 scope ce fp) [] τ G r → (∀ b ∈ fp, G b = none) → ∀ b ∈ fp, FpOk (X.blk s3 H3 scope ce fp) [] G b := fun {τ G r} J' hn b hb =>
    ⟨hn b hb, (J'.ok.exf b hb).1, J'.ok.exfs b hb, .inl hb, fun x c e => (J'.ok.exf b hb).2 x c e, fun p hp => absurd (show p ∈ ([] : List (Addr × Obj)) ++ [] from hp) (by simp)⟩
  have loop : codeAny (model X.prog X.w) X.A (.compLoop (.DictComp kx vx [⟨tg, iter, [], 0⟩] scope pos) 0 (.ref it) (.ref D) ce) (compPost (model X.prog X.w) X.A X.xe use Qf (.ref D) s3.heap.objs.size) s4 := by
    refine compLoop_anyD (fun n r => ∃ i G, Inv (X.blk s3 H3 scope ce fp) [] (wipe σ (own.map (·.2))) G r ∧ tn i r.heap ∧ (∀ b ∈ fp, G b = none) ∧ W i n G) ?_ m0 ⟨0, H3, B, st4, nfp, w0⟩
    rintro n s5 ⟨i, H5, I5, st5, n5, w5⟩
    rcases turn i n H5 w5 with ⟨halt, qq⟩ | ⟨go, Nx, hNx, step⟩
    · refine thnF (T.done (X.blk s3 H3 scope ce fp) rfl rfl rfl hc i [] s5 _ H5 (fun _ _ => False) I5 (stat I5 n5) st5 halt) fun r s6 ⟨hr, I6⟩ => ?_
      subst hr
      have I7 : Inv X pins σ H5 s6 := new.call' (ch := fp) I6.os I6.base I6.hok I6.bare fun b hb => ⟨(f3 b hb).1.2.2.2.1, (f3 b hb).1.2.1, (f3 b hb).1.2.2.2.2.1, (f3 b hb).1.2.2.2.2.2⟩
      have z : H5 ce.locals = none := I6.free
      obtain ⟨m, hn, _⟩ := I6.loc
      replace hn : s6.heap.Ns ce.locals m := hn
      rw [el] at z hn
      exact hRR D s3.heap.objs.size s6 m H5 I7 qq hn (new.fpOk (Nat.le_refl _) z)
    · refine thnF (T.item (X.blk s3 H3 scope ce fp) rfl rfl rfl hc i [] s5 _ H5 (fun _ _ => False) I5 (stat I5 n5) st5 go) fun r s6 ⟨u, hr, h6⟩ => ?_
      subst hr
      refine thnF h6 fun _ s7 got => ?_
      obtain ⟨x, H7, I7, r7, y7, st7, n7⟩ := got
      refine thnF (pg.run _ s7 _ H7 x u _ (I7.pinned (stat I7 n7) (T.obj _ _ st7)) r7 (step x H7 y7)) fun _ s8 ⟨σ8, H8, I8, hw8, q8⟩ => ?_
      refine wpAny_pure ?_
      simp only [if_true]
      refine thnF (pk.run _ s8 σ8 H8 _ I8 q8) fun kz s10 ⟨yk, H10, I10, r10, q10⟩ => ?_
      refine thnF (pw.run _ s10 σ8 H10 _ I10 q10) fun vz s11 ⟨yv, H11, I11, r11, ys, k, hD11, hks, hkey, hl, nx⟩ => ?_
      have I11' : Inv (X.blk s3 H3 scope ce fp) ([] ++ pinsAt fp s7.heap) σ8 H11 s11 := I11
      have tab : TabAt X.K X.w H11 D ys := ⟨.inl hD11, hks⟩
      obtain ⟨z1, sm, o1, es, ep, ho, hcx, hd, ee, T1⟩ := tab.get (X := X.blk s3 H3 scope ce fp) I11
      obtain ⟨nk, dk⟩ := hkey.is (X := X.blk s3 H3 scope ce fp) I11 r10
      refine dSet (by omega) T1 nk dk ho hcx hd (by rw [ee.1]; exact z1) fun h' tk' o' ep' sb e1 e2 e3' => ?_
      have I12 := md_put (X := X.blk s3 H3 scope ce fp) hD11 I11 hl ee r10 r11 sb e1 e2 e3' tk'
      obtain ⟨m', hm, w'⟩ := hNx _ nx
      have pin' : ∀ b ∈ fp, ∀ o, s7.heap.get? b = some o → h'.get? b = some o ∧ (upd H11 D (MD X.w D (putM ys k yk yv))) b = none := fun b hb o e =>
        let z := I12.pin (b, o) (List.mem_append_right _ (List.mem_append_right _ (mem_pinsAt hb e)))
        ⟨z.1, z.2.1⟩
      refine ⟨m', hm, i + 1, _, (I12.unpinned (pins := [])).weak (by rw [← hw8, wipe_length]) (fun j v e => ?_), T.keep _ _ _ st7 fun b hb o e => (pin' b hb o e).1, fun b hb => ?_, w'⟩
      · rw [← hw8] at e
        exact (wipe_some e).1
      · obtain ⟨o, e, _⟩ := T.obj _ _ st7 b hb
        exact (pin' b hb o e).2
  refine codeAny_compStart_dict loop ?_
  exact T.self X.A 0 _ _ _ st4 loop
theorem pe_dcM {X : Cx} {kx vx tg iter : Expr} {scope : Scope} {own : List (Str × Nat)} {pos : Pos} {wi : TI} {g : TG} {tk tv : TE} (hu : X.A.units + 9 < cLine) (hc : X.calm = true) (hN : X.N.Nodup) (hi : PI X tg iter wi) (ok : BlkOk X.N X.env.scope scope own)
    (hg : ∀ (s : Shared) (H : Hp) (C : Addr) (cl : List (Str × Addr)) (fp : List Addr), PG (X.blk s H scope (compEnvC scope cl C X.env) fp) tg g)
    (hk : ∀ (s : Shared) (H : Hp) (C : Addr) (cl : List (Str × Addr)) (fp : List Addr), PE (X.blk s H scope (compEnvC scope cl C X.env) fp) kx tk)
    (hv : ∀ (s : Shared) (H : Hp) (C : Addr) (cl : List (Str × Addr)) (fp : List Addr), PE (X.blk s H scope (compEnvC scope cl C X.env) fp) vx tv) (hs : ∀ x, foldedSetIterable iter X.env x = pure x := by intro _; rfl) :
    PE X (.DictComp kx vx [⟨tg, iter, [], 0⟩] scope pos) (tDcM X.K X.w wi g tk tv (own.map (·.2))) := by
  refine ⟨fun pins s σ H Q I h => ?_⟩
  rw [arm_eval_DictComp]
  refine dcM_core hu hc hN I hi ok hg hk hv hs h fun D C s' m H' I' q hn f => ⟨m, hn, fun h2 sb => ?_⟩
  obtain ⟨a0, a1, a2, a3, a4, a5⟩ := f
  exact ⟨.ref D, H', I'.turned (t' := s'.toks) (fun b o hb e => (sb.2 b hb).trans e) a0 a1 a3 a4 a5, rfl, q⟩
/-- name = {..} on one line, the name a local -/
theorem ps_setDcM {X : Cx} {i : Nat} {y : Str} {py : Pos} {kx vx tg iter : Expr} {scope : Scope} {own : List (Str × Nat)} {pos spos : Pos} {wi : TI} {g : TG} {tk tv : TE} (hu : X.A.units + 9 < cLine) (hc : X.calm = true) (hN : X.N.Nodup) (hy : X.N[i]? = some y) (hyl : X.env.scope.names.lookup y = some .local)
    (hsw : swapsWith (.DictComp kx vx [⟨tg, iter, [], 0⟩] scope pos) (some (.Name y py)) spos.line X.env = pure true) (hi : PI X tg iter wi) (ok : BlkOk X.N X.env.scope scope own)
    (hg : ∀ (s : Shared) (H : Hp) (C : Addr) (cl : List (Str × Addr)) (fp : List Addr), PG (X.blk s H scope (compEnvC scope cl C X.env) fp) tg g)
    (hk : ∀ (s : Shared) (H : Hp) (C : Addr) (cl : List (Str × Addr)) (fp : List Addr), PE (X.blk s H scope (compEnvC scope cl C X.env) fp) kx tk)
    (hv : ∀ (s : Shared) (H : Hp) (C : Addr) (cl : List (Str × Addr)) (fp : List Addr), PE (X.blk s H scope (compEnvC scope cl C X.env) fp) vx tv) (hs : ∀ x, foldedSetIterable iter X.env x = pure x := by intro _; rfl) :
    PS X (.Assign [.Name y py] (.DictComp kx vx [⟨tg, iter, [], 0⟩] scope pos) spos) (tAsg (tDcM X.K X.w wi g tk tv (own.map (·.2))) (gName i)) := by
  refine ⟨fun pins s σ H D I h => ?_⟩
  rw [exec_Assign_Name_used _ _ _ _ hsw]
  refine wpAny_bind (wpAny_standAt ?_)
  refine wpAny_bind ?_
  change wpAny _ X.A (do let _ ← comprehension (.DictComp kx vx [⟨tg, iter, [], 0⟩] scope pos) scope X.env (firstIterPos [⟨tg, iter, [], 0⟩] pos) newDict false (eval iter X.env) (some (assign (.Name y py) X.env))) _ _ s
  have h : tDcM X.K X.w wi g tk tv (own.map (·.2)) σ H (fun x H1 => gName i x σ H1 D.nx) := h
  refine wpAny_bind (thn (dcM_core (Qf := fun _ s' => SP X pins D .next s') hu hc hN I hi ok hg hk hv hs h fun L C s' m H' I' q hn f => ?_) fun _ s' hq => wpAny_pure (wpAny_pure hq))
  change wpAny _ _ (assign (.Name y py) X.env (.ref L)) _ _ _
  obtain ⟨c0, c1, c2, c3, c4, c5⟩ := f
  refine wpAny_assign_Name (store_ok2 I' hN hy (v := .ref L) (.inl hyl) rfl (fun s2 J ⟨at_, same, whose⟩ => ?_) (.inr hyl))
  have apart : C ≠ at_ := whose.elim (fun z => z ▸ c1) fun z e => c4 y at_ z e.symm
  exact ⟨m, hn.sameBut same apart, fun h3 sb => ⟨_, H', J.turned (t' := s2.toks) (fun b o nb g => (sb.2 b nb).trans g) c0 c1 c3 c4 c5, q⟩⟩
theorem sw_trueD {kx vx : Expr} {gs : List Comprehension} {scope : Scope} {pos py : Pos} {y : Str} {l : Nat} {env : Env} (hk : env.scope.kind = .function) (hy : env.scope.names.lookup y = some .local) (hl : (py.line == pos.line) = true)
    (ha : (scope.names.any fun (n, k) => n == y && (k == .local || k == .cell)) = false) : swapsWith (.DictComp kx vx gs scope pos) (some (.Name y py)) l env = pure true := by
  have block : env.blockKind = .function := by simp only [Env.blockKind, hk]; rfl
  have kind : env.kindOf y = some .local := hy
  simp only [swapsWith, block, kind, ha, Expr.pos, hl]
  rfl
end Fc
namespace Fc
open PySem L2 PyProof.Rows
theorem mem_putM {xs : List Ent} {k : NK} {kv v : V} {x : Ent} (h : x ∈ putM xs k kv v) : (x.1 = k ∧ x.2.1 = kv) ∨ ∃ y ∈ xs, x.1 = y.1 ∧ x.2.1 = y.2.1 := by
  unfold putM at h
  cases e : posM xs k with
  | none =>
    rw [e] at h
    rcases List.mem_append.mp h with h | h
    · exact .inr ⟨x, h, rfl, rfl⟩
    · rw [List.mem_singleton] at h
      subst h
      exact .inl ⟨rfl, rfl⟩
  | some i =>
    rw [e] at h
    obtain ⟨j, hj⟩ := List.mem_iff_getElem?.mp (show x ∈ xs.modify i _ from h)
    rw [List.getElem?_modify] at hj
    cases q : xs[j]? with
    | none => rw [q] at hj; cases hj
    | some y =>
      rw [q] at hj
      replace hj : (if i = j then (y.1, y.2.1, v) else y) = x := Option.some.inj hj
      refine .inr ⟨y, List.mem_of_getElem? q, ?_⟩
      by_cases w : i = j
      · rw [if_pos w] at hj; subst hj; exact ⟨rfl, rfl⟩
      · rw [if_neg w] at hj; subst hj; exact ⟨rfl, rfl⟩
theorem keysV_putM {K : PySem.W.Frag} {H : Hp} {xs : List Ent} {k : NK} {kv v : V} (h : ∀ x ∈ xs, KeyV K H x.1 x.2.1) (hk : KeyV K H k kv) : ∀ x ∈ putM xs k kv v, KeyV K H x.1 x.2.1 := by
  intro x hx
  rcases mem_putM hx with ⟨a, b⟩ | ⟨y, hy, a, b⟩
  · rw [a, b]; exact hk
  · rw [a, b]; exact h y hy
def mergeM (acc more : List Ent) : List Ent := more.foldl (fun a x => putM a x.1 x.2.1 x.2.2) acc
theorem keysV_mergeM {K : PySem.W.Frag} {H : Hp} : ∀ {more xs : List Ent}, (∀ x ∈ xs, KeyV K H x.1 x.2.1) → (∀ x ∈ more, KeyV K H x.1 x.2.1) → ∀ x ∈ mergeM xs more, KeyV K H x.1 x.2.1
  | [], _, h, _ => h
  | y :: more, _, h, h2 => keysV_mergeM (more := more) (keysV_putM h (h2 y List.mem_cons_self)) fun x hx => h2 x (List.mem_cons_of_mem _ hx)
/-- the keys, in the heap -/
def KeysH (h : Heap) (xs : List Ent) : Prop := ∀ x ∈ xs, ∀ u, RelV x.2.1 u → NestedIs h x.1 u ∧ x.1.depth ≤ 8
theorem KeysH.at {h h' : Heap} {xs : List Ent} (k : KeysH h xs) (t : ∀ a o vs n, h.get? a = some o → o.data = .seq vs n → h'.get? a = some o) : KeysH h' xs := fun x hx u r => ⟨NestedIs.at t _ _ (k x hx u r).1, (k x hx u r).2⟩
theorem KeysH.put {h : Heap} {xs : List Ent} {k : NK} {kv v : V} (q : KeysH h xs) (hk : ∀ u, RelV kv u → NestedIs h k u ∧ k.depth ≤ 8) : KeysH h (putM xs k kv v) := by
  intro x hx u r
  rcases mem_putM hx with ⟨a, b⟩ | ⟨y, hy, a, b⟩
  · rw [a]; rw [b] at r; exact hk u r
  · rw [a]; rw [b] at r; exact q y hy u r
theorem Ents.tab {w : World} {h : Heap} {xs : List Ent} {es : Array DictEntry} (ee : Ents w xs es) (nd : (keys xs).Nodup) (k : KeysH h xs) : Tab w h (keys xs) es := by
  refine ⟨by rw [ee.1, List.length_map], fun j hj => ?_, nd⟩
  have hx : j < xs.length := by rw [← ee.1]; exact hj
  obtain ⟨e1, e2, _⟩ := ee.2 j hj xs[j] (List.getElem?_eq_getElem hx)
  obtain ⟨n, d⟩ := k xs[j] (List.getElem_mem hx) _ e2
  exact ⟨xs[j].1, by rw [List.getElem?_map, List.getElem?_eq_getElem hx]; rfl, e1, n, d⟩
section
variable {P : Program} {w : World} {A : Around} {E : Value → Shared → Prop}
/-- the pairs of a list go into a table, one by one -/
theorem updM {R : Result → Shared → Prop} {S J l : Addr} {items : Array Value} {res : Value} (hu : A.units + 9 < cLine) (hh : A.handled = none) (hlJ : l ≠ J) (hSJ : S ≠ J) (hSl : S ≠ l) :
    ∀ (rest : List Ent) (i : Nat) (acc : List Ent) (ix : Int) (t : Tok) (s : Shared), items.size = i + rest.length → acc.length + rest.length ≤ sizeLine →
      (∀ (j : Nat) (x : Ent), rest[j]? = some x → ∃ (b : Addr) (u r : Value), items[i + j]? = some (.ref b) ∧ b ≠ S ∧ b ≠ J ∧ IsTup s.heap b #[u, r] ∧ RelV x.2.1 u ∧ RelV x.2.2 r) →
      KeysH s.heap acc → KeysH s.heap rest → s.heap.IsListIter J l i → s.heap.IsList l items → MDat w S acc s.heap →
      (∀ h' tk, MDat w S (mergeM acc rest) h' → (∀ b o, b ≠ S → b ≠ J → s.heap.get? b = some o → h'.get? b = some o) → R (.ok (.ret res)) { s with heap := h', toks := tk }) →
      codeAny (model P w) A (.builtin "dict.update.loop" ⟨[.ref S, .ref J, .int ix t, res], []⟩) R s
  | [], i, acc, ix, t, s, hsz, _, _, _, _, hit, hl, hm, hR => by
    refine codeAny_builtin ud_entry ?_
    rw [Around.under_plainId ud_plain _]
    change wpAny _ A.in1 (pyNext (.ref J) >>= _) _ _ s
    refine wpAny_bind (wpAny_pyNext_list_end (A := A.in1) hh hit hl (Array.getElem?_eq_none (Nat.le_of_eq hsz)) fun h' he => ?_)
    change wpAny _ A.in1 (Builtin.Dict.addKeywords S [] >>= _) _ _ _
    refine wpAny_bind (wpAny_pure (wpAny_pure ?_))
    obtain ⟨z1, z2, z3, o, es, ep, ho, r⟩ := hm
    exact hR h' s.toks ⟨z1, z2, z3, o, es, ep, he S o hSJ ho, r⟩ fun b o _ hb e => he b o hb e
  | x :: rest, i, acc, ix, t, s, hsz, hln, ht, hka, hkr, hit, hl, hm, hR => by
    obtain ⟨b, u, r, hb, hbS, hbJ, htup, r1, r2⟩ := ht 0 x rfl
    rw [List.length_cons] at hsz hln
    refine codeAny_builtin ud_entry ?_
    rw [Around.under_plainId ud_plain _]
    change wpAny _ A.in1 (pyNext (.ref J) >>= _) _ _ s
    have here : items[i]? = some (.ref b) := by simpa using hb
    refine wpAny_bind (wpAny_pyNext_list_item hit hl here fun h1 hit1 hs1 => ?_)
    have seq1 : ∀ a o vs n, s.heap.get? a = some o → o.data = .seq vs n → h1.get? a = some o := fun a o vs n e dt => hs1.extBut a o (by
      rintro rfl
      obtain ⟨o', e', _, d'⟩ := id hit
      rw [e] at e'
      cases e'
      rw [dt] at d'
      cases d') e
    have ht1 : IsTup h1 b #[u, r] := htup.extBut hs1.extBut hbJ
    obtain ⟨z1, z2, z3, oS, es, ep, hoS, cS, dS, ee⟩ := id hm
    have gS : h1.get? S = some oS := hs1.extBut S oS hSJ hoS
    have k1 : KeysH h1 acc := hka.at seq1
    have tyB : Shared.TypeIs { s with heap := h1 } (.ref b) "tuple" := ht1.typeIs
    obtain ⟨ob, gb, _, _, db⟩ := id ht1
    change wpAny _ A.in1 (holding [Value.ref b] _ >>= _) _ _ _
    refine wpAny_bind (wpAny_holding (wpAny_bind (wpAny_tryCatch ?_)))
    unfold Builtin.Dict.pairItems
    refine wpAny_bind (wpAny_typeOf tyB ?_)
    rw [if_pos (by decide)]
    refine wpAny_bind (wpAny_seqItems gb db (wpAny_pure ?_))
    change wpAny _ A.in1 (holding [u, r] (dictSet S u r)) _ _ _
    obtain ⟨nk, dk⟩ := hkr x List.mem_cons_self u r1
    refine wpAny_holding (dSet (s := { s with heap := h1 }) (by show A.units + 1 + 8 < cLine; omega) (ee.tab z3 k1) (NestedIs.at seq1 _ _ nk) dk gS cS dS (by rw [ee.1]; exact z1) fun h2 tk2 o2 ep2 hs2 e1 e2 e3 => ?_)
    replace hs2 : Heap.SameBut S h1 h2 := hs2
    have seq2 : ∀ a o vs n, h1.get? a = some o → o.data = .seq vs n → h2.get? a = some o := fun a o vs n e dt => hs2.extBut a o (by
      rintro rfl
      rw [gS] at e
      cases e
      rw [dt] at dS
      cases dS) e
    have seq12 : ∀ a o vs n, s.heap.get? a = some o → o.data = .seq vs n → h2.get? a = some o := fun a o vs n e dt => seq2 a o vs n (seq1 a o vs n e dt) dt
    have len := len_putM acc x.1 x.2.1 x.2.2
    refine wpAny_pure ⟨plainId_quiet ud_plain _, updM (items := items) hu hh hlJ hSJ hSl rest (i + 1) (putM acc x.1 x.2.1 x.2.2) (ix + 1) 0 _ (by omega) (by omega) (fun j y e => ?_) ?_ (KeysH.at (xs := rest) (fun y hy => hkr y (List.mem_cons_of_mem _ hy)) seq12) ?_ ?_ ?_ fun h' tk hd' k => ?_⟩
    · obtain ⟨b', u', r', q1, q2, q3, q4, q5, q6⟩ := ht (j + 1) y (by simpa using e)
      exact ⟨b', u', r', by rw [show i + 1 + j = i + (j + 1) by omega]; exact q1, q2, q3, (q4.extBut hs1.extBut q3).extBut hs2.extBut q2, q5, q6⟩
    · refine (hka.at seq12).put fun u' ru => ?_
      obtain ⟨a, b⟩ := hkr x List.mem_cons_self u' ru
      exact ⟨NestedIs.at seq12 _ _ a, b⟩
    · exact hit1.at fun o' e => hs2.extBut J o' (Ne.symm hSJ) e
    · exact (hl.extBut hs1.extBut hlJ).extBut hs2.extBut (Ne.symm hSl)
    · exact ⟨by omega, z2, nd_putM acc x.1 x.2.1 x.2.2 z3, o2, _, ep2, e1, e2, e3, ee.put x.1 r1 r2⟩
    · refine hR h' tk hd' fun c oc nS nJ e => k c oc nS nJ ?_
      exact hs2.extBut c oc nS (hs1.extBut c oc nJ e)
/-- dict(l), l a list of pairs -/
theorem dictPairs {s : Shared} {l : Addr} {ol : Obj} {items : Array Value} {n : Nat} {prs : List Ent} {Q : Value → Shared → Prop} (hu : A.units + 10 < cLine) (hh : A.handled = none) (hl : s.heap.get? l = some ol) (hc : ol.cls = .type "list") (hd : ol.dict = none)
    (hdat : ol.data = .seq items n) (hsz : items.size = prs.length) (hln : prs.length ≤ sizeLine) (hk : KeysH s.heap prs) (hb : sysModules < s.heap.objs.size)
    (ht : ∀ (j : Nat) (x : Ent), prs[j]? = some x → ∃ (b : Addr) (u r : Value), items[j]? = some (.ref b) ∧ IsTup s.heap b #[u, r] ∧ RelV x.2.1 u ∧ RelV x.2.2 r)
    (h : ∀ h' tk, MDat w s.heap.objs.size (mergeM [] prs) h' → (∀ b o, s.heap.get? b = some o → h'.get? b = some o) → Q (.ref s.heap.objs.size) { s with heap := h', toks := tk }) :
    wpAny (model P w) A (call (.type "dict") [.ref l]) Q E s := by
  refine callType_codes (Q₁ := fun v s₁ => v = .ref s.heap.objs.size ∧ s₁ = { s with heap := s.heap.push { cls := .type "dict", data := .dict #[] } }) PySem.F.kt_called_dict (PySem.F.kt_typeCall_dict_1 _) PySem.F.entry_dict_init (kt_code_dict_new _ ⟨rfl, rfl⟩) ?_
  rintro v s₁ ⟨e1, e2⟩
  subst e1 e2
  have gD : (s.heap.push { cls := .type "dict", data := .dict #[] }).get? s.heap.objs.size = some { cls := .type "dict", data := .dict #[] } := Heap.get?_push_size _ rfl
  have k0 : ∀ {b : Addr} {o : Obj}, s.heap.get? b = some o → (s.heap.push { cls := .type "dict", data := .dict #[] }).get? b = some o := fun e => Heap.get?_push_of_some _ e
  refine ⟨⟨_, gD, rfl⟩, PySem.F.args_dict_init_2 _ _, ?_⟩
  unfold Builtin.«dict.__init__»
  refine wpAny_bind ?_
  unfold Builtin.Dict.selfAndRest
  refine wpAny_bind (wpAny_notOrdered_dict ⟨_, gD, rfl⟩ (wpAny_pure ?_))
  change wpAny _ _ (Builtin.Dict.updateFrom "dict.__init__" s.heap.objs.size (.ref l) [] .none) _ _ _
  unfold Builtin.Dict.updateFrom
  have gl := k0 hl
  refine wpAny_bind (wpAny_typeOf (v := .ref l) (T := "list") ⟨ol, gl, hc⟩ ?_)
  rw [if_pos (by decide)]
  refine wpAny_bind (miss_list gl hc hdat hd hh fun h1 tk1 hk1 => ?_)
  have plain : (none : Option Value).isNone = true := rfl
  rw [if_pos plain]
  refine wpAny_bind (wpAny_rule ?_)
  have hl1 : h1.IsList l items := ⟨ol, hk1 l ol gl, hc, n, hdat⟩
  have gS : h1.get? s.heap.objs.size = some { cls := .type "dict", data := .dict #[] } := hk1 _ _ gD
  have lt1 : s.heap.objs.size < h1.objs.size := Heap.lt_size gS
  refine wpAny_bind (wpAny_pyIter_list hl1 ?_)
  generalize eh2 : h1.push { cls := .type "list_iterator", data := .fields #[.ref l, .int 0 0] } = h2
  have k2 : ∀ b o, h1.get? b = some o → h2.get? b = some o := fun b o e => by rw [← eh2]; exact Heap.get?_push_of_some _ e
  have k3 : ∀ b o, s.heap.get? b = some o → h2.get? b = some o := fun b o e => k2 _ _ (hk1 _ _ (k0 e))
  have lt : l < s.heap.objs.size := Heap.lt_size hl
  have fin := updM (P := P) (w := w) (A := A.in1) (R := wants (fun r s₂ => r = .none ∧ Q (.ref s.heap.objs.size) s₂) E) (S := s.heap.objs.size) (J := h1.objs.size) (l := l) (items := items) (res := Value.none) (by show A.units + 1 + 9 < cLine; omega) hh
    (Nat.ne_of_lt (Nat.lt_trans lt lt1)) (Nat.ne_of_lt lt1) (Nat.ne_of_gt lt) prs 0 [] 0 0 { s with heap := h2, toks := tk1 } (by rw [hsz, Nat.zero_add]) (by rw [List.length_nil, Nat.zero_add]; exact hln)
    (fun j x e => by
      obtain ⟨b, u, r, q1, q2, q3, q4⟩ := ht j x e
      exact ⟨b, u, r, by rw [Nat.zero_add]; exact q1, Nat.ne_of_lt q2.lt, Nat.ne_of_lt (Nat.lt_trans q2.lt lt1), q2.keeps fun c o z => k3 _ _ z, q3, q4⟩)
    (fun x hx => nomatch hx) (hk.at fun a o vs n e _ => k3 a o e) ⟨_, by rw [← eh2]; exact Heap.get?_push_size _ rfl, rfl, rfl⟩ (hl1.at fun o e => k2 _ _ e)
    ⟨Nat.zero_le _, beq_eq_false_iff_ne.mpr (Nat.ne_of_gt hb), List.nodup_nil, _, #[], 0, k2 _ _ gS, ⟨rfl, rfl, rfl⟩, rfl, rfl, fun j hj => absurd hj (Nat.not_lt_zero j)⟩
    (fun h' tk hd' k => ⟨rfl, h h' tk hd' fun b o e => k b o (Nat.ne_of_lt (Heap.lt_size e)) (Nat.ne_of_lt (Nat.lt_trans (Heap.lt_size e) lt1)) (k3 _ _ e)⟩)
  first
    | exact wpAny_pure ⟨plainId_quiet ud_plain _, fin⟩
    | exact wpAny_bind (wpAny_pure (wpAny_pure ⟨plainId_quiet ud_plain _, fin⟩))
end
section
variable {X : Cx}
/-- a pair of a list of pairs -/
def PairV (K : PySem.W.Frag) (H : Hp) (y : V) (x : Ent) : Prop := ∃ p, y = .ref p ∧ SqT K H p [x.2.1, x.2.2] ∧ KeyV K H x.1 x.2.1
theorem call_dictM (hu : X.A.units + 10 < cLine) (hcalm : X.calm = true) : CallR X (.type "dict") (fun xs H Q => ∃ (a : Addr) (ys : List V) (es : List Ent), xs = [.ref a] ∧ SqL X.K H a ys ∧ Paired (PairV X.K H) ys es ∧
    ∀ p, H p = none → Q (.ref p) (upd H p (MD X.w p (mergeM [] es)))) := by
  intro pins s σ H xs us Q I r ⟨a, ys, es, ex, hq, hp, q⟩
  subst ex
  obtain ⟨u, eu, rx⟩ := vals1 r
  subst eu
  obtain rfl : u = Value.ref a := rx
  obtain ⟨its, rv, ⟨o, n, ho, hc, hd, hdat⟩, hz⟩ := I.list hq
  have hl : ys.length = es.length := Paired.length hp
  have hkv : ∀ x ∈ es, KeyV X.K H x.1 x.2.1 := by
    clear rv hz hl q hdat hq
    induction hp with
    | nil => intro x hx; cases hx
    | cons h _ ih =>
      intro x hx
      rcases List.mem_cons.mp hx with e | hx
      · subst e; obtain ⟨_, _, _, z⟩ := h; exact z
      · exact ih x hx
  refine dictPairs (prs := es) hu (I.ok.hd hcalm) ho hc hd hdat (by rw [← hl, rv.length]; simp) (by rw [← hl]; exact hz) (fun x hx u ru => (hkv x hx).is I ru) I.big (fun j x e => ?_) fun h' tk md k => ?_
  · have hj : j < ys.length := by rw [hl]; exact (List.getElem?_eq_some_iff.mp e).1
    obtain ⟨x', e', p, ey, ht, _⟩ := paired_get hp (List.getElem?_eq_getElem hj)
    rw [e] at e'
    cases e'
    obtain ⟨uy, hy, ry⟩ := rv.get (List.getElem?_eq_getElem hj)
    rw [ey] at ry
    obtain rfl : uy = Value.ref p := ry
    obtain ⟨t2, rt, it, _⟩ := I.tuple ht
    obtain ⟨u1, u2, et, q1, q2⟩ := vals2 rt
    subst et
    exact ⟨p, u1, u2, by rw [List.getElem?_toArray]; exact hy, it, q1, q2⟩
  · exact ⟨.ref s.heap.objs.size, _, I.laid (t' := tk) k (Nat.le_refl _) md.ok, rfl, q _ (I.hok.fresh (Nat.le_refl _))⟩
/-! ### {} and written tables -/
def tDNewM (w : World) : TE := fun _ H Q => ∀ p, H p = none → Q (.ref p) (upd H p (MD w p []))
theorem pe_dnewM {pos : Pos} : PE X (.Dict [] [] pos) (tDNewM X.w) := ⟨fun pins s σ H Q I h =>
  wpAny_Dict_empty ⟨.ref s.heap.objs.size, _, I.laid (a := s.heap.objs.size) (o := MD X.w s.heap.objs.size []) (t' := s.toks) (fun _ _ q => Heap.get?_push_of_some _ q) (Nat.le_refl _) (md_empty s.heap I.big), rfl, h _ (I.hok.fresh (Nat.le_refl _))⟩⟩
def nkK : Key → NK
  | .inl i => .num i
  | .inr x => .text x
theorem nkK_inj {a b : Key} (h : nkK a = nkK b) : a = b := by
  cases a <;> cases b <;> cases h <;> rfl
def entK (kv : Key × V) : Ent := (nkK kv.1, kV kv.1, kv.2)
theorem hash_key {P : Program} {w : World} (k : Key) : (mixKind P w).hash k = (nkK k).hash w := by cases k <;> rfl
/-- a table of ints and texts, told as one of keys of all kinds -/
def tAsM (w : World) (te : TE) : TE := fun σ H Q => te σ H fun v H1 => ∃ p kvs, v = .ref p ∧ H1 p = some (.dK kvs) ∧ Q v (upd H1 p (MD w p (kvs.map entK)))
theorem pe_asM {e : Expr} {te : TE} (he : PE X e te) : PE X e (tAsM X.w te) := by
  refine ⟨fun pins s σ H Q I h => thn (he.run pins s σ H _ I h) fun u s1 ⟨v, H1, I1, rv, p, kvs, ev, hp, q⟩ => ?_⟩
  obtain ⟨z, sm, vs, kv, o, es, ep, ho, hc, hd, hk, hps, nd⟩ := (show ObjOk X.prog X.w H1 s1.heap p (.dK kvs) from I1.hok p _ hp)
  have ks : ∀ x ∈ es.toList, ∃ k, keyIs k x.key = true ∧ x.hash = (mixKind X.prog X.w).hash k := fun x hx => hk x (Array.mem_toList_iff.mp hx)
  have gen : ∀ (l : List DictEntry) (r : List (Key × Value)), Pairs (mixKind X.prog X.w) l r → (∀ x ∈ l, ∃ k, keyIs k x.key = true ∧ x.hash = (mixKind X.prog X.w).hash k) → ∀ (t : List (Key × V)), KV t r →
      l.length = t.length ∧ ∀ (j : Nat) (en : DictEntry) (x : Key × V), l[j]? = some en → t[j]? = some x → en.hash = (nkK x.1).hash X.w ∧ RelV (kV x.1) en.key ∧ RelV x.2 en.val := by
    intro l r hp
    induction hp with
    | nil => intro _ t ht; cases ht; exact ⟨rfl, fun j en x e => by simp at e⟩
    | @cons en kv l r h1 h2 _ ih =>
      intro hks t ht
      cases ht with
      | @cons x _ t _ hx ht =>
        obtain ⟨a, b⟩ := ih (fun y hy => hks y (List.mem_cons_of_mem _ hy)) t ht
        refine ⟨by rw [List.length_cons, List.length_cons, a], fun j en' x' e1 e2 => ?_⟩
        cases j with
        | zero =>
          cases e1
          cases e2
          obtain ⟨k, k1, k2⟩ := hks _ List.mem_cons_self
          have ek : k = kv.1 := (mixKind X.prog X.w).inj _ _ _ k1 h1
          refine ⟨?_, ?_, ?_⟩
          · rw [k2, ek, hx.1]; exact hash_key _
          · rw [hx.1]; exact relV_key h1
          · rw [h2]; exact hx.2
        | succ j => exact b j en' x' (by simpa using e1) (by simpa using e2)
  obtain ⟨len, at_⟩ := gen es.toList vs hps ks kvs kv
  have nd' : (keys (kvs.map entK)).Nodup := by
    have e : keys (kvs.map entK) = (kvs.map (·.1)).map nkK := by unfold keys; rw [List.map_map, List.map_map]; rfl
    rw [e, KV.keys kv]
    exact List.Pairwise.map nkK (fun a b ne e => ne (nkK_inj e)) nd
  have m : MDat X.w p (kvs.map entK) s1.heap := ⟨by rw [List.length_map]; exact z, sm, nd', o, es, ep, ho, hc, hd, by rw [List.length_map, ← len, Array.length_toList], fun j hj x e => by
    rw [List.getElem?_map] at e
    cases q : kvs[j]? with
    | none => rw [q] at e; cases e
    | some y =>
      rw [q] at e
      cases e
      have ej : es.toList[j]? = some es[j] := by rw [Array.getElem?_toList, Array.getElem?_eq_getElem hj]
      exact at_ j es[j] y ej q⟩
  refine ⟨v, _, I1.write (x := p) (e := p) (h' := s1.heap) (t' := s1.toks) (by rw [hp]; exact True.intro) (.inl rfl) (fun _ _ _ e => e) ⟨o, ho⟩ m.ok, rv, q⟩
end
end Fc
namespace Fc
open PySem L2 PyProof.Rows
/-- a def that is called where nothing is being shown (repr) -/
structure FnG (P : Program) (w : World) (K : PySem.W.Frag) (mg : Str → Option Value) (base : Heap) (k : Nat) (f : Addr) (fd : FuncData) (ps : List Str) (sp : Sp) : Prop where
  len : ∀ (vs : List V) (H : Hp) (Q : VK) (E : XK), sp vs H Q E → vs.length = ps.length
  run : ∀ (A : Around) (outer : List Env) (s : Shared) (H : Hp) (args : Args) (us : List Value) (vs : List V) (Q : VK) (E : XK), A.guards = some [] → Room k A → Env0 P w K mg base A outer s H → BindsTo s fd args (ps.zip us) → Vals vs us → sp vs H Q E →
    codeAny (model P w) A (.call (.ref f) args) (CR CX0 outer P w H s Q E) s
section
variable {K : PySem.W.Frag} {mg : Str → Option Value} {base : Heap} {P : Program} {w : World}
theorem okG {x qual : Str} {st : Stmt} {f : Addr} {fd : FuncData} {N ps : List Str} {k : Nat} {sp : Sp} (F : Fun K x qual st f fd) (S : FnScope N ps (defScope st)) (len : ∀ vs H Q E, sp vs H Q E → vs.length = ps.length)
    (body : ∀ (cdv : Value) (A : Around) (outer : List Env) (s : Shared) (H : Hp) (vs : List V) (Q : VK) (E : XK), A.guards = some [] → Room k (A.deeper (envOfC qual (defScope st) s.heap.objs.size f cdv)) → sp vs H Q E →
      ∃ t, PSs (cxOf CX0 P w K mg base N qual (defScope st) f cdv A outer s H E).nox (defBody st) t ∧ t { nx := fun _ H' => Q .non H', rt := Q } (start N vs) H) : FnG P w K mg base (k + 1) f fd ps sp := by
  obtain ⟨oc, od, kV, doc, pm, an, cdv, ct, osl, e, lk, hcd⟩ := F.ex
  subst e
  refine ⟨len, fun A outer s H args us vs Q E hgd hr e0 hb r hsp => ?_⟩
  have old : ∀ b o, base.get? b = some o → s.heap.get? b = some o := fun b o e => (e0.bs b o e).1
  have KX : K.In s.heap := e0.mod.kin.keeps old
  have par : ∀ y ∈ ps.zip us, (defScope st).names.lookup y.1 = some .local ∨ ((defScope st).names.lookup y.1 = some .cell ∧ ((cellsFrom (s.heap.objs.size + 1) (defScope st).names []).lookup y.1).isSome = true) := fun y hy =>
    (S.par y.1 (List.of_mem_zip (a := y.1) (b := y.2) hy).1).imp id fun q => ⟨q, PySem.W.cellsFrom_some _ _ _ (.inl q)⟩
  refine codeAny_call_function hr.depth (KX _ _ lk) rfl S.co S.gen rfl (PySem.W.codeRec_of KX hcd) (hb _ _ _ _ (wpAny_newFunctionEnv_cells S.kind par fun env he s1 z => ?_))
  subst he
  refine ⟨(e0.mod.nolimit.keeps old).keeps z.toInCall.keep, codeAny_func ?_⟩
  obtain ⟨t, ht, hq⟩ := body cdv A outer s H vs Q E hgd (hr.deeper _) hsp
  have I := inv_start (CX := CX0) (E := E) (cd := cdv) S hr.hd e0 (len _ _ _ _ hsp) r z
  refine wpAny_mono (ht.nox.run [] s1 (start N vs) H _ I hq) (fun fl s' hs => ?_) fun e s' hs => hs
  cases fl with
  | ret u => obtain ⟨v, σ', H', J, rv, q⟩ := hs; exact ⟨v, H', J.os, J.bare, J.base, J.hok, rv, q⟩
  | next => obtain ⟨σ', H', J, q⟩ := hs; exact ⟨.non, H', J.os, J.bare, J.base, J.hok, rfl, q⟩
  | brk => obtain ⟨_, _, _, q⟩ := hs; exact q.elim
  | cont => obtain ⟨_, _, _, q⟩ := hs; exact q.elim
end
section
variable {X : Cx} {f : Addr} {fd : FuncData} {ps : List Str} {sp : Sp} {k : Nat}
theorem pe_callG {x : Str} {p pos : Pos} {e : Expr} {es : List Expr} {t : TA} (F : FnG X.prog X.w X.K X.mg X.base k f fd ps sp) (hgd : X.A.guards = some []) (hr : Room k X.A) (hg : Gl X x) (hm : X.mg x = some (.ref f)) (hk : PySem.W.keepIn X.K (.ref f) = true) (hb : Binds X.K fd ps [])
    (ha : PA X (e :: es) t) (hdb : (x == ("__debug__" : Str)) = false := by decide) (st : starEach (e :: es) X.env = (false, eval e X.env) :: starEach es X.env := by rfl)
    (hpl : (backTo pos (starEach es X.env)).any (·.1) = false := by rfl) :
    PE X (.Call (.Name x p) (e :: es) [] pos) (tCall sp [] E0 t) := by
  refine ⟨fun pins s σ H Q I h => wpAny_Call_Name_kw (ld_glob I hg hm ?_ hdb)⟩
  have args := ha.run pos pins s σ H _ I h
  refine PySem.W.callWith_K (h₀ := X.base) I.ok.mod.kin hk (thn args fun us s1 ⟨vs, H1, I1, r, q⟩ => ⟨I1.kIn, ?_⟩) st hpl
  have q' : sp (vs ++ []) H1 Q E0 := q
  rw [List.append_nil] at q'
  have hl : us.length = ps.length := by rw [← r.length]; exact F.len _ _ _ _ q'
  have bd := hb s1 us I1.kIn (by rw [List.append_nil]; exact hl)
  rw [List.append_nil] at bd
  refine wpAny_call (codeAny_mono (F.run X.A X.stack s1 H1 ⟨us, []⟩ us vs Q E0 hgd hr I1.env0 bd r q') fun r s' hq => ?_)
  cases r with
  | error e => exact hq.elim
  | ok fl =>
    cases fl with
    | ret u => exact I1.after hq
    | next => exact hq.elim
    | brk => exact hq.elim
    | cont => exact hq.elim
end
/-! ### what is shown, and how long it is -/
mutual
/-- data without lists and dicts -/
def tupD : PyData → Bool
  | .none | .bool _ | .int _ | .str _ => true
  | .list _ | .dict _ => false
  | .tuple xs => tupDs xs
def tupDs : List PyData → Bool
  | [] => true
  | x :: xs => tupD x && tupDs xs
end
mutual
theorem reads_nil {h : Heap} : ∀ (d : PyData) (v : Value) (as : List Addr), Reads h v d as → tupD d = true → as = []
  | _, _, _, .none, _ => rfl
  | _, _, _, .bool _, _ => rfl
  | _, _, _, .int _ _, _ => rfl
  | _, _, _, .str _ _, _ => rfl
  | _, _, _, .list _ _ _ _, h => by simp [tupD] at h
  | _, _, _, .dict _ _ _ _ _, h => by simp [tupD] at h
  | .tuple ds, _, as, .tuple (vs := vs) _ _ _ r, h => readsAll_nil ds vs.toList as r (by simpa [tupD] using h)
theorem readsAll_nil {h : Heap} : ∀ (ds : List PyData) (vs : List Value) (as : List Addr), ReadsAll h vs ds as → tupDs ds = true → as = []
  | _, _, _, .nil, _ => rfl
  | d :: ds, _, _, .cons (v := v) (vs := vs) (as := as) (bs := bs) r t, h => by
    simp only [tupDs, Bool.and_eq_true] at h
    rw [reads_nil d v as r h.1, readsAll_nil ds vs bs t h.2]
    rfl
end
section
variable {X : Cx}
mutual
theorem Dp.noDict {K : PySem.W.Frag} {H : Hp} : ∀ (d : PyData) (v : V), Dp K H v d → d.hasDict = false
  | .none, _, _ => rfl
  | .bool _, _, _ => rfl
  | .int _, _, _ => rfl
  | .str _, _, _ => rfl
  | .list ds, _, h => by
    cases h with
    | lst _ a => simp only [PyData.hasDict]; exact DpAll.noDict ds _ a
  | .tuple ds, _, h => by
    cases h with
    | tup _ a => simp only [PyData.hasDict]; exact DpAll.noDict ds _ a
  | .dict _, _, h => by cases h
theorem DpAll.noDict {K : PySem.W.Frag} {H : Hp} : ∀ (ds : List PyData) (vs : List V), DpAll K H vs ds → PyData.hasDictAll ds = false
  | [], _, _ => rfl
  | d :: ds, _, h => by
    cases h with
    | cons a b => simp only [PyData.hasDictAll, Bool.or_eq_false_iff]; exact ⟨Dp.noDict d _ a, DpAll.noDict ds _ b⟩
end
/-- data, or a table of such -/
def DV (K : PySem.W.Frag) (w : World) (H : Hp) (v : V) (d : PyData) : Prop := Dp K H v d ∨ ∃ a xs kvs, v = .ref a ∧ TabAt K w H a xs ∧ d = .dict kvs ∧
  Paired (fun (x : Ent) (kv : PyData × PyData) => Dp K H x.2.1 kv.1 ∧ Dp K H x.2.2 kv.2 ∧ tupD kv.1 = true ∧ tupD kv.2 = true) xs kvs
/-- it can be shown, and what is shown is short -/
structure Shows (d : PyData) : Prop where
  show_ : d.showable = true
  leaves : d.leavesShort 2000 = true
  weight : d.weight ≤ 4000
  depth : d.depth ≤ 60
theorem Shows.fits {d : PyData} (h : Shows d) : d.shown.length ≤ sizeLine := by
  have q := PyData.shown_le 2000 (by decide) d h.leaves
  have w : (2000 + 2) * d.weight ≤ (2000 + 2) * 4000 := Nat.mul_le_mul (Nat.le_refl _) h.weight
  rw [sizeLine_eq]
  omega
theorem table_reads {pins : List (Addr × Obj)} {σ : L2.St} {H : Hp} {s : Shared} {a : Addr} {xs : List Ent} {kvs : List (PyData × PyData)} (I : Inv X pins σ H s) (t : TabAt X.K X.w H a xs)
    (p : Paired (fun (x : Ent) (kv : PyData × PyData) => Dp X.K H x.2.1 kv.1 ∧ Dp X.K H x.2.2 kv.2 ∧ tupD kv.1 = true ∧ tupD kv.2 = true) xs kvs) : Reads s.heap (.ref a) (.dict kvs) [a] ∧ a ≠ sysModules := by
  obtain ⟨z, sm, o, es, ep, ho, hc, hd, ee, _⟩ := t.get I
  have gen : ∀ (xs : List Ent) (kvs : List (PyData × PyData)) (l : List DictEntry), Paired (fun (x : Ent) (kv : PyData × PyData) => Dp X.K H x.2.1 kv.1 ∧ Dp X.K H x.2.2 kv.2 ∧ tupD kv.1 = true ∧ tupD kv.2 = true) xs kvs →
      l.length = xs.length → (∀ (j : Nat) (en : DictEntry) (x : Ent), l[j]? = some en → xs[j]? = some x → RelV x.2.1 en.key ∧ RelV x.2.2 en.val) → ReadsAll s.heap (l.map (·.key)) (kvs.map (·.1)) [] ∧ ReadsAll s.heap (l.map (·.val)) (kvs.map (·.2)) [] := by
    intro xs kvs l p
    induction p generalizing l with
    | nil => intro hl _; cases l with
      | nil => exact ⟨.nil, .nil⟩
      | cons _ _ => cases hl
    | cons h _ ih => intro hl r; cases l with
      | nil => cases hl
      | cons en l =>
        obtain ⟨r1, r2⟩ := r 0 en _ rfl rfl
        obtain ⟨q1, q2⟩ := ih l (by simpa using hl) fun j en x e1 e2 => r (j + 1) en x (by simpa using e1) (by simpa using e2)
        obtain ⟨as, ra⟩ := Dp.reads I _ _ _ h.1 r1
        obtain ⟨bs, rb⟩ := Dp.reads I _ _ _ h.2.1 r2
        obtain rfl := reads_nil _ _ _ ra h.2.2.1
        obtain rfl := reads_nil _ _ _ rb h.2.2.2
        exact ⟨.cons ra q1, .cons rb q2⟩
  obtain ⟨q1, q2⟩ := gen xs kvs es.toList p (by rw [Array.length_toList, ee.1]) fun j en x e1 e2 => by
    rw [Array.getElem?_toList] at e1
    obtain ⟨hj, e⟩ := Array.getElem?_eq_some_iff.mp e1
    obtain ⟨_, b, c⟩ := ee.2 j hj x e2
    rw [← e]
    exact ⟨b, c⟩
  exact ⟨Reads.dict ho hc.1 hd q1 q2, fun e => by rw [e] at sm; simp at sm⟩
/-- repr(v) -/
theorem call_reprD (hgd : X.A.guards = some []) (hu : X.A.units + 65 < cLine) : CallR X (.builtin "repr") (fun xs H Q => ∃ v d, xs = [v] ∧ DV X.K X.w H v d ∧ Shows d ∧ Q (.str d.shown) H) := by
  intro pins s σ H xs us Q I r ⟨v, d, ex, hd, S, q⟩
  subst ex
  obtain ⟨u, eu, rv⟩ := vals1 r
  subst eu
  have fin : ∀ {t : Tok} {s' : Shared}, Inv X pins σ H s' → EP X pins σ Q (.str d.shown t) s' := fun I' => ⟨.str d.shown, H, I', ⟨_, rfl⟩, q⟩
  have dep := S.depth
  rcases hd with hd | ⟨a, ys, kvs, ev, t, ed, p⟩
  · have nd := Dp.noDict d v hd
    obtain ⟨as, rd⟩ := Dp.reads I d v u hd rv
    cases hd with
    | non => cases (show u = Value.none from rv); exact P.repr_of_none (fin (I.tok _))
    | bl b => cases (show u = Value.bool b from rv); exact P.repr_of_bool (fin (I.tok _))
    | int i => obtain ⟨t, e⟩ := (show ∃ t, u = Value.int i t from rv); subst e; exact P.repr_of_int (by simpa [PyData.showable] using S.show_) (fin (I.tok _))
    | str x => obtain ⟨t, e⟩ := (show ∃ t, u = Value.str x t from rv); subst e; exact P.repr_of_str (fin (I.tok _)) S.fits
    | @lst a _ _ h1 h2 =>
      cases (show u = Value.ref a from rv)
      exact repr_of_reads' rd S.show_ (fun z => by rw [nd] at z; cases z) hgd (by omega) (fun _ _ e => e) (fun h' u tk k => fin (I.kept (t' := tk) k)) S.fits
    | @tup a _ _ h1 h2 =>
      cases (show u = Value.ref a from rv)
      exact repr_of_reads' rd S.show_ (fun z => by rw [nd] at z; cases z) hgd (by omega) (fun _ _ e => e) (fun h' u tk k => fin (I.kept (t' := tk) k)) S.fits
  · subst ev ed
    cases (show u = Value.ref a from rv)
    obtain ⟨rd, na⟩ := table_reads I t p
    exact repr_of_reads' rd S.show_ (fun _ z => na (List.mem_singleton.mp z).symm) hgd (by omega) (fun _ _ e => e) (fun h' u tk k => fin (I.kept (t' := tk) k)) S.fits
end
end Fc
namespace Fc
open PySem L2 PyProof.Rows
/-- the abstract heap at the law's beginning: the script alone, locked, or nothing -/
def startH (a : Addr) (vs : List Value) (ns : List Int) (t : Bool) : Hp := fun b => if b = a ∧ t = true then some (.frz { cls := .type "list", data := .seq vs.toArray } (.lst (ns.map V.int))) else none
theorem startH_some {a b : Addr} {vs : List Value} {ns : List Int} {t : Bool} {u : HO} (h : startH a vs ns t b = some u) : b = a ∧ t = true ∧ u = .frz { cls := .type "list", data := .seq vs.toArray } (.lst (ns.map V.int)) := by
  unfold startH at h
  by_cases c : b = a ∧ t = true
  · rw [if_pos c] at h; exact ⟨c.1, c.2, (Option.some.inj h).symm⟩
  · rw [if_neg c] at h; cases h
theorem lawG {P : Program} {w : World} {K : PySem.W.Frag} {mg mb : Str → Option Value} {k : Nat} {fa a : Addr} {fd : FuncData} {x : Str} {sp : Sp} {s₁ : Shared} {vs : List Value} {ns : List Int} (KX : K.In s₁.heap) (hns : s₁.heap.Ns mainGlobals mg) (hb : s₁.heap.Ns builtinsNs mb)
    (hbb : ∀ x : Str, x ≠ "__name__" → mb x = bootBuiltins x) (hlim : s₁.heap.NoLimit) (hg : s₁.gens = #[]) (ha : s₁.heap.get? a = some { cls := .type "list", data := .seq vs.toArray }) (hi : IntsAre vs ns) (hl : ns.length ≤ sizeLine) (hr : Room k callerA)
    (F : ∀ base : Heap, K.In base → base.Ns mainGlobals mg → FnG P w K mg base k fa fd [x] sp) (hbind : ∀ (s : Shared) (u : Value), BindsTo s fd ⟨[u], []⟩ [(x, u)])
    (hsp : ∀ H : Hp, Only H → SqL K H a (ns.map V.int) → sp [.ref a] H (fun v _ => v = .bl true) fun _ _ _ => False) :
    codeAny (model P w) callerA (.call (.ref fa) ⟨[.ref a], []⟩) (fun out z => out = .ok (.ret (.bool true)) ∧ OldK s₁.heap z.heap ∧ z.os = s₁.os ∧ AllBare z.gens) s₁ := by
  have rv := vals_of_ints hi
  -- whether the script is tracked: not if it is one of the module's own objects
  obtain ⟨t, ht⟩ : ∃ t : Bool, (t = true → K.lookup a = none) ∧ SqL K (startH a vs ns t) a (ns.map V.int) := by
    cases e : K.lookup a with
    | none => exact ⟨true, ⟨fun _ => rfl, .inl (.inr ⟨_, if_pos ⟨rfl, rfl⟩⟩)⟩⟩
    | some o =>
      have q := KX a o e
      rw [ha] at q
      cases q
      refine ⟨false, ⟨fun z => (nomatch z), .inr ⟨_, vs.toArray, _, e, rfl, rfl, rfl, ?_, by simpa using rv⟩⟩⟩
      have l := hi.length
      rw [List.size_toArray]
      omega
  obtain ⟨htr, hS⟩ := ht
  have hOnly : Only (startH a vs ns t) := fun b => by
    cases e : startH a vs ns t b with
    | none => exact .inl rfl
    | some u => obtain ⟨_, _, rfl⟩ := startH_some e; exact .inr ⟨_, _, rfl⟩
  have hok : HOk P w (startH a vs ns t) s₁.heap := fun b u e => by
    obtain ⟨rfl, _, rfl⟩ := startH_some e
    refine ⟨ha, ?_, vs, _, rv, ha⟩
    simpa using hl
  have keepB : ∀ {b : Addr} {o : Obj}, s₁.heap.get? b = some o → startH a vs ns t b = none → (hidT s₁.heap (startH a vs ns t)).get? b = some o := fun e n => hidT_get e n
  have nsK : ∀ {b : Addr} {m : Str → Option Value}, s₁.heap.Ns b m → (hidT s₁.heap (startH a vs ns t)).Ns b m := fun {b m} ⟨o, es, ep, e, d, r⟩ => ⟨o, es, ep, keepB e (by
    cases q : startH a vs ns t b with
    | none => rfl
    | some u =>
      obtain ⟨rfl, _, _⟩ := startH_some q
      rw [ha] at e
      cases e
      cases d), d, r⟩
  have hKb : K.In (hidT s₁.heap (startH a vs ns t)) := fun b o e => keepB (KX b o e) (by
    cases q : startH a vs ns t b with
    | none => rfl
    | some u =>
      obtain ⟨rfl, tt, _⟩ := startH_some q
      rw [htr tt] at e
      cases e)
  have hM : Mod K mg (hidT s₁.heap (startH a vs ns t)) := ⟨hKb, nsK hns, ⟨mb, nsK hb, hbb⟩, let ⟨mc, h1, h2⟩ := hlim; ⟨mc, nsK h1, h2⟩⟩
  have e0 : Env0 P w K mg (hidT s₁.heap (startH a vs ns t)) callerA [] s₁ (startH a vs ns t) :=
    ⟨rfl, hM, fun b o e => of_hidT e, Nat.le_of_eq (hidT_size _ _), trivial, fun b hb => absurd (show b ∈ ([] : List Addr) from hb) (by simp), hok, .of_eq hg⟩
  refine codeAny_mono ((F _ hKb (nsK hns)).run callerA [] s₁ _ ⟨[.ref a], []⟩ [.ref a] [.ref a] _ _ rfl hr e0 (hbind s₁ (.ref a)) (.cons rfl .nil) (hsp _ hOnly hS)) fun r s' h => ?_
  cases r with
  | error e => exact (show False from h).elim
  | ok fl =>
    cases fl with
    | next => exact (show False from h).elim
    | brk => exact (show False from h).elim
    | cont => exact (show False from h).elim
    | ret u =>
      obtain ⟨v, H', os, bare, un, hok', r', q⟩ := h
      obtain rfl : v = .bl true := q
      obtain rfl : u = Value.bool true := r'
      have bare_ : ∀ b : Addr, b ∉ ([] : List Addr) := fun _ => List.not_mem_nil
      refine ⟨rfl, .of_keep (fun b o e => ?_), os, bare⟩
      cases q : startH a vs ns t b with
      | none => exact un.keep b o e q (bare_ b) (bare_ b)
      | some u =>
        obtain ⟨rfl, _, rfl⟩ := startH_some q
        have z := un.frzs _ _ _ q
        obtain ⟨e2, _⟩ := hok' _ _ z
        rw [ha] at e
        cases e
        exact e2
theorem walkG {l : PySem.W.OpenLaw} {n k : Nat} {q : Program} {loose : List Str} {XP : (Str → Option Value) → Heap → Prop} {YP : World → Heap → Prop} {d : DefRec} {K : Params → PySem.W.Frag} {sp : PySem.W.Frag → Sp} {x : Str} (hn : l.most = some n) (hn2 : n ≤ sizeLine) (hdf : d.params.defaults = [])
    (hr : Room k callerA) (hY : ∀ (w : World) (h : Heap), YP w h → (K w.params).In h)
    (made : ∀ (w : World) (names : Str → Option Value) (at_ : Addr) (h : Heap), (K w.params).In h → h.Ns mainGlobals names → names d.name = some (.ref at_) →
      ∃ fd : FuncData, (∀ (s : Shared) (u : Value), BindsTo s fd ⟨[u], []⟩ [(x, u)]) ∧ ∀ base : Heap, (K w.params).In base → base.Ns mainGlobals names → FnG l.prog w (K w.params) names base k at_ fd [x] (sp (K w.params)))
    (hsp : ∀ (K : PySem.W.Frag) (H : Hp) (a : Addr) (ns : List Int), ns.length ≤ n → Only H → SqL K H a (ns.map V.int) → sp K [.ref a] H (fun v _ => v = .bl true) fun _ _ _ => False) : PySem.W.WalkO q loose XP YP l.row.toRowW d [] (fun f vs => PySem.call f vs) :=
  Att.attach_call hn hdf fun w _ s names _ at_ _ _ _ _ a vs ns G Y _ _ _ here obj whole short bare =>
    let KX := hY w _ Y
    let ⟨_, bind, F⟩ := made w names at_ _ KX G.T.g here
    lawG KX G.T.g G.T.b G.T.builtins G.T.nolimit bare obj whole (Nat.le_trans short hn2) hr F bind fun H only sq => hsp _ H a ns short only sq
end Fc
namespace Fc
open PySem L2 PyProof.Rows
/-! ### keys as data -/
inductive Kd where
  | w (x : Str) | c (a b : Str) (i : Int) | cb (a b : Str) (t : Bool) | n (i : Int) | no
  deriving DecidableEq
def nk : Kd → NK
  | .w x => .text x
  | .c a b i => .tup [.text a, .text b, .num i]
  | .cb a b t => .tup [.text a, .text b, .num (if t = true then 1 else 0)]
  | .n i => .num i
  | .no => .none
def pd : Kd → PyData
  | .w x => .str x
  | .c a b i => .tuple [.str a, .str b, .int i]
  | .cb a b t => .tuple [.str a, .str b, .bool t]
  | .n i => .int i
  | .no => .none
def KdV (K : PySem.W.Frag) (H : Hp) : Kd → V → Prop
  | .w x, v => v = .str x
  | .c a b i, v => ∃ t, v = .ref t ∧ SqT K H t [.str a, .str b, .int i]
  | .cb a b z, v => ∃ t, v = .ref t ∧ SqT K H t [.str a, .str b, .bl z]
  | .n i, v => v = .int i
  | .no, v => v = .non
theorem KdV.mono {K : PySem.W.Frag} {H H' : Hp} {k : Kd} {v : V} (t : Tups K H H') (h : KdV K H k v) : KdV K H' k v := by
  cases k with
  | w x => exact h
  | c a b i => obtain ⟨p, e, s⟩ := h; exact ⟨p, e, t _ _ s⟩
  | cb a b i => obtain ⟨p, e, s⟩ := h; exact ⟨p, e, t _ _ s⟩
  | n i => exact h
  | no => exact h
theorem KdV.key1 {K : PySem.W.Frag} {H : Hp} {k : Kd} {v : V} (h : KdV K H k v) : Key1 K H (nk k) v := by
  cases k with
  | w x => cases h; exact .inl (.text x)
  | c a b i => obtain ⟨p, rfl, s⟩ := h; exact .inr ⟨p, _, _, rfl, s, rfl, .cons (.text a) (.cons (.text b) (.cons (.num i) .nil))⟩
  | cb a b z => obtain ⟨p, rfl, s⟩ := h; exact .inr ⟨p, _, _, rfl, s, rfl, .cons (.text a) (.cons (.text b) (.cons (.bl z) .nil))⟩
  | n i => cases h; exact .inl (.num i)
  | no => cases h; exact .inl .non
theorem KdV.key {K : PySem.W.Frag} {H : Hp} {k : Kd} {v : V} (h : KdV K H k v) : KeyV K H (nk k) v := .inl h.key1
theorem KdV.dp {K : PySem.W.Frag} {H : Hp} {k : Kd} {v : V} (h : KdV K H k v) : Dp K H v (pd k) := by
  cases k with
  | w x => cases h; exact .str x
  | c a b i => obtain ⟨p, rfl, s⟩ := h; exact .tup s (.cons (.str a) (.cons (.str b) (.cons (.int i) .nil)))
  | cb a b z => obtain ⟨p, rfl, s⟩ := h; exact .tup s (.cons (.str a) (.cons (.str b) (.cons (.bl z) .nil)))
  | n i => cases h; exact .int i
  | no => cases h; exact .non
theorem pd_tup (k : Kd) : tupD (pd k) = true := by cases k <;> rfl
/-! ### tables as lists of keys and values -/
def TabR (K : PySem.W.Frag) (H : Hp) (b : Kd × V) (x : Ent) : Prop := x.1 = nk b.1 ∧ KdV K H b.1 x.2.1 ∧ x.2.2 = b.2
/-- at D a table of the keys and values B -/
def TabIs (K : PySem.W.Frag) (w : World) (H : Hp) (D : Addr) (B : List (Kd × V)) : Prop := ∃ xs, H D = some (MD w D xs) ∧ Paired (TabR K H) B xs
theorem tabR_mono {K : PySem.W.Frag} {H H' : Hp} (t : Tups K H H') {B : List (Kd × V)} {xs : List Ent} (p : Paired (TabR K H) B xs) : Paired (TabR K H') B xs := Paired.mapP p fun b x h => ⟨h.1, h.2.1.mono t, h.2.2⟩
theorem tabR_keys {K : PySem.W.Frag} {H : Hp} {B : List (Kd × V)} {xs : List Ent} (p : Paired (TabR K H) B xs) : ∀ x ∈ xs, KeyV K H x.1 x.2.1 := by
  induction p with
  | nil => intro x hx; cases hx
  | cons h _ ih =>
    intro x hx
    rcases List.mem_cons.mp hx with e | hx
    · subst e; rw [h.1]; exact h.2.1.key
    · exact ih x hx
def lookN (B : List (Kd × V)) (k : Kd) : Option V := (B.find? fun e => decide (nk e.1 = nk k)).map (·.2)
def putN : List (Kd × V) → Kd → V → List (Kd × V)
  | [], k, v => [(k, v)]
  | (a, u) :: r, k, v => if nk a = nk k then (a, v) :: r else (a, u) :: putN r k v
theorem posK_cons (x : NK) (ks : List NK) (k : NK) : posK (x :: ks) k = if x = k then some 0 else (posK ks k).map (· + 1) := by
  unfold posK
  rw [List.findIdx?_cons]
  by_cases e : x = k
  · simp [e]
  · simp [e]
theorem valM_cons (x : Ent) (xs : List Ent) (k : NK) : valM (x :: xs) k = if x.1 = k then some x.2.2 else valM xs k := by
  unfold valM posM
  rw [show keys (x :: xs) = x.1 :: keys xs from rfl, posK_cons]
  by_cases e : x.1 = k
  · rw [if_pos e, if_pos e]; rfl
  · rw [if_neg e, if_neg e]
    cases posK (keys xs) k with
    | none => rfl
    | some i => rfl
theorem putM_cons (x : Ent) (xs : List Ent) (k : NK) (kv v : V) : putM (x :: xs) k kv v = if x.1 = k then (x.1, x.2.1, v) :: xs else x :: putM xs k kv v := by
  unfold putM posM
  rw [show keys (x :: xs) = x.1 :: keys xs from rfl, posK_cons]
  by_cases e : x.1 = k
  · rw [if_pos e, if_pos e]; rfl
  · rw [if_neg e, if_neg e]
    cases posK (keys xs) k with
    | none => rfl
    | some i => rfl
theorem tabR_val {K : PySem.W.Frag} {H : Hp} {B : List (Kd × V)} {xs : List Ent} (p : Paired (TabR K H) B xs) (k : Kd) : valM xs (nk k) = lookN B k := by
  induction p with
  | nil => rfl
  | @cons b x B xs h _ ih =>
    rw [valM_cons, h.1, ih, h.2.2]
    unfold lookN
    rw [List.find?_cons]
    by_cases e : nk b.1 = nk k <;> simp [e]
theorem tabR_put {K : PySem.W.Frag} {H : Hp} {k : Kd} {kv v : V} (hk : KdV K H k kv) {B : List (Kd × V)} {xs : List Ent} (p : Paired (TabR K H) B xs) : Paired (TabR K H) (putN B k v) (putM xs (nk k) kv v) := by
  induction p with
  | nil => exact .cons ⟨rfl, hk, rfl⟩ .nil
  | @cons b x B xs h t ih =>
    rw [putM_cons, h.1]
    unfold putN
    by_cases e : nk b.1 = nk k
    · rw [if_pos e, if_pos e]; exact .cons ⟨rfl, h.2.1, rfl⟩ t
    · rw [if_neg e, if_neg e]; exact .cons h ih
theorem TabIs.at {K : PySem.W.Frag} {w : World} {H : Hp} {D : Addr} {B : List (Kd × V)} (t : TabIs K w H D B) : ∃ xs, TabAt K w H D xs ∧ Paired (TabR K H) B xs := let ⟨xs, h, p⟩ := t; ⟨xs, ⟨.inl h, tabR_keys p⟩, p⟩
theorem TabIs.mono {K : PySem.W.Frag} {w : World} {H H' : Hp} {D : Addr} {B : List (Kd × V)} (t : TabIs K w H D B) (tp : Tups K H H') (e : H' D = H D) : TabIs K w H' D B := let ⟨xs, h, p⟩ := t; ⟨xs, e.trans h, tabR_mono tp p⟩
theorem TabIs.same {K : PySem.W.Frag} {w : World} {H H' : Hp} {D : Addr} {B : List (Kd × V)} (t : TabIs K w H D B) (s : Same H H') : TabIs K w H' D B := let ⟨xs, h, p⟩ := t; ⟨xs, s _ _ h, tabR_mono (.same s) p⟩
theorem len_putN (B : List (Kd × V)) (k : Kd) (v : V) : (putN B k v).length ≤ B.length + 1 := by
  induction B with
  | nil => exact Nat.le_refl _
  | cons b B ih =>
    unfold putN
    by_cases e : nk b.1 = nk k
    · rw [if_pos e]; simp
    · rw [if_neg e]; simp only [List.length_cons]; omega
/-! ### the kinds of data -/
def tyName : PyData → String
  | .none => "NoneType" | .bool _ => "bool" | .int _ => "int" | .str _ => "str" | .list _ => "list" | .tuple _ => "tuple" | .dict _ => "dict"
theorem dp_ty {K : PySem.W.Frag} {H : Hp} {v : V} {d : PyData} (h : Dp K H v d) : TyX K H v (.type (tyName d)) := by
  cases h with
  | non => exact .base .non
  | bl b => exact .base (.bl b)
  | int i => exact .base (.int i)
  | str x => exact .base (.str x)
  | lst s _ =>
    rcases s with (s | ⟨o, s⟩) | ⟨o, its, n, e, c, _⟩
    · exact .base (.lst s)
    · exact .base (.frz s)
    · exact .kList e c
  | tup s _ =>
    rcases s with (s | ⟨o, s⟩) | ⟨o, its, n, e, c, _⟩
    · exact .base (.tup s)
    · exact .fTuple s
    · exact .kTuple e c
/-- isinstance(d, T) -/
def isTy (d : PyData) (T : String) : Bool := tyName d == T || (tyName d == "bool" && T == "int")
theorem kit_isTy (d : PyData) (T : String) (hT : T = "int" ∨ T = "bool" ∨ T = "str" ∨ T = "tuple" ∨ T = "dict" ∨ T = "list") : kitB (tyName d) T = some (isTy d T) := by
  have go : ∀ a ∈ ["NoneType", "bool", "int", "str", "list", "tuple", "dict"], ∀ T ∈ ["int", "bool", "str", "tuple", "dict", "list"], kitB a T = some (a == T || (a == "bool" && T == "int")) := by decide +kernel
  refine go (tyName d) ?_ T ?_
  · cases d <;> simp [tyName]
  · rcases hT with h | h | h | h | h | h <;> simp [h]
section
variable {X : Cx}
theorem call_isiD : CallR X (.builtin "isinstance") (fun xs H Q => ∃ v d T, xs = [v, .ty T] ∧ DV X.K X.w H v d ∧ (T = "int" ∨ T = "bool" ∨ T = "str" ∨ T = "tuple" ∨ T = "dict" ∨ T = "list") ∧ Q (.bl (isTy d T)) H) := by
  intro pins s σ H xs us Q I r ⟨v, d, T, ex, hd, hT, q⟩
  rcases hd with hd | ⟨a, ys, kvs, ev, t, ed, _⟩
  · exact call_isi pins s σ H xs us Q I r ⟨v, .ty T, _, _, isTy d T, ex, .ty T, dp_ty hd, kit_ty (kit_isTy d T hT), q⟩
  · subst ed ev
    exact call_isiM pins s σ H xs us Q I r ⟨a, ys, .ty T, _, isTy (.dict kvs) T, ex, .ty T, t, kit_ty (kit_isTy (.dict kvs) T hT), q⟩
theorem op_powW : OpR X (binaryOp .Pow) (rI (fun i j => 0 ≤ j ∧ (Builtin.Int.intBits i : Int) * j ≤ 2 ^ 27) fun i j => .int (i ^ j.toNat)) := opI fun _ _ _ _ _ _ _ hc q => pow_int hc.1 hc.2 q
end
/-- a def of the top, by its name and promise -/
structure Cal (P : Program) (w : World) (K : PySem.W.Frag) (mg : Str → Option Value) (base : Heap) (k : Nat) (x : Str) (sp : Sp) : Prop where
  at_ : ∃ (f : Addr) (fd : FuncData) (ps : List Str), FnOk P w K mg base CX0 k f fd ps sp ∧ mg x = some (.ref f) ∧ PySem.W.keepIn K (.ref f) = true ∧ Binds K fd ps []
def tCal (sp : Sp) (t : TA) : TE := fun σ H Q => t σ H fun vs H1 => sp vs H1 Q E0
theorem pe_c {X : Cx} {k j : Nat} {x : Str} {sp : Sp} {p pos : Pos} {e : Expr} {es : List Expr} {t : TA} (c : Cal X.prog X.w X.K X.mg X.base k x sp) (hr : Room j X.A) (hk : k ≤ j) (hg : Gl X x) (ha : PA X (e :: es) t) (hdb : (x == ("__debug__" : Str)) = false := by decide)
    (he : starEach (e :: es) X.env = (false, eval e X.env) :: starEach es X.env := by rfl) (hpl : (backTo pos (starEach es X.env)).any (·.1) = false := by rfl) : PE X (.Call (.Name x p) (e :: es) [] pos) (tCal sp t) := by
  obtain ⟨f, fd, ps, F, hm, kp, b⟩ := c.at_
  have q := pe_call (p := p) (pos := pos) F (hr.mono hk) hg hm kp b .nil pass0 ha hdb he hpl
  refine ⟨fun pins s σ H Q I h => q.run pins s σ H Q I ?_⟩
  have e : tCall sp [] E0 t = tCal sp t := by funext σ H Q; unfold tCall tCal; simp only [List.append_nil]
  rw [e]
  exact h
theorem hu70 {A : Around} {k : Nat} (hr : Room k A) : A.units + 70 < cLine := by have := hr.un; omega
end Fc
namespace Fc
open PySem L2
/-- an iterator of n items, item by item, where G stands -/
structure Steady (J : It) (n : Nat) (it : Nat → V) (G : Hp → Prop) : Prop where
  go : ∀ i H, G H → i < n → J.go i H
  stop : ∀ H, G H → J.stop n H
  yld : ∀ i H x H', G H → i < n → J.yld i H x H' → H' = H ∧ x = it i
theorem for_steady {J : It} {n : Nat} {it : Nat → V} {G : Hp → Prop} (S : Steady J n it G) {g : TG} {tb : TS} {D : Ends} {σ : L2.St} {H : Hp} (Pv : Nat → L2.St → Hp → Prop) (h0 : Pv 0 σ H) (hl : ∀ i σ H, i ≤ n → Pv i σ H → G H)
    (hs : ∀ i σ H, i < n → Pv i σ H → g (it i) σ H fun σ2 H2 => tb { D with nx := Pv (i + 1), ct := Pv (i + 1), bk := D.nx } σ2 H2) (hd : ∀ σ H, Pv n σ H → D.nx σ H) :
    ∃ W : Nat → Nat → L2.St → Hp → Prop, (∃ m, W 0 m σ H) ∧ ∀ i m σ H, W i m σ H → (J.stop i H ∧ D.nx σ H) ∨
      (J.go i H ∧ ∃ N : L2.St → Hp → Prop, (∀ σ' H', N σ' H' → ∃ m', m' < m ∧ W (i + 1) m' σ' H') ∧ ∀ x H', J.yld i H x H' → g x σ H' fun σ2 H2 => tb { D with nx := N, ct := N, bk := D.nx } σ2 H2) := by
  refine ⟨fun i m σ H => m + i = n ∧ Pv i σ H, ⟨n, rfl, h0⟩, fun i m σ H ⟨e, p⟩ => ?_⟩
  by_cases c : i = n
  · subst c
    exact .inl ⟨S.stop _ (hl _ _ _ (Nat.le_refl _) p), hd _ _ p⟩
  · have lt : i < n := by omega
    have q := hl i σ H (Nat.le_of_lt lt) p
    refine .inr ⟨S.go i H q lt, Pv (i + 1), fun σ' H' p' => ⟨m - 1, by omega, by omega, p'⟩, fun x H' y => ?_⟩
    obtain ⟨e1, e2⟩ := S.yld i H x H' q lt y
    rw [e1, e2]
    exact hs i σ H lt p
theorem lc_steady {J : It} {n : Nat} {it : Nat → V} {G : Hp → Prop} (S : Steady J n it G) {g : TG} {tt : TT} {te : TE} {vs : List Nat} {σ : L2.St} {H1 : Hp} {D : Addr} {Qd : Hp → Prop} (Pv : Nat → Hp → Prop) (h0 : Pv 0 (upd H1 D (.lst []))) (hl : ∀ i H, i ≤ n → Pv i H → G H)
    (hs : ∀ i H, i < n → Pv i H → g (it i) (wipe σ vs) H fun σ2 H2 => wipe σ2 vs = wipe σ vs ∧ tt σ2 H2 fun b H3 => if b = true then te σ2 H3 fun y H4 => ∃ acc, H4 D = some (.lst acc) ∧ acc.length < sizeLine ∧ Pv (i + 1) (upd H4 D (.lst (acc ++ [y]))) else Pv (i + 1) H3)
    (hd : ∀ H, Pv n H → Qd H) : ∃ W : Nat → Nat → Hp → Prop, (∃ m, W 0 m (upd H1 D (.lst []))) ∧ ∀ i m H, W i m H → (J.stop i H ∧ Qd H) ∨
      (J.go i H ∧ ∃ Nx : Hp → Prop, (∀ H', Nx H' → ∃ m', m' < m ∧ W (i + 1) m' H') ∧ ∀ x H', J.yld i H x H' → g x (wipe σ vs) H' fun σ2 H2 => wipe σ2 vs = wipe σ vs ∧ tt σ2 H2 fun b H3 =>
        if b = true then te σ2 H3 fun y H4 => ∃ acc, H4 D = some (.lst acc) ∧ acc.length < sizeLine ∧ Nx (upd H4 D (.lst (acc ++ [y]))) else Nx H3) := by
  refine ⟨fun i m H => m + i = n ∧ Pv i H, ⟨n, rfl, h0⟩, fun i m H ⟨e, p⟩ => ?_⟩
  by_cases c : i = n
  · subst c
    exact .inl ⟨S.stop _ (hl _ _ (Nat.le_refl _) p), hd _ p⟩
  · have lt : i < n := by omega
    have q := hl i H (Nat.le_of_lt lt) p
    refine .inr ⟨S.go i H q lt, Pv (i + 1), fun H' p' => ⟨m - 1, by omega, by omega, p'⟩, fun x H' y => ?_⟩
    obtain ⟨e1, e2⟩ := S.yld i H x H' q lt y
    rw [e1, e2]
    exact hs i H lt p
theorem dc_steady {K : PySem.W.Frag} {w : World} {J : It} {n : Nat} {it : Nat → V} {G : Hp → Prop} (S : Steady J n it G) {g : TG} {tk tv : TE} {vs : List Nat} {σ : L2.St} {H1 : Hp} {D : Addr} {Qd : Hp → Prop} (Pv : Nat → Hp → Prop) (h0 : Pv 0 (upd H1 D (MD w D []))) (hl : ∀ i H, i ≤ n → Pv i H → G H)
    (hs : ∀ i H, i < n → Pv i H → g (it i) (wipe σ vs) H fun σ2 H2 => wipe σ2 vs = wipe σ vs ∧ tk σ2 H2 fun y H4 => tv σ2 H4 fun z H5 => ∃ xs k, H5 D = some (MD w D xs) ∧ (∀ x ∈ xs, KeyV K H5 x.1 x.2.1) ∧ KeyV K H5 k y ∧ xs.length < sizeLine ∧ Pv (i + 1) (upd H5 D (MD w D (putM xs k y z))))
    (hd : ∀ H, Pv n H → Qd H) : ∃ W : Nat → Nat → Hp → Prop, (∃ m, W 0 m (upd H1 D (MD w D []))) ∧ ∀ i m H, W i m H → (J.stop i H ∧ Qd H) ∨
      (J.go i H ∧ ∃ Nx : Hp → Prop, (∀ H', Nx H' → ∃ m', m' < m ∧ W (i + 1) m' H') ∧ ∀ x H', J.yld i H x H' → g x (wipe σ vs) H' fun σ2 H2 => wipe σ2 vs = wipe σ vs ∧
        tk σ2 H2 fun y H4 => tv σ2 H4 fun z H5 => ∃ xs k, H5 D = some (MD w D xs) ∧ (∀ x ∈ xs, KeyV K H5 x.1 x.2.1) ∧ KeyV K H5 k y ∧ xs.length < sizeLine ∧ Nx (upd H5 D (MD w D (putM xs k y z)))) := by
  refine ⟨fun i m H => m + i = n ∧ Pv i H, ⟨n, rfl, h0⟩, fun i m H ⟨e, p⟩ => ?_⟩
  by_cases c : i = n
  · subst c
    exact .inl ⟨S.stop _ (hl _ _ (Nat.le_refl _) p), hd _ p⟩
  · have lt : i < n := by omega
    have q := hl i H (Nat.le_of_lt lt) p
    refine .inr ⟨S.go i H q lt, Pv (i + 1), fun H' p' => ⟨m - 1, by omega, by omega, p'⟩, fun x H' y => ?_⟩
    obtain ⟨e1, e2⟩ := S.yld i H x H' q lt y
    rw [e1, e2]
    exact hs i H lt p
/-! the iterators that we have -/
theorem steady_list {K : PySem.W.Frag} {a : Addr} {xs : List V} : Steady (Itl K a) xs.length (fun i => xs.getD i .non) (fun H => SqL K H a xs) where
  go := fun i H q lt => ⟨xs, xs[i], q, List.getElem?_eq_getElem lt⟩
  stop := fun H q => ⟨xs, q, Nat.le_refl _⟩
  yld := fun i H x H' q lt y => ⟨y.1, by
    have e := y.2 xs q
    rw [List.getD_eq_getElem?_getD, e]; rfl⟩
theorem steady_tup {K : PySem.W.Frag} {a : Addr} {xs : List V} : Steady (Itt K a) xs.length (fun i => xs.getD i .non) (fun H => SqT K H a xs) where
  go := fun i H q lt => ⟨xs, xs[i], q, List.getElem?_eq_getElem lt⟩
  stop := fun H q => ⟨xs, q, Nat.le_refl _⟩
  yld := fun i H x H' q lt y => ⟨y.1, by
    have e := y.2 xs q
    rw [List.getD_eq_getElem?_getD, e]; rfl⟩
theorem steady_str {x : Str} : Steady (Its x) x.cps.size (fun i => .str ⟨#[x.cps.getD i 0]⟩) (fun _ => True) where
  go := fun i H q lt => lt
  stop := fun H q => Nat.le_refl _
  yld := fun i H v H' q lt y => ⟨y.1, by
    obtain ⟨c, e, ev⟩ := y.2
    rw [ev, Array.getD_eq_getD_getElem?, e]; rfl⟩
theorem steady_key {w : World} {d : Addr} {o : Obj} {xs : List Ent} : Steady (ItM w d o xs) xs.length (fun i => (xs.map (·.2.1)).getD i .non) (fun H => H d = some (.frz o (MD w d xs))) where
  go := fun i H q lt => ⟨q, lt⟩
  stop := fun H q => ⟨q, Nat.le_refl _⟩
  yld := fun i H v H' q lt y => ⟨y.1, by
    obtain ⟨e, he, ev⟩ := y.2
    rw [ev, List.getD_eq_getElem?_getD, List.getElem?_map, he]; rfl⟩
end Fc
namespace Fc
open PySem L2 PyProof.Rows
def place : List Nat := [0, 11, 12, 13, 14, 15, 16, 1, 2, 3, 4, 5, 6, 7, 8, 9, 10, 17, 18, 19, 20, 21, 22, 23, 24, 25, 26, 27, 28, 29, 30, 31, 32, 33, 34, 35, 36, 37, 38, 39, 40, 41, 42, 43, 44, 45, 46, 47, 48, 49, 50, 51, 52]
def topS (i : Nat) : Stmt := PySem.Challenge.pw_forkcells_k01_whole_terms_in_changed_fra.main.body.getD (place.getD i 0) (.Pass ⟨0, 0, 0, 0⟩)
/-- the built-ins are not hidden -/
structure Blt (mg : Str → Option Value) : Prop where
  isinstance : mg "isinstance" = none
  int : mg "int" = none
  bool : mg "bool" = none
  str : mg "str" = none
  tuple : mg "tuple" = none
  dict : mg "dict" = none
  list : mg "list" = none
  set : mg "set" = none
  len : mg "len" = none
  abs : mg "abs" = none
  range : mg "range" = none
  zip : mg "zip" = none
  enumerate : mg "enumerate" = none
  max : mg "max" = none
  min : mg "min" = none
  repr : mg "repr" = none
abbrev isInt (d : PyData) : Bool := isTy d "int" && !isTy d "bool"
abbrev small (i : Int) : Bool := decide ((if i < 0 then -i else i) < 10 ^ 60)
def isNum (d : PyData) : Bool := match d with | .int i => small i | _ => false
theorem isInt_eq (d : PyData) : isInt d = match d with | .int _ => true | _ => false := by cases d <;> rfl
/-! promises -/
def spInt (K : PySem.W.Frag) (w : World) : Sp := fun vs H Q _ => ∃ v d, vs = [v] ∧ Dp K H v d ∧ Q (.bl (isInt d)) H
def spPassed (K : PySem.W.Frag) (w : World) : Sp := fun vs H Q _ => ∃ v d, vs = [v] ∧ Dp K H v d ∧ Q (.bl (isNum d)) H
section
variable {K : PySem.W.Frag} {mg : Str → Option Value} {base : Heap} {P : Program} {w : World}
theorem sc8 : FnScope ["value"] ["value"] (defScope (topS 8)) := ⟨rfl, rfl, rfl, by decide +kernel, rfl, by decide +kernel, by decide +kernel⟩
theorem ok8 {f : Addr} {fd : FuncData} (F : Fun K "is_any_integer" "is_any_integer" (topS 8) f fd) (B : Blt mg) : FnOk P w K mg base CX0 1 f fd ["value"] (spInt K w) := by
  refine F.ok sc8 (fun vs H Q E h => ?_) (fun cdv A outer s H vs Q E hr h => ?_)
  · obtain ⟨v, d, rfl, _⟩ := h
    rfl
  · obtain ⟨v, d, rfl, hd, q⟩ := h
    refine ⟨_, pss_one (ps_ret (pe_and (pe_callB call_isiD (by rfl) B.isinstance boot_isinstance (pa_cons (pv 0) (pa_cons (pe_bltn (v := .ty "int") (by rfl) B.int boot_int rfl) pa_nil)))
      (pe_one (pe_not (pe_callB call_isiD (by rfl) B.isinstance boot_isinstance (pa_cons (pv 0) (pa_cons (pe_bltn (v := .ty "bool") (by rfl) B.bool boot_bool rfl) pa_nil))))))), ?_⟩
    refine ⟨_, rfl, v, d, _, rfl, .inl hd, .inl rfl, _, rfl, ?_⟩
    unfold isInt at q
    cases e : isTy d "int" with
    | false =>
      rw [e] at q
      exact iteF q
    | true =>
      rw [e] at q
      exact iteT ⟨_, rfl, v, d, _, rfl, .inl hd, .inr (.inl rfl), _, rfl, q⟩
theorem sc9 : FnScope ["value"] ["value"] (defScope (topS 9)) := ⟨rfl, rfl, rfl, by decide +kernel, rfl, by decide +kernel, by decide +kernel⟩
theorem ok9 {f : Addr} {fd : FuncData} (F : Fun K "is_passed_integer" "is_passed_integer" (topS 9) f fd) (B : Blt mg) (c8 : Cal P w K mg base 1 "is_any_integer" (spInt K w)) : FnOk P w K mg base CX0 2 f fd ["value"] (spPassed K w) := by
  refine F.ok sc9 (fun vs H Q E h => ?_) (fun cdv A outer s H vs Q E hr h => ?_)
  · obtain ⟨v, d, rfl, _⟩ := h
    rfl
  · obtain ⟨v, d, rfl, hd, q⟩ := h
    refine ⟨_, pss_one (ps_ret (pe_and (pe_c c8 hr (by decide) (by rfl) (pa_cons (pv 0) pa_nil))
      (pe_one (pe_cmpR op_lt (pe_callB call_abs (by rfl) B.abs boot_abs (pa_cons (pv 0) pa_nil)) (pe_op op_pow pe_int pe_int) (nomark _))))), ?_⟩
    refine ⟨_, rfl, v, d, rfl, hd, _, rfl, ?_⟩
    rw [isInt_eq]
    cases hd with
    | int i => exact iteT ⟨_, rfl, i, rfl, 10, 60, rfl, rfl, ⟨by decide, by decide, by decide⟩, _, _, rfl, rfl, q⟩
    | non => exact iteF q
    | bl b => exact iteF q
    | str x => exact iteF q
    | lst _ _ => exact iteF q
    | tup _ _ => exact iteF q
/-! names -/
def lowC (c : Nat) : Bool := !decide ([c] < [97]) && !decide ([122] < [c])
def isNameS (x : Str) : Bool := decide (1 ≤ (x.length : Int)) && (decide ((x.length : Int) ≤ 8) && x.cps.toList.all lowC)
def spName (K : PySem.W.Frag) (w : World) : Sp := fun vs H Q _ => ∃ x : Str, vs = [.str x] ∧ x.length ≤ 1000 ∧ Q (.bl (isNameS x)) H
theorem sc21 : FnScope ["value", "letter"] ["value"] (defScope (topS 21)) := ⟨rfl, rfl, rfl, by decide +kernel, rfl, by decide +kernel, by decide +kernel⟩
theorem isTy_str (x : Str) : isTy (.str x) "str" = true := rfl
theorem ok21 {f : Addr} {fd : FuncData} (F : Fun K "is_name" "is_name" (topS 21) f fd) (B : Blt mg) : FnOk P w K mg base CX0 1 f fd ["value"] (spName K w) := by
  refine F.ok sc21 (fun vs H Q E h => ?_) (fun cdv A outer s H vs Q E hr h => ?_)
  · obtain ⟨x, rfl, _⟩ := h
    rfl
  · obtain ⟨x, rfl, hz, q⟩ := h
    refine ⟨_, pss_cons (ps_if (pw_or (pt_not (pt_val (pe_callB call_isiD (by rfl) B.isinstance boot_isinstance (pa_cons (pv 0) (pa_cons (pe_bltn (v := .ty "str") (by rfl) B.str boot_str rfl) pa_nil)))))
        (pw_or1 (pt_not (pt_chain op_le op_le pe_int (pe_callB call_len_str (by rfl) B.len boot_len (pa_cons (pv 0) pa_nil)) pe_int)))).pt (pss_one (ps_ret pe_bl)) pss_nil)
      (pss_cons (ps_for PassesOwn.never rfl (pi_str (pv 0)) (pg_name (i := 1) sc21.nd rfl (Or.inl rfl)) (pss_one (ps_if (pt_not (pt_chain op_le_str op_le_str pe_str (pv 1) pe_str)) (pss_one (ps_ret pe_bl)) pss_nil)))
      (pss_one (ps_ret pe_bl))), ?_⟩
    refine ⟨_, rfl, .str x, _, _, rfl, .inl (.str x), .inr (.inr (.inl rfl)), _, rfl, iteF ?_⟩
    have z1 : x.length ≤ sizeLine := by rw [sizeLine_eq]; omega
    refine ⟨_, rfl, x, rfl, z1, 1, _, rfl, rfl, _, rfl, ?_⟩
    unfold isNameS at q
    by_cases c1 : (1 : Int) ≤ (x.length : Int)
    · rw [decide_eq_true c1] at q ⊢
      refine iteT ⟨_, _, rfl, rfl, _, rfl, ?_⟩
      by_cases c2 : (x.length : Int) ≤ 8
      · rw [decide_eq_true c2] at q ⊢
        refine iteF ⟨_, rfl, x, rfl, ?_⟩
        replace q : Q (.bl (x.cps.toList.all lowC)) H := q
        refine for_steady steady_str (fun i σ H' => H' = H ∧ (∃ v, σ = [some (.str x), v]) ∧ (x.cps.toList.take i).all lowC = true) ⟨rfl, ⟨_, rfl⟩, rfl⟩ (fun _ _ _ _ _ => trivial) ?_ ?_
        · rintro i σ H' hi ⟨rfl, ⟨v, rfl⟩, pre⟩
          have hx : x.cps.getD i 0 = x.cps[i] := by rw [Array.getD_eq_getD_getElem?, Array.getElem?_eq_getElem hi]; rfl
          rw [hx]
          have tk : x.cps.toList.take (i + 1) = x.cps.toList.take i ++ [x.cps[i]] := by rw [List.take_add_one, List.getElem?_eq_getElem (by simpa using hi)]; simp
          refine ⟨_, rfl, _, _, rfl, rfl, _, rfl, ?_⟩
          have e1 : (!decide (({ cps := #[x.cps[i]] } : Str).cps.toList < (Str.ofString "a").cps.toList)) = !decide ([x.cps[i]] < [97]) := rfl
          have e2 : (!decide ((Str.ofString "z").cps.toList < ({ cps := #[x.cps[i]] } : Str).cps.toList)) = !decide ([122] < [x.cps[i]]) := rfl
          have mem : x.cps.toList.all lowC = true → lowC x.cps[i] = true := fun h => List.all_eq_true.mp h _ (by simp)
          have off : lowC x.cps[i] = false → Q (.bl false) H' := fun e => by
            have z : x.cps.toList.all lowC = false := by
              cases q2 : x.cps.toList.all lowC with
              | false => rfl
              | true => rw [mem q2] at e; cases e
            rw [z] at q
            exact q
          rw [e1]
          cases d1 : !decide ([x.cps[i]] < [97]) with
          | false => exact iteF ⟨_, rfl, iteT (off (by unfold lowC; rw [d1]; rfl))⟩
          | true =>
            refine iteT ⟨_, _, rfl, rfl, _, rfl, ?_⟩
            rw [e2]
            cases d2 : !decide ([122] < [x.cps[i]]) with
            | false => exact iteT (off (by unfold lowC; rw [d2, Bool.and_false]))
            | true =>
              refine iteF ⟨rfl, ⟨_, rfl⟩, ?_⟩
              rw [tk, List.all_append, pre]
              simp only [List.all_cons, List.all_nil, Bool.and_true, Bool.true_and]
              unfold lowC
              rw [d1, d2]
              rfl
        · rintro σ H' ⟨rfl, ⟨v, rfl⟩, pre⟩
          rw [List.take_of_length_le (by simp)] at pre
          rw [pre] at q
          exact q
      · rw [decide_eq_false c2] at q ⊢
        exact iteT q
    · rw [decide_eq_false c1] at q ⊢
      exact iteF ⟨_, rfl, iteT q⟩
end
end Fc
namespace Fc
open PySem L2 PyProof.Rows
theorem same_new {H : Hp} {a : Addr} {o : HO} (h : H a = none) : Same H (upd H a o) := fun b u e => by rw [upd_ne (ne_of_none e h)]; exact e
theorem hu9 {n : Nat} (h : n + 70 < cLine) : n + 9 < cLine := by omega
theorem paired_at {α β : Type} {p : α → β → Prop} {as : List α} {bs : List β} (h : Paired p as bs) {i : Nat} {a : α} {b : β} (ha : as[i]? = some a) (hb : bs[i]? = some b) : p a b := by
  induction h generalizing i with
  | nil => simp at ha
  | cons h _ ih =>
    cases i with
    | zero => simp at ha hb; rw [← ha, ← hb]; exact h
    | succ i => exact ih (by simpa using ha) (by simpa using hb)
theorem paired_len {α β : Type} {p : α → β → Prop} {as : List α} {bs : List β} (h : Paired p as bs) : as.length = bs.length := by
  induction h with
  | nil => rfl
  | cons _ _ ih => simp [ih]
theorem paired_getD {α β : Type} {p : α → β → Prop} {as : List α} {bs : List β} (h : Paired p as bs) {i : Nat} {a0 : α} {b0 : β} (hi : i < as.length) : p (as.getD i a0) (bs.getD i b0) := by
  have hb : i < bs.length := paired_len h ▸ hi
  refine paired_at h (i := i) ?_ ?_
  · rw [List.getD_eq_getElem?_getD, List.getElem?_eq_getElem hi]; rfl
  · rw [List.getD_eq_getElem?_getD, List.getElem?_eq_getElem hb]; rfl
theorem steady_rng {lo : Int} {n : Nat} : Steady (Itr lo n) n (fun i => .int (lo + i)) (fun _ => True) := ⟨fun _ _ _ h => h, fun _ _ => Nat.le_refl _, fun _ _ _ _ _ _ y => y⟩
abbrev natV : Nat → V := fun n => .int (n : Int)
theorem tC_i {v : V} {σ : L2.St} {H : Hp} {Q : VK} (h : Q v H) : tC v σ H Q := h
theorem rd_same {H H' : Hp} (s : Same H H') {D : Addr} : ∀ u, Rd H D u → Rd H' D u := fun u r => r.elim (fun e => .inl (s _ _ e)) fun ⟨o, e⟩ => .inr ⟨o, s _ _ e⟩
theorem getD_mem {l : List Kd} {n : Nat} {k : Kd} (h : n < l.length) : l.getD n k ∈ l := by
  rw [List.getD_eq_getElem?_getD, List.getElem?_eq_getElem h]
  exact List.getElem_mem h
theorem paired_snoc {α β : Type} {p : α → β → Prop} {l : List α} {ys : List β} {a : α} {b : β} (h : Paired p l ys) (hab : p a b) : Paired p (l ++ [a]) (ys ++ [b]) := by
  induction h with
  | nil => exact .cons hab .nil
  | cons h1 _ ih => exact .cons h1 ih
def Kept (K : PySem.W.Frag) (Rl : Hp → Nat → V → Prop) : Prop := ∀ H H' k y, Tups K H H' → Rl H k y → Rl H' k y
theorem lc_gen {K : PySem.W.Frag} {J : It} {n : Nat} {it : Nat → V} {G : Hp → Prop} {tt : TT} {te : TE} {i : Nat} {σ : L2.St} {H1 : Hp} {D : Addr} {Qd : Hp → Prop} (b : Nat → Bool) (Rl : Hp → Nat → V → Prop) (S : Steady J n it G) (hm : Kept K Rl) (hG : ∀ H, Same H1 H → G H) (hi : i < σ.length) (hl : n ≤ 5000) (hD : H1 D = none)
    (ht : ∀ k H Q, k < n → Same H1 H → Q (b k) H → tt ((wipe σ [i]).set i (some (it k))) H Q)
    (hv : ∀ k H Q, k < n → b k = true → Same H1 H → (∀ H' y, Same H H' → Rl H' k y → Q y H') → te ((wipe σ [i]).set i (some (it k))) H Q)
    (hd : ∀ H' ys, Same H1 H' → H' D = some (.lst ys) → Paired (Rl H') ((List.range n).filter b) ys → Qd H') :
    ∃ W : Nat → Nat → Hp → Prop, (∃ m, W 0 m (upd H1 D (.lst []))) ∧ ∀ i_1 m H, W i_1 m H → (J.stop i_1 H ∧ Qd H) ∨
      (J.go i_1 H ∧ ∃ Nx : Hp → Prop, (∀ H', Nx H' → ∃ m', m' < m ∧ W (i_1 + 1) m' H') ∧ ∀ x H', J.yld i_1 H x H' → gName i x (wipe σ [i]) H' fun σ2 H2 => wipe σ2 [i] = wipe σ [i] ∧ tt σ2 H2 fun b H3 =>
        if b = true then te σ2 H3 fun y H4 => ∃ acc, H4 D = some (.lst acc) ∧ acc.length < sizeLine ∧ Nx (upd H4 D (.lst (acc ++ [y]))) else Nx H3) := by
  refine lc_steady S (fun k H => Same H1 H ∧ ∃ ys, H D = some (.lst ys) ∧ Paired (Rl H) ((List.range k).filter b) ys) ⟨same_new hD, [], upd_same, .nil⟩ (fun _ _ _ h => hG _ h.1) (fun k H hk h => ?_) fun H h => ?_
  · obtain ⟨sm, ys, hy, pp⟩ := h
    have w1 : wipe ((wipe σ [i]).set i (some (it k))) [i] = wipe σ [i] := by
      show ((σ.set i none).set i (some _)).set i none = σ.set i none
      rw [List.set_set, List.set_set]
    refine ⟨w1, ht k H _ hk sm ?_⟩
    have er : List.range (k + 1) = List.range k ++ [k] := List.range_succ
    have ly : ys.length ≤ k := by
      rw [← paired_len pp]
      have := List.length_filter_le b (List.range k)
      rwa [List.length_range] at this
    cases e : b k with
    | false =>
      refine iteF ⟨sm, ys, hy, ?_⟩
      rw [er, List.filter_append]
      have : [k].filter b = [] := by rw [List.filter_cons, e]; rfl
      rw [this, List.append_nil]
      exact pp
    | true =>
      refine iteT (hv k H _ hk e sm fun H' y sm' rl => ⟨ys, sm' _ _ hy, by rw [sizeLine_eq]; omega, ?_⟩)
      have tp : Tups K H' (upd H' D (.lst (ys ++ [y]))) := Tups.upd fun u e => by rw [sm' _ _ hy] at e; cases e; exact True.intro
      refine ⟨fun a o ha => by rw [upd_ne (ne_of_none ha hD)]; exact sm' _ _ (sm a o ha), _, upd_same, ?_⟩
      rw [er, List.filter_append]
      have : [k].filter b = [k] := by rw [List.filter_cons, e]; rfl
      rw [this]
      have app : ∀ {l : List Nat} {ys : List V}, Paired (Rl (upd H' D (.lst (ys ++ [y])))) l ys → True := fun _ => trivial
      have snoc : ∀ {R : Nat → V → Prop} {l : List Nat} {zs : List V}, Paired R l zs → R k y → Paired R (l ++ [k]) (zs ++ [y]) := by
        intro R l zs p h
        induction p with
        | nil => exact .cons h .nil
        | cons h1 _ ih => exact .cons h1 ih
      exact snoc (Paired.mapP pp fun a v h => hm _ _ _ _ ((Tups.same sm').trans tp) h) (hm _ _ _ _ tp rl)
  · exact hd H h.2.choose h.1 h.2.choose_spec.1 h.2.choose_spec.2
theorem lc_gen2 {K : PySem.W.Frag} {J : It} {n : Nat} {it : Nat → V} {G : Hp → Prop} {tt : TT} {te : TE} {i : Nat} {σ : L2.St} {H1 : Hp} {D : Addr} {Qd : Hp → Prop} (b : Nat → Bool) (Rl : Hp → Nat → V → Prop) (S : Steady J n it G) (hm : Kept K Rl) (hG : ∀ H, Same H1 H → G H) (hi : i < σ.length) (hl : n ≤ 5000) (hD : H1 D = none)
    (ht : ∀ k H Q, k < n → Same H1 H → (∀ H', Same H H' → Q (b k) H') → tt ((wipe σ [i]).set i (some (it k))) H Q)
    (hv : ∀ k H Q, k < n → b k = true → Same H1 H → (∀ H' y, Same H H' → Rl H' k y → Q y H') → te ((wipe σ [i]).set i (some (it k))) H Q)
    (hd : ∀ H' ys, Same H1 H' → H' D = some (.lst ys) → Paired (Rl H') ((List.range n).filter b) ys → Qd H') :
    ∃ W : Nat → Nat → Hp → Prop, (∃ m, W 0 m (upd H1 D (.lst []))) ∧ ∀ i_1 m H, W i_1 m H → (J.stop i_1 H ∧ Qd H) ∨
      (J.go i_1 H ∧ ∃ Nx : Hp → Prop, (∀ H', Nx H' → ∃ m', m' < m ∧ W (i_1 + 1) m' H') ∧ ∀ x H', J.yld i_1 H x H' → gName i x (wipe σ [i]) H' fun σ2 H2 => wipe σ2 [i] = wipe σ [i] ∧ tt σ2 H2 fun b H3 =>
        if b = true then te σ2 H3 fun y H4 => ∃ acc, H4 D = some (.lst acc) ∧ acc.length < sizeLine ∧ Nx (upd H4 D (.lst (acc ++ [y]))) else Nx H3) := by
  refine lc_steady S (fun k H => Same H1 H ∧ ∃ ys, H D = some (.lst ys) ∧ Paired (Rl H) ((List.range k).filter b) ys) ⟨same_new hD, [], upd_same, .nil⟩ (fun _ _ _ h => hG _ h.1) (fun k H hk h => ?_) fun H h => ?_
  · obtain ⟨sm0, ys, hy0, pp0⟩ := h
    have w1 : wipe ((wipe σ [i]).set i (some (it k))) [i] = wipe σ [i] := by
      show ((σ.set i none).set i (some _)).set i none = σ.set i none
      rw [List.set_set, List.set_set]
    refine ⟨w1, ht k H _ hk sm0 fun H3 s3 => ?_⟩
    have sm := sm0.trans s3
    have hy := s3 _ _ hy0
    have pp : Paired (Rl H3) ((List.range k).filter b) ys := Paired.mapP pp0 fun a v h => hm _ _ _ _ (Tups.same s3) h
    have er : List.range (k + 1) = List.range k ++ [k] := List.range_succ
    have ly : ys.length ≤ k := by
      rw [← paired_len pp]
      have := List.length_filter_le b (List.range k)
      rwa [List.length_range] at this
    cases e : b k with
    | false =>
      refine iteF ⟨sm, ys, hy, ?_⟩
      rw [er, List.filter_append]
      have : [k].filter b = [] := by rw [List.filter_cons, e]; rfl
      rw [this, List.append_nil]
      exact pp
    | true =>
      refine iteT (hv k H3 _ hk e sm fun H' y sm' rl => ⟨ys, sm' _ _ hy, by rw [sizeLine_eq]; omega, ?_⟩)
      have tp : Tups K H' (upd H' D (.lst (ys ++ [y]))) := Tups.upd fun u e => by rw [sm' _ _ hy] at e; cases e; exact True.intro
      refine ⟨fun a o ha => by rw [upd_ne (ne_of_none ha hD)]; exact sm' _ _ (sm a o ha), _, upd_same, ?_⟩
      rw [er, List.filter_append]
      have : [k].filter b = [k] := by rw [List.filter_cons, e]; rfl
      rw [this]
      exact paired_snoc (Paired.mapP pp fun a v h => hm _ _ _ _ ((Tups.same sm').trans tp) h) (hm _ _ _ _ tp rl)
  · exact hd H h.2.choose h.1 h.2.choose_spec.1 h.2.choose_spec.2
theorem dp_len {K : PySem.W.Frag} {H : Hp} {xs : List V} {ds : List PyData} (h : DpAll K H xs ds) : xs.length = ds.length := by
  induction ds generalizing xs with
  | nil => cases h; rfl
  | cons d ds ih => cases h with | cons h1 h2 => simp [ih h2]
theorem dp_at {K : PySem.W.Frag} {H : Hp} {xs : List V} {ds : List PyData} (h : DpAll K H xs ds) {k : Nat} (hk : k < ds.length) : Dp K H (xs.getD k .non) (ds.getD k .none) := by
  induction ds generalizing xs k with
  | nil => simp at hk
  | cons d ds ih =>
    cases h with
    | cons h1 h2 =>
      cases k with
      | zero => exact h1
      | succ k => exact ih h2 (by simpa using hk)
theorem isTy_tupF (d : PyData) : isTy d "tuple" = match d with | .tuple _ => true | _ => false := by cases d <;> rfl
mutual
theorem dp_mono {K : PySem.W.Frag} {H H' : Hp} (s : Same H H') : ∀ (d : PyData) (v : V), Dp K H v d → Dp K H' v d
  | .none, _, h => by cases h; exact .non
  | .bool _, _, h => by cases h; exact .bl _
  | .int _, _, h => by cases h; exact .int _
  | .str _, _, h => by cases h; exact .str _
  | .list ds, _, h => by cases h with | lst a b => exact .lst (s.seq a) (dps_mono s ds _ b)
  | .tuple ds, _, h => by cases h with | tup a b => exact .tup (Tups.same s _ _ a) (dps_mono s ds _ b)
  | .dict _, _, h => by cases h
theorem dps_mono {K : PySem.W.Frag} {H H' : Hp} (s : Same H H') : ∀ (ds : List PyData) (vs : List V), DpAll K H vs ds → DpAll K H' vs ds
  | [], _, h => by cases h; exact .nil
  | d :: ds, _, h => by cases h with | cons h1 h2 => exact .cons (dp_mono s d _ h1) (dps_mono s ds _ h2)
end
mutual
theorem dp_tups {K : PySem.W.Frag} {H H' : Hp} (s : Tups K H H') : ∀ (d : PyData) (v : V), tupD d = true → Dp K H v d → Dp K H' v d
  | .none, _, _, h => by cases h; exact .non
  | .bool _, _, _, h => by cases h; exact .bl _
  | .int _, _, _, h => by cases h; exact .int _
  | .str _, _, _, h => by cases h; exact .str _
  | .list ds, _, e, _ => by cases e
  | .tuple ds, _, e, h => by cases h with | tup a b => exact .tup (s _ _ a) (dps_tups s ds _ e b)
  | .dict _, _, _, h => by cases h
theorem dps_tups {K : PySem.W.Frag} {H H' : Hp} (s : Tups K H H') : ∀ (ds : List PyData) (vs : List V), tupDs ds = true → DpAll K H vs ds → DpAll K H' vs ds
  | [], _, _, h => by cases h; exact .nil
  | d :: ds, _, e, h => by
    obtain ⟨e1, e2⟩ := (Bool.and_eq_true _ _).mp e
    cases h with | cons h1 h2 => exact .cons (dp_tups s d _ e1 h1) (dps_tups s ds _ e2 h2)
end
theorem DV.same {K : PySem.W.Frag} {w : World} {H H' : Hp} {v : V} {d : PyData} (s : Same H H') (h : DV K w H v d) : DV K w H' v d := by
  rcases h with h | ⟨a, xs, kvs, e, t, ed, p⟩
  · exact .inl (dp_mono s _ _ h)
  · exact .inr ⟨a, xs, kvs, e, t.mono (.same s) (rd_same s _ t.md), ed, Paired.mapP p fun x kv h => ⟨dp_mono s _ _ h.1, dp_mono s _ _ h.2.1, h.2.2⟩⟩
theorem hu64 {n : Nat} (h : n + 70 < cLine) : n + 64 < cLine := by omega
theorem hu65 {n : Nat} (h : n + 70 < cLine) : n + 65 < cLine := by omega
theorem nx_i {D : Ends} {σ : L2.St} {H : Hp} (h : D.nx σ H) : tNext D σ H := h
theorem seq_i {te : TE} {g : TG} {u : TS} {D : Ends} {σ : L2.St} {H : Hp} (h : te σ H fun x H1 => g x σ H1 fun σ' H' => u D σ' H') : tSeq (tAsg te g) u D σ H := h
theorem range_getD {α : Type} (l : List α) (a0 : α) : (List.range l.length).map (fun k => l.getD k a0) = l := by
  refine List.ext_getElem (by simp) fun k h1 h2 => ?_
  rw [List.getElem_map, List.getElem_range, List.getD_eq_getElem?_getD, List.getElem?_eq_getElem h2]
  rfl
theorem pair_zip {α β : Type} {p : α → β → Prop} {l : List α} {ys : List β} (h : Paired p l ys) : ∃ bs : List (α × β), bs.map (·.1) = l ∧ bs.map (·.2) = ys ∧ ∀ b ∈ bs, p b.1 b.2 := by
  induction h with
  | nil => exact ⟨[], rfl, rfl, fun _ h => nomatch h⟩
  | @cons a b l ys h _ ih =>
    obtain ⟨bs, e1, e2, e3⟩ := ih
    refine ⟨(a, b) :: bs, by rw [List.map_cons, e1], by rw [List.map_cons, e2], fun x hx => ?_⟩
    rcases List.mem_cons.mp hx with z | z
    · rw [z]; exact h
    · exact e3 x z
theorem zip_pair {α β : Type} {p : α → β → Prop} {bs : List (α × β)} (h : ∀ b ∈ bs, p b.1 b.2) : Paired p (bs.map (·.1)) (bs.map (·.2)) := by
  induction bs with
  | nil => exact .nil
  | cons b bs ih => exact .cons (h b (by simp)) (ih fun x hx => h x (List.mem_cons_of_mem _ hx))
theorem filt_pairG {α β : Type} {l : List α} (a0 : α) {p : α → β → Prop} {c : α → Bool} {ys : List β} (h : Paired (fun k y => p (l.getD k a0) y) ((List.range l.length).filter fun k => c (l.getD k a0)) ys) : Paired p (l.filter c) ys := by
  have e : l.filter c = ((List.range l.length).filter fun k => c (l.getD k a0)).map fun k => l.getD k a0 := by
    have h1 := List.filter_map (f := fun k => l.getD k a0) (p := c) (l := List.range l.length)
    rw [range_getD] at h1
    exact h1
  rw [e]
  generalize (List.range l.length).filter _ = is at h
  induction h with
  | nil => exact .nil
  | cons h _ ih => exact .cons h ih
theorem pair_dp {K : PySem.W.Frag} {H : Hp} {ds : List PyData} {ys : List V} (h : Paired (fun d y => Dp K H y d) ds ys) : DpAll K H ys ds := by
  induction h with
  | nil => exact .nil
  | cons h _ ih => exact .cons h ih
theorem canAll_iff : ∀ ds : List PyData, PyData.canLayAll0 ds = true ↔ ∀ d ∈ ds, PyData.canLay0 d = true
  | [] => by simp [PyData.canLayAll0]
  | d :: ds => by rw [PyData.canLayAll0, Bool.and_eq_true, canAll_iff ds]; simp
theorem depAll_iff (n : Nat) : ∀ ds : List PyData, PyData.depthAll ds ≤ n ↔ ∀ d ∈ ds, PyData.depth d ≤ n
  | [] => by simp [PyData.depthAll]
  | d :: ds => by
    rw [PyData.depthAll]
    have := depAll_iff n ds
    simp only [List.mem_cons, forall_eq_or_imp, ← this]
    omega
theorem shaped_nil : SeqAt.shaped (.list []) = true := by decide +kernel
theorem shaped_tnil : SeqAt.shaped (.tuple []) = true := by decide +kernel
theorem pair_map {α β : Type} {f : α → β} {l : List α} {ys : List β} (h : Paired (fun k y => y = f k) l ys) : ys = l.map f := by
  induction h with
  | nil => rfl
  | cons h _ ih => rw [h, ih]; rfl
theorem pair_via {α β γ : Type} {f : α → γ} {p : γ → β → Prop} {l : List α} {ys : List β} (h : Paired (fun k y => p (f k) y) l ys) : Paired p (l.map f) ys := by
  induction h with
  | nil => exact .nil
  | cons h _ ih => exact .cons h ih
theorem filter_yes {α : Type} (l : List α) : l.filter (fun _ => true) = l := List.filter_eq_self.mpr fun _ _ => rfl
theorem filter_empty {α : Type} (l : List α) (c : α → Bool) : (l.filter c).isEmpty = l.all fun x => !c x := by
  induction l with
  | nil => rfl
  | cons a l ih =>
    rw [List.filter_cons, List.all_cons]
    cases c a with
    | true => simp
    | false => simpa using ih
theorem cal_i {sp : Sp} {t : TA} {σ : L2.St} {H : Hp} {Q : VK} (h : t σ H fun vs H1 => sp vs H1 Q E0) : tCal sp t σ H Q := h
theorem var_i {i : Nat} {v : V} {σ : L2.St} {H : Hp} {Q : VK} (e : σ[i]? = some (some v)) (h : Q v H) : tVar i σ H Q := ⟨v, e, h⟩
theorem seqp_i {i j : Nat} {ta : TA} {u : TS} {D : Ends} {σ : L2.St} {H : Hp} (h : ta σ H fun vs H1 => ∃ v w, vs = [v, w] ∧ u D ((σ.set i (some v)).set j (some w)) H1) : tSeq (tPar i j ta) u D σ H := h
theorem cons_i {ta : TE} {tr : TA} {σ : L2.St} {H : Hp} {Q : List V → Hp → Prop} (h : ta σ H fun x H1 => tr σ H1 fun xs H2 => Q (x :: xs) H2) : tCons ta tr σ H Q := h
theorem op_i {r : R2} {ta tb : TE} {σ : L2.St} {H : Hp} {Q : VK} (h : ta σ H fun x H1 => tb σ H1 fun y H2 => r x y H2 Q) : tOp r ta tb σ H Q := h
theorem nil_i {σ : L2.St} {H : Hp} {Q : List V → Hp → Prop} (h : Q [] H) : tNil σ H Q := h
theorem gn_i {i : Nat} {v : V} {σ : L2.St} {H : Hp} {Q : L2.St → Hp → Prop} (h : Q (σ.set i (some v)) H) : gName i v σ H Q := h
theorem hu1 {n : Nat} (h : n + 70 < cLine) : n + 1 < cLine := by omega
structure CalG (P : Program) (w : World) (K : PySem.W.Frag) (mg : Str → Option Value) (base : Heap) (k : Nat) (x : Str) (sp : Sp) : Prop where
  at_ : ∃ (f : Addr) (fd : FuncData) (ps : List Str), FnG P w K mg base k f fd ps sp ∧ mg x = some (.ref f) ∧ PySem.W.keepIn K (.ref f) = true ∧ Binds K fd ps []
theorem pe_cg {X : Cx} {k j : Nat} {x : Str} {sp : Sp} {p pos : Pos} {e : Expr} {es : List Expr} {t : TA} (c : CalG X.prog X.w X.K X.mg X.base k x sp) (hgd : X.A.guards = some []) (hr : Room j X.A) (hk : k ≤ j) (hg : Gl X x) (ha : PA X (e :: es) t) (hdb : (x == ("__debug__" : Str)) = false := by decide)
    (he : starEach (e :: es) X.env = (false, eval e X.env) :: starEach es X.env := by rfl) (hpl : (backTo pos (starEach es X.env)).any (·.1) = false := by rfl) : PE X (.Call (.Name x p) (e :: es) [] pos) (tCal sp t) := by
  obtain ⟨f, fd, ps, F, hm, kp, b⟩ := c.at_
  have q := pe_callG (p := p) (pos := pos) F hgd (hr.mono hk) hg hm kp b ha hdb he hpl
  refine ⟨fun pins s σ H Q I h => q.run pins s σ H Q I ?_⟩
  have e : tCall sp [] E0 t = tCal sp t := by funext σ H Q; unfold tCall tCal; simp only [List.append_nil]
  rw [e]
  exact h
structure CalX (P : Program) (w : World) (K : PySem.W.Frag) (mg : Str → Option Value) (base : Heap) (k : Nat) (x : Str) (sp : Sp) : Prop where
  at_ : ∃ (f : Addr) (fd : FuncData) (ps : List Str), FnOk P w K mg base (L2.CX P w) k f fd ps sp ∧ mg x = some (.ref f) ∧ PySem.W.keepIn K (.ref f) = true ∧ Binds K fd ps []
theorem pe_cx {X : Cx} {k j : Nat} {x : Str} {sp : Sp} {p pos : Pos} {e : Expr} {es : List Expr} {t : TA} (c : CalX X.prog X.w X.K X.mg X.base k x sp) (hr : Room j X.A) (hk : k ≤ j) (hg : Gl X x) (ha : PA X (e :: es) t) (hdb : (x == ("__debug__" : Str)) = false := by decide)
    (he : starEach (e :: es) X.env = (false, eval e X.env) :: starEach es X.env := by rfl) (hpl : (backTo pos (starEach es X.env)).any (·.1) = false := by rfl) : PE X (.Call (.Name x p) (e :: es) [] pos) (tCal sp t) := by
  obtain ⟨f, fd, ps, F, hm, kp, b⟩ := c.at_
  have q := pe_callS (p := p) (pos := pos) (E := fun _ => E0) F (hr.mono hk) hg hm kp b (fun σ pins H s e s' I c => passL pins σ H s e s' I c) ha hdb he hpl
  exact q
structure OwnX (K : PySem.W.Frag) (mg : Str → Option Value) (x : Str) (C : Addr) : Prop where
  g : mg x = some (.ref C)
  x : PySem.W.excIn K C [.type "ValueError", .type "Exception", .type "BaseException", .type "object"] "ValueError.__new__" = true
  k : PySem.W.keepIn K (.ref C) = true
  b : PySem.W.subIn K (.ref C) (.type "BaseException") = some true
  t : PySem.W.typeIn K (.ref C) = some (.type "type")
  e : PySem.W.exmOne K (.ref C) (.ref C) = some true
end Fc
namespace Fc
open PySem L2 PyProof.Rows
theorem dv_tup {K : PySem.W.Frag} {w : World} {H : Hp} {v : V} {d : PyData} (h : DV K w H v d) (t : isTy d "tuple" = true) : ∃ a xs ds, v = .ref a ∧ d = .tuple ds ∧ SqT K H a xs ∧ DpAll K H xs ds := by
  obtain ⟨ds, rfl⟩ : ∃ ds, d = .tuple ds := by cases d <;> first | exact ⟨_, rfl⟩ | (simp [isTy, tyName] at t)
  rcases h with h | ⟨_, _, _, _, _, e, _⟩
  · cases h with
    | @tup a xs _ sa da => exact ⟨a, xs, ds, rfl, rfl, sa, da⟩
  · cases e
def oS : Option Str → V
  | none => .non
  | some x => .str x
theorem dp_some {K : PySem.W.Frag} {H : Hp} {xs : List V} {ds : List PyData} (h : DpAll K H xs ds) {k : Nat} (hk : k < ds.length) : xs[k]? = some (xs.getD k .non) := by
  rw [List.getD_eq_getElem?_getD, List.getElem?_eq_getElem (by rw [dp_len h]; exact hk)]; rfl
theorem dec_len {n : Nat} (m : Nat) : decide (V.int (n : Int) = V.int (m : Int)) = decide (n = m) := by
  by_cases c : n = m
  · subst c; simp
  · rw [decide_eq_false c, decide_eq_false (fun e => c (by have := V.int.inj e; omega))]
theorem dec_len2 {n : Nat} : decide (V.int (n : Int) = V.int 2) = decide (n = 2) := dec_len 2
theorem dec_len4 {n : Nat} : decide (V.int (n : Int) = V.int 4) = decide (n = 4) := dec_len 4
/-- a table of kinds -/
def kvK (ks : List (Str × Str)) : List (Key × V) := ks.map fun e => (.inr e.1, .str e.2)
def kindOf (ks : List (Str × Str)) (x : Str) : Option Str := (ks.find? fun e => decide (e.1 = x)).map (·.2)
theorem kvK_val (ks : List (Str × Str)) (x : Str) : (valV (kvK ks) (.inr x)).getD .non = oS (kindOf ks x) := by
  unfold valV kvK kindOf
  induction ks with
  | nil => rfl
  | cons e ks ih =>
    rw [List.map_cons, List.find?_cons, List.find?_cons]
    by_cases c : e.1 = x
    · rw [decide_eq_true (by rw [c]), decide_eq_true c]; rfl
    · rw [decide_eq_false (fun q => c (Sum.inr.inj q)), decide_eq_false c]
      exact ih
def kindD (ks : List (Str × Str)) (d : PyData) : Option Str := match d with | .str x => kindOf ks x | _ => none
abbrev KdsAt (H : Hp) (a : Addr) (ks : List (Str × Str)) : Prop := Rd H a (.dK (kvK ks))
def spKind (K : PySem.W.Frag) (w : World) : Sp := fun vs H Q _ => ∃ a ks v d, vs = [.ref a, v] ∧ KdsAt H a ks ∧ Dp K H v d ∧ Q (oS (kindD ks d)) H
def isPlaceKind : Option Str → Bool
  | some x => decide (x = "position") || decide (x = "length")
  | none => false
def placeW (ks : List (Str × Str)) (own : List Str) (d : PyData) : Bool := match d with
  | .str x => decide (x = "") || (isPlaceKind (kindOf ks x) || decide (x ∈ own))
  | _ => false
def spPlaceW (K : PySem.W.Frag) (w : World) : Sp := fun vs H Q _ => ∃ a ks v d o own, vs = [.ref a, v, .ref o] ∧ KdsAt H a ks ∧ Dp K H v d ∧ SqT K H o (List.map V.str own) ∧ ∀ H', Same H H' → Q (.bl (placeW ks own d)) H'
def placeD (ks : List (Str × Str)) (own : List Str) (d : PyData) : Bool := match d with
  | .tuple [a, b] => placeW ks own a && isNum b
  | _ => false
def spPlaceD (K : PySem.W.Frag) (w : World) : Sp := fun vs H Q _ => ∃ a ks v d o own, vs = [.ref a, v, .ref o] ∧ KdsAt H a ks ∧ DV K w H v d ∧ SqT K H o (List.map V.str own) ∧ ∀ H', Same H H' → Q (.bl (placeD ks own d)) H'
def cellD (ks : List (Str × Str)) (own : List Str) (d : PyData) : Bool := match d with
  | .tuple [a, b, c, e] => decide (kindD ks a = some ("array" : Str)) && (isNum e && (placeW ks own b && isNum c))
  | _ => false
def spCellD (K : PySem.W.Frag) (w : World) : Sp := fun vs H Q _ => ∃ a ks v d o own, vs = [.ref a, v, .ref o] ∧ KdsAt H a ks ∧ DV K w H v d ∧ SqT K H o (List.map V.str own) ∧ ∀ H', Same H H' → Q (.bl (cellD ks own d)) H'
def amountD (ks : List (Str × Str)) (d : PyData) : Bool := match d with
  | .tuple [a, b] => (PyData.eqv a (.str "") || decide (kindD ks a = some ("value" : Str))) && isNum b
  | _ => false
/-- a tuple is shaped -/
def shT (d : PyData) : Prop := isTy d "tuple" = true → SeqAt.shaped d = true
def spAmountD (K : PySem.W.Frag) (w : World) : Sp := fun vs H Q _ => ∃ a ks v d, vs = [.ref a, v] ∧ KdsAt H a ks ∧ DV K w H v d ∧ shT d ∧ ∀ H', Same H H' → Q (.bl (amountD ks d)) H'
theorem inV_str (x : Str) (own : List Str) : inV (.str x) (own.map V.str) = decide (x ∈ own) := by
  unfold inV
  induction own with
  | nil => simp
  | cons y ys ih =>
    rw [List.map_cons, List.any_cons, ih]
    show ((y == x) || _) = _
    by_cases c : x = y
    · subst c; simp
    · have : (y == x) = false := by simp; exact fun q => c q.symm
      rw [this]
      simp [c]
theorem flat_strs (own : List Str) : (own.map V.str).all flatV = true := by
  rw [List.all_map]
  exact List.all_eq_true.mpr fun _ _ => rfl
section
variable {K : PySem.W.Frag} {mg : Str → Option Value} {base : Heap} {P : Program} {w : World}
theorem sc11 : FnScope ["kinds", "word"] ["kinds", "word"] (defScope (topS 11)) := ⟨rfl, rfl, rfl, by decide +kernel, rfl, by decide +kernel, by decide +kernel⟩
theorem ok11 {f : Addr} {fd : FuncData} (F : Fun K "kind_among" "kind_among" (topS 11) f fd) (B : Blt mg) : FnOk P w K mg base CX0 1 f fd ["kinds", "word"] (spKind K w) := by
  refine F.ok sc11 (fun vs H Q E h => ?_) (fun cdv A outer s H vs Q E hr h => ?_)
  · obtain ⟨a, ks, v, d, rfl, _⟩ := h
    rfl
  · have hu := hu70 hr
    refine ⟨_, pss_cons (ps_if (pt_not (pt_val (pe_callB call_isiD (by rfl) B.isinstance boot_isinstance (pa_cons (pv 1) (pa_cons (pe_bltn (v := .ty "str") (by rfl) B.str boot_str rfl) pa_nil))))) (pss_one (ps_ret pe_non)) pss_nil)
      (pss_one (ps_ret (pe_dget1 (hu1 hu) (pv 0) (pv 1) ⟨rfl, rfl, rfl, rfl⟩))), ?_⟩
    obtain ⟨a, ks, v, d, rfl, hk, hd, q⟩ := h
    refine ⟨_, rfl, v, d, _, rfl, .inl hd, .inr (.inr (.inl rfl)), _, rfl, ?_⟩
    cases hd with
    | str x =>
      refine iteF ⟨_, rfl, a, rfl, .inl ⟨_, hk⟩, _, rfl, _, .inl ⟨_, .inr x, hk, rfl, rfl⟩, ?_⟩
      rw [kvK_val]
      exact q
    | non => exact iteT q
    | bl b => exact iteT q
    | int i => exact iteT q
    | lst _ _ => exact iteT q
    | tup _ _ => exact iteT q
theorem sc12 : FnScope ["kinds", "word", "own"] ["kinds", "word", "own"] (defScope (topS 12)) := ⟨rfl, rfl, rfl, by decide +kernel, rfl, by decide +kernel, by decide +kernel⟩
theorem ok12 {f : Addr} {fd : FuncData} (F : Fun K "is_place_word" "is_place_word" (topS 12) f fd) (B : Blt mg) : FnOk P w K mg base CX0 1 f fd ["kinds", "word", "own"] (spPlaceW K w) := by
  refine F.ok sc12 (fun vs H Q E h => ?_) (fun cdv A outer s H vs Q E hr h => ?_)
  · obtain ⟨a, ks, v, d, o, own, rfl, _⟩ := h
    rfl
  · have hu := hu70 hr
    refine ⟨_, pss_cons (ps_if (pt_not (pt_val (pe_callB call_isiD (by rfl) B.isinstance boot_isinstance (pa_cons (pv 1) (pa_cons (pe_bltn (v := .ty "str") (by rfl) B.str boot_str rfl) pa_nil))))) (pss_one (ps_ret pe_bl)) pss_nil)
      (pss_one (ps_ret (pe_or (pe_cmpR op_eq (pv 1) pe_str (nomark _)) (pe_or (pe_cmpR op_in_seq (pe_dget1 (hu1 hu) (pv 0) (pv 1) ⟨rfl, rfl, rfl, rfl⟩) (pe_tup (pa_cons pe_str (pa_cons pe_str pa_nil))) rfl) (pe_one (pe_cmpR op_in_seq (pv 1) (pv 2) rfl)))))), ?_⟩
    obtain ⟨a, ks, v, d, o, own, rfl, hk, hd, ho, q⟩ := h
    refine ⟨_, rfl, v, d, _, rfl, .inl hd, .inr (.inr (.inl rfl)), _, rfl, ?_⟩
    have q0 := q H (Same.refl H)
    cases hd with
    | str x =>
      refine iteF ⟨_, rfl, rfl, _, rfl, ?_⟩
      change Q (.bl (decide (x = "") || (isPlaceKind (kindOf ks x) || decide (x ∈ own)))) H at q0
      replace q : ∀ H', Same H H' → Q (.bl (decide (x = "") || (isPlaceKind (kindOf ks x) || decide (x ∈ own)))) H' := q
      by_cases c : x = ""
      · rw [decide_eq_true (by rw [c])]
        rw [decide_eq_true c] at q0
        exact iteT q0
      · rw [decide_eq_false (fun e => c (V.str.inj e))]
        rw [decide_eq_false c] at q
        refine iteF ⟨_, rfl, a, rfl, .inl ⟨_, hk⟩, _, rfl, _, .inl ⟨_, .inr x, hk, rfl, rfl⟩, ?_⟩
        rw [kvK_val]
        refine ⟨by rw [sizeLine_eq]; exact (by decide : (2 : Nat) ≤ 16777216), fun t ht => ?_⟩
        have s1 := same_new (o := .tup [.str "position", .str "length"]) ht
        refine ⟨t, _, rfl, .inr (.inl (.inl upd_same)), by cases kindOf ks x <;> rfl, rfl, _, rfl, ?_⟩
        have e1 : inV (oS (kindOf ks x)) [.str "position", .str "length"] = isPlaceKind (kindOf ks x) := by
          cases e : kindOf ks x with
          | none => rfl
          | some y =>
            show (("position" : Str) == y || (("length" : Str) == y || false)) = (decide (y = "position") || decide (y = "length"))
            rw [Bool.or_false]
            congr 1
            · by_cases c : y = "position"
              · subst c; simp
              · rw [decide_eq_false c]; simp; exact fun q => c q.symm
            · by_cases c : y = "length"
              · subst c; simp
              · rw [decide_eq_false c]; simp; exact fun q => c q.symm
        simp only [Bool.false_eq_true, if_false]
        rw [e1]
        cases e : isPlaceKind (kindOf ks x) with
        | true =>
          rw [e] at q
          exact iteT (q _ s1)
        | false =>
          rw [e] at q
          refine iteF ⟨_, rfl, _, rfl, o, _, rfl, .inr (Tups.same s1 _ _ ho), rfl, flat_strs own, ?_⟩
          simp only [Bool.false_eq_true, if_false]
          rw [inV_str]
          exact q _ s1
    | non => exact iteT q0
    | bl b => exact iteT q0
    | int i => exact iteT q0
    | lst _ _ => exact iteT q0
    | tup _ _ => exact iteT q0
theorem sc13 : FnScope ["kinds", "value", "own"] ["kinds", "value", "own"] (defScope (topS 13)) := ⟨rfl, rfl, rfl, by decide +kernel, rfl, by decide +kernel, by decide +kernel⟩
theorem placeD_no (ks : List (Str × Str)) (own : List Str) (ds : List PyData) (h : ds.length ≠ 2) : placeD ks own (.tuple ds) = false := by
  match ds with
  | [] => rfl
  | [_] => rfl
  | [_, _] => exact absurd rfl h
  | _ :: _ :: _ :: _ => rfl
theorem nt_place (ks : List (Str × Str)) (own : List Str) (d : PyData) (h : isTy d "tuple" = false) : placeD ks own d = false := by cases d <;> first | rfl | (rw [isTy_tupF] at h; cases h)
theorem ok13 {f : Addr} {fd : FuncData} (F : Fun K "is_position_pair" "is_position_pair" (topS 13) f fd) (B : Blt mg) (c12 : Cal P w K mg base 1 "is_place_word" (spPlaceW K w)) (c9 : Cal P w K mg base 2 "is_passed_integer" (spPassed K w)) : FnOk P w K mg base CX0 3 f fd ["kinds", "value", "own"] (spPlaceD K w) := by
  refine F.ok sc13 (fun vs H Q E h => ?_) (fun cdv A outer s H vs Q E hr h => ?_)
  · obtain ⟨a, ks, v, d, o, own, rfl, _⟩ := h
    rfl
  · have hu := hu70 hr
    refine ⟨_, pss_cons (ps_if (pw_or (pt_not (pt_val (pe_callB call_isiD (by rfl) B.isinstance boot_isinstance (pa_cons (pv 1) (pa_cons (pe_bltn (v := .ty "tuple") (by rfl) B.tuple boot_tuple rfl) pa_nil)))))
        (pw_or1 (pt_cmpR op_ne (pe_callB call_len_seq (by rfl) B.len boot_len (pa_cons (pv 1) pa_nil)) pe_int (nomark _)))).pt (pss_one (ps_ret pe_bl)) pss_nil)
      (pss_one (ps_ret (pe_and (pe_c c12 hr (by decide) (by rfl) (pa_cons (pv 0) (pa_cons (pe_ix (r := rIxT K) ix_tup (pv 1) pe_int (fun _ _ => rfl)) (pa_cons (pv 2) pa_nil))))
        (pe_one (pe_c c9 hr (by decide) (by rfl) (pa_cons (pe_ix (r := rIxT K) ix_tup (pv 1) pe_int (fun _ _ => rfl)) pa_nil)))))), ?_⟩
    obtain ⟨a, ks, v, d, o, own, rfl, hk, hd, ho, q⟩ := h
    refine ⟨_, rfl, v, d, _, rfl, hd, .inr (.inr (.inr (.inl rfl))), _, rfl, ?_⟩
    have q0 := q H (Same.refl H)
    by_cases ht : isTy d "tuple" = true
    · rw [ht]
      obtain ⟨b, xs, ds, rfl, rfl, sa, da⟩ := dv_tup hd ht
      have le := dp_len da
      refine iteF ⟨_, rfl, b, xs, rfl, .inr sa, rfl, _, rfl, ?_⟩
      rw [le]
      by_cases c : ds.length = 2
      · rw [dec_len2, decide_eq_true c]
        obtain ⟨x, y, rfl⟩ : ∃ x y, ds = [x, y] := by
          match ds, c with
          | [x, y], _ => exact ⟨x, y, rfl⟩
        refine iteF ⟨_, rfl, _, rfl, b, xs, 0, _, rfl, rfl, sa, atI_nat (j := 0) (dp_some da (by decide : 0 < 2)), _, rfl, a, ks, _, x, o, own, rfl, hk, dp_at da (by decide : 0 < 2), ho, fun H1 s1 => ⟨_, rfl, ?_⟩⟩
        have q1 := q H1 s1
        change Q (.bl (placeW ks own x && isNum y)) H1 at q1
        cases e : placeW ks own x with
        | false => rw [e] at q1; exact iteF q1
        | true =>
          rw [e] at q1
          exact iteT ⟨_, rfl, b, xs, 1, _, rfl, rfl, Tups.same s1 _ _ sa, atI_nat (j := 1) (dp_some da (by decide : 1 < 2)), _, y, rfl, dp_mono s1 _ _ (dp_at da (by decide : 1 < 2)), q1⟩
      · rw [dec_len2, decide_eq_false c]
        rw [placeD_no ks own ds c] at q0
        exact iteT q0
    · rw [Bool.eq_false_iff.mpr ht]
      rw [nt_place ks own d (Bool.eq_false_iff.mpr ht)] at q0
      exact iteT q0
theorem cellD_no (ks : List (Str × Str)) (own : List Str) (ds : List PyData) (h : ds.length ≠ 4) : cellD ks own (.tuple ds) = false := by
  match ds with
  | [] => rfl
  | [_] => rfl
  | [_, _] => rfl
  | [_, _, _] => rfl
  | [_, _, _, _] => exact absurd rfl h
  | _ :: _ :: _ :: _ :: _ :: _ => rfl
theorem nt_cell (ks : List (Str × Str)) (own : List Str) (d : PyData) (h : isTy d "tuple" = false) : cellD ks own d = false := by cases d <;> first | rfl | (rw [isTy_tupF] at h; cases h)
theorem amountD_no (ks : List (Str × Str)) (ds : List PyData) (h : ds.length ≠ 2) : amountD ks (.tuple ds) = false := by
  match ds with
  | [] => rfl
  | [_] => rfl
  | [_, _] => exact absurd rfl h
  | _ :: _ :: _ :: _ => rfl
theorem nt_amount (ks : List (Str × Str)) (d : PyData) (h : isTy d "tuple" = false) : amountD ks d = false := by cases d <;> first | rfl | (rw [isTy_tupF] at h; cases h)
theorem oS_eq (o : Option Str) (y : Str) : decide (oS o = V.str y) = decide (o = some y) := by
  cases o with
  | none => rfl
  | some x =>
    by_cases c : x = y
    · subst c
      rw [decide_eq_true rfl]
      exact decide_eq_true rfl
    · rw [decide_eq_false (fun e : some x = some y => c (Option.some.inj e))]
      exact decide_eq_false fun e : V.str x = V.str y => c (V.str.inj e)
theorem shaped_mem {ds : List PyData} (h : SeqAt.shaped (.tuple ds) = true) {d : PyData} (hd : d ∈ ds) : SeqAt.shaped d = true := by
  have h1 := SeqAt.canLay_of_shaped h
  have h2 := SeqAt.depth_of_shaped h
  have c : d.canLay0 = true := (canAll_iff ds).mp h1 d hd
  have e : d.depth ≤ 64 := by
    have q := (depAll_iff 63 ds).mp (by
      have : PyData.depthAll ds + 1 ≤ 64 := h2
      omega) d hd
    omega
  show (d.canLay0 && decide (d.depth ≤ 64)) = true
  rw [c, decide_eq_true e]
  rfl
theorem oS_scal (o : Option Str) (y : Str) : scal (oS o) (.str y) = true := by cases o <;> rfl
theorem cut13 (xs : List V) (x0 x1 x2 x3 : V) (h : xs = [x0, x1, x2, x3]) : cutV xs (some 1) (some 3) = [x1, x2] := by subst h; rfl
theorem sc14 : FnScope ["kinds", "value", "own"] ["kinds", "value", "own"] (defScope (topS 14)) := ⟨rfl, rfl, rfl, by decide +kernel, rfl, by decide +kernel, by decide +kernel⟩
theorem ok14 {f : Addr} {fd : FuncData} (F : Fun K "is_cell" "is_cell" (topS 14) f fd) (B : Blt mg) (c11 : Cal P w K mg base 1 "kind_among" (spKind K w)) (c13 : Cal P w K mg base 3 "is_position_pair" (spPlaceD K w)) (c9 : Cal P w K mg base 2 "is_passed_integer" (spPassed K w)) : FnOk P w K mg base CX0 4 f fd ["kinds", "value", "own"] (spCellD K w) := by
  refine F.ok sc14 (fun vs H Q E h => ?_) (fun cdv A outer s H vs Q E hr h => ?_)
  · obtain ⟨a, ks, v, d, o, own, rfl, _⟩ := h
    rfl
  · have hu := hu70 hr
    refine ⟨_, pss_cons (ps_if (pw_or (pt_not (pt_val (pe_callB call_isiD (by rfl) B.isinstance boot_isinstance (pa_cons (pv 1) (pa_cons (pe_bltn (v := .ty "tuple") (by rfl) B.tuple boot_tuple rfl) pa_nil)))))
        (pw_or1 (pt_cmpR op_ne (pe_callB call_len_seq (by rfl) B.len boot_len (pa_cons (pv 1) pa_nil)) pe_int (nomark _)))).pt (pss_one (ps_ret pe_bl)) pss_nil)
      (pss_cons (ps_if (pw_or (pt_cmpR op_ne (pe_c c11 hr (by decide) (by rfl) (pa_cons (pv 0) (pa_cons (pe_ix (r := rIxT K) ix_tup (pv 1) pe_int (fun _ _ => rfl)) pa_nil))) pe_str (nomark _))
        (pw_or1 (pt_not (pt_val (pe_c c9 hr (by decide) (by rfl) (pa_cons (pe_ix (r := rIxT K) ix_tup (pv 1) pe_int (fun _ _ => rfl)) pa_nil)))))).pt (pss_one (ps_ret pe_bl)) pss_nil)
      (pss_one (ps_ret (pe_c c13 hr (by decide) (by rfl) (pa_cons (pv 0) (pa_cons (pe_slice sl_tupA (pv 1) (po_some pe_int) (po_some pe_int)) (pa_cons (pv 2) pa_nil))))))), ?_⟩
    obtain ⟨a, ks, v, d, o, own, rfl, hk, hd, ho, q⟩ := h
    refine ⟨_, rfl, v, d, _, rfl, hd, .inr (.inr (.inr (.inl rfl))), _, rfl, ?_⟩
    have q0 := q H (Same.refl H)
    by_cases ht : isTy d "tuple" = true
    · rw [ht]
      obtain ⟨b, xs, ds, rfl, rfl, sa, da⟩ := dv_tup hd ht
      have le := dp_len da
      refine iteF ⟨_, rfl, b, xs, rfl, .inr sa, rfl, _, rfl, ?_⟩
      rw [le]
      by_cases c : ds.length = 4
      · rw [dec_len4, decide_eq_true c]
        obtain ⟨x, y, z, u, rfl⟩ : ∃ x y z u, ds = [x, y, z, u] := by
          match ds, c with
          | [x, y, z, u], _ => exact ⟨x, y, z, u, rfl⟩
        have h0 := dp_some da (by decide : 0 < 4)
        have h1 := dp_some da (by decide : 1 < 4)
        have h2 := dp_some da (by decide : 2 < 4)
        have h3 := dp_some da (by decide : 3 < 4)
        refine iteF ⟨_, rfl, _, rfl, b, xs, 0, _, rfl, rfl, sa, atI_nat (j := 0) h0, a, ks, _, x, rfl, hk, dp_at da (by decide : 0 < 4), oS_scal _ _, _, rfl, ?_⟩
        rw [oS_eq]
        change Q (.bl (decide (kindD ks x = some ("array" : Str)) && (isNum u && (placeW ks own y && isNum z)))) H at q0
        replace q : ∀ H', Same H H' → Q (.bl (decide (kindD ks x = some ("array" : Str)) && (isNum u && (placeW ks own y && isNum z)))) H' := q
        by_cases cx : kindD ks x = some ("array" : Str)
        · rw [decide_eq_true cx] at q0 q ⊢
          refine iteF ⟨_, rfl, b, xs, 3, _, rfl, rfl, sa, atI_nat (j := 3) h3, _, u, rfl, dp_at da (by decide : 3 < 4), _, rfl, ?_⟩
          cases e : isNum u with
          | false => rw [e] at q0; exact iteT q0
          | true =>
            rw [e] at q
            refine iteF ⟨_, rfl, _, rfl, 1, rfl, 3, rfl, b, xs, rfl, sa, fun hc => ?_, fun _ p hp => ?_⟩
            · exfalso
              have := hc.1
              rw [le] at this
              exact absurd this (by show HT.sIx 4 0 (some 1) ≠ 0; decide)
            · have ex : xs = [xs.getD 0 .non, xs.getD 1 .non, xs.getD 2 .non, xs.getD 3 .non] := by
                have l4 : xs.length = 4 := le
                match xs, l4 with
                | [x0, x1, x2, x3], _ => rfl
              rw [cut13 xs _ _ _ _ ex]
              have s1 := same_new (o := .tup [xs.getD 1 .non, xs.getD 2 .non]) hp
              refine ⟨_, rfl, a, ks, _, .tuple [y, z], o, own, rfl, rd_same s1 _ hk, .inl (.tup (.inl (.inl upd_same)) (.cons (dp_mono s1 _ _ (dp_at da (by decide : 1 < 4))) (.cons (dp_mono s1 _ _ (dp_at da (by decide : 2 < 4))) .nil))), Tups.same s1 _ _ ho, fun H' s' => ?_⟩
              exact q H' (s1.trans s')
        · rw [decide_eq_false cx] at q0 ⊢
          exact iteT q0
      · rw [dec_len4, decide_eq_false c]
        rw [cellD_no ks own ds c] at q0
        exact iteT q0
    · rw [Bool.eq_false_iff.mpr ht]
      rw [nt_cell ks own d (Bool.eq_false_iff.mpr ht)] at q0
      exact iteT q0
theorem sc15 : FnScope ["kinds", "value"] ["kinds", "value"] (defScope (topS 15)) := ⟨rfl, rfl, rfl, by decide +kernel, rfl, by decide +kernel, by decide +kernel⟩
theorem ok15 {f : Addr} {fd : FuncData} (F : Fun K "is_amount_pair" "is_amount_pair" (topS 15) f fd) (B : Blt mg) (c11 : Cal P w K mg base 1 "kind_among" (spKind K w)) (c9 : Cal P w K mg base 2 "is_passed_integer" (spPassed K w)) : FnOk P w K mg base CX0 3 f fd ["kinds", "value"] (spAmountD K w) := by
  refine F.ok sc15 (fun vs H Q E h => ?_) (fun cdv A outer s H vs Q E hr h => ?_)
  · obtain ⟨a, ks, v, d, rfl, _⟩ := h
    rfl
  · have hu := hu70 hr
    refine ⟨_, pss_cons (ps_if (pw_or (pt_not (pt_val (pe_callB call_isiD (by rfl) B.isinstance boot_isinstance (pa_cons (pv 1) (pa_cons (pe_bltn (v := .ty "tuple") (by rfl) B.tuple boot_tuple rfl) pa_nil)))))
        (pw_or1 (pt_cmpR op_ne (pe_callB call_len_seq (by rfl) B.len boot_len (pa_cons (pv 1) pa_nil)) pe_int (nomark _)))).pt (pss_one (ps_ret pe_bl)) pss_nil)
      (pss_cons (ps_if (pw_and (pt_cmpR (op_neD (hu64 hu)) (pe_ix (r := rIxT K) ix_tup (pv 1) pe_int (fun _ _ => rfl)) pe_str (nomark _)) (pw_and1 (pt_cmpR op_ne (pe_c c11 hr (by decide) (by rfl) (pa_cons (pv 0) (pa_cons (pe_ix (r := rIxT K) ix_tup (pv 1) pe_int (fun _ _ => rfl)) pa_nil))) pe_str (nomark _)))).pt (pss_one (ps_ret pe_bl)) pss_nil)
      (pss_one (ps_ret (pe_c c9 hr (by decide) (by rfl) (pa_cons (pe_ix (r := rIxT K) ix_tup (pv 1) pe_int (fun _ _ => rfl)) pa_nil))))), ?_⟩
    obtain ⟨a, ks, v, d, rfl, hk, hd, hsh, q⟩ := h
    refine ⟨_, rfl, v, d, _, rfl, hd, .inr (.inr (.inr (.inl rfl))), _, rfl, ?_⟩
    have q0 := q H (Same.refl H)
    by_cases ht : isTy d "tuple" = true
    · rw [ht]
      obtain ⟨b, xs, ds, rfl, rfl, sa, da⟩ := dv_tup hd ht
      have le := dp_len da
      refine iteF ⟨_, rfl, b, xs, rfl, .inr sa, rfl, _, rfl, ?_⟩
      rw [le]
      by_cases c : ds.length = 2
      · rw [dec_len2, decide_eq_true c]
        obtain ⟨x, y, rfl⟩ : ∃ x y, ds = [x, y] := by
          match ds, c with
          | [x, y], _ => exact ⟨x, y, rfl⟩
        have h0 := dp_some da (by decide : 0 < 2)
        have h1 := dp_some da (by decide : 1 < 2)
        have sx : SeqAt.shaped x = true := shaped_mem (hsh ht) (by simp)
        refine iteF ⟨_, rfl, b, xs, 0, _, rfl, rfl, sa, atI_nat (j := 0) h0, x, .str "", dp_at da (by decide : 0 < 2), .str _, sx, by decide +kernel, _, rfl, ?_⟩
        change Q (.bl ((PyData.eqv x (.str "") || decide (kindD ks x = some ("value" : Str))) && isNum y)) H at q0
        cases e1 : PyData.eqv x (.str "") with
        | true =>
          rw [e1] at q0
          exact iteF ⟨_, rfl, b, xs, 1, _, rfl, rfl, sa, atI_nat (j := 1) h1, _, y, rfl, dp_at da (by decide : 1 < 2), q0⟩
        | false =>
          rw [e1] at q0
          refine iteT ⟨_, rfl, _, rfl, b, xs, 0, _, rfl, rfl, sa, atI_nat (j := 0) h0, a, ks, _, x, rfl, hk, dp_at da (by decide : 0 < 2), oS_scal _ _, _, rfl, ?_⟩
          rw [oS_eq]
          by_cases cx : kindD ks x = some ("value" : Str)
          · rw [decide_eq_true cx] at q0 ⊢
            exact iteF ⟨_, rfl, b, xs, 1, _, rfl, rfl, sa, atI_nat (j := 1) h1, _, y, rfl, dp_at da (by decide : 1 < 2), q0⟩
          · rw [decide_eq_false cx] at q0 ⊢
            exact iteT q0
      · rw [dec_len2, decide_eq_false c]
        rw [amountD_no ks ds c] at q0
        exact iteT q0
    · rw [Bool.eq_false_iff.mpr ht]
      rw [nt_amount ks d (Bool.eq_false_iff.mpr ht)] at q0
      exact iteT q0
end
end Fc
namespace Fc
open PySem L2 PyProof.Rows
theorem atI_last {α : Type} (ys : List α) (y : α) : atI (ys ++ [y]) (-1) = some y := by
  unfold atI ixN
  rw [if_neg (by decide : ¬ (0 : Int) ≤ -1)]
  have l : (ys ++ [y]).length = ys.length + 1 := by simp
  rw [l]
  rw [if_pos (by omega)]
  have e : ((-1 : Int) + ((ys.length + 1 : Nat) : Int)).toNat = ys.length := by omega
  show (ys ++ [y])[((-1 : Int) + ((ys.length + 1 : Nat) : Int)).toNat]? = some y
  rw [e]
  simp
theorem cut_last (ys : List V) (y : V) : cutV (ys ++ [y]) none (some (-1)) = ys := by
  unfold cutV
  have l : (ys ++ [y]).length = ys.length + 1 := by simp
  have e0 : HT.sIx (ys ++ [y]).length 0 none = 0 := rfl
  have e1 : HT.sIx (ys ++ [y]).length (ys ++ [y]).length (some (-1)) = ys.length := by
    show (if (-1 : Int) < 0 then ((-1 : Int) + ((ys ++ [y]).length : Int)).toNat else min (-1 : Int).toNat (ys ++ [y]).length) = ys.length
    rw [if_pos (by decide), l]
    omega
  rw [e0, e1]
  simp
theorem dps_app {K : PySem.W.Frag} {H : Hp} {xs ys : List V} {ds es : List PyData} (h : DpAll K H xs ds) (g : DpAll K H ys es) : DpAll K H (xs ++ ys) (ds ++ es) := by
  induction ds generalizing xs with
  | nil => cases h; exact g
  | cons d ds ih => cases h with | cons a b => exact .cons a (ih b)
theorem dps_split {K : PySem.W.Frag} {H : Hp} {d : PyData} : ∀ {ds : List PyData} {xs : List V}, DpAll K H xs (ds ++ [d]) → ∃ ys y, xs = ys ++ [y] ∧ DpAll K H ys ds ∧ Dp K H y d
  | [], xs, h => by
    cases h with
    | cons a b => cases b; exact ⟨[], _, rfl, .nil, a⟩
  | e :: ds, xs, h => by
    cases h with
    | cons a b =>
      obtain ⟨ys, y, e1, e2, e3⟩ := dps_split (ds := ds) b
      exact ⟨_ :: ys, y, by rw [e1]; rfl, .cons a e2, e3⟩
/-- a term with so much more -/
def spMore (K : PySem.W.Frag) (w : World) : Sp := fun vs H Q _ => ∃ a ds i s, vs = [.ref a, .int s] ∧ Dp K H (.ref a) (.tuple (ds ++ [.int i])) ∧ ds.length ≤ 100 ∧ ∀ H' p, Same H H' → Dp K H' (.ref p) (.tuple (ds ++ [.int (i + s)])) → Q (.ref p) H'
section
variable {K : PySem.W.Frag} {mg : Str → Option Value} {base : Heap} {P : Program} {w : World}
theorem sc16 : FnScope ["term", "shift"] ["term", "shift"] (defScope (topS 16)) := ⟨rfl, rfl, rfl, by decide +kernel, rfl, by decide +kernel, by decide +kernel⟩
theorem ok16 {f : Addr} {fd : FuncData} (F : Fun K "shifted_term" "shifted_term" (topS 16) f fd) : FnOk P w K mg base CX0 1 f fd ["term", "shift"] (spMore K w) := by
  refine F.ok sc16 (fun vs H Q E h => ?_) (fun cdv A outer s H vs Q E hr h => ?_)
  · obtain ⟨a, ds, i, s, rfl, _⟩ := h
    rfl
  · refine ⟨_, pss_one (ps_ret (pe_op op_catA (pe_slice sl_tupA (pv 0) po_none (po_some (pe_un un_neg pe_int))) (pe_tup (pa_cons (pe_op op_add (pe_ix (r := rIxT K) ix_tup (pv 0) (pe_un un_neg pe_int) (fun _ _ => rfl)) (pv 1)) pa_nil)))), ?_⟩
    obtain ⟨a, ds, i, z, rfl, hd, hl, q⟩ := h
    cases hd with
    | @tup _ xs _ sa da =>
      obtain ⟨ys, y, rfl, dy, dl⟩ := dps_split da
      cases dl
      have ly := dp_len dy
      refine ⟨_, rfl, 1, rfl, _, rfl, a, _, rfl, sa, fun hc => ?_, fun _ p hp => ?_⟩
      · exfalso
        have h2 := hc.2
        have e1 : HT.sIx (ys ++ [V.int i]).length (ys ++ [V.int i]).length (some (-1)) = ys.length := by
          have l : (ys ++ [V.int i]).length = ys.length + 1 := by simp
          show (if (-1 : Int) < 0 then ((-1 : Int) + ((ys ++ [V.int i]).length : Int)).toNat else min (-1 : Int).toNat (ys ++ [V.int i]).length) = ys.length
          rw [if_pos (by decide), l]
          omega
        have h3 : ys.length = (ys ++ [V.int i]).length := e1.symm.trans h2
        simp at h3
      · have ec2 : cutV (ys ++ [V.int i]) none (some (-1)) = ys := cut_last ys _
        rw [ec2]
        have s1 := same_new (o := .tup ys) hp
        refine ⟨_, rfl, 1, rfl, a, _, -1, V.int i, rfl, rfl, Tups.same s1 _ _ sa, atI_last ys _, _, rfl, i, z, rfl, rfl, by rw [sizeLine_eq]; exact (by decide : (1 : Nat) ≤ 16777216), fun t ht => ?_⟩
        have s2 := same_new (o := .tup [.int (i + z)]) ht
        have d2 := dps_mono (s1.trans s2) _ _ dy
        refine ⟨p, t, ys, [.int (i + z)], rfl, rfl, Tups.same s2 _ _ (.inl (.inl upd_same)), .inl (.inl upd_same), by rw [sizeLine_eq]; simp; omega, fun e => ?_, fun _ e => (by cases e), fun _ _ r hr => ?_⟩
        · subst e
          cases dy
          exact q _ t (s1.trans s2) (.tup (.inl (.inl upd_same)) (.cons (.int _) .nil))
        · have s3 := same_new (o := .tup (ys ++ [.int (i + z)])) hr
          exact q _ r ((s1.trans s2).trans s3) (.tup (.inl (.inl upd_same)) (dps_app (dps_mono s3 _ _ d2) (.cons (.int _) .nil)))
end
end Fc
namespace Fc
open PySem L2 PyProof.Rows
/-! o.m(e, .., k = v, ..) -/
def tMethN (C : Addr) (m : Str) (n j : Nat) (sp : Sp) (gV : List V → List V → List V) (E : XK) (ta : TE) (t tk : TA) : TE := fun σ H Q => ta σ H fun x H1 => ∃ a dx fs, x = .ref a ∧ H1 a = some (.ins C dx fs) ∧ fs.lookup m = none ∧
  t σ H1 fun vs H2 => tk σ H2 fun zs H3 => vs.length = n ∧ zs.length = j ∧ sp (gV (x :: vs) zs) H3 Q E
section
variable {X : Cx} {CX : CXT} {k n : Nat} {f C : Addr} {fd : FuncData} {ps ks : List Str} {sp : Sp} {E : XK} {m : Str} {pos apos : Pos} {o e : Expr} {es : List Expr} {kws : List Keyword} {ta : TE} {t tk : TA} {g : List Value → List Value → List Value} {gV : List V → List V → List V}
theorem pe_methN {pl : Sem Bool} (he : PE X o ta) (c : Cls X.K C) (hm : Meth X.K C m f) (F : FnOk X.prog X.w X.K X.mg X.base CX k f fd ps sp) (hr : Room k X.A) (hb : KBn X.K fd ps (n + 1) ks g gV) (hx : Passes CX X E) (ha : PA X (e :: es) t) (hkw : PK X kws tk)
    (hall : (backToKw pos (keywordEach kws X.env)).all (·.1.isSome) = true := by rfl) (hks : (backToKw pos (keywordEach kws X.env)).filterMap (·.1) = ks := by rfl)
    (hst : starEach (e :: es) X.env = (false, eval e X.env) :: starEach es X.env := by rfl) (hpl : ((backTo pos (starEach (e :: es) X.env)).any (·.1) || (backToKw pos (keywordEach kws X.env)).any (·.1.isNone)) = false := by rfl)
    (ht : eval (.Call (.Attribute o m apos) (e :: es) kws pos) X.env = (do
      let ov ← eval o X.env
      standAt apos.atName
      let (f, first) ← holding [ov] (getMethod ov m pl)
      callWith pos f first (backTo pos (starEach (e :: es) X.env)) (backToKw pos (keywordEach kws X.env))) := by rfl) :
    PE X (.Call (.Attribute o m apos) (e :: es) kws pos) (tMethN C m n ks.length sp gV E ta t tk) := by
  refine ⟨fun pins s σ H Q I h => ?_⟩
  refine PySem.W.methodCall_KW (pl := pl) (thn (he.run pins s σ H _ I h) fun u s1 ⟨x, H1, I1, rx, a, dx, fs, ex, ea, l, q⟩ => ?_) ht
  subst ex
  obtain rfl : u = Value.ref a := rx
  refine getmeth_ok I1 ea c hm l ?_
  refine PySem.W.callWith_KW (first := [.ref a]) (h₀ := X.base) I.ok.mod.kin hm.kp hall (thn (ha.run pos pins s1 σ H1 _ I1 q) fun us s2 ⟨vs, H2, I2, r, q2⟩ => ?_) hpl hst
  refine thn (hkw.run pos pins s2 σ H2 _ I2 q2) fun ws s3 ⟨zs, H3, I3, rz, l1, l2, q3⟩ => ⟨I3.kIn, ?_⟩
  rw [hks]
  exact run_fnN (us := .ref a :: us) (vs := .ref a :: vs) F hr hb hx I3 (.cons rfl r) rz (by rw [List.length_cons, l1]) l2 q3
theorem pe_methN0 {pl : Sem Bool} (he : PE X o ta) (c : Cls X.K C) (hm : Meth X.K C m f) (F : FnOk X.prog X.w X.K X.mg X.base CX k f fd ps sp) (hr : Room k X.A) (hb : KBn X.K fd ps 1 ks g gV) (hx : Passes CX X E) (hkw : PK X kws tk)
    (hall : (backToKw pos (keywordEach kws X.env)).all (·.1.isSome) = true := by rfl) (hks : (backToKw pos (keywordEach kws X.env)).filterMap (·.1) = ks := by rfl)
    (hpl : ((backTo pos (starEach [] X.env)).any (·.1) || (backToKw pos (keywordEach kws X.env)).any (·.1.isNone)) = false := by rfl)
    (ht : eval (.Call (.Attribute o m apos) [] kws pos) X.env = (do
      let ov ← eval o X.env
      standAt apos.atName
      let (f, first) ← holding [ov] (getMethod ov m pl)
      callWith pos f first (backTo pos (starEach [] X.env)) (backToKw pos (keywordEach kws X.env))) := by rfl) :
    PE X (.Call (.Attribute o m apos) [] kws pos) (tMethN C m 0 ks.length sp gV E ta tNil tk) := by
  refine ⟨fun pins s σ H Q I h => ?_⟩
  refine PySem.W.methodCall_KW (pl := pl) (thn (he.run pins s σ H _ I h) fun u s1 ⟨x, H1, I1, rx, a, dx, fs, ex, ea, l, q⟩ => ?_) ht
  subst ex
  obtain rfl : u = Value.ref a := rx
  refine getmeth_ok I1 ea c hm l ?_
  refine PySem.W.callWith_KW0 (first := [.ref a]) (h₀ := X.base) I.ok.mod.kin hm.kp hall ?_ hpl
  refine thn (hkw.run pos pins s1 σ H1 _ I1 q) fun ws s3 ⟨zs, H3, I3, rz, l1, l2, q3⟩ => ⟨I3.kIn, ?_⟩
  rw [hks]
  exact run_fnN (us := [.ref a]) (vs := [.ref a]) F hr hb hx I3 (.cons rfl .nil) rz rfl l2 q3
end
/-! ### a frame's parts -/
structure Pa where
  arrays : List (Str × Str)
  pos : List Str
  vals : List Str
  deriving DecidableEq
def addS (l : List Str) (x : Str) : List Str := if x ∈ l then l else l ++ [x]
/-- the different lengths, in order -/
def lensOf (as : List (Str × Str)) : List Str := as.foldl (fun l e => addS l e.2) []
def namesL (P : Pa) : List Str := P.arrays.map (·.1) ++ (lensOf P.arrays ++ (P.pos ++ P.vals))
def kindsL (P : Pa) : List (Str × Str) := P.arrays.map (fun e => (e.1, ("array" : Str))) ++ ((lensOf P.arrays).map (fun x => (x, ("length" : Str))) ++ (P.pos.map (fun x => (x, ("position" : Str))) ++ P.vals.map (fun x => (x, ("value" : Str)))))
/-- parts of which there is a frame -/
structure PaOk (P : Pa) : Prop where
  nd : (namesL P).Nodup
  na : P.arrays.length ≤ 12
  np : P.pos.length ≤ 8
  nv : P.vals.length ≤ 6
  nm : ∀ x ∈ namesL P, isNameS x = true
def dS (xs : List Str) : PyData := .tuple (xs.map .str)
def dA (as : List (Str × Str)) : PyData := .tuple (as.map fun e => .tuple [.str e.1, .str e.2])
theorem kind_find (ks : List (Str × Str)) (nd : (ks.map (·.1)).Nodup) (x y : Str) : kindOf ks x = some y ↔ (x, y) ∈ ks := by
  unfold kindOf
  induction ks with
  | nil => simp
  | cons e ks ih =>
    rw [List.map_cons, List.nodup_cons] at nd
    rw [List.find?_cons]
    by_cases c : e.1 = x
    · rw [decide_eq_true c]
      show some e.2 = some y ↔ _
      constructor
      · intro h
        have : e = (x, y) := by obtain ⟨e1, e2⟩ := e; cases c; cases h; rfl
        rw [this]; exact List.mem_cons_self
      · intro h
        rcases List.mem_cons.mp h with h | h
        · rw [← h]
        · exact absurd (List.mem_map.mpr ⟨_, h, rfl⟩) (by rw [← c]; exact nd.1)
    · rw [decide_eq_false c]
      refine (ih nd.2).trans ?_
      constructor
      · exact fun h => List.mem_cons_of_mem _ h
      · intro h
        rcases List.mem_cons.mp h with h | h
        · rw [← h] at c; exact absurd rfl c
        · exact h
theorem kinds_keys (P : Pa) : (kindsL P).map (·.1) = namesL P := by
  unfold kindsL namesL
  simp only [List.map_append, List.map_map]
  congr 1
  congr 1
  · exact List.map_id _
  · congr 1 <;> exact List.map_id _
theorem kind_iff {P : Pa} (ok : PaOk P) (x y : Str) : kindOf (kindsL P) x = some y ↔ (y = "array" ∧ x ∈ P.arrays.map (·.1)) ∨ (y = "length" ∧ x ∈ lensOf P.arrays) ∨ (y = "position" ∧ x ∈ P.pos) ∨ (y = "value" ∧ x ∈ P.vals) := by
  rw [kind_find _ (by rw [kinds_keys]; exact ok.nd)]
  unfold kindsL
  simp only [List.mem_append, List.mem_map, Prod.mk.injEq]
  constructor
  · rintro (⟨e, h, rfl, rfl⟩ | ⟨z, h, rfl, rfl⟩ | ⟨z, h, rfl, rfl⟩ | ⟨z, h, rfl, rfl⟩)
    · exact .inl ⟨rfl, e, h, rfl⟩
    · exact .inr (.inl ⟨rfl, h⟩)
    · exact .inr (.inr (.inl ⟨rfl, h⟩))
    · exact .inr (.inr (.inr ⟨rfl, h⟩))
  · rintro (⟨rfl, e, h, rfl⟩ | ⟨rfl, h⟩ | ⟨rfl, h⟩ | ⟨rfl, h⟩)
    · exact .inl ⟨e, h, rfl, rfl⟩
    · exact .inr (.inl ⟨_, h, rfl, rfl⟩)
    · exact .inr (.inr (.inl ⟨_, h, rfl, rfl⟩))
    · exact .inr (.inr (.inr ⟨_, h, rfl, rfl⟩))
/-! what the judges of the law say -/
def lawPlace (P : Pa) (own : List Str) (d : PyData) : Bool := match d with
  | .tuple [.str x, b] => isNum b && decide (x ∈ ("" : Str) :: (lensOf P.arrays ++ (P.pos ++ own)))
  | _ => false
def lawWorth (P : Pa) (own : List Str) (d : PyData) : Bool := match d with
  | .tuple [.str x, b] => decide (x ∈ ("" : Str) :: P.vals) && isNum b
  | .tuple [.str x, b, c, e] => decide (x ∈ P.arrays.map (·.1)) && (lawPlace P own (.tuple [b, c]) && isNum e)
  | _ => false
theorem placeW_law {P : Pa} (ok : PaOk P) (own : List Str) (x : Str) : placeW (kindsL P) own (.str x) = decide (x ∈ ("" : Str) :: (lensOf P.arrays ++ (P.pos ++ own))) := by
  have h1 := kind_iff ok x
  have e : isPlaceKind (kindOf (kindsL P) x) = (decide (x ∈ lensOf P.arrays) || decide (x ∈ P.pos)) := by
    rw [Bool.eq_iff_iff]
    rw [Bool.or_eq_true, decide_eq_true_iff, decide_eq_true_iff]
    constructor
    · intro h
      cases c : kindOf (kindsL P) x with
      | none => rw [c] at h; cases h
      | some y =>
        rw [c] at h
        have h2 : (decide (y = "position") || decide (y = "length")) = true := h
        rw [Bool.or_eq_true, decide_eq_true_iff, decide_eq_true_iff] at h2
        rcases (h1 y).mp c with ⟨rfl, _⟩ | ⟨rfl, g⟩ | ⟨rfl, g⟩ | ⟨rfl, _⟩
        · rcases h2 with h2 | h2 <;> exact absurd h2 (by decide +kernel)
        · exact .inl g
        · exact .inr g
        · rcases h2 with h2 | h2 <;> exact absurd h2 (by decide +kernel)
    · rintro (h | h)
      · rw [(h1 "length").mpr (.inr (.inl ⟨rfl, h⟩))]
        exact (by decide +kernel : (decide (("length" : Str) = "position") || decide (("length" : Str) = "length")) = true)
      · rw [(h1 "position").mpr (.inr (.inr (.inl ⟨rfl, h⟩)))]
        exact (by decide +kernel : (decide (("position" : Str) = "position") || decide (("position" : Str) = "length")) = true)
  show (decide (x = "") || (isPlaceKind (kindOf (kindsL P) x) || decide (x ∈ own))) = _
  rw [e]
  rw [Bool.eq_iff_iff]
  simp only [Bool.or_eq_true, decide_eq_true_iff, List.mem_cons, List.mem_append]
  constructor
  · rintro (h | (h | h) | h)
    · exact .inl h
    · exact .inr (.inl h)
    · exact .inr (.inr (.inl h))
    · exact .inr (.inr (.inr h))
  · rintro (h | h | h | h)
    · exact .inl h
    · exact .inr (.inl (.inl h))
    · exact .inr (.inl (.inr h))
    · exact .inr (.inr h)
theorem place_law {P : Pa} (ok : PaOk P) (own : List Str) (d : PyData) : placeD (kindsL P) own d = lawPlace P own d := by
  match d with
  | .tuple [.str x, b] =>
    show (placeW _ own (.str x) && isNum b) = (isNum b && _)
    rw [placeW_law ok, Bool.and_comm]
  | .tuple [.none, b] => rfl
  | .tuple [.bool _, b] => rfl
  | .tuple [.int _, b] => rfl
  | .tuple [.list _, b] => rfl
  | .tuple [.tuple _, b] => rfl
  | .tuple [.dict _, b] => rfl
  | .tuple [] => rfl
  | .tuple [a] => cases a <;> rfl
  | .tuple (a :: _ :: _ :: _) => cases a <;> rfl
  | .none => rfl
  | .bool _ => rfl
  | .int _ => rfl
  | .str _ => rfl
  | .list _ => rfl
  | .dict _ => rfl
theorem kind_array {P : Pa} (ok : PaOk P) (x : Str) : decide (kindOf (kindsL P) x = some ("array" : Str)) = decide (x ∈ P.arrays.map (·.1)) := by
  rw [Bool.eq_iff_iff, decide_eq_true_iff, decide_eq_true_iff, kind_iff ok]
  constructor
  · rintro (⟨_, h⟩ | ⟨h, _⟩ | ⟨h, _⟩ | ⟨h, _⟩)
    · exact h
    all_goals exact absurd h (by decide +kernel)
  · exact fun h => .inl ⟨rfl, h⟩
theorem kind_value {P : Pa} (ok : PaOk P) (x : Str) : decide (kindOf (kindsL P) x = some ("value" : Str)) = decide (x ∈ P.vals) := by
  rw [Bool.eq_iff_iff, decide_eq_true_iff, decide_eq_true_iff, kind_iff ok]
  constructor
  · rintro (⟨h, _⟩ | ⟨h, _⟩ | ⟨h, _⟩ | ⟨_, h⟩)
    · exact absurd h (by decide +kernel)
    · exact absurd h (by decide +kernel)
    · exact absurd h (by decide +kernel)
    · exact h
  · exact fun h => .inr (.inr (.inr ⟨rfl, h⟩))
theorem worth_law {P : Pa} (ok : PaOk P) (own : List Str) (d : PyData) : (amountD (kindsL P) d || cellD (kindsL P) own d) = lawWorth P own d := by
  have nt : ∀ (a : PyData), (∀ x, a ≠ .str x) → PyData.eqv a (.str "") = false ∧ kindD (kindsL P) a = none := fun a h => by
    cases a with
    | str x => exact absurd rfl (h x)
    | _ => exact ⟨by simp [PyData.eqv], rfl⟩
  match d with
  | .tuple [a, b] =>
    show (((PyData.eqv a (.str "") || decide (kindD (kindsL P) a = some ("value" : Str))) && isNum b) || false) = _
    rw [Bool.or_false]
    by_cases c : ∃ x, a = .str x
    · obtain ⟨x, rfl⟩ := c
      show ((PyData.eqv (.str x) (.str "") || decide (kindOf (kindsL P) x = some ("value" : Str))) && isNum b) = (decide (x ∈ ("" : Str) :: P.vals) && isNum b)
      rw [kind_value ok]
      congr 1
      rw [Bool.eq_iff_iff]
      simp [PyData.eqv, List.mem_cons]
    · have h := nt a fun x e => c ⟨x, e⟩
      rw [h.1, h.2]
      cases a with
      | str x => exact absurd ⟨x, rfl⟩ c
      | _ => rfl
  | .tuple [a, b, c, e] =>
    show (false || (decide (kindD (kindsL P) a = some ("array" : Str)) && (isNum e && (placeW (kindsL P) own b && isNum c)))) = _
    rw [Bool.false_or]
    by_cases q : ∃ x, a = .str x
    · obtain ⟨x, rfl⟩ := q
      show (decide (kindOf (kindsL P) x = some ("array" : Str)) && (isNum e && placeD (kindsL P) own (.tuple [b, c]))) = (decide (x ∈ P.arrays.map (·.1)) && (lawPlace P own (.tuple [b, c]) && isNum e))
      rw [kind_array ok, place_law ok, Bool.and_comm (isNum e)]
    · have h := nt a fun x e => q ⟨x, e⟩
      rw [h.2]
      cases a with
      | str x => exact absurd ⟨x, rfl⟩ q
      | _ => rfl
  | .tuple [] => rfl
  | .tuple [a] => cases a <;> rfl
  | .tuple [a, _, _] => cases a <;> rfl
  | .tuple (a :: _ :: _ :: _ :: _ :: _) => cases a <;> rfl
  | .none => rfl
  | .bool _ => rfl
  | .int _ => rfl
  | .str _ => rfl
  | .list _ => rfl
  | .dict _ => rfl
end Fc
namespace Fc
open PySem L2 PyProof.Rows
abbrev mF (i : Nat) : Stmt := inClass (topS 22) i
def fldsF : List Str := ["_arrays", "_positions", "_amounts", "_lengths", "_length_of", "_kinds"]
/-- what the text says of the class of frames -/
structure FrTxt (K : PySem.W.Frag) (mg : Str → Option Value) (C : Addr) : Prop where
  cl : Cls K C
  nA : NoAttr K C "_arrays"
  nP : NoAttr K C "_positions"
  nV : NoAttr K C "_amounts"
  nL : NoAttr K C "_lengths"
  nO : NoAttr K C "_length_of"
  nK : NoAttr K C "_kinds"
  g : mg "Frame" = some (.ref C)
/-- at p a frame of the parts P -/
structure FrAt (K : PySem.W.Frag) (C : Addr) (H : Hp) (p : Addr) (P : Pa) : Prop where
  ok : PaOk P
  ex : ∃ dx fs tA tP tV aK, H p = some (.ins C dx fs) ∧ fs.lookup ("_arrays" : Str) = some (.ref tA) ∧ fs.lookup ("_positions" : Str) = some (.ref tP) ∧ fs.lookup ("_amounts" : Str) = some (.ref tV) ∧ fs.lookup ("_kinds" : Str) = some (.ref aK) ∧
    (∀ m, m ∉ fldsF → fs.lookup m = none) ∧ Dp K H (.ref tA) (dA P.arrays) ∧ Dp K H (.ref tP) (dS P.pos) ∧ Dp K H (.ref tV) (dS P.vals) ∧ H aK = some (.dK (kvK (kindsL P)))
theorem FrAt.same {K : PySem.W.Frag} {C : Addr} {H H' : Hp} {p : Addr} {P : Pa} (h : FrAt K C H p P) (s : Same H H') : FrAt K C H' p P := by
  obtain ⟨ok, dx, fs, tA, tP, tV, aK, h1, h2, h3, h4, h5, h6, h7, h8, h9, h10⟩ := h
  exact ⟨ok, dx, fs, tA, tP, tV, aK, s _ _ h1, h2, h3, h4, h5, h6, dp_mono s _ _ h7, dp_mono s _ _ h8, dp_mono s _ _ h9, s _ _ h10⟩
/-- own names that may stand in terms -/
structure OwnOk (P : Pa) (own : List Str) : Prop where
  len : own.length ≤ 2
  nd : own.Nodup
  nm : ∀ x ∈ own, isNameS x = true ∧ x.length ≤ 1000 ∧ x ∉ namesL P
def spFresh (K : PySem.W.Frag) (C : Addr) : Sp := fun vs H Q _ => ∃ p P x, vs = [.ref p, .str x] ∧ FrAt K C H p P ∧ x.length ≤ 1000 ∧ Q (.bl (isNameS x && decide (x ∉ namesL P))) H
def spOwn (K : PySem.W.Frag) (C : Addr) : Sp := fun vs H Q _ => ∃ p P o own, vs = [.ref p, .ref o] ∧ FrAt K C H p P ∧ SqT K H o (List.map V.str own) ∧ OwnOk P own ∧ Q (.bl true) H
def spIsPos (K : PySem.W.Frag) (w : World) (C : Addr) : Sp := fun vs H Q _ => ∃ p P v d o own, vs = [.ref p, v, .ref o] ∧ FrAt K C H p P ∧ DV K w H v d ∧ SqT K H o (List.map V.str own) ∧ OwnOk P own ∧ ∀ H', Same H H' → Q (.bl (lawPlace P own d)) H'
def spIsVal (K : PySem.W.Frag) (w : World) (C : Addr) : Sp := fun vs H Q _ => ∃ p P v d o own, vs = [.ref p, v, .ref o] ∧ FrAt K C H p P ∧ DV K w H v d ∧ shT d ∧ SqT K H o (List.map V.str own) ∧ OwnOk P own ∧ ∀ H', Same H H' → Q (.bl (lawWorth P own d)) H'
theorem valK_some (ks : List (Str × Str)) (x : Str) : (valV (kvK ks) (.inr x)).isSome = decide (x ∈ ks.map (·.1)) := by
  unfold valV kvK
  induction ks with
  | nil => rfl
  | cons e ks ih =>
    rw [List.map_cons, List.find?_cons, List.map_cons]
    by_cases c : e.1 = x
    · subst c
      rw [decide_eq_true (rfl : ((Sum.inr e.1 : Key) = Sum.inr e.1))]
      simp
    · rw [decide_eq_false (fun q => c (Sum.inr.inj q))]
      refine ih.trans ?_
      exact decide_eq_decide.mpr ⟨fun h => List.mem_cons_of_mem _ h, fun h => (List.mem_cons.mp h).resolve_left fun q => c q.symm⟩
section
variable {K : PySem.W.Frag} {mg : Str → Option Value} {base : Heap} {P : Program} {w : World}
theorem scM7 : FnScope ["self", "value"] ["self", "value"] (defScope (mF 7)) := ⟨rfl, rfl, rfl, by decide +kernel, rfl, by decide +kernel, by decide +kernel⟩
theorem okM7 {f C : Addr} {fd : FuncData} (F : Fun K "is_fresh" "Frame.is_fresh" (mF 7) f fd) (B : Blt mg) (T : FrTxt K mg C) (c21 : Cal P w K mg base 1 "is_name" (spName K w)) : FnOk P w K mg base CX0 2 f fd ["self", "value"] (spFresh K C) := by
  refine F.ok scM7 (fun vs H Q E h => ?_) (fun cdv A outer s H vs Q E hr h => ?_)
  · obtain ⟨p, P, x, rfl, _⟩ := h
    rfl
  · have hu := hu70 hr
    refine ⟨_, pss_one (ps_ret (pe_and (pe_c c21 hr (by decide) (by rfl) (pa_cons (pv 1) pa_nil)) (pe_one (pe_cmp (pc_dnotin (hu1 hu) (pv 1) (pe_fld (pv 0) rfl)))))), ?_⟩
    obtain ⟨p, P, x, rfl, ⟨ok, dx, fs, tA, tP, tV, aK, h1, h2, h3, h4, h5, h6, h7, h8, h9, h10⟩, hx, q⟩ := h
    refine ⟨_, rfl, x, rfl, hx, _, rfl, ?_⟩
    cases e : isNameS x with
    | false => rw [e] at q; exact iteF q
    | true =>
      rw [e] at q
      refine iteT ⟨_, rfl, _, rfl, p, C, dx, fs, _, rfl, h1, T.cl, T.nK, h5, aK, _, rfl, DGet.k (k := .inr x) h10, ?_⟩
      rw [valK_some, kinds_keys]
      have e2 : (!decide (x ∈ namesL P)) = decide (x ∉ namesL P) := by by_cases c : x ∈ namesL P <;> simp [c]
      rw [e2]
      exact q
theorem sc26 : FnScope ["frame", "value", "word"] ["frame", "value"] (defScope (topS 26)) := ⟨rfl, rfl, rfl, by decide +kernel, rfl, by decide +kernel, by decide +kernel⟩
theorem ok26 {f C fM : Addr} {fd fdM : FuncData} (F : Fun K "are_own_names" "are_own_names" (topS 26) f fd) (B : Blt mg) (T : FrTxt K mg C) (m7 : Meth K C "is_fresh" fM) (G7 : FnOk P w K mg base CX0 2 fM fdM ["self", "value"] (spFresh K C)) (b7 : Binds K fdM ["self", "value"] []) :
    FnOk P w K mg base CX0 3 f fd ["frame", "value"] (spOwn K C) := by
  refine F.ok sc26 (fun vs H Q E h => ?_) (fun cdv A outer s H vs Q E hr h => ?_)
  · obtain ⟨p, P, o, own, rfl, _⟩ := h
    rfl
  · have hu := hu70 hr
    refine ⟨_, pss_cons (ps_if (pw_or (pt_not (pt_val (pe_callB call_isiD (by rfl) B.isinstance boot_isinstance (pa_cons (pv 1) (pa_cons (pe_bltn (v := .ty "tuple") (by rfl) B.tuple boot_tuple rfl) pa_nil)))))
        (pw_or1 (pt_cmpR op_gt (pe_callB call_len_seq (by rfl) B.len boot_len (pa_cons (pv 1) pa_nil)) pe_int (nomark _)))).pt (pss_one (ps_ret pe_bl)) pss_nil)
      (pss_cons (ps_for PassesOwn.never rfl (pi_tup (pv 1)) (pg_name (i := 2) sc26.nd rfl (Or.inl rfl)) (pss_one (ps_if (pt_not (pt_val (pe_meth (pv 0) T.cl m7 G7 (hr.mono (by decide)) b7 .nil pass0 (pa_cons (pv 2) pa_nil)))) (pss_one (ps_ret pe_bl)) pss_nil)))
      (pss_one (ps_ret (pe_or (pe_cmpR op_lt (pe_callB call_len_seq (by rfl) B.len boot_len (pa_cons (pv 1) pa_nil)) pe_int (nomark _)) (pe_one (pe_cmpR op_ne (pe_ix (r := rIxT K) ix_tup (pv 1) pe_int (fun _ _ => rfl)) (pe_ix (r := rIxT K) ix_tup (pv 1) pe_int (fun _ _ => rfl)) (nomark _))))))), ?_⟩
    obtain ⟨p, P, o, own, rfl, fr, ho, oo, q⟩ := h
    have ll := oo.len
    have dpo : DV K w H (.ref o) (dS own) := .inl (.tup ho (by
      clear ho oo ll q
      induction own with
      | nil => exact .nil
      | cons x xs ih => exact .cons (.str x) ih))
    refine ⟨_, rfl, _, dS own, _, rfl, dpo, .inr (.inr (.inr (.inl rfl))), _, rfl, iteF ⟨_, rfl, o, _, rfl, .inr ho, _, _, rfl, rfl, _, rfl, ?_⟩⟩
    rw [decide_eq_false (by rw [List.length_map]; omega)]
    refine iteF ⟨_, rfl, o, rfl, ⟨_, ho⟩, ?_⟩
    refine for_steady steady_tup (fun i σ H' => H' = H ∧ ∃ z, σ = [some (.ref p), some (.ref o), z]) ⟨rfl, _, rfl⟩ (fun _ _ _ _ h => h.1 ▸ ho) ?_ ?_
    · rintro i σ H' hi ⟨rfl, z, rfl⟩
      rw [List.length_map] at hi
      have ex : (List.map V.str own).getD i .non = .str own[i] := by
        rw [List.getD_eq_getElem?_getD, List.getElem?_map, List.getElem?_eq_getElem hi]; rfl
      rw [ex]
      obtain ⟨n1, n2, n3⟩ := oo.nm _ (List.getElem_mem hi)
      obtain ⟨ok, dx, fs, tA, tP, tV, aK, h1, h2, h3, h4, h5, h6, h7⟩ := id fr
      refine ⟨_, rfl, p, dx, fs, rfl, h1, h6 _ (by decide +kernel), _, rfl, p, P, own[i], rfl, fr, n2, _, rfl, ?_⟩
      rw [n1, decide_eq_true n3]
      exact iteF ⟨rfl, _, rfl⟩
    · rintro σ H' ⟨rfl, z, rfl⟩
      refine ⟨_, rfl, o, _, rfl, .inr ho, _, _, rfl, rfl, _, rfl, ?_⟩
      by_cases c : own.length < 2
      · rw [decide_eq_true (by rw [List.length_map]; omega)]
        exact iteT q
      · rw [decide_eq_false (by rw [List.length_map]; omega)]
        obtain ⟨x, y, rfl⟩ : ∃ x y, own = [x, y] := by
          have l2 : own.length = 2 := by omega
          match own, l2 with
          | [x, y], _ => exact ⟨x, y, rfl⟩
        have nxy : x ≠ y := fun e => by
          have := oo.nd
          rw [e] at this
          simp at this
        refine iteF ⟨_, rfl, o, _, 0, _, rfl, rfl, ho, atI_nat (j := 0) rfl, _, rfl, o, _, 1, _, rfl, rfl, ho, atI_nat (j := 1) rfl, rfl, ?_⟩
        rw [decide_eq_false (fun e => nxy (V.str.inj e))]
        exact q
end
end Fc
namespace Fc
open PySem L2 PyProof.Rows
def anyT (P : Pa) (d : PyData) : Bool := lawPlace P [] d || lawWorth P [] d
theorem place_form {P : Pa} {own : List Str} {d : PyData} (h : lawPlace P own d = true) : ∃ x i, d = .tuple [.str x, .int i] ∧ small i = true ∧ decide (x ∈ ("" : Str) :: (lensOf P.arrays ++ (P.pos ++ own))) = true := by
  match d with
  | .tuple [.str x, b] =>
    obtain ⟨h1, h2⟩ := (Bool.and_eq_true _ _).mp (show (isNum b && _) = true from h)
    cases b with
    | int i => exact ⟨x, i, rfl, h1, h2⟩
    | _ => cases h1
  | .tuple [.none, b] => cases h
  | .tuple [.bool _, b] => cases h
  | .tuple [.int _, b] => cases h
  | .tuple [.list _, b] => cases h
  | .tuple [.tuple _, b] => cases h
  | .tuple [.dict _, b] => cases h
  | .tuple [] => cases h
  | .tuple [a] => cases a <;> cases h
  | .tuple (a :: _ :: _ :: _) => cases a <;> cases h
  | .none => cases h
  | .bool _ => cases h
  | .int _ => cases h
  | .str _ => cases h
  | .list _ => cases h
  | .dict _ => cases h
theorem worth_form {P : Pa} {own : List Str} {d : PyData} (h : lawWorth P own d = true) : (∃ x i, d = .tuple [.str x, .int i] ∧ small i = true ∧ decide (x ∈ ("" : Str) :: P.vals) = true) ∨
    ∃ x b c i, d = .tuple [.str x, b, c, .int i] ∧ small i = true ∧ decide (x ∈ P.arrays.map (·.1)) = true ∧ lawPlace P own (.tuple [b, c]) = true := by
  match d with
  | .tuple [.str x, b] =>
    obtain ⟨h1, h2⟩ := (Bool.and_eq_true _ _).mp (show (_ && isNum b) = true from h)
    cases b with
    | int i => exact .inl ⟨x, i, rfl, h2, h1⟩
    | _ => cases h2
  | .tuple [.str x, b, c, e] =>
    obtain ⟨h1, h2⟩ := (Bool.and_eq_true _ _).mp (show (_ && (lawPlace P own (.tuple [b, c]) && isNum e)) = true from h)
    obtain ⟨h4, h3⟩ := (Bool.and_eq_true _ _).mp h2
    cases e with
    | int i => exact .inr ⟨x, b, c, i, rfl, h3, h1, h4⟩
    | _ => cases h3
  | .tuple [.none, b] => cases h
  | .tuple [.bool _, b] => cases h
  | .tuple [.int _, b] => cases h
  | .tuple [.list _, b] => cases h
  | .tuple [.tuple _, b] => cases h
  | .tuple [.dict _, b] => cases h
  | .tuple [.none, b, _, _] => cases h
  | .tuple [.bool _, b, _, _] => cases h
  | .tuple [.int _, b, _, _] => cases h
  | .tuple [.list _, b, _, _] => cases h
  | .tuple [.tuple _, b, _, _] => cases h
  | .tuple [.dict _, b, _, _] => cases h
  | .tuple [] => cases h
  | .tuple [a] => cases a <;> cases h
  | .tuple [a, _, _] => cases a <;> cases h
  | .tuple (a :: _ :: _ :: _ :: _ :: _) => cases a <;> cases h
  | .none => cases h
  | .bool _ => cases h
  | .int _ => cases h
  | .str _ => cases h
  | .list _ => cases h
  | .dict _ => cases h
/-- a term ends with its number, and with another one is a term just if this is short enough -/
theorem any_form {P : Pa} {d : PyData} (h : anyT P d = true) : ∃ ds i, d = .tuple (ds ++ [.int i]) ∧ ds.length ≤ 3 ∧ small i = true ∧ ∀ j, anyT P (.tuple (ds ++ [.int j])) = small j := by
  rcases Bool.or_eq_true_iff.mp h with h | h
  · obtain ⟨x, i, rfl, h1, h2⟩ := place_form h
    refine ⟨[.str x], i, rfl, by simp, h1, fun j => ?_⟩
    show ((small j && decide _) || (decide _ && small j)) = small j
    rw [h2]
    cases small j <;> simp
  · rcases worth_form h with ⟨x, i, rfl, h1, h2⟩ | ⟨x, b, c, i, rfl, h1, h2, h3⟩
    · refine ⟨[.str x], i, rfl, by simp, h1, fun j => ?_⟩
      show ((small j && decide _) || (decide _ && small j)) = small j
      rw [h2]
      cases small j <;> simp
    · refine ⟨[.str x, b, c], i, rfl, by simp, h1, fun j => ?_⟩
      show (false || (decide _ && (lawPlace P [] (.tuple [b, c]) && small j))) = small j
      rw [h2, h3]
      cases small j <;> simp
def spAny (K : PySem.W.Frag) (w : World) (C : Addr) : Sp := fun vs H Q _ => ∃ p P v d, vs = [.ref p, v] ∧ FrAt K C H p P ∧ DV K w H v d ∧ shT d ∧ ∀ H', Same H H' → Q (.bl (anyT P d)) H'
/-- what is told of a term with so much more -/
def spShift (K : PySem.W.Frag) (w : World) (C Ct : Addr) : Sp := fun vs H Q E => ∃ p P v d s, vs = [.ref p, v, .int s] ∧ FrAt K C H p P ∧ DV K w H v d ∧ shT d ∧ small s = true ∧
  (anyT P d = false → ∀ H', Same H H' → E (.ref Ct) none H') ∧
  ∀ ds i, d = .tuple (ds ++ [.int i]) → anyT P d = true → (small (i + s) = false → ∀ H', Same H H' → E (.ref Ct) none H') ∧ (small (i + s) = true → ∀ H' p', Same H H' → Dp K H' (.ref p') (.tuple (ds ++ [.int (i + s)])) → Q (.ref p') H')
theorem ownOk_nil (P : Pa) : OwnOk P [] := ⟨by decide, .nil, fun x hx => by cases hx⟩
theorem shaped_put {ds : List PyData} {i : Int} (j : Int) (h : SeqAt.shaped (.tuple (ds ++ [.int i])) = true) : SeqAt.shaped (.tuple (ds ++ [.int j])) = true := by
  have h1 : PyData.canLayAll0 (ds ++ [.int i]) = true := SeqAt.canLay_of_shaped h
  have h2 : PyData.depthAll (ds ++ [.int i]) + 1 ≤ 64 := SeqAt.depth_of_shaped h
  have c1 := (canAll_iff _).mp h1
  have c2 := (depAll_iff 63 _).mp (by omega : PyData.depthAll (ds ++ [.int i]) ≤ 63)
  have e1 : PyData.canLayAll0 (ds ++ [.int j]) = true := (canAll_iff _).mpr fun d hd => by
    rcases List.mem_append.mp hd with h | h
    · exact c1 d (List.mem_append_left _ h)
    · rw [List.mem_singleton.mp h]; rfl
  have e2 : PyData.depthAll (ds ++ [.int j]) ≤ 63 := (depAll_iff 63 _).mpr fun d hd => by
    rcases List.mem_append.mp hd with h | h
    · exact c2 d (List.mem_append_left _ h)
    · rw [List.mem_singleton.mp h]; exact Nat.zero_le _
  show (PyData.canLayAll0 (ds ++ [.int j]) && decide (PyData.depthAll (ds ++ [.int j]) + 1 ≤ 64)) = true
  rw [e1, decide_eq_true (by omega)]
  rfl
section
variable {K : PySem.W.Frag} {mg : Str → Option Value} {base : Heap} {P : Program} {w : World}
theorem scM8 : FnScope ["self", "value", "own"] ["self", "value", "own"] (defScope (mF 8)) := ⟨rfl, rfl, rfl, by decide +kernel, rfl, by decide +kernel, by decide +kernel⟩
theorem okM8 {f C : Addr} {fd : FuncData} {kws : List (Str × V)} (F : FunD K "is_position_term" "Frame.is_position_term" (defArgs (mF 8)) (defBody (mF 8)) (defScope (mF 8)) [] kws f fd) (T : FrTxt K mg C) (c26 : Cal P w K mg base 3 "are_own_names" (spOwn K C)) (c13 : Cal P w K mg base 3 "is_position_pair" (spPlaceD K w)) :
    FnOk P w K mg base CX0 4 f fd ["self", "value", "own"] (spIsPos K w C) := by
  refine F.ok scM8 (fun vs H Q E h => ?_) (fun cdv A outer s H vs Q E hr h => ?_)
  · obtain ⟨p, P, v, d, o, own, rfl, _⟩ := h
    rfl
  · have hu := hu70 hr
    refine ⟨_, pss_cons (ps_if (pt_not (pt_val (pe_c c26 hr (by decide) (by rfl) (pa_cons (pv 0) (pa_cons (pv 2) pa_nil))))) pss_never pss_nil)
      (pss_one (ps_ret (pe_c c13 hr (by decide) (by rfl) (pa_cons (pe_fld (pv 0) rfl) (pa_cons (pv 1) (pa_cons (pv 2) pa_nil)))))), ?_⟩
    obtain ⟨p, P, v, d, o, own, rfl, fr, hd, ho, oo, q⟩ := h
    obtain ⟨ok, dx, fs, tA, tP, tV, aK, h1, h2, h3, h4, h5, h6, h7, h8, h9, h10⟩ := id fr
    refine ⟨_, rfl, _, rfl, p, P, o, own, rfl, fr, ho, oo, _, rfl, iteF ?_⟩
    refine ⟨_, rfl, p, C, dx, fs, _, rfl, h1, T.cl, T.nK, h5, _, rfl, _, rfl, aK, _, v, d, o, own, rfl, .inl h10, hd, ho, fun H' s' => ?_⟩
    rw [place_law ok]
    exact q H' s'
theorem scM9 : FnScope ["self", "value", "own"] ["self", "value", "own"] (defScope (mF 9)) := ⟨rfl, rfl, rfl, by decide +kernel, rfl, by decide +kernel, by decide +kernel⟩
theorem okM9 {f C : Addr} {fd : FuncData} {kws : List (Str × V)} (F : FunD K "is_value_term" "Frame.is_value_term" (defArgs (mF 9)) (defBody (mF 9)) (defScope (mF 9)) [] kws f fd) (T : FrTxt K mg C) (c26 : Cal P w K mg base 3 "are_own_names" (spOwn K C)) (c15 : Cal P w K mg base 3 "is_amount_pair" (spAmountD K w)) (c14 : Cal P w K mg base 4 "is_cell" (spCellD K w)) :
    FnOk P w K mg base CX0 5 f fd ["self", "value", "own"] (spIsVal K w C) := by
  refine F.ok scM9 (fun vs H Q E h => ?_) (fun cdv A outer s H vs Q E hr h => ?_)
  · obtain ⟨p, P, v, d, o, own, rfl, _⟩ := h
    rfl
  · have hu := hu70 hr
    refine ⟨_, pss_cons (ps_if (pt_not (pt_val (pe_c c26 hr (by decide) (by rfl) (pa_cons (pv 0) (pa_cons (pv 2) pa_nil))))) pss_never pss_nil)
      (pss_one (ps_ret (pe_or (pe_c c15 hr (by decide) (by rfl) (pa_cons (pe_fld (pv 0) rfl) (pa_cons (pv 1) pa_nil))) (pe_one (pe_c c14 hr (by decide) (by rfl) (pa_cons (pe_fld (pv 0) rfl) (pa_cons (pv 1) (pa_cons (pv 2) pa_nil)))))))), ?_⟩
    obtain ⟨p, P, v, d, o, own, rfl, fr, hd, hsh, ho, oo, q⟩ := h
    obtain ⟨ok, dx, fs, tA, tP, tV, aK, h1, h2, h3, h4, h5, h6, h7, h8, h9, h10⟩ := id fr
    refine ⟨_, rfl, _, rfl, p, P, o, own, rfl, fr, ho, oo, _, rfl, iteF ?_⟩
    refine ⟨_, rfl, p, C, dx, fs, _, rfl, h1, T.cl, T.nK, h5, _, rfl, aK, _, v, d, rfl, .inl h10, hd, hsh, fun H1 s1 => ⟨_, rfl, ?_⟩⟩
    have wl := worth_law ok own d
    cases e : amountD (kindsL P) d with
    | true =>
      rw [e, Bool.true_or] at wl
      rw [← wl] at q
      exact iteT (q H1 s1)
    | false =>
      rw [e, Bool.false_or] at wl
      rw [← wl] at q
      exact iteF ⟨_, rfl, p, C, dx, fs, _, rfl, s1 _ _ h1, T.cl, T.nK, h5, _, rfl, _, rfl, aK, _, v, d, o, own, rfl, .inl (s1 _ _ h10), hd.same s1, Tups.same s1 _ _ ho, fun H2 s2 => q H2 (s1.trans s2)⟩
theorem sc25 : FnScope ["frame", "value"] ["frame", "value"] (defScope (topS 25)) := ⟨rfl, rfl, rfl, by decide +kernel, rfl, by decide +kernel, by decide +kernel⟩
theorem ok25 {f C f8 f9 T8 T9 : Addr} {fd fd8 fd9 : FuncData} {ds8 ds9 : List Value} (F : Fun K "is_any_term" "is_any_term" (topS 25) f fd) (T : FrTxt K mg C) (m8 : Meth K C "is_position_term" f8) (G8 : FnOk P w K mg base CX0 4 f8 fd8 ["self", "value", "own"] (spIsPos K w C)) (v8 : Vals [V.ref T8] ds8) (b8 : Binds K fd8 ["self", "value", "own"] ds8) (t8 : ∀ H, SqT K H T8 [])
    (m9 : Meth K C "is_value_term" f9) (G9 : FnOk P w K mg base CX0 5 f9 fd9 ["self", "value", "own"] (spIsVal K w C)) (v9 : Vals [V.ref T9] ds9) (b9 : Binds K fd9 ["self", "value", "own"] ds9) (t9 : ∀ H, SqT K H T9 []) :
    FnOk P w K mg base CX0 6 f fd ["frame", "value"] (spAny K w C) := by
  refine F.ok sc25 (fun vs H Q E h => ?_) (fun cdv A outer s H vs Q E hr h => ?_)
  · obtain ⟨p, P, v, d, rfl, _⟩ := h
    rfl
  · have hu := hu70 hr
    refine ⟨_, pss_one (ps_ret (pe_or (pe_meth (pv 0) T.cl m8 G8 (hr.mono (by decide)) b8 v8 pass0 (pa_cons (pv 1) pa_nil)) (pe_one (pe_meth (pv 0) T.cl m9 G9 (hr.mono (by decide)) b9 v9 pass0 (pa_cons (pv 1) pa_nil))))), ?_⟩
    obtain ⟨p, P, v, d, rfl, fr, hd, hsh, q⟩ := h
    obtain ⟨ok, dx, fs, tA, tP, tV, aK, h1, h2, h3, h4, h5, h6, h7, h8, h9, h10⟩ := id fr
    refine ⟨_, rfl, p, dx, fs, rfl, h1, h6 _ (by decide +kernel), _, rfl, p, P, v, d, T8, [], rfl, fr, hd, t8 _, ownOk_nil P, fun H1 s1 => ⟨_, rfl, ?_⟩⟩
    unfold anyT at q
    cases e : lawPlace P [] d with
    | true =>
      rw [e, Bool.true_or] at q
      exact iteT (q H1 s1)
    | false =>
      rw [e, Bool.false_or] at q
      exact iteF ⟨_, rfl, p, dx, fs, rfl, s1 _ _ h1, h6 _ (by decide +kernel), _, rfl, p, P, v, d, T9, [], rfl, fr.same s1, hd.same s1, hsh, t9 _, ownOk_nil P, fun H2 s2 => q H2 (s1.trans s2)⟩
theorem scM10 : FnScope ["self", "term", "shift", "result"] ["self", "term", "shift"] (defScope (mF 10)) := ⟨rfl, rfl, rfl, by decide +kernel, rfl, by decide +kernel, by decide +kernel⟩
theorem okM10 {f C Ct : Addr} {fd : FuncData} (F : Fun K "shifted" "Frame.shifted" (mF 10) f fd) (T : FrTxt K mg C) (O : OwnX K mg "InvalidTerm" Ct) (c25 : Cal P w K mg base 6 "is_any_term" (spAny K w C)) (c9 : Cal P w K mg base 2 "is_passed_integer" (spPassed K w)) (c16 : Cal P w K mg base 1 "shifted_term" (spMore K w)) :
    FnOk P w K mg base (L2.CX P w) 7 f fd ["self", "term", "shift"] (spShift K w C Ct) := by
  refine F.okX scM10 (fun vs H Q E h => ?_) (fun cdv A outer s H vs Q E hr h => ?_)
  · obtain ⟨p, P, v, d, s, rfl, _⟩ := h
    rfl
  · have hu := hu70 hr
    refine ⟨_, pss_cons (ps_if (pt_not (pt_val (pe_c c25 hr (by decide) (by rfl) (pa_cons (pv 0) (pa_cons (pv 1) pa_nil))))) (pss_one (ps_raise rfl (takes_of rfl rfl rfl rfl) (pmk_own PySem.F.excBase_ValueError O.x O.g O.k (raises_own O.b O.t) rfl))) pss_nil)
      (pss_cons (ps_if (pt_not (pt_val (pe_c c9 hr (by decide) (by rfl) (pa_cons (pv 2) pa_nil)))) pss_never pss_nil)
      (pss_cons (ps_set (i := 3) scM10.nd rfl (Or.inl rfl) (pe_c c16 hr (by decide) (by rfl) (pa_cons (pv 1) (pa_cons (pv 2) pa_nil))))
      (pss_cons (ps_if (pt_not (pt_val (pe_c c25 hr (by decide) (by rfl) (pa_cons (pv 0) (pa_cons (pv 3) pa_nil))))) (pss_one (ps_raise rfl (takes_of rfl rfl rfl rfl) (pmk_own PySem.F.excBase_ValueError O.x O.g O.k (raises_own O.b O.t) rfl))) pss_nil)
      (pss_one (ps_ret (pv 3)))))), ?_⟩
    obtain ⟨p, P, v, d, z, rfl, fr, hd, hsh, hz, q1, q2⟩ := h
    refine ⟨_, rfl, _, rfl, p, P, v, d, rfl, fr, hd, hsh, fun H1 s1 => ⟨_, rfl, ?_⟩⟩
    cases e : anyT P d with
    | false => exact iteT (q1 e H1 s1)
    | true =>
      refine iteF ⟨_, rfl, _, .int z, rfl, .int z, _, rfl, ?_⟩
      have ez : isNum (.int z) = true := hz
      rw [ez]
      obtain ⟨ds, i, rfl, hl, hi, hj⟩ := any_form e
      obtain ⟨q3, q4⟩ := q2 ds i rfl e
      have dp : Dp K H v (.tuple (ds ++ [.int i])) := by
        rcases hd with h | ⟨_, _, _, _, _, e, _⟩
        · exact h
        · cases e
      cases dp with
      | @tup a xs _ sa da =>
        refine iteF ⟨_, rfl, _, rfl, a, ds, i, z, rfl, dp_mono s1 _ _ (.tup sa da), by omega, fun H2 p2 s2 d2 => ?_⟩
        refine ⟨_, rfl, _, rfl, p, P, .ref p2, _, rfl, fr.same (s1.trans s2), .inl d2, fun _ => shaped_put _ (hsh rfl), fun H3 s3 => ⟨_, rfl, ?_⟩⟩
        rw [hj]
        cases es : small (i + z) with
        | false => exact iteT (q3 es H3 ((s1.trans s2).trans s3))
        | true => exact iteF ⟨_, rfl, q4 es H3 p2 ((s1.trans s2).trans s3) (dp_mono s3 _ _ d2)⟩
end
end Fc
namespace Fc
open PySem PySem.Spec PyProof.Rows L2
/-! tuple(d) of a table -/
section
variable {prog : Program} {w : World} {A : Around} {E : Value → Shared → Prop} {s : Shared} {r d : Addr} {n : Nat} {P : Nat → Value → Prop} {OK : Heap → Prop}
theorem collect_kdl {Q : List Value → Shared → Prop} (D : PySem.W.KdlSrc prog w "dict" r d n P OK) (hh : A.handled = none) (hok : OK s.heap) (hn : n ≤ sizeLine)
    (hQ : ∀ (h' : Heap) (tk : Nat) (acc : Array Value), (∀ b o, s.heap.get? b = some o → h'.get? b = some o) → ItemsOf P acc n → Q acc.toList { s with heap := h', toks := tk }) :
    wpAny (model prog w) A (collect (.ref r)) Q E s := by
  unfold collect
  refine wpAny_bind (wpAny_runValue (codeAny_builtin F.entry_proto_collect ?_))
  rw [Around.under_plainId F.plain_proto_collect _]
  show wpAny _ A.in1 (newList [] >>= fun l => again (.builtin "list.__iadd__" ⟨[l, .ref r], []⟩)) _ _ s
  refine wpAny_bind (wpAny_newObj_type ?_)
  refine wpAny_pure ⟨plainId_quiet F.plain_list_iadd _, codeAny_builtin F.entry_list_iadd ?_⟩
  rw [Around.under_plainId F.plain_list_iadd _]
  show wpAny _ A.in1 (Builtin.List.listExtendWith (.ref s.heap.objs.size) (.ref r) (.ref s.heap.objs.size)) _ _ _
  have hS : (s.heap.push { cls := .type "list", data := .seq ([] : List Value).toArray }).get? s.heap.objs.size = some { cls := .type "list", data := .seq #[] 0 } := Heap.get?_push_size _ rfl
  have hlt := D.there _ hok
  refine wpAny_mono (PySem.W.kdl_extend (A := A) (R := fun rr s' => rr = .ok (.ret (.ref s.heap.objs.size)) ∧ ∃ (h' : Heap) (tk : Nat) (acc : Array Value) (c' : Nat), s' = { s with heap := h', toks := tk } ∧
      (∀ b o, s.heap.get? b = some o → h'.get? b = some o) ∧ h'.get? s.heap.objs.size = some { cls := .type "list", dict := none, data := .seq acc c', slots := #[] } ∧ ItemsOf P acc n)
    (s := { s with heap := s.heap.push { cls := .type "list", data := .seq ([] : List Value).toArray } }) D hh (D.keep _ _ hok fun b _ o e => Heap.get?_push_of_some _ e) _ (Nat.ne_of_gt hlt.1) (Nat.ne_of_gt hlt.2) _ 0 hS
    (fun h' tk acc c' hk e hi => ⟨rfl, h', tk, acc, c', rfl, fun b o q => hk b o (Nat.ne_of_lt (Heap.lt_size q)) (Heap.get?_push_of_some _ q), e, hi⟩) hn) (fun fin s' h => ?_) (fun e s' h => ?_)
  · cases fin with
    | done f =>
      obtain ⟨e, h', tk, acc, c', rfl, hk, hS', hi⟩ := h
      cases e
      show wpAny _ A (load s.heap.objs.size >>= _) _ _ _
      exact wpAny_bind (wpAny_load hS' (wpAny_pure (hQ h' tk acc hk hi)))
    | again c' =>
      refine ⟨h.1, codeAny_mono h.2 fun rr s'' hr' => ?_⟩
      obtain ⟨rfl, h', tk, acc, c', rfl, hk, hS', hi⟩ := hr'
      show wpAny _ A (load s.heap.objs.size >>= _) _ _ _
      exact wpAny_bind (wpAny_load hS' (wpAny_pure (hQ h' tk acc hk hi)))
  · exact absurd h.1 (by simp)
theorem code_tuple_new_kdl {Q₁ : Value → Shared → Prop} (D : PySem.W.KdlSrc prog w "dict" r d n P OK) (hh : A.handled = none) (hok : OK s.heap) (hn : n ≤ sizeLine)
    (h : ∀ (h' : Heap) (tk : Nat) (acc : Array Value), (∀ b o, s.heap.get? b = some o → h'.get? b = some o) → ItemsOf P acc n → Q₁ (.ref h'.objs.size) { s with heap := h'.push { cls := .type "tuple", data := .seq acc }, toks := tk }) :
    codeAny (model prog w) A (.call (.builtin "tuple.__new__") ⟨[.type "tuple", .ref r], []⟩) (wants Q₁ E) s := by
  refine codeAny_of_tree ?_
  show wpAny _ A.in1 (do checkBuiltinCall "tuple.__new__" ⟨[.type "tuple", .ref r], []⟩; again (.builtin "tuple.__new__" ⟨[.type "tuple", .ref r], []⟩)) _ _ s
  refine wpAny_bind (wpAny_of_eq (F.newCall_tuple_1 _) (wpAny_pure ⟨plainId_quiet F.plain_tuple_new _, codeAny_builtin F.entry_tuple_new ?_⟩))
  rw [Around.under_plainId F.plain_tuple_new _]
  have hsub := sub_tuple_self
  have hinit := init_tuple_lookup
  have hmh := madeHere_tuple
  have hTI : s.TypeIs (.ref r) "dict" := D.type s hok
  have hh1 : A.in1.handled = none := hh
  wp_walk using wpAny_typeOf hTI, collect_kdl (A := A.in1) D hh1 hok hn
  intro h' tk acc hk hacc
  show wpAny _ _ (Builtin.Tuple.tupleExact acc.toList.toArray >>= fun v => ret v) _ _ _
  unfold Builtin.Tuple.tupleExact
  refine wpAny_bind (wpAny_newObj_type ?_ (by show acc.toList.toArray.size ≤ sizeLine; simp only [Array.toArray_toList]; rw [hacc.1]; exact hn))
  refine wpAny_pure ?_
  have e : acc.toList.toArray = acc := by simp
  rw [e]
  exact h h' tk acc hk hacc
theorem call_tuple_kdl {Q : Value → Shared → Prop} (D : PySem.W.KdlSrc prog w "dict" r d n P OK) (hh : A.handled = none) (hok : OK s.heap) (hn : n ≤ sizeLine)
    (hQ : ∀ (h' : Heap) (tk : Nat) (acc : Array Value), (∀ b o, s.heap.get? b = some o → h'.get? b = some o) → ItemsOf P acc n → Q (.ref h'.objs.size) { s with heap := h'.push { cls := .type "tuple", data := .seq acc }, toks := tk }) :
    wpAny (model prog w) A (call (.type "tuple") [.ref r]) Q E s := by
  refine callType_codes (Q₁ := fun obj s₁ => s₁.TypeIs obj "tuple" ∧ Q obj s₁) F.called_tuple (F.typeCall_tuple_1 _) F.entry_object_init
    (code_tuple_new_kdl (A := A.in1) D hh hok hn fun h' tk acc hk hacc => ⟨⟨_, Heap.get?_push_size _ rfl, rfl⟩, hQ h' tk acc hk hacc⟩) fun obj s₁ h₁ => ?_
  exact ⟨h₁.1, F.args_object_init_2 obj _, object_init_meets F.called_tuple.init.lookup F.called_tuple.made (by decide) prog w A.in1 _ s₁ ⟨h₁.1, rfl, h₁.2⟩⟩
end
theorem call_tupleM {X : Cx} (hcalm : X.calm = true) : CallR X (.type "tuple") (fun xs H Q => ∃ a es, xs = [.ref a] ∧ TabAt X.K X.w H a es ∧ ∀ p, H p = none → Q (.ref p) (upd H p (.tup (es.map (·.2.1))))) := by
  intro pins s σ H xs us Q I r ⟨a, ys, e, t, q⟩
  subst e
  obtain ⟨u, rfl, rx⟩ := vals1 r
  obtain rfl : u = Value.ref a := rx
  obtain ⟨z, sm, o, es, ep, ho, hc, hd, ee, T⟩ := t.get I
  refine call_tuple_kdl (kdl_raw sm hc hd) (I.ok.hd hcalm) ho (by rw [ee.1]; exact z) fun h' tk acc' kp it => ?_
  have hl : acc'.toList.length = ys.length := by rw [Array.length_toList, it.1]; exact ee.1
  have rv : Vals (ys.map (·.2.1)) acc'.toList := by
    have gen : ∀ (l1 : List Ent) (l2 : List Value), l1.length = l2.length → (∀ (j : Nat) (x : Ent), l1[j]? = some x → ∀ v : Value, l2[j]? = some v → RelV x.2.1 v) → Vals (l1.map (·.2.1)) l2 := by
      intro l1
      induction l1 with
      | nil => intro l2 hl _; cases l2 with
        | nil => exact .nil
        | cons _ _ => cases hl
      | cons x l1 ih => intro l2 hl h; cases l2 with
        | nil => cases hl
        | cons v l2 => exact .cons (h 0 x rfl v rfl) (ih l2 (by simpa using hl) fun j y hy v hv => h (j + 1) y (by simpa using hy) v (by simpa using hv))
    refine gen ys acc'.toList hl.symm fun j x hx v hv => ?_
    obtain ⟨en, hen, ev⟩ := it.2 j v (by rw [← Array.getElem?_toList]; exact hv)
    obtain ⟨hj, e2⟩ := Array.getElem?_eq_some_iff.mp hen
    have q2 := (ee.2 j hj x hx).2.1
    rw [ev, ← e2]
    exact q2
  have I1 : Inv X pins σ H { s with heap := h', toks := tk } := I.kept (t' := tk) kp
  have I2 : Inv X pins σ (upd H h'.objs.size (.tup (ys.map (·.2.1)))) { s with heap := h'.push { cls := .type "tuple", data := .seq acc' }, toks := tk } :=
    I1.laid (t' := tk) (fun b o e => Heap.get?_push_of_some _ e) (Nat.le_refl _) (show ObjOk X.prog X.w _ _ _ (.tup (ys.map (·.2.1))) from ⟨by rw [List.length_map]; exact z, acc'.toList, rv, by rw [Array.toArray_toList]; exact IsTup.new _ _⟩)
  exact ⟨.ref h'.objs.size, _, I2, rfl, q _ (I1.hok.fresh (Nat.le_refl _))⟩
end Fc
namespace Fc
open PySem L2 PyProof.Rows
theorem keyIs_of {k : Key} {v : Value} (h : RelV (kV k) v) : keyIs k v = true := by
  cases k with
  | inl i => obtain ⟨t, rfl⟩ := (show ∃ t, v = Value.int i t from h); exact keyIs_int i t
  | inr x => obtain ⟨t, rfl⟩ := (show ∃ t, v = Value.str x t from h); exact keyIs_str x t
/-- a table of texts and ints, told as one of keys of one kind -/
def tAsK (w : World) (te : TE) : TE := fun σ H Q => te σ H fun v H1 => ∃ p kvs, v = .ref p ∧ H1 p = some (MD w p (kvs.map entK)) ∧ Q v (upd H1 p (.dK kvs))
theorem pe_asK {X : Cx} {e : Expr} {te : TE} (he : PE X e te) : PE X e (tAsK X.w te) := by
  refine ⟨fun pins s σ H Q I h => thn (he.run pins s σ H _ I h) fun u s1 ⟨v, H1, I1, rv, p, kvs, ev, hp, q⟩ => ?_⟩
  obtain ⟨⟨z, sm, nd, o, es, ep, ho, hc, hd, hs, hen⟩, _, _⟩ := (show ObjOk X.prog X.w H1 s1.heap p (MD X.w p (kvs.map entK)) from I1.hok p _ hp)
  have gen : ∀ (l : List DictEntry) (t : List (Key × V)), l.length = t.length → (∀ (j : Nat) (en : DictEntry) (x : Key × V), l[j]? = some en → t[j]? = some x → en.hash = (nkK x.1).hash X.w ∧ RelV (kV x.1) en.key ∧ RelV x.2 en.val) →
      ∃ r : List (Key × Value), KV t r ∧ Pairs (mixKind X.prog X.w) l r ∧ r.map (·.1) = t.map (·.1) ∧ ∀ x ∈ l, ∃ k, keyIs k x.key = true ∧ x.hash = (mixKind X.prog X.w).hash k := by
    intro l
    induction l with
    | nil => intro t hl _; cases t with
      | nil => exact ⟨[], .nil, .nil, rfl, fun x hx => by cases hx⟩
      | cons _ _ => cases hl
    | cons en l ih => intro t hl h; cases t with
      | nil => cases hl
      | cons x t =>
        obtain ⟨a1, a2, a3⟩ := h 0 en x rfl rfl
        obtain ⟨r, b1, b2, b3, b4⟩ := ih t (by simpa using hl) fun j en' x' e1 e2 => h (j + 1) en' x' (by simpa using e1) (by simpa using e2)
        refine ⟨(x.1, en.val) :: r, .cons ⟨rfl, a3⟩ b1, .cons (keyIs_of a2) rfl b2, by simp [b3], fun y hy => ?_⟩
        rcases List.mem_cons.mp hy with e | hy
        · subst e
          exact ⟨x.1, keyIs_of a2, by rw [hash_key]; exact a1⟩
        · exact b4 y hy
  obtain ⟨r, b1, b2, b3, b4⟩ := gen es.toList kvs (by rw [Array.length_toList, hs, List.length_map]) (fun j en x e1 e2 => by
    rw [Array.getElem?_toList] at e1
    obtain ⟨hj, e3⟩ := Array.getElem?_eq_some_iff.mp e1
    have q2 := hen j hj (entK x) (by rw [List.getElem?_map, e2]; rfl)
    rw [e3] at q2
    exact q2)
  have ndk : (r.map (·.1)).Nodup := by
    rw [b3]
    have e : keys (kvs.map entK) = (kvs.map (·.1)).map nkK := by simp [entK, List.map_map, Function.comp_def]
    rw [e] at nd
    exact List.Pairwise.of_map nkK (fun a b h e => h (congrArg nkK e)) nd
  have md : ObjOk X.prog X.w (upd H1 p (.dK kvs)) s1.heap p (.dK kvs) := ⟨by rw [List.length_map] at z; exact z, sm, r, b1, o, es, ep, ho, hc, hd, fun x hx => b4 x (Array.mem_toList_iff.mpr hx), b2, ndk⟩
  exact ⟨v, _, I1.write (x := p) (e := p) (h' := s1.heap) (t' := s1.toks) (by rw [hp]; exact True.intro) (.inl rfl) (fun _ _ _ e => e) ⟨o, ho⟩ md, rv, q⟩
end Fc
namespace Fc
open PySem PySem.Spec PyProof.Rows L2
/-! a set of texts: its members, and how many there are -/
def SetT (P : Program) (w : World) (a : Addr) (l : List Str) : HO := .ext fun h => h.SetOf (strKind P w) a (fun k => decide (k ∈ l)) l.length
/-- texts, each once -/
def onceS (xs : List Str) : List Str := xs.foldl addS []
theorem mem_addS {l : List Str} {x y : Str} : y ∈ addS l x ↔ y ∈ l ∨ y = x := by
  unfold addS
  by_cases c : x ∈ l
  · rw [if_pos c]
    exact ⟨.inl, fun h => h.elim id fun e => e ▸ c⟩
  · rw [if_neg c, List.mem_append, List.mem_singleton]
theorem addS_len (l : List Str) (x : Str) : (addS l x).length = if decide (x ∈ l) = true then l.length else l.length + 1 := by
  unfold addS
  by_cases c : x ∈ l
  · rw [if_pos c, if_pos (decide_eq_true c)]
  · rw [if_neg c, if_neg (by rw [decide_eq_false c]; decide), List.length_append]; rfl
theorem foldl_addS_len (xs : List Str) : ∀ l : List Str, (xs.foldl addS l).length ≤ l.length + xs.length := by
  induction xs with
  | nil => intro l; exact Nat.le_refl _
  | cons x xs ih =>
    intro l
    have h := ih (addS l x)
    have h2 := addS_len l x
    rw [List.foldl_cons, List.length_cons]
    split at h2 <;> omega
theorem setOf_to {P : Program} {w : World} {h : Heap} {a : Addr} {S S' : Str → Bool} {n n' : Nat} (hS : h.SetOf (strKind P w) a S n) (e : ∀ k, S k = S' k) (en : n = n') : h.SetOf (strKind P w) a S' n' := by
  have e2 : S = S' := funext e
  subst e2
  subst en
  exact hS
section
variable {prog : Program} {w : World} {A : Around} {E : Value → Shared → Prop} {s : Shared} {R : Result → Shared → Prop} {I S : Addr} {fp wr : List Addr} {G : Array GenState → Array GenState → Prop} {P : Nat → Value → Prop} {St : Nat → Shared → Prop}
/-- the texts that are still to come, one by one -/
theorem addAll (xs : List Str) (W : WalksS prog w A.in1 I fp wr G xs.length P St) (hSf : S ∉ fp) (hv : ∀ (i : Nat) (v : Value), i < xs.length → P i v → ∃ t, v = .str (xs.getD i Str.empty) t) (hb : xs.length + 1 < scanBound) :
    ∀ (rest : List Str) (done : List Str) (l : List Str) (s : Shared), xs = done ++ rest → St done.length s → l.length ≤ done.length → s.heap.SetOf (strKind prog w) S (fun k => decide (k ∈ l)) l.length →
      (∀ s', Moved (S :: wr) G s s' → s'.heap.SetOf (strKind prog w) S (fun k => decide (k ∈ rest.foldl addS l)) (rest.foldl addS l).length → R (.ok (.ret .none)) s') →
      codeAny (model prog w) A (.builtin "set.update.loop" ⟨[.ref S, .ref I], []⟩) R s := by
  have out : S ∉ wr := fun h => hSf (W.sub _ h)
  have up : ∀ b ∈ wr, b ∈ S :: wr := fun b hb => List.mem_cons_of_mem _ hb
  intro rest
  induction rest with
  | nil =>
    intro done l s ex st _ hS hR
    rw [List.append_nil] at ex
    subst ex
    refine codeAny_builtin F.entry_set_update_loop ?_
    rw [Around.under_plainId F.plain_set_update_loop _]
    change wpAny _ A.in1 (pyNext (.ref I) >>= _) _ _ s
    refine wpAny_bind (W.done s _ _ st fun s' hm => wpAny_pure (hR s' (hm.mono up) ?_))
    obtain ⟨o, es, ep, t, ho, r⟩ := hS
    exact ⟨o, es, ep, t, hm.heap S _ out ho, r⟩
  | cons x rest ih =>
    intro done l s ex st hl hS hR
    have lt : done.length < xs.length := by rw [ex]; simp
    have ex2 : xs.getD done.length Str.empty = x := by rw [ex, List.getD_eq_getElem?_getD, List.getElem?_append_right (Nat.le_refl _)]; simp
    refine codeAny_builtin F.entry_set_update_loop ?_
    rw [Around.under_plainId F.plain_set_update_loop _]
    change wpAny _ A.in1 (pyNext (.ref I) >>= _) _ _ s
    refine wpAny_bind (W.item _ s _ _ lt st fun v s' hP st' hm => ?_)
    obtain ⟨t, rfl⟩ := hv _ v lt hP
    rw [ex2]
    have hS' : s'.heap.SetOf (strKind prog w) S (fun k => decide (k ∈ l)) l.length := by
      obtain ⟨o, es, ep, tb, ho, r⟩ := hS
      exact ⟨o, es, ep, tb, hm.heap S _ out ho, r⟩
    change wpAny _ A.in1 (holding [Value.str x t] (setAdd S (.str x t)) >>= _) _ _ s'
    refine wpAny_bind (wpAny_holding ?_)
    unfold setAdd
    refine wpAny_holding (wpAny_bind ((strKind prog w).pyHash (k := x) (strKind_is _ _ _ _) ?_))
    refine wpAny_setAddHashed_of (knd := strKind prog w) (s := { s' with toks := s'.toks + 1 }) (strKind_is _ _ _ _) rfl hS' (by omega) fun h' hsb hS2 => ?_
    have hS3 : h'.SetOf (strKind prog w) S (fun k => decide (k ∈ addS l x)) (addS l x).length := setOf_to hS2 (fun k => by
      rw [Bool.eq_iff_iff, Bool.or_eq_true, decide_eq_true_iff, decide_eq_true_iff, decide_eq_true_iff, mem_addS]) (addS_len l x).symm
    have hl2 : (addS l x).length ≤ (done ++ [x]).length := by
      have := addS_len l x
      rw [List.length_append, List.length_singleton]
      split at this <;> omega
    refine wpAny_pure ⟨plainId_quiet F.plain_set_update_loop _, ih (done ++ [x]) (addS l x) _ (by rw [ex]; simp) (by
      rw [List.length_append, List.length_singleton]
      exact W.frame _ s' _ _ st' (Nat.le_succ _) fun b hb o e => by rw [hsb.2 b fun z : b = S => hSf (z ▸ hb)]; exact e) hl2 hS3 fun s'' hm'' hS'' => ?_⟩
    refine hR s'' (Moved.trans W.gtrans ((hm.mono up).then_heap (Nat.le_succ _) fun b o hb e => ?_) hm'') hS''
    rw [hsb.2 b fun z : b = S => hb (z ▸ List.mem_cons_self)]
    exact e
end
section
variable {prog : Program} {w : World} {A : Around} {E : Value → Shared → Prop} {s : Shared}
set_option maxHeartbeats 6400000 in
theorem call_set_texts {l : Addr} {items : Array Value} {xs : List Str} {Q : Value → Shared → Prop} (hh : A.handled = none) (hl : s.heap.IsList l items) (hsz : items.size = xs.length) (hi : ∀ (i : Nat) (v : Value), items[i]? = some v → ∃ t, v = .str (xs.getD i Str.empty) t) (hb : xs.length + 1 < scanBound)
    (h : ∀ (h' : Heap) (tk : Nat), h'.SetOf (strKind prog w) s.heap.objs.size (fun k => decide (k ∈ onceS xs)) (onceS xs).length → (∀ b o, s.heap.get? b = some o → h'.get? b = some o) → Q (.ref s.heap.objs.size) { s with heap := h', toks := tk }) :
    wpAny (model prog w) A (call (.type "set") [.ref l]) Q E s := by
  obtain ⟨c, tl, hmro⟩ := F.called_set.mro
  have hmade := F.called_set.made
  have hsub := F.called_set.sub
  refine wpAny_call (codeAny_of_tree ?_)
  change wpAny _ _ (callAny (.type "set") _) _ _ _
  refine wpAny_pure ⟨Code.quiet_builtin _ (by decide +kernel), codeAny_builtin F.entry_type_call ?_⟩
  rw [Around.under_plain (weight_type_call_type "set" [.ref l] []) rfl]
  have n1 := F.called_set.notType
  have n2 := F.called_set.canCreate
  have n3 := F.typeCall_set_1 (.ref l)
  repeat (any_goals (first | assumption | wp_step))
  -- the new set, empty
  refine codeAny_mono (code_set_new_1 (.ref l) (E := E) (Q₁ := fun obj s₁ => ∃ led : Bool, obj = .ref s.heap.objs.size ∧ s₁ = { s with heap := s.heap.push { cls := .type "set", dict := none, data := .set #[] 0 (.fresh 0 0 led) } }) fun led => ⟨led, rfl, rfl⟩) fun r s₁ hr => ?_
  cases r with
  | error e => exact hr
  | ok fl =>
    cases fl with
    | next => exact hr.elim
    | brk => exact hr.elim
    | cont => exact hr.elim
    | ret obj =>
      obtain ⟨led, rfl, rfl⟩ := hr
      generalize eh : s.heap.push { cls := .type "set", dict := none, data := .set #[] 0 (.fresh 0 0 led) } = h1
      have hS : h1.get? s.heap.objs.size = some { cls := .type "set", dict := none, data := .set #[] 0 (.fresh 0 0 led) } := by rw [← eh]; exact Heap.get?_push_size _ rfl
      have k1 : ∀ b o, s.heap.get? b = some o → h1.get? b = some o := fun b o e => by rw [← eh]; exact Heap.get?_push_of_some _ e
      have z1 : h1.objs.size = s.heap.objs.size + 1 := by rw [← eh]; exact Heap.size_push _ _
      have hT : Shared.TypeIs { s with heap := h1 } (.ref s.heap.objs.size) "set" := ⟨_, hS, rfl⟩
      have hli := F.called_set.init.lookup
      have hbi := F.called_set.init.bind (.ref s.heap.objs.size)
      repeat (any_goals (first | assumption | wp_step))
      -- its members
      refine codeAny_mono (codeAny_call_builtin (R := wants (fun r s₂ => r = .none ∧ ∃ h' tk, s₂ = { s with heap := h', toks := tk } ∧ h'.SetOf (strKind prog w) s.heap.objs.size (fun k => decide (k ∈ onceS xs)) (onceS xs).length ∧ ∀ b o, s.heap.get? b = some o → h'.get? b = some o) E)
        F.called_set.init.plain F.entry_set_init (check_set_init_1 hT ?_)) fun r₂ s₂ hr₂ => ?_
      · obtain ⟨⟨ocls, odict, odata, oslots⟩, hol, hcl, nl, hdl⟩ := hl
        simp only at hcl hdl
        subst hcl
        subst hdl
        have hol' := k1 _ _ hol
        have hl1 : h1.IsList l items := ⟨_, hol', rfl, nl, rfl⟩
        have u1 := F.sub_list_set
        have u2 := F.sub_list_frozenset
        have u3 : (Value.type "list" == Value.type "dict") = false := by decide
        unfold Builtin.«set.__init__» noKeywords Builtin.Frozenset.updateFrom
        generalize hPI : pyIter = PI
        wp_walk
        subst hPI
        refine wpAny_pyIter_list hl1 (wpAny_bind (wpAny_runValue ?_))
        have lt : l < s.heap.objs.size := Heap.lt_size hol
        have hh3 : A.in1.in1.in1.handled = none := by simp [hh]
        have ne1 : l ≠ h1.objs.size := Nat.ne_of_lt (by rw [z1]; exact Nat.lt_succ_of_lt lt)
        have ne2 : s.heap.objs.size ≠ h1.objs.size := Nat.ne_of_lt (by rw [z1]; exact Nat.lt_succ_self _)
        have nin : s.heap.objs.size ∉ [h1.objs.size, l] := by
          simp only [List.mem_cons, List.not_mem_nil, or_false, not_or]
          exact ⟨ne2, Nat.ne_of_gt lt⟩
        refine addAll (S := s.heap.objs.size) xs (hsz ▸ (Walks.list hh3 _ l ne1 items).toS) nin (fun i v _ hP => hi i v hP) hb xs [] [] _ rfl ⟨⟨_, Heap.get?_push_size _ rfl, rfl, rfl⟩, hl1.push _⟩ (Nat.le_refl _) ?_ ?_
        · have hget : (h1.push { cls := .type "list_iterator", data := .fields #[.ref l, .int 0 0] }).get? s.heap.objs.size = some { cls := .type "set", dict := none, data := .set #[] 0 (.fresh 0 0 led) } := Heap.get?_push_of_some _ hS
          exact setOf_to ((PyProof.Rows.setObjOf_fresh (knd := strKind prog w) led).setOf hget (by unfold scanBound; omega)) (fun k => by simp) rfl
        · intro s' hm hS'
          obtain ⟨h', g', d', tk', os'⟩ := s'
          have eg : g' = s.gens := hm.gens
          have ed : d' = s.drawn := hm.drawn
          have eo : os' = s.os := hm.os
          subst eg
          subst ed
          subst eo
          change wpAny _ _ _ _ _ _
          refine wpAny_pure ?_
          change wpAny _ _ (ret Value.none) _ _ _
          refine wpAny_pure ⟨rfl, h', tk', rfl, hS', fun b o e => ?_⟩
          have bl := Heap.lt_size e
          refine hm.heap b o ?_ (Heap.get?_push_of_some _ (k1 _ _ e))
          simp only [List.mem_cons, List.not_mem_nil, or_false, not_or]
          exact ⟨Nat.ne_of_lt bl, Nat.ne_of_lt (by rw [z1]; exact Nat.lt_succ_of_lt bl)⟩
      · cases r₂ with
        | error e => exact hr₂
        | ok fl₂ =>
          cases fl₂ with
          | next => exact hr₂.elim
          | brk => exact hr₂.elim
          | cont => exact hr₂.elim
          | ret r =>
            obtain ⟨rfl, h', tk, rfl, hS', hk'⟩ := hr₂
            repeat (any_goals (first | assumption | wp_step))
            exact h _ _ hS' hk'
end
end Fc
namespace Fc
open PySem PySem.Spec PyProof.Rows L2
theorem setT_ok {w : World} {P : Program} {H : Hp} {h : Heap} {a : Addr} {l : List Str} (R : h.SetOf (strKind P w) a (fun k => decide (k ∈ l)) l.length) : ObjOk P w H h a (SetT P w a l) := by
  have ⟨o, _, _, _, ho, _⟩ := R
  exact ⟨R, ⟨o, ho⟩, fun h1 h2 ⟨o, es, ep, t, ho, r⟩ k => ⟨o, es, ep, t, k o ho, r⟩⟩
theorem onceS_len (xs : List Str) : (onceS xs).length ≤ xs.length := by
  have := foldl_addS_len xs []
  show (xs.foldl addS []).length ≤ xs.length
  simpa using this
/-- set(xs) of a list of texts -/
theorem call_setT {X : Cx} (hcalm : X.calm = true) : CallR X (.type "set") (fun xs H Q => ∃ (a : Addr) (l : List Str), xs = [.ref a] ∧ SqL X.K H a (l.map V.str) ∧ l.length + 1 < scanBound ∧ ∀ p, H p = none → Q (.ref p) (upd H p (SetT X.prog X.w p (onceS l)))) := by
  intro pins s σ H xs us Q I r ⟨a, l, e, hq, hb, q⟩
  subst e
  obtain ⟨u, rfl, rx⟩ := vals1 r
  obtain rfl : u = Value.ref a := rx
  obtain ⟨its, rv, pl, hz⟩ := I.list hq
  have hl : its.length = l.length := by rw [← rv.length, List.length_map]
  refine call_set_texts (xs := l) (I.ok.hd hcalm) pl.isList (by rw [List.size_toArray, hl]) (fun i v hv => ?_) hb fun h' tk hS kp => ?_
  · rw [List.getElem?_toArray] at hv
    have hi : i < l.length := by rw [← hl]; exact (List.getElem?_eq_some_iff.mp hv).1
    obtain ⟨u, hu, ru⟩ := rv.get (i := i) (x := .str l[i]) (by rw [List.getElem?_map, List.getElem?_eq_getElem hi]; rfl)
    rw [hv] at hu
    cases hu
    obtain ⟨t, rfl⟩ := (show ∃ t, v = Value.str l[i] t from ru)
    exact ⟨t, by rw [List.getD_eq_getElem?_getD, List.getElem?_eq_getElem hi]; rfl⟩
  · exact ⟨.ref s.heap.objs.size, _, I.laid (t' := tk) kp (Nat.le_refl _) (setT_ok hS), rfl, q _ (I.hok.fresh (Nat.le_refl _))⟩
/-- len(s) of a set of texts -/
theorem call_lenS {X : Cx} : CallR X (.builtin "len") (fun xs H Q => ∃ a l, xs = [.ref a] ∧ H a = some (SetT X.prog X.w a l) ∧ Q (.int (l.length : Int)) H) := by
  intro pins s σ H xs us Q I r ⟨a, l, e, ha, q⟩
  subst e
  obtain ⟨u, rfl, rx⟩ := vals1 r
  obtain rfl : u = Value.ref a := rx
  obtain ⟨o, es, ep, t, ho, hx, hd, _, _, hb, hf, hn⟩ := (I.hok a _ ha).1
  have hb2 : (es.size : Int) < 2 ^ 63 := by
    have : es.size < 4096 := by unfold scanBound at hb; omega
    omega
  exact call_len_set ho hx hd hf hb2 ⟨.int (l.length : Int), H, I.tok _, ⟨_, by rw [hn]⟩, q⟩
end Fc
namespace Fc
open PySem L2 PyProof.Rows
/-- a table of texts that all have the value v -/
def tabS (l : List Str) (v : V) : List (Kd × V) := l.map fun x => (Kd.w x, v)
theorem nk_w {x y : Str} : nk (.w x) = nk (.w y) ↔ x = y := ⟨fun h => by injection h, fun h => by rw [h]⟩
theorem putN_tabS (l : List Str) (x : Str) (v : V) : putN (tabS l v) (.w x) v = tabS (addS l x) v := by
  induction l with
  | nil => rfl
  | cons y l ih =>
    show (if nk (.w y) = nk (.w x) then (Kd.w y, v) :: tabS l v else (Kd.w y, v) :: putN (tabS l v) (.w x) v) = _
    by_cases c : y = x
    · subst c
      rw [if_pos rfl]
      unfold addS
      rw [if_pos List.mem_cons_self]
      rfl
    · rw [if_neg (fun e => c (nk_w.mp e)), ih]
      unfold addS
      by_cases d : x ∈ l
      · rw [if_pos d, if_pos (List.mem_cons_of_mem _ d)]; rfl
      · rw [if_neg d, if_neg (fun h => (List.mem_cons.mp h).elim (fun e => c e.symm) d)]; rfl
theorem tabS_keys {K : PySem.W.Frag} {H : Hp} {v : V} : ∀ {l : List Str} {zs : List Ent}, Paired (TabR K H) (tabS l v) zs → zs.map (·.2.1) = l.map V.str
  | [], zs, h => by cases h; rfl
  | x :: l, zs, h => by
    cases h with
    | cons a b =>
      rw [List.map_cons, tabS_keys (l := l) b]
      rw [show _ = V.str x from a.2.1]
      rfl
theorem addS_le (l : List Str) (x : Str) : (addS l x).length ≤ l.length + 1 := by
  have := addS_len l x
  split at this <;> omega
/-- the different lengths of the first rows -/
def lensN (as : List (Str × Str)) (n : Nat) : List Str := lensOf (as.take n)
theorem lensN_succ {as : List (Str × Str)} {n : Nat} (h : n < as.length) : lensN as (n + 1) = addS (lensN as n) (as[n]).2 := by
  unfold lensN lensOf
  rw [List.take_add_one, List.getElem?_eq_getElem h]
  show (as.take n ++ [as[n]]).foldl _ [] = _
  rw [List.foldl_append]
  rfl
theorem lensOf_len (as : List (Str × Str)) : (lensOf as).length ≤ as.length := by
  have g : ∀ (as : List (Str × Str)) (l : List Str), (as.foldl (fun l e => addS l e.2) l).length ≤ l.length + as.length := by
    intro as
    induction as with
    | nil => intro l; exact Nat.le_refl _
    | cons e as ih =>
      intro l
      have h1 := ih (addS l e.2)
      have h2 := addS_le l e.2
      rw [List.foldl_cons, List.length_cons]
      omega
  have := g as []
  show (as.foldl (fun l e => addS l e.2) []).length ≤ as.length
  simpa using this
theorem dA_at {K : PySem.W.Frag} {H : Hp} {as : List (Str × Str)} {xs : List V} (h : DpAll K H xs (as.map fun e => PyData.tuple [.str e.1, .str e.2])) {i : Nat} (hi : i < as.length) : ∃ u, xs.getD i .non = .ref u ∧ SqT K H u [.str (as[i]).1, .str (as[i]).2] := by
  have q := dp_at h (k := i) (by rw [List.length_map]; exact hi)
  rw [List.getD_eq_getElem?_getD (l := as.map _), List.getElem?_map, List.getElem?_eq_getElem hi] at q
  replace q : Dp K H (xs.getD i .non) (.tuple [.str (as[i]).1, .str (as[i]).2]) := q
  generalize xs.getD i .non = y at q
  cases q with
  | @tup u ys _ su du =>
    cases du with
    | cons a b =>
      cases b with
      | cons c d =>
        cases a
        cases c
        cases d
        exact ⟨u, rfl, su⟩
theorem dp_strs {K : PySem.W.Frag} {H : Hp} : ∀ l : List Str, DpAll K H (l.map V.str) (l.map PyData.str)
  | [] => .nil
  | x :: l => .cons (.str x) (dp_strs l)
theorem strs_dp {K : PySem.W.Frag} {H : Hp} : ∀ {l : List Str} {xs : List V}, DpAll K H xs (l.map PyData.str) → xs = l.map V.str
  | [], xs, h => by cases h; rfl
  | x :: l, xs, h => by
    cases h with
    | cons a b =>
      cases a
      rw [strs_dp (l := l) b]
      rfl
theorem tup_dS {K : PySem.W.Frag} {H : Hp} {t : Addr} {l : List Str} (h : Dp K H (.ref t) (dS l)) : SqT K H t (l.map V.str) := by
  unfold dS at h
  cases h with
  | @tup _ xs _ sa da => rw [← strs_dp da]; exact sa
theorem dS_tup {K : PySem.W.Frag} {H : Hp} {t : Addr} {l : List Str} (h : SqT K H t (l.map V.str)) : Dp K H (.ref t) (dS l) := .tup h (dp_strs l)
def spLens (K : PySem.W.Frag) (w : World) : Sp := fun vs H Q _ => ∃ t as, vs = [.ref t] ∧ Dp K H (.ref t) (dA as) ∧ as.length ≤ 60 ∧ ∀ H' p, Same H H' → Dp K H' (.ref p) (dS (lensOf as)) → Q (.ref p) H'
section
variable {K : PySem.W.Frag} {mg : Str → Option Value} {base : Heap} {P : Program} {w : World}
abbrev n28 : List Str := ["arrays", "seen", "_", "length"]
theorem sc28 : FnScope n28 ["arrays"] (defScope (topS 28)) := ⟨rfl, rfl, rfl, by decide +kernel, rfl, by decide +kernel, by decide +kernel⟩
theorem ok28 {f : Addr} {fd : FuncData} (F : Fun K "different_lengths" "different_lengths" (topS 28) f fd) (B : Blt mg) : FnOk P w K mg base CX0 1 f fd ["arrays"] (spLens K w) := by
  refine F.ok sc28 (fun vs H Q E h => ?_) (fun cdv A outer s H vs Q E hr h => ?_)
  · obtain ⟨t, as, rfl, _⟩ := h
    rfl
  · have hu := hu70 hr
    refine ⟨_, pss_cons (ps_setDcM (i := 1) (own := [("_", 2), ("length", 3)]) (g := gTup K 2 (gCons (gName 2) (gCons (gName 3) gNil))) (hu9 hu) (by rfl) sc28.nd rfl rfl (sw_trueD rfl rfl rfl (by decide +kernel)) (pi_tup (pv 0)) (blkOk_by (N := n28) (sc := defScope (topS 28)) (by decide +kernel))
        (fun _ _ _ _ _ => pg_tup rfl (pgs_cons (pg_name (i := 2) sc28.nd rfl (Or.inl rfl)) (pgs_cons (pg_name (i := 3) sc28.nd rfl (Or.inl rfl)) pgs_nil))) (fun _ _ _ _ _ => pv 3) (fun _ _ _ _ _ => pe_bl))
      (pss_one (ps_ret (pe_callTy (call_tupleM rfl) (by rfl) B.tuple boot_tuple (pa_cons (pv 1) pa_nil)))), ?_⟩
    obtain ⟨t, as, rfl, hd, hl, q⟩ := h
    unfold dA at hd
    cases hd with
    | @tup _ xs _ sa da =>
    have lx : xs.length = as.length := (dp_len da).trans (List.length_map _)
    refine ⟨_, rfl, t, rfl, ⟨xs, sa⟩, fun D hD => ?_⟩
    have s1 : Same H (upd H D (MD w D [])) := same_new hD
    refine dc_steady (K := K) (w := w) (steady_tup (K := K) (a := t) (xs := xs)) (fun k H' => Same H H' ∧ TabIs K w H' D (tabS (lensN as k) (.bl true))) ⟨s1, [], upd_same, .nil⟩ (fun i H' _ h => Tups.same h.1 _ _ sa) (fun i H' hi h => ?_) fun H' h => ?_
    · obtain ⟨s2, zs, hz, pz⟩ := h
      have hi2 : i < as.length := by omega
      obtain ⟨u, eu, su⟩ := dA_at da hi2
      have lz : zs.length = (lensN as i).length := by rw [← paired_len pz]; exact List.length_map _
      have ll : (lensN as i).length ≤ 60 := by
        have := lensOf_len (as.take i)
        rw [List.length_take] at this
        show (lensOf (as.take i)).length ≤ 60
        omega
      refine ⟨u, _, eu, Tups.same s2 _ _ su, rfl, _, _, rfl, _, _, rfl, ⟨rfl, rfl, _, rfl, zs, .text (as[i]).2, hz, tabR_keys pz, .inl (.inl (.text _)), by rw [sizeLine_eq]; omega, ?_⟩⟩
      have tp : Tups K H' (upd H' D (MD w D (putM zs (.text (as[i]).2) (.str (as[i]).2) (.bl true)))) := Tups.upd fun u e => by rw [hz] at e; cases e; exact True.intro
      refine ⟨fun b o e => ?_, _, upd_same, ?_⟩
      · rw [upd_ne (ne_of_none e hD)]
        exact s2 b o e
      · rw [lensN_succ hi2, ← putN_tabS]
        exact tabR_mono tp (tabR_put (k := .w (as[i]).2) rfl pz)
    · obtain ⟨s2, zs, hz, pz⟩ := h
      rw [show lensN as xs.length = lensOf as by unfold lensN; rw [lx, List.take_length]] at pz
      refine ⟨_, rfl, D, zs, rfl, ⟨.inl hz, tabR_keys pz⟩, fun p hp => ?_⟩
      rw [tabS_keys pz]
      exact q _ p (s2.trans (same_new hp)) (dS_tup (.inl (.inl upd_same)))
end
end Fc
namespace Fc
open PySem L2 PyProof.Rows
def tabK (ks : List (Str × Str)) : List (Kd × V) := ks.map fun e => (Kd.w e.1, V.str e.2)
def kk (v : Str) (l : List Str) : List (Str × Str) := l.map fun x => (x, v)
theorem tabK_kk (v : Str) (l : List Str) : tabK (kk v l) = tabS l (.str v) := by unfold tabK kk tabS; rw [List.map_map]; rfl
theorem kk_keys (v : Str) (l : List Str) : (kk v l).map (·.1) = l := by unfold kk; rw [List.map_map]; exact List.map_id _
theorem putN_app (A : List (Str × Str)) (B : List (Kd × V)) (x : Str) (v : V) (h : x ∉ A.map (·.1)) : putN (tabK A ++ B) (.w x) v = tabK A ++ putN B (.w x) v := by
  induction A with
  | nil => rfl
  | cons e A ih =>
    show (if nk (.w e.1) = nk (.w x) then _ else (Kd.w e.1, V.str e.2) :: putN (tabK A ++ B) (.w x) v) = _
    rw [if_neg (fun q => h (by rw [List.map_cons, ← nk_w.mp q]; exact List.mem_cons_self)), ih fun q => h (List.mem_cons_of_mem _ q)]
    rfl
theorem putN_kk (A : List (Str × Str)) (l : List Str) (v x : Str) (h : x ∉ A.map (·.1)) : putN (tabK (A ++ kk v l)) (.w x) (.str v) = tabK (A ++ kk v (addS l x)) := by
  have e : tabK (A ++ kk v l) = tabK A ++ tabS l (.str v) := by rw [← tabK_kk]; unfold tabK; rw [List.map_append]
  rw [e, putN_app _ _ _ _ h, putN_tabS, ← tabK_kk]
  unfold tabK
  rw [List.map_append]
theorem onceS_succ {xs : List Str} {n : Nat} (h : n < xs.length) : onceS (xs.take (n + 1)) = addS (onceS (xs.take n)) xs[n] := by
  unfold onceS
  rw [List.take_add_one, List.getElem?_eq_getElem h]
  show (xs.take n ++ [xs[n]]).foldl _ [] = _
  rw [List.foldl_append]
  rfl
theorem onceS_nd {xs : List Str} (h : xs.Nodup) : onceS xs = xs := by
  have g : ∀ (xs l : List Str), (l ++ xs).Nodup → xs.foldl addS l = l ++ xs := by
    intro xs
    induction xs with
    | nil => intro l _; simp
    | cons x xs ih =>
      intro l nd
      have hx : x ∉ l := fun q => by
        have := List.nodup_append.mp nd
        exact this.2.2 x q x List.mem_cons_self rfl
      have e1 : addS l x = l ++ [x] := by unfold addS; rw [if_neg hx]
      rw [List.foldl_cons, e1, ih (l ++ [x]) (by simpa using nd)]
      simp
  have := g xs [] (by simpa using h)
  exact this
theorem mem_onceS {xs : List Str} {x : Str} : x ∈ onceS xs ↔ x ∈ xs := by
  have g : ∀ (xs l : List Str), x ∈ xs.foldl addS l ↔ x ∈ l ∨ x ∈ xs := by
    intro xs
    induction xs with
    | nil => intro l; simp
    | cons y xs ih =>
      intro l
      rw [List.foldl_cons, ih, mem_addS, List.mem_cons, or_assoc]
  have := g xs []
  show x ∈ xs.foldl addS [] ↔ x ∈ xs
  simpa using this
theorem lens_once (as : List (Str × Str)) : lensOf as = onceS (as.map (·.2)) := by
  unfold lensOf onceS
  rw [List.foldl_map]
theorem tabK_at {K : PySem.W.Frag} {H : Hp} : ∀ {ks : List (Str × Str)} {zs : List Ent}, Paired (TabR K H) (tabK ks) zs → zs = (kvK ks).map entK
  | [], zs, h => by cases h; rfl
  | e :: ks, zs, h => by
    cases h with
    | cons a b =>
      rename_i z zs
      rw [tabK_at (ks := ks) b]
      obtain ⟨z1, z2, z3⟩ := z
      obtain ⟨a1, a2, a3⟩ := a
      have a1 : z1 = nk (.w e.1) := a1
      have a2 : z2 = V.str e.1 := a2
      have a3 : z3 = V.str e.2 := a3
      subst a1 a2 a3
      rfl
theorem onceS_take_len (xs : List Str) (n : Nat) : (onceS (xs.take n)).length ≤ xs.length := by
  have h1 := onceS_len (xs.take n)
  rw [List.length_take] at h1
  omega
def spKinds (K : PySem.W.Frag) (w : World) : Sp := fun vs H Q _ => ∃ tA tP tV P, vs = [.ref tA, .ref tP, .ref tV] ∧ Dp K H (.ref tA) (dA P.arrays) ∧ Dp K H (.ref tP) (dS P.pos) ∧ Dp K H (.ref tV) (dS P.vals) ∧ PaOk P ∧ ∀ H' p, Same H H' → H p = none → H' p = some (.dK (kvK (kindsL P))) → Q (.ref p) H'
/-- while the table D is filled: only it is new -/
structure Fill (K : PySem.W.Frag) (w : World) (H : Hp) (D : Addr) (ks : List (Str × Str)) (H' : Hp) : Prop where
  same : Same H H'
  tab : TabIs K w H' D (tabK ks)
section
variable {K : PySem.W.Frag} {mg : Str → Option Value} {base : Heap} {P : Program} {w : World}
theorem Fill.put {H H' : Hp} {D : Addr} {A : List (Str × Str)} {l : List Str} {v x : Str} (h : Fill K w H D (A ++ kk v l) H') (hD : H D = none) (hx : x ∉ A.map (·.1)) : ∃ zs, H' D = some (MD w D zs) ∧ (∀ z ∈ zs, KeyV K H' z.1 z.2.1) ∧ zs.length = (A ++ kk v l).length ∧
    Fill K w H D (A ++ kk v (addS l x)) (upd H' D (MD w D (putM zs (.text x) (.str x) (.str v)))) := by
  obtain ⟨s, zs, hz, pz⟩ := h
  refine ⟨zs, hz, tabR_keys pz, by rw [← paired_len pz]; exact List.length_map _, fun b o e => ?_, _, upd_same, ?_⟩
  · rw [upd_ne (ne_of_none e hD)]
    exact s b o e
  · rw [← putN_kk _ _ _ _ hx]
    have tp : Tups K H' (upd H' D (MD w D (putM zs (.text x) (.str x) (.str v)))) := Tups.upd fun u e => by rw [hz] at e; cases e; exact True.intro
    exact tabR_mono tp (tabR_put (k := .w x) rfl pz)
abbrev n30 : List Str := ["arrays", "positions", "values", "_", "kinds", "length", "word", "array"]
theorem sc30 : FnScope n30 ["arrays", "positions", "values"] (defScope (topS 30)) := ⟨rfl, rfl, rfl, by decide +kernel, rfl, by decide +kernel, by decide +kernel⟩
theorem strs_getD (l : List Str) {i : Nat} (h : i < l.length) : (l.map V.str).getD i .non = .str l[i] := by
  rw [List.getD_eq_getElem?_getD, List.getElem?_map, List.getElem?_eq_getElem h]; rfl
theorem ok30 {f : Addr} {fd : FuncData} (F : Fun K "kinds_of_names" "kinds_of_names" (topS 30) f fd) : FnOk P w K mg base CX0 1 f fd ["arrays", "positions", "values"] (spKinds K w) := by
  refine F.ok sc30 (fun vs H Q E h => ?_) (fun cdv A outer s H vs Q E hr h => ?_)
  · obtain ⟨tA, tP, tV, P, rfl, _⟩ := h
    rfl
  · have hu := hu70 hr
    refine ⟨_, pss_cons (ps_setDcM (i := 4) (own := [("array", 7), ("_", 3)]) (g := gTup K 2 (gCons (gName 7) (gCons (gName 3) gNil))) (hu9 hu) (by rfl) sc30.nd rfl rfl (sw_trueD rfl rfl rfl (by decide +kernel)) (pi_tup (pv 0)) (blkOk_by (N := n30) (sc := defScope (topS 30)) (by decide +kernel))
        (fun _ _ _ _ _ => pg_tup rfl (pgs_cons (pg_name (i := 7) sc30.nd rfl (Or.inl rfl)) (pgs_cons (pg_name (i := 3) sc30.nd rfl (Or.inl rfl)) pgs_nil))) (fun _ _ _ _ _ => pv 7) (fun _ _ _ _ _ => pe_str))
      (pss_cons (ps_for PassesOwn.never rfl (pi_tup (pv 0)) (pg_tup rfl (pgs_cons (pg_name (i := 3) sc30.nd rfl (Or.inl rfl)) (pgs_cons (pg_name (i := 5) sc30.nd rfl (Or.inl rfl)) pgs_nil))) (pss_one (ps_asg pe_str (pg_sub (pv 4) (pv 5) (set_md (hu9 hu))))))
      (pss_cons (ps_for PassesOwn.never rfl (pi_tup (pv 1)) (pg_name (i := 6) sc30.nd rfl (Or.inl rfl)) (pss_one (ps_asg pe_str (pg_sub (pv 4) (pv 6) (set_md (hu9 hu))))))
      (pss_cons (ps_for PassesOwn.never rfl (pi_tup (pv 2)) (pg_name (i := 6) sc30.nd rfl (Or.inl rfl)) (pss_one (ps_asg pe_str (pg_sub (pv 4) (pv 6) (set_md (hu9 hu))))))
      (pss_one (ps_ret (pe_asK (pv 4))))))), ?_⟩
    obtain ⟨tA, tP, tV, ⟨as, ps, vs⟩, rfl, hA, hP, hV, ok, q⟩ := h
    have sP := tup_dS hP
    have sV := tup_dS hV
    unfold dA at hA
    cases hA with
    | @tup _ xs _ sa da =>
    have lx : xs.length = as.length := (dp_len da).trans (List.length_map _)
    have nd : ((as.map (·.1)) ++ (lensOf as ++ (ps ++ vs))).Nodup := ok.nd
    have na : as.length ≤ 12 := ok.na
    have np : ps.length ≤ 8 := ok.np
    have nv : vs.length ≤ 6 := ok.nv
    obtain ⟨nd1, nd2, nd3⟩ := List.nodup_append.mp nd
    obtain ⟨nd4, nd5, nd6⟩ := List.nodup_append.mp nd2
    obtain ⟨nd7, nd8, nd9⟩ := List.nodup_append.mp nd5
    have ll := lensOf_len as
    have size : ∀ {n : Nat}, n ≤ 1000 → n < sizeLine := fun h => by rw [sizeLine_eq]; omega
    have kl : ∀ (v : Str) (l : List Str), (kk v l).length = l.length := fun v l => List.length_map _
    refine ⟨_, rfl, tA, rfl, ⟨xs, sa⟩, fun D hD => ?_⟩
    -- the arrays
    refine dc_steady (K := K) (w := w) (steady_tup (K := K) (a := tA) (xs := xs)) (fun k H' => Fill K w H D ([] ++ kk "array" (onceS ((as.map (·.1)).take k))) H') ⟨same_new hD, [], upd_same, .nil⟩ (fun i H' _ h => Tups.same h.same _ _ sa) (fun i H' hi h => ?_) fun H1 h1 => ?_
    · have hi2 : i < as.length := by omega
      obtain ⟨u, eu, su⟩ := dA_at da hi2
      obtain ⟨zs, hz, kz, lz, h2⟩ := h.put hD (x := (as[i]).1) (by intro q; cases q)
      have l2 := onceS_take_len (as.map (·.1)) i
      rw [List.length_map] at l2
      rw [List.nil_append, kl] at lz
      refine ⟨u, _, eu, Tups.same h.same _ _ su, rfl, _, _, rfl, _, _, rfl, ⟨rfl, rfl, _, rfl, zs, .text (as[i]).1, hz, kz, .inl (.inl (.text _)), size (by omega), ?_⟩⟩
      have e := onceS_succ (xs := as.map (·.1)) (n := i) (by rw [List.length_map]; exact hi2)
      rw [List.getElem_map] at e
      rw [e]
      exact h2
    rw [lx, List.take_of_length_le (by rw [List.length_map]; exact Nat.le_refl _), onceS_nd nd1, List.nil_append] at h1
    -- their lengths
    refine ⟨_, rfl, tA, rfl, ⟨xs, Tups.same h1.same _ _ sa⟩, ?_⟩
    refine for_steady steady_tup (fun k σ H' => (∃ z3 z5 z6 z7, σ = [some (.ref tA), some (.ref tP), some (.ref tV), z3, some (.ref D), z5, z6, z7]) ∧ Fill K w H D (kk "array" (as.map (·.1)) ++ kk "length" (onceS ((as.map (·.2)).take k))) H') ⟨⟨_, _, _, _, rfl⟩, by rw [show kk "length" (onceS ((as.map (·.2)).take 0)) = [] from rfl, List.append_nil]; exact h1⟩ (fun _ _ _ _ h => Tups.same h.2.same _ _ sa) ?_ ?_
    · rintro i σ H2 hi ⟨⟨z3, z5, z6, z7, rfl⟩, h2⟩
      have hi2 : i < as.length := by omega
      obtain ⟨u, eu, su⟩ := dA_at da hi2
      have hx : (as[i]).2 ∉ (kk "array" (as.map (·.1))).map (·.1) := by
        rw [kk_keys]
        intro q
        exact nd3 _ q _ (List.mem_append_left _ (by rw [lens_once, mem_onceS]; exact List.mem_map.mpr ⟨_, List.getElem_mem hi2, rfl⟩)) rfl
      obtain ⟨zs, hz, kz, lz, h3⟩ := h2.put hD hx
      have l2 := onceS_take_len (as.map (·.2)) i
      rw [List.length_map] at l2
      rw [List.length_append, kl, kl, List.length_map] at lz
      refine ⟨u, _, eu, Tups.same h2.same _ _ su, rfl, _, _, rfl, _, _, rfl, ⟨rfl, _, rfl, _, rfl, D, zs, .text (as[i]).2, rfl, hz, kz, .inl (.inl (.text _)), size (by omega), ⟨_, _, _, _, rfl⟩, ?_⟩⟩
      have e := onceS_succ (xs := as.map (·.2)) (n := i) (by rw [List.length_map]; exact hi2)
      rw [List.getElem_map] at e
      rw [e]
      exact h3
    rintro σ H2 ⟨⟨z3, z5, z6, z7, rfl⟩, h2⟩
    rw [lx, List.take_of_length_le (by rw [List.length_map]; exact Nat.le_refl _), ← lens_once] at h2
    -- the positions
    refine ⟨_, rfl, tP, rfl, ⟨_, Tups.same h2.same _ _ sP⟩, ?_⟩
    refine for_steady steady_tup (fun k σ H' => (∃ z3 z5 z6 z7, σ = [some (.ref tA), some (.ref tP), some (.ref tV), z3, some (.ref D), z5, z6, z7]) ∧ Fill K w H D ((kk "array" (as.map (·.1)) ++ kk "length" (lensOf as)) ++ kk "position" (onceS (ps.take k))) H') ⟨⟨_, _, _, _, rfl⟩, by rw [show kk "position" (onceS (ps.take 0)) = [] from rfl, List.append_nil]; exact h2⟩ (fun _ _ _ _ h => Tups.same h.2.same _ _ sP) ?_ ?_
    · rintro i σ H3 hi ⟨⟨z3, z5, z6, z7, rfl⟩, h3⟩
      have hi2 : i < ps.length := by rw [List.length_map] at hi; exact hi
      have hx : ps[i] ∉ (kk "array" (as.map (·.1)) ++ kk "length" (lensOf as)).map (·.1) := by
        rw [List.map_append, kk_keys, kk_keys]
        intro q
        rcases List.mem_append.mp q with q | q
        · exact nd3 _ q _ (List.mem_append_right _ (List.mem_append_left _ (List.getElem_mem hi2))) rfl
        · exact nd6 _ q _ (List.mem_append_left _ (List.getElem_mem hi2)) rfl
      obtain ⟨zs, hz, kz, lz, h4⟩ := h3.put hD hx
      have l2 := onceS_take_len ps i
      rw [List.length_append, List.length_append, kl, kl, kl, List.length_map] at lz
      rw [strs_getD ps hi2]
      refine ⟨_, rfl, _, rfl, D, zs, .text ps[i], rfl, hz, kz, .inl (.inl (.text _)), size (by omega), ⟨_, _, _, _, rfl⟩, ?_⟩
      rw [onceS_succ hi2]
      exact h4
    rintro σ H3 ⟨⟨z3, z5, z6, z7, rfl⟩, h3⟩
    rw [List.length_map, List.take_length, onceS_nd nd7] at h3
    -- the values
    refine ⟨_, rfl, tV, rfl, ⟨_, Tups.same h3.same _ _ sV⟩, ?_⟩
    refine for_steady steady_tup (fun k σ H' => (∃ z3 z5 z6 z7, σ = [some (.ref tA), some (.ref tP), some (.ref tV), z3, some (.ref D), z5, z6, z7]) ∧ Fill K w H D (((kk "array" (as.map (·.1)) ++ kk "length" (lensOf as)) ++ kk "position" ps) ++ kk "value" (onceS (vs.take k))) H') ⟨⟨_, _, _, _, rfl⟩, by rw [show kk "value" (onceS (vs.take 0)) = [] from rfl, List.append_nil]; exact h3⟩ (fun _ _ _ _ h => Tups.same h.2.same _ _ sV) ?_ ?_
    · rintro i σ H4 hi ⟨⟨z3, z5, z6, z7, rfl⟩, h4⟩
      have hi2 : i < vs.length := by rw [List.length_map] at hi; exact hi
      have hx : vs[i] ∉ ((kk "array" (as.map (·.1)) ++ kk "length" (lensOf as)) ++ kk "position" ps).map (·.1) := by
        rw [List.map_append, List.map_append, kk_keys, kk_keys, kk_keys]
        intro q
        rcases List.mem_append.mp q with q | q
        · rcases List.mem_append.mp q with q | q
          · exact nd3 _ q _ (List.mem_append_right _ (List.mem_append_right _ (List.getElem_mem hi2))) rfl
          · exact nd6 _ q _ (List.mem_append_right _ (List.getElem_mem hi2)) rfl
        · exact nd9 _ q _ (List.getElem_mem hi2) rfl
      obtain ⟨zs, hz, kz, lz, h5⟩ := h4.put hD hx
      have l2 := onceS_take_len vs i
      rw [List.length_append, List.length_append, List.length_append, kl, kl, kl, kl, List.length_map] at lz
      rw [strs_getD vs hi2]
      refine ⟨_, rfl, _, rfl, D, zs, .text vs[i], rfl, hz, kz, .inl (.inl (.text _)), size (by omega), ⟨_, _, _, _, rfl⟩, ?_⟩
      rw [onceS_succ hi2]
      exact h5
    rintro σ H4 ⟨⟨z3, z5, z6, z7, rfl⟩, h4⟩
    rw [List.length_map, List.take_length, onceS_nd nd8] at h4
    obtain ⟨s4, zs, hz, pz⟩ := h4
    rw [tabK_at pz] at hz
    have ek : ((kk "array" (as.map (·.1)) ++ kk "length" (lensOf as)) ++ kk "position" ps) ++ kk "value" vs = kindsL ⟨as, ps, vs⟩ := by
      unfold kindsL kk
      rw [List.map_map, List.append_assoc, List.append_assoc]
      rfl
    rw [ek] at hz
    exact ⟨_, rfl, D, _, rfl, hz, q _ D (fun b o e => by rw [upd_ne (ne_of_none e hD)]; exact s4 b o e) hD upd_same⟩
end
end Fc
namespace Fc
open PySem L2 PyProof.Rows
/-! [e for x in xs for y in x] -/
theorem lc2_in {J1 : It} {n : Nat} {it : Nat → V} {G : Hp → Prop} (S : Steady J1 n it G) {g1 : TG} {tt1 : TT} {te : TE} {σ2 : L2.St} {vs1 : List Nat} {D : Addr} {H4 : Hp} {Nx : Hp → Prop} (Pv : Nat → Hp → Prop) (h0 : Pv 0 H4) (hl : ∀ i H, i ≤ n → Pv i H → G H)
    (hs : ∀ j H, j < n → Pv j H → g1 (it j) (wipe σ2 vs1) H fun σ3 H5 => wipe σ3 vs1 = wipe σ2 vs1 ∧ tt1 σ3 H5 fun b H6 => if b = true then te σ3 H6 fun y H7 => ∃ acc, H7 D = some (.lst acc) ∧ acc.length < sizeLine ∧ Pv (j + 1) (upd H7 D (.lst (acc ++ [y]))) else Pv (j + 1) H6)
    (hd : ∀ H, Pv n H → Nx H) : ∃ W1 : Nat → Nat → Hp → Prop, (∃ m, W1 0 m H4) ∧ ∀ j k H, W1 j k H →
      (J1.stop j H ∧ Nx H) ∨ (J1.go j H ∧ ∃ Nx1 : Hp → Prop, (∀ H', Nx1 H' → ∃ k', k' < k ∧ W1 (j + 1) k' H') ∧ ∀ x H', J1.yld j H x H' → g1 x (wipe σ2 vs1) H' fun σ3 H5 => wipe σ3 vs1 = wipe σ2 vs1 ∧ tt1 σ3 H5 fun b H6 =>
        if b = true then te σ3 H6 fun y H7 => ∃ acc, H7 D = some (.lst acc) ∧ acc.length < sizeLine ∧ Nx1 (upd H7 D (.lst (acc ++ [y]))) else Nx1 H6) := by
  refine ⟨fun i m H => m + i = n ∧ Pv i H, ⟨n, rfl, h0⟩, fun i m H ⟨e, p⟩ => ?_⟩
  by_cases c : i = n
  · subst c
    exact .inl ⟨S.stop _ (hl _ _ (Nat.le_refl _) p), hd _ p⟩
  · have lt : i < n := by omega
    have q := hl i H (Nat.le_of_lt lt) p
    refine .inr ⟨S.go i H q lt, Pv (i + 1), fun H' p' => ⟨m - 1, by omega, by omega, p'⟩, fun x H' y => ?_⟩
    obtain ⟨e1, e2⟩ := S.yld i H x H' q lt y
    rw [e1, e2]
    exact hs i H lt p
theorem lc2_out {J : It} {n : Nat} {it : Nat → V} {G : Hp → Prop} (S : Steady J n it G) {g g1 : TG} {tt tt1 : TT} {wi1 : TI} {te : TE} {vs vs1 : List Nat} {σ : L2.St} {H1 : Hp} {D : Addr} {Qd : Hp → Prop} (Pv : Nat → Hp → Prop) (h0 : Pv 0 (upd H1 D (.lst []))) (hl : ∀ i H, i ≤ n → Pv i H → G H)
    (hs : ∀ i H, i < n → Pv i H → g (it i) (wipe σ vs) H fun σ2 H2 => wipe σ2 vs = wipe σ vs ∧ tt σ2 H2 fun b H3 =>
      if b = true then wi1 σ2 H3 fun J1 H4 => ∃ W1 : Nat → Nat → Hp → Prop, (∃ m, W1 0 m H4) ∧ ∀ j k H, W1 j k H →
        (J1.stop j H ∧ Pv (i + 1) H) ∨ (J1.go j H ∧ ∃ Nx1 : Hp → Prop, (∀ H', Nx1 H' → ∃ k', k' < k ∧ W1 (j + 1) k' H') ∧ ∀ x H', J1.yld j H x H' → g1 x (wipe σ2 vs1) H' fun σ3 H5 => wipe σ3 vs1 = wipe σ2 vs1 ∧ tt1 σ3 H5 fun b H6 =>
          if b = true then te σ3 H6 fun y H7 => ∃ acc, H7 D = some (.lst acc) ∧ acc.length < sizeLine ∧ Nx1 (upd H7 D (.lst (acc ++ [y]))) else Nx1 H6)
      else Pv (i + 1) H3)
    (hd : ∀ H, Pv n H → Qd H) : ∃ W : Nat → Nat → Hp → Prop, (∃ m, W 0 m (upd H1 D (.lst []))) ∧ ∀ i m H, W i m H →
      (J.stop i H ∧ Qd H) ∨ (J.go i H ∧ ∃ Nx : Hp → Prop, (∀ H', Nx H' → ∃ m', m' < m ∧ W (i + 1) m' H') ∧ ∀ x H', J.yld i H x H' → g x (wipe σ vs) H' fun σ2 H2 => wipe σ2 vs = wipe σ vs ∧ tt σ2 H2 fun b H3 =>
        if b = true then wi1 σ2 H3 fun J1 H4 => ∃ W1 : Nat → Nat → Hp → Prop, (∃ m, W1 0 m H4) ∧ ∀ j k H, W1 j k H →
          (J1.stop j H ∧ Nx H) ∨ (J1.go j H ∧ ∃ Nx1 : Hp → Prop, (∀ H', Nx1 H' → ∃ k', k' < k ∧ W1 (j + 1) k' H') ∧ ∀ x H', J1.yld j H x H' → g1 x (wipe σ2 vs1) H' fun σ3 H5 => wipe σ3 vs1 = wipe σ2 vs1 ∧ tt1 σ3 H5 fun b H6 =>
            if b = true then te σ3 H6 fun y H7 => ∃ acc, H7 D = some (.lst acc) ∧ acc.length < sizeLine ∧ Nx1 (upd H7 D (.lst (acc ++ [y]))) else Nx1 H6)
        else Nx H3) := by
  refine ⟨fun i m H => m + i = n ∧ Pv i H, ⟨n, rfl, h0⟩, fun i m H ⟨e, p⟩ => ?_⟩
  by_cases c : i = n
  · subst c
    exact .inl ⟨S.stop _ (hl _ _ (Nat.le_refl _) p), hd _ p⟩
  · have lt : i < n := by omega
    have q := hl i H (Nat.le_of_lt lt) p
    refine .inr ⟨S.go i H q lt, Pv (i + 1), fun H' p' => ⟨m - 1, by omega, by omega, p'⟩, fun x H' y => ?_⟩
    obtain ⟨e1, e2⟩ := S.yld i H x H' q lt y
    rw [e1, e2]
    exact hs i H lt p
/-! which parts are those of a frame -/
def okB (P : Pa) : Bool := decide (P.arrays.length ≤ 12) && (decide (P.pos.length ≤ 8) && (decide (P.vals.length ≤ 6) && decide ((namesL P).Nodup)))
/-- the words of the parts, with every length -/
def wordsL (P : Pa) : List Str := P.arrays.flatMap (fun e => [e.1, e.2]) ++ (P.pos ++ P.vals)
/-- parts whose words are names -/
structure PaNm (P : Pa) : Prop where
  na : P.arrays.length ≤ 60
  np : P.pos.length ≤ 60
  nv : P.vals.length ≤ 60
  nm : ∀ x ∈ wordsL P, isNameS x = true ∧ x.length ≤ 1000
theorem words_mem {P : Pa} {x : Str} : x ∈ wordsL P ↔ x ∈ namesL P := by
  obtain ⟨as, ps, vs⟩ := P
  unfold wordsL namesL
  simp only [List.mem_append, List.mem_flatMap, List.mem_cons, List.not_mem_nil, or_false, lens_once, mem_onceS, List.mem_map]
  constructor
  · rintro (⟨e, he, h | h⟩ | h)
    · exact .inl ⟨e, he, h.symm⟩
    · exact .inr (.inl ⟨e, he, h.symm⟩)
    · exact .inr (.inr h)
  · rintro (⟨e, he, h⟩ | ⟨e, he, h⟩ | h)
    · exact .inl ⟨e, he, .inl h.symm⟩
    · exact .inl ⟨e, he, .inr h.symm⟩
    · exact .inr h
theorem PaOk.of {P : Pa} (nm : PaNm P) (h : okB P = true) : PaOk P := by
  unfold okB at h
  simp only [Bool.and_eq_true, decide_eq_true_iff] at h
  exact ⟨h.2.2.2, h.1, h.2.1, h.2.2.1, fun x hx => (nm.nm x (words_mem.mpr hx)).1⟩
theorem onceS_nodup (xs : List Str) : (onceS xs).Nodup := by
  have g : ∀ (xs l : List Str), l.Nodup → (xs.foldl addS l).Nodup := by
    intro xs
    induction xs with
    | nil => intro l h; exact h
    | cons x xs ih =>
      intro l h
      refine ih _ ?_
      unfold addS
      by_cases c : x ∈ l
      · rw [if_pos c]; exact h
      · rw [if_neg c]
        exact List.nodup_append.mpr ⟨h, by simp, fun a ha b hb => by rw [List.mem_singleton.mp hb]; exact fun e => c (e ▸ ha)⟩
  exact g xs [] .nil
theorem nodup_le {l : List Str} : ∀ {D : List Str}, l.Nodup → (∀ x ∈ l, x ∈ D) → l.length ≤ D.length := by
  induction l with
  | nil => intro D _ _; exact Nat.zero_le _
  | cons x l ih =>
    intro D nd sub
    obtain ⟨n1, n2⟩ := List.nodup_cons.mp nd
    have hx := sub x List.mem_cons_self
    have h := ih (D := D.erase x) n2 fun y hy => (List.mem_erase_of_ne (fun e : y = x => n1 (e ▸ hy))).mpr (sub y (List.mem_cons_of_mem _ hy))
    rw [List.length_erase_of_mem hx] at h
    have : 0 < D.length := List.length_pos_of_mem hx
    rw [List.length_cons]
    omega
theorem once_full : ∀ (xs l : List Str), l.Nodup → (xs.foldl addS l).length = l.length + xs.length → (l ++ xs).Nodup
  | [], l, h, _ => by rw [List.append_nil]; exact h
  | x :: xs, l, h, e => by
    rw [List.foldl_cons, List.length_cons] at e
    have le := foldl_addS_len xs (addS l x)
    by_cases c : x ∈ l
    · have e1 : addS l x = l := by unfold addS; rw [if_pos c]
      rw [e1] at le e
      omega
    · have e1 : addS l x = l ++ [x] := by unfold addS; rw [if_neg c]
      rw [e1] at e
      have nd : (l ++ [x]).Nodup := List.nodup_append.mpr ⟨h, by simp, fun a ha b hb => by rw [List.mem_singleton.mp hb]; exact fun e => c (e ▸ ha)⟩
      have q := once_full xs (l ++ [x]) nd (by rw [e, List.length_append, List.length_singleton]; omega)
      simpa using q
/-- as many different ones as there are just if none stands twice -/
theorem once_count {ws ns : List Str} (hm : ∀ x, x ∈ ws ↔ x ∈ ns) : decide (V.int (ns.length : Int) = V.int ((onceS ws).length : Int)) = decide ns.Nodup := by
  have eq1 : (onceS ns).length = (onceS ws).length := Nat.le_antisymm
    (nodup_le (onceS_nodup ns) fun x h => mem_onceS.mpr ((hm x).mpr (mem_onceS.mp h))) (nodup_le (onceS_nodup ws) fun x h => mem_onceS.mpr ((hm x).mp (mem_onceS.mp h)))
  rw [Bool.eq_iff_iff, decide_eq_true_iff, decide_eq_true_iff]
  constructor
  · intro h
    have h2 : ns.length = (onceS ws).length := by have := V.int.inj h; omega
    have q := once_full ns [] .nil (by show (onceS ns).length = 0 + ns.length; omega)
    simpa using q
  · intro h
    rw [← eq1, onceS_nd h]
end Fc
namespace Fc
open PySem L2 PyProof.Rows
def spPairs (K : PySem.W.Frag) (w : World) : Sp := fun vs H Q _ => ∃ t as, vs = [.ref t] ∧ Dp K H (.ref t) (dA as) ∧ Q (.bl true) H
def spContent (K : PySem.W.Frag) (w : World) : Sp := fun vs H Q _ => ∃ tA tP tV P, vs = [.ref tA, .ref tP, .ref tV] ∧ Dp K H (.ref tA) (dA P.arrays) ∧ Dp K H (.ref tP) (dS P.pos) ∧ Dp K H (.ref tV) (dS P.vals) ∧ PaNm P ∧ ∀ H', Same H H' → Q (.bl (okB P)) H'
theorem yes_i {σ : L2.St} {H : Hp} {Q : Bool → Hp → Prop} (h : Q true H) : tYes σ H Q := h
/-- the list D is being filled: only it is new -/
structure Grow (H : Hp) (D : Addr) (l : List Str) (H' : Hp) : Prop where
  same : Same H H'
  at_ : H' D = some (.lst (l.map V.str))
theorem Grow.push {H H' : Hp} {D : Addr} {l : List Str} (x : Str) (h : Grow H D l H') (hD : H D = none) : Grow H D (l ++ [x]) (upd H' D (.lst (l.map V.str ++ [.str x]))) :=
  ⟨fun b o e => by rw [upd_ne (ne_of_none e hD)]; exact h.same b o e, by rw [upd_same, List.map_append]; rfl⟩
section
variable {K : PySem.W.Frag} {mg : Str → Option Value} {base : Heap} {P : Program} {w : World}
theorem sc27 : FnScope ["value", "pair"] ["value"] (defScope (topS 27)) := ⟨rfl, rfl, rfl, by decide +kernel, rfl, by decide +kernel, by decide +kernel⟩
theorem ok27 {f : Addr} {fd : FuncData} (F : Fun K "are_pairs" "are_pairs" (topS 27) f fd) (B : Blt mg) : FnOk P w K mg base CX0 1 f fd ["value"] (spPairs K w) := by
  refine F.ok sc27 (fun vs H Q E h => ?_) (fun cdv A outer s H vs Q E hr h => ?_)
  · obtain ⟨t, as, rfl, _⟩ := h
    rfl
  · refine ⟨_, pss_cons (ps_if (pt_not (pt_val (pe_callB call_isiD (by rfl) B.isinstance boot_isinstance (pa_cons (pv 0) (pa_cons (pe_bltn (v := .ty "tuple") (by rfl) B.tuple boot_tuple rfl) pa_nil))))) (pss_one (ps_ret pe_bl)) pss_nil)
      (pss_cons (ps_for PassesOwn.never rfl (pi_tup (pv 0)) (pg_name (i := 1) sc27.nd rfl (Or.inl rfl)) (pss_one (ps_if (pw_or (pt_not (pt_val (pe_callB call_isiD (by rfl) B.isinstance boot_isinstance (pa_cons (pv 1) (pa_cons (pe_bltn (v := .ty "tuple") (by rfl) B.tuple boot_tuple rfl) pa_nil)))))
        (pw_or1 (pt_cmpR op_ne (pe_callB call_len_seq (by rfl) B.len boot_len (pa_cons (pv 1) pa_nil)) pe_int (nomark _)))).pt (pss_one (ps_ret pe_bl)) pss_nil)))
      (pss_one (ps_ret pe_bl))), ?_⟩
    obtain ⟨t, as, rfl, hd, q⟩ := h
    have hd2 := hd
    unfold dA at hd2
    cases hd2 with
    | @tup _ xs _ sa da =>
    have lx : xs.length = as.length := (dp_len da).trans (List.length_map _)
    refine ⟨_, rfl, .ref t, _, _, rfl, .inl hd, .inr (.inr (.inr (.inl rfl))), _, rfl, iteF ⟨_, rfl, t, rfl, ⟨xs, sa⟩, ?_⟩⟩
    refine for_steady steady_tup (fun i σ H' => H' = H ∧ ∃ z, σ = [some (.ref t), z]) ⟨rfl, _, rfl⟩ (fun _ _ _ _ h => h.1 ▸ sa) ?_ ?_
    · rintro i σ H' hi ⟨rfl, z, rfl⟩
      obtain ⟨u, eu, su⟩ := dA_at da (i := i) (by omega)
      rw [eu]
      refine ⟨_, rfl, .ref u, .tuple [.str _, .str _], _, rfl, .inl (.tup su (.cons (.str _) (.cons (.str _) .nil))), .inr (.inr (.inr (.inl rfl))), _, rfl, iteF ⟨_, rfl, u, _, rfl, .inr su, rfl, _, rfl, ?_⟩⟩
      exact iteF ⟨rfl, _, rfl⟩
    · rintro σ H' ⟨rfl, z, rfl⟩
      exact q
abbrev n29 : List Str := ["arrays", "positions", "values", "word", "words", "many", "pair"]
theorem sc29 : FnScope n29 ["arrays", "positions", "values"] (defScope (topS 29)) := ⟨rfl, rfl, rfl, by decide +kernel, rfl, by decide +kernel, by decide +kernel⟩
/-- what the text says of the greatest numbers of names -/
structure MaxTxt (mg : Str → Option Value) : Prop where
  a : ∃ t, mg "MAX_ARRAYS" = some (.int 12 t)
  p : ∃ t, mg "MAX_POSITIONS" = some (.int 8 t)
  v : ∃ t, mg "MAX_VALUES" = some (.int 6 t)
theorem ok29 {f : Addr} {fd : FuncData} (F : Fun K "is_frame_content" "is_frame_content" (topS 29) f fd) (B : Blt mg) (M : MaxTxt mg) (c27 : Cal P w K mg base 1 "are_pairs" (spPairs K w)) (c21 : Cal P w K mg base 1 "is_name" (spName K w)) (c28 : Cal P w K mg base 1 "different_lengths" (spLens K w)) :
    FnOk P w K mg base CX0 2 f fd ["arrays", "positions", "values"] (spContent K w) := by
  obtain ⟨t12, h12⟩ := M.a
  obtain ⟨t8, h8⟩ := M.p
  obtain ⟨t6, h6⟩ := M.v
  refine F.ok sc29 (fun vs H Q E h => ?_) (fun cdv A outer s H vs Q E hr h => ?_)
  · obtain ⟨tA, tP, tV, P, rfl, _⟩ := h
    rfl
  · have hu := hu70 hr
    refine ⟨_, pss_cons (ps_if (pw_or (pt_not (pt_val (pe_c c27 hr (by decide) (by rfl) (pa_cons (pv 0) pa_nil)))) (pw_or (pt_not (pt_val (pe_callB call_isiD (by rfl) B.isinstance boot_isinstance (pa_cons (pv 1) (pa_cons (pe_bltn (v := .ty "tuple") (by rfl) B.tuple boot_tuple rfl) pa_nil)))))
        (pw_or1 (pt_not (pt_val (pe_callB call_isiD (by rfl) B.isinstance boot_isinstance (pa_cons (pv 2) (pa_cons (pe_bltn (v := .ty "tuple") (by rfl) B.tuple boot_tuple rfl) pa_nil)))))))).pt (pss_one (ps_ret pe_bl)) pss_nil)
      (pss_cons (ps_if (pw_or (pt_cmpR op_gt (pe_callB call_len_seq (by rfl) B.len boot_len (pa_cons (pv 0) pa_nil)) (pe_glob (v := .int 12) (by rfl) h12 ⟨_, rfl⟩) (nomark _)) (pw_or (pt_cmpR op_gt (pe_callB call_len_seq (by rfl) B.len boot_len (pa_cons (pv 1) pa_nil)) (pe_glob (v := .int 8) (by rfl) h8 ⟨_, rfl⟩) (nomark _))
        (pw_or1 (pt_cmpR op_gt (pe_callB call_len_seq (by rfl) B.len boot_len (pa_cons (pv 2) pa_nil)) (pe_glob (v := .int 6) (by rfl) h6 ⟨_, rfl⟩) (nomark _))))).pt (pss_one (ps_ret pe_bl)) pss_nil)
      (pss_cons (ps_set (i := 4) sc29.nd rfl (Or.inl rfl) (pe_op op_cat (pe_op op_cat (pe_lc2 (own := [("pair", 6), ("word", 3)]) (vs1 := [3]) (g := gName 6) (g1 := gName 3) (wi1 := iTup K (tVar 6)) (by rfl) sc29.nd (pi_tup (pv 0)) (blkOk_by (N := n29) (sc := defScope (topS 29)) (by decide +kernel)) (by decide)
          (fun _ _ _ _ _ => pg_name (i := 6) sc29.nd rfl (Or.inl rfl)) (fun _ _ _ _ _ => pts_nil) (fun _ _ _ _ _ => pi_tup (pv 6)) (fun _ _ _ _ _ => pg_name (i := 3) sc29.nd rfl (Or.inl rfl)) (fun _ _ _ _ _ => pts_nil) (fun _ _ _ _ _ => pv 3))
        (pe_callTy call_list_of (by rfl) B.list boot_list (pa_cons (pv 1) pa_nil))) (pe_callTy call_list_of (by rfl) B.list boot_list (pa_cons (pv 2) pa_nil))))
      (pss_cons (ps_for PassesOwn.never rfl (pi_list (pv 4)) (pg_name (i := 3) sc29.nd rfl (Or.inl rfl)) (pss_one (ps_if (pt_not (pt_val (pe_c c21 hr (by decide) (by rfl) (pa_cons (pv 3) pa_nil)))) (pss_one (ps_ret pe_bl)) pss_nil)))
      (pss_cons (ps_set (i := 5) sc29.nd rfl (Or.inl rfl) (pe_op op_add (pe_op op_add (pe_op op_add (pe_callB call_len_seq (by rfl) B.len boot_len (pa_cons (pv 0) pa_nil)) (pe_callB call_len_seq (by rfl) B.len boot_len (pa_cons (pe_c c28 hr (by decide) (by rfl) (pa_cons (pv 0) pa_nil)) pa_nil)))
        (pe_callB call_len_seq (by rfl) B.len boot_len (pa_cons (pv 1) pa_nil))) (pe_callB call_len_seq (by rfl) B.len boot_len (pa_cons (pv 2) pa_nil))))
      (pss_one (ps_ret (pe_cmpR op_eq (pv 5) (pe_callB call_lenS (by rfl) B.len boot_len (pa_cons (pe_callTy (call_setT rfl) (by rfl) B.set boot_set (pa_cons (pv 4) pa_nil)) pa_nil)) (nomark _)))))))), ?_⟩
    obtain ⟨tA, tP, tV, ⟨as, ps, vs⟩, rfl, hA, hP, hV, nm, q⟩ := h
    have sP := tup_dS hP
    have sV := tup_dS hV
    have hA2 := hA
    unfold dA at hA2
    cases hA2 with
    | @tup _ xs _ sa da =>
    have lx : xs.length = as.length := (dp_len da).trans (List.length_map _)
    have na : as.length ≤ 60 := nm.na
    have np : ps.length ≤ 60 := nm.np
    have nv : vs.length ≤ 60 := nm.nv
    have q0 := q H (Same.refl H)
    have eB : okB ⟨as, ps, vs⟩ = (decide (as.length ≤ 12) && (decide (ps.length ≤ 8) && (decide (vs.length ≤ 6) && decide ((namesL ⟨as, ps, vs⟩).Nodup)))) := rfl
    refine ⟨_, rfl, tA, as, rfl, hA, _, rfl, iteF ⟨_, rfl, .ref tP, dS ps, _, rfl, .inl hP, .inr (.inr (.inr (.inl rfl))), _, rfl, iteF ⟨_, rfl, .ref tV, dS vs, _, rfl, .inl hV, .inr (.inr (.inr (.inl rfl))), _, rfl, iteF ?_⟩⟩⟩
    refine ⟨_, rfl, tA, xs, rfl, .inr sa, _, _, rfl, rfl, _, rfl, ?_⟩
    rw [lx]
    by_cases c1 : as.length ≤ 12
    case neg =>
      rw [decide_eq_true (by omega)]
      rw [eB, decide_eq_false c1] at q0
      exact iteT q0
    rw [decide_eq_false (by omega)]
    refine iteF ⟨_, rfl, tP, _, rfl, .inr sP, _, _, rfl, rfl, _, rfl, ?_⟩
    rw [List.length_map]
    by_cases c2 : ps.length ≤ 8
    case neg =>
      rw [decide_eq_true (show (8 : Int) < (ps.length : Int) by omega)]
      rw [eB, decide_eq_true c1, decide_eq_false c2] at q0
      exact iteT q0
    rw [decide_eq_false (show ¬ (8 : Int) < (ps.length : Int) by omega)]
    refine iteF ⟨_, rfl, tV, _, rfl, .inr sV, _, _, rfl, rfl, _, rfl, ?_⟩
    rw [List.length_map]
    by_cases c3 : vs.length ≤ 6
    case neg =>
      rw [decide_eq_true (show (6 : Int) < (vs.length : Int) by omega)]
      rw [eB, decide_eq_true c1, decide_eq_true c2, decide_eq_false c3] at q0
      exact iteT q0
    rw [decide_eq_false (show ¬ (6 : Int) < (vs.length : Int) by omega)]
    refine iteF ?_
    clear q0
    have size : ∀ {n : Nat}, n ≤ 1000 → n < sizeLine := fun h => by rw [sizeLine_eq]; omega
    -- the words
    refine ⟨_, rfl, tA, rfl, ⟨xs, sa⟩, fun D hD => ?_⟩
    let fm : Nat → List Str := fun k => (as.take k).flatMap fun e => [e.1, e.2]
    have fms : ∀ {k : Nat} (h : k < as.length), fm (k + 1) = fm k ++ [(as[k]).1, (as[k]).2] := fun {k} h => by
      show (as.take (k + 1)).flatMap _ = (as.take k).flatMap _ ++ _
      rw [List.take_add_one, List.getElem?_eq_getElem h]
      show (as.take k ++ [as[k]]).flatMap _ = _
      rw [List.flatMap_append]
      rfl
    have fml : ∀ k, (fm k).length ≤ 2 * as.length := fun k => by
      have g : ∀ l : List (Str × Str), (l.flatMap fun e => [e.1, e.2]).length = 2 * l.length := by
        intro l
        induction l with
        | nil => rfl
        | cons e l ih => rw [List.flatMap_cons, List.length_append, ih]; simp; omega
      have h1 := g (as.take k)
      rw [List.length_take] at h1
      show ((as.take k).flatMap fun e => [e.1, e.2]).length ≤ _
      omega
    refine lc2_out (steady_tup (K := K) (a := tA) (xs := xs)) (fun k H' => Grow H D (fm k) H') ⟨same_new hD, upd_same⟩ (fun i H' _ h => Tups.same h.same _ _ sa) (fun i H' hi h => ?_) fun H1 h1 => ?_
    · have hi2 : i < as.length := by omega
      obtain ⟨u, eu, su⟩ := dA_at da hi2
      rw [eu]
      refine ⟨rfl, yes_i ?_⟩
      refine iteT ?_
      refine ⟨_, rfl, u, rfl, ⟨_, Tups.same h.same _ _ su⟩, ?_⟩
      refine lc2_in (steady_tup (K := K) (a := u) (xs := [.str (as[i]).1, .str (as[i]).2])) (fun j H2 => Grow H D (fm i ++ ([(as[i]).1, (as[i]).2].take j)) H2) (by rw [List.take_zero, List.append_nil]; exact h) (fun j H2 _ h2 => Tups.same h2.same _ _ su) (fun j H2 hj h2 => ?_) fun H2 h2 => by rw [fms hi2]; exact h2
      have hj2 : j = 0 ∨ j = 1 := by
        have : j < 2 := hj
        omega
      have lf := fml i
      have gl : (List.map V.str (fm i ++ ([(as[i]).1, (as[i]).2].take j))).length < sizeLine := by
        rw [List.length_map, List.length_append, List.length_take]
        exact size (by simp; omega)
      rcases hj2 with rfl | rfl
      · refine ⟨rfl, yes_i ?_⟩
        refine iteT ?_
        refine ⟨_, rfl, _, h2.at_, gl, ?_⟩
        have := h2.push (as[i]).1 hD
        simpa using this
      · refine ⟨rfl, yes_i ?_⟩
        refine iteT ?_
        refine ⟨_, rfl, _, h2.at_, gl, ?_⟩
        have := h2.push (as[i]).2 hD
        simpa using this
    have fmE : fm xs.length = as.flatMap fun e => [e.1, e.2] := by
      show (as.take xs.length).flatMap _ = _
      rw [lx, List.take_length]
    rw [fmE] at h1
    obtain ⟨s1, a1⟩ := h1
    have fmL : (as.flatMap fun e => [e.1, e.2]).length ≤ 120 := by
      have h1 := fml xs.length
      rw [fmE] at h1
      omega
    refine ⟨_, rfl, tP, _, rfl, .inr (Tups.same s1 _ _ sP), fun l1 hl1 => ?_⟩
    have s2 := same_new (o := .lst (ps.map V.str)) hl1
    refine ⟨D, l1, _, _, rfl, rfl, s2 _ _ a1, upd_same, by rw [List.length_map, List.length_map]; exact Nat.le_of_lt (size (by show _ + ps.length ≤ 1000; omega)), fun l2 hl2 => ?_⟩
    have s3 := same_new (o := .lst ((as.flatMap fun e => [e.1, e.2]).map V.str ++ ps.map V.str)) hl2
    refine ⟨_, rfl, tV, _, rfl, .inr (Tups.same ((s1.trans s2).trans s3) _ _ sV), fun l3 hl3 => ?_⟩
    have s4 := same_new (o := .lst (vs.map V.str)) hl3
    refine ⟨l2, l3, _, _, rfl, rfl, s4 _ _ upd_same, upd_same, by rw [List.length_append, List.length_map, List.length_map, List.length_map]; exact Nat.le_of_lt (size (by show _ + ps.length + vs.length ≤ 1000; omega)), fun l4 hl4 => ?_⟩
    have s5 := same_new (o := .lst ((as.flatMap fun e => [e.1, e.2]).map V.str ++ ps.map V.str ++ vs.map V.str)) hl4
    have sT := (((s1.trans s2).trans s3).trans s4).trans s5
    have ew : ((as.flatMap fun e => [e.1, e.2]).map V.str ++ ps.map V.str ++ vs.map V.str) = (wordsL ⟨as, ps, vs⟩).map V.str := by
      unfold wordsL
      rw [List.map_append, List.map_append, List.append_assoc]
    rw [ew] at sT ⊢
    have sl : SqL K (upd (upd (upd (upd H1 l1 (.lst (ps.map V.str))) l2 (.lst ((as.flatMap fun e => [e.1, e.2]).map V.str ++ ps.map V.str))) l3 (.lst (vs.map V.str))) l4 (.lst ((wordsL ⟨as, ps, vs⟩).map V.str))) l4 ((wordsL ⟨as, ps, vs⟩).map V.str) := .inl (.inl upd_same)
    clear s1 a1 s2 s3 s4 s5 ew hl1 hl2 hl3 hl4
    generalize upd (upd (upd (upd H1 l1 (.lst (ps.map V.str))) l2 (.lst ((as.flatMap fun e => [e.1, e.2]).map V.str ++ ps.map V.str))) l3 (.lst (vs.map V.str))) l4 (.lst ((wordsL ⟨as, ps, vs⟩).map V.str)) = H2 at *
    -- each of them is a name
    refine ⟨_, rfl, l4, rfl, ⟨_, sl⟩, ?_⟩
    refine for_steady steady_list (fun i σ H' => H' = H2 ∧ ∃ z3 z5 z6, σ = [some (.ref tA), some (.ref tP), some (.ref tV), z3, some (.ref l4), z5, z6]) ⟨rfl, _, _, _, rfl⟩ (fun _ _ _ _ h => h.1 ▸ sl) ?_ ?_
    · rintro i σ H' hi ⟨rfl, z3, z5, z6, rfl⟩
      have hi2 : i < (wordsL ⟨as, ps, vs⟩).length := by rw [List.length_map] at hi; exact hi
      rw [strs_getD _ hi2]
      obtain ⟨n1, n2⟩ := nm.nm _ (List.getElem_mem hi2)
      refine ⟨_, rfl, _, rfl, n2, _, rfl, ?_⟩
      rw [n1]
      exact iteF ⟨rfl, _, _, _, rfl⟩
    rintro σ H' ⟨rfl, z3, z5, z6, rfl⟩
    refine ⟨_, rfl, tA, xs, rfl, .inr (Tups.same sT _ _ sa), _, rfl, tA, as, rfl, dp_mono sT _ _ hA, na, fun H3 p3 s3 d3 => ⟨p3, _, rfl, .inr (tup_dS d3), _, _, rfl, rfl, ?_⟩⟩
    refine ⟨_, rfl, tP, _, rfl, .inr (Tups.same (sT.trans s3) _ _ sP), _, _, rfl, rfl, _, rfl, tV, _, rfl, .inr (Tups.same (sT.trans s3) _ _ sV), _, _, rfl, rfl, ?_⟩
    have wl : (wordsL ⟨as, ps, vs⟩).length ≤ 300 := by
      unfold wordsL
      rw [List.length_append, List.length_append]
      show (as.flatMap fun e => [e.1, e.2]).length + (ps.length + vs.length) ≤ 300
      omega
    refine ⟨_, rfl, _, rfl, l4, wordsL ⟨as, ps, vs⟩, rfl, s3.seq sl, by unfold scanBound; omega, fun p4 hp4 => ⟨p4, _, rfl, upd_same, rfl, ?_⟩⟩
    have en : ((xs.length : Int) + ((lensOf as).map V.str).length + (ps.map V.str).length + (vs.map V.str).length) = ((namesL ⟨as, ps, vs⟩).length : Int) := by
      unfold namesL
      simp only [List.length_append, List.length_map, lx]
      omega
    have eo := once_count (ws := wordsL ⟨as, ps, vs⟩) (ns := namesL ⟨as, ps, vs⟩) fun x => words_mem
    rw [← en] at eo
    rw [eB, decide_eq_true c1, decide_eq_true c2, decide_eq_true c3] at q
    have q2 := q _ ((sT.trans s3).trans (same_new (o := SetT P w p4 (onceS (wordsL ⟨as, ps, vs⟩))) hp4))
    rw [← eo] at q2
    exact q2
end
end Fc
namespace Fc
open PySem L2 PyProof.Rows
theorem tupD_dS (l : List Str) : tupD (dS l) = true := by
  show tupDs (l.map PyData.str) = true
  induction l with
  | nil => rfl
  | cons x l ih => exact (Bool.and_eq_true _ _).mpr ⟨rfl, ih⟩
theorem tupD_dA (as : List (Str × Str)) : tupD (dA as) = true := by
  show tupDs (as.map fun e => PyData.tuple [.str e.1, .str e.2]) = true
  induction as with
  | nil => rfl
  | cons x l ih => exact (Bool.and_eq_true _ _).mpr ⟨rfl, ih⟩
def But (D : Addr) (H H' : Hp) : Prop := ∀ b o, b ≠ D → H b = some o → H' b = some o
theorem But.refl (D : Addr) (H : Hp) : But D H H := fun _ _ _ e => e
theorem But.upd {D : Addr} {H H' : Hp} {o : HO} (h : But D H H') : But D H (upd H' D o) := fun b u ne e => by rw [upd_ne ne]; exact h b u ne e
theorem But.same {D : Addr} {H H' H2 : Hp} (h : But D H H') (s : Same H' H2) : But D H H2 := fun b u ne e => s b u (h b u ne e)
theorem But.trans {D : Addr} {H H' H2 : Hp} (h : But D H H') (s : But D H' H2) : But D H H2 := fun b u ne e => s b u ne (h b u ne e)
/-- the fields of a frame, as they are put -/
def fsF (tA tP tV tL tO tK : Addr) : List (Str × V) := putF "_kinds" (.ref tK) (putF "_length_of" (.ref tO) (putF "_lengths" (.ref tL) (putF "_amounts" (.ref tV) (putF "_positions" (.ref tP) (putF "_arrays" (.ref tA) [])))))
theorem fsF_at (tA tP tV tL tO tK : Addr) : (fsF tA tP tV tL tO tK).lookup ("_arrays" : Str) = some (.ref tA) ∧ (fsF tA tP tV tL tO tK).lookup ("_positions" : Str) = some (.ref tP) ∧ (fsF tA tP tV tL tO tK).lookup ("_amounts" : Str) = some (.ref tV) ∧ (fsF tA tP tV tL tO tK).lookup ("_kinds" : Str) = some (.ref tK) := by
  unfold fsF
  refine ⟨?_, ?_, ?_, ?_⟩
  · rw [lookup_putF, if_neg (by decide +kernel), lookup_putF, if_neg (by decide +kernel), lookup_putF, if_neg (by decide +kernel), lookup_putF, if_neg (by decide +kernel), lookup_putF, if_neg (by decide +kernel), lookup_putF, if_pos rfl]
  · rw [lookup_putF, if_neg (by decide +kernel), lookup_putF, if_neg (by decide +kernel), lookup_putF, if_neg (by decide +kernel), lookup_putF, if_neg (by decide +kernel), lookup_putF, if_pos rfl]
  · rw [lookup_putF, if_neg (by decide +kernel), lookup_putF, if_neg (by decide +kernel), lookup_putF, if_neg (by decide +kernel), lookup_putF, if_pos rfl]
  · rw [lookup_putF, if_pos rfl]
theorem len_putF (f : Str) (v : V) : ∀ fs : List (Str × V), (putF f v fs).length ≤ fs.length + 1
  | [] => Nat.le_refl _
  | e :: fs => by
    unfold putF
    split
    · simp
    · have := len_putF f v fs
      simp only [List.length_cons]
      omega
theorem fsF_no (tA tP tV tL tO tK : Addr) (m : Str) (h : m ∉ fldsF) : (fsF tA tP tV tL tO tK).lookup m = none := by
  unfold fldsF at h
  simp only [List.mem_cons, List.not_mem_nil, or_false, not_or] at h
  obtain ⟨h1, h2, h3, h4, h5, h6⟩ := h
  unfold fsF
  simp only [lookup_putF]
  rw [if_neg h6, if_neg h5, if_neg h4, if_neg h3, if_neg h2, if_neg h1]
  rfl
def spMake (K : PySem.W.Frag) (C Cf : Addr) : Sp := fun vs H Q E => ∃ p dx tA tP tV P, vs = [.ref p, .ref tA, .ref tP, .ref tV] ∧ H p = some (.ins C dx []) ∧ Dp K H (.ref tA) (dA P.arrays) ∧ Dp K H (.ref tP) (dS P.pos) ∧ Dp K H (.ref tV) (dS P.vals) ∧ PaNm P ∧
  (okB P = false → ∀ H', Same H H' → E (.ref Cf) none H') ∧ (okB P = true → ∀ H', But p H H' → FrAt K C H' p P → Q .non H')
section
variable {K : PySem.W.Frag} {mg : Str → Option Value} {base : Heap} {P : Program} {w : World}
abbrev nM0 : List Str := ["self", "arrays", "positions", "values", "array", "length"]
theorem scM0 : FnScope nM0 ["self", "arrays", "positions", "values"] (defScope (mF 0)) := ⟨rfl, rfl, rfl, by decide +kernel, rfl, by decide +kernel, by decide +kernel⟩
theorem okM0 {f C Cf : Addr} {fd : FuncData} (F : Fun K "__init__" "Frame.__init__" (mF 0) f fd) (T : FrTxt K mg C) (O : OwnX K mg "InvalidFrame" Cf) (c29 : Cal P w K mg base 2 "is_frame_content" (spContent K w)) (c28 : Cal P w K mg base 1 "different_lengths" (spLens K w)) (c30 : Cal P w K mg base 1 "kinds_of_names" (spKinds K w)) :
    FnOk P w K mg base (L2.CX P w) 3 f fd ["self", "arrays", "positions", "values"] (spMake K C Cf) := by
  refine F.okX scM0 (fun vs H Q E h => ?_) (fun cdv A outer s H vs Q E hr h => ?_)
  · obtain ⟨p, dx, tA, tP, tV, P, rfl, _⟩ := h
    rfl
  · have hu := hu70 hr
    refine ⟨_, pss_cons (ps_if (pt_not (pt_val (pe_c c29 hr (by decide) (by rfl) (pa_cons (pv 1) (pa_cons (pv 2) (pa_cons (pv 3) pa_nil)))))) (pss_one (ps_raise rfl (takes_of rfl rfl rfl rfl) (pmk_own PySem.F.excBase_ValueError O.x O.g O.k (raises_own O.b O.t) rfl))) pss_nil)
      (pss_cons (ps_fld (pv 0) (pv 1) rfl) (pss_cons (ps_fld (pv 0) (pv 2) rfl) (pss_cons (ps_fld (pv 0) (pv 3) rfl) (pss_cons (ps_fld (pv 0) (pe_c c28 hr (by decide) (by rfl) (pa_cons (pv 1) pa_nil)) rfl)
      (pss_cons (ps_fld (pv 0) (pe_dcM (own := [("array", 4), ("length", 5)]) (g := gTup K 2 (gCons (gName 4) (gCons (gName 5) gNil))) (hu9 hu) (by rfl) scM0.nd (pi_tup (pv 1)) (blkOk_by (N := nM0) (sc := defScope (mF 0)) (by decide +kernel))
        (fun _ _ _ _ _ => pg_tup rfl (pgs_cons (pg_name (i := 4) scM0.nd rfl (Or.inl rfl)) (pgs_cons (pg_name (i := 5) scM0.nd rfl (Or.inl rfl)) pgs_nil))) (fun _ _ _ _ _ => pv 4) (fun _ _ _ _ _ => pv 5)) rfl)
      (pss_one (ps_fld (pv 0) (pe_c c30 hr (by decide) (by rfl) (pa_cons (pv 1) (pa_cons (pv 2) (pa_cons (pv 3) pa_nil)))) rfl))))))), ?_⟩
    obtain ⟨p, dx, tA, tP, tV, P, rfl, hp, hA, hP, hV, nm, q1, q2⟩ := h
    refine ⟨_, rfl, _, rfl, _, rfl, tA, tP, tV, P, rfl, hA, hP, hV, nm, fun H1 s1 => ⟨_, rfl, ?_⟩⟩
    cases e : okB P with
    | false => exact iteT (q1 e H1 s1)
    | true =>
    replace q2 := q2 e
    have ok := PaOk.of nm e
    refine iteF ?_
    have tA1 := tupD_dA P.arrays
    have tP1 := tupD_dS P.pos
    have tV1 := tupD_dS P.vals
    have ins : ∀ {H0 : Hp} {fs fs' : List (Str × V)}, H0 p = some (.ins C dx fs) → Tups K H0 (upd H0 p (.ins C dx fs')) := fun {H0 fs fs'} e0 => Tups.upd fun u e => by rw [e0] at e; cases e; exact True.intro
    have lz : ∀ {n : Nat}, n ≤ 6 → n < 1000 := fun h => by omega
    have hp1 := s1 _ _ hp
    refine ⟨_, rfl, _, rfl, p, C, dx, _, rfl, hp1, T.cl, T.nA, by decide, ?_⟩
    refine ⟨_, rfl, _, rfl, p, C, dx, _, rfl, upd_same, T.cl, T.nP, lz (by have := len_putF "_arrays" (.ref tA) []; simp at this; omega), ?_⟩
    refine ⟨_, rfl, _, rfl, p, C, dx, _, rfl, upd_same, T.cl, T.nV, lz (by have h1 := len_putF "_arrays" (.ref tA) []; have h2 := len_putF "_positions" (.ref tP) (putF "_arrays" (.ref tA) []); simp at h1; omega), ?_⟩
    rw [upd_upd, upd_upd]
    have t1 := ins (fs' := putF "_amounts" (.ref tV) (putF "_positions" (.ref tP) (putF "_arrays" (.ref tA) []))) hp1
    have b1 : But p H (upd H1 p (.ins C dx (putF "_amounts" (.ref tV) (putF "_positions" (.ref tP) (putF "_arrays" (.ref tA) []))))) := fun b o ne e => by rw [upd_ne ne]; exact s1 b o e
    have hA1 := dp_tups t1 _ _ tA1 (dp_mono s1 _ _ hA)
    have hP1 := dp_tups t1 _ _ tP1 (dp_mono s1 _ _ hP)
    have hV1 := dp_tups t1 _ _ tV1 (dp_mono s1 _ _ hV)
    have l3 : (putF "_amounts" (.ref tV) (putF "_positions" (.ref tP) (putF "_arrays" (.ref tA) []))).length ≤ 3 := by
      have h1 := len_putF "_arrays" (.ref tA) []
      have h2 := len_putF "_positions" (.ref tP) (putF "_arrays" (.ref tA) [])
      have h3 := len_putF "_amounts" (.ref tV) (putF "_positions" (.ref tP) (putF "_arrays" (.ref tA) []))
      simp at h1
      omega
    have hp2 : (upd H1 p (.ins C dx (putF "_amounts" (.ref tV) (putF "_positions" (.ref tP) (putF "_arrays" (.ref tA) []))))) p = some (.ins C dx (putF "_amounts" (.ref tV) (putF "_positions" (.ref tP) (putF "_arrays" (.ref tA) [])))) := upd_same
    generalize upd H1 p (.ins C dx (putF "_amounts" (.ref tV) (putF "_positions" (.ref tP) (putF "_arrays" (.ref tA) [])))) = H2 at *
    -- the lengths
    refine ⟨_, rfl, tA, P.arrays, rfl, hA1, by have := ok.na; omega, fun H3 pL s3 dL => ?_⟩
    have hp3 := s3 _ _ hp2
    have l4 := len_putF "_lengths" (.ref pL) (putF "_amounts" (.ref tV) (putF "_positions" (.ref tP) (putF "_arrays" (.ref tA) [])))
    refine ⟨_, rfl, p, C, dx, _, rfl, hp3, T.cl, T.nL, by omega, ?_⟩
    have t3 := ins (fs' := putF "_lengths" (.ref pL) (putF "_amounts" (.ref tV) (putF "_positions" (.ref tP) (putF "_arrays" (.ref tA) [])))) hp3
    have b3 := (b1.same s3).upd (o := .ins C dx (putF "_lengths" (.ref pL) (putF "_amounts" (.ref tV) (putF "_positions" (.ref tP) (putF "_arrays" (.ref tA) [])))))
    have hA3 := dp_tups t3 _ _ tA1 (dp_mono s3 _ _ hA1)
    have hP3 := dp_tups t3 _ _ tP1 (dp_mono s3 _ _ hP1)
    have hV3 := dp_tups t3 _ _ tV1 (dp_mono s3 _ _ hV1)
    have hp4 : (upd H3 p (.ins C dx (putF "_lengths" (.ref pL) (putF "_amounts" (.ref tV) (putF "_positions" (.ref tP) (putF "_arrays" (.ref tA) [])))))) p = some _ := upd_same
    generalize upd H3 p (.ins C dx (putF "_lengths" (.ref pL) (putF "_amounts" (.ref tV) (putF "_positions" (.ref tP) (putF "_arrays" (.ref tA) []))))) = H4 at *
    clear hp3 t3 s3 dL b1 t1 hp2 hA1 hP1 hV1 hp1
    -- the lengths of the arrays
    have hA4 := hA3
    unfold dA at hA4
    cases hA4 with
    | @tup _ xs _ sa da =>
    have lx : xs.length = P.arrays.length := (dp_len da).trans (List.length_map _)
    refine ⟨_, rfl, tA, rfl, ⟨xs, sa⟩, fun DO hDO => ?_⟩
    have npO : p ≠ DO := ne_of_none hp4 hDO
    refine dc_steady (K := K) (w := w) (steady_tup (K := K) (a := tA) (xs := xs)) (fun k H' => Same H4 H' ∧ ∃ B, TabIs K w H' DO B ∧ B.length ≤ k) ⟨same_new hDO, [], ⟨[], upd_same, .nil⟩, Nat.le_refl _⟩ (fun i H' _ h => Tups.same h.1 _ _ sa) (fun i H' hi h => ?_) fun H5 h => ?_
    · obtain ⟨s5, B, ⟨zs, hz, pz⟩, lB⟩ := h
      have hi2 : i < P.arrays.length := by omega
      have na := ok.na
      obtain ⟨u, eu, su⟩ := dA_at da hi2
      refine ⟨u, _, eu, Tups.same s5 _ _ su, rfl, _, _, rfl, _, _, rfl, ⟨rfl, rfl, _, rfl, _, rfl, zs, .text (P.arrays[i]).1, hz, tabR_keys pz, .inl (.inl (.text _)), by rw [sizeLine_eq, ← paired_len pz]; omega, ?_⟩⟩
      have tp : Tups K H' (upd H' DO (MD w DO (putM zs (.text (P.arrays[i]).1) (.str (P.arrays[i]).1) (.str (P.arrays[i]).2)))) := Tups.upd fun u e => by rw [hz] at e; cases e; exact True.intro
      refine ⟨fun b o e => ?_, putN B (.w (P.arrays[i]).1) (.str (P.arrays[i]).2), ⟨_, upd_same, tabR_mono tp (tabR_put (k := .w (P.arrays[i]).1) rfl pz)⟩, ?_⟩
      · rw [upd_ne (ne_of_none e hDO)]
        exact s5 b o e
      · have := len_putN B (.w (P.arrays[i]).1) (.str (P.arrays[i]).2)
        omega
    obtain ⟨s5, _⟩ := h
    have hp5 := s5 _ _ hp4
    have l5 := len_putF "_length_of" (.ref DO) (putF "_lengths" (.ref pL) (putF "_amounts" (.ref tV) (putF "_positions" (.ref tP) (putF "_arrays" (.ref tA) []))))
    refine ⟨_, rfl, p, C, dx, _, rfl, hp5, T.cl, T.nO, by omega, ?_⟩
    have t5 := ins (fs' := putF "_length_of" (.ref DO) (putF "_lengths" (.ref pL) (putF "_amounts" (.ref tV) (putF "_positions" (.ref tP) (putF "_arrays" (.ref tA) []))))) hp5
    have b5 := (b3.same s5).upd (o := .ins C dx (putF "_length_of" (.ref DO) (putF "_lengths" (.ref pL) (putF "_amounts" (.ref tV) (putF "_positions" (.ref tP) (putF "_arrays" (.ref tA) []))))))
    have hA5 := dp_tups t5 _ _ tA1 (dp_mono s5 _ _ hA3)
    have hP5 := dp_tups t5 _ _ tP1 (dp_mono s5 _ _ hP3)
    have hV5 := dp_tups t5 _ _ tV1 (dp_mono s5 _ _ hV3)
    have hp6 : (upd H5 p (.ins C dx (putF "_length_of" (.ref DO) (putF "_lengths" (.ref pL) (putF "_amounts" (.ref tV) (putF "_positions" (.ref tP) (putF "_arrays" (.ref tA) []))))))) p = some _ := upd_same
    generalize upd H5 p (.ins C dx (putF "_length_of" (.ref DO) (putF "_lengths" (.ref pL) (putF "_amounts" (.ref tV) (putF "_positions" (.ref tP) (putF "_arrays" (.ref tA) [])))))) = H6 at *
    -- the kinds
    refine ⟨_, rfl, _, rfl, _, rfl, tA, tP, tV, P, rfl, hA5, hP5, hV5, ok, fun H7 pK s7 nK hK => ?_⟩
    have hp7 := s7 _ _ hp6
    have npK : pK ≠ p := fun e => by rw [e, hp6] at nK; cases nK
    refine ⟨_, rfl, p, C, dx, _, rfl, hp7, T.cl, T.nK, by omega, ?_⟩
    have t7 := ins (fs' := fsF tA tP tV pL DO pK) hp7
    obtain ⟨a1, a2, a3, a4⟩ := fsF_at tA tP tV pL DO pK
    exact q2 _ ((b5.same s7).upd) ⟨ok, dx, _, tA, tP, tV, pK, upd_same, a1, a2, a3, a4, fsF_no tA tP tV pL DO pK, dp_tups t7 _ _ tA1 (dp_mono s7 _ _ hA5), dp_tups t7 _ _ tP1 (dp_mono s7 _ _ hP5), dp_tups t7 _ _ tV1 (dp_mono s7 _ _ hV5), by rw [upd_ne npK]; exact hK⟩
end
end Fc
namespace Fc
open PySem PySem.Spec L2 PyProof.Rows
open PpSet (newSet_ok eval_SetComp compLoopS_any codeAny_compStart_set)
/-! {e for x in xs}, e a text -/
theorem addT_ok {X : Cx} {pins : List (Addr × Obj)} {σ : L2.St} {H : Hp} {s : Shared} {E : Value → Shared → Prop} {D : Addr} {l : List Str} {x : Str} {t : Tok} {Q : Value → Shared → Prop} (I : Inv X pins σ H s) (hD : H D = some (SetT X.prog X.w D l)) (room : l.length + 1 < scanBound)
    (h : ∀ s', Inv X pins σ (upd H D (SetT X.prog X.w D (addS l x))) s' → Q .none s') : wpAny (model X.prog X.w) X.A (call (.builtin "set.add") [.ref D, .str x t]) Q E s := by
  refine call_set_add (knd := strKind X.prog X.w) (k := x) (strKind_is _ _ _ _) rfl (I.hok D _ hD).1 room fun h' sb new => ?_
  have new2 : h'.SetOf (strKind X.prog X.w) D (fun k => decide (k ∈ addS l x)) (addS l x).length := setOf_to new (fun k => by
    rw [Bool.eq_iff_iff, Bool.or_eq_true, decide_eq_true_iff, decide_eq_true_iff, decide_eq_true_iff, mem_addS]) (addS_len l x).symm
  have he : ∃ u, h'.get? D = some u := by
    have ⟨o, _, _, _, ho, _⟩ := new2
    exact ⟨o, ho⟩
  exact h _ (I.write (e := D) (t' := s.toks + 1) (by rw [hD]; trivial) (.inl rfl) (fun b u hb hu => (sb.2 b hb).trans hu) he (setT_ok new2))
def tScT (P : Program) (w : World) (wi : TI) (g : TG) (te : TE) (vs : List Nat) : TE := fun σ H Q => wi σ H fun J H1 => ∀ D, H1 D = none → ∃ W : Nat → Nat → Hp → Prop, (∃ m, W 0 m (upd H1 D (SetT P w D []))) ∧ ∀ i m H, W i m H →
  (J.stop i H ∧ Q (.ref D) H) ∨ (J.go i H ∧ ∃ Nx : Hp → Prop, (∀ H', Nx H' → ∃ m', m' < m ∧ W (i + 1) m' H') ∧ ∀ x H', J.yld i H x H' → g x (wipe σ vs) H' fun σ2 H2 => wipe σ2 vs = wipe σ vs ∧
    te σ2 H2 fun y H4 => ∃ x l, y = .str x ∧ H4 D = some (SetT P w D l) ∧ l.length + 1 < scanBound ∧ Nx (upd H4 D (SetT P w D (addS l x))))
theorem setT_fresh {P : Program} (w : World) (h : Heap) : (h.push { cls := .type "set", dict := none, data := .set #[] 0 (.fresh 0 0 (!w.params.followText "set-order")) }).SetOf (strKind P w) h.objs.size (fun k => decide (k ∈ ([] : List Str))) 0 :=
  ⟨_, #[], 0, _, Heap.get?_push_size _ rfl, ⟨rfl, rfl, rfl⟩, rfl, (fun e he => by simp at he), (fun k => by simp), by decide, by rfl, rfl⟩
theorem scT_core {X : Cx} {pins : List (Addr × Obj)} {s : Shared} {σ : L2.St} {H : Hp} {Q : VK} {elt tg iter : Expr} {scope : Scope} {own : List (Str × Nat)} {pos pos' : Pos} {wi : TI} {g : TG} {te : TE} {use : Option (Value → Sem Unit)} {Qf : Value → Shared → Prop} (hc : X.calm = true) (hN : X.N.Nodup) (I : Inv X pins σ H s) (hi : PI X tg iter wi) (ok : BlkOk X.N X.env.scope scope own)
    (hg : ∀ (s : Shared) (H : Hp) (C : Addr) (cl : List (Str × Addr)) (fp : List Addr), PG (X.blk s H scope (compEnvC scope cl C X.env) fp) tg g)
    (he : ∀ (s : Shared) (H : Hp) (C : Addr) (cl : List (Str × Addr)) (fp : List Addr), PE (X.blk s H scope (compEnvC scope cl C X.env) fp) elt te) (hs : ∀ x, foldedSetIterable iter X.env x = pure x)
    (h : tScT X.prog X.w wi g te (own.map (·.2)) σ H Q)
    (hRR : ∀ D C s' m H', Inv X pins σ H' s' → Q (.ref D) H' → s'.heap.Ns C m → FpOk X pins H' C → compPost (model X.prog X.w) X.A X.xe use Qf (.ref D) C (.ok .next) s') :
    wpAny (model X.prog X.w) X.A (comprehension (.SetComp elt [⟨tg, iter, [], 0⟩] scope pos) scope X.env pos' (newSet (.type "set")) false (eval iter X.env) use) Qf X.xe s := by
  have frees : ∀ y ∈ scope.names, y.2 = .free → ∃ c, X.env.cells.lookup y.1 = some c := fun y hy e => (ok.free y hy e).elim (fun k => I.ok.has _ (.inl k)) fun k => I.ok.has _ (.inr k)
  refine wpAny_comprehension_free (use := use) rfl hs (closure_ok frees) ok.kind (fun y hy e => by rw [ok.uniq y hy, e]) (thn (hi.run pins s σ H _ I h) fun xv s1 hx => thn hx fun itv s2 hh => ?_)
  obtain ⟨it, fp, tn, J, H2, e, I2, T, st2, f2, q⟩ := hh
  subst e
  refine newSet_ok (newEnv_comp ?_)
  have hDn : H2 s2.heap.objs.size = none := I2.hok.fresh (Nat.le_refl _)
  generalize eo : ({ cls := .type "set", dict := none, data := .set #[] 0 (.fresh 0 0 (!X.w.params.followText "set-order")) } : Obj) = ob
  have new : Inv X pins σ (upd H2 s2.heap.objs.size (SetT X.prog X.w s2.heap.objs.size [])) { s2 with heap := s2.heap.push ob } := by
    rw [← eo]
    exact I2.laid (t' := s2.toks) (fun b o e => Heap.get?_push_of_some _ e) (Nat.le_refl _) (setT_ok (setT_fresh X.w s2.heap))
  obtain ⟨W, ⟨m0, w0⟩, turn⟩ := q s2.heap.objs.size hDn
  have old : ∀ b ∈ fp, b < s2.heap.objs.size := fun b hb => let ⟨o, e, _⟩ := T.obj _ _ st2 b hb; Heap.lt_size e
  have f3 : ∀ b ∈ fp, FpOk X pins (upd H2 s2.heap.objs.size (SetT X.prog X.w s2.heap.objs.size [])) b ∧ b < (s2.heap.push ob).objs.size := fun b hb =>
    ⟨⟨by rw [upd_ne (Nat.ne_of_lt (old b hb))]; exact (f2 b hb).1, (f2 b hb).2⟩, by rw [Heap.size_push]; exact Nat.lt_succ_of_lt (old b hb)⟩
  have st3 : tn 0 (s2.heap.push ob) := T.keep _ _ _ st2 fun b _ o e => Heap.get?_push_of_some _ e
  generalize eD : s2.heap.objs.size = D at *
  generalize e3 : ({ s2 with heap := s2.heap.push ob } : Shared) = s3 at *
  have h3 : s3.heap = s2.heap.push ob := by rw [← e3]
  rw [← h3] at f3 st3
  have B := block_start new ok hN f3
  have pg := hg s3 (upd H2 D (SetT X.prog X.w D [])) s3.heap.objs.size (cellsFrom (s3.heap.objs.size + 1) scope.names (cloFrom X.env.cells scope.names [])) fp
  have pk := he s3 (upd H2 D (SetT X.prog X.w D [])) s3.heap.objs.size (cellsFrom (s3.heap.objs.size + 1) scope.names (cloFrom X.env.cells scope.names [])) fp
  change codeAny _ _ (.compStart (.SetComp elt [⟨tg, iter, [], 0⟩] scope pos) 0 (.ref it) (.ref D) (compEnvC scope (cellsFrom (s3.heap.objs.size + 1) scope.names (cloFrom X.env.cells scope.names [])) s3.heap.objs.size X.env))
    (compPost (model X.prog X.w) X.A X.xe use Qf (.ref D) s3.heap.objs.size) { s3 with heap := pushCells (s3.heap.push { cls := .type "dict", data := .dict #[] }) scope.names }
  generalize ec : compEnvC scope (cellsFrom (s3.heap.objs.size + 1) scope.names (cloFrom X.env.cells scope.names [])) s3.heap.objs.size X.env = ce at B pg pk ⊢
  have el : ce.locals = s3.heap.objs.size := by rw [← ec]; rfl
  generalize eH : upd H2 D (SetT X.prog X.w D []) = H3 at new B pg pk w0 f3
  have nfp : ∀ b ∈ fp, H3 b = none := fun b hb => (f3 b hb).1.1
  generalize es4 : ({ s3 with heap := pushCells (s3.heap.push { cls := .type "dict", data := .dict #[] }) scope.names } : Shared) = s4 at B ⊢
  have st4 : tn 0 s4.heap := T.keep _ _ _ st3 fun b _ o e => by rw [← es4]; exact pushCells_keeps _ _ _ _ (Heap.get?_push_of_some _ e)
  have stat : ∀ {τ : L2.St} {G : Hp} {r : Shared}, Inv (X.blk s3 H3 scope ce fp) [] τ G r → (∀ b ∈ fp, G b = none) → ∀ b ∈ fp, FpOk (X.blk s3 H3 scope ce fp) [] G b := fun {τ G r} J' hn b hb =>
    ⟨hn b hb, (J'.ok.exf b hb).1, J'.ok.exfs b hb, .inl hb, fun x c e => (J'.ok.exf b hb).2 x c e, fun p hp => absurd (show p ∈ ([] : List (Addr × Obj)) ++ [] from hp) (by simp)⟩
  have loop : codeAny (model X.prog X.w) X.A (.compLoop (.SetComp elt [⟨tg, iter, [], 0⟩] scope pos) 0 (.ref it) (.ref D) ce) (compPost (model X.prog X.w) X.A X.xe use Qf (.ref D) s3.heap.objs.size) s4 := by
    refine compLoopS_any (fun n r => ∃ i G, Inv (X.blk s3 H3 scope ce fp) [] (wipe σ (own.map (·.2))) G r ∧ tn i r.heap ∧ (∀ b ∈ fp, G b = none) ∧ W i n G) ?_ m0 ⟨0, H3, B, st4, nfp, w0⟩
    rintro n s5 ⟨i, H5, I5, st5, n5, w5⟩
    rcases turn i n H5 w5 with ⟨halt, qq⟩ | ⟨go, Nx, hNx, step⟩
    · refine thnF (T.done (X.blk s3 H3 scope ce fp) rfl rfl rfl hc i [] s5 _ H5 (fun _ _ => False) I5 (stat I5 n5) st5 halt) fun r s6 ⟨hr, I6⟩ => ?_
      subst hr
      have I7 : Inv X pins σ H5 s6 := new.call' (ch := fp) I6.os I6.base I6.hok I6.bare fun b hb => ⟨(f3 b hb).1.2.2.2.1, (f3 b hb).1.2.1, (f3 b hb).1.2.2.2.2.1, (f3 b hb).1.2.2.2.2.2⟩
      have z : H5 ce.locals = none := I6.free
      obtain ⟨m, hn, _⟩ := I6.loc
      replace hn : s6.heap.Ns ce.locals m := hn
      rw [el] at z hn
      exact hRR D s3.heap.objs.size s6 m H5 I7 qq hn (new.fpOk (Nat.le_refl _) z)
    · refine thnF (T.item (X.blk s3 H3 scope ce fp) rfl rfl rfl hc i [] s5 _ H5 (fun _ _ => False) I5 (stat I5 n5) st5 go) fun r s6 ⟨u, hr, h6⟩ => ?_
      subst hr
      refine thnF h6 fun _ s7 got => ?_
      obtain ⟨x, H7, I7, r7, y7, st7, n7⟩ := got
      refine thnF (pg.run _ s7 _ H7 x u _ (I7.pinned (stat I7 n7) (T.obj _ _ st7)) r7 (step x H7 y7)) fun _ s8 ⟨σ8, H8, I8, hw8, q8⟩ => ?_
      refine wpAny_pure ?_
      simp only [if_true]
      refine thnF (pk.run _ s8 σ8 H8 _ I8 q8) fun kz s10 ⟨yk, H10, I10, r10, xt, l, ey, hD10, hz10, nx⟩ => ?_
      subst ey
      obtain ⟨tk, rfl⟩ := (show ∃ tk, kz = Value.str xt tk from r10)
      refine addT_ok (X := X.blk s3 H3 scope ce fp) I10 hD10 hz10 fun s11 I12 => ?_
      obtain ⟨m', hm, w'⟩ := hNx _ nx
      have pin' : ∀ b ∈ fp, ∀ o, s7.heap.get? b = some o → s11.heap.get? b = some o ∧ (upd H10 D (SetT X.prog X.w D (addS l xt))) b = none := fun b hb o e =>
        let z := I12.pin (b, o) (List.mem_append_right _ (List.mem_append_right _ (mem_pinsAt hb e)))
        ⟨z.1, z.2.1⟩
      refine ⟨m', hm, i + 1, _, (I12.unpinned (pins := [])).weak (by rw [← hw8, wipe_length]) (fun j v e => ?_), T.keep _ _ _ st7 fun b hb o e => (pin' b hb o e).1, fun b hb => ?_, w'⟩
      · rw [← hw8] at e
        exact (wipe_some e).1
      · obtain ⟨o, e, _⟩ := T.obj _ _ st7 b hb
        exact (pin' b hb o e).2
  exact codeAny_compStart_set loop (T.self X.A 0 _ _ _ st4 loop)
theorem pe_scT {X : Cx} {elt tg iter : Expr} {scope : Scope} {own : List (Str × Nat)} {pos : Pos} {wi : TI} {g : TG} {te : TE} (hc : X.calm = true) (hN : X.N.Nodup) (hi : PI X tg iter wi) (ok : BlkOk X.N X.env.scope scope own)
    (hg : ∀ (s : Shared) (H : Hp) (C : Addr) (cl : List (Str × Addr)) (fp : List Addr), PG (X.blk s H scope (compEnvC scope cl C X.env) fp) tg g)
    (he : ∀ (s : Shared) (H : Hp) (C : Addr) (cl : List (Str × Addr)) (fp : List Addr), PE (X.blk s H scope (compEnvC scope cl C X.env) fp) elt te) (hs : ∀ x, foldedSetIterable iter X.env x = pure x := by intro _; rfl) :
    PE X (.SetComp elt [⟨tg, iter, [], 0⟩] scope pos) (tScT X.prog X.w wi g te (own.map (·.2))) := by
  refine ⟨fun pins s σ H Q I h => ?_⟩
  rw [eval_SetComp]
  refine scT_core hc hN I hi ok hg he hs h fun D C s' m H' I' q hn f => ⟨m, hn, fun h2 sb => ?_⟩
  obtain ⟨a0, a1, a2, a3, a4, a5⟩ := f
  exact ⟨.ref D, H', I'.turned (t' := s'.toks) (fun b o hb e => (sb.2 b hb).trans e) a0 a1 a3 a4 a5, rfl, q⟩
theorem sc_steady {P : Program} {w : World} {J : It} {n : Nat} {it : Nat → V} {G : Hp → Prop} (S : Steady J n it G) {g : TG} {te : TE} {vs : List Nat} {σ : L2.St} {H1 : Hp} {D : Addr} {Qd : Hp → Prop} (Pv : Nat → Hp → Prop) (h0 : Pv 0 (upd H1 D (SetT P w D []))) (hl : ∀ i H, i ≤ n → Pv i H → G H)
    (hs : ∀ i H, i < n → Pv i H → g (it i) (wipe σ vs) H fun σ2 H2 => wipe σ2 vs = wipe σ vs ∧ te σ2 H2 fun y H4 => ∃ x l, y = .str x ∧ H4 D = some (SetT P w D l) ∧ l.length + 1 < scanBound ∧ Pv (i + 1) (upd H4 D (SetT P w D (addS l x))))
    (hd : ∀ H, Pv n H → Qd H) : ∃ W : Nat → Nat → Hp → Prop, (∃ m, W 0 m (upd H1 D (SetT P w D []))) ∧ ∀ i m H, W i m H →
      (J.stop i H ∧ Qd H) ∨ (J.go i H ∧ ∃ Nx : Hp → Prop, (∀ H', Nx H' → ∃ m', m' < m ∧ W (i + 1) m' H') ∧ ∀ x H', J.yld i H x H' → g x (wipe σ vs) H' fun σ2 H2 => wipe σ2 vs = wipe σ vs ∧
        te σ2 H2 fun y H4 => ∃ x l, y = .str x ∧ H4 D = some (SetT P w D l) ∧ l.length + 1 < scanBound ∧ Nx (upd H4 D (SetT P w D (addS l x)))) := by
  refine ⟨fun i m H => m + i = n ∧ Pv i H, ⟨n, rfl, h0⟩, fun i m H ⟨e, p⟩ => ?_⟩
  by_cases c : i = n
  · subst c
    exact .inl ⟨S.stop _ (hl _ _ (Nat.le_refl _) p), hd _ p⟩
  · have lt : i < n := by omega
    have q := hl i H (Nat.le_of_lt lt) p
    refine .inr ⟨S.go i H q lt, Pv (i + 1), fun H' p' => ⟨m - 1, by omega, by omega, p'⟩, fun x H' y => ?_⟩
    obtain ⟨e1, e2⟩ := S.yld i H x H' q lt y
    rw [e1, e2]
    exact hs i H lt p
end Fc
namespace Fc
open PySem L2 PyProof.Rows
def keyAt (ks : List (Str × Str)) (i : Nat) : Str := (ks.getD i (Str.empty, Str.empty)).1
theorem steady_itk {d : Addr} {o : Obj} {ks : List (Str × Str)} : Steady (Itk d o (kvK ks)) ks.length (fun i => .str (keyAt ks i)) (fun H => H d = some (.frz o (.dK (kvK ks)))) where
  go := fun i H h hi => ⟨h, by unfold kvK; rw [List.length_map]; exact hi⟩
  stop := fun H h => ⟨h, by unfold kvK; rw [List.length_map]; exact Nat.le_refl _⟩
  yld := fun i H x H' h hi y => by
    obtain ⟨e1, k, v, e2, e3⟩ := y
    unfold kvK at e2
    rw [List.getElem?_map, List.getElem?_eq_getElem hi] at e2
    cases e2
    refine ⟨e1, e3.trans ?_⟩
    show V.str _ = V.str _
    unfold keyAt
    rw [List.getD_eq_getElem?_getD, List.getElem?_eq_getElem hi]
    rfl
theorem keyAt_get {ks : List (Str × Str)} {i : Nat} (h : i < ks.length) : keyAt ks i = (ks[i]).1 := by
  unfold keyAt
  rw [List.getD_eq_getElem?_getD, List.getElem?_eq_getElem h]
  rfl
/-- the other name of x -/
def ren (ns : List (Str × Str)) (x : Str) : Str := (kindOf ns x).getD x
def renP (ns : List (Str × Str)) (P : Pa) : Pa := ⟨P.arrays.map fun e => (ren ns e.1, ren ns e.2), P.pos.map (ren ns), P.vals.map (ren ns)⟩
/-- other names for some -/
structure RenOk (P : Pa) (ns : List (Str × Str)) : Prop where
  len : ns.length ≤ 60
  nd : (ns.map (·.1)).Nodup
  key : ∀ e ∈ ns, e.1 ∈ namesL P
  val : ∀ e ∈ ns, isNameS e.2 = true ∧ e.2.length ≤ 1000
def renB (P : Pa) (ns : List (Str × Str)) : Bool := decide ((namesL P).map (ren ns)).Nodup
def spRen (K : PySem.W.Frag) (w : World) : Sp := fun vs H Q _ => ∃ a d P ns, vs = [.ref a, .ref d] ∧ H a = some (.dK (kvK (kindsL P))) ∧ H d = some (.dK (kvK ns)) ∧ a ≠ d ∧ PaOk P ∧ RenOk P ns ∧ ∀ H', Same H H' → Q (.bl (renB P ns)) H'
theorem once_count2 (xs : List Str) (n : Nat) (h : xs.length = n) : decide (V.int ((onceS xs).length : Int) = V.int (n : Int)) = decide xs.Nodup := by
  subst h
  rw [← once_count (ws := xs) (ns := xs) fun x => Iff.rfl]
  exact decide_eq_decide.mpr ⟨Eq.symm, Eq.symm⟩
theorem kindOf_at {ns : List (Str × Str)} (nd : (ns.map (·.1)).Nodup) {i : Nat} (h : i < ns.length) : kindOf ns (ns[i]).1 = some (ns[i]).2 := (kind_find ns nd _ _).mpr (List.getElem_mem h)
theorem valK_at (ns : List (Str × Str)) (x : Str) : valV (kvK ns) (.inr x) = (kindOf ns x).map V.str := by
  unfold valV kvK kindOf
  induction ns with
  | nil => rfl
  | cons e ks ih =>
    rw [List.map_cons, List.find?_cons, List.find?_cons]
    by_cases c : e.1 = x
    · rw [decide_eq_true (by rw [c]), decide_eq_true c]; rfl
    · rw [decide_eq_false (fun q => c (Sum.inr.inj q)), decide_eq_false c]
      exact ih
section
variable {K : PySem.W.Frag} {mg : Str → Option Value} {base : Heap} {P' : Program} {w : World}
abbrev n31 : List Str := ["kinds", "names", "word"]
theorem sc31 : FnScope n31 ["kinds", "names"] (defScope (topS 31)) := ⟨rfl, rfl, rfl, by decide +kernel, rfl, by decide +kernel, by decide +kernel⟩
theorem ok31 {f : Addr} {fd : FuncData} (F : Fun K "is_renaming" "is_renaming" (topS 31) f fd) (B : Blt mg) (c11 : Cal P' w K mg base 1 "kind_among" (spKind K w)) (c21 : Cal P' w K mg base 1 "is_name" (spName K w)) : FnOk P' w K mg base CX0 2 f fd ["kinds", "names"] (spRen K w) := by
  refine F.ok sc31 (fun vs H Q E h => ?_) (fun cdv A outer s H vs Q E hr h => ?_)
  · obtain ⟨a, d, P, ns, rfl, _⟩ := h
    rfl
  · have hu := hu70 hr
    refine ⟨_, pss_cons (ps_if (pt_not (pt_val (pe_callB call_isi (by rfl) B.isinstance boot_isinstance (pa_cons (pv 1) (pa_cons (pe_bltn (v := .ty "dict") (by rfl) B.dict boot_dict rfl) pa_nil))))) (pss_one (ps_ret pe_bl)) pss_nil)
      (pss_cons (ps_lock (ps_for PassesOwn.never rfl (pi_keys (pv 1)) (pg_name (i := 2) sc31.nd rfl (Or.inl rfl)) (pss_one (ps_if (pw_or (pt_cmpR op_isN (pe_c c11 hr (by decide) (by rfl) (pa_cons (pv 0) (pa_cons (pv 2) pa_nil))) pe_non (nomark _))
        (pw_or1 (pt_not (pt_val (pe_c c21 hr (by decide) (by rfl) (pa_cons (pe_dget (hu1 hu) (pv 1) (pv 2) (fun _ _ => rfl)) pa_nil)))))).pt (pss_one (ps_ret pe_bl)) pss_nil))))
      (pss_one (ps_ret (pe_cmpR op_eq (pe_callB call_lenS (by rfl) B.len boot_len (pa_cons (pe_lock (pe_scT (own := [("word", 2)]) (g := gName 2) (by rfl) sc31.nd (pi_keys (pv 0)) (blkOk_by (N := n31) (sc := defScope (topS 31)) (by decide +kernel))
          (fun _ _ _ _ _ => pg_name (i := 2) sc31.nd rfl (Or.inl rfl)) (fun _ _ _ _ _ => pe_dget2 (hu1 hu) (pv 1) (pv 2) (pv 2) ⟨rfl, rfl, rfl, rfl⟩))) pa_nil))
        (pe_callB call_lenD (by rfl) B.len boot_len (pa_cons (pv 0) pa_nil)) (nomark _))))), ?_⟩
    obtain ⟨a, d, P, ns, rfl, ha, hd, nad, ok, ro, q⟩ := h
    refine ⟨_, rfl, .ref d, .ty "dict", _, _, true, rfl, .ty "dict", .base (.dK hd), kit_ty (by decide +kernel), _, rfl, iteF ?_⟩
    -- each of them is a name, and has one
    refine ⟨d, .dK (kvK ns), hd, True.intro, fun od => ?_⟩
    have ha1 : (upd H d (.frz od (.dK (kvK ns)))) a = some (.dK (kvK (kindsL P))) := by rw [upd_ne nad]; exact ha
    have hd1 : (upd H d (.frz od (.dK (kvK ns)))) d = some (.frz od (.dK (kvK ns))) := upd_same
    have eH : upd (upd H d (.frz od (.dK (kvK ns)))) d (.dK (kvK ns)) = H := by
      rw [upd_upd]
      funext b
      by_cases c : b = d
      · subst c; rw [upd_same]; exact hd.symm
      · rw [upd_ne c]
    generalize upd H d (.frz od (.dK (kvK ns))) = H1 at *
    refine ⟨_, rfl, d, od, rfl, .inl ⟨_, hd1, ?_⟩⟩
    refine for_steady steady_itk (fun i σ H' => H' = H1 ∧ ∃ z, σ = [some (.ref a), some (.ref d), z]) ⟨rfl, _, rfl⟩ (fun _ _ _ _ h => h.1 ▸ hd1) ?_ ?_
    · rintro i σ H' hi ⟨rfl, z, rfl⟩
      rw [keyAt_get hi]
      have hm := List.getElem_mem hi
      have k1 : kindOf (kindsL P) (ns[i]).1 ≠ none := fun e => by
        have h2 := ro.key _ hm
        rw [← kinds_keys] at h2
        obtain ⟨⟨x, y⟩, he, hx⟩ := List.mem_map.mp h2
        have hx : x = (ns[i]).1 := hx
        subst hx
        have := (kind_find (kindsL P) (by rw [kinds_keys]; exact ok.nd) _ y).mpr he
        rw [this] at e
        cases e
      refine ⟨_, rfl, _, rfl, a, _, .str (ns[i]).1, .str (ns[i]).1, rfl, .inl ha1, .str _, rfl, _, rfl, ?_⟩
      have k2 : decide (oS (kindD (kindsL P) (.str (ns[i]).1)) = V.non) = false := by
        apply decide_eq_false
        show oS (kindOf (kindsL P) (ns[i]).1) ≠ V.non
        cases e : kindOf (kindsL P) (ns[i]).1 with
        | none => exact absurd e k1
        | some y => exact fun e => by cases e
      rw [k2]
      obtain ⟨n1, n2⟩ := ro.val _ hm
      refine iteF ⟨_, rfl, _, rfl, d, _, rfl, .inl ⟨_, .inr (ns[i]).1, .inr ⟨od, hd1⟩, rfl, by rw [valK_at, kindOf_at ro.nd hi]; rfl⟩, (ns[i]).2, rfl, n2, _, rfl, ?_⟩
      rw [n1]
      exact iteF ⟨rfl, _, rfl⟩
    rintro σ H' ⟨rfl, z, rfl⟩
    refine ⟨hd1, ?_⟩
    rw [eH]
    clear hd1 ha1 eH
    -- how many different names there are then
    refine ⟨a, .dK (kvK (kindsL P)), ha, True.intro, fun od2 => ?_⟩
    have hd2 : (upd H a (.frz od2 (.dK (kvK (kindsL P))))) d = some (.dK (kvK ns)) := by rw [upd_ne (Ne.symm nad)]; exact hd
    have ha2 : (upd H a (.frz od2 (.dK (kvK (kindsL P))))) a = some (.frz od2 (.dK (kvK (kindsL P)))) := upd_same
    have sm : ∀ {H3 : Hp}, Same (upd H a (.frz od2 (.dK (kvK (kindsL P))))) H3 → Same H (upd H3 a (.dK (kvK (kindsL P)))) := fun {H3} s b o e => by
      by_cases c : b = a
      · subst c; rw [upd_same, ← ha]; exact e
      · rw [upd_ne c]
        exact s b o (by rw [upd_ne c]; exact e)
    have lk : (kindsL P).length = (namesL P).length := by rw [← kinds_keys, List.length_map]
    have ll := lensOf_len P.arrays
    have ln : (namesL P).length ≤ 100 := by
      unfold namesL
      have h1 := ok.na
      have h2 := ok.np
      have h3 := ok.nv
      simp only [List.length_append, List.length_map]
      omega
    generalize upd H a (.frz od2 (.dK (kvK (kindsL P)))) = H2 at *
    refine ⟨_, rfl, a, od2, rfl, .inl ⟨_, ha2, fun D hD => ?_⟩⟩
    have rn : (namesL P).map (ren ns) = (kindsL P).map fun e => ren ns e.1 := by rw [← kinds_keys, List.map_map]; rfl
    refine sc_steady (P := P') (w := w) steady_itk (fun k H' => Same H2 H' ∧ H' D = some (SetT P' w D (onceS (((namesL P).map (ren ns)).take k)))) ⟨same_new hD, upd_same⟩ (fun _ _ _ h => h.1 _ _ ha2) (fun i H' hi h => ?_) fun H' h => ?_
    · obtain ⟨s2, hS⟩ := h
      rw [keyAt_get hi]
      have hi2 : i < ((namesL P).map (ren ns)).length := by rw [List.length_map, ← lk]; exact hi
      refine ⟨rfl, _, rfl, d, rfl, .inl ⟨_, .inl (s2 _ _ hd2)⟩, _, rfl, _, rfl, _, .inl ⟨_, .inr ((kindsL P)[i]).1, .inl (s2 _ _ hd2), rfl, rfl⟩, ren ns ((kindsL P)[i]).1, _, ?_, hS, ?_, fun b o e => ?_, ?_⟩
      · rw [valK_at]
        unfold ren
        cases kindOf ns ((kindsL P)[i]).1 <;> rfl
      · have := onceS_take_len ((namesL P).map (ren ns)) i
        rw [List.length_map] at this
        unfold scanBound
        omega
      · rw [upd_ne (ne_of_none e hD)]
        exact s2 b o e
      · rw [onceS_succ hi2, upd_same]
        congr 3
        rw [List.getElem_of_eq rn hi2, List.getElem_map]
    · obtain ⟨s2, hS⟩ := h
      rw [List.take_of_length_le (by rw [List.length_map, ← lk]; exact Nat.le_refl _)] at hS
      refine ⟨s2 _ _ ha2, D, onceS ((namesL P).map (ren ns)), rfl, ?_, ?_⟩
      · have nDa : D ≠ a := fun e => by rw [e, ha2] at hD; cases hD
        rw [upd_ne nDa]
        exact hS
      · refine ⟨_, rfl, a, _, rfl, upd_same, rfl, ?_⟩
        have q2 := q _ (sm s2)
        have e1 := once_count2 ((namesL P).map (ren ns)) (kvK (kindsL P)).length (by unfold kvK; rw [List.length_map, List.length_map, lk])
        unfold renB at q2
        rw [← e1] at q2
        exact q2
end
end Fc
namespace Fc
open PySem L2 PyProof.Rows
theorem cat_dp {K : PySem.W.Frag} {H : Hp} {t u : Addr} {ds es : List PyData} {Q : VK} (h1 : Dp K H (.ref t) (.tuple ds)) (h2 : Dp K H (.ref u) (.tuple es)) (hl : ds.length + es.length ≤ 1000) (q : ∀ H' p, Same H H' → Dp K H' (.ref p) (.tuple (ds ++ es)) → Q (.ref p) H') : rCatA K (.ref t) (.ref u) H Q := by
  cases h1 with
  | @tup _ xs _ sx dx =>
  cases h2 with
  | @tup _ ys _ sy dy =>
  have lx := dp_len dx
  have ly := dp_len dy
  refine ⟨t, u, xs, ys, rfl, rfl, sx, sy, by rw [sizeLine_eq]; omega, fun e => ?_, fun _ e => ?_, fun _ _ p hp => ?_⟩
  · subst e
    cases dx
    exact q H u (Same.refl H) (.tup sy dy)
  · subst e
    cases dy
    rw [List.append_nil] at q
    exact q H t (Same.refl H) (.tup sx dx)
  · have s := same_new (o := .tup (xs ++ ys)) hp
    exact q _ p s (.tup (.inl (.inl upd_same)) (dps_app (dps_mono s _ _ dx) (dps_mono s _ _ dy)))
theorem cat_dA {K : PySem.W.Frag} {H : Hp} {t u : Addr} {as bs : List (Str × Str)} {Q : VK} (h1 : Dp K H (.ref t) (dA as)) (h2 : Dp K H (.ref u) (dA bs)) (hl : as.length + bs.length ≤ 1000) (q : ∀ H' p, Same H H' → Dp K H' (.ref p) (dA (as ++ bs)) → Q (.ref p) H') : rCatA K (.ref t) (.ref u) H Q :=
  cat_dp h1 h2 (by rw [List.length_map, List.length_map]; exact hl) fun H' p s d => q H' p s (by unfold dA; rw [List.map_append]; exact d)
theorem cat_dS {K : PySem.W.Frag} {H : Hp} {t u : Addr} {as bs : List Str} {Q : VK} (h1 : Dp K H (.ref t) (dS as)) (h2 : Dp K H (.ref u) (dS bs)) (hl : as.length + bs.length ≤ 1000) (q : ∀ H' p, Same H H' → Dp K H' (.ref p) (dS (as ++ bs)) → Q (.ref p) H') : rCatA K (.ref t) (.ref u) H Q :=
  cat_dp h1 h2 (by rw [List.length_map, List.length_map]; exact hl) fun H' p s d => q H' p s (by unfold dS; rw [List.map_append]; exact d)
/-- frames are made by the text's __init__ -/
structure MkFr (P : Program) (w : World) (K : PySem.W.Frag) (mg : Str → Option Value) (base : Heap) (C Cf : Addr) : Prop where
  at_ : ∃ (f : Addr) (fd : FuncData), Mk K C f ∧ FnOk P w K mg base (L2.CX P w) 3 f fd ["self", "arrays", "positions", "values"] (spMake K C Cf) ∧ Binds K fd ["self", "arrays", "positions", "values"] [] ∧ mg "Frame" = some (.ref C)
theorem pe_mkE {X : Cx} {C Cf : Addr} {E : XK} {j : Nat} {p pos : Pos} {e : Expr} {es : List Expr} {t : TA} (M : MkFr X.prog X.w X.K X.mg X.base C Cf) (hr : Room j X.A) (hj : 4 ≤ j) (hg : Gl X "Frame") (hx : Passes (L2.CX X.prog X.w) X E) (ha : PA X (e :: es) t)
    (he : starEach (e :: es) X.env = (false, eval e X.env) :: starEach es X.env := by rfl) (hpl : (backTo pos (starEach es X.env)).any (·.1) = false := by rfl) : PE X (.Call (.Name "Frame" p) (e :: es) [] pos) (tMake C (spMake X.K C Cf) [] E t) := by
  obtain ⟨f, fd, mk, F, b, hm⟩ := M.at_
  exact pe_make (p := p) (pos := pos) (E := E) mk F (hr.mono hj) hg hm b .nil hx ha (by decide) he hpl
theorem mk_i {K : PySem.W.Frag} {C Cf tA tP tV : Addr} {H1 : Hp} {Q : VK} {E : XK} (P : Pa) (hA : Dp K H1 (.ref tA) (dA P.arrays)) (hP : Dp K H1 (.ref tP) (dS P.pos)) (hV : Dp K H1 (.ref tV) (dS P.vals)) (nm : PaNm P) (q1 : okB P = false → ∀ H', Same H1 H' → E (.ref Cf) none H')
    (q2 : okB P = true → ∀ H' p, Same H1 H' → H1 p = none → FrAt K C H' p P → Q (.ref p) H') : ∀ x dx, H1 x = none → H1 dx = none → dx ≠ x →
      spMake K C Cf (.ref x :: ([.ref tA, .ref tP, .ref tV] ++ [])) (upd (upd H1 dx (.own x)) x (.ins C dx [])) (fun v H2 => v = .non ∧ Q (.ref x) H2) E := fun x dx nx nd ne => by
  have s1 : Same H1 (upd (upd H1 dx (.own x)) x (.ins C dx [])) := fun b o e => by rw [upd_ne (ne_of_none e nx), upd_ne (ne_of_none e nd)]; exact e
  refine ⟨x, dx, tA, tP, tV, P, rfl, upd_same, dp_mono s1 _ _ hA, dp_mono s1 _ _ hP, dp_mono s1 _ _ hV, nm, fun e H' s => q1 e H' (s1.trans s), fun e H' b fr => ⟨rfl, q2 e H' x (fun c o ec => b c o (ne_of_none ec nx) (s1 c o ec)) nx fr⟩⟩
def spWith (K : PySem.W.Frag) (C Cf : Addr) : Sp := fun vs H Q E => ∃ (p tA tP tV : Addr) (P P2 : Pa), vs = [.ref p, .ref tA, .ref tP, .ref tV] ∧ FrAt K C H p P ∧ Dp K H (.ref tA) (dA P2.arrays) ∧ Dp K H (.ref tP) (dS P2.pos) ∧ Dp K H (.ref tV) (dS P2.vals) ∧ PaNm ⟨P.arrays ++ P2.arrays, P.pos ++ P2.pos, P.vals ++ P2.vals⟩ ∧
  (okB ⟨P.arrays ++ P2.arrays, P.pos ++ P2.pos, P.vals ++ P2.vals⟩ = false → ∀ H', Same H H' → E (.ref Cf) none H') ∧ (okB ⟨P.arrays ++ P2.arrays, P.pos ++ P2.pos, P.vals ++ P2.vals⟩ = true → ∀ H' p', Same H H' → FrAt K C H' p' ⟨P.arrays ++ P2.arrays, P.pos ++ P2.pos, P.vals ++ P2.vals⟩ → Q (.ref p') H')
section
variable {K : PySem.W.Frag} {mg : Str → Option Value} {base : Heap} {P : Program} {w : World}
abbrev nM11 : List Str := ["self", "arrays", "positions", "values", "more"]
theorem scM11 : FnScope nM11 ["self", "arrays", "positions", "values"] (defScope (mF 11)) := ⟨rfl, rfl, rfl, by decide +kernel, rfl, by decide +kernel, by decide +kernel⟩
theorem okM11 {f C Cf : Addr} {fd : FuncData} {kws : List (Str × V)} (F : FunD K "with_names" "Frame.with_names" (defArgs (mF 11)) (defBody (mF 11)) (defScope (mF 11)) [] kws f fd) (B : Blt mg) (T : FrTxt K mg C) (M : MkFr P w K mg base C Cf) : FnOk P w K mg base (L2.CX P w) 5 f fd ["self", "arrays", "positions", "values"] (spWith K C Cf) := by
  refine F.ok scM11 (fun vs H Q E h => ?_) (fun cdv A outer s H vs Q E hr h => ?_)
  · obtain ⟨p, tA, tP, tV, P, P2, rfl, _⟩ := h
    rfl
  · have hu := hu70 hr
    refine ⟨_, pss_cons (ps_for (passes_of rfl) rfl (pi_tup (pe_tup (pa_cons (pv 1) (pa_cons (pv 2) (pa_cons (pv 3) pa_nil))))) (pg_name (i := 4) scM11.nd rfl (Or.inl rfl)) (pss_one (ps_if (pt_not (pt_val (pe_callB call_isiD (by rfl) B.isinstance boot_isinstance (pa_cons (pv 4) (pa_cons (pe_bltn (v := .ty "tuple") (by rfl) B.tuple boot_tuple rfl) pa_nil))))) pss_never pss_nil)))
      (pss_one (ps_ret (pe_mkE M hr (by decide) (by rfl) (passes_call (takes_of rfl rfl rfl rfl) fun _ _ _ _ h => h) (pa_cons (pe_op op_catA (pe_fld (pv 0) rfl) (pv 1)) (pa_cons (pe_op op_catA (pe_fld (pv 0) rfl) (pv 2)) (pa_cons (pe_op op_catA (pe_fld (pv 0) rfl) (pv 3)) pa_nil)))))), ?_⟩
    obtain ⟨p, tA, tP, tV, P, P2, rfl, fr, hA, hP, hV, nm, q1, q2⟩ := h
    obtain ⟨ok, dx, fs, uA, uP, uV, aK, h1, h2, h3, h4, h5, h6, h7, h8, h9, h10⟩ := id fr
    refine ⟨_, rfl, _, rfl, _, rfl, by rw [sizeLine_eq]; exact (by decide : (3 : Nat) ≤ 16777216), fun tp htp => ⟨tp, rfl, ⟨_, .inl (.inl upd_same)⟩, ?_⟩⟩
    have s1 := same_new (o := .tup [.ref tA, .ref tP, .ref tV]) htp
    have st : SqT K (upd H tp (.tup [.ref tA, .ref tP, .ref tV])) tp [.ref tA, .ref tP, .ref tV] := .inl (.inl upd_same)
    have hA1 := dp_mono s1 _ _ hA
    have hP1 := dp_mono s1 _ _ hP
    have hV1 := dp_mono s1 _ _ hV
    generalize upd H tp (.tup [.ref tA, .ref tP, .ref tV]) = H1 at *
    refine for_steady steady_tup (fun i σ H' => H' = H1 ∧ ∃ z, σ = [some (.ref p), some (.ref tA), some (.ref tP), some (.ref tV), z]) ⟨rfl, _, rfl⟩ (fun _ _ _ _ h => h.1 ▸ st) ?_ ?_
    · rintro i σ H' hi ⟨rfl, z, rfl⟩
      have hi2 : i < 3 := hi
      have hc : i = 0 ∨ i = 1 ∨ i = 2 := by omega
      rcases hc with rfl | rfl | rfl
      · exact ⟨_, rfl, .ref tA, _, _, rfl, .inl hA1, .inr (.inr (.inr (.inl rfl))), _, rfl, iteF ⟨rfl, _, rfl⟩⟩
      · exact ⟨_, rfl, .ref tP, _, _, rfl, .inl hP1, .inr (.inr (.inr (.inl rfl))), _, rfl, iteF ⟨rfl, _, rfl⟩⟩
      · exact ⟨_, rfl, .ref tV, _, _, rfl, .inl hV1, .inr (.inr (.inr (.inl rfl))), _, rfl, iteF ⟨rfl, _, rfl⟩⟩
    · rintro σ H' ⟨rfl, z, rfl⟩
      have na := nm.na
      have np := nm.np
      have nv := nm.nv
      simp only [List.length_append] at na np nv
      refine ⟨_, rfl, p, C, dx, fs, _, rfl, s1 _ _ h1, T.cl, T.nA, h2, _, rfl, ?_⟩
      refine cat_dA (dp_mono s1 _ _ h7) hA1 (by omega) fun H2 a2 s2 d2 => ?_
      refine ⟨_, rfl, p, C, dx, fs, _, rfl, s2 _ _ (s1 _ _ h1), T.cl, T.nP, h3, _, rfl, ?_⟩
      refine cat_dS (dp_mono (s1.trans s2) _ _ h8) (dp_mono s2 _ _ hP1) (by omega) fun H3 a3 s3 d3 => ?_
      refine ⟨_, rfl, p, C, dx, fs, _, rfl, s3 _ _ (s2 _ _ (s1 _ _ h1)), T.cl, T.nV, h4, _, rfl, ?_⟩
      refine cat_dS (dp_mono ((s1.trans s2).trans s3) _ _ h9) (dp_mono (s2.trans s3) _ _ hV1) (by omega) fun H4 a4 s4 d4 => ?_
      have sT := ((s1.trans s2).trans s3).trans s4
      exact mk_i ⟨P.arrays ++ P2.arrays, P.pos ++ P2.pos, P.vals ++ P2.vals⟩ (dp_mono (s3.trans s4) _ _ d2) (dp_mono s4 _ _ d3) d4 nm (fun e H' s' => q1 e H' (sT.trans s')) fun e H' p' s' _ fr' => q2 e H' p' (sT.trans s') fr'
end
end Fc
namespace Fc
open PySem L2 PyProof.Rows
/-- [e for .. in ..], any target, no test -/
theorem lc_map {K : PySem.W.Frag} {J : It} {n : Nat} {it : Nat → V} {G : Hp → Prop} {g : TG} {te : TE} {vs : List Nat} {σ : L2.St} {H1 : Hp} {D : Addr} {Qd : Hp → Prop} (Rl : Hp → Nat → V → Prop) (S : Steady J n it G) (hm : Kept K Rl) (hG : ∀ H, Same H1 H → G H) (hl : n ≤ 5000) (hD : H1 D = none)
    (hv : ∀ k H (Q : VK), k < n → Same H1 H → (∀ H' y, Same H H' → Rl H' k y → Q y H') → g (it k) (wipe σ vs) H fun σ2 H2 => wipe σ2 vs = wipe σ vs ∧ te σ2 H2 Q)
    (hd : ∀ H' ys, Same H1 H' → H' D = some (.lst ys) → Paired (Rl H') (List.range n) ys → Qd H') :
    ∃ W : Nat → Nat → Hp → Prop, (∃ m, W 0 m (upd H1 D (.lst []))) ∧ ∀ i m H, W i m H → (J.stop i H ∧ Qd H) ∨
      (J.go i H ∧ ∃ Nx : Hp → Prop, (∀ H', Nx H' → ∃ m', m' < m ∧ W (i + 1) m' H') ∧ ∀ x H', J.yld i H x H' → g x (wipe σ vs) H' fun σ2 H2 => wipe σ2 vs = wipe σ vs ∧ tYes σ2 H2 fun b H3 =>
        if b = true then te σ2 H3 fun y H4 => ∃ acc, H4 D = some (.lst acc) ∧ acc.length < sizeLine ∧ Nx (upd H4 D (.lst (acc ++ [y]))) else Nx H3) := by
  refine lc_steady S (fun k H => Same H1 H ∧ ∃ ys, H D = some (.lst ys) ∧ Paired (Rl H) (List.range k) ys) ⟨same_new hD, [], upd_same, .nil⟩ (fun _ _ _ h => hG _ h.1) (fun k H hk h => ?_) fun H h => ?_
  · obtain ⟨sm, ys, hy, pp⟩ := h
    have er : List.range (k + 1) = List.range k ++ [k] := List.range_succ
    have ly : ys.length = k := by rw [← paired_len pp, List.length_range]
    exact hv k H _ hk sm fun H' y sm' rl => ⟨ys, sm' _ _ hy, by rw [sizeLine_eq]; omega, by
      have tp : Tups K H' (upd H' D (.lst (ys ++ [y]))) := Tups.upd fun u e => by rw [sm' _ _ hy] at e; cases e; exact True.intro
      refine ⟨fun a o ha => by rw [upd_ne (ne_of_none ha hD)]; exact sm' _ _ (sm a o ha), _, upd_same, ?_⟩
      rw [er]
      exact paired_snoc (Paired.mapP pp fun a v h => hm _ _ _ _ ((Tups.same sm').trans tp) h) (hm _ _ _ _ tp rl)⟩
  · exact hd H h.2.choose h.1 h.2.choose_spec.1 h.2.choose_spec.2
theorem range_map {α β : Type} {l : List α} {n : Nat} (hn : n = l.length) {f : Nat → β} {h : α → β} (e : ∀ (i : Nat) (hi : i < l.length), f i = h l[i]) : (List.range n).map f = l.map h := by
  subst hn
  apply List.ext_getElem (by simp)
  intro i h1 h2
  simp only [List.getElem_map, List.getElem_range]
  exact e i (by simpa using h2)
/-- the frame's table of kinds is another one than d -/
def Apart (C : Addr) (H : Hp) (p d : Addr) : Prop := ∀ dx fs aK, H p = some (.ins C dx fs) → fs.lookup ("_kinds" : Str) = some (.ref aK) → aK ≠ d
theorem FrAt.apart {K : PySem.W.Frag} {C : Addr} {H H' : Hp} {p d : Addr} {P : Pa} (h : FrAt K C H p P) (hd : H d = none) (s : Same H H') : Apart C H' p d := fun dx fs aK e1 e2 => by
  obtain ⟨ok, dx', fs', tA, tP, tV, aK', h1, h2, h3, h4, h5, h6, h7, h8, h9, h10⟩ := h
  rw [s _ _ h1] at e1
  cases e1
  rw [h5] at e2
  cases e2
  exact ne_of_none h10 hd
def spRename (K : PySem.W.Frag) (w : World) (C Co : Addr) : Sp := fun vs H Q E => ∃ p d P ns, vs = [.ref p, .ref d] ∧ FrAt K C H p P ∧ H d = some (.dK (kvK ns)) ∧ Apart C H p d ∧ RenOk P ns ∧
  (renB P ns = false → ∀ H', Same H H' → E (.ref Co) none H') ∧ (renB P ns = true → ∀ H' p', Same H H' → FrAt K C H' p' (renP ns P) → Q (.ref p') H')
theorem ren_lens (ns : List (Str × Str)) (as : List (Str × Str)) (inj : ∀ x ∈ lensOf as, ∀ y ∈ lensOf as, ren ns x = ren ns y → x = y) : lensOf (as.map fun e => (ren ns e.1, ren ns e.2)) = (lensOf as).map (ren ns) := by
  rw [lens_once, lens_once, List.map_map]
  rw [lens_once] at inj
  have g : ∀ (xs l : List Str), (∀ x ∈ l ++ xs, ∀ y ∈ l ++ xs, ren ns x = ren ns y → x = y) → (xs.map (ren ns)).foldl addS (l.map (ren ns)) = (xs.foldl addS l).map (ren ns) := by
    intro xs
    induction xs with
    | nil => intro l _; rfl
    | cons x xs ih =>
      intro l inj
      rw [List.map_cons, List.foldl_cons, List.foldl_cons]
      have hx : x ∈ l ++ x :: xs := List.mem_append_right _ List.mem_cons_self
      have e1 : addS (l.map (ren ns)) (ren ns x) = (addS l x).map (ren ns) := by
        unfold addS
        by_cases c : x ∈ l
        · rw [if_pos c, if_pos (List.mem_map.mpr ⟨x, c, rfl⟩)]
        · rw [if_neg c, if_neg, List.map_append]
          · rfl
          · intro q
            obtain ⟨y, hy, e⟩ := List.mem_map.mp q
            exact c (inj y (List.mem_append_left _ hy) x hx e ▸ hy)
      rw [e1]
      refine ih (addS l x) fun a ha b hb => inj a ?_ b ?_
      · rcases List.mem_append.mp ha with h | h
        · rcases mem_addS.mp h with h | rfl
          · exact List.mem_append_left _ h
          · exact hx
        · exact List.mem_append_right _ (List.mem_cons_of_mem _ h)
      · rcases List.mem_append.mp hb with h | h
        · rcases mem_addS.mp h with h | rfl
          · exact List.mem_append_left _ h
          · exact hx
        · exact List.mem_append_right _ (List.mem_cons_of_mem _ h)
  have := g (as.map (·.2)) [] (fun x hx y hy => inj x (mem_onceS.mpr (by simpa using hx)) y (mem_onceS.mpr (by simpa using hy)))
  rw [List.map_map] at this
  exact this
/-- all names stay different: then there is a frame -/
theorem ren_ok {P : Pa} {ns : List (Str × Str)} (ok : PaOk P) (ro : RenOk P ns) (h : renB P ns = true) : PaNm (renP ns P) ∧ okB (renP ns P) = true ∧ namesL (renP ns P) = (namesL P).map (ren ns) := by
  have nd : ((namesL P).map (ren ns)).Nodup := of_decide_eq_true h
  have inj : ∀ x ∈ namesL P, ∀ y ∈ namesL P, ren ns x = ren ns y → x = y := by
    have g : ∀ l : List Str, (l.map (ren ns)).Nodup → ∀ x ∈ l, ∀ y ∈ l, ren ns x = ren ns y → x = y := by
      intro l
      induction l with
      | nil => intro _ x hx; cases hx
      | cons z l ih =>
        intro nd x hx y hy e
        rw [List.map_cons, List.nodup_cons] at nd
        rcases List.mem_cons.mp hx with rfl | hx
        · rcases List.mem_cons.mp hy with rfl | hy
          · rfl
          · exact (nd.1 (List.mem_map.mpr ⟨y, by assumption, e.symm⟩)).elim
        · rcases List.mem_cons.mp hy with rfl | hy
          · exact (nd.1 (List.mem_map.mpr ⟨x, by assumption, e⟩)).elim
          · exact ih nd.2 x hx y hy e
    exact g _ nd
  have lens := ren_lens ns P.arrays fun x hx y hy e => inj x (by unfold namesL; simp [hx]) y (by unfold namesL; simp [hy]) e
  have en : namesL (renP ns P) = (namesL P).map (ren ns) := by
    unfold namesL renP
    rw [lens]
    simp only [List.map_append, List.map_map]
    rfl
  have nm : ∀ x ∈ namesL P, isNameS (ren ns x) = true ∧ (ren ns x).length ≤ 1000 := fun x hx => by
    unfold ren
    cases e : kindOf ns x with
    | none =>
      have h1 := ok.nm x hx
      refine ⟨h1, ?_⟩
      show x.length ≤ 1000
      unfold isNameS at h1
      simp only [Bool.and_eq_true, decide_eq_true_iff] at h1
      omega
    | some y => exact ro.val (x, y) ((kind_find ns ro.nd x y).mp e)
  have na := ok.na
  have np := ok.np
  have nv := ok.nv
  refine ⟨⟨by unfold renP; rw [List.length_map]; omega, by unfold renP; rw [List.length_map]; omega, by unfold renP; rw [List.length_map]; omega, fun x hx => ?_⟩, ?_, en⟩
  · have h1 := words_mem.mp hx
    rw [en] at h1
    obtain ⟨y, hy, rfl⟩ := List.mem_map.mp h1
    exact nm y hy
  · unfold okB
    rw [en]
    simp only [Bool.and_eq_true, decide_eq_true_iff]
    unfold renP
    simp only [List.length_map]
    exact ⟨na, np, nv, nd⟩
end Fc
namespace Fc
open PySem L2 PyProof.Rows
def e0 : Str × Str := (Str.empty, Str.empty)
theorem getD_at {α : Type} {l : List α} {i : Nat} {d : α} (h : i < l.length) : l.getD i d = l[i] := by
  rw [List.getD_eq_getElem?_getD, List.getElem?_eq_getElem h]; rfl
theorem ren_get (ns : List (Str × Str)) (x : Str) : (valV (kvK ns) (.inr x)).getD (.str x) = .str (ren ns x) := by
  rw [valK_at]
  unfold ren
  cases kindOf ns x <;> rfl
theorem dps_range {K : PySem.W.Frag} {H : Hp} {n : Nat} {f : Nat → PyData} {ys : List V} (h : Paired (fun k y => Dp K H y (f k)) (List.range n) ys) : DpAll K H ys ((List.range n).map f) := pair_dp (pair_via (p := fun d y => Dp K H y d) h)
section
variable {K : PySem.W.Frag} {mg : Str → Option Value} {base : Heap} {P : Program} {w : World}
abbrev nM12 : List Str := ["self", "names", "arrays", "positions", "values", "array", "length", "word"]
theorem scM12 : FnScope nM12 ["self", "names"] (defScope (mF 12)) := ⟨rfl, rfl, rfl, by decide +kernel, rfl, by decide +kernel, by decide +kernel⟩
theorem okM12 {f C Cf Co : Addr} {fd : FuncData} (F : Fun K "renamed" "Frame.renamed" (mF 12) f fd) (B : Blt mg) (T : FrTxt K mg C) (M : MkFr P w K mg base C Cf) (O : OwnX K mg "InvalidOperation" Co) (c31 : Cal P w K mg base 2 "is_renaming" (spRen K w)) : FnOk P w K mg base (L2.CX P w) 5 f fd ["self", "names"] (spRename K w C Co) := by
  refine F.okX scM12 (fun vs H Q E h => ?_) (fun cdv A outer s H vs Q E hr h => ?_)
  · obtain ⟨p, d, P, ns, rfl, _⟩ := h
    rfl
  · have hu := hu70 hr
    refine ⟨_, pss_cons (ps_if (pt_not (pt_val (pe_c c31 hr (by decide) (by rfl) (pa_cons (pe_fld (pv 0) rfl) (pa_cons (pv 1) pa_nil))))) (pss_one (ps_raise rfl (takes_of rfl rfl rfl rfl) (pmk_own PySem.F.excBase_ValueError O.x O.g O.k (raises_own O.b O.t) rfl))) pss_nil)
      (pss_cons (ps_setLc (i := 2) (own := [("array", 5), ("length", 6)]) (g := gTup K 2 (gCons (gName 5) (gCons (gName 6) gNil))) (by rfl) scM12.nd rfl rfl (sw_true rfl rfl rfl (by decide +kernel)) (pi_tup (pe_fld (pv 0) rfl)) (blkOk_by (N := nM12) (sc := defScope (mF 12)) (by decide +kernel))
        (fun _ _ _ _ _ => pg_tup rfl (pgs_cons (pg_name (i := 5) scM12.nd rfl (Or.inl rfl)) (pgs_cons (pg_name (i := 6) scM12.nd rfl (Or.inl rfl)) pgs_nil))) (fun _ _ _ _ _ => pts_nil) (fun _ _ _ _ _ => pe_tup (pa_cons (pe_dget2 (hu1 hu) (pv 1) (pv 5) (pv 5) ⟨rfl, rfl, rfl, rfl⟩) (pa_cons (pe_dget2 (hu1 hu) (pv 1) (pv 6) (pv 6) ⟨rfl, rfl, rfl, rfl⟩) pa_nil))))
      (pss_cons (ps_setLc (i := 3) (own := [("word", 7)]) (g := gName 7) (by rfl) scM12.nd rfl rfl (sw_true rfl rfl rfl (by decide +kernel)) (pi_tup (pe_fld (pv 0) rfl)) (blkOk_by (N := nM12) (sc := defScope (mF 12)) (by decide +kernel))
        (fun _ _ _ _ _ => pg_name (i := 7) scM12.nd rfl (Or.inl rfl)) (fun _ _ _ _ _ => pts_nil) (fun _ _ _ _ _ => pe_dget2 (hu1 hu) (pv 1) (pv 7) (pv 7) ⟨rfl, rfl, rfl, rfl⟩))
      (pss_cons (ps_setLc (i := 4) (own := [("word", 7)]) (g := gName 7) (by rfl) scM12.nd rfl rfl (sw_true rfl rfl rfl (by decide +kernel)) (pi_tup (pe_fld (pv 0) rfl)) (blkOk_by (N := nM12) (sc := defScope (mF 12)) (by decide +kernel))
        (fun _ _ _ _ _ => pg_name (i := 7) scM12.nd rfl (Or.inl rfl)) (fun _ _ _ _ _ => pts_nil) (fun _ _ _ _ _ => pe_dget2 (hu1 hu) (pv 1) (pv 7) (pv 7) ⟨rfl, rfl, rfl, rfl⟩))
      (pss_one (ps_ret (pe_mkE M hr (by decide) (by rfl) (passes_call (takes_of rfl rfl rfl rfl) fun _ _ _ _ h => h) (pa_cons (pe_callTy call_tuple_of (by rfl) B.tuple boot_tuple (pa_cons (pv 2) pa_nil)) (pa_cons (pe_callTy call_tuple_of (by rfl) B.tuple boot_tuple (pa_cons (pv 3) pa_nil)) (pa_cons (pe_callTy call_tuple_of (by rfl) B.tuple boot_tuple (pa_cons (pv 4) pa_nil)) pa_nil))))))))), ?_⟩
    obtain ⟨p, d, P, ns, rfl, fr, hd, ap, ro, q1, q2⟩ := h
    obtain ⟨ok, dx, fs, uA, uP, uV, aK, h1, h2, h3, h4, h5, h6, h7, h8, h9, h10⟩ := id fr
    have nK : aK ≠ d := ap _ _ _ h1 h5
    refine ⟨_, rfl, p, C, dx, fs, _, rfl, h1, T.cl, T.nK, h5, _, rfl, aK, d, P, ns, rfl, h10, hd, nK, ok, ro, fun H1 s1 => ⟨_, rfl, ?_⟩⟩
    cases e : renB P ns with
    | false => exact iteT (q1 e H1 s1)
    | true =>
    refine iteF ?_
    obtain ⟨nm, okB2, _⟩ := ren_ok ok ro e
    replace q2 := q2 e
    have na := ok.na
    have np := ok.np
    have nv := ok.nv
    -- the arrays
    have h7' := h7
    unfold dA at h7'
    cases h7' with
    | @tup _ xs _ sa da =>
    have lx : xs.length = P.arrays.length := (dp_len da).trans (List.length_map _)
    refine ⟨_, rfl, p, C, dx, fs, _, rfl, s1 _ _ h1, T.cl, T.nA, h2, uA, rfl, ⟨xs, Tups.same s1 _ _ sa⟩, fun D hD => ?_⟩
    refine lc_map (K := K) (fun H k y => Dp K H y (.tuple [.str (ren ns (P.arrays.getD k e0).1), .str (ren ns (P.arrays.getD k e0).2)])) (steady_tup (K := K) (a := uA) (xs := xs)) (fun _ _ _ _ t h => dp_tups t _ _ rfl h) (fun H' s' => Tups.same (s1.trans s') _ _ sa) (by omega) hD (fun k H' Q' hk s' q => ?_) fun H2 ys s2 hys py => ?_
    · have hk2 : k < P.arrays.length := by omega
      obtain ⟨u, eu, su⟩ := dA_at da hk2
      have dg : ∀ x : Str, DGet H' d (.str x) (valV (kvK ns) (.inr x)) := fun x => DGet.k (k := .inr x) (s' _ _ (s1 _ _ hd))
      refine ⟨u, _, eu, Tups.same (s1.trans s') _ _ su, rfl, _, _, rfl, _, _, rfl, rfl, rfl, ?_⟩
      refine ⟨_, rfl, d, rfl, .inl ⟨_, .inl (s' _ _ (s1 _ _ hd))⟩, _, rfl, _, rfl, _, dg _, ?_⟩
      refine ⟨_, rfl, d, rfl, .inl ⟨_, .inl (s' _ _ (s1 _ _ hd))⟩, _, rfl, _, rfl, _, dg _, by rw [sizeLine_eq]; exact (by decide : (2 : Nat) ≤ 16777216), fun t ht => ?_⟩
      have st := same_new (o := .tup [(valV (kvK ns) (.inr (P.arrays[k]).1)).getD (.str (P.arrays[k]).1), (valV (kvK ns) (.inr (P.arrays[k]).2)).getD (.str (P.arrays[k]).2)]) ht
      refine q _ _ st (.tup (.inl (.inl upd_same)) ?_)
      rw [ren_get, ren_get, getD_at hk2]
      exact .cons (.str _) (.cons (.str _) .nil)
    have dA2 : DpAll K H2 ys ((P.arrays.map fun e => (ren ns e.1, ren ns e.2)).map fun e => PyData.tuple [.str e.1, .str e.2]) := by
      have h := dps_range py
      rw [range_map (l := P.arrays) lx (h := fun e => PyData.tuple [.str (ren ns e.1), .str (ren ns e.2)]) fun i hi => by rw [getD_at hi]] at h
      rw [List.map_map]
      exact h
    have s12 := s1.trans s2
    -- the positions
    have sP := tup_dS h8
    refine ⟨_, rfl, p, C, dx, fs, _, rfl, s12 _ _ h1, T.cl, T.nP, h3, uP, rfl, ⟨_, Tups.same s12 _ _ sP⟩, fun D2 hD2 => ?_⟩
    refine lc_map (K := K) (fun H k y => Dp K H y (.str (ren ns (P.pos.getD k Str.empty)))) (steady_tup (K := K) (a := uP) (xs := P.pos.map V.str)) (fun _ _ _ _ t h => dp_tups t _ _ rfl h) (fun H' s' => Tups.same (s12.trans s') _ _ sP) (by rw [List.length_map]; omega) hD2 (fun k H' Q' hk s' q => ?_) fun H3 zs s3 hzs pz => ?_
    · have hk2 : k < P.pos.length := by rw [List.length_map] at hk; exact hk
      rw [strs_getD _ hk2]
      refine ⟨rfl, _, rfl, d, rfl, .inl ⟨_, .inl (s' _ _ (s12 _ _ hd))⟩, _, rfl, _, rfl, _, DGet.k (k := .inr P.pos[k]) (s' _ _ (s12 _ _ hd)), ?_⟩
      refine q _ _ (Same.refl _) ?_
      rw [ren_get, getD_at hk2]
      exact .str _
    have dP2 : DpAll K H3 zs ((P.pos.map (ren ns)).map PyData.str) := by
      have h := dps_range pz
      rw [range_map (l := P.pos) (List.length_map _) (h := fun x => PyData.str (ren ns x)) fun i hi => by rw [getD_at hi]] at h
      rw [List.map_map]
      exact h
    have s13 := s12.trans s3
    -- the values
    have sV := tup_dS h9
    refine ⟨_, rfl, p, C, dx, fs, _, rfl, s13 _ _ h1, T.cl, T.nV, h4, uV, rfl, ⟨_, Tups.same s13 _ _ sV⟩, fun D3 hD3 => ?_⟩
    refine lc_map (K := K) (fun H k y => Dp K H y (.str (ren ns (P.vals.getD k Str.empty)))) (steady_tup (K := K) (a := uV) (xs := P.vals.map V.str)) (fun _ _ _ _ t h => dp_tups t _ _ rfl h) (fun H' s' => Tups.same (s13.trans s') _ _ sV) (by rw [List.length_map]; omega) hD3 (fun k H' Q' hk s' q => ?_) fun H4 ws s4 hws pw => ?_
    · have hk2 : k < P.vals.length := by rw [List.length_map] at hk; exact hk
      rw [strs_getD _ hk2]
      refine ⟨rfl, _, rfl, d, rfl, .inl ⟨_, .inl (s' _ _ (s13 _ _ hd))⟩, _, rfl, _, rfl, _, DGet.k (k := .inr P.vals[k]) (s' _ _ (s13 _ _ hd)), ?_⟩
      refine q _ _ (Same.refl _) ?_
      rw [ren_get, getD_at hk2]
      exact .str _
    have dV2 : DpAll K H4 ws ((P.vals.map (ren ns)).map PyData.str) := by
      have h := dps_range pw
      rw [range_map (l := P.vals) (List.length_map _) (h := fun x => PyData.str (ren ns x)) fun i hi => by rw [getD_at hi]] at h
      rw [List.map_map]
      exact h
    have s14 := s13.trans s4
    -- the frame
    refine ⟨_, rfl, D, ys, rfl, .inl ⟨.inl (.inl ((s3.trans s4) _ _ hys)), fun l1 hl1 => ?_⟩⟩
    have t1 := same_new (o := .tup ys) hl1
    have eA : Dp K (upd H4 l1 (.tup ys)) (.ref l1) (dA (renP ns P).arrays) := .tup (.inl (.inl upd_same)) (dps_mono ((s3.trans s4).trans t1) _ _ dA2)
    refine ⟨_, rfl, D2, zs, rfl, .inl ⟨.inl (.inl (t1 _ _ (s4 _ _ hzs))), fun l2 hl2 => ?_⟩⟩
    have t2 := same_new (o := .tup zs) hl2
    have eP : Dp K (upd (upd H4 l1 (.tup ys)) l2 (.tup zs)) (.ref l2) (dS (renP ns P).pos) := .tup (.inl (.inl upd_same)) (dps_mono ((s4.trans t1).trans t2) _ _ dP2)
    refine ⟨_, rfl, D3, ws, rfl, .inl ⟨.inl (.inl ((t1.trans t2) _ _ hws)), fun l3 hl3 => ?_⟩⟩
    have t3 := same_new (o := .tup ws) hl3
    have eV : Dp K (upd (upd (upd H4 l1 (.tup ys)) l2 (.tup zs)) l3 (.tup ws)) (.ref l3) (dS (renP ns P).vals) := .tup (.inl (.inl upd_same)) (dps_mono ((t1.trans t2).trans t3) _ _ dV2)
    have sT := ((s14.trans t1).trans t2).trans t3
    exact mk_i (renP ns P) (dp_mono (t2.trans t3) _ _ eA) (dp_mono t3 _ _ eP) eV nm (fun e2 => by rw [okB2] at e2; cases e2) fun _ H' p' s' _ fr' => q2 H' p' (sT.trans s') fr'
end
end Fc
namespace Fc
open PySem L2 PyProof.Rows
/-- a method that the machine itself calls: ==, len, str -/
structure OwnM (P : Program) (w : World) (K : PySem.W.Frag) (mg : Str → Option Value) (base : Heap) (k : Nat) (C : Addr) (name : Str) (sp : Sp) : Prop where
  at_ : ∃ (f : Addr) (fd : FuncData) (ps : List Str), FnOk P w K mg base CX0 k f fd ps sp ∧ PySem.W.findIn K (.ref C) name = some (some (.ref f)) ∧ PySem.W.isFn K (.ref f) = true ∧ Binds K fd ps []
section
variable {X : Cx} {pins : List (Addr × Obj)} {σ : L2.St} {H : Hp} {s : Shared} {k : Nat} {f C : Addr} {fd : FuncData} {ps : List Str} {sp : Sp}
theorem own_call {A : Around} {us : List Value} {vs : List V} {Q : VK} (F : FnOk X.prog X.w X.K X.mg X.base CX0 k f fd ps sp) (hb : Binds X.K fd ps []) (hr : Room k A) (hA : A.frames = X.A.frames) (I : Inv X pins σ H s) (r : Vals vs us) (h : sp vs H Q E0) :
    wpAny (model X.prog X.w) A (call (.ref f) us) (EP X pins σ Q) X.xe s := by
  have hl : us.length = ps.length := by rw [← r.length]; exact F.len _ _ _ _ h
  have b := hb s us I.kIn (by rw [List.append_nil]; exact hl)
  rw [List.append_nil] at b
  have e0 : Env0 X.prog X.w X.K X.mg X.base A X.stack s H := by
    have e := I.env0
    exact ⟨by rw [hA]; exact e.frames, e.mod, e.bs, e.bsz, e.funs, e.frf, e.hok, e.bare⟩
  refine wpAny_call (codeAny_mono (F.run A X.stack s H ⟨us, []⟩ us vs Q E0 hr e0 b r h) fun r s' hq => ?_)
  cases r with
  | error e => exact hq.elim
  | ok fl =>
    cases fl with
    | ret u => exact I.after hq
    | next => exact hq.elim
    | brk => exact hq.elim
    | cont => exact hq.elim
/-- x == y by the own == -/
def rEqO (C : Addr) (sp : Sp) : R2 := fun x y H Q => ∃ a b dx dy fs gs, x = .ref a ∧ y = .ref b ∧ H a = some (.ins C dx fs) ∧ H b = some (.ins C dy gs) ∧ sp [.ref a, .ref b] H (fun v H' => ∃ c, v = .bl c ∧ Q (.bl c) H') E0
theorem op_eqO (M : OwnM X.prog X.w X.K X.mg X.base k C "__eq__" sp) (hr : Room k X.A) : OpR X (compareOp .Eq) (rEqO C sp) := by
  intro pins s σ H x y v u Q I rx ry h
  obtain ⟨a, b, dx, dy, fs, gs, rfl, rfl, ha, hb, hsp⟩ := h
  obtain ⟨f, fd, ps, F, hs, hf, hbd⟩ := M.at_
  cases rx
  cases ry
  obtain ⟨mA, J, _⟩ := ins_get I.hok ha
  obtain ⟨mB, J', _⟩ := ins_get I.hok hb
  obtain ⟨od, J, _⟩ := J.look
  obtain ⟨od', J', _⟩ := J'.look
  obtain ⟨m, hF⟩ := I.fr
  refine PySem.W.cmp_K (op := .Eq) (tb := .ref C) hr.units0 hF I.ok.mod.kin J J'.type (by simp [PySem.W.notFirst]) hs hf ?_
  refine wpAny_mono (own_call (vs := [V.ref a, V.ref b]) F hbd hr rfl I (.cons rfl (.cons rfl .nil)) hsp) (fun r s' q => ?_) fun _ _ e => e
  obtain ⟨z, H', I', rz, c, ez, q⟩ := q
  subst ez
  cases rz
  exact ⟨.bl c, H', I', rfl, q⟩
/-- len(x) by the own __len__ -/
theorem call_lenO (M : OwnM X.prog X.w X.K X.mg X.base k C "__len__" sp) (hr : Room (k + 1) X.A) : CallR X (.builtin "len") (fun xs H Q => ∃ a dx fs, xs = [.ref a] ∧ H a = some (.ins C dx fs) ∧ sp [.ref a] H (fun v H' => ∃ n : Int, v = .int n ∧ (0 ≤ n ∧ n < 2 ^ 63) ∧ Q (.int n) H') E0) := by
  intro pins s σ H xs us Q I r h
  obtain ⟨a, dx, fs, rfl, ha, hsp⟩ := h
  obtain ⟨u, rfl, rx⟩ := vals1 r
  cases rx
  obtain ⟨f, fd, ps, F, hs, hf, hbd⟩ := M.at_
  obtain ⟨mA, J, _⟩ := ins_get I.hok ha
  obtain ⟨od, J, _⟩ := J.look
  obtain ⟨m, hF⟩ := I.fr
  refine PySem.W.len_K hF I.ok.mod.kin J hs hf ?_
  refine wpAny_mono (own_call (vs := [V.ref a]) F hbd hr.in1 rfl I (.cons rfl .nil) hsp) (fun r s' q => ?_) fun _ _ e => e
  obtain ⟨z, H', I', rz, n, ez, hn, q⟩ := q
  subst ez
  obtain ⟨t, rfl⟩ := (show ∃ t, r = Value.int n t from rz)
  exact ⟨hn, .int n, H', I'.tok _, ⟨_, rfl⟩, q⟩
/-- str(x) by the own __str__ -/
theorem call_strO (M : OwnM X.prog X.w X.K X.mg X.base k C "__str__" sp) (hr : Room (k + 2) X.A) : CallR X (.type "str") (fun xs H Q => ∃ a dx fs, xs = [.ref a] ∧ H a = some (.ins C dx fs) ∧ sp [.ref a] H (fun v H' => ∃ x : Str, v = .str x ∧ Q (.str x) H') E0) := by
  intro pins s σ H xs us Q I r h
  obtain ⟨a, dx, fs, rfl, ha, hsp⟩ := h
  obtain ⟨u, rfl, rx⟩ := vals1 r
  cases rx
  obtain ⟨f, fd, ps, F, hs, hf, hbd⟩ := M.at_
  obtain ⟨mA, J, _⟩ := ins_get I.hok ha
  obtain ⟨od, J, _⟩ := J.look
  refine PySem.W.kso_call hr.in1.in1.units0 I.kIn J hs hf ?_
  refine wpAny_mono (own_call (vs := [V.ref a]) F hbd hr.in1.in1 rfl I (.cons rfl .nil) hsp) (fun r s' q => ?_) fun _ _ e => e
  obtain ⟨z, H', I', rz, x, ez, q⟩ := q
  subst ez
  obtain ⟨t, rfl⟩ := (show ∃ t, r = Value.str x t from rz)
  exact ⟨.str x, H', I', ⟨t, rfl⟩, q⟩
end
end Fc
namespace Fc
open PySem PySem.Spec L2 PyProof.Rows
/-! x != y where the class has an own == alone -/
section
variable {prog : Program} {w : World} {A : Around} {E : Value → Shared → Prop} {s : Shared} {K : PySem.W.Frag} {x C f : Addr} {ox : Obj} {od : Option Obj}
theorem bound_slot {name : Str} {id : String} {args : List Value} {Q : Option Value → Shared → Prop} (X : K.In s.heap) (I : PySem.W.InstAt s.heap x ox C od) (hs : PySem.W.findIn K (.ref C) name = some (some (.builtin id)))
    (hb : ∀ self, bindSpecial (.builtin id) self = pure (.builtin id, [self])) (h : wpAny (model prog w) A (call (.builtin id) (.ref x :: args)) (fun v => Q (some v)) E s) : wpAny (model prog w) A (callSpecialIfBound? (.ref x) name args) Q E s := by
  simp only [callSpecialIfBound?, bindSpecialIfBound?]
  refine wpAny_holding (wpAny_bind (wpAny_bind (wpAny_bind (I.type.here ((PySem.W.looks_findIn X hs).here ?_)))))
  refine wpAny_bind (wpAny_askSetting (wpAny_ite ?_))
  have fin : wpAny (model prog w) A (call (.builtin id) ([.ref x] ++ args) >>= fun v => pure (some v)) Q E s := wpAny_bind (wpAny_mono h (fun v s' h' => wpAny_pure h') fun _ _ h' => h')
  split
  · exact wpAny_bind ((PySem.W.Looks.of_pure (hb _)).here (wpAny_pure (by exact fin)))
  · exact wpAny_tryCatch (wpAny_bind ((PySem.W.Looks.of_pure (hb _)).here (wpAny_pure (by exact fin))))
theorem obj_ne {y : Value} {Q : Value → Shared → Prop} (hu : A.in1.units < cLine) (X : K.In s.heap) (I : PySem.W.InstAt s.heap x ox C od) (hm : PySem.W.mroIn K C (.type "object") = some true) (hs : PySem.W.findIn K (.ref C) "__eq__" = some (some (.ref f))) (hf : PySem.W.isFn K (.ref f) = true)
    (h : wpAny (model prog w) A.in1 (call (.ref f) [.ref x, y]) (fun v s' => ∃ b, v = .bool b ∧ Q (.bool (!b)) s') E s) : wpAny (model prog w) A (call (.builtin "object.__ne__") [.ref x, y]) Q E s := by
  refine wpAny_call (codeAny_call_builtin PySem.F.slot_object_ne.plain PySem.F.cmpEntry_ne (PySem.W.check_slot (i := "object.__ne__") (owner := "object") (n := "__ne__") PySem.F.cmpKind_ne PySem.F.cmpSplit_ne (I.type.andThen (PySem.W.looks_mroIn X hm)) (PySem.F.cmpArgs_ne _ _) ?_))
  unfold Builtin.«object.__ne__»
  refine wpAny_bind (m := slotArgs "__ne__" 1 _) (wpAny_pure ?_)
  refine wpAny_bind (m := cRoomFor _ _) (wpAny_cRoomFor hu ?_)
  refine wpAny_bind (m := callSpecialIfBound? (.ref x) (Str.ofString "__eq__") _) (PySem.W.ifBound_K X I hs hf (wpAny_mono h (fun r s' hq => ?_) fun _ _ y => y))
  obtain ⟨b, rfl, hq⟩ := hq
  exact wpAny_bind (m := truthy (.bool b)) (wpAny_truthy_bool (wpAny_pure hq))
theorem ne_K {y : Addr} {Q : Value → Shared → Prop} (hu : A.in1.units < cLine) (hu0 : A.units < cLine) (X : K.In s.heap) (I : PySem.W.InstAt s.heap x ox C od) (hy : PySem.W.Looks (model prog w) s.heap (typeOf (.ref y)) (.ref C)) (hm : PySem.W.mroIn K C (.type "object") = some true)
    (hn : PySem.W.findIn K (.ref C) "__ne__" = some (some (.builtin "object.__ne__"))) (hs : PySem.W.findIn K (.ref C) "__eq__" = some (some (.ref f))) (hf : PySem.W.isFn K (.ref f) = true)
    (h : wpAny (model prog w) A.in1 (call (.ref f) [.ref x, .ref y]) (fun v s' => ∃ b, v = .bool b ∧ Q (.bool (!b)) s') E s) : wpAny (model prog w) A (compareOp .NotEq (.ref x) (.ref y)) Q E s := by
  have one : wpAny (model prog w) A (tryCompare (.ref x) "__ne__" (.ref y)) (fun r s' => ∃ v, r = some v ∧ Q v s') E s := by
    unfold tryCompare
    refine wpAny_bind (bound_slot X I hn PySem.F.slot_object_ne.bind (obj_ne hu X I hm hs hf (wpAny_mono h (fun v s' hv => ?_) fun _ _ e => e)))
    obtain ⟨b, rfl, hq⟩ := hv
    exact ⟨b, rfl, wpAny_pure ⟨_, rfl, hq⟩⟩
  unfold compareOp richCompare
  simp only [oneThing_ref]
  refine wpAny_holding (wpAny_bind (wpAny_cRoomFor hu0 ?_))
  refine wpAny_bind (I.type.here (wpAny_bind (hy.here ?_)))
  rw [show (Value.ref C != Value.ref C) = false from by simp]
  simp only [Bool.false_eq_true, if_false]
  refine wpAny_bind (wpAny_pure ?_)
  simp only [Bool.false_eq_true, if_false]
  refine wpAny_bind (wpAny_mono one (fun r s' z => ?_) fun _ _ e => e)
  obtain ⟨v, rfl, hq⟩ := z
  exact wpAny_pure hq
end
/-- what the text says of the class besides its == -/
structure NeTxt (K : PySem.W.Frag) (C : Addr) : Prop where
  m : PySem.W.mroIn K C (.type "object") = some true
  n : PySem.W.findIn K (.ref C) "__ne__" = some (some (.builtin "object.__ne__"))
def rNeO (C : Addr) (sp : Sp) : R2 := fun x y H Q => ∃ a b dx dy fs gs, x = .ref a ∧ y = .ref b ∧ H a = some (.ins C dx fs) ∧ H b = some (.ins C dy gs) ∧ sp [.ref a, .ref b] H (fun v H' => ∃ c, v = .bl c ∧ Q (.bl (!c)) H') E0
theorem op_neO {X : Cx} {k : Nat} {C : Addr} {sp : Sp} (M : OwnM X.prog X.w X.K X.mg X.base k C "__eq__" sp) (N : NeTxt X.K C) (hr : Room (k + 1) X.A) : OpR X (compareOp .NotEq) (rNeO C sp) := by
  intro pins s σ H x y v u Q I rx ry h
  obtain ⟨a, b, dx, dy, fs, gs, rfl, rfl, ha, hb, hsp⟩ := h
  obtain ⟨f, fd, ps, F, hs, hf, hbd⟩ := M.at_
  cases rx
  cases ry
  obtain ⟨mA, J, _⟩ := ins_get I.hok ha
  obtain ⟨mB, J', _⟩ := ins_get I.hok hb
  obtain ⟨od, J, _⟩ := J.look
  obtain ⟨od', J', _⟩ := J'.look
  refine ne_K hr.in1.units0 hr.units0 I.kIn J J'.type N.m N.n hs hf ?_
  refine wpAny_mono (own_call (vs := [V.ref a, V.ref b]) F hbd hr.in1 rfl I (.cons rfl (.cons rfl .nil)) hsp) (fun r s' q => ?_) fun _ _ e => e
  obtain ⟨z, H', I', rz, c, ez, q⟩ := q
  subst ez
  cases rz
  exact ⟨c, rfl, .bl (!c), H', I', rfl, q⟩
end Fc
namespace Fc
open PySem L2 PyProof.Rows
theorem eqvAll_strs : ∀ a b : List Str, PyData.eqvAll (a.map PyData.str) (b.map PyData.str) = decide (a = b)
  | [], [] => rfl
  | [], _ :: _ => rfl
  | _ :: _, [] => rfl
  | x :: a, y :: b => by
    show (PyData.eqv (.str x) (.str y) && PyData.eqvAll (a.map PyData.str) (b.map PyData.str)) = _
    rw [eqvAll_strs a b]
    rw [Bool.eq_iff_iff]
    simp [PyData.eqv]
theorem eqv_dS (a b : List Str) : PyData.eqv (dS a) (dS b) = decide (a = b) := by
  show PyData.eqvAll (a.map PyData.str) (b.map PyData.str) = _
  exact eqvAll_strs a b
theorem eqvAll_pairs : ∀ a b : List (Str × Str), PyData.eqvAll (a.map fun e => PyData.tuple [.str e.1, .str e.2]) (b.map fun e => PyData.tuple [.str e.1, .str e.2]) = decide (a = b)
  | [], [] => rfl
  | [], _ :: _ => rfl
  | _ :: _, [] => rfl
  | (x1, x2) :: a, (y1, y2) :: b => by
    show (PyData.eqv (.tuple [.str x1, .str x2]) (.tuple [.str y1, .str y2]) && PyData.eqvAll (a.map fun e => PyData.tuple [.str e.1, .str e.2]) (b.map fun e => PyData.tuple [.str e.1, .str e.2])) = _
    rw [eqvAll_pairs a b]
    rw [Bool.eq_iff_iff]
    simp [PyData.eqv, PyData.eqvAll]
theorem eqv_dA (a b : List (Str × Str)) : PyData.eqv (dA a) (dA b) = decide (a = b) := by
  show PyData.eqvAll (a.map fun e => PyData.tuple [.str e.1, .str e.2]) (b.map fun e => PyData.tuple [.str e.1, .str e.2]) = _
  exact eqvAll_pairs a b
/-- data without tables, at most 64 deep: any texts within -/
def plD (d : PyData) : Prop := d.plain = true ∧ d.depth ≤ 64
def rEqP (K : PySem.W.Frag) : R2 := fun x y H Q => ∃ d e, Dp K H x d ∧ Dp K H y e ∧ plD d ∧ plD e ∧ Q (.bl (PyData.eqv d e)) H
def rNeP (K : PySem.W.Frag) : R2 := fun x y H Q => ∃ d e, Dp K H x d ∧ Dp K H y e ∧ plD d ∧ plD e ∧ Q (.bl (!PyData.eqv d e)) H
section
variable {X : Cx}
theorem op_eqP (hu : X.A.units + 64 < cLine) : OpR X (compareOp .Eq) (rEqP X.K) := by
  intro pins s σ H x y v u Q I rx ry h
  obtain ⟨d, e, hd, he, sd, se, q⟩ := h
  obtain ⟨as, r1⟩ := Dp.reads I d x v hd rx
  obtain ⟨bs, r2⟩ := Dp.reads I e y u he ry
  exact SeqAt.eq_plain r1 r2 sd.1 se.1 (by have := sd.2; omega) ⟨.bl _, H, I, rfl, q⟩
theorem op_neP (hu : X.A.units + 64 < cLine) : OpR X (compareOp .NotEq) (rNeP X.K) := by
  intro pins s σ H x y v u Q I rx ry h
  obtain ⟨d, e, hd, he, sd, se, q⟩ := h
  obtain ⟨as, r1⟩ := Dp.reads I d x v hd rx
  obtain ⟨bs, r2⟩ := Dp.reads I e y u he ry
  exact SeqAt.ne_plain r1 r2 sd.1 se.1 (by have := sd.2; omega) ⟨.bl _, H, I, rfl, q⟩
end
theorem plainAll_iff : ∀ xs : List PyData, (∀ d ∈ xs, d.plain = true) → PyData.plainAll xs = true
  | [], _ => rfl
  | x :: xs, h => by
    simp only [PyData.plainAll, h x (List.mem_cons_self ..), plainAll_iff xs fun d hd => h d (List.mem_cons_of_mem _ hd), Bool.and_self]
theorem pl_dS (a : List Str) : plD (dS a) := by
  refine ⟨?_, ?_⟩
  · show PyData.plainAll (a.map PyData.str) = true
    exact plainAll_iff _ fun d hd => by obtain ⟨x, _, rfl⟩ := List.mem_map.mp hd; rfl
  · have e2 : PyData.depthAll (a.map PyData.str) ≤ 0 := (depAll_iff 0 _).mpr fun d hd => by obtain ⟨x, _, rfl⟩ := List.mem_map.mp hd; exact Nat.le_refl _
    show PyData.depthAll (a.map PyData.str) + 1 ≤ 64
    omega
theorem pl_dA (a : List (Str × Str)) : plD (dA a) := by
  refine ⟨?_, ?_⟩
  · show PyData.plainAll (a.map fun e => PyData.tuple [.str e.1, .str e.2]) = true
    exact plainAll_iff _ fun d hd => by obtain ⟨x, _, rfl⟩ := List.mem_map.mp hd; rfl
  · have e2 : PyData.depthAll (a.map fun e => PyData.tuple [.str e.1, .str e.2]) ≤ 1 := (depAll_iff 1 _).mpr fun d hd => by obtain ⟨x, _, rfl⟩ := List.mem_map.mp hd; exact Nat.le_refl _
    show PyData.depthAll (a.map fun e => PyData.tuple [.str e.1, .str e.2]) + 1 ≤ 64
    omega
/-- what isinstance(x, Frame) looks at -/
structure IsiTxt (K : PySem.W.Frag) (C : Addr) : Prop where
  ha : PySem.W.findIn K (.ref C) "__class__" = some (some (.builtin "object.__class__"))
  hn : PySem.W.specialIn K (.builtin "object.__class__") "__get__" = some (some (.builtin "getset_descriptor.__get__"))
  ht : PySem.W.takesIn K (.builtin "object.__class__") = some true
  hm : PySem.W.mroIn K C (.type "object") = some true
def spLenF (K : PySem.W.Frag) (C : Addr) : Sp := fun vs H Q _ => ∃ p P, vs = [.ref p] ∧ FrAt K C H p P ∧ Q (.int ((namesL P).length : Int)) H
def spEqF (K : PySem.W.Frag) (C : Addr) : Sp := fun vs H Q _ => ∃ p r P R, vs = [.ref p, .ref r] ∧ FrAt K C H p P ∧ FrAt K C H r R ∧ Q (.bl (decide (P = R))) H
section
variable {K : PySem.W.Frag} {mg : Str → Option Value} {base : Heap} {P : Program} {w : World}
theorem scM14 : FnScope ["self"] ["self"] (defScope (mF 14)) := ⟨rfl, rfl, rfl, by decide +kernel, rfl, by decide +kernel, by decide +kernel⟩
theorem okM14 {f C : Addr} {fd : FuncData} (F : Fun K "__len__" "Frame.__len__" (mF 14) f fd) (B : Blt mg) (T : FrTxt K mg C) : FnOk P w K mg base CX0 1 f fd ["self"] (spLenF K C) := by
  refine F.ok scM14 (fun vs H Q E h => ?_) (fun cdv A outer s H vs Q E hr h => ?_)
  · obtain ⟨p, P, rfl, _⟩ := h
    rfl
  · refine ⟨_, pss_one (ps_ret (pe_callB call_lenD (by rfl) B.len boot_len (pa_cons (pe_fld (pv 0) rfl) pa_nil))), ?_⟩
    obtain ⟨p, P, rfl, ⟨ok, dx, fs, uA, uP, uV, aK, h1, h2, h3, h4, h5, h6, h7, h8, h9, h10⟩, q⟩ := h
    refine ⟨_, rfl, p, C, dx, fs, _, rfl, h1, T.cl, T.nK, h5, aK, _, rfl, h10, ?_⟩
    have e : (kvK (kindsL P)).length = (namesL P).length := by unfold kvK; rw [← kinds_keys, List.length_map, List.length_map]
    rw [e]
    exact q
theorem scM15 : FnScope ["self", "other"] ["self", "other"] (defScope (mF 15)) := ⟨rfl, rfl, rfl, by decide +kernel, rfl, by decide +kernel, by decide +kernel⟩
theorem okM15 {f C : Addr} {fd : FuncData} (F : Fun K "__eq__" "Frame.__eq__" (mF 15) f fd) (B : Blt mg) (T : FrTxt K mg C) (Z : IsiTxt K C) : FnOk P w K mg base CX0 1 f fd ["self", "other"] (spEqF K C) := by
  refine F.ok scM15 (fun vs H Q E h => ?_) (fun cdv A outer s H vs Q E hr h => ?_)
  · obtain ⟨p, r, P, R, rfl, _⟩ := h
    rfl
  · have hu := hu70 hr
    refine ⟨_, pss_cons (ps_if (pt_not (pt_val (pe_callB call_isi (by rfl) B.isinstance boot_isinstance (pa_cons (pv 1) (pa_cons (pe_glob (v := .ref C) (by rfl) T.g rfl) pa_nil))))) (pss_one (ps_ret pe_bl)) pss_nil)
      (pss_cons (ps_if (pw_or (pt_cmpR (op_neP (hu64 hu)) (pe_fld (pv 0) rfl) (pe_fld (pv 1) rfl) (nomark _)) (pw_or1 (pt_cmpR (op_neP (hu64 hu)) (pe_fld (pv 0) rfl) (pe_fld (pv 1) rfl) (nomark _)))).pt (pss_one (ps_ret pe_bl)) pss_nil)
      (pss_one (ps_ret (pe_cmpR (op_eqP (hu64 hu)) (pe_fld (pv 0) rfl) (pe_fld (pv 1) rfl) (nomark _))))), ?_⟩
    obtain ⟨p, r, P, R, rfl, ⟨ok, dx, fs, uA, uP, uV, aK, h1, h2, h3, h4, h5, h6, h7, h8, h9, h10⟩, ⟨ok', dx', fs', uA', uP', uV', aK', g1, g2, g3, g4, g5, g6, g7, g8, g9, g10⟩, q⟩ := h
    have ek : PySem.W.kitOne K (.ref C) (.ref C) = some true := by unfold PySem.W.kitOne; rw [if_pos (by simp)]
    refine ⟨_, rfl, .ref r, .ref C, _, _, true, rfl, .own C, .base (.ins g1 T.cl Z.ha Z.hn Z.ht Z.hm), ek, _, rfl, iteF ?_⟩
    refine ⟨_, rfl, p, C, dx, fs, _, rfl, h1, T.cl, T.nA, h2, _, rfl, r, C, dx', fs', _, rfl, g1, T.cl, T.nA, g2, _, _, h7, g7, pl_dA _, pl_dA _, _, rfl, ?_⟩
    rw [eqv_dA]
    by_cases c1 : P.arrays = R.arrays
    case neg =>
      rw [decide_eq_false c1]
      rw [decide_eq_false fun e => c1 (by rw [e])] at q
      exact iteT q
    rw [decide_eq_true c1]
    refine iteF ⟨_, rfl, p, C, dx, fs, _, rfl, h1, T.cl, T.nP, h3, _, rfl, r, C, dx', fs', _, rfl, g1, T.cl, T.nP, g3, _, _, h8, g8, pl_dS _, pl_dS _, _, rfl, ?_⟩
    rw [eqv_dS]
    by_cases c2 : P.pos = R.pos
    case neg =>
      rw [decide_eq_false c2]
      rw [decide_eq_false fun e => c2 (by rw [e])] at q
      exact iteT q
    rw [decide_eq_true c2]
    refine iteF ⟨_, rfl, p, C, dx, fs, _, rfl, h1, T.cl, T.nV, h4, _, rfl, r, C, dx', fs', _, rfl, g1, T.cl, T.nV, g4, _, _, h9, g9, pl_dS _, pl_dS _, ?_⟩
    rw [eqv_dS]
    have e : decide (P = R) = decide (P.vals = R.vals) := decide_eq_decide.mpr ⟨fun e => by rw [e], fun e => by cases P; cases R; cases c1; cases c2; cases e; rfl⟩
    rw [e] at q
    exact q
end
end Fc
namespace Fc
open PySem L2 PyProof.Rows
/-- the words shown -/
def showW (ys : List Str) : Str := if 0 < ys.length then Txt.join (Str.ofString " ") ys else Str.ofString "-"
def pairT (e : Str × Str) : Str := ((Str.empty ++ e.1) ++ Str.ofString ":") ++ e.2
def showP (as : List (Str × Str)) : Str := showW (as.map pairT)
/-- a frame shown -/
def showF (P : Pa) : Str := ((((Str.empty ++ showP P.arrays) ++ Str.ofString " | ") ++ showW P.pos) ++ Str.ofString " | ") ++ showW P.vals
theorem sum_le {c : Nat} : ∀ {ys : List Str}, (∀ y ∈ ys, y.length ≤ c) → (ys.map (·.length)).sum ≤ ys.length * c
  | [], _ => Nat.zero_le _
  | y :: ys, h => by
    have i := sum_le fun z hz => h z (List.mem_cons_of_mem _ hz)
    have j := h y (List.mem_cons_self ..)
    simp only [List.map_cons, List.sum_cons, List.length_cons, Nat.add_mul, Nat.one_mul]
    omega
theorem showW_len {ys : List Str} (hl : ys.length ≤ 60) (hc : ∀ y ∈ ys, y.length ≤ 3000) : (showW ys).length ≤ 200000 := by
  unfold showW
  split
  · have a := StrLaws.join_length_le (Str.ofString " ") ys
    have b := sum_le hc
    have c : (Str.ofString " ").length = 1 := rfl
    have e : Txt.join (Str.ofString " ") ys = Str.join (Str.ofString " ") ys := by unfold Txt.join; exact StrLaws.glued_eq_join _ _
    rw [e]
    rw [c] at a
    have := Nat.mul_le_mul_right 3000 hl
    omega
  · exact (by decide : (1 : Nat) ≤ 200000)
theorem pairT_len (e : Str × Str) : (pairT e).length = e.1.length + 1 + e.2.length := by
  unfold pairT
  rw [Str.length_append, Str.length_append, Str.length_append]
  show (0 + e.1.length) + 1 + e.2.length = _
  omega
def spWords (K : PySem.W.Frag) : Sp := fun vs H Q _ => ∃ p ys, vs = [.ref p] ∧ (SqL K H p (ys.map V.str) ∨ SqT K H p (ys.map V.str)) ∧ ys.length ≤ 60 ∧ (∀ y ∈ ys, y.length ≤ 3000) ∧ Q (.str (showW ys)) H
def spShowP (K : PySem.W.Frag) : Sp := fun vs H Q _ => ∃ t as, vs = [.ref t] ∧ Dp K H (.ref t) (dA as) ∧ as.length ≤ 60 ∧ (∀ e ∈ as, e.1.length ≤ 1000 ∧ e.2.length ≤ 1000) ∧ ∀ H', Same H H' → Q (.str (showP as)) H'
def spStrF (K : PySem.W.Frag) (C : Addr) : Sp := fun vs H Q _ => ∃ p P, vs = [.ref p] ∧ FrAt K C H p P ∧ ∀ H', Same H H' → Q (.str (showF P)) H'
section
variable {K : PySem.W.Frag} {mg : Str → Option Value} {base : Heap} {P : Program} {w : World}
theorem sc24 : FnScope ["words"] ["words"] (defScope (topS 24)) := ⟨rfl, rfl, rfl, by decide +kernel, rfl, by decide +kernel, by decide +kernel⟩
theorem ok24 {f : Addr} {fd : FuncData} (F : Fun K "shown_words" "shown_words" (topS 24) f fd) (B : Blt mg) : FnOk P w K mg base CX0 1 f fd ["words"] (spWords K) := by
  refine F.ok sc24 (fun vs H Q E h => ?_) (fun cdv A outer s H vs Q E hr h => ?_)
  · obtain ⟨p, ys, rfl, _⟩ := h
    rfl
  · refine ⟨_, pss_one (ps_ret (pe_ifExp (pt_cmpR op_gt (pe_callB call_len_seq (by rfl) B.len boot_len (pa_cons (pv 0) pa_nil)) pe_int (nomark _)) (pe_join pe_str (pv 0)) pe_str)), ?_⟩
    obtain ⟨p, ys, rfl, hs, hl, hc, q⟩ := h
    refine ⟨_, rfl, p, _, rfl, hs, _, _, rfl, rfl, _, rfl, ?_⟩
    unfold showW at q
    rw [List.length_map]
    by_cases c : 0 < ys.length
    · rw [if_pos c] at q
      have b := sum_le hc
      have := Nat.mul_le_mul_right 3000 hl
      have d : decide ((0 : Int) < (ys.length : Int)) = true := decide_eq_true (by omega)
      rw [d]
      refine iteT ⟨⟨_, rfl⟩, _, rfl, _, p, ys, rfl, rfl, hs, ?_, q⟩
      show (ys.map (·.length)).sum + ys.length * 1 ≤ 16777216
      omega
    · rw [if_neg c] at q
      have d : decide ((0 : Int) < (ys.length : Int)) = false := decide_eq_false (by omega)
      rw [d]
      exact iteF q
abbrev n23 : List Str := ["arrays", "array", "length"]
theorem sc23 : FnScope n23 ["arrays"] (defScope (topS 23)) := ⟨rfl, rfl, rfl, by decide +kernel, rfl, by decide +kernel, by decide +kernel⟩
theorem ok23 {f : Addr} {fd : FuncData} (F : Fun K "shown_pairs" "shown_pairs" (topS 23) f fd) (c24 : Cal P w K mg base 1 "shown_words" (spWords K)) : FnOk P w K mg base CX0 2 f fd ["arrays"] (spShowP K) := by
  refine F.ok sc23 (fun vs H Q E h => ?_) (fun cdv A outer s H vs Q E hr h => ?_)
  · obtain ⟨t, as, rfl, _⟩ := h
    rfl
  · refine ⟨_, pss_one (ps_ret (pe_c c24 hr (by decide) (by rfl) (pa_cons (pe_lc (own := [("array", 1), ("length", 2)]) (g := gTup K 2 (gCons (gName 1) (gCons (gName 2) gNil))) (by rfl) sc23.nd (pi_tup (pv 0)) (blkOk_by (N := n23) (sc := defScope (topS 23)) (by decide +kernel))
      (fun _ _ _ _ _ => pg_tup rfl (pgs_cons (pg_name (i := 1) sc23.nd rfl (Or.inl rfl)) (pgs_cons (pg_name (i := 2) sc23.nd rfl (Or.inl rfl)) pgs_nil))) (fun _ _ _ _ _ => pts_nil) (fun _ _ _ _ _ => pe_joined (.cons (pe_fmt (pv 1)) (.cons pe_str (.cons (pe_fmt (pv 2)) .nil))))) pa_nil))), ?_⟩
    obtain ⟨t, as, rfl, hd, hl, hc, q⟩ := h
    unfold dA at hd
    cases hd with
    | @tup _ xs _ sa da =>
    have lx : xs.length = as.length := (dp_len da).trans (List.length_map _)
    refine ⟨_, rfl, t, rfl, ⟨xs, sa⟩, fun D hD => ?_⟩
    refine lc_map (K := K) (te := fun σ H Q => tJs [tFmt (tVar 1), tC (.str (Str.ofString ":")), tFmt (tVar 2)] Str.empty σ H fun out H1 => Q (.str out) H1) (fun _ k y => y = .str (pairT (as.getD k e0))) (steady_tup (K := K) (a := t) (xs := xs)) (fun _ _ _ _ _ h => h) (fun H' s' => Tups.same s' _ _ sa) (by omega) hD (fun k H' Q' hk s' q' => ?_) fun H2 ys s2 hys py => ?_
    · have hk2 : k < as.length := by omega
      obtain ⟨u, eu, su⟩ := dA_at da hk2
      obtain ⟨l1, l2⟩ := hc as[k] (List.getElem_mem hk2)
      have z0 : ((Str.empty ++ as[k].1) : Str).length ≤ 1000 := by rw [Str.length_append]; show 0 + as[k].1.length ≤ 1000; omega
      have z1 : (((Str.empty ++ as[k].1) : Str) ++ Str.ofString ":").length ≤ 1001 := by rw [Str.length_append]; show _ + 1 ≤ 1001; omega
      have z2 : ((((Str.empty ++ as[k].1) : Str) ++ Str.ofString ":") ++ as[k].2).length ≤ 2001 := by rw [Str.length_append]; omega
      refine ⟨u, _, eu, Tups.same s' _ _ su, rfl, _, _, rfl, _, _, rfl, rfl, rfl, ?_⟩
      refine ⟨_, rfl, .inl ⟨_, rfl, by rw [sizeLine_eq]; omega, _, rfl, by rw [sizeLine_eq]; omega, _, rfl, by rw [sizeLine_eq]; omega, ?_⟩⟩
      refine ⟨_, rfl, .inl ⟨_, rfl, by rw [sizeLine_eq]; omega, _, rfl, by rw [sizeLine_eq]; omega, ?_⟩⟩
      refine q' _ _ (Same.refl _) ?_
      rw [getD_at hk2]
      rfl
    · have ey : ys = (as.map pairT).map V.str := by
        refine List.ext_getElem? fun i => ?_
        have lp := paired_len py
        rw [List.length_range] at lp
        by_cases c : i < as.length
        · have ci : i < ys.length := by omega
          have := paired_at py (i := i) (a := i) (b := ys[i]) (by rw [List.getElem?_range (by omega)]) (List.getElem?_eq_getElem ci)
          rw [List.getElem?_eq_getElem ci, this, getD_at c, List.getElem?_map, List.getElem?_map, List.getElem?_eq_getElem c]
          rfl
        · rw [List.getElem?_eq_none (by omega), List.getElem?_eq_none (by rw [List.length_map, List.length_map]; omega)]
      subst ey
      refine ⟨D, as.map pairT, rfl, .inl (.inl (.inl hys)), by rw [List.length_map]; exact hl, fun y hy => ?_, q _ s2⟩
      obtain ⟨e, he, rfl⟩ := List.mem_map.mp hy
      have := hc e he
      rw [pairT_len]
      omega
theorem scM16 : FnScope ["self"] ["self"] (defScope (mF 16)) := ⟨rfl, rfl, rfl, by decide +kernel, rfl, by decide +kernel, by decide +kernel⟩
theorem okM16 {f C : Addr} {fd : FuncData} (F : Fun K "__str__" "Frame.__str__" (mF 16) f fd) (T : FrTxt K mg C) (c23 : Cal P w K mg base 2 "shown_pairs" (spShowP K)) (c24 : Cal P w K mg base 1 "shown_words" (spWords K)) : FnOk P w K mg base CX0 3 f fd ["self"] (spStrF K C) := by
  refine F.ok scM16 (fun vs H Q E h => ?_) (fun cdv A outer s H vs Q E hr h => ?_)
  · obtain ⟨p, P, rfl, _⟩ := h
    rfl
  · refine ⟨_, pss_one (ps_ret (pe_joined (.cons (pe_fmt (pe_c c23 hr (by decide) (by rfl) (pa_cons (pe_fld (pv 0) rfl) pa_nil))) (.cons pe_str (.cons (pe_fmt (pe_c c24 hr (by decide) (by rfl) (pa_cons (pe_fld (pv 0) rfl) pa_nil))) (.cons pe_str (.cons (pe_fmt (pe_c c24 hr (by decide) (by rfl) (pa_cons (pe_fld (pv 0) rfl) pa_nil))) .nil))))))), ?_⟩
    obtain ⟨p, P, rfl, ⟨ok, dx, fs, uA, uP, uV, aK, h1, h2, h3, h4, h5, h6, h7, h8, h9, h10⟩, q⟩ := h
    have na : P.arrays.length ≤ 60 := Nat.le_trans ok.na (by decide)
    have np : P.pos.length ≤ 60 := Nat.le_trans ok.np (by decide)
    have nv : P.vals.length ≤ 60 := Nat.le_trans ok.nv (by decide)
    have nn : ∀ x ∈ wordsL P, x.length ≤ 8 := fun x hx => by
      have h := ok.nm x (words_mem.mp hx)
      unfold isNameS at h
      simp only [Bool.and_eq_true, decide_eq_true_iff] at h
      omega
    have nA : ∀ e ∈ P.arrays, e.1.length ≤ 1000 ∧ e.2.length ≤ 1000 := fun e he => by
      have a := nn e.1 (List.mem_append_left _ (List.mem_flatMap.mpr ⟨e, he, List.mem_cons_self ..⟩))
      have b := nn e.2 (List.mem_append_left _ (List.mem_flatMap.mpr ⟨e, he, List.mem_cons_of_mem _ (List.mem_cons_self ..)⟩))
      omega
    have nP : ∀ y ∈ P.pos, y.length ≤ 3000 := fun y hy => by
      have a := nn y (List.mem_append_right _ (List.mem_append_left _ hy))
      omega
    have nV : ∀ y ∈ P.vals, y.length ≤ 3000 := fun y hy => by
      have a := nn y (List.mem_append_right _ (List.mem_append_right _ hy))
      omega
    have lA : (showP P.arrays).length ≤ 200000 := showW_len (by rw [List.length_map]; exact na) fun y hy => by
      obtain ⟨e, he, rfl⟩ := List.mem_map.mp hy
      have := nA e he
      rw [pairT_len]
      omega
    have lP : (showW P.pos).length ≤ 200000 := showW_len np nP
    have lV : (showW P.vals).length ≤ 200000 := showW_len nv nV
    have z0 : ((Str.empty ++ showP P.arrays) : Str).length ≤ 200000 := by rw [Str.length_append]; show 0 + _ ≤ _; omega
    have z1 : (((Str.empty ++ showP P.arrays) : Str) ++ Str.ofString " | ").length ≤ 200003 := by rw [Str.length_append]; show _ + 3 ≤ _; omega
    have z2 : ((((Str.empty ++ showP P.arrays) : Str) ++ Str.ofString " | ") ++ showW P.pos).length ≤ 400003 := by rw [Str.length_append]; omega
    have z3 : (((((Str.empty ++ showP P.arrays) : Str) ++ Str.ofString " | ") ++ showW P.pos) ++ Str.ofString " | ").length ≤ 400006 := by rw [Str.length_append]; show _ + 3 ≤ _; omega
    have z4 : ((((((Str.empty ++ showP P.arrays) : Str) ++ Str.ofString " | ") ++ showW P.pos) ++ Str.ofString " | ") ++ showW P.vals).length ≤ 600006 := by rw [Str.length_append]; omega
    refine ⟨_, rfl, p, C, dx, fs, _, rfl, h1, T.cl, T.nA, h2, uA, P.arrays, rfl, h7, na, nA, fun H1 s1 => .inl ⟨_, rfl, by rw [sizeLine_eq]; omega, _, rfl, by rw [sizeLine_eq]; omega, _, rfl, by rw [sizeLine_eq]; omega, ?_⟩⟩
    refine ⟨_, rfl, p, C, dx, fs, _, rfl, s1 _ _ h1, T.cl, T.nP, h3, uP, P.pos, rfl, .inr (Tups.same s1 _ _ (tup_dS h8)), np, nP, .inl ⟨_, rfl, by rw [sizeLine_eq]; omega, _, rfl, by rw [sizeLine_eq]; omega, _, rfl, by rw [sizeLine_eq]; omega, ?_⟩⟩
    refine ⟨_, rfl, p, C, dx, fs, _, rfl, s1 _ _ h1, T.cl, T.nV, h4, uV, P.vals, rfl, .inr (Tups.same s1 _ _ (tup_dS h9)), nv, nV, .inl ⟨_, rfl, by rw [sizeLine_eq]; omega, _, rfl, by rw [sizeLine_eq]; omega, q _ s1⟩⟩
end
end Fc
namespace Fc
open PySem L2 PyProof.Rows
/-! the law's own looks -/
/-- x in l, x not in l, for lists of data with any texts -/
def rInP (K : PySem.W.Frag) (n : Bool → Bool) : R2 := fun x y H Q => ∃ d ds, Dp K H x d ∧ Dp K H y (.list ds) ∧ plD d ∧ PyData.plainAll ds = true ∧ Q (.bl (n (ds.any fun z => PyData.eqv z d))) H
section
variable {X : Cx}
theorem op_inP (hu : X.A.units + 65 < cLine) : OpR X (compareOp .In) (rInP X.K id) := by
  intro pins s σ H x y v u Q I rx ry h
  obtain ⟨d, ds, hd, he, sd, se, q⟩ := h
  obtain ⟨as, r1⟩ := Dp.reads I d x v hd rx
  obtain ⟨bs, r2⟩ := Dp.reads I (.list ds) y u he ry
  exact SeqAt.in_list_data r2 r1 se sd.1 (by have := sd.2; omega) ⟨.bl _, H, I, rfl, q⟩
theorem op_notInP (hu : X.A.units + 65 < cLine) : OpR X (compareOp .NotIn) (rInP X.K not) := by
  intro pins s σ H x y v u Q I rx ry h
  obtain ⟨d, ds, hd, he, sd, se, q⟩ := h
  obtain ⟨as, r1⟩ := Dp.reads I d x v hd rx
  obtain ⟨bs, r2⟩ := Dp.reads I (.list ds) y u he ry
  exact SeqAt.notIn_list_data r2 r1 se sd.1 (by have := sd.2; omega) ⟨.bl _, H, I, rfl, q⟩
end
theorem any_strs (l : List Str) (x : Str) : ((l.map PyData.str).any fun z => PyData.eqv z (.str x)) = decide (x ∈ l) := by
  rw [Bool.eq_iff_iff]
  simp only [List.any_map, List.any_eq_true, Function.comp, decide_eq_true_iff]
  constructor
  · rintro ⟨y, hy, e⟩
    simp [PyData.eqv] at e
    rw [← e]
    exact hy
  · exact fun h => ⟨x, h, by simp [PyData.eqv]⟩
theorem plain_strs (l : List Str) : PyData.plainAll (l.map PyData.str) = true := plainAll_iff _ fun d hd => by obtain ⟨x, _, rfl⟩ := List.mem_map.mp hd; rfl
theorem dps_strs {K : PySem.W.Frag} {H : Hp} : ∀ l : List Str, DpAll K H (l.map V.str) (l.map PyData.str)
  | [] => .nil
  | x :: l => .cons (.str x) (dps_strs l)
theorem Same.none_of {H H' : Hp} {a : Addr} (s : Same H H') (h : H' a = none) : H a = none := by
  cases e : H a with
  | none => rfl
  | some o => rw [s _ _ e] at h; cases h
/-- the row of a frame: its three tuples in a list -/
structure RowAt (K : PySem.W.Frag) (H : Hp) (r : Addr) (P : Pa) : Prop where
  ex : ∃ tA tP tV : Addr, H r = some (.lst [.ref tA, .ref tP, .ref tV]) ∧ Dp K H (.ref tA) (dA P.arrays) ∧ Dp K H (.ref tP) (dS P.pos) ∧ Dp K H (.ref tV) (dS P.vals)
  nm : PaNm P
theorem RowAt.mono {K : PySem.W.Frag} {H H' : Hp} {r : Addr} {P : Pa} (s : Same H H') (h : RowAt K H r P) : RowAt K H' r P := by
  obtain ⟨tA, tP, tV, h1, h2, h3, h4⟩ := h.ex
  exact ⟨⟨tA, tP, tV, s _ _ h1, dp_mono s _ _ h2, dp_mono s _ _ h3, dp_mono s _ _ h4⟩, h.nm⟩
def spLawLens (K : PySem.W.Frag) : Sp := fun vs H Q _ => ∃ r P, vs = [.ref r] ∧ RowAt K H r P ∧ ∀ H' p, Same H H' → H' p = some (.lst ((lensOf P.arrays).map V.str)) → H p = none → Q (.ref p) H'
def spLawFr (K : PySem.W.Frag) (C Cf : Addr) : Sp := fun vs H Q E => ∃ r P, vs = [.ref r] ∧ RowAt K H r P ∧ (okB P = false → ∀ H', Same H H' → E (.ref Cf) none H') ∧ (okB P = true → ∀ H' p, Same H H' → FrAt K C H' p P → Q (.ref p) H')
section
variable {K : PySem.W.Frag} {mg : Str → Option Value} {base : Heap} {P : Program} {w : World}
theorem sc41 : FnScope ["_law_value"] ["_law_value"] (defScope (topS 41)) := ⟨rfl, rfl, rfl, by decide +kernel, rfl, by decide +kernel, by decide +kernel⟩
theorem ok41 {f : Addr} {fd : FuncData} (F : Fun K "_law_is_number" "_law_is_number" (topS 41) f fd) (B : Blt mg) : FnOk P w K mg base CX0 1 f fd ["_law_value"] (spPassed K w) := by
  refine F.ok sc41 (fun vs H Q E h => ?_) (fun cdv A outer s H vs Q E hr h => ?_)
  · obtain ⟨v, d, rfl, _⟩ := h
    rfl
  · refine ⟨_, pss_one (ps_ret (pe_and (pe_callB call_isiD (by rfl) B.isinstance boot_isinstance (pa_cons (pv 0) (pa_cons (pe_bltn (v := .ty "int") (by rfl) B.int boot_int rfl) pa_nil)))
      (pe_and (pe_not (pe_callB call_isiD (by rfl) B.isinstance boot_isinstance (pa_cons (pv 0) (pa_cons (pe_bltn (v := .ty "bool") (by rfl) B.bool boot_bool rfl) pa_nil))))
      (pe_one (pe_cmpR op_lt (pe_callB call_abs (by rfl) B.abs boot_abs (pa_cons (pv 0) pa_nil)) (pe_op op_pow pe_int pe_int) (nomark _)))))), ?_⟩
    obtain ⟨v, d, rfl, hd, q⟩ := h
    refine ⟨_, rfl, v, d, _, rfl, .inl hd, .inl rfl, _, rfl, ?_⟩
    cases id hd with
    | int i => exact iteT ⟨_, rfl, _, _, _, rfl, .inl hd, .inr (.inl rfl), _, rfl, _, rfl, iteT ⟨_, rfl, i, rfl, 10, 60, rfl, rfl, ⟨by decide, by decide, by decide⟩, _, _, rfl, rfl, q⟩⟩
    | non => exact iteF q
    | bl b => exact iteT ⟨_, rfl, _, _, _, rfl, .inl hd, .inr (.inl rfl), _, rfl, _, rfl, iteF q⟩
    | str x => exact iteF q
    | lst _ _ => exact iteF q
    | tup _ _ => exact iteF q
abbrev n38 : List Str := ["_law_parts_here", "_law_found", "_law_name", "_law_length"]
theorem sc38 : FnScope n38 ["_law_parts_here"] (defScope (topS 38)) := ⟨rfl, rfl, rfl, by decide +kernel, rfl, by decide +kernel, by decide +kernel⟩
theorem ok38 {f : Addr} {fd : FuncData} (F : Fun K "_law_lengths" "_law_lengths" (topS 38) f fd) (B : Blt mg) : FnOk P w K mg base CX0 1 f fd ["_law_parts_here"] (spLawLens K) := by
  refine F.ok sc38 (fun vs H Q E h => ?_) (fun cdv A outer s H vs Q E hr h => ?_)
  · obtain ⟨r, P, rfl, _⟩ := h
    rfl
  · have hu := hu70 hr
    refine ⟨_, pss_cons (ps_set (i := 1) sc38.nd rfl (Or.inl rfl) (pe_lst pa_nil))
      (pss_cons (ps_for PassesOwn.never rfl (pi_tup (pe_ix ix_list (pv 0) pe_int (fun _ _ => rfl))) (pg_tup rfl (pgs_cons (pg_name (i := 2) sc38.nd rfl (Or.inl rfl)) (pgs_cons (pg_name (i := 3) sc38.nd rfl (Or.inl rfl)) pgs_nil)))
        (pss_one (ps_set (i := 1) sc38.nd rfl (Or.inl rfl) (pe_op op_cat (pv 1) (pe_ifExp (pt_cmpR (op_notInP (hu65 hu)) (pv 3) (pv 1) rfl) (pe_lst (pa_cons (pv 3) pa_nil)) (pe_lst pa_nil))))))
      (pss_one (ps_ret (pv 1)))), ?_⟩
    obtain ⟨r, P, rfl, ⟨⟨tA, tP, tV, h1, h2, h3, h4⟩, nm⟩, q⟩ := h
    have na := nm.na
    unfold dA at h2
    cases h2 with
    | @tup _ xs _ sa da =>
    have lx : xs.length = P.arrays.length := (dp_len da).trans (List.length_map _)
    refine ⟨Nat.zero_le _, fun L0 hL0 => ?_⟩
    have s0 := same_new (o := .lst ([] : List V)) hL0
    refine ⟨_, rfl, r, _, 0, _, rfl, rfl, .inl (.inl (s0 _ _ h1)), atI_nat (j := 0) rfl, tA, rfl, ⟨xs, Tups.same s0 _ _ sa⟩, ?_⟩
    refine for_steady (steady_tup (K := K) (a := tA) (xs := xs)) (fun i σ H' => Same H H' ∧ ∃ L z1 z2, σ = [some (.ref r), some (.ref L), z1, z2] ∧ H' L = some (.lst ((lensN P.arrays i).map V.str)) ∧ H L = none) ⟨s0, L0, none, none, rfl, upd_same, hL0⟩ (fun _ _ _ _ h => Tups.same h.1 _ _ sa) ?_ ?_
    · rintro i σ H' hi ⟨s1, L, z1, z2, rfl, hL, hn⟩
      have hi2 : i < P.arrays.length := by omega
      obtain ⟨u, eu, su⟩ := dA_at da hi2
      have ll : (lensN P.arrays i).length ≤ 60 := by
        have := lensOf_len (P.arrays.take i)
        rw [List.length_take] at this
        show (lensOf (P.arrays.take i)).length ≤ 60
        omega
      refine ⟨u, _, eu, Tups.same s1 _ _ su, rfl, _, _, rfl, _, _, rfl, rfl, ?_⟩
      refine ⟨_, rfl, _, rfl, _, rfl, .str (P.arrays[i]).2, (lensN P.arrays i).map PyData.str, .str _, .lst (.inl (.inl hL)) (dps_strs _), ⟨rfl, Nat.zero_le _⟩, plain_strs _, _, rfl, ?_⟩
      rw [any_strs]
      by_cases c : (P.arrays[i]).2 ∈ lensN P.arrays i
      · rw [decide_eq_true c]
        refine iteF ⟨Nat.zero_le _, fun M hM => ?_⟩
        have s2 := same_new (o := .lst ([] : List V)) hM
        refine ⟨L, M, _, _, rfl, rfl, s2 _ _ hL, upd_same, by rw [sizeLine_eq, List.length_map]; show _ + 0 ≤ _; omega, fun N hN => ⟨(s1.trans s2).trans (same_new hN), N, _, _, rfl, ?_, Same.none_of s1 (Same.none_of s2 hN)⟩⟩
        rw [lensN_succ hi2]
        unfold addS
        rw [if_pos c, upd_same, List.append_nil]
      · rw [decide_eq_false c]
        refine iteT ⟨_, rfl, by rw [sizeLine_eq]; exact (by decide : (1 : Nat) ≤ 16777216), fun M hM => ?_⟩
        have s2 := same_new (o := .lst ([V.str (P.arrays[i]).2] : List V)) hM
        refine ⟨L, M, _, _, rfl, rfl, s2 _ _ hL, upd_same, by rw [sizeLine_eq, List.length_map]; show _ + 1 ≤ _; omega, fun N hN => ⟨(s1.trans s2).trans (same_new hN), N, _, _, rfl, ?_, Same.none_of s1 (Same.none_of s2 hN)⟩⟩
        rw [lensN_succ hi2]
        unfold addS
        rw [if_neg c, upd_same, List.map_append]
        rfl
    · rintro σ H' ⟨s1, L, z1, z2, rfl, hL, hn⟩
      rw [show lensN P.arrays xs.length = lensOf P.arrays by unfold lensN; rw [lx, List.take_length]] at hL
      exact ⟨_, rfl, q _ L s1 hL hn⟩
abbrev n39 : List Str := ["_law_parts_here"]
theorem sc39 : FnScope n39 n39 (defScope (topS 39)) := ⟨rfl, rfl, rfl, by decide +kernel, rfl, by decide +kernel, by decide +kernel⟩
theorem ok39 {f C Cf : Addr} {fd : FuncData} (F : Fun K "_law_frame" "_law_frame" (topS 39) f fd) (M : MkFr P w K mg base C Cf) : FnOk P w K mg base (L2.CX P w) 5 f fd n39 (spLawFr K C Cf) := by
  refine F.okX sc39 (fun vs H Q E h => ?_) (fun cdv A outer s H vs Q E hr h => ?_)
  · obtain ⟨r, P, rfl, _⟩ := h
    rfl
  · refine ⟨_, pss_one (ps_ret (pe_mkE M hr (by decide) (by rfl) (passes_call (takes_of rfl rfl rfl rfl) fun _ _ _ _ h => h) (pa_cons (pe_ix ix_list (pv 0) pe_int (fun _ _ => rfl)) (pa_cons (pe_ix ix_list (pv 0) pe_int (fun _ _ => rfl)) (pa_cons (pe_ix ix_list (pv 0) pe_int (fun _ _ => rfl)) pa_nil))))), ?_⟩
    obtain ⟨r, P, rfl, ⟨⟨tA, tP, tV, h1, h2, h3, h4⟩, nm⟩, q1, q2⟩ := h
    refine ⟨_, rfl, r, _, 0, _, rfl, rfl, .inl (.inl h1), atI_nat (j := 0) rfl, _, rfl, r, _, 1, _, rfl, rfl, .inl (.inl h1), atI_nat (j := 1) rfl, _, rfl, r, _, 2, _, rfl, rfl, .inl (.inl h1), atI_nat (j := 2) rfl, ?_⟩
    exact mk_i P h2 h3 h4 nm q1 fun e H' p s _ fr => q2 e H' p s fr
end
end Fc
namespace Fc
open PySem L2 PyProof.Rows
def spLawAll (K : PySem.W.Frag) : Sp := fun vs H Q _ => ∃ r P, vs = [.ref r] ∧ RowAt K H r P ∧ ∀ H' p, Same H H' → H' p = some (.lst ((namesL P).map V.str)) → H p = none → Q (.ref p) H'
def spLawPl (K : PySem.W.Frag) (w : World) : Sp := fun vs H Q _ => ∃ r P v d o own, vs = [.ref r, v, .ref o] ∧ RowAt K H r P ∧ DV K w H v d ∧ (∀ ds, d = .tuple ds → PyData.plainAll ds = true) ∧ SqT K H o (List.map V.str own) ∧ own.length ≤ 60 ∧ ∀ H', Same H H' → Q (.bl (lawPlace P own d)) H'
theorem nt_lawPl (P : Pa) (own : List Str) (d : PyData) (h : isTy d "tuple" = false) : lawPlace P own d = false := by cases d <;> first | rfl | (rw [isTy_tupF] at h; cases h)
theorem lawPl_no (P : Pa) (own : List Str) (ds : List PyData) (h : ds.length ≠ 2) : lawPlace P own (.tuple ds) = false := by
  match ds with
  | [] => rfl
  | [a] => cases a <;> rfl
  | [_, _] => exact absurd rfl h
  | a :: _ :: _ :: _ => cases a <;> rfl
theorem isTy_strF (d : PyData) : isTy d "str" = match d with | .str _ => true | _ => false := by cases d <;> rfl
section
variable {K : PySem.W.Frag} {mg : Str → Option Value} {base : Heap} {P : Program} {w : World}
abbrev n40 : List Str := ["_law_parts_here", "_law_heads", "_law_name", "_law_length"]
theorem sc40 : FnScope n40 ["_law_parts_here"] (defScope (topS 40)) := ⟨rfl, rfl, rfl, by decide +kernel, rfl, by decide +kernel, by decide +kernel⟩
theorem ok40 {f : Addr} {fd : FuncData} (F : Fun K "_law_all_of" "_law_all_of" (topS 40) f fd) (B : Blt mg) (c38 : Cal P w K mg base 1 "_law_lengths" (spLawLens K)) : FnOk P w K mg base CX0 2 f fd ["_law_parts_here"] (spLawAll K) := by
  refine F.ok sc40 (fun vs H Q E h => ?_) (fun cdv A outer s H vs Q E hr h => ?_)
  · obtain ⟨r, P, rfl, _⟩ := h
    rfl
  · have hu := hu70 hr
    refine ⟨_, pss_cons (ps_setLc (i := 1) (own := [("_law_name", 2), ("_law_length", 3)]) (g := gTup K 2 (gCons (gName 2) (gCons (gName 3) gNil))) (by rfl) sc40.nd rfl rfl (sw_true rfl rfl rfl (by decide +kernel)) (pi_tup (pe_ix ix_list (pv 0) pe_int (fun _ _ => rfl))) (blkOk_by (N := n40) (sc := defScope (topS 40)) (by decide +kernel))
        (fun _ _ _ _ _ => pg_tup rfl (pgs_cons (pg_name (i := 2) sc40.nd rfl (Or.inl rfl)) (pgs_cons (pg_name (i := 3) sc40.nd rfl (Or.inl rfl)) pgs_nil))) (fun _ _ _ _ _ => pts_nil) (fun _ _ _ _ _ => pv 2))
      (pss_one (ps_ret (pe_op op_cat (pe_op op_cat (pv 1) (pe_c c38 hr (by decide) (by rfl) (pa_cons (pv 0) pa_nil))) (pe_callTy call_list_of (by rfl) B.list boot_list (pa_cons (pe_op op_catA (pe_ix ix_list (pv 0) pe_int (fun _ _ => rfl)) (pe_ix ix_list (pv 0) pe_int (fun _ _ => rfl))) pa_nil))))), ?_⟩
    obtain ⟨r, P, rfl, R, q⟩ := h
    obtain ⟨⟨tA, tP, tV, h1, h2, h3, h4⟩, nm⟩ := id R
    have na := nm.na
    have np := nm.np
    have nv := nm.nv
    unfold dA at h2
    cases h2 with
    | @tup _ xs _ sa da =>
    have lx : xs.length = P.arrays.length := (dp_len da).trans (List.length_map _)
    refine ⟨_, rfl, r, _, 0, _, rfl, rfl, .inl (.inl h1), atI_nat (j := 0) rfl, tA, rfl, ⟨xs, sa⟩, fun D hD => ?_⟩
    refine lc_map (K := K) (te := tVar 2) (fun _ k y => y = .str (P.arrays.getD k e0).1) (steady_tup (K := K) (a := tA) (xs := xs)) (fun _ _ _ _ _ h => h) (fun H' s' => Tups.same s' _ _ sa) (by omega) hD (fun k H' Q' hk s' q' => ?_) fun H2 ys s2 hys py => ?_
    · have hk2 : k < P.arrays.length := by omega
      obtain ⟨u, eu, su⟩ := dA_at da hk2
      refine ⟨u, _, eu, Tups.same s' _ _ su, rfl, _, _, rfl, _, _, rfl, rfl, rfl, _, rfl, ?_⟩
      refine q' _ _ (Same.refl _) ?_
      rw [getD_at hk2]
    · have ey : ys = (P.arrays.map (·.1)).map V.str := by
        refine List.ext_getElem? fun i => ?_
        have lp := paired_len py
        rw [List.length_range] at lp
        by_cases c : i < P.arrays.length
        · have ci : i < ys.length := by omega
          have := paired_at py (i := i) (a := i) (b := ys[i]) (by rw [List.getElem?_range (by omega)]) (List.getElem?_eq_getElem ci)
          rw [List.getElem?_eq_getElem ci, this, getD_at c, List.getElem?_map, List.getElem?_map, List.getElem?_eq_getElem c]
          rfl
        · rw [List.getElem?_eq_none (by omega), List.getElem?_eq_none (by rw [List.length_map, List.length_map]; omega)]
      subst ey
      have ll := lensOf_len P.arrays
      refine ⟨_, rfl, _, rfl, r, P, rfl, R.mono s2, fun H3 L s3 hL nL => ?_⟩
      have s23 := s2.trans s3
      refine ⟨D, L, _, _, rfl, rfl, s3 _ _ hys, hL, by rw [sizeLine_eq]; simp only [List.length_map]; omega, fun M hM => ?_⟩
      have s4 := same_new (o := .lst ((P.arrays.map (·.1)).map V.str ++ (lensOf P.arrays).map V.str)) hM
      have s24 := s23.trans s4
      refine ⟨_, rfl, r, _, 1, _, rfl, rfl, .inl (.inl (s24 _ _ h1)), atI_nat (j := 1) rfl, _, rfl, r, _, 2, _, rfl, rfl, .inl (.inl (s24 _ _ h1)), atI_nat (j := 2) rfl, ?_⟩
      refine cat_dS (dp_mono s24 _ _ h3) (dp_mono s24 _ _ h4) (by omega) fun H5 t5 s5 d5 => ?_
      refine ⟨t5, _, rfl, .inr (tup_dS d5), fun N hN => ?_⟩
      have s6 := same_new (o := .lst ((P.pos ++ P.vals).map V.str)) hN
      refine ⟨M, N, _, _, rfl, rfl, s6 _ _ (s5 _ _ upd_same), upd_same, by rw [sizeLine_eq]; simp only [List.length_map, List.length_append]; omega, fun O hO => ?_⟩
      have s7 := same_new (o := .lst (((P.arrays.map (·.1)).map V.str ++ (lensOf P.arrays).map V.str) ++ (P.pos ++ P.vals).map V.str)) hO
      refine q _ O (((s24.trans s5).trans s6).trans s7) ?_ (Same.none_of ((s24.trans s5).trans s6) hO)
      rw [upd_same]
      unfold namesL
      simp only [List.map_append, List.append_assoc]
end
end Fc
namespace Fc
open PySem L2 PyProof.Rows
section
variable {K : PySem.W.Frag} {mg : Str → Option Value} {base : Heap} {P : Program} {w : World}
abbrev n42 : List Str := ["_law_parts_here", "_law_value", "_law_mine"]
theorem sc42 : FnScope n42 n42 (defScope (topS 42)) := ⟨rfl, rfl, rfl, by decide +kernel, rfl, by decide +kernel, by decide +kernel⟩
theorem ok42 {f : Addr} {fd : FuncData} (F : Fun K "_law_is_place" "_law_is_place" (topS 42) f fd) (B : Blt mg) (c38 : Cal P w K mg base 1 "_law_lengths" (spLawLens K)) (c41 : Cal P w K mg base 1 "_law_is_number" (spPassed K w)) : FnOk P w K mg base CX0 2 f fd n42 (spLawPl K w) := by
  refine F.ok sc42 (fun vs H Q E h => ?_) (fun cdv A outer s H vs Q E hr h => ?_)
  · obtain ⟨r, P, v, d, o, own, rfl, _⟩ := h
    rfl
  · have hu := hu70 hr
    refine ⟨_, pss_cons (ps_if (pw_or (pt_not (pt_val (pe_callB call_isiD (by rfl) B.isinstance boot_isinstance (pa_cons (pv 1) (pa_cons (pe_bltn (v := .ty "tuple") (by rfl) B.tuple boot_tuple rfl) pa_nil)))))
        (pw_or (pt_cmpR op_ne (pe_callB call_len_seq (by rfl) B.len boot_len (pa_cons (pv 1) pa_nil)) pe_int (nomark _))
        (pw_or (pt_not (pt_val (pe_callB call_isiD (by rfl) B.isinstance boot_isinstance (pa_cons (pe_ix (r := rIxT K) ix_tup (pv 1) pe_int (fun _ _ => rfl)) (pa_cons (pe_bltn (v := .ty "str") (by rfl) B.str boot_str rfl) pa_nil)))))
        (pw_or1 (pt_not (pt_val (pe_c c41 hr (by decide) (by rfl) (pa_cons (pe_ix (r := rIxT K) ix_tup (pv 1) pe_int (fun _ _ => rfl)) pa_nil)))))))).pt (pss_one (ps_ret pe_bl)) pss_nil)
      (pss_one (ps_ret (pe_cmpR (op_inP (hu65 hu)) (pe_ix (r := rIxT K) ix_tup (pv 1) pe_int (fun _ _ => rfl)) (pe_op op_cat (pe_op op_cat (pe_op op_cat (pe_lst (pa_cons pe_str pa_nil)) (pe_c c38 hr (by decide) (by rfl) (pa_cons (pv 0) pa_nil)))
        (pe_callTy call_list_of (by rfl) B.list boot_list (pa_cons (pe_ix ix_list (pv 0) pe_int (fun _ _ => rfl)) pa_nil))) (pe_callTy call_list_of (by rfl) B.list boot_list (pa_cons (pv 2) pa_nil))) rfl))), ?_⟩
    obtain ⟨r, P, v, d, o, own, rfl, R, hd, hp, ho, lo, q⟩ := h
    refine ⟨_, rfl, v, d, _, rfl, hd, .inr (.inr (.inr (.inl rfl))), _, rfl, ?_⟩
    have q0 := q H (Same.refl H)
    by_cases ht : isTy d "tuple" = true
    case neg =>
      rw [Bool.eq_false_iff.mpr ht]
      rw [nt_lawPl P own d (Bool.eq_false_iff.mpr ht)] at q0
      exact iteT q0
    rw [ht]
    obtain ⟨b, xs, ds, rfl, rfl, sa, da⟩ := dv_tup hd ht
    have le := dp_len da
    refine iteF ⟨_, rfl, b, xs, rfl, .inr sa, rfl, _, rfl, ?_⟩
    rw [le]
    by_cases c : ds.length = 2
    case neg =>
      rw [dec_len2, decide_eq_false c]
      rw [lawPl_no P own ds c] at q0
      exact iteT q0
    rw [dec_len2, decide_eq_true c]
    obtain ⟨x, y, rfl⟩ : ∃ x y, ds = [x, y] := by
      match ds, c with
      | [x, y], _ => exact ⟨x, y, rfl⟩
    have dx := dp_at da (by decide : 0 < 2)
    have dy := dp_at da (by decide : 1 < 2)
    have ax := atI_nat (j := 0) (dp_some da (by decide : 0 < 2))
    have ay := atI_nat (j := 1) (dp_some da (by decide : 1 < 2))
    refine iteF ⟨_, rfl, b, xs, 0, _, rfl, rfl, sa, ax, _, x, _, rfl, .inl dx, .inr (.inr (.inl rfl)), _, rfl, ?_⟩
    rw [isTy_strF]
    cases x with
    | str z =>
      refine iteF ⟨_, rfl, b, xs, 1, _, rfl, rfl, sa, ay, _, y, rfl, dy, _, rfl, ?_⟩
      change Q (.bl (isNum y && decide (z ∈ ("" : Str) :: (lensOf P.arrays ++ (P.pos ++ own))))) H at q0
      cases e : isNum y with
      | false => rw [e] at q0; exact iteT q0
      | true =>
        refine iteF ⟨_, rfl, b, xs, 0, _, rfl, rfl, sa, ax, ?_⟩
        obtain ⟨⟨tA, tP, tV, h1, h2, h3, h4⟩, nm⟩ := id R
        have na := nm.na
        have np := nm.np
        have ll := lensOf_len P.arrays
        refine ⟨by rw [sizeLine_eq]; exact (by decide : (1 : Nat) ≤ 16777216), fun A0 hA0 => ?_⟩
        have s0 := same_new (o := .lst [V.str (Str.ofString "")]) hA0
        refine ⟨_, rfl, r, P, rfl, R.mono s0, fun H1 L s1 hL nL => ?_⟩
        have s01 := s0.trans s1
        refine ⟨A0, L, _, _, rfl, rfl, s1 _ _ upd_same, hL, by rw [sizeLine_eq]; simp only [List.length_map, List.length_cons, List.length_nil]; omega, fun B0 hB0 => ?_⟩
        have s2 := same_new (o := .lst ([V.str (Str.ofString "")] ++ (lensOf P.arrays).map V.str)) hB0
        have s02 := s01.trans s2
        refine ⟨_, rfl, r, _, 1, _, rfl, rfl, .inl (.inl (s02 _ _ h1)), atI_nat (j := 1) rfl, tP, _, rfl, .inr (Tups.same s02 _ _ (tup_dS h3)), fun C0 hC0 => ?_⟩
        have s3 := same_new (o := .lst (P.pos.map V.str)) hC0
        refine ⟨B0, C0, _, _, rfl, rfl, s3 _ _ upd_same, upd_same, by rw [sizeLine_eq]; simp only [List.length_map, List.length_cons, List.length_nil, List.length_append]; omega, fun D0 hD0 => ?_⟩
        have s4 := same_new (o := .lst (([V.str (Str.ofString "")] ++ (lensOf P.arrays).map V.str) ++ P.pos.map V.str)) hD0
        have s04 := (s02.trans s3).trans s4
        refine ⟨_, rfl, o, _, rfl, .inr (Tups.same s04 _ _ ho), fun E0 hE0 => ?_⟩
        have s5 := same_new (o := .lst (own.map V.str)) hE0
        refine ⟨D0, E0, _, _, rfl, rfl, s5 _ _ upd_same, upd_same, by rw [sizeLine_eq]; simp only [List.length_map, List.length_cons, List.length_nil, List.length_append]; omega, fun F0 hF0 => ?_⟩
        have s6 := same_new (o := .lst ((([V.str (Str.ofString "")] ++ (lensOf P.arrays).map V.str) ++ P.pos.map V.str) ++ own.map V.str)) hF0
        have s06 := (s04.trans s5).trans s6
        have el : (([V.str (Str.ofString "")] ++ (lensOf P.arrays).map V.str) ++ P.pos.map V.str) ++ own.map V.str = (("" : Str) :: (lensOf P.arrays ++ (P.pos ++ own))).map V.str := by
          simp only [List.map_append, List.append_assoc, List.map_cons, List.cons_append, List.nil_append]
        refine ⟨.str z, (("" : Str) :: (lensOf P.arrays ++ (P.pos ++ own))).map PyData.str, dp_mono s06 _ _ dx, .lst (.inl (.inl upd_same)) ?_, ⟨rfl, Nat.zero_le _⟩, plain_strs _, ?_⟩
        · rw [el]
          exact dps_strs _
        · rw [any_strs]
          have q6 := q _ s06
          change Q (.bl (isNum y && decide (z ∈ ("" : Str) :: (lensOf P.arrays ++ (P.pos ++ own))))) _ at q6
          rw [e] at q6
          exact q6
    | none => exact iteT q0
    | bool _ => exact iteT q0
    | int _ => exact iteT q0
    | list _ => exact iteT q0
    | tuple _ => exact iteT q0
    | dict _ => exact iteT q0
end
end Fc
namespace Fc
open PySem L2 PyProof.Rows
def spLawWo (K : PySem.W.Frag) (w : World) : Sp := fun vs H Q _ => ∃ r P v d o own, vs = [.ref r, v, .ref o] ∧ RowAt K H r P ∧ DV K w H v d ∧ (∀ ds, d = .tuple ds → PyData.plainAll ds = true) ∧ SqT K H o (List.map V.str own) ∧ own.length ≤ 60 ∧ ∀ H', Same H H' → Q (.bl (lawWorth P own d)) H'
theorem nt_lawWo (P : Pa) (own : List Str) (d : PyData) (h : isTy d "tuple" = false) : lawWorth P own d = false := by cases d <;> first | rfl | (rw [isTy_tupF] at h; cases h)
theorem lawWo_no (P : Pa) (own : List Str) (ds : List PyData) (h : ds.length ≠ 2) (h4 : ds.length ≠ 4) : lawWorth P own (.tuple ds) = false := by
  match ds with
  | [] => rfl
  | [a] => cases a <;> rfl
  | [_, _] => exact absurd rfl h
  | [a, _, _] => cases a <;> rfl
  | [_, _, _, _] => exact absurd rfl h4
  | a :: _ :: _ :: _ :: _ :: _ => cases a <;> rfl
theorem inV24 (n : Nat) : inV (.int (n : Int)) [.int 2, .int 4] = (decide (n = 2) || decide (n = 4)) := by
  show ((2 : Int) == (n : Int) || ((4 : Int) == (n : Int) || false)) = _
  rw [Bool.eq_iff_iff]
  simp only [Bool.or_eq_true, beq_iff_eq, decide_eq_true_iff, Bool.false_eq_true, or_false]
  omega
section
variable {K : PySem.W.Frag} {mg : Str → Option Value} {base : Heap} {P : Program} {w : World}
abbrev n43 : List Str := ["_law_parts_here", "_law_value", "_law_mine", "_law_name", "_law_length"]
theorem sc43 : FnScope n43 ["_law_parts_here", "_law_value", "_law_mine"] (defScope (topS 43)) := ⟨rfl, rfl, rfl, by decide +kernel, rfl, by decide +kernel, by decide +kernel⟩
theorem ok43 {f : Addr} {fd : FuncData} (F : Fun K "_law_is_worth" "_law_is_worth" (topS 43) f fd) (B : Blt mg) (c42 : Cal P w K mg base 2 "_law_is_place" (spLawPl K w)) (c41 : Cal P w K mg base 1 "_law_is_number" (spPassed K w)) : FnOk P w K mg base CX0 3 f fd ["_law_parts_here", "_law_value", "_law_mine"] (spLawWo K w) := by
  refine F.ok sc43 (fun vs H Q E h => ?_) (fun cdv A outer s H vs Q E hr h => ?_)
  · obtain ⟨r, P, v, d, o, own, rfl, _⟩ := h
    rfl
  · have hu := hu70 hr
    refine ⟨_, pss_cons (ps_if (pw_or (pt_not (pt_val (pe_callB call_isiD (by rfl) B.isinstance boot_isinstance (pa_cons (pv 1) (pa_cons (pe_bltn (v := .ty "tuple") (by rfl) B.tuple boot_tuple rfl) pa_nil)))))
        (pw_or (pt_cmpR op_notIn_seq (pe_callB call_len_seq (by rfl) B.len boot_len (pa_cons (pv 1) pa_nil)) (pe_tup (pa_cons pe_int (pa_cons pe_int pa_nil))) rfl)
        (pw_or1 (pt_not (pt_val (pe_callB call_isiD (by rfl) B.isinstance boot_isinstance (pa_cons (pe_ix (r := rIxT K) ix_tup (pv 1) pe_int (fun _ _ => rfl)) (pa_cons (pe_bltn (v := .ty "str") (by rfl) B.str boot_str rfl) pa_nil)))))))).pt (pss_one (ps_ret pe_bl)) pss_nil)
      (pss_cons (ps_if (pt_cmpR op_eq (pe_callB call_len_seq (by rfl) B.len boot_len (pa_cons (pv 1) pa_nil)) pe_int (nomark _))
        (pss_one (ps_ret (pe_and (pe_cmpR op_in_seq (pe_ix (r := rIxT K) ix_tup (pv 1) pe_int (fun _ _ => rfl)) (pe_op op_cat (pe_lst (pa_cons pe_str pa_nil)) (pe_callTy call_list_of (by rfl) B.list boot_list (pa_cons (pe_ix ix_list (pv 0) pe_int (fun _ _ => rfl)) pa_nil))) rfl)
          (pe_one (pe_c c41 hr (by decide) (by rfl) (pa_cons (pe_ix (r := rIxT K) ix_tup (pv 1) pe_int (fun _ _ => rfl)) pa_nil)))))) pss_nil)
      (pss_cons (ps_if (pt_cmpR op_notIn_seq (pe_ix (r := rIxT K) ix_tup (pv 1) pe_int (fun _ _ => rfl)) (pe_lc (own := [("_law_name", 3), ("_law_length", 4)]) (g := gTup K 2 (gCons (gName 3) (gCons (gName 4) gNil))) (by rfl) sc43.nd (pi_tup (pe_ix ix_list (pv 0) pe_int (fun _ _ => rfl))) (blkOk_by (N := n43) (sc := defScope (topS 43)) (by decide +kernel))
        (fun _ _ _ _ _ => pg_tup rfl (pgs_cons (pg_name (i := 3) sc43.nd rfl (Or.inl rfl)) (pgs_cons (pg_name (i := 4) sc43.nd rfl (Or.inl rfl)) pgs_nil))) (fun _ _ _ _ _ => pts_nil) (fun _ _ _ _ _ => pv 3)) rfl) (pss_one (ps_ret pe_bl)) pss_nil)
      (pss_one (ps_ret (pe_and (pe_c c42 hr (by decide) (by rfl) (pa_cons (pv 0) (pa_cons (pe_slice sl_tupA (pv 1) (po_some pe_int) (po_some pe_int)) (pa_cons (pv 2) pa_nil))))
        (pe_one (pe_c c41 hr (by decide) (by rfl) (pa_cons (pe_ix (r := rIxT K) ix_tup (pv 1) pe_int (fun _ _ => rfl)) pa_nil)))))))), ?_⟩
    obtain ⟨r, P, v, d, o, own, rfl, R, hd, hp, ho, lo, q⟩ := h
    refine ⟨_, rfl, v, d, _, rfl, hd, .inr (.inr (.inr (.inl rfl))), _, rfl, ?_⟩
    have q0 := q H (Same.refl H)
    by_cases ht : isTy d "tuple" = true
    case neg =>
      rw [Bool.eq_false_iff.mpr ht]
      rw [nt_lawWo P own d (Bool.eq_false_iff.mpr ht)] at q0
      exact iteT q0
    rw [ht]
    obtain ⟨b, xs, ds, rfl, rfl, sa, da⟩ := dv_tup hd ht
    have le := dp_len da
    refine iteF ⟨_, rfl, b, xs, rfl, .inr sa, by rw [sizeLine_eq]; exact (by decide : (2 : Nat) ≤ 16777216), fun t0 ht0 => ?_⟩
    have s0 := same_new (o := .tup [V.int 2, V.int 4]) ht0
    refine ⟨t0, _, rfl, .inr (.inl (.inl upd_same)), rfl, rfl, _, rfl, ?_⟩
    simp only [if_true]
    rw [le, inV24]
    have q1 := q _ s0
    have R1 := R.mono s0
    have sa1 := Tups.same s0 _ _ sa
    have ho1 := Tups.same s0 _ _ ho
    replace q : ∀ H', Same (upd H t0 (.tup [V.int 2, V.int 4])) H' → Q (.bl (lawWorth P own (.tuple ds))) H' := fun H' s' => q H' (s0.trans s')
    have da1 := dps_mono s0 _ _ da
    generalize upd H t0 (.tup [V.int 2, V.int 4]) = H1 at *
    clear q0 sa da ho R hd
    by_cases c2 : ds.length = 2
    · rw [decide_eq_true c2, Bool.true_or]
      obtain ⟨x, y, rfl⟩ : ∃ x y, ds = [x, y] := by
        match ds, c2 with
        | [x, y], _ => exact ⟨x, y, rfl⟩
      have dx := dp_at da1 (by decide : 0 < 2)
      have dy := dp_at da1 (by decide : 1 < 2)
      have ax := atI_nat (j := 0) (dp_some da1 (by decide : 0 < 2))
      have ay := atI_nat (j := 1) (dp_some da1 (by decide : 1 < 2))
      refine iteF ⟨_, rfl, b, xs, 0, _, rfl, rfl, sa1, ax, _, x, _, rfl, .inl dx, .inr (.inr (.inl rfl)), _, rfl, ?_⟩
      rw [isTy_strF]
      cases x with
      | str z =>
        have e0 : xs.getD 0 .non = .str z := by
          have d0 : Dp K H1 (xs.getD 0 .non) (.str z) := dx
          generalize xs.getD 0 V.non = v0 at d0
          cases d0
          rfl
        rw [e0] at ax
        refine iteF ⟨_, rfl, b, xs, rfl, .inr sa1, rfl, _, rfl, ?_⟩
        rw [le, dec_len2, decide_eq_true (show [PyData.str z, y].length = 2 from rfl)]
        refine iteT ⟨_, rfl, b, xs, 0, _, rfl, rfl, sa1, ax, ?_⟩
        obtain ⟨⟨tA, tP, tV, h1, h2, h3, h4⟩, nm⟩ := id R1
        have nv := nm.nv
        refine ⟨by rw [sizeLine_eq]; exact (by decide : (1 : Nat) ≤ 16777216), fun A0 hA0 => ?_⟩
        have t1 := same_new (o := .lst [V.str (Str.ofString "")]) hA0
        refine ⟨_, rfl, r, _, 2, _, rfl, rfl, .inl (.inl (t1 _ _ h1)), atI_nat (j := 2) rfl, tV, _, rfl, .inr (Tups.same t1 _ _ (tup_dS h4)), fun B0 hB0 => ?_⟩
        have t2 := same_new (o := .lst (P.vals.map V.str)) hB0
        refine ⟨A0, B0, _, _, rfl, rfl, t2 _ _ upd_same, upd_same, by rw [sizeLine_eq]; simp only [List.length_map, List.length_cons, List.length_nil]; omega, fun C0 hC0 => ?_⟩
        have t3 := same_new (o := .lst ([V.str (Str.ofString "")] ++ P.vals.map V.str)) hC0
        have t13 := (t1.trans t2).trans t3
        have el : [V.str (Str.ofString "")] ++ P.vals.map V.str = (("" : Str) :: P.vals).map V.str := rfl
        refine ⟨C0, _, rfl, .inl (.inl (.inl upd_same)), rfl, by rw [el]; exact flat_strs _, _, rfl, ?_⟩
        simp only [Bool.false_eq_true, if_false]
        rw [el, inV_str]
        have q3 := q _ t13
        change Q (.bl (decide (z ∈ ("" : Str) :: P.vals) && isNum y)) _ at q3
        cases e : decide (z ∈ ("" : Str) :: P.vals) with
        | false => rw [e] at q3; exact iteF q3
        | true => rw [e] at q3; exact iteT ⟨_, rfl, b, xs, 1, _, rfl, rfl, Tups.same t13 _ _ sa1, ay, _, y, rfl, dp_mono t13 _ _ dy, q3⟩
      | none => exact iteT q1
      | bool _ => exact iteT q1
      | int _ => exact iteT q1
      | list _ => exact iteT q1
      | tuple _ => exact iteT q1
      | dict _ => exact iteT q1
    rw [decide_eq_false c2, Bool.false_or]
    by_cases c4 : ds.length = 4
    case neg =>
      rw [decide_eq_false c4]
      rw [lawWo_no P own ds c2 c4] at q1
      exact iteT q1
    rw [decide_eq_true c4]
    obtain ⟨x, y, z, u, rfl⟩ : ∃ x y z u, ds = [x, y, z, u] := by
      match ds, c4 with
      | [x, y, z, u], _ => exact ⟨x, y, z, u, rfl⟩
    have dx := dp_at da1 (by decide : 0 < 4)
    have ax := atI_nat (j := 0) (dp_some da1 (by decide : 0 < 4))
    have au := atI_nat (j := 3) (dp_some da1 (by decide : 3 < 4))
    refine iteF ⟨_, rfl, b, xs, 0, _, rfl, rfl, sa1, ax, _, x, _, rfl, .inl dx, .inr (.inr (.inl rfl)), _, rfl, ?_⟩
    rw [isTy_strF]
    cases x with
    | str k0 =>
      have e0 : xs.getD 0 .non = .str k0 := by
        have d0 : Dp K H1 (xs.getD 0 .non) (.str k0) := dx
        generalize xs.getD 0 V.non = v0 at d0
        cases d0
        rfl
      rw [e0] at ax
      refine iteF ⟨_, rfl, b, xs, rfl, .inr sa1, rfl, _, rfl, ?_⟩
      rw [le, dec_len2, decide_eq_false (show ¬ [PyData.str k0, y, z, u].length = 2 from fun h => by simp at h)]
      obtain ⟨⟨tA, tP, tV, h1, h2, h3, h4⟩, nm⟩ := id R1
      have na := nm.na
      unfold dA at h2
      cases h2 with
      | @tup _ xa _ sA dA1 =>
      have lx : xa.length = P.arrays.length := (dp_len dA1).trans (List.length_map _)
      refine iteF ⟨_, rfl, b, xs, 0, _, rfl, rfl, sa1, ax, _, rfl, r, _, 0, _, rfl, rfl, .inl (.inl h1), atI_nat (j := 0) rfl, tA, rfl, ⟨xa, sA⟩, fun D hD => ?_⟩
      refine lc_map (K := K) (te := tVar 3) (fun _ k y => y = .str (P.arrays.getD k Fc.e0).1) (steady_tup (K := K) (a := tA) (xs := xa)) (fun _ _ _ _ _ h => h) (fun H' s' => Tups.same s' _ _ sA) (by omega) hD (fun k H' Q' hk s' q' => ?_) fun H2 ys s2 hys py => ?_
      · have hk2 : k < P.arrays.length := by omega
        obtain ⟨u, eu, su⟩ := dA_at dA1 hk2
        refine ⟨u, _, eu, Tups.same s' _ _ su, rfl, _, _, rfl, _, _, rfl, rfl, rfl, _, rfl, ?_⟩
        refine q' _ _ (Same.refl _) ?_
        rw [getD_at hk2]
      have ey : ys = (P.arrays.map (·.1)).map V.str := by
        refine List.ext_getElem? fun i => ?_
        have lp := paired_len py
        rw [List.length_range] at lp
        by_cases c : i < P.arrays.length
        · have ci : i < ys.length := by omega
          have := paired_at py (i := i) (a := i) (b := ys[i]) (by rw [List.getElem?_range (by omega)]) (List.getElem?_eq_getElem ci)
          rw [List.getElem?_eq_getElem ci, this, getD_at c, List.getElem?_map, List.getElem?_map, List.getElem?_eq_getElem c]
          rfl
        · rw [List.getElem?_eq_none (by omega), List.getElem?_eq_none (by rw [List.length_map, List.length_map]; omega)]
      subst ey
      refine ⟨D, _, rfl, .inl (.inl (.inl hys)), rfl, flat_strs _, _, rfl, ?_⟩
      simp only [if_true]
      rw [inV_str]
      have q3 := q _ s2
      change Q (.bl (decide (k0 ∈ P.arrays.map (·.1)) && (lawPlace P own (.tuple [y, z]) && isNum u))) _ at q3
      replace q : ∀ H', Same H2 H' → Q (.bl (decide (k0 ∈ P.arrays.map (·.1)) && (lawPlace P own (.tuple [y, z]) && isNum u))) H' := fun H' s' => q H' (s2.trans s')
      cases ek : decide (k0 ∈ P.arrays.map (·.1)) with
      | false => rw [ek] at q3; exact iteT q3
      | true =>
        rw [ek] at q
        refine iteF ⟨_, rfl, _, rfl, 1, rfl, 3, rfl, b, xs, rfl, Tups.same s2 _ _ sa1, fun hc => ?_, fun _ p hp2 => ?_⟩
        · exfalso
          have := hc.1
          rw [le] at this
          exact absurd this (by show HT.sIx 4 0 (some 1) ≠ 0; decide)
        · have ex : xs = [xs.getD 0 .non, xs.getD 1 .non, xs.getD 2 .non, xs.getD 3 .non] := by
            have l4 : xs.length = 4 := le
            match xs, l4 with
            | [x0, x1, x2, x3], _ => rfl
          rw [cut13 xs _ _ _ _ ex]
          have s3 := same_new (o := .tup [xs.getD 1 .non, xs.getD 2 .non]) hp2
          have s23 := s2.trans s3
          have pl := hp _ rfl
          simp only [PyData.plainAll, Bool.and_eq_true] at pl
          refine ⟨_, rfl, r, P, _, .tuple [y, z], o, own, rfl, R1.mono s23, .inl (.tup (.inl (.inl upd_same)) (.cons (dp_mono s23 _ _ (dp_at da1 (by decide : 1 < 4))) (.cons (dp_mono s23 _ _ (dp_at da1 (by decide : 2 < 4))) .nil))), fun ds e => ?_, Tups.same s23 _ _ ho1, lo, fun H' s' => ⟨_, rfl, ?_⟩⟩
          · cases e
            simp only [PyData.plainAll, pl.2.1, pl.2.2.1, Bool.and_self]
          · have q4 := q _ (s3.trans s')
            cases e : lawPlace P own (.tuple [y, z]) with
            | false => rw [e] at q4; exact iteF q4
            | true => rw [e] at q4; exact iteT ⟨_, rfl, b, xs, 3, _, rfl, rfl, Tups.same (s23.trans s') _ _ sa1, au, _, u, rfl, dp_mono (s23.trans s') _ _ (dp_at da1 (by decide : 3 < 4)), q4⟩
    | none => exact iteT q1
    | bool _ => exact iteT q1
    | int _ => exact iteT q1
    | list _ => exact iteT q1
    | tuple _ => exact iteT q1
    | dict _ => exact iteT q1
end
end Fc
namespace Fc
open PySem L2 PyProof.Rows
def spLawLet (K : PySem.W.Frag) : Sp := fun vs H Q _ => ∃ r P, vs = [.ref r] ∧ RowAt K H r P ∧ ∀ H', Same H H' → Q (.bl (okB P)) H'
theorem okB_turned (P : Pa) : okB P = (decide (V.int ((onceS (namesL P)).length : Int) = V.int ((namesL P).length : Int)) && (decide ((P.arrays.length : Int) < 13) && (decide ((P.pos.length : Int) < 9) && decide ((P.vals.length : Int) < 7)))) := by
  have e := once_count (ws := namesL P) (ns := namesL P) fun x => Iff.rfl
  have e2 : decide (V.int ((onceS (namesL P)).length : Int) = V.int ((namesL P).length : Int)) = decide (namesL P).Nodup := by
    rw [← e, Bool.eq_iff_iff, decide_eq_true_iff, decide_eq_true_iff]
    exact eq_comm
  rw [e2]
  unfold okB
  rw [Bool.eq_iff_iff]
  simp only [Bool.and_eq_true, decide_eq_true_iff]
  constructor
  · rintro ⟨a, b, c, d⟩
    exact ⟨d, by omega, by omega, by omega⟩
  · rintro ⟨d, a, b, c⟩
    exact ⟨by omega, by omega, by omega, d⟩
section
variable {K : PySem.W.Frag} {mg : Str → Option Value} {base : Heap} {P : Program} {w : World}
abbrev n47 : List Str := ["_law_parts_here", "_law_names"]
theorem sc47 : FnScope n47 ["_law_parts_here"] (defScope (topS 47)) := ⟨rfl, rfl, rfl, by decide +kernel, rfl, by decide +kernel, by decide +kernel⟩
theorem ok47 {f : Addr} {fd : FuncData} (F : Fun K "_law_is_let" "_law_is_let" (topS 47) f fd) (B : Blt mg) (c40 : Cal P w K mg base 2 "_law_all_of" (spLawAll K)) : FnOk P w K mg base CX0 3 f fd ["_law_parts_here"] (spLawLet K) := by
  refine F.ok sc47 (fun vs H Q E h => ?_) (fun cdv A outer s H vs Q E hr h => ?_)
  · obtain ⟨r, P, rfl, _⟩ := h
    rfl
  · have hu := hu70 hr
    refine ⟨_, pss_cons (ps_set (i := 1) sc47.nd rfl (Or.inl rfl) (pe_c c40 hr (by decide) (by rfl) (pa_cons (pv 0) pa_nil)))
      (pss_one (ps_ret (pe_and (pe_cmpR op_eq (pe_callB call_lenS (by rfl) B.len boot_len (pa_cons (pe_callTy (call_setT rfl) (by rfl) B.set boot_set (pa_cons (pv 1) pa_nil)) pa_nil)) (pe_callB call_len_seq (by rfl) B.len boot_len (pa_cons (pv 1) pa_nil)) (nomark _))
        (pe_and (pe_cmpR op_lt (pe_callB call_len_seq (by rfl) B.len boot_len (pa_cons (pe_ix ix_list (pv 0) pe_int (fun _ _ => rfl)) pa_nil)) pe_int (nomark _))
        (pe_and (pe_cmpR op_lt (pe_callB call_len_seq (by rfl) B.len boot_len (pa_cons (pe_ix ix_list (pv 0) pe_int (fun _ _ => rfl)) pa_nil)) pe_int (nomark _))
        (pe_one (pe_cmpR op_lt (pe_callB call_len_seq (by rfl) B.len boot_len (pa_cons (pe_ix ix_list (pv 0) pe_int (fun _ _ => rfl)) pa_nil)) pe_int (nomark _)))))))), ?_⟩
    obtain ⟨r, G, rfl, R, q⟩ := h
    refine ⟨_, rfl, r, G, rfl, R, fun H1 L s1 hL nL => ?_⟩
    have na := R.nm.na
    have np := R.nm.np
    have nv := R.nm.nv
    have ll := lensOf_len G.arrays
    have wl : (namesL G).length ≤ 300 := by
      unfold namesL
      simp only [List.length_append, List.length_map]
      omega
    refine ⟨_, rfl, L, namesL G, rfl, .inl (.inl hL), by unfold scanBound; omega, fun p hp => ⟨p, _, rfl, upd_same, ?_⟩⟩
    have s2 := same_new (o := SetT P w p (onceS (namesL G))) hp
    have s12 := s1.trans s2
    have qq := q _ s12
    rw [okB_turned] at qq
    obtain ⟨tA, tP, tV, h1, h2, h3, h4⟩ := (R.mono s12).ex
    unfold dA at h2
    cases h2 with
    | @tup _ xs _ sa da =>
    have lx : xs.length = G.arrays.length := (dp_len da).trans (List.length_map _)
    refine ⟨_, rfl, L, _, rfl, .inl (.inl (.inl (s2 _ _ hL))), rfl, _, rfl, ?_⟩
    rw [List.length_map]
    cases e1 : decide (V.int ((onceS (namesL G)).length : Int) = V.int ((namesL G).length : Int)) with
    | false => rw [e1] at qq; exact iteF qq
    | true =>
    rw [e1] at qq
    refine iteT ⟨_, rfl, r, _, 0, _, rfl, rfl, .inl (.inl h1), atI_nat (j := 0) rfl, tA, _, rfl, .inr sa, _, _, rfl, rfl, _, rfl, ?_⟩
    rw [lx]
    cases e2 : decide ((G.arrays.length : Int) < 13) with
    | false => rw [e2] at qq; exact iteF qq
    | true =>
    rw [e2] at qq
    refine iteT ⟨_, rfl, r, _, 1, _, rfl, rfl, .inl (.inl h1), atI_nat (j := 1) rfl, tP, _, rfl, .inr (tup_dS h3), _, _, rfl, rfl, _, rfl, ?_⟩
    rw [List.length_map]
    cases e3 : decide ((G.pos.length : Int) < 9) with
    | false => rw [e3] at qq; exact iteF qq
    | true =>
    rw [e3] at qq
    refine iteT ⟨_, rfl, r, _, 2, _, rfl, rfl, .inl (.inl h1), atI_nat (j := 2) rfl, tV, _, rfl, .inr (tup_dS h4), _, _, rfl, rfl, ?_⟩
    rw [List.length_map]
    exact qq
end
end Fc
namespace Fc
open PySem L2 PyProof.Rows
section
variable {X : Cx} {CX : CXT} {k : Nat} {f C : Addr} {fd : FuncData} {ps : List Str} {sp : Sp} {m : Str} {apos pos : Pos} {e o : Expr} {es : List Expr} {ta : TE} {t : TA} {E : L2.St → XK}
/-- o.m(e, ..) within a try: what is raised goes by the names -/
def tMethE (C : Addr) (m : Str) (sp : Sp) (E : L2.St → XK) (ta : TE) (t : TA) : TE := fun σ H Q => ta σ H fun x H1 => ∃ a dx fs, x = .ref a ∧ H1 a = some (.ins C dx fs) ∧ fs.lookup m = none ∧ t σ H1 fun ws H2 => sp (x :: ws) H2 Q (E σ)
theorem pe_methE {pl : Sem Bool} (he : PE X o ta) (c : Cls X.K C) (hm : Meth X.K C m f) (F : FnOk X.prog X.w X.K X.mg X.base CX k f fd ps sp) (hr : Room k X.A) (hb : Binds X.K fd ps []) (hx : ∀ σ, PassesAt CX X σ (E σ)) (ha : PA X (e :: es) t)
    (hst : starEach (e :: es) X.env = (false, eval e X.env) :: starEach es X.env := by rfl) (hpl : (backTo pos (starEach es X.env)).any (·.1) = false := by rfl)
    (ht : eval (.Call (.Attribute o m apos) (e :: es) [] pos) X.env = (do
      let ov ← eval o X.env
      standAt apos.atName
      let (f, first) ← holding [ov] (getMethod ov m pl)
      callWith pos f first (backTo pos (starEach (e :: es) X.env)) (backToKw pos (keywordEach [] X.env))) := by rfl) :
    PE X (.Call (.Attribute o m apos) (e :: es) [] pos) (tMethE C m sp E ta t) := by
  refine ⟨fun pins s σ H Q I h => ?_⟩
  refine PySem.W.methodCall_KW (pl := pl) (thn (he.run pins s σ H _ I h) fun u s1 ⟨x, H1, I1, rx, a, dx, fs, ex, ea, l, q⟩ => ?_) ht
  subst ex
  obtain rfl : u = Value.ref a := rx
  refine getmeth_ok I1 ea c hm l ?_
  refine PySem.W.callWith_K (first := [.ref a]) (h₀ := X.base) I.ok.mod.kin hm.kp (thn (ha.run pos pins s1 σ H1 _ I1 q) fun us s2 ⟨vs, H2, I2, r, q2⟩ => ⟨I2.kIn, ?_⟩) hst hpl
  exact run_fnS (E := E) (us := .ref a :: us) (vs := .ref a :: vs) F hr hb (hx σ) I2 (.cons rfl r) q2
end
/-- the text's method shifted -/
structure MShift (P : Program) (w : World) (K : PySem.W.Frag) (mg : Str → Option Value) (base : Heap) (C Ct : Addr) : Prop where
  at_ : ∃ (f : Addr) (fd : FuncData) (ps : List Str), Meth K C "shifted" f ∧ FnOk P w K mg base (L2.CX P w) 7 f fd ps (spShift K w C Ct) ∧ Binds K fd ps []
def spLawSh (K : PySem.W.Frag) (w : World) (C : Addr) : Sp := fun vs H Q _ => ∃ p P v d s, vs = [.ref p, v, .int s] ∧ FrAt K C H p P ∧ DV K w H v d ∧ shT d ∧ small s = true ∧
  (anyT P d = false → ∀ H', Same H H' → Q (.str "term") H') ∧
  ∀ ds i, d = .tuple (ds ++ [.int i]) → anyT P d = true → (small (i + s) = false → ∀ H', Same H H' → Q (.str "term") H') ∧ (small (i + s) = true → ∀ H' p', Same H H' → Dp K H' (.ref p') (.tuple (ds ++ [.int (i + s)])) → Q (.ref p') H')
section
variable {K : PySem.W.Frag} {mg : Str → Option Value} {base : Heap} {P : Program} {w : World}
abbrev n45 : List Str := ["_law_frame_here", "_law_term", "_law_shift"]
theorem sc45 : FnScope n45 n45 (defScope (topS 45)) := ⟨rfl, rfl, rfl, by decide +kernel, rfl, by decide +kernel, by decide +kernel⟩
theorem ok45 {f C Ct : Addr} {fd : FuncData} (F : Fun K "_law_shifted" "_law_shifted" (topS 45) f fd) (T : FrTxt K mg C) (O : OwnX K mg "InvalidTerm" Ct) (M : MShift P w K mg base C Ct) : FnOk P w K mg base CX0 8 f fd n45 (spLawSh K w C) := by
  refine F.ok sc45 (fun vs H Q E h => ?_) (fun cdv A outer s H vs Q E hr h => ?_)
  · obtain ⟨p, P, v, d, z, rfl, _⟩ := h
    rfl
  · obtain ⟨g, gd, ps, mt, G, bd⟩ := M.at_
    refine ⟨_, pss_one (ps_try_only (tb := fun W => tRet (tMethE C "shifted" (spShift K w C Ct) (WE W) (tVar 0) (tCons (tVar 1) (tCons (tVar 2) tNil)))) (ts := fun _ _ _ => tRet (tC (.str "term"))) (Wout := fun _ _ _ _ => False) rfl rfl ⟨rfl, by decide, Or.inl O.g⟩ takes0
      (fun W pn xe tk _ => pss_one (ps_ret (pe_methE (pv 0) T.cl mt G hr bd (fun σ => passAt tk σ) (pa_cons (pv 1) (pa_cons (pv 2) pa_nil)))))
      (fun _ _ _ _ _ _ _ => pss_one (ps_ret pe_str))), ?_⟩
    obtain ⟨p, P, v, d, z, rfl, fr, hd, sh, sm, q1, q2⟩ := h
    obtain ⟨ok, dx, fs, uA, uP, uV, aK, h1, h2, h3, h4, h5, h6, h7, h8, h9, h10⟩ := id fr
    refine ⟨_, rfl, p, dx, fs, rfl, h1, h6 _ (by decide), _, rfl, _, rfl, p, P, v, d, z, rfl, fr, hd, sh, sm, fun e H' s' => ?_, fun ds i e a => ⟨fun b H' s' => ?_, fun b H' p' s' dp => (q2 ds i e a).2 b H' p' s' dp⟩⟩
    · exact ⟨true, O.e, fun _ a ha => q1 e H' s', fun z => nomatch z⟩
    · exact ⟨true, O.e, fun _ c hc => (q2 ds i e a).1 b H' s', fun z => nomatch z⟩
end
end Fc
namespace Fc
open PySem L2 PyProof.Rows
/-! the draws -/
/-- all but what lies at S and G stays -/
def ButSG (S G : Addr) (H H' : Hp) : Prop := ∀ b o, b ≠ S → b ≠ G → H b = some o → H' b = some o
theorem ButSG.refl (S G : Addr) (H : Hp) : ButSG S G H H := fun _ _ _ _ h => h
theorem ButSG.trans {S G : Addr} {H H1 H2 : Hp} (a : ButSG S G H H1) (b : ButSG S G H1 H2) : ButSG S G H H2 := fun x o p q h => b x o p q (a x o p q h)
theorem ButSG.same {S G : Addr} {H H' : Hp} (s : Same H H') : ButSG S G H H' := fun b o _ _ h => s b o h
theorem ButSG.updS {S G : Addr} {H : Hp} {o : HO} : ButSG S G H (upd H S o) := fun b _ p _ h => by rw [upd_ne p]; exact h
theorem ButSG.updG {S G : Addr} {H : Hp} {o : HO} : ButSG S G H (upd H G o) := fun b _ _ p h => by rw [upd_ne p]; exact h
/-- a skein at S, its numbers at G, n pulls at most so far -/
structure SkAt (H : Hp) (S G : Addr) (n : Int) : Prop where
  ne : S ≠ G
  ex : ∃ (gs : List Int) (m c : Int), H S = some (.lst [.ref G, .int m, .int c]) ∧ H G = some (.lst (gs.map V.int)) ∧ (0 ≤ m ∧ m < 2 ^ 62) ∧ 0 ≤ c ∧ c ≤ n
def spPull (K : PySem.W.Frag) : Sp := fun vs H Q _ => ∃ S G n t, vs = [.ref S, .int t] ∧ SkAt H S G n ∧ n < 2 ^ 60 ∧ 0 < t ∧ t < 1000 ∧ ∀ r H', 0 ≤ r → r < t → ButSG S G H H' → SkAt H' S G (n + 1) → Q (.int r) H'
theorem dps_ints {K : PySem.W.Frag} {H : Hp} : ∀ l : List Int, DpAll K H (l.map V.int) (l.map PyData.int)
  | [] => .nil
  | x :: l => .cons (.int x) (dps_ints l)
theorem pl_ints (l : List Int) : plD (.list (l.map PyData.int)) := by
  refine ⟨plainAll_iff _ fun d hd => by obtain ⟨x, _, rfl⟩ := List.mem_map.mp hd; rfl, ?_⟩
  have e2 : PyData.depthAll (l.map PyData.int) ≤ 0 := (depAll_iff 0 _).mpr fun d hd => by obtain ⟨x, _, rfl⟩ := List.mem_map.mp hd; exact Nat.le_refl _
  show PyData.depthAll (l.map PyData.int) + 1 ≤ 64
  omega
section
variable {K : PySem.W.Frag} {mg : Str → Option Value} {base : Heap} {P : Program} {w : World}
abbrev n34 : List Str := ["_law_skein_here", "_law_total", "_law_one", "_law_two"]
theorem sc34 : FnScope n34 ["_law_skein_here", "_law_total"] (defScope (topS 34)) := ⟨rfl, rfl, rfl, by decide +kernel, rfl, by decide +kernel, by decide +kernel⟩
theorem ok34 {f : Addr} {fd : FuncData} (F : Fun K "_law_pull" "_law_pull" (topS 34) f fd) (B : Blt mg) : FnOk P w K mg base CX0 1 f fd ["_law_skein_here", "_law_total"] (spPull K) := by
  refine F.ok sc34 (fun vs H Q E h => ?_) (fun cdv A outer s H vs Q E hr h => ?_)
  · obtain ⟨S, G, n, t, rfl, _⟩ := h
    rfl
  · have hu := hu70 hr
    refine ⟨_, pss_cons (ps_while PassesOwn.never (pw_and (pt_cmpR (op_neP (hu64 hu)) (pe_ix ix_list (pv 0) pe_int (fun _ _ => rfl)) (pe_lst pa_nil) (nomark _)) (pw_and1 (pt_cmpR op_eq (pe_ix ix_list (pe_ix ix_list (pv 0) pe_int (fun _ _ => rfl)) pe_int (fun _ _ => rfl)) pe_int (nomark _)))).pt
        (pss_one (ps_expr (pe_bm PySem.F.plainAttrs_list PySem.F.slot_list_pop PySem.F.type_list_pop mt_popAt (pe_ix ix_list (pv 0) pe_int (fun _ _ => rfl)) (pa_cons pe_int pa_nil)))))
      (pss_cons (ps_if (pt_cmpR (op_neP (hu64 hu)) (pe_ix ix_list (pv 0) pe_int (fun _ _ => rfl)) (pe_lst pa_nil) (nomark _))
        (pss_cons (ps_set (i := 2) sc34.nd rfl (Or.inl rfl) (pe_callTy call_int1 (by rfl) B.int boot_int (pa_cons (pe_ix ix_list (pe_ix ix_list (pv 0) pe_int (fun _ _ => rfl)) pe_int (fun _ _ => rfl)) pa_nil)))
        (pss_cons (ps_asg (pe_op op_fdiv (pv 2) (pv 1)) (pg_sub (pe_ix ix_list (pv 0) pe_int (fun _ _ => rfl)) pe_int set_list))
        (pss_one (ps_ret (pe_op op_mod (pv 2) (pv 1)))))) pss_nil)
      (pss_cons (ps_asg (pe_op op_add (pe_ix ix_list (pv 0) pe_int (fun _ _ => rfl)) pe_int) (pg_sub (pv 0) pe_int set_list))
      (pss_cons (ps_set (i := 2) sc34.nd rfl (Or.inl rfl) (pe_op op_mod (pe_callTy call_int1 (by rfl) B.int boot_int (pa_cons (pe_op op_add (pe_op op_mul (pe_ix ix_list (pv 0) pe_int (fun _ _ => rfl)) pe_int) (pe_op op_mul (pe_ix ix_list (pv 0) pe_int (fun _ _ => rfl)) pe_int)) pa_nil)) pe_int))
      (pss_cons (ps_set (i := 3) sc34.nd rfl (Or.inl rfl) (pe_op op_mod (pe_callTy call_int1 (by rfl) B.int boot_int (pa_cons (pe_op op_add (pe_op op_mul (pv 2) (pv 2)) (pe_op op_mul pe_int (pe_ix ix_list (pv 0) pe_int (fun _ _ => rfl)))) pa_nil)) pe_int))
      (pss_one (ps_ret (pe_op op_mod (pe_callTy call_int1 (by rfl) B.int boot_int (pa_cons (pe_op op_fdiv (pe_op op_mod (pe_callTy call_int1 (by rfl) B.int boot_int (pa_cons (pe_op op_add (pe_op op_mul (pv 3) pe_int) (pv 2)) pa_nil)) pe_int) pe_int) pa_nil)) (pv 1)))))))), ?_⟩
    obtain ⟨S, G, n, t, rfl, ⟨ne, gs, m, c, hS, hG, ⟨m0, m1⟩, c0, cn⟩, nb, t0, t1, q⟩ := h
    have i0 : ∀ (a b c : V), atI [a, b, c] 0 = some a := fun a b c => atI_nat (j := 0) rfl
    have i1 : ∀ (a b c : V), atI [a, b, c] 1 = some b := fun a b c => atI_nat (j := 1) rfl
    have i2 : ∀ (a b c : V), atI [a, b, c] 2 = some c := fun a b c => atI_nat (j := 2) rfl
    have ne' : G ≠ S := fun e => ne e.symm
    -- the test: is the list of numbers []?
    have isE : ∀ gs : List Int, PyData.eqv (.list (gs.map PyData.int)) (.list []) = decide (gs = []) := fun gs => by
      cases gs with
      | nil => rfl
      | cons x l => rfl
    refine ⟨fun k σ H' => σ = [some (.ref S), some (.int t), none, none] ∧ ButSG S G H H' ∧ ∃ gs : List Int, k = gs.length ∧ H' S = some (.lst [.ref G, .int m, .int c]) ∧ H' G = some (.lst (gs.map V.int)), ⟨gs.length, rfl, ButSG.refl S G H, gs, rfl, hS, hG⟩, ?_⟩
    rintro k σ H1 ⟨rfl, b1, gs, rfl, hS, hG⟩
    refine ⟨_, rfl, S, _, 0, _, rfl, rfl, .inl (.inl hS), i0 _ _ _, Nat.zero_le _, fun L hL => ?_⟩
    have s1 := same_new (o := .lst ([] : List V)) hL
    refine ⟨.list (gs.map PyData.int), .list [], .lst (.inl (.inl (s1 _ _ hG))) (dps_ints gs), .lst (.inl (.inl upd_same)) .nil, pl_ints gs, pl_ints [], _, rfl, ?_⟩
    rw [isE]
    -- what is left, with no numbers
    have rest : ∀ H2, ButSG S G H H2 → H2 S = some (.lst [.ref G, .int m, .int c]) → H2 G = some (.lst []) → True := fun _ _ _ _ => trivial
    cases gs with
    | cons x l =>
      have hG1 := s1 _ _ hG
      have hS1 := s1 _ _ hS
      have ax : atI ((x :: l).map V.int) 0 = some (.int x) := atI_nat (j := 0) rfl
      have b2 := b1.trans (ButSG.same s1)
      refine iteT ⟨_, rfl, S, _, 0, _, rfl, rfl, .inl (.inl hS1), i0 _ _ _, G, _, 0, _, rfl, rfl, .inl (.inl hG1), ax, rfl, _, rfl, ?_⟩
      by_cases cx : x = 0
      · subst cx
        refine iteT ⟨_, fun σ' H' h => ⟨l.length, by simp, h⟩, _, rfl, S, _, 0, _, rfl, rfl, .inl (.inl hS1), i0 _ _ _, ?_⟩
        refine ⟨?_, G, _, 0, 0, _, rfl, rfl, hG1, by decide, by decide, ?_, rfl, ?_⟩
        · exact .inl ⟨rfl, _, .inl (.inl hG1)⟩
        · exact (ixN_seq (by unfold ixN; simp)).1
        · exact ⟨rfl, b2.trans ButSG.updG, l, rfl, by rw [upd_ne ne]; exact hS1, upd_same⟩
      · rw [decide_eq_false (fun e => cx (V.int.inj e))]
        refine iteF ⟨_, rfl, S, _, 0, _, rfl, rfl, .inl (.inl hS1), i0 _ _ _, Nat.zero_le _, fun L2 hL2 => ?_⟩
        have s2 := same_new (o := .lst ([] : List V)) hL2
        have hG2 := s2 _ _ hG1
        have hS2 := s2 _ _ hS1
        have b3 := b2.trans (ButSG.same s2)
        refine ⟨.list ((x :: l).map PyData.int), .list [], .lst (.inl (.inl hG2)) (dps_ints (x :: l)), .lst (.inl (.inl upd_same)) .nil, pl_ints (x :: l), pl_ints [], _, rfl, ?_⟩
        rw [isE]
        refine iteT ⟨_, rfl, S, _, 0, _, rfl, rfl, .inl (.inl hS2), i0 _ _ _, G, _, 0, _, rfl, rfl, .inl (.inl hG2), ax, .inl ⟨_, rfl, ?_⟩⟩
        refine ⟨_, rfl, _, rfl, _, _, rfl, rfl, ⟨t0, by omega⟩, _, rfl, S, _, 0, _, rfl, rfl, .inl (.inl hS2), i0 _ _ _, G, _, 0, 0, rfl, rfl, hG2, by unfold ixN; simp, ?_⟩
        refine ⟨_, rfl, _, rfl, _, _, rfl, rfl, t0, ?_⟩
        refine q _ _ (Int.emod_nonneg _ (by omega)) (Int.emod_lt_of_pos _ t0) (b3.trans ButSG.updG) ⟨ne, (x / t) :: l, m, c, by rw [upd_ne ne]; exact hS2, upd_same, ⟨m0, m1⟩, c0, by omega⟩
    | nil =>
      have hG1 := s1 _ _ hG
      have hS1 := s1 _ _ hS
      have b2 := b1.trans (ButSG.same s1)
      refine iteF ⟨_, rfl, S, _, 0, _, rfl, rfl, .inl (.inl hS1), i0 _ _ _, Nat.zero_le _, fun L2 hL2 => ?_⟩
      have s2 := same_new (o := .lst ([] : List V)) hL2
      have hG2 := s2 _ _ hG1
      have hS2 := s2 _ _ hS1
      have b3 := b2.trans (ButSG.same s2)
      refine ⟨.list (([] : List Int).map PyData.int), .list [], .lst (.inl (.inl hG2)) (dps_ints []), .lst (.inl (.inl upd_same)) .nil, pl_ints [], pl_ints [], _, rfl, ?_⟩
      rw [isE]
      refine iteF ⟨_, rfl, S, _, 2, _, rfl, rfl, .inl (.inl hS2), i2 _ _ _, _, _, rfl, rfl, _, rfl, S, _, 2, 2, rfl, rfl, hS2, rfl, ?_⟩
      have hS3 : (upd (upd (upd H1 L (.lst [])) L2 (.lst [])) S (.lst ([V.ref G, V.int m, V.int c].set 2 (.int (c + 1))))) S = some (.lst [.ref G, .int m, .int (c + 1)]) := upd_same
      have hG3 : (upd (upd (upd H1 L (.lst [])) L2 (.lst [])) S (.lst ([V.ref G, V.int m, V.int c].set 2 (.int (c + 1))))) G = some (.lst []) := by rw [upd_ne ne']; exact hG2
      have b4 : ButSG S G H (upd (upd (upd H1 L (.lst [])) L2 (.lst [])) S (.lst ([V.ref G, V.int m, V.int c].set 2 (.int (c + 1))))) := b3.trans ButSG.updS
      generalize upd (upd (upd H1 L (.lst [])) L2 (.lst [])) S (.lst ([V.ref G, V.int m, V.int c].set 2 (.int (c + 1)))) = H4 at *
      have p1 : (0 : Int) < 2305843009213693951 := by decide
      have p2 : (0 : Int) < 1152921504606846883 := by decide
      have p3 : (0 : Int) < 2305843009213693921 := by decide
      refine ⟨_, rfl, S, _, 1, _, rfl, rfl, .inl (.inl hS3), i1 _ _ _, _, _, rfl, rfl, .inl ⟨by omega, by omega⟩, _, rfl, S, _, 2, _, rfl, rfl, .inl (.inl hS3), i2 _ _ _, _, _, rfl, rfl, .inl ⟨by omega, by omega⟩, _, _, rfl, rfl, .inl ⟨_, rfl, _, _, rfl, rfl, p1, ?_⟩⟩
      have g0 := Int.emod_nonneg (m * 6364136223846793005 + (c + 1) * 2246822519) (show (2305843009213693951 : Int) ≠ 0 by decide)
      have g1 := Int.emod_lt_of_pos (m * 6364136223846793005 + (c + 1) * 2246822519) p1
      generalize (m * 6364136223846793005 + (c + 1) * 2246822519) % 2305843009213693951 = a at *
      refine ⟨_, rfl, _, rfl, _, _, rfl, rfl, .inl ⟨by omega, by omega⟩, _, rfl, S, _, 2, _, rfl, rfl, .inl (.inl hS3), i2 _ _ _, _, _, rfl, rfl, .inl ⟨by decide, by decide⟩, _, _, rfl, rfl, .inl ⟨_, rfl, _, _, rfl, rfl, p2, ?_⟩⟩
      have g2 := Int.emod_nonneg (a * a + 104729 * (c + 1)) (show (1152921504606846883 : Int) ≠ 0 by decide)
      have g3 := Int.emod_lt_of_pos (a * a + 104729 * (c + 1)) p2
      generalize (a * a + 104729 * (c + 1)) % 1152921504606846883 = d at *
      refine ⟨_, rfl, _, _, rfl, rfl, .inl ⟨by omega, by omega⟩, _, rfl, _, _, rfl, rfl, .inl ⟨_, rfl, _, _, rfl, rfl, p3, _, _, rfl, rfl, ⟨by decide, by decide⟩, .inl ⟨_, rfl, _, rfl, _, _, rfl, rfl, t0, ?_⟩⟩⟩
      exact q _ _ (Int.emod_nonneg _ (by omega)) (Int.emod_lt_of_pos _ t0) b4 ⟨ne, [], m, c + 1, hS3, hG3, ⟨m0, m1⟩, by omega, by omega⟩
end
end Fc
namespace Fc
open PySem L2 PyProof.Rows
theorem ButSG.seq {K : PySem.W.Frag} {S G p : Addr} {H H' : Hp} {xs : List V} (b : ButSG S G H H') (h1 : p ≠ S) (h2 : p ≠ G) (h : SqL K H p xs) : SqL K H' p xs := by
  rcases h with (h | ⟨o, h⟩) | h
  · exact .inl (.inl (b _ _ h1 h2 h))
  · exact .inl (.inr ⟨o, b _ _ h1 h2 h⟩)
  · exact .inr h
def spOne (K : PySem.W.Frag) : Sp := fun vs H Q _ => ∃ S G n p xs, vs = [.ref S, .ref p] ∧ SkAt H S G n ∧ n < 2 ^ 60 ∧ SqL K H p xs ∧ p ≠ S ∧ p ≠ G ∧ xs ≠ [] ∧ xs.length < 1000 ∧ ∀ v H', v ∈ xs → ButSG S G H H' → SkAt H' S G (n + 1) → Q v H'
section
variable {K : PySem.W.Frag} {mg : Str → Option Value} {base : Heap} {P : Program} {w : World}
abbrev n35 : List Str := ["_law_skein_here", "_law_items"]
theorem sc35 : FnScope n35 n35 (defScope (topS 35)) := ⟨rfl, rfl, rfl, by decide +kernel, rfl, by decide +kernel, by decide +kernel⟩
theorem ok35 {f : Addr} {fd : FuncData} (F : Fun K "_law_one_of" "_law_one_of" (topS 35) f fd) (B : Blt mg) (c34 : Cal P w K mg base 1 "_law_pull" (spPull K)) : FnOk P w K mg base CX0 2 f fd n35 (spOne K) := by
  refine F.ok sc35 (fun vs H Q E h => ?_) (fun cdv A outer s H vs Q E hr h => ?_)
  · obtain ⟨S, G, n, p, xs, rfl, _⟩ := h
    rfl
  · refine ⟨_, pss_one (ps_ret (pe_ix ix_list (pv 1) (pe_c c34 hr (by decide) (by rfl) (pa_cons (pv 0) (pa_cons (pe_callB call_len_seq (by rfl) B.len boot_len (pa_cons (pv 1) pa_nil)) pa_nil))) (fun _ _ => rfl))), ?_⟩
    obtain ⟨S, G, n, p, xs, rfl, sk, nb, sl, h1, h2, nn, hl, q⟩ := h
    have pos : 0 < xs.length := List.length_pos_iff.mpr nn
    refine ⟨_, rfl, _, rfl, _, rfl, p, xs, rfl, .inl sl, S, G, n, _, rfl, sk, nb, by omega, by omega, fun r H' r0 r1 b sk' => ?_⟩
    have hr : r.toNat < xs.length := by omega
    have hat : atI xs r = some xs[r.toNat] := by
      have h := atI_nat (List.getElem?_eq_getElem hr)
      rw [show ((r.toNat : Nat) : Int) = r by omega] at h
      exact h
    exact ⟨p, xs, r, _, rfl, rfl, b.seq h1 h2 sl, hat, q _ _ (List.getElem_mem hr) b sk'⟩
end
end Fc
namespace Fc
open PySem L2 PyProof.Rows
theorem erase_perm : ∀ (l : List V) (i : Nat) (h : i < l.length), (l[i] :: l.eraseIdx i).Perm l
  | x :: l, 0, _ => List.Perm.refl _
  | x :: l, i + 1, h => (List.Perm.swap x _ _).trans (List.Perm.cons x (erase_perm l i (by simpa using h)))
def spFew (K : PySem.W.Frag) : Sp := fun vs H Q _ => ∃ (S G : Addr) (n : Int) (p : Addr) (xs : List V) (k : Nat), vs = [.ref S, .ref p, .int (k : Int)] ∧ SkAt H S G n ∧ n + 100 < 2 ^ 60 ∧ SqL K H p xs ∧ p ≠ S ∧ p ≠ G ∧ xs.length ≤ 60 ∧
  ∀ H' F ys zs, ButSG S G H H' → SkAt H' S G (n + 60) → H F = none → H' F = some (.lst ys) → ys.length = min k xs.length → xs.Perm (ys ++ zs) → Q (.ref F) H'
section
variable {K : PySem.W.Frag} {mg : Str → Option Value} {base : Heap} {P : Program} {w : World}
abbrev n36 : List Str := ["_law_skein_here", "_law_items", "_law_count", "_law_left", "_law_found", "_law_turn"]
theorem sc36 : FnScope n36 ["_law_skein_here", "_law_items", "_law_count"] (defScope (topS 36)) := ⟨rfl, rfl, rfl, by decide +kernel, rfl, by decide +kernel, by decide +kernel⟩
theorem ok36 {f : Addr} {fd : FuncData} (F : Fun K "_law_few_of" "_law_few_of" (topS 36) f fd) (B : Blt mg) (c34 : Cal P w K mg base 1 "_law_pull" (spPull K)) : FnOk P w K mg base CX0 2 f fd ["_law_skein_here", "_law_items", "_law_count"] (spFew K) := by
  refine F.ok sc36 (fun vs H Q E h => ?_) (fun cdv A outer s H vs Q E hr h => ?_)
  · obtain ⟨S, G, n, p, xs, k, rfl, _⟩ := h
    rfl
  · refine ⟨_, pss_cons (ps_par (i := 3) (j := 4) rfl sc36.nd rfl rfl (by decide) rfl rfl (pa_cons (pe_callTy call_list_of (by rfl) B.list boot_list (pa_cons (pv 1) pa_nil)) (pa_cons (pe_lst pa_nil) pa_nil)) (by rfl))
      (pss_cons (ps_for PassesOwn.never rfl (pi_range1 (by rfl) B.range (pa_cons (pe_callB (call_min2 rfl) (by rfl) B.min boot_min (pa_cons (pv 2) (pa_cons (pe_callB call_len_seq (by rfl) B.len boot_len (pa_cons (pv 1) pa_nil)) pa_nil))) pa_nil)) (pg_name (i := 5) sc36.nd rfl (Or.inl rfl))
        (pss_one (ps_expr (pe_bm PySem.F.plainAttrs_list PySem.F.slot_list_append PySem.F.type_list_append mt_append (pv 4) (pa_cons (pe_bm PySem.F.plainAttrs_list PySem.F.slot_list_pop PySem.F.type_list_pop mt_popAt (pv 3)
          (pa_cons (pe_c c34 hr (by decide) (by rfl) (pa_cons (pv 0) (pa_cons (pe_callB call_len_seq (by rfl) B.len boot_len (pa_cons (pv 3) pa_nil)) pa_nil))) pa_nil)) pa_nil)))))
      (pss_one (ps_ret (pv 4)))), ?_⟩
    obtain ⟨S, G, n, p, xs, k, rfl, sk, nb, sl, h1, h2, hl, q⟩ := h
    refine ⟨_, rfl, p, xs, rfl, .inl sl, fun L hL => ?_⟩
    have s1 := same_new (o := .lst xs) hL
    refine ⟨Nat.zero_le _, fun M hM => ?_⟩
    have s2 := same_new (o := .lst ([] : List V)) hM
    obtain ⟨ne, gs, m, c, hS, hG, hm, hc⟩ := id sk
    have nLS : L ≠ S := fun e => by rw [e, hS] at hL; cases hL
    have nLG : L ≠ G := fun e => by rw [e, hG] at hL; cases hL
    have s12 := s1.trans s2
    have hM0 : H M = none := Same.none_of s1 hM
    have nMS : M ≠ S := fun e => by rw [e, hS] at hM0; cases hM0
    have nMG : M ≠ G := fun e => by rw [e, hG] at hM0; cases hM0
    have nML : M ≠ L := fun e => by rw [e, upd_same] at hM; cases hM
    have bit : ∀ {H1 : Hp} {a : Addr} {o : HO}, H a = none → ButSG S G H H1 → ButSG S G H (upd H1 a o) := fun ha b x o' p q e => by rw [upd_ne (ne_of_none e ha)]; exact b x o' p q e
    have skL : ∀ {H1 : Hp} {a : Addr} {o : HO} {n : Int}, a ≠ S → a ≠ G → SkAt H1 S G n → SkAt (upd H1 a o) S G n := fun h1 h2 ⟨e, gs, m, c, a, b, d⟩ => ⟨e, gs, m, c, by rw [upd_ne h1.symm]; exact a, by rw [upd_ne h2.symm]; exact b, d⟩
    have hL2 : (upd (upd H L (.lst xs)) M (.lst [])) L = some (.lst xs) := s2 _ _ upd_same
    have hM2 : (upd (upd H L (.lst xs)) M (.lst [])) M = some (.lst []) := upd_same
    have b2 : ButSG S G H (upd (upd H L (.lst xs)) M (.lst [])) := ButSG.same s12
    have sk2 : SkAt (upd (upd H L (.lst xs)) M (.lst [])) S G n := skL nMS nMG (skL nLS nLG sk)
    have sl2 : SqL K (upd (upd H L (.lst xs)) M (.lst [])) p xs := b2.seq h1 h2 sl
    generalize upd (upd H L (.lst xs)) M (.lst []) = H2 at *
    refine ⟨_, _, rfl, _, rfl, _, rfl, p, xs, rfl, .inl sl2, _, _, rfl, _, rfl, by split <;> omega, by split <;> omega, ?_⟩
    have eN : (if ((xs.length : Nat) : Int) < (k : Int) then ((xs.length : Nat) : Int) else (k : Int)).toNat = min k xs.length := by split <;> omega
    rw [eN]
    refine for_steady steady_rng (fun i σ H' => (∃ z, σ = [some (.ref S), some (.ref p), some (.int k), some (.ref L), some (.ref M), z]) ∧ ButSG S G H H' ∧ SkAt H' S G (n + i) ∧ ∃ ls ys, H' L = some (.lst ls) ∧ H' M = some (.lst ys) ∧ ys.length = i ∧ ls.length + i = xs.length ∧ xs.Perm (ys ++ ls)) ⟨⟨_, rfl⟩, b2, by simpa using sk2, xs, [], hL2, hM2, rfl, rfl, List.Perm.refl _⟩ (fun _ _ _ _ _ => trivial) ?_ ?_
    · rintro i σ H3 hi ⟨⟨z, rfl⟩, b3, sk3, ls, ys, hL3, hM3, ly, ll, pm⟩
      refine ⟨_, rfl, .inl ⟨rfl, _, .inl (.inl hM3)⟩, _, rfl, .inl ⟨rfl, _, .inl (.inl hL3)⟩, _, rfl, _, rfl, L, ls, rfl, .inl (.inl (.inl hL3)), S, G, n + i, _, rfl, sk3, by omega, by omega, by omega, fun r H4 r0 r1 b4 sk4 => ?_⟩
      have hr : r.toNat < ls.length := by omega
      have hL4 := b4 _ _ nLS nLG hL3
      have hM4 := b4 _ _ nMS nMG hM3
      refine ⟨L, ls, r, r.toNat, ls[r.toNat], rfl, rfl, hL4, by omega, by omega, (ixN_seq (by unfold ixN; rw [if_pos r0, if_pos r1])).1, List.getElem?_eq_getElem hr, ?_⟩
      have hM5 : (upd H4 L (.lst (ls.eraseIdx r.toNat))) M = some (.lst ys) := by rw [upd_ne nML]; exact hM4
      refine ⟨M, ys, _, rfl, rfl, hM5, by rw [sizeLine_eq]; omega, ⟨_, rfl⟩, bit hM0 (bit hL (b3.trans b4)), ?_, ls.eraseIdx r.toNat, ys ++ [ls[r.toNat]], ?_, upd_same, ?_, ?_, ?_⟩
      · have := skL (o := .lst (ys ++ [ls[r.toNat]])) nMS nMG (skL (o := .lst (ls.eraseIdx r.toNat)) nLS nLG sk4)
        rw [show n + ((i + 1 : Nat) : Int) = n + i + 1 by omega]
        exact this
      · rw [upd_ne nML.symm]; exact upd_same
      · rw [List.length_append, ly]; rfl
      · rw [List.length_eraseIdx_of_lt hr]; omega
      · refine pm.trans ?_
        rw [List.append_assoc]
        exact List.Perm.append_left ys (erase_perm ls r.toNat hr).symm
    · rintro σ H3 ⟨⟨z, rfl⟩, b3, sk3, ls, ys, hL3, hM3, ly, ll, pm⟩
      refine ⟨_, rfl, q H3 M ys ls b3 ?_ hM0 hM3 ly pm⟩
      obtain ⟨e, gs, m, c, a1, a2, a3, a4, a5⟩ := sk3
      exact ⟨e, gs, m, c, a1, a2, a3, a4, by omega⟩
end
end Fc
namespace Fc
open PySem L2 PyProof.Rows
/-- the parts that are made of twelve words: h heads with lengths by b, j positions, k values -/
def drawnP (ws : List Str) (h : Nat) (b : Nat → Nat) (j k : Nat) : Pa := ⟨(List.range h).map fun i => (ws.getD i Str.empty, ws.getD (3 + b i) Str.empty), (ws.drop 6).take j, (ws.drop 9).take k⟩
theorem drawn_mem {ws : List Str} (l12 : ws.length = 12) {h j k : Nat} {b : Nat → Nat} (hh : h ≤ 3) (hb : ∀ i, b i ≤ 1) (hj : j ≤ 3) (hk : k ≤ 3) :
    (∀ x ∈ (drawnP ws h b j k).arrays.map (·.1), ∃ i, i < 3 ∧ ws[i]? = some x) ∧ (∀ x ∈ lensOf (drawnP ws h b j k).arrays, ∃ i, 3 ≤ i ∧ i < 5 ∧ ws[i]? = some x) ∧
    (∀ x ∈ (drawnP ws h b j k).pos, ∃ i, 6 ≤ i ∧ i < 9 ∧ ws[i]? = some x) ∧ (∀ x ∈ (drawnP ws h b j k).vals, ∃ i, 9 ≤ i ∧ i < 12 ∧ ws[i]? = some x) := by
  have at_ : ∀ i, i < 12 → ws[i]? = some (ws.getD i Str.empty) := fun i hi => by
    rw [List.getD_eq_getElem?_getD, List.getElem?_eq_getElem (by omega)]; rfl
  refine ⟨fun x hx => ?_, fun x hx => ?_, fun x hx => ?_, fun x hx => ?_⟩
  · obtain ⟨e, he, rfl⟩ := List.mem_map.mp hx
    obtain ⟨i, hi, rfl⟩ := List.mem_map.mp he
    have := List.mem_range.mp hi
    exact ⟨i, by omega, at_ i (by omega)⟩
  · rw [lens_once, mem_onceS] at hx
    obtain ⟨e, he, rfl⟩ := List.mem_map.mp hx
    obtain ⟨i, hi, rfl⟩ := List.mem_map.mp he
    have := hb i
    exact ⟨3 + b i, by omega, by omega, at_ _ (by omega)⟩
  · replace hx : x ∈ (ws.drop 6).take j := hx
    obtain ⟨i, hi, e⟩ := List.mem_iff_getElem.mp hx
    have l : i < ((ws.drop 6).take j).length := hi
    rw [List.length_take, List.length_drop] at l
    refine ⟨6 + i, by omega, by omega, ?_⟩
    rw [← e]
    rw [List.getElem_take, List.getElem_drop, List.getElem?_eq_getElem]
  · replace hx : x ∈ (ws.drop 9).take k := hx
    obtain ⟨i, hi, e⟩ := List.mem_iff_getElem.mp hx
    have l : i < ((ws.drop 9).take k).length := hi
    rw [List.length_take, List.length_drop] at l
    refine ⟨9 + i, by omega, by omega, ?_⟩
    rw [← e]
    rw [List.getElem_take, List.getElem_drop, List.getElem?_eq_getElem]
theorem drawn_ok {ws : List Str} (l12 : ws.length = 12) (nd : ws.Nodup) {h j k : Nat} {b : Nat → Nat} (hh : h ≤ 3) (hb : ∀ i, b i ≤ 1) (hj : j ≤ 3) (hk : k ≤ 3) : okB (drawnP ws h b j k) = true := by
  obtain ⟨m1, m2, m3, m4⟩ := drawn_mem l12 (b := b) hh hb hj hk
  have inj : ∀ {i i' : Nat} {x : Str}, ws[i]? = some x → ws[i']? = some x → i = i' := fun {i i' x} a b => by
    obtain ⟨p, q⟩ := List.getElem?_eq_some_iff.mp a
    obtain ⟨p', q'⟩ := List.getElem?_eq_some_iff.mp b
    have pw := List.pairwise_iff_getElem.mp nd
    rcases Nat.lt_trichotomy i i' with c | c | c
    · exact absurd (q.trans q'.symm) (pw i i' p p' c)
    · exact c
    · exact absurd (q'.trans q.symm) (pw i' i p' p c)
  have e1 : (drawnP ws h b j k).arrays.map (·.1) = ws.take h := by
    refine List.ext_getElem (by simp [drawnP]; omega) fun i h1 h2 => ?_
    simp only [drawnP, List.getElem_map, List.getElem_range, List.getElem_take]
    rw [List.getD_eq_getElem?_getD, List.getElem?_eq_getElem (by simp [drawnP] at h1; omega)]
    rfl
  have n1 : ((drawnP ws h b j k).arrays.map (·.1)).Nodup := by rw [e1]; exact nd.sublist (List.take_sublist ..)
  have n2 : (lensOf (drawnP ws h b j k).arrays).Nodup := by rw [lens_once]; exact onceS_nodup _
  have n3 : (drawnP ws h b j k).pos.Nodup := nd.sublist ((List.take_sublist ..).trans (List.drop_sublist ..))
  have n4 : (drawnP ws h b j k).vals.Nodup := nd.sublist ((List.take_sublist ..).trans (List.drop_sublist ..))
  have n : (namesL (drawnP ws h b j k)).Nodup := by
    unfold namesL
    refine List.nodup_append.mpr ⟨n1, List.nodup_append.mpr ⟨n2, List.nodup_append.mpr ⟨n3, n4, ?_⟩, ?_⟩, ?_⟩
    · intro x hx y hy e
      subst e
      obtain ⟨i, a1, a2, a3⟩ := m3 x hx
      obtain ⟨i', b1, b2, b3⟩ := m4 x hy
      have := inj a3 b3
      omega
    · intro x hx y hy e
      subst e
      obtain ⟨i, a1, a2, a3⟩ := m2 x hx
      rcases List.mem_append.mp hy with hy | hy
      · obtain ⟨i', b1, b2, b3⟩ := m3 x hy
        have := inj a3 b3
        omega
      · obtain ⟨i', b1, b2, b3⟩ := m4 x hy
        have := inj a3 b3
        omega
    · intro x hx y hy e
      subst e
      obtain ⟨i, a2, a3⟩ := m1 x hx
      rcases List.mem_append.mp hy with hy | hy
      · obtain ⟨i', b1, b2, b3⟩ := m2 x hy
        have := inj a3 b3
        omega
      rcases List.mem_append.mp hy with hy | hy
      · obtain ⟨i', b1, b2, b3⟩ := m3 x hy
        have := inj a3 b3
        omega
      · obtain ⟨i', b1, b2, b3⟩ := m4 x hy
        have := inj a3 b3
        omega
  unfold okB
  simp only [Bool.and_eq_true, decide_eq_true_iff]
  refine ⟨?_, ?_, ?_, n⟩
  · show ((List.range h).map _).length ≤ 12
    rw [List.length_map, List.length_range]; omega
  · show ((ws.drop 6).take j).length ≤ 8
    rw [List.length_take]; omega
  · show ((ws.drop 9).take k).length ≤ 6
    rw [List.length_take]; omega
end Fc
namespace Fc
open PySem L2 PyProof.Rows
def W16 : List Str := ["a", "b", "i", "j", "n", "m", "x", "k", "kk", "in", "not", "pos", "or", "rowrowro", "wa", "zz"]
theorem W16_nd : W16.Nodup := by decide +kernel
theorem W16_nm : ∀ x ∈ W16, isNameS x = true ∧ x.length ≤ 1000 := by decide +kernel
def spParts (K : PySem.W.Frag) : Sp := fun vs H Q _ => ∃ S G n, vs = [.ref S] ∧ SkAt H S G n ∧ n + 200 < 2 ^ 60 ∧ ∀ H' r P, ButSG S G H H' → SkAt H' S G (n + 66) → H r = none → RowAt K H' r P → okB P = true → Q (.ref r) H'
theorem texts_back : ∀ {ys : List V}, (∀ y ∈ ys, ∃ x, y = V.str x) → ∃ ws : List Str, ys = ws.map V.str
  | [], _ => ⟨[], rfl⟩
  | y :: ys, h => by
    obtain ⟨x, rfl⟩ := h y (List.mem_cons_self ..)
    obtain ⟨ws, rfl⟩ := texts_back fun z hz => h z (List.mem_cons_of_mem _ hz)
    exact ⟨x :: ws, rfl⟩
theorem drawn_words {ys zs : List V} (pm : (W16.map V.str).Perm (ys ++ zs)) : ∃ ws : List Str, ys = ws.map V.str ∧ ws.Nodup ∧ ∀ x ∈ ws, x ∈ W16 := by
  have all : ∀ y ∈ ys, ∃ x, y = V.str x := fun y hy => by
    obtain ⟨x, _, e⟩ := List.mem_map.mp (pm.mem_iff.mpr (List.mem_append_left _ hy))
    exact ⟨x, e.symm⟩
  obtain ⟨ws, rfl⟩ := texts_back all
  have nd : (W16.map V.str).Nodup := by
    refine List.pairwise_map.mpr (W16_nd.imp fun h e => h (V.str.inj e))
  have nd2 : (ws.map V.str).Nodup := (List.nodup_append.mp (pm.nodup_iff.mp nd)).1
  refine ⟨ws, rfl, ?_, fun x hx => ?_⟩
  · exact (List.pairwise_map.mp nd2).imp fun h e => h (by rw [e])
  · obtain ⟨y, hy, e⟩ := List.mem_map.mp (pm.mem_iff.mpr (List.mem_append_left zs (List.mem_map.mpr ⟨x, hx, rfl⟩)))
    rw [← V.str.inj e]
    exact hy
theorem tups_but {K : PySem.W.Frag} {S G : Addr} {H H' : Hp} {n : Int} (b : ButSG S G H H') (k : SkAt H S G n) : Tups K H H' := by
  obtain ⟨ne, gs, m, c, hS, hG, _⟩ := k
  have n1 : ∀ {a : Addr} {u : HO}, (∀ l, u ≠ .lst l) → H a = some u → a ≠ S ∧ a ≠ G := fun {a u} h e => ⟨fun z => by rw [z, hS] at e; exact h _ (Option.some.inj e).symm, fun z => by rw [z, hG] at e; exact h _ (Option.some.inj e).symm⟩
  refine Tups.of fun a ys r => r.elim (fun z => ?_) fun ⟨o, z⟩ => ?_
  · obtain ⟨p, q⟩ := n1 (fun _ e => by cases e) z
    exact .inl (b _ _ p q z)
  · obtain ⟨p, q⟩ := n1 (fun _ e => by cases e) z
    exact .inr ⟨o, b _ _ p q z⟩
def rowsB (ws : List Str) (b : Nat → Nat) (i : Nat) : List PyData := (List.range i).map fun t => PyData.tuple [.str (ws.getD t Str.empty), .str (ws.getD (3 + b t) Str.empty)]
theorem rowsB_flat (ws : List Str) (b : Nat → Nat) (i : Nat) : tupDs (rowsB ws b i) = true := by
  unfold rowsB
  induction (List.range i) with
  | nil => rfl
  | cons t l ih => exact ih
theorem rowsB_succ (ws : List Str) (b : Nat → Nat) (i r : Nat) : rowsB ws (fun t => if t = i then r else b t) (i + 1) = rowsB ws b i ++ [PyData.tuple [.str (ws.getD i Str.empty), .str (ws.getD (3 + r) Str.empty)]] := by
  unfold rowsB
  rw [List.range_succ, List.map_append]
  congr 1
  · refine List.map_congr_left fun t ht => ?_
    have := List.mem_range.mp ht
    show PyData.tuple [.str (ws.getD t Str.empty), .str (ws.getD (3 + if t = i then r else b t) Str.empty)] = _
    rw [if_neg (show ¬ t = i by omega)]
  · simp
section
variable {K : PySem.W.Frag} {mg : Str → Option Value} {base : Heap} {P : Program} {w : World}
abbrev n37 : List Str := ["_law_skein_here", "_law_words", "_law_heads", "_law_at"]
theorem sc37 : FnScope n37 ["_law_skein_here"] (defScope (topS 37)) := ⟨rfl, rfl, rfl, by decide +kernel, rfl, by decide +kernel, by decide +kernel⟩
theorem ok37 {f : Addr} {fd : FuncData} (F : Fun K "_law_parts" "_law_parts" (topS 37) f fd) (B : Blt mg) (c34 : Cal P w K mg base 1 "_law_pull" (spPull K)) (c36 : Cal P w K mg base 2 "_law_few_of" (spFew K)) : FnOk P w K mg base CX0 3 f fd ["_law_skein_here"] (spParts K) := by
  refine F.ok sc37 (fun vs H Q E h => ?_) (fun cdv A outer s H vs Q E hr h => ?_)
  · obtain ⟨S, G, n, rfl, _⟩ := h
    rfl
  · refine ⟨_, pss_cons (ps_set (i := 1) sc37.nd rfl (Or.inl rfl) (pe_lst (pa_cons pe_str (pa_cons pe_str (pa_cons pe_str (pa_cons pe_str (pa_cons pe_str (pa_cons pe_str (pa_cons pe_str (pa_cons pe_str (pa_cons pe_str (pa_cons pe_str (pa_cons pe_str (pa_cons pe_str (pa_cons pe_str (pa_cons pe_str (pa_cons pe_str (pa_cons pe_str pa_nil))))))))))))))))))
      (pss_cons (ps_par (i := 1) (j := 2) rfl sc37.nd rfl rfl (by decide) rfl rfl (pa_cons (pe_c c36 hr (by decide) (by rfl) (pa_cons (pv 0) (pa_cons (pv 1) (pa_cons pe_int pa_nil)))) (pa_cons (pe_lst pa_nil) pa_nil)) (by rfl))
      (pss_cons (ps_for PassesOwn.never rfl (pi_range1 (by rfl) B.range (pa_cons (pe_c c34 hr (by decide) (by rfl) (pa_cons (pv 0) (pa_cons pe_int pa_nil))) pa_nil)) (pg_name (i := 3) sc37.nd rfl (Or.inl rfl))
        (pss_one (ps_expr (pe_bm PySem.F.plainAttrs_list PySem.F.slot_list_append PySem.F.type_list_append mt_append (pv 2) (pa_cons (pe_tup (pa_cons (pe_ix ix_list (pv 1) (pv 3) (fun _ _ => rfl)) (pa_cons (pe_ix ix_list (pv 1) (pe_op op_add pe_int (pe_c c34 hr (by decide) (by rfl) (pa_cons (pv 0) (pa_cons pe_int pa_nil)))) (fun _ _ => rfl)) pa_nil))) pa_nil)))))
      (pss_one (ps_ret (pe_lst (pa_cons (pe_callTy call_tuple_of (by rfl) B.tuple boot_tuple (pa_cons (pv 2) pa_nil))
        (pa_cons (pe_callTy call_tuple_of (by rfl) B.tuple boot_tuple (pa_cons (pe_slice sl_list (pv 1) (po_some pe_int) (po_some (pe_op op_add pe_int (pe_c c34 hr (by decide) (by rfl) (pa_cons (pv 0) (pa_cons pe_int pa_nil)))))) pa_nil))
        (pa_cons (pe_callTy call_tuple_of (by rfl) B.tuple boot_tuple (pa_cons (pe_slice sl_list (pv 1) (po_some pe_int) (po_some (pe_op op_add pe_int (pe_c c34 hr (by decide) (by rfl) (pa_cons (pv 0) (pa_cons pe_int pa_nil)))))) pa_nil)) pa_nil)))))))), ?_⟩
    obtain ⟨S, G, n, rfl, sk, nb, q⟩ := h
    have sl : sizeLine = 16777216 := sizeLine_eq
    refine ⟨by rw [sl]; exact (by decide : 16 ≤ 16777216), fun A hA => ?_⟩
    have s0 := same_new (o := .lst (W16.map V.str)) hA
    obtain ⟨ne, gs, m, c, hS, hG, hm, hc⟩ := id sk
    have nAS : A ≠ S := fun e => by rw [e, hS] at hA; cases hA
    have nAG : A ≠ G := fun e => by rw [e, hG] at hA; cases hA
    have sk0 : SkAt (upd H A (.lst (W16.map V.str))) S G n := ⟨ne, gs, m, c, s0 _ _ hS, s0 _ _ hG, hm, hc⟩
    have hA0 : (upd H A (.lst (W16.map V.str))) A = some (.lst (W16.map V.str)) := upd_same
    refine ⟨_, rfl, _, rfl, S, G, n, A, W16.map V.str, 12, rfl, sk0, by omega, .inl (.inl hA0), nAS, nAG, by decide, fun H1 F1 ys zs b1 sk1 nF hF ly pm => ?_⟩
    have bb : ButSG S G H H1 := (ButSG.same s0).trans b1
    have nF0 : H F1 = none := Same.none_of s0 nF
    have nFS : F1 ≠ S := fun e => by rw [e, hS] at nF0; cases nF0
    have nFG : F1 ≠ G := fun e => by rw [e, hG] at nF0; cases nF0
    clear hS hG hm hc sk0 hA0
    obtain ⟨ws, rfl, nd, mem⟩ := drawn_words pm
    have l12 : ws.length = 12 := by rw [List.length_map] at ly; exact ly
    obtain ⟨ne, gs, m, c, hS, hG, hm, hc⟩ := id sk1
    refine ⟨Nat.zero_le _, fun M hM => ?_⟩
    have s2 := same_new (o := .lst ([] : List V)) hM
    have nMS : M ≠ S := fun e => by rw [e, hS] at hM; cases hM
    have nMG : M ≠ G := fun e => by rw [e, hG] at hM; cases hM
    have nMF : M ≠ F1 := fun e => by rw [e, hF] at hM; cases hM
    have sk2 : SkAt (upd H1 M (.lst [])) S G (n + 60) := ⟨ne, gs, m, c, s2 _ _ hS, s2 _ _ hG, hm, hc⟩
    have hM0 : H M = none := by
      cases e : H M with
      | none => rfl
      | some o => rw [bb _ _ nMS nMG e] at hM; cases hM
    refine ⟨_, _, rfl, _, rfl, S, G, n + 60, 4, rfl, sk2, by omega, by decide, by decide, fun hN H3 r0 r1 b3 sk3 => ⟨_, rfl, by omega, by omega, ?_⟩⟩
    have hF2 := s2 _ _ hF
    have hM2 : (upd H1 M (.lst ([] : List V))) M = some (.lst []) := upd_same
    have hF3 := b3 _ _ nFS nFG hF2
    have hM3 := b3 _ _ nMS nMG hM2
    have bb3 : ButSG S G H H3 := (bb.trans (ButSG.same s2)).trans b3
    clear hF2 hM2 hS hG hm hc sk2 hF hM b3 s2
    have atW : ∀ i, i < 12 → atI (ws.map V.str) (i : Nat) = some (V.str (ws.getD i Str.empty)) := fun i hi => atI_nat (by
      rw [List.getElem?_map, List.getElem?_eq_getElem (by omega), List.getD_eq_getElem?_getD, List.getElem?_eq_getElem (by omega)]; rfl)
    refine for_steady steady_rng (fun i σ H' => ∃ (b : Nat → Nat) (z : Option V) (rs : List V), σ = [some (.ref S), some (.ref F1), some (.ref M), z] ∧ (∀ t, b t ≤ 1) ∧ ButSG S G H H' ∧ SkAt H' S G (n + 61 + i) ∧ H' F1 = some (.lst (ws.map V.str)) ∧ H' M = some (.lst rs) ∧ DpAll K H' rs (rowsB ws b i))
      ⟨fun _ => 0, _, [], rfl, fun _ => Nat.zero_le _, bb3, by rw [show n + 61 + ((0 : Nat) : Int) = n + 60 + 1 by omega]; exact sk3, hF3, hM3, .nil⟩ (fun _ _ _ _ _ => trivial) ?_ ?_
    · rintro i σ H4 hi ⟨b, z, rs, rfl, hb, b4, sk4, hF4, hM4, dr⟩
      have hi3 : i < 3 := by omega
      refine ⟨_, rfl, .inl ⟨rfl, _, .inl (.inl hM4)⟩, _, rfl, _, rfl, F1, _, _, _, rfl, rfl, .inl (.inl hF4), by rw [Int.zero_add]; exact atW i (by omega), _, rfl, _, rfl, S, G, n + 61 + i, 2, rfl, sk4, by omega, by decide, by decide, fun r H5 q0 q1 b5 sk5 => ?_⟩
      have hF5 := b5 _ _ nFS nFG hF4
      have hM5 := b5 _ _ nMS nMG hM4
      refine ⟨_, _, rfl, rfl, F1, _, _, _, rfl, rfl, .inl (.inl hF5), by rw [show (3 : Int) + r = ((3 + r.toNat : Nat) : Int) by omega]; exact atW _ (by omega), by rw [sl]; exact (by decide : 2 ≤ 16777216), fun t ht => ?_⟩
      have s6 := same_new (o := .tup [V.str (ws.getD i Str.empty), V.str (ws.getD (3 + r.toNat) Str.empty)]) ht
      have hM6 := s6 _ _ hM5
      have lr : rs.length = i := by rw [dp_len dr]; unfold rowsB; rw [List.length_map, List.length_range]
      have tp := (Tups.upd (K := K) (H := upd H5 t (.tup [V.str (ws.getD i Str.empty), V.str (ws.getD (3 + r.toNat) Str.empty)])) (a := M) (o := .lst (rs ++ [V.ref t])) fun u e => by rw [hM6] at e; cases e; exact True.intro)
      refine ⟨M, rs, _, rfl, rfl, hM6, by rw [sl]; omega, fun t' => if t' = i then r.toNat else b t', _, rs ++ [.ref t], rfl, fun t' => ?_, fun x o p q e => ?_, ?_, ?_, upd_same, ?_⟩
      · show (if t' = i then r.toNat else b t') ≤ 1
        split
        · omega
        · exact hb t'
      · rw [upd_ne (ne_of_none e hM0)]
        exact ((b4.trans b5).trans (ButSG.same s6)) x o p q e
      · obtain ⟨ne, gs, m, c, a1, a2, a3⟩ := sk5
        exact ⟨ne, gs, m, c, by rw [upd_ne nMS.symm]; exact s6 _ _ a1, by rw [upd_ne nMG.symm]; exact s6 _ _ a2, a3.1, a3.2.1, by have := a3.2.2; omega⟩
      · rw [upd_ne nMF.symm]; exact s6 _ _ hF5
      · rw [rowsB_succ]
        exact dps_app (dps_tups (((tups_but b5 sk4).trans (Tups.same s6)).trans tp) _ _ (rowsB_flat ws b i) dr) (.cons (.tup (tp _ _ (.inl (.inl upd_same))) (.cons (.str _) (.cons (.str _) .nil))) .nil)
    · rintro σ H4 ⟨b, z, rs, rfl, hb, b4, sk4, hF4, hM4, dr⟩
      refine ⟨_, rfl, M, rs, rfl, .inl ⟨.inl (.inl hM4), fun t1 h1 => ?_⟩⟩
      have s5 := same_new (o := .tup rs) h1
      have sk5 : SkAt (upd H4 t1 (.tup rs)) S G (n + 64) := by
        obtain ⟨ne, gs, m, c, a1, a2, a3⟩ := sk4
        exact ⟨ne, gs, m, c, s5 _ _ a1, s5 _ _ a2, a3.1, a3.2.1, by have := a3.2.2; omega⟩
      refine ⟨_, rfl, 6, rfl, _, rfl, S, G, n + 64, 4, rfl, sk5, by omega, by decide, by decide, fun j H6 j0 j1 b6 sk6 => ?_⟩
      have hF6 := b6 _ _ nFS nFG (s5 _ _ hF4)
      refine ⟨_, _, rfl, rfl, _, rfl, F1, _, rfl, .inl (.inl hF6), fun L hL => ⟨L, _, rfl, .inl ⟨.inl (.inl upd_same), fun t2 h2 => ?_⟩⟩⟩
      have cut : ∀ (a : Nat) (j : Int), 0 ≤ j → a + j ≤ 12 → cutV (ws.map V.str) (some (a : Int)) (some ((a : Int) + j)) = ((ws.drop a).take j.toNat).map V.str := fun a j h0 h1 => by
        unfold cutV
        have e : (a : Int) + j = ((a + j.toNat : Nat) : Int) := by omega
        rw [e, HT.sIx_nat, HT.sIx_nat, List.length_map, l12, List.map_take, List.map_drop, Nat.min_eq_left (by omega), Nat.min_eq_left (by omega), Nat.add_sub_cancel_left]
      have c6 : cutV (ws.map V.str) (some 6) (some (6 + j)) = ((ws.drop 6).take j.toNat).map V.str := cut 6 j j0 (by omega)
      rw [c6] at h2 ⊢
      have s7 := same_new (o := .lst (((ws.drop 6).take j.toNat).map V.str)) hL
      have s8 := same_new (o := .tup (((ws.drop 6).take j.toNat).map V.str)) h2
      have s78 := s7.trans s8
      have sk8 : SkAt (upd (upd H6 L (.lst (((ws.drop 6).take j.toNat).map V.str))) t2 (.tup (((ws.drop 6).take j.toNat).map V.str))) S G (n + 65) := by
        obtain ⟨ne, gs, m, c, a1, a2, a3⟩ := sk6
        exact ⟨ne, gs, m, c, s78 _ _ a1, s78 _ _ a2, a3.1, a3.2.1, by have := a3.2.2; omega⟩
      have d1 : Dp K (upd H4 t1 (.tup rs)) (.ref t1) (.tuple (rowsB ws b hN.toNat)) := .tup (.inl (.inl upd_same)) (dps_mono s5 _ _ dr)
      have d2 : SqT K (upd (upd H6 L (.lst (((ws.drop 6).take j.toNat).map V.str))) t2 (.tup (((ws.drop 6).take j.toNat).map V.str))) t2 (((ws.drop 6).take j.toNat).map V.str) := .inl (.inl upd_same)
      have tp1 := (tups_but (K := K) b6 sk5).trans (Tups.same s78)
      have bb8 : ButSG S G H _ := ((b4.trans (ButSG.same s5)).trans b6).trans (ButSG.same s78)
      have hF8 := s78 _ _ hF6
      generalize upd (upd H6 L (.lst (((ws.drop 6).take j.toNat).map V.str))) t2 (.tup (((ws.drop 6).take j.toNat).map V.str)) = H8 at *
      refine ⟨_, rfl, 9, rfl, _, rfl, S, G, n + 65, 4, rfl, sk8, by omega, by decide, by decide, fun k H9 k0 k1 b9 sk9 => ?_⟩
      have hF9 := b9 _ _ nFS nFG hF8
      refine ⟨_, _, rfl, rfl, _, rfl, F1, _, rfl, .inl (.inl hF9), fun L2 hL2 => ⟨L2, _, rfl, .inl ⟨.inl (.inl upd_same), fun t3 h3 => ?_⟩⟩⟩
      have c9 : cutV (ws.map V.str) (some 9) (some (9 + k)) = ((ws.drop 9).take k.toNat).map V.str := cut 9 k k0 (by omega)
      rw [c9] at h3 ⊢
      have s10 := (same_new (o := .lst (((ws.drop 9).take k.toNat).map V.str)) hL2).trans (same_new (o := .tup (((ws.drop 9).take k.toNat).map V.str)) h3)
      have d3 : SqT K (upd (upd H9 L2 (.lst (((ws.drop 9).take k.toNat).map V.str))) t3 (.tup (((ws.drop 9).take k.toNat).map V.str))) t3 (((ws.drop 9).take k.toNat).map V.str) := .inl (.inl upd_same)
      have sk10 : SkAt (upd (upd H9 L2 (.lst (((ws.drop 9).take k.toNat).map V.str))) t3 (.tup (((ws.drop 9).take k.toNat).map V.str))) S G (n + 66) := by
        obtain ⟨ne, gs, m, c, a1, a2, a3⟩ := sk9
        exact ⟨ne, gs, m, c, s10 _ _ a1, s10 _ _ a2, a3.1, a3.2.1, by have := a3.2.2; omega⟩
      have tp2 := (tups_but (K := K) b9 sk8).trans (Tups.same s10)
      have bbX : ButSG S G H _ := (bb8.trans b9).trans (ButSG.same s10)
      generalize upd (upd H9 L2 (.lst (((ws.drop 9).take k.toNat).map V.str))) t3 (.tup (((ws.drop 9).take k.toNat).map V.str)) = HX at *
      refine ⟨by rw [sl]; exact (by decide : 3 ≤ 16777216), fun R hR => ?_⟩
      have sR := same_new (o := .lst [V.ref t1, V.ref t2, V.ref t3]) hR
      have nR : H R = none := by
        cases e : H R with
        | none => rfl
        | some o =>
          obtain ⟨_, gs, m, c, a1, a2, _⟩ := sk10
          have p : R ≠ S := fun e => by rw [e, a1] at hR; cases hR
          have p2 : R ≠ G := fun e => by rw [e, a2] at hR; cases hR
          rw [bbX _ _ p p2 e] at hR; cases hR
      have okP := drawn_ok l12 nd (b := b) (h := hN.toNat) (j := j.toNat) (k := k.toNat) (by omega) hb (by omega) (by omega)
      obtain ⟨m1, m2, m3, m4⟩ := drawn_mem l12 (b := b) (h := hN.toNat) (j := j.toNat) (k := k.toNat) (by omega) hb (by omega) (by omega)
      refine q _ R (drawnP ws hN.toNat b j.toNat k.toNat) (bbX.trans (ButSG.same sR)) ?_ nR ⟨⟨t1, t2, t3, upd_same, ?_, ?_, ?_⟩, ?_⟩ okP
      · obtain ⟨ne, gs, m, c, a1, a2, a3⟩ := sk10
        exact ⟨ne, gs, m, c, sR _ _ a1, sR _ _ a2, a3⟩
      · have e : dA (drawnP ws hN.toNat b j.toNat k.toNat).arrays = .tuple (rowsB ws b hN.toNat) := by
          unfold dA drawnP rowsB
          rw [List.map_map]
          rfl
        rw [e]
        exact dp_tups ((tp1.trans tp2).trans (Tups.same sR)) _ _ (rowsB_flat ws b _) d1
      · exact dS_tup (Tups.same sR _ _ (tp2 _ _ d2))
      · exact dS_tup (Tups.same sR _ _ d3)
      · have inW : ∀ {i : Nat} {x : Str}, ws[i]? = some x → x ∈ W16 := fun e => mem _ (List.mem_of_getElem? e)
        unfold okB at okP
        simp only [Bool.and_eq_true, decide_eq_true_iff] at okP
        refine ⟨by omega, by omega, by omega, fun x hx => W16_nm x ?_⟩
        have hx2 := words_mem.mp hx
        unfold namesL at hx2
        rcases List.mem_append.mp hx2 with hx2 | hx2
        · obtain ⟨i, _, e⟩ := m1 x hx2; exact inW e
        rcases List.mem_append.mp hx2 with hx2 | hx2
        · obtain ⟨i, _, _, e⟩ := m2 x hx2; exact inW e
        rcases List.mem_append.mp hx2 with hx2 | hx2
        · obtain ⟨i, _, _, e⟩ := m3 x hx2; exact inW e
        · obtain ⟨i, _, _, e⟩ := m4 x hx2; exact inW e
end
end Fc
namespace Fc
open PySem L2 PyProof.Rows
/-! xs[lo:hi:st] of a list -/
/-- the items of xs[lo:hi:st] -/
def pickV (xs : List V) (lo hi st : Option Int) : List V := (sliceRange (sliceBounds lo hi st xs.length).1 (sliceBounds lo hi st xs.length).2.1 (sliceBounds lo hi st xs.length).2.2).filterMap (xs[·]?)
theorem vals_pick {xs : List V} {us : List Value} (r : Vals xs us) : ∀ l : List Nat, Vals (l.filterMap (xs[·]?)) (l.filterMap (us[·]?))
  | [] => .nil
  | i :: l => by
    have ih := vals_pick r l
    cases h : xs[i]? with
    | none =>
      have h2 := r.none_of h
      simp only [List.filterMap_cons, h, h2]
      exact ih
    | some x =>
      obtain ⟨u, h2, rx⟩ := r.get h
      simp only [List.filterMap_cons, h, h2]
      exact .cons rx ih
theorem pickV_of {xs : List V} {us : List Value} (r : Vals xs us) (lo hi st : Option Int) : Vals (pickV xs lo hi st) (slicePick us.toArray lo hi st).toList := by
  unfold pickV slicePick
  rw [List.size_toArray, ← L2.Vals.length r]
  have e : (fun i : Nat => us.toArray[i]?) = fun i : Nat => us[i]? := by funext i; simp
  simp only [e]
  exact vals_pick r _
theorem pickV_sub {xs : List V} {lo hi st : Option Int} : ∀ x ∈ pickV xs lo hi st, x ∈ xs := fun x hx => by
  obtain ⟨i, _, e⟩ := List.mem_filterMap.mp hx
  exact List.mem_of_getElem? e
theorem pickV_len {xs : List V} {us : List Value} (r : Vals xs us) (lo hi st : Option Int) : (pickV xs lo hi st).length ≤ xs.length := by
  have h := L2.Vals.length (pickV_of r lo hi st)
  have := slicePick_size_le us.toArray lo hi st
  rw [List.size_toArray] at this
  rw [L2.Vals.length r, h, Array.length_toList]
  exact this
def tSlK (K : PySem.W.Frag) (te : TE) (tl th ts : TO) : TE := fun σ H Q => te σ H fun x H1 => tl σ H1 fun l H2 => th σ H2 fun u H3 => ts σ H3 fun k H4 => ∃ a xs, x = .ref a ∧ SqL K H4 a xs ∧ k ≠ some 0 ∧ ((pickV xs l u k).length ≤ xs.length → ∀ p, H4 p = none → Q (.ref p) (upd H4 p (.lst (pickV xs l u k))))
section
variable {X : Cx} {e st : Expr} {lo hi : Option Expr} {te : TE} {tl th ts : TO} {p2 pos : Pos}
theorem pe_sliceK (he : PE X e te) (hl : PO X lo tl) (hu : PO X hi th) (hs : PO X (some st) ts) : PE X (.Subscript e (.Slice lo hi (some st) p2) pos) (tSlK X.K te tl th ts) := by
  refine ⟨fun pins s σ H Q I h => ?_⟩
  refine Subscript_ (thn (he.run pins s σ H _ I h) fun v s1 ⟨x, H1, I1, r1, q1⟩ => ?_)
  refine wpAny_Slice (thn (hl.run pins s1 σ H1 _ I1 q1) fun vl s2 ⟨l, H2, I2, pl, q2⟩ => thn (hu.run pins s2 σ H2 _ I2 q2) fun vu s3 ⟨u, H3, I3, pu, q3⟩ => thn (hs.run pins s3 σ H3 _ I3 q3) fun vs s4 ⟨k, H4, I4, ps, a, xs, ex, hx, h0, q⟩ => ?_)
  subst ex
  cases r1
  have I5 : Inv X pins σ H4 { s4 with heap := s4.heap.push { cls := .type "slice", data := .fields #[vl, vu, vs] } } := I4.kept (t' := s4.toks) fun b ob q => Heap.get?_push_of_some _ q
  obtain ⟨its, r, hts, hz⟩ := I5.list hx
  have hlen := L2.Vals.length r
  show wpAny (model X.prog X.w) X.A (subscriptTail e (.Slice lo hi (some st) p2) (.ref a) (.ref s4.heap.objs.size)) (EP X pins σ Q) X.xe { s4 with heap := s4.heap.push { cls := .type "slice", data := .fields #[vl, vu, vs] } }
  refine tail_any (ops := [.ref a, .ref s4.heap.objs.size]) hts.isList.typeIs (PySem.slot_list_getitem.lookup) ?_ (by with_unfolding_all rfl)
  refine wpAny_getItem_list_slice hts.isList (Heap.IsSliceOf.new _ vl vu vs) pl pu ps h0 ?_ (by rw [List.size_toArray]; omega)
  have pn := pickV_len r l u k
  refine ⟨.ref _, _, I5.laid (t' := s4.toks) (o := .lst (pickV xs l u k)) (fun b ob q => Heap.get?_push_of_some _ q) (Nat.le_refl _) ?_, rfl, q pn _ (I5.hok.fresh (Nat.le_refl _))⟩
  exact ⟨Nat.le_trans pn hz, (slicePick its.toArray l u k).toList, 0, pickV_of r l u k, by rw [Array.toArray_toList]; exact Heap.get?_push_size _ rfl⟩
end
theorem ints_back : ∀ {ys : List V}, (∀ y ∈ ys, ∃ i, y = V.int i) → ∃ ns : List Int, ys = ns.map V.int
  | [], _ => ⟨[], rfl⟩
  | y :: ys, h => by
    obtain ⟨x, rfl⟩ := h y (List.mem_cons_self ..)
    obtain ⟨ws, rfl⟩ := ints_back fun z hz => h z (List.mem_cons_of_mem _ hz)
    exact ⟨x :: ws, rfl⟩
theorem ints_getD (ns : List Int) {i : Nat} (h : i < ns.length) : (ns.map V.int).getD i .non = .int ns[i] := by
  rw [List.getD_eq_getElem?_getD, List.getElem?_map, List.getElem?_eq_getElem h]; rfl
theorem paired_ints {p : Nat → V → Prop} {l : List Nat} {ys : List V} (h : Paired p l ys) (hp : ∀ k y, p k y → ∃ i, y = V.int i) : ∃ ns : List Int, ys = ns.map V.int := by
  refine ints_back ?_
  induction h with
  | nil => intro y hy; cases hy
  | cons h _ ih =>
    intro y hy
    rcases List.mem_cons.mp hy with rfl | hy
    · exact hp _ _ h
    · exact ih y hy
abbrev rIntC : List V → Hp → VK → Prop := fun xs H Q => (∃ i, xs = [.int i] ∧ Q (.int i) H) ∨ ∃ k, xs = [.bl k] ∧ Q (.int (if k then 1 else 0)) H
abbrev rAbsC : List V → Hp → VK → Prop := fun xs H Q => ∃ i, xs = [.int i] ∧ Q (.int (if i < 0 then -i else i)) H
def spSkein (K : PySem.W.Frag) : Sp := fun vs H Q _ => ∃ (a : Addr) (ns : List Int) (i c : Int), vs = [.ref a, .int i, .int c] ∧ SqL K H a (ns.map V.int) ∧ 0 ≤ i ∧ i < 100 ∧ 0 < c ∧ ns.length ≤ 1000 ∧ ∀ H' S G, Same H H' → SkAt H' S G 0 → H S = none → H G = none → Q (.ref S) H'
theorem pos40 : (0 : Int) < 10 ^ Int.toNat 40 := by decide +kernel
theorem pos580 : (0 : Int) < (10 ^ Int.toNat 58) ^ Int.toNat 10 := by decide +kernel
theorem posQ : (0 : Int) < 2305843009213693951 := by decide
section
variable {K : PySem.W.Frag} {mg : Str → Option Value} {base : Heap} {P : Program} {w : World}
abbrev n33 : List Str := ["_law_script", "_law_at", "_law_cases", "_law_cells", "_law_mixed", "_law_cell", "_law_part", "_law_great", "_law_one"]
theorem sc33 : FnScope n33 ["_law_script", "_law_at", "_law_cases"] (defScope (topS 33)) := ⟨rfl, rfl, rfl, by decide +kernel, rfl, by decide +kernel, by decide +kernel⟩
theorem ok33 {f : Addr} {fd : FuncData} (F : Fun K "_law_skein" "_law_skein" (topS 33) f fd) (B : Blt mg) : FnOk P w K mg base CX0 1 f fd ["_law_script", "_law_at", "_law_cases"] (spSkein K) := by
  refine F.ok sc33 (fun vs H Q E h => ?_) (fun cdv A outer s H vs Q E hr h => ?_)
  · obtain ⟨a, ns, i, c, rfl, _⟩ := h
    rfl
  · have hu := hu70 hr
    refine ⟨_, pss_cons (ps_par (i := 3) (j := 4) rfl sc33.nd rfl rfl (by decide) rfl rfl (pa_cons (pe_sliceK (pv 0) (po_some (pv 1)) po_none (po_some (pv 2))) (pa_cons (pe_op op_add (pe_op op_mul pe_int (pv 1)) pe_int) pa_nil)) (by rfl))
      (pss_cons (ps_for PassesOwn.never rfl (pi_list (pv 3)) (pg_name (i := 5) sc33.nd rfl (Or.inl rfl))
        (pss_cons (ps_set (i := 6) sc33.nd rfl (Or.inl rfl) (pe_op op_add (pe_op op_mul (pe_op op_mod (pe_callTy call_int1 (by rfl) B.int boot_int (pa_cons (pe_callB call_abs (by rfl) B.abs boot_abs (pa_cons (pv 5) pa_nil)) pa_nil)) (pe_op op_pow pe_int pe_int)) pe_int) (pe_callTy call_int1 (by rfl) B.int boot_int (pa_cons (pe_cmpR op_lt (pv 5) pe_int (nomark _)) pa_nil))))
        (pss_one (ps_set (i := 4) sc33.nd rfl (Or.inl rfl) (pe_op op_mod (pe_callTy call_int1 (by rfl) B.int boot_int (pa_cons (pe_op op_add (pe_op op_add (pe_op op_mul (pv 4) pe_int) (pe_op op_mul (pv 6) pe_int)) pe_int) pa_nil)) pe_int)))))
      (pss_cons (ps_setLc (i := 7) (own := [("_law_cell", 5)]) (g := gName 5) (by rfl) sc33.nd rfl rfl (sw_true rfl rfl rfl (by decide +kernel)) (pi_list (pv 3)) (blkOk_by (N := n33) (sc := defScope (topS 33)) (by decide +kernel))
        (fun _ _ _ _ _ => pg_name (i := 5) sc33.nd rfl (Or.inl rfl)) (fun _ _ _ _ _ => pts_nil) (fun _ _ _ _ _ => pe_op (r := rI0 fun i j => .int (i - j)) op_sub (pe_op (r := rI (fun _ j => 0 < j) fun i j => .int (i % j)) op_mod (pe_callTy (r := rIntC) call_int1 (by rfl) B.int boot_int (pa_cons (pe_callB (r := rAbsC) call_abs (by rfl) B.abs boot_abs (pa_cons (pv 5) pa_nil)) pa_nil))
          (pe_op (r := rI (fun i j => 0 ≤ j ∧ (Builtin.Int.intBits i : Int) * j ≤ 2 ^ 27) fun i j => .int (i ^ j.toNat)) op_powW (pe_op (r := rI CPow fun i j => .int (i ^ j.toNat)) op_pow pe_int pe_int) pe_int)) (pe_op (r := rI CPow fun i j => .int (i ^ j.toNat)) op_pow pe_int pe_int)))
      (pss_one (ps_ret (pe_lst (pa_cons (pe_lc (own := [("_law_one", 8)]) (g := gName 8) (by rfl) sc33.nd (pi_list (pv 7)) (blkOk_by (N := n33) (sc := defScope (topS 33)) (by decide +kernel))
        (fun _ _ _ _ _ => pg_name (i := 8) sc33.nd rfl (Or.inl rfl)) (fun _ _ _ _ _ => pts_one (pt_cmpR (r := rI0 fun i j => .bl (decide (j < i))) op_gt (pv 8) pe_int (nomark _))) (fun _ _ _ _ _ => pv 8)) (pa_cons (pv 4) (pa_cons pe_int pa_nil)))))))), ?_⟩
    obtain ⟨a, ns, i, c, rfl, sl, i0, i1, c0, hl, q⟩ := h
    refine ⟨_, rfl, _, rfl, _, rfl, _, rfl, _, rfl, a, _, rfl, sl, fun e => by cases Option.some.inj e; omega, fun pl p hp => ?_⟩
    obtain ⟨cs, ec⟩ : ∃ cs : List Int, pickV (ns.map V.int) (some i) none (some c) = cs.map V.int := ints_back fun y hy => by
      obtain ⟨z, _, e⟩ := List.mem_map.mp (pickV_sub y hy)
      exact ⟨z, e.symm⟩
    rw [ec] at pl ⊢
    rw [List.length_map, List.length_map] at pl
    have s1 := same_new (o := .lst (cs.map V.int)) hp
    have hC : (upd H p (.lst (cs.map V.int))) p = some (.lst (cs.map V.int)) := upd_same
    generalize upd H p (.lst (cs.map V.int)) = H1 at *
    refine ⟨_, rfl, _, _, rfl, rfl, .inl ⟨by decide, by decide⟩, _, _, rfl, rfl, ?_⟩
    refine ⟨_, _, rfl, _, rfl, p, rfl, ⟨_, .inl (.inl hC)⟩, ?_⟩
    refine for_steady (steady_list (K := K) (a := p) (xs := cs.map V.int)) (fun k σ H' => H' = H1 ∧ ∃ m z5 z6 z7 z8, σ = [some (.ref a), some (.int i), some (.int c), some (.ref p), some (.int m), z5, z6, z7, z8] ∧ 0 ≤ m ∧ m < 2 ^ 62) ⟨rfl, _, _, _, _, _, rfl, by omega, by omega⟩ (fun _ _ _ _ h => h.1 ▸ .inl (.inl hC)) ?_ ?_
    · rintro k σ H' hk ⟨rfl, m, z5, z6, z7, z8, rfl, m0, m1⟩
      rw [List.length_map] at hk
      rw [ints_getD cs hk]
      refine ⟨_, rfl, _, rfl, .inl ⟨_, rfl, 10, 40, rfl, rfl, ⟨by decide, by decide, by decide⟩, _, _, rfl, rfl, pos40, _, _, rfl, rfl, .inr ⟨by decide, by decide⟩, _, rfl, _, _, rfl, rfl, .inr ⟨_, rfl, _, _, rfl, rfl, ?_⟩⟩⟩
      refine ⟨_, rfl, _, _, rfl, rfl, .inr ⟨by decide, by decide⟩, _, rfl, _, _, rfl, rfl, .inr ⟨by decide, by decide⟩, _, _, rfl, rfl, _, _, rfl, rfl, .inl ⟨_, rfl, _, _, rfl, rfl, posQ, ?_⟩⟩
      refine ⟨rfl, _, _, _, _, _, rfl, Int.emod_nonneg _ (by decide), Int.lt_trans (Int.emod_lt_of_pos _ posQ) (by decide)⟩
    · rintro σ H' ⟨rfl, m, z5, z6, z7, z8, rfl, m0, m1⟩
      refine ⟨_, rfl, p, rfl, ⟨_, .inl (.inl hC)⟩, fun D hD => ?_⟩
      refine lc_map (K := K) (fun _ k y => ∃ j, y = V.int j) (steady_list (K := K) (a := p) (xs := cs.map V.int)) (fun _ _ _ _ _ h => h) (fun H2 s2 => .inl (.inl (s2 _ _ hC))) (by rw [List.length_map]; omega) hD (fun k H2 Q' hk s2 q' => ?_) fun H2 ys s2 hys py => ?_
      · rw [List.length_map] at hk
        rw [ints_getD cs hk]
        refine ⟨rfl, _, rfl, _, rfl, .inl ⟨_, rfl, 10, 58, rfl, rfl, ⟨by decide, by decide, by decide⟩, _, 10, rfl, rfl, ⟨by decide, by decide +kernel⟩, _, _, rfl, rfl, pos580, 10, 17, rfl, rfl, ⟨by decide, by decide, by decide⟩, _, _, rfl, rfl, ?_⟩⟩
        exact q' _ _ (Same.refl _) ⟨_, rfl⟩
      · obtain ⟨gs, rfl⟩ := paired_ints py fun _ _ h => h
        have lg := paired_len py
        rw [List.length_range, List.length_map, List.length_map] at lg
        refine ⟨_, rfl, D, rfl, ⟨_, .inl (.inl hys)⟩, fun G hG => ?_⟩
        refine lc_gen (K := K) (fun k => decide (0 < gs.getD k 0)) (fun _ k y => ∃ j, y = V.int j) (steady_list (K := K) (a := D) (xs := gs.map V.int)) (fun _ _ _ _ _ h => h) (fun H3 s3 => .inl (.inl (s3 _ _ hys))) (show 8 < 9 by decide) (by rw [List.length_map]; omega) hG (fun k H3 Q' hk s3 q' => ?_) (fun k H3 Q' hk _ s3 q' => ?_) fun H3 zs s3 hzs pz => ?_
        · rw [List.length_map] at hk
          rw [ints_getD gs hk]
          rw [getD_at hk] at q'
          exact ⟨_, rfl, _, _, rfl, rfl, _, rfl, q'⟩
        · rw [List.length_map] at hk
          rw [ints_getD gs hk]
          exact ⟨_, rfl, q' _ _ (Same.refl _) ⟨_, rfl⟩⟩
        · obtain ⟨hs, rfl⟩ := paired_ints pz fun _ _ h => h
          refine ⟨_, rfl, by rw [sizeLine_eq]; exact (by decide : 3 ≤ 16777216), fun S hS => ?_⟩
          have s4 := same_new (o := .lst [V.ref G, V.int m, V.int 0]) hS
          have sA := (s1.trans s2).trans s3
          have nSG : S ≠ G := fun e => by rw [e, hzs] at hS; cases hS
          refine q _ S G (sA.trans s4) ⟨nSG, hs, m, 0, upd_same, by rw [upd_ne nSG.symm]; exact hzs, ⟨m0, m1⟩, by decide, by decide⟩ (Same.none_of sA hS) (Same.none_of (s1.trans s2) hG)
end
end Fc
namespace Fc
open PySem L2 PyProof.Rows
/-! what stays behind draws -/
theorem but_get {S G : Addr} {H H' : Hp} {n : Int} {b : Addr} {o : HO} (bt : ButSG S G H H') (k : SkAt H S G n) (h : H b = some o) (hn : ∀ l, o ≠ .lst l) : H' b = some o := by
  obtain ⟨ne, gs, m, c, hS, hG, _⟩ := k
  refine bt b o (fun e => ?_) (fun e => ?_) h
  · rw [e, hS] at h; exact hn _ (Option.some.inj h).symm
  · rw [e, hG] at h; exact hn _ (Option.some.inj h).symm
theorem FrAt.but {K : PySem.W.Frag} {C S G : Addr} {H H' : Hp} {p : Addr} {P : Pa} {n : Int} (h : FrAt K C H p P) (bt : ButSG S G H H') (k : SkAt H S G n) : FrAt K C H' p P := by
  obtain ⟨ok, dx, fs, tA, tP, tV, aK, h1, h2, h3, h4, h5, h6, h7, h8, h9, h10⟩ := h
  have tp := tups_but (K := K) bt k
  exact ⟨ok, dx, fs, tA, tP, tV, aK, but_get bt k h1 (fun _ e => by cases e), h2, h3, h4, h5, h6, dp_tups tp _ _ (tupD_dA _) h7, dp_tups tp _ _ (tupD_dS _) h8, dp_tups tp _ _ (tupD_dS _) h9, but_get bt k h10 (fun _ e => by cases e)⟩
theorem lst_ne {S G : Addr} {H : Hp} {n : Int} {r : Addr} {xs : List V} (k : SkAt H S G n) (h : H r = some (.lst xs)) (h1 : ∀ m c : Int, xs ≠ [V.ref G, .int m, .int c]) (h2 : ∀ gs : List Int, xs ≠ gs.map V.int) : r ≠ S ∧ r ≠ G := by
  obtain ⟨ne, gs, m, c, hS, hG, _⟩ := k
  refine ⟨fun e => ?_, fun e => ?_⟩
  · rw [e, hS] at h
    cases h
    exact h1 m c rfl
  · rw [e, hG] at h
    cases h
    exact h2 gs rfl
theorem RowAt.ne {K : PySem.W.Frag} {S G : Addr} {H : Hp} {n : Int} {r : Addr} {P : Pa} (R : RowAt K H r P) (k : SkAt H S G n) : r ≠ S ∧ r ≠ G := by
  obtain ⟨⟨tA, tP, tV, h1, _⟩, _⟩ := R
  refine lst_ne k h1 (fun m c e => ?_) (fun gs e => ?_)
  · simp at e
  · cases gs with
    | nil => cases e
    | cons g gs => simp at e
theorem RowAt.but {K : PySem.W.Frag} {S G : Addr} {H H' : Hp} {n : Int} {r : Addr} {P : Pa} (R : RowAt K H r P) (bt : ButSG S G H H') (k : SkAt H S G n) : RowAt K H' r P := by
  obtain ⟨n1, n2⟩ := R.ne k
  have tp := tups_but (K := K) bt k
  obtain ⟨⟨tA, tP, tV, h1, h2, h3, h4⟩, nm⟩ := R
  exact ⟨⟨tA, tP, tV, bt _ _ n1 n2 h1, dp_tups tp _ _ (tupD_dA _) h2, dp_tups tp _ _ (tupD_dS _) h3, dp_tups tp _ _ (tupD_dS _) h4⟩, nm⟩
theorem SkAt.same {S G : Addr} {H H' : Hp} {n : Int} (k : SkAt H S G n) (s : Same H H') : SkAt H' S G n := by
  obtain ⟨ne, gs, m, c, hS, hG, h3⟩ := k
  exact ⟨ne, gs, m, c, s _ _ hS, s _ _ hG, h3⟩
theorem SkAt.le {S G : Addr} {H : Hp} {n n' : Int} (k : SkAt H S G n) (h : n ≤ n') : SkAt H S G n' := by
  obtain ⟨ne, gs, m, c, hS, hG, h1, h2, h3⟩ := k
  exact ⟨ne, gs, m, c, hS, hG, h1, h2, by omega⟩
theorem SkAt.new {S G : Addr} {H : Hp} {n : Int} {a : Addr} (k : SkAt H S G n) (ha : H a = none) : a ≠ S ∧ a ≠ G := by
  obtain ⟨ne, gs, m, c, hS, hG, _⟩ := k
  exact ⟨fun e => by (rw [e, hS] at ha; cases ha), fun e => by (rw [e, hG] at ha; cases ha)⟩
theorem SkAt.upd {S G : Addr} {H : Hp} {n : Int} {a : Addr} {o : HO} (k : SkAt H S G n) (h : a ≠ S ∧ a ≠ G) : SkAt (upd H a o) S G n := by
  obtain ⟨ne, gs, m, c, hS, hG, h3⟩ := k
  exact ⟨ne, gs, m, c, by rw [upd_ne h.1.symm]; exact hS, by rw [upd_ne h.2.symm]; exact hG, h3⟩
theorem ButSG.none_of {S G : Addr} {H H' : Hp} {a : Addr} (bt : ButSG S G H H') (h : H' a = none) (h1 : a ≠ S) (h2 : a ≠ G) : H a = none := by
  cases e : H a with
  | none => rfl
  | some o => rw [bt _ _ h1 h2 e] at h; cases h
/-! values near terms -/
structure NearD (K : PySem.W.Frag) (w : World) (S G : Addr) (H : Hp) (v : V) (d : PyData) : Prop where
  kind : (Dp K H v d ∧ tupD d = true) ∨ (∃ a xs ds, v = .ref a ∧ d = .list ds ∧ H a = some (.lst xs) ∧ DpAll K H xs ds ∧ tupDs ds = true ∧ a ≠ S ∧ a ≠ G) ∨ (∃ a, v = .ref a ∧ d = .dict [] ∧ H a = some (MD w a []))
  sh : shT d
  pl : ∀ ds, d = .tuple ds → PyData.plainAll ds = true ∧ ds.length ≤ 10
theorem NearD.dv {K : PySem.W.Frag} {w : World} {S G : Addr} {H : Hp} {v : V} {d : PyData} (h : NearD K w S G H v d) : DV K w H v d := by
  rcases h.kind with h | ⟨a, xs, ds, rfl, rfl, ha, hd, _⟩ | ⟨a, rfl, rfl, ha⟩
  · exact .inl h.1
  · exact .inl (.lst (.inl (.inl ha)) hd)
  · exact .inr ⟨a, [], [], rfl, ⟨.inl ha, fun x hx => by cases hx⟩, rfl, .nil⟩
theorem NearD.same {K : PySem.W.Frag} {w : World} {S G : Addr} {H H' : Hp} {v : V} {d : PyData} (h : NearD K w S G H v d) (s : Same H H') : NearD K w S G H' v d := by
  refine ⟨?_, h.sh, h.pl⟩
  rcases h.kind with h | ⟨a, xs, ds, rfl, rfl, ha, hd, hf, h1, h2⟩ | ⟨a, rfl, rfl, ha⟩
  · exact .inl ⟨dp_mono s _ _ h.1, h.2⟩
  · exact .inr (.inl ⟨a, xs, ds, rfl, rfl, s _ _ ha, dps_mono s _ _ hd, hf, h1, h2⟩)
  · exact .inr (.inr ⟨a, rfl, rfl, s _ _ ha⟩)
theorem NearD.but {K : PySem.W.Frag} {w : World} {S G : Addr} {H H' : Hp} {v : V} {d : PyData} {n : Int} (h : NearD K w S G H v d) (bt : ButSG S G H H') (k : SkAt H S G n) : NearD K w S G H' v d := by
  have tp := tups_but (K := K) bt k
  refine ⟨?_, h.sh, h.pl⟩
  rcases h.kind with h | ⟨a, xs, ds, rfl, rfl, ha, hd, hf, h1, h2⟩ | ⟨a, rfl, rfl, ha⟩
  · exact .inl ⟨dp_tups tp _ _ h.2 h.1, h.2⟩
  · exact .inr (.inl ⟨a, xs, ds, rfl, rfl, bt _ _ h1 h2 ha, dps_tups tp _ _ hf hd, hf, h1, h2⟩)
  · exact .inr (.inr ⟨a, rfl, rfl, but_get bt k ha (fun _ e => by cases e)⟩)
end Fc
namespace Fc
open PySem L2 PyProof.Rows HT
/-! ### a tuple from its end: t[::-1] -/
/-- where such a slice begins, where it ends, how many places it has -/
theorem ends_rev (n : Nat) : Builtin.Slice.sliceAdjust none none (-1) (n : Int) = ((n : Int) - 1, -1) ∧ Builtin.Slice.slicePlaces ((n : Int) - 1) (-1) (-1) = n := by
  constructor
  · simp [Builtin.Slice.sliceAdjust]
  · have up : ¬ (0 : Int) < -1 := by decide
    have q1 : ((n : Int) - 1 - -1 - 1) / (- -1) = (n : Int) - 1 := by rw [show (- -1 : Int) = 1 by decide, Int.ediv_one]; omega
    have q2 : ((n : Int) - 1 - -1 - -1 - 1) / (- -1) = (n : Int) := by rw [show (- -1 : Int) = 1 by decide, Int.ediv_one]; omega
    simp only [Builtin.Slice.slicePlaces, gt_iff_lt, up, if_false, q1, q2]
    split <;> omega
theorem filterMap_some {α β : Type} {f : α → Option β} {g : α → β} : ∀ {l : List α}, (∀ x ∈ l, f x = some (g x)) → l.filterMap f = l.map g
  | [], _ => rfl
  | a :: l, h => by
    rw [List.filterMap_cons, h a (by simp), List.map_cons, filterMap_some fun x hx => h x (List.mem_cons_of_mem _ hx)]
/-- the items at these places -/
theorem items_rev (xs : Array Value) : ((List.range xs.size).filterMap fun (m : Nat) => xs[((xs.size : Int) - 1 + (m : Int) * (-1)).toNat]?).toArray = xs.toList.reverse.toArray := by
  have place : ∀ m : Nat, m < xs.size → ((xs.size : Int) - 1 + (m : Int) * (-1)).toNat = xs.size - 1 - m := fun m _ => by omega
  congr 1
  rw [filterMap_some (g := fun m => xs.toList.getD (xs.size - 1 - m) .none) fun m hm => by
    rw [List.mem_range] at hm
    rw [place m hm, List.getD_eq_getElem?_getD, Array.getElem?_toList, Array.getElem?_eq_getElem (by omega)]; rfl]
  refine List.ext_getElem (by simp) fun k h1 h2 => ?_
  have hk : k < xs.toList.length := by simpa using h1
  have hl : xs.toList.length = xs.size := Array.length_toList
  rw [List.getElem_reverse, List.getElem_map, List.getElem_range, List.getD_eq_getElem?_getD, List.getElem?_eq_getElem (by omega)]
  simp
section
variable {A : Around} {prog : Program} {w : World} {s : Shared} {E : Value → Shared → Prop}
/-- what the slice's three parts come to -/
theorem parts_rev {sl : Addr} {v1 v2 v3 : Value} {n : Nat} {Q : Int × Int × Nat → Shared → Prop} (hs : s.heap.IsSliceOf sl v1 v2 v3) (k1 : IsPart v1 none) (k2 : IsPart v2 none) (k3 : IsPart v3 (some (-1)))
    (h : Q ((n : Int) - 1, -1, n) s) : wpAny (model prog w) A (Builtin.Slice.sliceApplied (.ref sl) (pure (n : Int))) Q E s := by
  obtain ⟨o, ho, _, fs⟩ := hs
  obtain ⟨e1, e2⟩ := ends_rev n
  have fin : wpAny (model prog w) A (match Builtin.Slice.sliceAdjust none none (-1) (n : Int) with | (lo, hi) => pure (lo, (-1 : Int), Builtin.Slice.slicePlaces lo hi (-1))) Q E s := by
    rw [e1]
    change wpAny _ _ (pure ((n : Int) - 1, (-1 : Int), Builtin.Slice.slicePlaces ((n : Int) - 1) (-1) (-1))) _ _ s
    rw [e2]
    exact wpAny_pure h
  have step : ¬ ((-1 : Int) == 0) = true := by decide
  simp only [Builtin.Slice.sliceApplied, Builtin.Slice.sliceFields]
  refine wpAny_bind (wpAny_bind (wpAny_field ho fs (x := v1) rfl (wpAny_bind (wpAny_field ho fs (x := v2) rfl (wpAny_bind (wpAny_field ho fs (x := v3) rfl (wpAny_pure (wpAny_bind (slicePart_ k3 ?_)))))))))
  change wpAny _ _ (if ((-1 : Int) == 0) = true then _ else _) _ _ s
  rw [if_neg step]
  exact wpAny_bind (slicePart_ k1 (wpAny_bind (slicePart_ k2 (wpAny_bind (wpAny_pure fin)))))
theorem getItem_rev {t sl : Addr} {xs : Array Value} {v1 v2 v3 : Value} {Q : Value → Shared → Prop} (ht : IsTup s.heap t xs) (hs : s.heap.IsSliceOf sl v1 v2 v3) (k1 : IsPart v1 none) (k2 : IsPart v2 none) (k3 : IsPart v3 (some (-1))) (z : xs.size ≤ sizeLine)
    (h : Q (.ref s.heap.objs.size) { s with heap := s.heap.push { cls := .type "tuple", data := .seq xs.toList.reverse.toArray } }) : wpAny (model prog w) A (getItem (.ref t) (.ref sl)) Q E s := by
  have tyS : s.TypeIs (.ref sl) "slice" := let ⟨o, ho, hc, _⟩ := hs; ⟨o, ho, hc⟩
  have fits : sizeOk (.seq xs.toList.reverse.toArray) := (by simpa using z : xs.toList.reverse.toArray.size ≤ sizeLine)
  have part : ¬ (((xs.size : Int) - 1 == 0 && (-1 : Int) == 1 && xs.size == xs.size) = true) := by simp
  refine wpAny_getItem_slot ht.typeIs (by decide) PyProof.Rows.slot_tuple_getitem (wpAny_call_entry PyProof.Rows.slot_tuple_getitem ht.typeIs entry_tuple_getitem ?_ (args_tuple_getitem _ _))
  change wpAny _ _ (Builtin.Tuple.tupleItemsOf (.ref t) >>= _) _ _ s
  refine wpAny_bind (tupleItemsOf_ ht (wpAny_bind (wpAny_typeOf tyS ?_)))
  rw [if_pos (by decide)]
  refine wpAny_bind (parts_rev hs k1 k2 k3 ?_)
  change wpAny _ _ (if ((xs.size : Int) - 1 == 0 && (-1 : Int) == 1 && xs.size == xs.size) = true then _ else _) _ _ s
  rw [if_neg part, items_rev]
  change wpAny _ _ (Builtin.Tuple.tupleExact xs.toList.reverse.toArray >>= fun v => ret v) _ _ s
  refine wpAny_bind (wpAny_newObj_type ?_ fits)
  exact wpAny_pure ⟨_, rfl, h⟩
end
/-- t[::-1] of a tuple -/
def tRevT (K : PySem.W.Frag) (te : TE) : TE := fun σ H Q => te σ H fun x H1 => ∃ a xs, x = .ref a ∧ SqT K H1 a xs ∧ ∀ p, H1 p = none → Q (.ref p) (upd H1 p (.tup xs.reverse))
/-- a slice's part that is left out, or that is minus one: its value, with nothing changed -/
theorem part_is {X : Cx} {pins : List (Addr × Obj)} {σ : L2.St} {H : Hp} {s : Shared} {e : Option Expr} {t : TO} {o : Option Int} {R : Value → Shared → Prop} (pe : PO X e t) (at_ : ∀ q : Option Int → Hp → Prop, q o H → t σ H q) (I : Inv X pins σ H s)
    (h : ∀ v s', Inv X pins σ H s' → IsPart v o → R v s') : wpAny (model X.prog X.w) X.A (evalPart e X.env) R X.xe s := by
  exact thn (pe.run pins s σ H (fun o' H' => o' = o ∧ H' = H) I (at_ _ ⟨rfl, rfl⟩)) fun v s' ⟨_, _, J, p, eo, eH⟩ => h v s' (eH ▸ J) (eo ▸ p)
theorem pe_revT {X : Cx} {e : Expr} {te : TE} {k : Nat} {p1 p2 p3 pos : Pos} (he : PE X e te) : PE X (.Subscript e (.Slice none none (some (.UnaryOp .USub (.Constant (.int 1) k p1) p2)) p3) pos) (tRevT X.K te) := by
  refine ⟨fun pins s σ H Q J w => Subscript_ (thn (he.run pins s σ H _ J w) fun v s1 ⟨x, H1, J1, rx, a, xs, ex, ht, q⟩ => ?_)⟩
  subst ex
  obtain rfl : v = Value.ref a := rx
  have back : PO X (some (.UnaryOp .USub (.Constant (.int 1) k p1) p2)) _ := po_some (pe_un un_neg pe_int)
  refine wpAny_Slice (part_is po_none (fun _ h => h) J1 fun v1 s2 J2 k1 => part_is po_none (fun _ h => h) J2 fun v2 s3 J3 k2 => part_is back (fun q h => ⟨1, rfl, -1, rfl, h⟩) J3 fun v3 s4 J4 k3 => ?_)
  have J5 : Inv X pins σ H1 { s4 with heap := s4.heap.push { cls := .type "slice", data := .fields #[v1, v2, v3] } } := J4.kept (t' := s4.toks) fun _ _ => Heap.get?_push_of_some _
  obtain ⟨us, ru, tp, z⟩ := J5.tuple ht
  have zl : xs.length ≤ sizeLine := z
  refine tail_any (ops := [.ref a, .ref s4.heap.objs.size]) tp.typeIs PyProof.Rows.slot_tuple_getitem.lookup (getItem_rev tp (Heap.IsSliceOf.new _ v1 v2 v3) k1 k2 k3 (by rw [List.size_toArray, ← ru.length]; exact zl) ?_) (by with_unfolding_all rfl)
  refine ⟨.ref _, _, J5.laid (t' := s4.toks) (o := .tup xs.reverse) (fun _ _ => Heap.get?_push_of_some _) (Nat.le_refl _) ⟨by rw [List.length_reverse]; exact zl, _, ru.reverse, IsTup.new _ _⟩, rfl, q _ (J5.hok.fresh (Nat.le_refl _))⟩
end Fc
namespace Fc
open PySem L2 PyProof.Rows
/-! small data that may stand in terms -/
structure Itm (d : PyData) : Prop where
  can : d.canLay0 = true
  dep : d.depth ≤ 2
  pl : d.plain = true
  fl : tupD d = true
def ItV (K : PySem.W.Frag) (H : Hp) (v : V) : Prop := ∃ d, Dp K H v d ∧ Itm d
theorem ItV.mono {K : PySem.W.Frag} {H H' : Hp} {v : V} (h : ItV K H v) (t : Tups K H H') : ItV K H' v := let ⟨d, h1, h2⟩ := h; ⟨d, dp_tups t _ _ h2.fl h1, h2⟩
theorem itV_int (K : PySem.W.Frag) (H : Hp) (i : Int) : ItV K H (.int i) := ⟨.int i, .int i, rfl, Nat.zero_le _, rfl, rfl⟩
theorem itV_str (K : PySem.W.Frag) (H : Hp) (x : Str) (h : PyData.strOk x = true) : ItV K H (.str x) := ⟨.str x, .str x, h, Nat.zero_le _, rfl, rfl⟩
theorem name_ok {x : Str} (h : isNameS x = true) : PyData.strOk x = true := by
  unfold isNameS at h
  simp only [Bool.and_eq_true] at h
  have h3 := List.all_eq_true.mp h.2.2
  unfold PyData.strOk
  rw [Array.all_eq_true_iff_forall_mem]
  intro c hc
  have h4 := h3 c (by simpa using hc)
  unfold lowC at h4
  simp only [Bool.and_eq_true, Bool.not_eq_true', decide_eq_false_iff_not] at h4
  have h5 : ¬ (122 < c) := fun e => h4.2 (.rel e)
  exact decide_eq_true (by omega)
theorem itVs {K : PySem.W.Frag} {H : Hp} : ∀ {vs : List V}, (∀ v ∈ vs, ItV K H v) → ∃ ds, DpAll K H vs ds ∧ ∀ d ∈ ds, Itm d
  | [], _ => ⟨[], .nil, fun d h => by cases h⟩
  | v :: vs, h => by
    obtain ⟨d, h1, h2⟩ := h v (List.mem_cons_self ..)
    obtain ⟨ds, h3, h4⟩ := itVs fun u hu => h u (List.mem_cons_of_mem _ hu)
    exact ⟨d :: ds, .cons h1 h3, fun e he => by
      rcases List.mem_cons.mp he with rfl | he
      · exact h2
      · exact h4 e he⟩
theorem itm_all {ds : List PyData} (h : ∀ d ∈ ds, Itm d) : PyData.canLayAll0 ds = true ∧ PyData.depthAll ds ≤ 2 ∧ PyData.plainAll ds = true ∧ tupDs ds = true := by
  refine ⟨(canAll_iff _).mpr fun d hd => (h d hd).can, (depAll_iff 2 _).mpr fun d hd => (h d hd).dep, plainAll_iff _ fun d hd => (h d hd).pl, ?_⟩
  induction ds with
  | nil => rfl
  | cons d ds ih =>
    simp only [tupDs, Bool.and_eq_true]
    exact ⟨(h d (List.mem_cons_self ..)).fl, ih fun e he => h e (List.mem_cons_of_mem _ he)⟩
theorem near_tup {K : PySem.W.Frag} {w : World} {S G : Addr} {H : Hp} {p : Addr} {vs : List V} (h : SqT K H p vs) (hv : ∀ v ∈ vs, ItV K H v) (hl : vs.length ≤ 10) : ∃ d, NearD K w S G H (.ref p) d := by
  obtain ⟨ds, h1, h2⟩ := itVs hv
  obtain ⟨a, b, c, e⟩ := itm_all h2
  refine ⟨.tuple ds, .inl ⟨.tup h h1, e⟩, fun _ => ?_, fun ds' e' => ?_⟩
  · show (PyData.canLayAll0 ds && decide (PyData.depthAll ds + 1 ≤ 64)) = true
    rw [a, decide_eq_true (by omega)]; rfl
  · cases e'
    exact ⟨c, by rw [← dp_len h1]; exact hl⟩
/-- a tuple of one such tuple -/
theorem near_tup1 {K : PySem.W.Frag} {w : World} {S G : Addr} {H : Hp} {p t : Addr} {vs : List V} (hp : SqT K H p [.ref t]) (h : SqT K H t vs) (hv : ∀ v ∈ vs, ItV K H v) (hl : vs.length ≤ 10) : ∃ d, NearD K w S G H (.ref p) d := by
  obtain ⟨ds, h1, h2⟩ := itVs hv
  obtain ⟨a, b, c, e⟩ := itm_all h2
  refine ⟨.tuple [.tuple ds], .inl ⟨.tup hp (.cons (.tup h h1) .nil), ?_⟩, fun _ => ?_, fun ds' e' => ?_⟩
  · show (tupDs ds && true) = true
    rw [e]; rfl
  · have e1 : PyData.canLayAll0 [PyData.tuple ds] = true := by
      show (PyData.canLayAll0 ds && true) = true
      rw [a]; rfl
    have e2 : PyData.depthAll [PyData.tuple ds] ≤ 3 := (depAll_iff 3 _).mpr fun d hd => by
      rw [List.mem_singleton.mp hd]
      show PyData.depthAll ds + 1 ≤ 3
      omega
    show (PyData.canLayAll0 [PyData.tuple ds] && decide (PyData.depthAll [PyData.tuple ds] + 1 ≤ 64)) = true
    rw [e1, decide_eq_true (by omega)]; rfl
  · cases e'
    refine ⟨?_, by simp⟩
    show (PyData.plainAll ds && true) = true
    rw [c]; rfl
theorem near_lst {K : PySem.W.Frag} {w : World} {S G : Addr} {H : Hp} {p : Addr} {vs : List V} (h : H p = some (.lst vs)) (hv : ∀ v ∈ vs, ItV K H v) (h1 : p ≠ S) (h2 : p ≠ G) : ∃ d, NearD K w S G H (.ref p) d := by
  obtain ⟨ds, e1, e2⟩ := itVs hv
  obtain ⟨a, b, c, e⟩ := itm_all e2
  exact ⟨.list ds, .inr (.inl ⟨p, vs, ds, rfl, rfl, h, e1, e, h1, h2⟩), fun z => by (rw [isTy_tupF] at z; cases z), fun ds' e' => by (cases e')⟩
theorem near_flat {K : PySem.W.Frag} {w : World} {S G : Addr} {H : Hp} {v : V} {d : PyData} (h : Dp K H v d) (hf : tupD d = true) (hn : isTy d "tuple" = false) : NearD K w S G H v d :=
  ⟨.inl ⟨h, hf⟩, fun z => by (rw [hn] at z; cases z), fun ds e => by (rw [e] at hn; rw [isTy_tupF] at hn; cases hn)⟩
/-- slices and sums of tuples, by what stands in them -/
theorem cutV_sub {xs : List V} {lo hi : Option Int} : ∀ y ∈ cutV xs lo hi, y ∈ xs := fun y hy => by
  unfold cutV at hy
  exact List.mem_of_mem_drop (List.mem_of_mem_take hy)
theorem slA_i {K : PySem.W.Frag} {H : Hp} {a : Addr} {xs : List V} {lo hi : Option Int} {Q : VK} (h : SqT K H a xs) (q : ∀ H' p ys, Same H H' → SqT K H' p ys → (∀ y ∈ ys, y ∈ xs) → ys.length ≤ xs.length → Q (.ref p) H') : rSlA K (.ref a) lo hi H Q := by
  refine ⟨a, xs, rfl, h, fun _ => q H a xs (Same.refl _) h (fun _ h => h) (Nat.le_refl _), fun _ p hp => ?_⟩
  exact q _ p _ (same_new hp) (.inl (.inl upd_same)) cutV_sub (cutV_length xs lo hi)
theorem catA_i {K : PySem.W.Frag} {H : Hp} {t u : Addr} {xs ys : List V} {Q : VK} (h1 : SqT K H t xs) (h2 : SqT K H u ys) (hl : xs.length + ys.length ≤ 1000) (q : ∀ H' p, Same H H' → SqT K H' p (xs ++ ys) → Q (.ref p) H') : rCatA K (.ref t) (.ref u) H Q := by
  refine ⟨t, u, xs, ys, rfl, rfl, h1, h2, by rw [sizeLine_eq]; omega, fun e => ?_, fun _ e => ?_, fun _ _ p hp => ?_⟩
  · subst e
    exact q H u (Same.refl H) h2
  · subst e
    rw [List.append_nil] at q
    exact q H t (Same.refl H) h1
  · exact q _ p (same_new hp) (.inl (.inl upd_same))
/-- what stands while a term is drawn: two lists and a tuple -/
structure Nr (K : PySem.W.Frag) (S G aN aM t0 : Addr) (xN xM : List V) (H0 : Hp) (k : Int) (H : Hp) : Prop where
  bt : ButSG S G H0 H
  sk : SkAt H S G k
  hN : H aN = some (.lst xN)
  hM : H aM = some (.lst xM)
  nN : aN ≠ S ∧ aN ≠ G
  nM : aM ≠ S ∧ aM ≠ G
  ht : SqT K H t0 [.int 0]
theorem Nr.same {K : PySem.W.Frag} {S G aN aM t0 : Addr} {xN xM : List V} {H0 H H' : Hp} {k : Int} (h : Nr K S G aN aM t0 xN xM H0 k H) (s : Same H H') : Nr K S G aN aM t0 xN xM H0 k H' :=
  ⟨h.bt.trans (ButSG.same s), h.sk.same s, s _ _ h.hN, s _ _ h.hM, h.nN, h.nM, Tups.same s _ _ h.ht⟩
theorem Nr.draw {K : PySem.W.Frag} {S G aN aM t0 : Addr} {xN xM : List V} {H0 H H' : Hp} {k : Int} (h : Nr K S G aN aM t0 xN xM H0 k H) (b : ButSG S G H H') (sk : SkAt H' S G (k + 1)) : Nr K S G aN aM t0 xN xM H0 (k + 1) H' :=
  ⟨h.bt.trans b, sk, b _ _ h.nN.1 h.nN.2 h.hN, b _ _ h.nM.1 h.nM.2 h.hM, h.nN, h.nM, tups_but b h.sk _ _ h.ht⟩
def spNear (K : PySem.W.Frag) (w : World) : Sp := fun vs H Q _ => ∃ S G n r P o own, vs = [.ref S, .ref r, .ref o] ∧ SkAt H S G n ∧ n + 100 < 2 ^ 60 ∧ RowAt K H r P ∧ SqT K H o (List.map V.str own) ∧ own.length ≤ 60 ∧ (∀ x ∈ own, isNameS x = true) ∧
  ∀ v d H', ButSG S G H H' → SkAt H' S G (n + 10) → NearD K w S G H' v d → Q v H'
end Fc
namespace Fc
open PySem L2 PyProof.Rows
abbrev xMs (t0 : Addr) : List V := [.int 0, .int 1, .int (-2), .int (10 ^ Int.toNat 59), .int (10 ^ Int.toNat 60 - 1), .int (1 - 10 ^ Int.toNat 60), .int (10 ^ Int.toNat 60), .non, .bl true, .str (Str.ofString "0"), .ref t0]
theorem xMs_it {K : PySem.W.Frag} {H : Hp} {t0 : Addr} (h : SqT K H t0 [.int 0]) : ∀ v ∈ xMs t0, ItV K H v := by
  intro v hv
  simp only [List.mem_cons, List.not_mem_nil, or_false] at hv
  rcases hv with rfl | rfl | rfl | rfl | rfl | rfl | rfl | rfl | rfl | rfl | rfl
  any_goals exact itV_int K H _
  · exact ⟨.none, .non, rfl, Nat.zero_le _, rfl, rfl⟩
  · exact ⟨.bool true, .bl true, rfl, Nat.zero_le _, rfl, rfl⟩
  · exact itV_str K H _ (by decide +kernel)
  · exact ⟨.tuple [.int 0], .tup h (.cons (.int 0) .nil), rfl, by decide, rfl, rfl⟩
theorem cut_ne {x : V} {xs : List V} {k : Nat} : cutV (x :: xs) none (some ((k + 1 : Nat) : Int)) ≠ [] := by
  unfold cutV
  have e0 : HT.sIx (x :: xs).length 0 none = 0 := rfl
  rw [e0, HT.sIx_nat, List.drop_zero]
  intro e
  have := congrArg List.length e
  rw [List.length_take] at this
  simp at this
/-- what is shown once for several ways that come together -/
theorem joinI {α : Type} {P : α → Hp → Prop} {g : Prop} (Good : α → Hp → Prop) (use : (∀ v H, Good v H → P v H) → g) (prove : ∀ v H, Good v H → P v H) : g := use prove
section
variable {K : PySem.W.Frag} {mg : Str → Option Value} {base : Heap} {P : Program} {w : World}
abbrev n44 : List Str := ["_law_skein_here", "_law_parts_here", "_law_mine", "_law_names", "_law_numbers", "_law_number", "_law_term", "_law_some"]
theorem sc44 : FnScope n44 ["_law_skein_here", "_law_parts_here", "_law_mine"] (defScope (topS 44)) := ⟨rfl, rfl, rfl, by decide +kernel, rfl, by decide +kernel, by decide +kernel⟩
theorem ok44 {f : Addr} {fd : FuncData} (F : Fun K "_law_term_near" "_law_term_near" (topS 44) f fd) (B : Blt mg) (c34 : Cal P w K mg base 1 "_law_pull" (spPull K)) (c35 : Cal P w K mg base 2 "_law_one_of" (spOne K)) (c40 : Cal P w K mg base 2 "_law_all_of" (spLawAll K)) : FnOk P w K mg base CX0 3 f fd ["_law_skein_here", "_law_parts_here", "_law_mine"] (spNear K w) := by
  refine F.ok sc44 (fun vs H Q E h => ?_) (fun cdv A outer s H vs Q E hr h => ?_)
  · obtain ⟨S, G, n, r, P, o, own, rfl, _⟩ := h
    rfl
  · have hu := hu70 hr
    refine ⟨_, (pss_cons (ps_set (i := 3) sc44.nd rfl (Or.inl rfl) (pe_op op_cat (pe_op op_cat (pe_c c40 hr (by decide) (by rfl) (pa_cons (pv 1) pa_nil)) (pe_callTy call_list_of (by rfl) B.list boot_list (pa_cons (pv 2) pa_nil))) (pe_lst (pa_cons pe_str (pa_cons pe_str pa_nil))))) (pss_cons (ps_set (i := 4) sc44.nd rfl (Or.inl rfl) (pe_lst (pa_cons pe_int (pa_cons pe_int (pa_cons (pe_un un_neg pe_int) (pa_cons (pe_op op_pow pe_int pe_int) (pa_cons (pe_op op_sub (pe_op op_pow pe_int pe_int) pe_int) (pa_cons (pe_op op_sub pe_int (pe_op op_pow pe_int pe_int)) (pa_cons (pe_op op_pow pe_int pe_int) (pa_cons pe_non (pa_cons pe_bl (pa_cons pe_str (pa_cons (pe_tup (pa_cons pe_int pa_nil)) pa_nil))))))))))))) (pss_cons (ps_set (i := 5) sc44.nd rfl (Or.inl rfl) (pe_ifExp (pt_cmpR op_gt (pe_c c34 hr (by decide) (by rfl) (pa_cons (pv 0) (pa_cons pe_int pa_nil))) pe_int (nomark _)) (pe_c c35 hr (by decide) (by rfl) (pa_cons (pv 0) (pa_cons (pe_slice sl_list (pv 4) po_none (po_some pe_int)) pa_nil))) (pe_c c35 hr (by decide) (by rfl) (pa_cons (pv 0) (pa_cons (pv 4) pa_nil))))) (pss_cons (ps_set (i := 6) sc44.nd rfl (Or.inl rfl) (pe_tup (pa_cons (pe_c c35 hr (by decide) (by rfl) (pa_cons (pv 0) (pa_cons (pv 3) pa_nil))) (pa_cons (pv 5) pa_nil)))) (pss_cons (ps_if (pt_cmpR op_eq (pe_c c34 hr (by decide) (by rfl) (pa_cons (pv 0) (pa_cons pe_int pa_nil))) pe_int (nomark _)) (pss_one (ps_set (i := 6) sc44.nd rfl (Or.inl rfl) (pe_op op_catA (pe_op op_catA (pe_tup (pa_cons (pe_c c35 hr (by decide) (by rfl) (pa_cons (pv 0) (pa_cons (pv 3) pa_nil))) pa_nil)) (pe_slice sl_tupA (pv 6) po_none (po_some pe_int))) (pe_tup (pa_cons (pe_c c35 hr (by decide) (by rfl) (pa_cons (pv 0) (pa_cons (pe_slice sl_list (pv 4) po_none (po_some pe_int)) pa_nil))) (pa_cons (pv 5) pa_nil)))))) pss_nil) (pss_cons (ps_set (i := 7) sc44.nd rfl (Or.inl rfl) (pe_lst (pa_cons (pe_callTy call_list_of (by rfl) B.list boot_list (pa_cons (pv 6) pa_nil)) (pa_cons (pe_slice sl_tupA (pv 6) po_none (po_some (pe_un un_neg pe_int))) (pa_cons (pe_op op_catA (pv 6) (pe_tup (pa_cons pe_int pa_nil))) (pa_cons (pe_tup (pa_cons (pv 6) pa_nil)) (pa_cons pe_non (pa_cons pe_str (pa_cons pe_int (pa_cons pe_dnewM (pa_cons (pe_revT (pv 6)) pa_nil))))))))))) (pss_one (ps_ret (pe_ifExp (pt_cmpR op_gt (pe_c c34 hr (by decide) (by rfl) (pa_cons (pv 0) (pa_cons pe_int pa_nil))) pe_int (nomark _)) (pv 6) (pe_c c35 hr (by decide) (by rfl) (pa_cons (pv 0) (pa_cons (pv 7) pa_nil)))))))))))), ?_⟩
    obtain ⟨S, G, n, r, R, o, own, rfl, sk, nb, row, ho, lo, no, q⟩ := h
    have sl : sizeLine = 16777216 := sizeLine_eq
    have na := row.nm.na
    have np := row.nm.np
    have nv := row.nm.nv
    have ll := lensOf_len R.arrays
    have nl : (namesL R).length ≤ 240 := by
      unfold namesL
      simp only [List.length_append, List.length_map]
      omega
    -- the names
    refine ⟨_, rfl, r, R, rfl, row, fun H1 L s1 hL nL => ⟨_, rfl, o, _, rfl, .inr (Tups.same s1 _ _ ho), fun L2 hL2 => ?_⟩⟩
    have s2 := same_new (o := .lst (own.map V.str)) hL2
    refine ⟨L, L2, _, _, rfl, rfl, s2 _ _ hL, upd_same, by rw [sl]; simp only [List.length_map]; omega, fun L3 hL3 => ?_⟩
    have s3 := same_new (o := .lst ((namesL R).map V.str ++ own.map V.str)) hL3
    refine ⟨by rw [sl]; exact (by decide : 2 ≤ 16777216), fun L4 hL4 => ?_⟩
    have s4 := same_new (o := .lst [V.str (Str.ofString ""), V.str (Str.ofString "new")]) hL4
    refine ⟨L3, L4, _, _, rfl, rfl, s4 _ _ upd_same, upd_same, by rw [sl]; simp only [List.length_append, List.length_map, List.length_cons, List.length_nil]; omega, fun aN hN => ?_⟩
    have sA := (((s1.trans s2).trans s3).trans s4)
    have s5 := same_new (o := .lst (((namesL R).map V.str ++ own.map V.str) ++ [V.str (Str.ofString ""), V.str (Str.ofString "new")])) hN
    have nN := sk.new (Same.none_of sA hN)
    have sB := sA.trans s5
    have hN5 : (upd (upd (upd (upd H1 L2 (.lst (own.map V.str))) L3 (.lst ((namesL R).map V.str ++ own.map V.str))) L4 (.lst [V.str (Str.ofString ""), V.str (Str.ofString "new")])) aN (.lst (((namesL R).map V.str ++ own.map V.str) ++ [V.str (Str.ofString ""), V.str (Str.ofString "new")]))) aN = some (.lst (((namesL R).map V.str ++ own.map V.str) ++ [V.str (Str.ofString ""), V.str (Str.ofString "new")])) := upd_same
    obtain ⟨xN, eN⟩ : ∃ xN, xN = ((namesL R).map V.str ++ own.map V.str) ++ [V.str (Str.ofString ""), V.str (Str.ofString "new")] := ⟨_, rfl⟩
    have lN : xN.length < 1000 ∧ xN ≠ [] := by
      rw [eN]
      refine ⟨by simp only [List.length_append, List.length_map, List.length_cons, List.length_nil]; omega, by simp⟩
    have iN : ∀ (H : Hp), ∀ v ∈ xN, ItV K H v := fun H v hv => by
      rw [eN] at hv
      rcases List.mem_append.mp hv with hv | hv
      · rcases List.mem_append.mp hv with hv | hv
        · obtain ⟨x, hx, rfl⟩ := List.mem_map.mp hv
          exact itV_str K H x (name_ok (row.nm.nm x (words_mem.mpr hx)).1)
        · obtain ⟨x, hx, rfl⟩ := List.mem_map.mp hv
          exact itV_str K H x (name_ok (no x hx))
      · simp only [List.mem_cons, List.not_mem_nil, or_false] at hv
        rcases hv with rfl | rfl
        · exact itV_str K H _ (by decide +kernel)
        · exact itV_str K H _ (by decide +kernel)
    rw [← eN] at hN5 sB ⊢
    clear eN s1 s2 s3 s4 s5 sA hL hL2 hL3 hL4
    generalize upd (upd (upd (upd H1 L2 (.lst (own.map V.str))) L3 (.lst ((namesL R).map V.str ++ own.map V.str))) L4 (.lst [V.str (Str.ofString ""), V.str (Str.ofString "new")])) aN (.lst xN) = H5 at *
    refine ⟨2, rfl, 10, 59, rfl, rfl, ⟨by decide, by decide, by decide⟩, 10, 60, rfl, rfl, ⟨by decide, by decide, by decide⟩, _, _, rfl, rfl, 10, 60, rfl, rfl, ⟨by decide, by decide, by decide⟩, _, _, rfl, rfl, 10, 60, rfl, rfl, ⟨by decide, by decide, by decide⟩, by rw [sl]; exact (by decide : 1 ≤ 16777216), fun t0 ht0 => ⟨by rw [sl]; exact (by decide : 11 ≤ 16777216), fun aM hM => ?_⟩⟩
    have s6 := same_new (o := .tup [V.int 0]) ht0
    have s7 := same_new (o := .lst (xMs t0)) hM
    have nM := sk.new (Same.none_of sB (Same.none_of s6 hM))
    have I0 : Nr K S G aN aM t0 xN (xMs t0) H n (upd (upd H5 t0 (.tup [V.int 0])) aM (.lst (xMs t0))) := ⟨ButSG.same ((sB.trans s6).trans s7), sk.same ((sB.trans s6).trans s7), (s6.trans s7) _ _ hN5, upd_same, nN, nM, Tups.same s7 _ _ (.inl (.inl upd_same))⟩
    clear s6 s7 hN5 sB hN hM ht0
    generalize upd (upd H5 t0 (.tup [V.int 0])) aM (.lst (xMs t0)) = H7 at *
    -- the number
    refine ⟨_, rfl, S, G, n, 3, rfl, I0.sk, by omega, by decide, by decide, fun r0 H8 _ _ b8 k8 => ⟨_, _, rfl, rfl, _, rfl, ?_⟩⟩
    have I1 := I0.draw b8 k8
    apply joinI (fun (v : V) H' => Nr K S G aN aM t0 xN (xMs t0) H (n + 1 + 1) H' ∧ ItV K H' v)
    · intro fin
      cases decide (0 < r0) with
      | true =>
        refine iteT ⟨_, rfl, _, rfl, 6, rfl, aM, _, rfl, .inl (.inl I1.hM), fun L hL => ?_⟩
        have s9 := same_new (o := .lst (cutV (xMs t0) none (some 6))) hL
        have I2 := I1.same s9
        have nL := I1.sk.new hL
        refine ⟨S, G, n + 1, L, _, rfl, I2.sk, by omega, .inl (.inl upd_same), nL.1, nL.2, cut_ne (k := 5), Nat.lt_of_le_of_lt (cutV_length _ _ _) (show 11 < 1000 by decide), fun v9 H9 hv b9 k9 => fin v9 H9 ⟨I2.draw b9 k9, ?_⟩⟩
        exact xMs_it (I2.draw b9 k9).ht _ (cutV_sub _ hv)
      | false =>
        refine iteF ⟨_, rfl, _, rfl, S, G, n + 1, aM, _, rfl, I1.sk, by omega, .inl (.inl I1.hM), I1.nM.1, I1.nM.2, by simp, by simp, fun v9 H9 hv b9 k9 => fin v9 H9 ⟨I1.draw b9 k9, ?_⟩⟩
        exact xMs_it (I1.draw b9 k9).ht _ hv
    rintro vn H9 ⟨I2, in2⟩
    apply joinI (fun (u : Addr) H' => ∃ vs, Nr K S G aN aM t0 xN (xMs t0) H (n + 6) H' ∧ SqT K H' u vs ∧ vs.length ≤ 6 ∧ ∀ v ∈ vs, ItV K H' v)
    · intro fin
      -- the term
      refine ⟨_, rfl, _, rfl, S, G, n + 1 + 1, aN, xN, rfl, I2.sk, by omega, .inl (.inl I2.hN), I2.nN.1, I2.nN.2, lN.2, lN.1, fun v1 H10 hv1 b10 k10 => ⟨_, rfl, by rw [sl]; exact (by decide : 2 ≤ 16777216), fun t ht => ?_⟩⟩
      have I3 := I2.draw b10 k10
      have in3 := in2.mono (tups_but b10 I2.sk)
      have st := same_new (o := .tup [v1, vn]) ht
      have I4 := I3.same st
      have in4 := in3.mono (Tups.same (K := K) st)
      have it4 := iN (upd H10 t (.tup [v1, vn])) v1 hv1
      have T4 : SqT K (upd H10 t (.tup [v1, vn])) t [v1, vn] := .inl (.inl upd_same)
      clear st ht in3 I3 b10 k10
      generalize upd H10 t (.tup [v1, vn]) = H11 at *
      refine ⟨_, rfl, S, G, n + 1 + 1 + 1, 2, rfl, I4.sk, by omega, by decide, by decide, fun r1 H12 _ _ b12 k12 => ⟨rfl, _, rfl, ?_⟩⟩
      have I5 := I4.draw b12 k12
      have tp := tups_but (K := K) b12 I4.sk
      have in5 := in4.mono tp
      have it5 := it4.mono tp
      have T5 := tp _ _ T4
      cases decide (V.int r1 = V.int 0) with
      | false =>
        refine iteF (fin t H12 ⟨[v1, vn], ⟨I5.bt, I5.sk.le (by omega), I5.hN, I5.hM, I5.nN, I5.nM, I5.ht⟩, T5, by simp, fun v hv => ?_⟩)
        simp only [List.mem_cons, List.not_mem_nil, or_false] at hv
        rcases hv with rfl | rfl
        · exact it5
        · exact in5
      | true =>
        refine iteT ⟨_, rfl, _, rfl, S, G, n + 1 + 1 + 1 + 1, aN, xN, rfl, I5.sk, by omega, .inl (.inl I5.hN), I5.nN.1, I5.nN.2, lN.2, lN.1, fun v2 H13 hv2 b13 k13 => ⟨by rw [sl]; exact (by decide : 1 ≤ 16777216), fun u1 hu1 => ?_⟩⟩
        have I6 := I5.draw b13 k13
        have tp6 := tups_but (K := K) b13 I5.sk
        have s6 := same_new (o := .tup [v2]) hu1
        have I7 := I6.same s6
        have tp7 := tp6.trans (Tups.same s6)
        have U1 : SqT K (upd H13 u1 (.tup [v2])) u1 [v2] := .inl (.inl upd_same)
        refine ⟨_, rfl, 1, rfl, slA_i (tp7 _ _ T5) fun H14 u2 y2 s14 U2 m2 l2 => ?_⟩
        refine catA_i (Tups.same s14 _ _ U1) U2 (by simp at l2 ⊢; omega) fun H15 u3 s15 U3 => ?_
        have I8 := (I7.same s14).same s15
        refine ⟨_, rfl, _, rfl, 7, rfl, aM, _, rfl, .inl (.inl I8.hM), fun L hL => ?_⟩
        have s16 := same_new (o := .lst (cutV (xMs t0) none (some 7))) hL
        have I9 := I8.same s16
        have nL := I8.sk.new hL
        refine ⟨S, G, n + 1 + 1 + 1 + 1 + 1, L, _, rfl, I9.sk, by omega, .inl (.inl upd_same), nL.1, nL.2, cut_ne (k := 6), Nat.lt_of_le_of_lt (cutV_length _ _ _) (show 11 < 1000 by decide), fun v3 H17 hv3 b17 k17 => ⟨_, rfl, by rw [sl]; exact (by decide : 2 ≤ 16777216), fun u4 hu4 => ?_⟩⟩
        have I10 := I9.draw b17 k17
        have s18 := same_new (o := .tup [v3, vn]) hu4
        have tp17 := tups_but (K := K) b17 I9.sk
        have tpA := (((tp7.trans (Tups.same s14)).trans (Tups.same s15)).trans (Tups.same s16)).trans (tp17.trans (Tups.same s18))
        have U3' := ((Tups.same (K := K) s16).trans (tp17.trans (Tups.same s18))) _ _ U3
        refine catA_i U3' (.inl (.inl upd_same)) (by simp at l2 ⊢; omega) fun H19 u5 s19 U5 => ?_
        have I11 := (I10.same s18).same s19
        refine fin u5 H19 ⟨_, ⟨I11.bt, I11.sk.le (by omega), I11.hN, I11.hM, I11.nN, I11.nM, I11.ht⟩, U5, by simp at l2 ⊢; omega, fun v hv => ?_⟩
        have tpB := tpA.trans (Tups.same s19)
        rcases List.mem_append.mp hv with hv | hv
        · rcases List.mem_append.mp hv with hv | hv
          · rw [List.mem_singleton.mp hv]
            exact iN _ v2 hv2
          · have := m2 v hv
            simp only [List.mem_cons, List.not_mem_nil, or_false] at this
            rcases this with rfl | rfl
            · exact it5.mono tpB
            · exact in5.mono tpB
        · simp only [List.mem_cons, List.not_mem_nil, or_false] at hv
          rcases hv with rfl | rfl
          · exact xMs_it I11.ht _ (cutV_sub _ hv3)
          · exact in5.mono tpB
    rintro t H20 ⟨vs, I, T, lv, iv⟩
    clear I0 I1 b8 k8 I2 in2
    refine ⟨_, rfl, t, vs, rfl, .inr T, fun u1 hu1 => ?_⟩
    have s1 := same_new (o := .lst vs) hu1
    have n1 := I.sk.new hu1
    have iv1 : ∀ H', Same H20 H' → ∀ v ∈ vs, ItV K H' v := fun H' s' v hv => (iv v hv).mono (Tups.same s')
    refine ⟨_, rfl, 1, rfl, _, rfl, slA_i (Tups.same s1 _ _ T) fun H2 u2 y2 s2 U2 m2 l2 => ?_⟩
    have s02 := s1.trans s2
    refine ⟨_, rfl, by rw [sl]; exact (by decide : 1 ≤ 16777216), fun u3 hu3 => ?_⟩
    have s3 := same_new (o := .tup [V.int 0]) hu3
    have s03 := s02.trans s3
    refine catA_i (Tups.same s03 _ _ T) (.inl (.inl upd_same)) (by simp; omega) fun H4 u4 s4 U4 => ?_
    have s04 := s03.trans s4
    refine ⟨_, rfl, by rw [sl]; exact (by decide : 1 ≤ 16777216), fun u5 hu5 => ?_⟩
    have s5 := same_new (o := .tup [V.ref t]) hu5
    have s05 := s04.trans s5
    have U5 : SqT K (upd H4 u5 (.tup [V.ref t])) u5 [.ref t] := .inl (.inl upd_same)
    refine fun u6 hu6 => ?_
    have s6 := same_new (o := MD w u6 []) hu6
    have s06 := s05.trans s6
    have U6 : (upd (upd H4 u5 (.tup [V.ref t])) u6 (MD w u6 [])) u6 = some (MD w u6 []) := upd_same
    refine ⟨_, rfl, t, vs, rfl, Tups.same s06 _ _ T, fun u7 hu7 => ?_⟩
    have s7 := same_new (o := .tup vs.reverse) hu7
    have s07 := s06.trans s7
    have U7 : SqT K (upd (upd (upd H4 u5 (.tup [V.ref t])) u6 (MD w u6 [])) u7 (.tup vs.reverse)) u7 vs.reverse := .inl (.inl upd_same)
    refine ⟨by rw [sl]; exact (by decide : 9 ≤ 16777216), fun aS hS => ?_⟩
    have s8 := same_new (o := .lst [V.ref u1, .ref u2, .ref u4, .ref u5, .non, .str (Str.ofString "i"), .int 0, .ref u6, .ref u7]) hS
    have s08 := s07.trans s8
    have nS := I.sk.new (Same.none_of s07 hS)
    have J := I.same s08
    have hS8 : (upd (upd (upd (upd H4 u5 (.tup [V.ref t])) u6 (MD w u6 [])) u7 (.tup vs.reverse)) aS (.lst [V.ref u1, .ref u2, .ref u4, .ref u5, .non, .str (Str.ofString "i"), .int 0, .ref u6, .ref u7])) aS = some (.lst [V.ref u1, .ref u2, .ref u4, .ref u5, .non, .str (Str.ofString "i"), .int 0, .ref u6, .ref u7]) := upd_same
    have e28 := ((((s3.trans s4).trans s5).trans s6).trans s7).trans s8
    have e48 := ((s5.trans s6).trans s7).trans s8
    have e58 := (s6.trans s7).trans s8
    have e68 := s7.trans s8
    have iS := iv1 _ s08
    have iC := xMs_it J.ht
    have near : ∀ v ∈ [V.ref u1, .ref u2, .ref u4, .ref u5, .non, .str (Str.ofString "i"), .int 0, .ref u6, .ref u7], ∃ d, NearD K w S G (upd (upd (upd (upd H4 u5 (.tup [V.ref t])) u6 (MD w u6 [])) u7 (.tup vs.reverse)) aS (.lst [V.ref u1, .ref u2, .ref u4, .ref u5, .non, .str (Str.ofString "i"), .int 0, .ref u6, .ref u7])) v d := by
      intro v hv
      simp only [List.mem_cons, List.not_mem_nil, or_false] at hv
      rcases hv with rfl | rfl | rfl | rfl | rfl | rfl | rfl | rfl | rfl
      · exact near_lst ((s2.trans e28) _ _ upd_same) iS n1.1 n1.2
      · exact near_tup (Tups.same e28 _ _ U2) (fun v hv => iS v (m2 v hv)) (by omega)
      · refine near_tup (Tups.same e48 _ _ U4) (fun v hv => ?_) (by simp; omega)
        rcases List.mem_append.mp hv with hv | hv
        · exact iS v hv
        · rw [List.mem_singleton.mp hv]; exact itV_int K _ 0
      · exact near_tup1 (Tups.same e58 _ _ U5) (Tups.same s08 _ _ T) iS (by omega)
      · exact ⟨.none, near_flat .non rfl rfl⟩
      · exact ⟨_, near_flat (.str (Str.ofString "i")) rfl rfl⟩
      · exact ⟨_, near_flat (.int 0) rfl rfl⟩
      · exact ⟨.dict [], .inr (.inr ⟨u6, rfl, rfl, e68 _ _ U6⟩), fun z => by (rw [isTy_tupF] at z; cases z), fun ds e => by (cases e)⟩
      · exact near_tup (Tups.same s8 _ _ U7) (fun v hv => iS v (by simpa using hv)) (by simp; omega)
    have T8 := Tups.same (K := K) s08 _ _ T
    have it8 := near_tup (w := w) (S := S) (G := G) T8 iS (by omega)
    clear s1 s2 s3 s4 s5 s6 s7 s8 s02 s03 s04 s05 s06 s07 s08 e28 e48 e58 e68 U2 U4 U5 U6 U7 hu1 hu3 hu5 hu6 hu7 hS iS iC iv1
    refine ⟨_, rfl, S, G, n + 6, 4, rfl, J.sk, by omega, by decide, by decide, fun r2 H22 _ _ b22 k22 => ⟨_, _, rfl, rfl, _, rfl, ?_⟩⟩
    have J2 := J.draw b22 k22
    cases decide (0 < r2) with
    | true =>
      obtain ⟨d, nd⟩ := it8
      exact iteT ⟨_, rfl, q _ d H22 J2.bt (J2.sk.le (by omega)) (nd.but b22 J.sk)⟩
    | false =>
      refine iteF ⟨_, rfl, _, rfl, S, G, n + 6 + 1, aS, [V.ref u1, .ref u2, .ref u4, .ref u5, .non, .str (Str.ofString "i"), .int 0, .ref u6, .ref u7], rfl, J2.sk, by omega, .inl (.inl (b22 _ _ nS.1 nS.2 hS8)), nS.1, nS.2, by simp, by simp, fun v9 H23 hv b23 k23 => ?_⟩
      obtain ⟨d, nd⟩ := near v9 hv
      exact q _ d H23 (J2.bt.trans b23) (k23.le (by omega)) ((nd.but b22 J.sk).but b23 J2.sk)
end
end Fc
namespace Fc
open PySem L2 PyProof.Rows
def numI (i : Int) : Prop := -(2 ^ 220) < i ∧ i < 2 ^ 220
theorem numI_log {i : Int} (h : numI i) : i.natAbs.log2 < 220 := by
  have h1 : i.natAbs < 2 ^ 220 := by
    obtain ⟨a, b⟩ := h
    omega
  by_cases c : i.natAbs = 0
  · rw [c]; decide
  · exact (Nat.log2_lt c).mpr h1
theorem numI_len {i : Int} (h : numI i) : (PyData.shown (.int i)).length ≤ 100 := by
  obtain ⟨a, b⟩ := h
  have e10 : (2 : Int) ^ 220 < 10 ^ 70 := by decide
  show (Str.ofString (toString i)).length ≤ 100
  cases i with
  | ofNat n => exact Nat.le_trans (toString_length_le (k := 70) (Int.natCast_nonneg n) (by decide) (Int.lt_trans b e10)) (by decide)
  | negSucc n =>
    have e : toString (Int.negSucc n) = "-" ++ toString ((n + 1 : Nat) : Int) := rfl
    have h1 := toString_length_le (v := ((n + 1 : Nat) : Int)) (k := 70) (by omega) (by decide) (by omega)
    rw [e]
    rw [PyProof.Rows.ofString_length] at h1 ⊢
    rw [String.toList_append, List.length_append]
    have : "-".toList.length = 1 := by decide
    omega
/-- data that is shown shortly: no list, no dict -/
theorem numI_small {i : Int} (h : small i = true) : numI i := by
  have h := of_decide_eq_true h
  have e : (10 : Int) ^ 60 < 2 ^ 220 := by decide
  unfold numI
  split at h <;> omega
/-- a leaf that is shown shortly -/
structure Leaf (d : PyData) : Prop where
  show_ : d.showable = true
  leaves : d.leavesShort 2000 = true
  weight : d.weight ≤ 230
  depth : d.depth = 0
theorem leaf_int {i : Int} (h : small i = true) : Leaf (.int i) := by
  have n := numI_small h
  have l1 := numI_log n
  have l2 := numI_len n
  refine ⟨?_, ?_, ?_, rfl⟩
  · rw [PyData.showable, decide_eq_true_eq]; omega
  · rw [PyData.leavesShort, decide_eq_true_eq]; omega
  · rw [PyData.weight]; split <;> omega
theorem leaf_str {x : Str} (h : isNameS x = true ∨ x = "") : Leaf (.str x) := by
  have h1 : PyData.strOk x = true := by
    rcases h with h | rfl
    · exact name_ok h
    · decide +kernel
  have h2 : x.length ≤ 8 := by
    rcases h with h | rfl
    · unfold isNameS at h
      simp only [Bool.and_eq_true, decide_eq_true_iff] at h
      omega
    · decide +kernel
  refine ⟨rfl, ?_, ?_, rfl⟩
  · rw [PyData.leavesShort, List.all_eq_true]
    intro c hc
    unfold PyData.strOk at h1
    rw [Array.all_eq_true_iff_forall_mem] at h1
    have := h1 c (by simpa using hc)
    have e : c < 0x110000 := of_decide_eq_true this
    exact decide_eq_true (Nat.lt_trans e (by decide))
  · rw [PyData.weight]
    have : x.cps.size ≤ 8 := h2
    omega
theorem leaves_all {ds : List PyData} (h : ∀ d ∈ ds, Leaf d) : PyData.showableAll ds = true ∧ PyData.leavesShortAll 2000 ds = true ∧ PyData.weightAll ds ≤ 231 * ds.length ∧ PyData.depthAll ds ≤ 0 := by
  induction ds with
  | nil => exact ⟨rfl, rfl, Nat.le_refl _, Nat.le_refl _⟩
  | cons d ds ih =>
    obtain ⟨a, b, c, e⟩ := ih fun x hx => h x (List.mem_cons_of_mem _ hx)
    have s := h d (List.mem_cons_self ..)
    refine ⟨?_, ?_, ?_, ?_⟩
    · rw [PyData.showableAll, a, s.show_]; rfl
    · rw [PyData.leavesShortAll, b, s.leaves]; rfl
    · rw [PyData.weightAll, List.length_cons]; have := s.weight; omega
    · rw [PyData.depthAll]; have := s.depth; omega
theorem shows_tup {ds : List PyData} (h : ∀ d ∈ ds, Leaf d) (hl : ds.length ≤ 10) : Shows (.tuple ds) := by
  obtain ⟨a, b, c, e⟩ := leaves_all h
  refine ⟨?_, ?_, ?_, ?_⟩
  · rw [PyData.showable]; exact a
  · rw [PyData.leavesShort]; exact b
  · rw [PyData.weight]; omega
  · rw [PyData.depth]; omega
theorem shows_lst {ds : List PyData} (h : ∀ d ∈ ds, Leaf d) (hl : ds.length ≤ 10) : Shows (.list ds) := by
  obtain ⟨a, b, c, e⟩ := leaves_all h
  refine ⟨?_, ?_, ?_, ?_⟩
  · rw [PyData.showable]; exact a
  · rw [PyData.leavesShort]; exact b
  · rw [PyData.weight]; omega
  · rw [PyData.depth]; omega
theorem leaf_bl (b : Bool) : Leaf (.bool b) := ⟨rfl, rfl, by simp [PyData.weight], rfl⟩
theorem shows_bls (a b : Bool) : Shows (.list [.bool a, .bool b]) := shows_lst (fun d hd => by
  simp only [List.mem_cons, List.not_mem_nil, or_false] at hd
  rcases hd with rfl | rfl <;> exact leaf_bl _) (by simp)
theorem shows_word : Shows (.str (Str.ofString "term")) := ⟨by decide +kernel, by decide +kernel, by decide +kernel, by decide +kernel⟩
/-- a term's items are shown shortly -/
theorem any_shows {P : Pa} (ok : PaOk P) {ds : List PyData} {i : Int} (h : anyT P (.tuple (ds ++ [.int i])) = true) {j : Int} (hj : small j = true) : Shows (.tuple (ds ++ [.int j])) := by
  have nm : ∀ {x : Str}, decide (x ∈ ("" : Str) :: (lensOf P.arrays ++ (P.pos ++ []))) = true → isNameS x = true ∨ x = "" := fun {x} e => by
    rcases List.mem_cons.mp (of_decide_eq_true e) with e | e
    · exact .inr e
    · refine .inl (ok.nm x ?_)
      unfold namesL
      rw [List.append_nil] at e
      rcases List.mem_append.mp e with e | e
      · exact List.mem_append_right _ (List.mem_append_left _ e)
      · exact List.mem_append_right _ (List.mem_append_right _ (List.mem_append_left _ e))
  have last : ∀ {xs ys : List PyData} {a b : PyData}, xs ++ [a] = ys ++ [b] → xs = ys := fun {xs ys a b} e => (List.append_inj' e rfl).1
  rcases Bool.or_eq_true_iff.mp h with h | h
  · obtain ⟨x, k, e, h1, h2⟩ := place_form h
    have e2 : ds = [.str x] := last (by rw [PyData.tuple.inj e]; rfl)
    subst e2
    refine shows_tup (fun d hd => ?_) (by simp)
    simp only [List.cons_append, List.nil_append, List.mem_cons, List.not_mem_nil, or_false] at hd
    rcases hd with rfl | rfl
    · exact leaf_str (nm h2)
    · exact leaf_int hj
  · rcases worth_form h with ⟨x, k, e, h1, h2⟩ | ⟨x, b, c, k, e, h1, h2, h3⟩
    · have e2 : ds = [.str x] := last (by rw [PyData.tuple.inj e]; rfl)
      subst e2
      refine shows_tup (fun d hd => ?_) (by simp)
      simp only [List.cons_append, List.nil_append, List.mem_cons, List.not_mem_nil, or_false] at hd
      rcases hd with rfl | rfl
      · refine leaf_str ?_
        rcases List.mem_cons.mp (of_decide_eq_true h2) with e | e
        · exact .inr e
        · exact .inl (ok.nm x (List.mem_append_right _ (List.mem_append_right _ (List.mem_append_right _ e))))
      · exact leaf_int hj
    · obtain ⟨y, m, e3, h4, h5⟩ := place_form h3
      have e4 := PyData.tuple.inj e3
      simp only [List.cons.injEq, and_true] at e4
      obtain ⟨rfl, rfl⟩ := e4
      have e2 : ds = [.str x, .str y, .int m] := last (by rw [PyData.tuple.inj e]; rfl)
      subst e2
      refine shows_tup (fun d hd => ?_) (by simp)
      simp only [List.cons_append, List.nil_append, List.mem_cons, List.not_mem_nil, or_false] at hd
      rcases hd with rfl | rfl | rfl | rfl
      · exact leaf_str (.inl (ok.nm x (List.mem_append_left _ (of_decide_eq_true h2))))
      · exact leaf_str (nm h5)
      · exact leaf_int h4
      · exact leaf_int hj
/-- the methods that judge terms, with own names and without -/
structure MJud (P : Program) (w : World) (K : PySem.W.Frag) (mg : Str → Option Value) (base : Heap) (k : Nat) (C : Addr) (m : Str) (sp : Sp) : Prop where
  at_ : ∃ (f : Addr) (fd : FuncData) (g : List Value → List Value → List Value) (T : Addr) (ds : List Value), Meth K C m f ∧ FnOk P w K mg base CX0 k f fd ["self", "value", "own"] sp ∧ KBn K fd ["self", "value", "own"] 2 ["own"] g (fun vs zs => vs ++ zs) ∧
    Vals [V.ref T] ds ∧ Binds K fd ["self", "value", "own"] ds ∧ ∀ H, SqT K H T []
end Fc
namespace Fc
open PySem L2 PyProof.Rows
def rNotInPd : Nat := 0
abbrev rNotInP (K : PySem.W.Frag) : R2 := rInP K not
abbrev rRep (K : PySem.W.Frag) (w : World) : List V → Hp → VK → Prop := fun xs H Q => ∃ v d, xs = [v] ∧ DV K w H v d ∧ Shows d ∧ Q (.str d.shown) H
def spTerms (K : PySem.W.Frag) (C : Addr) : Sp := fun vs H Q _ => ∃ (S G : Addr) (n : Int) (p r : Addr) (P : Pa), vs = [.ref S, .ref p, .ref r] ∧ SkAt H S G n ∧ n + 400 < 2 ^ 60 ∧ FrAt K C H p P ∧ RowAt K H r P ∧ ∀ H', ButSG S G H H' → SkAt H' S G (n + 200) → Q (.bl true) H'
def W4 : List Str := ["k", "kk", "new", "own"]
theorem W4_nd : W4.Nodup := by decide +kernel
theorem W4_nm : ∀ x ∈ W4, isNameS x = true ∧ x.length ≤ 1000 := by decide +kernel
theorem paired_filter {p : Nat → V → Prop} {b : Nat → Bool} {l : List Nat} {ys : List V} {f : Nat → Str} (h : Paired p (l.filter b) ys) (hp : ∀ k y, p k y → y = V.str (f k)) : ys = ((l.filter b).map f).map V.str := by
  generalize l.filter b = l2 at *
  induction h with
  | nil => rfl
  | cons h _ ih => rw [hp _ _ h, ih]; rfl
theorem slA_last {K : PySem.W.Frag} {H : Hp} {a : Addr} {ys : List V} {y : V} {Q : VK} (h : SqT K H a (ys ++ [y])) (q : ∀ H' p, Same H H' → SqT K H' p ys → Q (.ref p) H') : rSlA K (.ref a) none (some (-1)) H Q := by
  refine ⟨a, _, rfl, h, fun hc => ?_, fun _ p hp => ?_⟩
  · exfalso
    have h2 := hc.2
    have e1 : HT.sIx (ys ++ [y]).length (ys ++ [y]).length (some (-1)) = ys.length := by
      have l : (ys ++ [y]).length = ys.length + 1 := by simp
      show (if (-1 : Int) < 0 then ((-1 : Int) + ((ys ++ [y]).length : Int)).toNat else min (-1 : Int).toNat (ys ++ [y]).length) = ys.length
      rw [if_pos (by decide), l]
      omega
    have h3 : ys.length = (ys ++ [y]).length := e1.symm.trans h2
    simp at h3
  · rw [cut_last ys y]
    exact q _ p (same_new hp) (.inl (.inl upd_same))
theorem inV_bls (a b : Bool) : inV (.bl true) [.bl a, .bl b] = (a || b) := by cases a <;> cases b <;> rfl
section
variable {K : PySem.W.Frag} {mg : Str → Option Value} {base : Heap} {P : Program} {w : World}
abbrev n46 : List Str := ["_law_skein_here", "_law_frame_here", "_law_parts_here", "_law_names", "_law_mine", "_law_turn", "_law_term", "_law_shift", "_law_due", "_law_told", "_law_later", "_law_name"]
theorem sc46 : FnScope n46 ["_law_skein_here", "_law_frame_here", "_law_parts_here"] (defScope (topS 46)) := ⟨rfl, rfl, rfl, by decide +kernel, rfl, by decide +kernel, by decide +kernel⟩
theorem ok46 {f C : Addr} {fd : FuncData} (F : Fun K "_law_terms_right" "_law_terms_right" (topS 46) f fd) (B : Blt mg) (T : FrTxt K mg C) (M8 : MJud P w K mg base 4 C "is_position_term" (spIsPos K w C)) (M9 : MJud P w K mg base 5 C "is_value_term" (spIsVal K w C))
    (c34 : Cal P w K mg base 1 "_law_pull" (spPull K)) (c35 : Cal P w K mg base 2 "_law_one_of" (spOne K)) (c36 : Cal P w K mg base 2 "_law_few_of" (spFew K)) (c40 : Cal P w K mg base 2 "_law_all_of" (spLawAll K)) (c41 : Cal P w K mg base 1 "_law_is_number" (spPassed K w)) (c42 : Cal P w K mg base 2 "_law_is_place" (spLawPl K w))
    (c43 : Cal P w K mg base 3 "_law_is_worth" (spLawWo K w)) (c44 : Cal P w K mg base 3 "_law_term_near" (spNear K w)) (c45 : Cal P w K mg base 8 "_law_shifted" (spLawSh K w C)) : FnG P w K mg base 9 f fd ["_law_skein_here", "_law_frame_here", "_law_parts_here"] (spTerms K C) := by
  refine okG F sc46 (fun vs H Q E h => ?_) (fun cdv A outer s H vs Q E hgd hr h => ?_)
  · obtain ⟨S, G, n, p, r, P, rfl, _⟩ := h
    rfl
  · have hu := hu70 hr
    obtain ⟨f8, fd8, g8, T8, ds8, m8, F8, kb8, v8, b8, t8⟩ := M8.at_
    obtain ⟨f9, fd9, g9, T9, ds9, m9, F9, kb9, v9, b9, t9⟩ := M9.at_
    refine ⟨_, (pss_cons (ps_setLc (i := 3) (own := [("_law_name", 11)]) (g := gName 11) (by rfl) sc46.nd rfl rfl (sw_true rfl rfl rfl (by decide +kernel)) (pi_tup (pe_tup (pa_cons pe_str (pa_cons pe_str (pa_cons pe_str (pa_cons pe_str pa_nil)))))) (blkOk_by (N := n46) (sc := defScope (topS 46)) (by decide +kernel)) (fun _ _ _ _ _ => (pg_name (i := 11) sc46.nd rfl (Or.inl rfl))) (fun _ _ _ _ _ => pts_one (pt_cmpR (r := rNotInP K) (op_notInP (hu65 hu)) (pv 11) (pe_c c40 hr (by decide) (by rfl) (pa_cons (pv 2) pa_nil)) rfl)) (fun _ _ _ _ _ => (pv 11))) (pss_cons (ps_set (i := 4) sc46.nd rfl (Or.inl rfl) (pe_callTy call_tuple_of (by rfl) B.tuple boot_tuple (pa_cons (pe_c c36 hr (by decide) (by rfl) (pa_cons (pv 0) (pa_cons (pv 3) (pa_cons (pe_c c34 hr (by decide) (by rfl) (pa_cons (pv 0) (pa_cons pe_int pa_nil))) pa_nil)))) pa_nil))) (pss_cons (ps_for PassesOwn.never rfl (pi_range1 (by rfl) B.range (pa_cons pe_int pa_nil)) (pg_name (i := 5) sc46.nd rfl (Or.inl rfl)) (pss_cons (ps_par (i := 6) (j := 7) rfl sc46.nd rfl rfl (by decide) rfl rfl (pa_cons (pe_c c44 hr (by decide) (by rfl) (pa_cons (pv 0) (pa_cons (pv 2) (pa_cons (pv 4) pa_nil)))) (pa_cons (pe_c c35 hr (by decide) (by rfl) (pa_cons (pv 0) (pa_cons (pe_lst (pa_cons pe_int (pa_cons pe_int (pa_cons (pe_un un_neg pe_int) (pa_cons (pe_op op_pow pe_int pe_int) (pa_cons (pe_op op_sub pe_int (pe_op op_pow pe_int pe_int)) pa_nil)))))) pa_nil))) pa_nil)) (by rfl)) (pss_cons (ps_set (i := 8) sc46.nd rfl (Or.inl rfl) (pe_lst (pa_cons (pe_c c42 hr (by decide) (by rfl) (pa_cons (pv 2) (pa_cons (pv 6) (pa_cons (pv 4) pa_nil)))) (pa_cons (pe_c c43 hr (by decide) (by rfl) (pa_cons (pv 2) (pa_cons (pv 6) (pa_cons (pv 4) pa_nil)))) pa_nil)))) (pss_cons (ps_set (i := 9) sc46.nd rfl (Or.inl rfl) (pe_lst (pa_cons (pe_methN (pv 1) T.cl m8 F8 (hr.mono (by decide)) kb8 pass0 (pa_cons (pv 6) pa_nil) (pk_cons (pv 4) pk_nil)) (pa_cons (pe_methN (pv 1) T.cl m9 F9 (hr.mono (by decide)) kb9 pass0 (pa_cons (pv 6) pa_nil) (pk_cons (pv 4) pk_nil)) pa_nil)))) (pss_cons (ps_if (pt_cmpR op_ne (pe_callB (r := rRep K w) (call_reprD hgd (hu65 hu)) (by rfl) B.repr boot_repr (pa_cons (pv 9) pa_nil)) (pe_callB (r := rRep K w) (call_reprD hgd (hu65 hu)) (by rfl) B.repr boot_repr (pa_cons (pv 8) pa_nil)) (nomark _)) (pss_one (ps_ret pe_bl)) pss_nil) (pss_cons (ps_set (i := 8) sc46.nd rfl (Or.inl rfl) (pe_lst (pa_cons (pe_c c42 hr (by decide) (by rfl) (pa_cons (pv 2) (pa_cons (pv 6) (pa_cons (pe_tup pa_nil) pa_nil)))) (pa_cons (pe_c c43 hr (by decide) (by rfl) (pa_cons (pv 2) (pa_cons (pv 6) (pa_cons (pe_tup pa_nil) pa_nil)))) pa_nil)))) (pss_cons (ps_if (pt_cmpR op_ne (pe_callB (r := rRep K w) (call_reprD hgd (hu65 hu)) (by rfl) B.repr boot_repr (pa_cons (pe_lst (pa_cons (pe_meth (pv 1) T.cl m8 F8 (hr.mono (by decide)) b8 v8 pass0 (pa_cons (pv 6) pa_nil)) (pa_cons (pe_meth (pv 1) T.cl m9 F9 (hr.mono (by decide)) b9 v9 pass0 (pa_cons (pv 6) pa_nil)) pa_nil))) pa_nil)) (pe_callB (r := rRep K w) (call_reprD hgd (hu65 hu)) (by rfl) B.repr boot_repr (pa_cons (pv 8) pa_nil)) (nomark _)) (pss_one (ps_ret pe_bl)) pss_nil) (pss_cons (ps_set (i := 10) sc46.nd rfl (Or.inl rfl) pe_str) (pss_cons (ps_if (pw_and (pt_cmpR op_in_seq pe_bl (pv 8) rfl) (pw_and1 (pt_val (pe_c c41 hr (by decide) (by rfl) (pa_cons (pe_op op_add (pe_ix (r := rIxT K) ix_tup (pv 6) (pe_un un_neg pe_int) (fun _ _ => rfl)) (pv 7)) pa_nil))))).pt (pss_one (ps_set (i := 10) sc46.nd rfl (Or.inl rfl) (pe_op op_catA (pe_slice sl_tupA (pv 6) po_none (po_some (pe_un un_neg pe_int))) (pe_tup (pa_cons (pe_op op_add (pe_ix (r := rIxT K) ix_tup (pv 6) (pe_un un_neg pe_int) (fun _ _ => rfl)) (pv 7)) pa_nil))))) pss_nil) (pss_one (ps_if (pt_cmpR op_ne (pe_callB (r := rRep K w) (call_reprD hgd (hu65 hu)) (by rfl) B.repr boot_repr (pa_cons (pe_c c45 hr (by decide) (by rfl) (pa_cons (pv 1) (pa_cons (pv 6) (pa_cons (pv 7) pa_nil)))) pa_nil)) (pe_callB (r := rRep K w) (call_reprD hgd (hu65 hu)) (by rfl) B.repr boot_repr (pa_cons (pv 10) pa_nil)) (nomark _)) (pss_one (ps_ret pe_bl)) pss_nil))))))))))) (pss_one (ps_ret pe_bl))))), ?_⟩
    obtain ⟨S, G, n, p, r, R, rfl, sk, nb, fr, row, q⟩ := h
    have sl : sizeLine = 16777216 := sizeLine_eq
    have eW : (List.range 4).map (fun k => W4.getD k Str.empty) = W4 := by decide +kernel
    -- the own names that may be taken
    refine ⟨by rw [sl]; exact (by decide : 4 ≤ 16777216), fun t0 ht0 => ⟨t0, rfl, ⟨_, .inl (.inl upd_same)⟩, fun D hD => ?_⟩⟩
    have s0 := same_new (o := .tup (W4.map V.str)) ht0
    have hT0 : SqT K (upd H t0 (.tup (W4.map V.str))) t0 (W4.map V.str) := .inl (.inl upd_same)
    refine lc_gen2 (K := K) (fun k => !decide (W4.getD k Str.empty ∈ namesL R)) (fun _ k y => y = .str (W4.getD k Str.empty)) (steady_tup (K := K) (a := t0) (xs := W4.map V.str)) (fun _ _ _ _ _ h => h) (fun H2 s2 => Tups.same s2 _ _ hT0) (show 11 < 12 by decide) (show 4 ≤ 5000 by decide) hD (fun k H2 Q' hk s2 q' => ?_) (fun k H2 Q' hk _ s2 q' => ?_) fun H2 ys s2 hys py => ?_
    · have hk2 : k < W4.length := hk
      rw [strs_getD _ hk2]
      rw [getD_at hk2] at q'
      refine ⟨_, rfl, _, rfl, r, R, rfl, row.mono (s0.trans s2), fun H3 L s3 hL _ => ⟨.str _, (namesL R).map PyData.str, .str _, .lst (.inl (.inl hL)) (dps_strs _), ⟨rfl, Nat.zero_le _⟩, plain_strs _, _, rfl, ?_⟩⟩
      rw [any_strs]
      exact q' _ s3
    · have hk2 : k < W4.length := hk
      rw [strs_getD _ hk2]
      refine ⟨_, rfl, q' _ _ (Same.refl _) ?_⟩
      rw [getD_at hk2]
    have ey : ys = (((List.range 4).filter fun k => !decide (W4.getD k Str.empty ∈ namesL R)).map (fun k => W4.getD k Str.empty)).map V.str := paired_filter py fun _ _ h => h
    obtain ⟨ns, en⟩ : ∃ ns, ns = ((List.range 4).filter fun k => !decide (W4.getD k Str.empty ∈ namesL R)).map (fun k => W4.getD k Str.empty) := ⟨_, rfl⟩
    have sub : ns.Sublist W4 := by
      rw [en, ← eW]
      exact List.filter_sublist.map _
    have fr0 : ∀ x ∈ ns, x ∉ namesL R := fun x hx => by
      rw [en] at hx
      obtain ⟨k, hk, rfl⟩ := List.mem_map.mp hx
      have := (List.mem_filter.mp hk).2
      simpa using this
    rw [← en] at ey
    subst ey
    clear py en eW
    have sA := s0.trans s2
    have sk2 := sk.same sA
    have nD := sk.new (Same.none_of s0 hD)
    refine ⟨_, rfl, _, rfl, _, rfl, S, G, n, 3, rfl, sk2, by omega, by decide, by decide, fun kz H3 k0 k1 b3 sk3 => ?_⟩
    obtain ⟨kn, rfl⟩ := Int.eq_ofNat_of_zero_le k0
    have lns : ns.length ≤ 4 := sub.length_le
    refine ⟨S, G, n + 1, D, ns.map V.str, kn, rfl, sk3, by omega, .inl (.inl (b3 _ _ nD.1 nD.2 hys)), nD.1, nD.2, by rw [List.length_map]; omega, fun H4 F4 ys zs b4 sk4 nF hF ly pm => ?_⟩
    obtain ⟨own, rfl⟩ : ∃ own : List Str, ys = own.map V.str := texts_back fun y hy => by
      obtain ⟨x, _, e⟩ := List.mem_map.mp (pm.mem_iff.mpr (List.mem_append_left _ hy))
      exact ⟨x, e.symm⟩
    have oin : ∀ x ∈ own, x ∈ ns := fun x hx => by
      obtain ⟨y, hy, e⟩ := List.mem_map.mp (pm.mem_iff.mpr (List.mem_append_left zs (List.mem_map.mpr ⟨x, hx, rfl⟩)))
      rw [← V.str.inj e]
      exact hy
    have ond : own.Nodup := by
      have nd : (ns.map V.str).Nodup := List.pairwise_map.mpr ((W4_nd.sublist sub).imp fun h e => h (V.str.inj e))
      have nd2 : (own.map V.str).Nodup := (List.nodup_append.mp (pm.nodup_iff.mp nd)).1
      exact (List.pairwise_map.mp nd2).imp fun h e => h (by rw [e])
    have oo : OwnOk R own := ⟨by rw [List.length_map, List.length_map] at ly; omega, ond, fun x hx => ⟨(W4_nm x (sub.subset (oin x hx))).1, (W4_nm x (sub.subset (oin x hx))).2, fr0 x (oin x hx)⟩⟩
    have olen := oo.len
    have onm : ∀ x ∈ own, isNameS x = true := fun x hx => (oo.nm x hx).1
    refine ⟨F4, _, rfl, .inl ⟨.inl (.inl hF), fun o ho => ?_⟩⟩
    have s5 := same_new (o := .tup (own.map V.str)) ho
    have bt5 : ButSG S G H (upd H4 o (.tup (own.map V.str))) := (((ButSG.same sA).trans b3).trans b4).trans (ButSG.same s5)
    have hO5 : SqT K (upd H4 o (.tup (own.map V.str))) o (own.map V.str) := .inl (.inl upd_same)
    have sk5 := sk4.same s5
    have fr5 := fr.but bt5 sk
    have row5 := row.but bt5 sk
    clear s0 hT0 hD ht0 sA sk2 b3 sk3 b4 sk4 nF hF ly pm s5 hys s2 ho
    generalize upd H4 o (.tup (own.map V.str)) = H5 at *
    refine ⟨6, rfl, by decide, by decide, ?_⟩
    refine for_steady steady_rng (fun i σ H' => (∃ z5 z6 z7 z8 z9 z10 z11, σ = [some (.ref S), some (.ref p), some (.ref r), some (.ref D), some (.ref o), z5, z6, z7, z8, z9, z10, z11]) ∧ ButSG S G H5 H' ∧ SkAt H' S G (n + 61 + 11 * (i : Int))) ⟨⟨_, _, _, _, _, _, _, rfl⟩, ButSG.refl _ _ _, sk5.le (by omega)⟩ (fun _ _ _ _ _ => trivial) ?_ ?_
    · rintro i σ H6 hi ⟨⟨z5, z6, z7, z8, z9, z10, z11, rfl⟩, b6, sk6⟩
      have hi6 : i < 6 := hi
      have tp6 := tups_but (K := K) b6 sk5
      refine ⟨_, rfl, _, rfl, _, rfl, S, G, _, r, R, o, own, rfl, sk6, by omega, row5.but b6 sk5, tp6 _ _ hO5, by omega, onm, fun v d H7 b7 sk7 nd => ?_⟩
      have b57 := b6.trans b7
      refine ⟨_, rfl, 3, rfl, 10, 59, rfl, rfl, ⟨by decide, by decide, by decide⟩, 10, 60, rfl, rfl, ⟨by decide, by decide, by decide⟩, _, _, rfl, rfl, by rw [sl]; exact (by decide : 5 ≤ 16777216), fun L hL => ?_⟩
      have s8 := same_new (o := .lst [V.int 0, .int 1, .int (-3), .int (10 ^ Int.toNat 59), .int (1 - 10 ^ Int.toNat 60)]) hL
      have nL := sk7.new hL
      refine ⟨S, G, _, L, [V.int 0, .int 1, .int (-3), .int (10 ^ Int.toNat 59), .int (1 - 10 ^ Int.toNat 60)], rfl, sk7.same s8, by omega, .inl (.inl upd_same), nL.1, nL.2, by simp, by decide, fun sv H9 hsv b9 sk9 => ?_⟩
      obtain ⟨z, rfl, hz⟩ : ∃ z, sv = .int z ∧ small z = true := by
        simp only [List.mem_cons, List.not_mem_nil, or_false] at hsv
        rcases hsv with rfl | rfl | rfl | rfl | rfl
        · exact ⟨_, rfl, by decide +kernel⟩
        · exact ⟨_, rfl, by decide +kernel⟩
        · exact ⟨_, rfl, by decide +kernel⟩
        · exact ⟨_, rfl, by decide +kernel⟩
        · exact ⟨_, rfl, by decide +kernel⟩
      have sk8 := sk7.same s8
      have b59 := b57.trans ((ButSG.same s8).trans b9)
      have nd9 := (nd.same s8).but b9 sk8
      replace sk9 : SkAt H9 S G (n + 61 + 11 * ((i + 1 : Nat) : Int)) := sk9.le (by omega)
      have fr9 := fr5.but b59 sk5
      have row9 := row5.but b59 sk5
      have hO9 := tups_but (K := K) b59 sk5 _ _ hO5
      clear sk7 sk8 b57 b7 s8 hL nL b9 nd tp6 sk6
      obtain ⟨ok, dx, fs, uA, uP, uV, aK, h1, h2, h3, h4, h5, h6, h7, h8, h9, h10⟩ := id fr9
      refine ⟨_, _, rfl, ?_⟩
      -- the first judgements
      refine ⟨_, rfl, _, rfl, _, rfl, r, R, v, d, o, own, rfl, row9, nd9.dv, fun ds e => (nd9.pl ds e).1, hO9, by omega, fun H10 s10 => ?_⟩
      refine ⟨_, rfl, _, rfl, _, rfl, r, R, v, d, o, own, rfl, row9.mono s10, (nd9.same s10).dv, fun ds e => (nd9.pl ds e).1, Tups.same s10 _ _ hO9, by omega, fun H11 s11 => ⟨by rw [sl]; exact (by decide : 2 ≤ 16777216), fun L12 hL12 => ?_⟩⟩
      have t12 := (s10.trans s11).trans (same_new (o := .lst [V.bl (lawPlace R own d), .bl (lawWorth R own d)]) hL12)
      have hD12 : (upd H11 L12 (.lst [V.bl (lawPlace R own d), .bl (lawWorth R own d)])) L12 = some (.lst [V.bl (lawPlace R own d), .bl (lawWorth R own d)]) := upd_same
      generalize upd H11 L12 (.lst [V.bl (lawPlace R own d), .bl (lawWorth R own d)]) = H12 at *
      refine ⟨_, rfl, p, dx, fs, rfl, t12 _ _ h1, h6 _ (by decide +kernel), _, rfl, _, rfl, rfl, rfl, p, R, v, d, o, own, rfl, fr9.same t12, (nd9.same t12).dv, Tups.same t12 _ _ hO9, oo, fun H13 s13 => ?_⟩
      have t13 := t12.trans s13
      refine ⟨_, rfl, p, dx, fs, rfl, t13 _ _ h1, h6 _ (by decide +kernel), _, rfl, _, rfl, rfl, rfl, p, R, v, d, o, own, rfl, fr9.same t13, (nd9.same t13).dv, nd9.sh, Tups.same t13 _ _ hO9, oo, fun H14 s14 => ⟨by rw [sl]; exact (by decide : 2 ≤ 16777216), fun L15 hL15 => ?_⟩⟩
      have s15 := same_new (o := .lst [V.bl (lawPlace R own d), .bl (lawWorth R own d)]) hL15
      have t15 := (t13.trans s14).trans s15
      have hD15 := ((s13.trans s14).trans s15) _ _ hD12
      have hT15 : (upd H14 L15 (.lst [V.bl (lawPlace R own d), .bl (lawWorth R own d)])) L15 = some (.lst [V.bl (lawPlace R own d), .bl (lawWorth R own d)]) := upd_same
      generalize upd H14 L15 (.lst [V.bl (lawPlace R own d), .bl (lawWorth R own d)]) = H15 at *
      have two : ∀ {H : Hp} {L : Addr} {a b : Bool}, H L = some (.lst [V.bl a, .bl b]) → DV K w H (.ref L) (.list [.bool a, .bool b]) := fun e => .inl (.lst (.inl (.inl e)) (.cons (.bl _) (.cons (.bl _) .nil)))
      refine ⟨_, rfl, _, _, rfl, two hT15, shows_bls _ _, _, rfl, _, _, rfl, two hD15, shows_bls _ _, rfl, _, rfl, ?_⟩
      rw [decide_eq_true rfl]
      refine iteF ?_
      -- the second ones, without own names
      refine ⟨_, rfl, _, rfl, Nat.zero_le _, fun e16 he16 => ⟨r, R, v, d, e16, [], rfl, row9.mono (t15.trans (same_new he16)), (nd9.same (t15.trans (same_new he16))).dv, fun ds e => (nd9.pl ds e).1, .inl (.inl upd_same), Nat.zero_le _, fun H17 s17 => ?_⟩⟩
      have t17 := (t15.trans (same_new (o := .tup []) he16)).trans s17
      refine ⟨_, rfl, _, rfl, Nat.zero_le _, fun e18 he18 => ⟨r, R, v, d, e18, [], rfl, row9.mono (t17.trans (same_new he18)), (nd9.same (t17.trans (same_new he18))).dv, fun ds e => (nd9.pl ds e).1, .inl (.inl upd_same), Nat.zero_le _, fun H19 s19 => ⟨by rw [sl]; exact (by decide : 2 ≤ 16777216), fun L20 hL20 => ?_⟩⟩⟩
      have t20 := ((t17.trans (same_new (o := .tup []) he18)).trans s19).trans (same_new (o := .lst [V.bl (lawPlace R [] d), .bl (lawWorth R [] d)]) hL20)
      have hD20 : (upd H19 L20 (.lst [V.bl (lawPlace R [] d), .bl (lawWorth R [] d)])) L20 = some (.lst [V.bl (lawPlace R [] d), .bl (lawWorth R [] d)]) := upd_same
      generalize upd H19 L20 (.lst [V.bl (lawPlace R [] d), .bl (lawWorth R [] d)]) = H20 at *
      refine ⟨_, rfl, p, dx, fs, rfl, t20 _ _ h1, h6 _ (by decide +kernel), _, rfl, p, R, v, d, T8, [], rfl, fr9.same t20, (nd9.same t20).dv, t8 _, ownOk_nil R, fun H21 s21 => ?_⟩
      have t21 := t20.trans s21
      refine ⟨_, rfl, p, dx, fs, rfl, t21 _ _ h1, h6 _ (by decide +kernel), _, rfl, p, R, v, d, T9, [], rfl, fr9.same t21, (nd9.same t21).dv, nd9.sh, t9 _, ownOk_nil R, fun H22 s22 => ⟨by rw [sl]; exact (by decide : 2 ≤ 16777216), fun L23 hL23 => ?_⟩⟩
      have s23 := same_new (o := .lst [V.bl (lawPlace R [] d), .bl (lawWorth R [] d)]) hL23
      have t23 := (t21.trans s22).trans s23
      have hD23 := ((s21.trans s22).trans s23) _ _ hD20
      have hT23 : (upd H22 L23 (.lst [V.bl (lawPlace R [] d), .bl (lawWorth R [] d)])) L23 = some (.lst [V.bl (lawPlace R [] d), .bl (lawWorth R [] d)]) := upd_same
      generalize upd H22 L23 (.lst [V.bl (lawPlace R [] d), .bl (lawWorth R [] d)]) = H23 at *
      refine ⟨_, _, rfl, two hT23, shows_bls _ _, _, rfl, _, _, rfl, two hD23, shows_bls _ _, rfl, _, rfl, ?_⟩
      rw [decide_eq_true rfl]
      refine iteF ?_
      -- the term with so much more
      refine ⟨_, rfl, L20, _, rfl, .inl (.inl (.inl hD23)), rfl, rfl, _, rfl, ?_⟩
      simp only [Bool.false_eq_true, if_false]
      rw [inV_bls]
      have fin : ∀ H', Same H23 H' → ButSG S G H5 H' ∧ SkAt H' S G (n + 61 + 11 * ((i + 1 : Nat) : Int)) := fun H' s' => ⟨b59.trans (ButSG.same (t23.trans s')), sk9.same (t23.trans s')⟩
      have fr23 := fr9.same t23
      have nd23 := nd9.same t23
      clear t12 hD12 t13 s13 s14 s15 t15 hD15 hT15 t17 t20 hD20 t21 s21 s22 s23 hD23 hT23 s10 s11
      cases e : (lawPlace R [] d || lawWorth R [] d) with
      | false =>
        refine iteF ⟨_, rfl, _, rfl, _, rfl, p, R, v, d, z, rfl, fr23, nd23.dv, nd23.sh, hz, fun _ H24 s24 => ?_, fun ds j _ a => ?_⟩
        · refine ⟨_, .str _, rfl, .inl (.str _), shows_word, _, rfl, _, .str _, rfl, .inl (.str _), shows_word, rfl, _, rfl, ?_⟩
          rw [decide_eq_true rfl]
          exact iteF ⟨⟨_, _, _, _, _, _, _, rfl⟩, fin _ s24⟩
        · rw [show anyT R d = false from e] at a
          cases a
      | true =>
        have ea : anyT R d = true := e
        obtain ⟨ds, j, rfl, hl, hi, hj⟩ := any_form ea
        have dp : Dp K H23 v (.tuple (ds ++ [.int j])) := by
          rcases nd23.dv with h | ⟨_, _, _, _, _, e, _⟩
          · exact h
          · cases e
        obtain ⟨ta, xs, rfl, sa, da⟩ : ∃ ta xs, v = .ref ta ∧ SqT K H23 ta xs ∧ DpAll K H23 xs (ds ++ [.int j]) := by
          cases dp with
          | tup sa da => exact ⟨_, _, rfl, sa, da⟩
        obtain ⟨ys, y, rfl, dy, dl⟩ := dps_split da
        obtain rfl : y = V.int j := by cases dl; rfl
        have ly := dp_len dy
        refine iteT ⟨_, rfl, 1, rfl, ta, _, -1, V.int j, rfl, rfl, sa, atI_last ys _, _, rfl, j, z, rfl, rfl, _, .int (j + z), rfl, .int _, _, rfl, ?_⟩
        cases es : small (j + z) with
        | false =>
          rw [show isNum (.int (j + z)) = false from es]
          refine iteF ⟨_, rfl, _, rfl, _, rfl, p, R, .ref ta, _, z, rfl, fr23, nd23.dv, nd23.sh, hz, fun a => ?_, fun ds2 j2 e2 a => ?_⟩
          · rw [ea] at a
            cases a
          · have e3 := List.append_inj' (PyData.tuple.inj e2) rfl
            obtain rfl : j = j2 := by have := e3.2; simpa using this
            refine ⟨fun _ H24 s24 => ?_, fun b => ?_⟩
            · refine ⟨_, .str _, rfl, .inl (.str _), shows_word, _, rfl, _, .str _, rfl, .inl (.str _), shows_word, rfl, _, rfl, ?_⟩
              rw [decide_eq_true rfl]
              exact iteF ⟨⟨_, _, _, _, _, _, _, rfl⟩, fin _ s24⟩
            · rw [es] at b
              cases b
        | true =>
          rw [show isNum (.int (j + z)) = true from es]
          refine iteT ⟨_, rfl, 1, rfl, _, rfl, slA_last sa fun H24 u1 s24 U1 => ?_⟩
          refine ⟨_, rfl, 1, rfl, ta, _, -1, V.int j, rfl, rfl, Tups.same s24 _ _ sa, atI_last ys _, _, rfl, j, z, rfl, rfl, by rw [sl]; exact (by decide : (1 : Nat) ≤ 16777216), fun u2 hu2 => ?_⟩
          have s25 := same_new (o := .tup [V.int (j + z)]) hu2
          refine catA_i (Tups.same s25 _ _ U1) (.inl (.inl upd_same)) (by simp; omega) fun H26 u3 s26 U3 => ?_
          have s2326 := (s24.trans s25).trans s26
          have d3 : Dp K H26 (.ref u3) (.tuple (ds ++ [.int (j + z)])) := .tup U3 (dps_app (dps_mono s2326 _ _ dy) (.cons (.int _) .nil))
          refine ⟨_, rfl, _, rfl, _, rfl, p, R, .ref ta, _, z, rfl, fr23.same s2326, (nd23.same s2326).dv, nd23.sh, hz, fun a => ?_, fun ds2 j2 e2 a => ?_⟩
          · rw [ea] at a
            cases a
          · have e3 := List.append_inj' (PyData.tuple.inj e2) rfl
            obtain rfl : j = j2 := by have := e3.2; simpa using this
            obtain rfl : ds = ds2 := e3.1
            refine ⟨fun b => ?_, fun _ H27 p' s27 d27 => ?_⟩
            · rw [es] at b
              cases b
            · have sh := any_shows fr23.ok ea es
              refine ⟨_, _, rfl, .inl d27, sh, _, rfl, _, _, rfl, .inl (dp_mono s27 _ _ d3), sh, rfl, _, rfl, ?_⟩
              rw [decide_eq_true rfl]
              exact iteF ⟨⟨_, _, _, _, _, _, _, rfl⟩, fin _ (s2326.trans s27)⟩
    · rintro σ H6 ⟨_, b6, sk6⟩
      exact q H6 (bt5.trans b6) (sk6.le (by have : ((6 : Int)).toNat = 6 := rfl; omega))
end
end Fc
namespace Fc
open PySem PySem.Spec L2 PyProof PyProof.Rows HotX
/-! walks to their end while an exception is handled -/
section
variable {prog : Program} {w : World} {A : Around} {E : Value → Shared → Prop} {s : Shared}
/-- the exception that tells the end, made and raised -/
theorem stop_hot {x1 : Addr} {F : PySem.Fin → Shared → Prop} (hot : HotAt A x1 s.heap) (q : ∀ (h' : Heap) (a : Addr) (o : Obj), (∀ b u, s.heap.get? b = some u → h'.get? b = some u) → h'.get? a = some o → o.cls = .type "StopIteration" → E (.ref a) { s with heap := h' }) :
    wpAny (model prog w) A Builtin.SmallTypes.stopIteration F E s := by
  obtain ⟨hh, o1, f1, g1, d1, c1⟩ := hot
  change wpAny _ _ (newExc (.type "StopIteration") [] >>= _) _ _ _
  refine wpAny_bind ?_
  simp only [newExc, newTuple]
  refine wpAny_bind (wpAny_newObj_type (wpAny_bind (m := firstArgMember _ _) (wpAny_of_eq (a := Value.none) (by first | rfl | (simp only [firstArgMember]; rfl)) (wpAny_newObj_type ?_ (by size_fits)))) (by size_fits))
  generalize e2 : s.heap.push { cls := .type "tuple", data := .seq ([] : List Value).toArray } = hT
  have g2 : ∀ b u, s.heap.get? b = some u → hT.get? b = some u := fun b u e => by rw [← e2]; exact Heap.get?_push_of_some _ e
  dsimp only
  generalize eo : ({ cls := Value.type "StopIteration", data := Data.fields (#[Value.ref s.heap.objs.size, Value.none, Value.none, Value.none, Value.bool false, Value.none] ++ ownMembersOf (Value.type "StopIteration") []) } : Obj) = oe
  have g3 : ∀ b u, hT.get? b = some u → (hT.push oe).get? b = some u := fun b u e => Heap.get?_push_of_some oe e
  have old := g3 _ _ (g2 _ _ g1)
  have ne : x1 ≠ hT.objs.size := Nat.ne_of_lt (Heap.lt_size (g2 _ _ g1))
  have dat : oe.data = .fields (#[Value.ref s.heap.objs.size, Value.none, Value.none, Value.none, Value.bool false, Value.none] ++ ownMembersOf (Value.type "StopIteration") []) := by rw [← eo]
  have cl : oe.cls = .type "StopIteration" := by rw [← eo]
  have nf : oe.isFreed = false := Obj.isFreed_of_fields dat
  have mine : (hT.push oe).get? hT.objs.size = some oe := Heap.get?_push_size _ nf
  refine raiseNew_hot (s := { s with heap := hT.push oe }) ⟨hh, o1, f1, old, d1, c1⟩ ne mine dat (by rw [Array.size_append]; exact Nat.lt_of_lt_of_le (by decide : 2 < 6) (Nat.le_add_right _ _)) ?_
  refine q _ hT.objs.size _ (fun b u e => ?_) (Heap.get?_update_self _ mine (Obj.isFreed_of_fields (Obj.data_mapFields dat _))) ((Obj.cls_mapFields ..).trans cl)
  rw [Heap.get?_update_other _ _ (Nat.ne_of_gt (Heap.lt_size (g2 _ _ e)))]
  exact g3 _ _ (g2 _ _ e)
theorem list_end_hot {it l x1 : Addr} {i : Nat} {items : Array Value} {Q : Option Value → Shared → Prop} (hot : HotAt A x1 s.heap) (hit : s.heap.IsListIter it l i) (hl : s.heap.IsList l items) (past : items[i]? = none)
    (hQ : ∀ h', Heap.ExtBut it s.heap h' → Q none { s with heap := h' }) : wpAny (model prog w) A (pyNext (.ref it)) Q E s := by
  obtain ⟨oi, gi, ci, di⟩ := id hit
  obtain ⟨ol, gl, _, nl, dl⟩ := hl
  obtain ⟨hh, o1, f1, g1, d1, c1⟩ := hot
  have away : it ≠ x1 := by
    rintro rfl
    rw [gi] at g1
    cases g1
    rw [di] at d1
    cases d1
    simp at c1
  unfold pyNext
  refine wpAny_bind (wpAny_attempt (wpAny_callSpecial?_slot (name := Str.ofString "__next__") hit.typeIs slot_listiter_next (wpAny_call_entry slot_listiter_next hit.typeIs entry_listiter_next ?_ (args_listiter_next _))))
  change wpAny _ _ (field (.ref it) 0 >>= _) _ _ s
  refine wpAny_bind (wpAny_field gi di (x := .ref l) rfl ?_)
  change wpAny _ _ (if (Value.ref l == Value.none) = true then _ else _) _ _ s
  rw [if_neg (show ¬ (Value.ref l == Value.none) = true from fun e => Bool.noConfusion e)]
  change wpAny _ _ (field (.ref it) 1 >>= _) _ _ s
  refine wpAny_bind (wpAny_field gi di (x := .int i 0) rfl ?_)
  change wpAny _ _ (seqItems? (.ref l) >>= _) _ _ s
  refine wpAny_bind (wpAny_seqItems gl dl ?_)
  simp only [Int.toNat_natCast, past]
  refine wpAny_bind (wpAny_rule (wpAny_bind (wpAny_setField gi di (by simp) ?_)))
  have sb : Heap.SameBut it s.heap (s.heap.update it (Obj.mapFields (·.setIfInBounds 0 .none))) := Heap.SameBut.update ..
  refine stop_hot ⟨hh, o1, f1, (sb.2 x1 away.symm).trans g1, d1, c1⟩ fun h' a o up ha ho => ?_
  refine wpAny_bind (wpAny_isInstance (T := "StopIteration") (b := true) ⟨o, ha, ho⟩ isSubtype_stop (wpAny_pure (hQ h' ?_)))
  exact fun b u ne e => up b u ((sb.2 b ne).trans e)
theorem tuple_end_hot {it l x1 : Addr} {i : Nat} {items : Array Value} {Q : Option Value → Shared → Prop} (hot : HotAt A x1 s.heap) (hit : s.heap.IsTupleIter it l i) (hl : s.heap.IsTuple l items) (past : items[i]? = none)
    (hQ : ∀ h', Heap.ExtBut it s.heap h' → Q none { s with heap := h' }) : wpAny (model prog w) A (pyNext (.ref it)) Q E s := by
  obtain ⟨oi, gi, ci, di⟩ := id hit
  obtain ⟨ol, gl, _, nl, dl⟩ := hl
  obtain ⟨hh, o1, f1, g1, d1, c1⟩ := hot
  have away : it ≠ x1 := by
    rintro rfl
    rw [gi] at g1
    cases g1
    rw [di] at d1
    cases d1
    simp at c1
  unfold pyNext
  refine wpAny_bind (wpAny_attempt (wpAny_callSpecial?_slot (name := Str.ofString "__next__") hit.typeIs F.slot_tuple_iterator_next (wpAny_call_entry F.slot_tuple_iterator_next hit.typeIs F.entry_tuple_iterator_next ?_ (F.args_tuple_iterator_next_1 _))))
  change wpAny _ _ (field (.ref it) 0 >>= _) _ _ s
  refine wpAny_bind (wpAny_field gi di (x := .ref l) rfl ?_)
  change wpAny _ _ (if (Value.ref l == Value.none) = true then _ else _) _ _ s
  rw [if_neg (show ¬ (Value.ref l == Value.none) = true from fun e => Bool.noConfusion e)]
  change wpAny _ _ (field (.ref it) 1 >>= _) _ _ s
  refine wpAny_bind (wpAny_field gi di (x := .int i 0) rfl ?_)
  change wpAny _ _ (seqItems? (.ref l) >>= _) _ _ s
  refine wpAny_bind (wpAny_seqItems gl dl ?_)
  simp only [Int.toNat_natCast, past]
  refine wpAny_bind (wpAny_rule (wpAny_bind (wpAny_setField gi di (by simp) ?_)))
  have sb : Heap.SameBut it s.heap (s.heap.update it (Obj.mapFields (·.setIfInBounds 0 .none))) := Heap.SameBut.update ..
  refine stop_hot ⟨hh, o1, f1, (sb.2 x1 away.symm).trans g1, d1, c1⟩ fun h' a o up ha ho => ?_
  refine wpAny_bind (wpAny_isInstance (T := "StopIteration") (b := true) ⟨o, ha, ho⟩ isSubtype_stop (wpAny_pure (hQ h' ?_)))
  exact fun b u ne e => up b u ((sb.2 b ne).trans e)
end
end Fc
namespace Fc
open PySem PySem.Spec L2 L2H PyProof.Rows HotX
/-! walks over tuples, and [..] over them, while an exception is handled -/
/-- a walk's turns, in whatever is handled; its end where the handled exception stands alone -/
structure TurnR (P : Program) (w : World) (K : PySem.W.Frag) (tg : Expr) (J : It) (fp : List Addr) (it : Addr) (tn : Nat → Heap → Prop) : Prop where
  mem : it ∈ fp
  obj : ∀ i h, tn i h → ∀ b ∈ fp, ∃ o, h.get? b = some o ∧ ∀ v, o.data ≠ .cell v
  keep : ∀ i h h', tn i h → (∀ b ∈ fp, ∀ o, h.get? b = some o → h'.get? b = some o) → tn i h'
  item : ∀ (X : Cx), X.prog = P → X.w = w → X.K = K → ∀ (i : Nat) (pins : List (Addr × Obj)) (s : Shared) (σ : L2.St) (H : Hp) (E : Value → Shared → Prop), Inv X pins σ H s → (∀ b ∈ fp, FpOk X pins H b) → tn i s.heap → J.go i H →
    wpAny (model P w) X.A (pyNext (.ref it)) (fun r s1 => ∃ u, r = some u ∧ wpAny (model P w) X.A (letOwnedTupleGo tg (.ref it) u) (fun _ s2 => ∃ x H', Inv X pins σ H' s2 ∧ RelV x u ∧ J.yld i H x H' ∧ tn (i + 1) s2.heap ∧ ∀ b ∈ fp, H' b = none) E s1) E s
  done : ∀ (X : Cx), X.prog = P → X.w = w → X.K = K → ∀ (i : Nat) (pins : List (Addr × Obj)) (s : Shared) (σ : L2.St) (H : Hp) (E : Value → Shared → Prop) (x1 : Addr), HotAt X.A x1 s.heap → Inv X pins σ H s → (∀ b ∈ fp, FpOk X pins H b) → tn i s.heap → J.stop i H →
    wpAny (model P w) X.A (pyNext (.ref it)) (fun r s1 => r = none ∧ Inv X pins σ H s1) E s
  self : ∀ (A : Around) (i : Nat) (s : Shared) (Q : Value → Shared → Prop) (E : Value → Shared → Prop), tn i s.heap → Q (.ref it) s → wpAny (model P w) A (pyIter (.ref it)) Q E s
theorem TurnR.toH {P : Program} {w : World} {K : PySem.W.Frag} {tg : Expr} {J : It} {fp : List Addr} {it : Addr} {tn : Nat → Heap → Prop} (T : TurnR P w K tg J fp it tn) : TurnH P w K tg J fp it tn :=
  ⟨T.mem, T.obj, T.keep, fun X a b c _ => T.item X a b c, fun X a b c hc i pins s σ H E I => let ⟨x1, hot⟩ := hc.at I; T.done X a b c i pins s σ H E x1 hot I, T.self⟩
theorem turnR_tup {P : Program} {w : World} {K : PySem.W.Frag} {tg : Expr} (a it : Addr) : TurnR P w K tg (Itt K a) [it] it (fun n h => h.IsTupleIter it a n) := by
  refine ⟨List.mem_singleton.mpr rfl, fun n h st b hb => ?_, fun n h h' st k => st.at fun ob e => k it (List.mem_singleton.mpr rfl) ob e, ?_, ?_, fun A n s Q E st h => wpAny_pyIter_tupleiter st h⟩
  · rw [List.mem_singleton] at hb
    subst hb
    obtain ⟨ob, e, _, dt⟩ := st
    exact ⟨ob, e, fun v z => by rw [dt] at z; cases z⟩
  · intro X e1 e2 e3 n pins s σ H E I hf st hg
    subst e1 e2 e3
    obtain ⟨xs, x, hq, hx⟩ := hg
    obtain ⟨us, ru, tp, _⟩ := I.tuple hq
    obtain ⟨u, hu, rx⟩ := ru.get hx
    have F := hf it (List.mem_singleton.mpr rfl)
    refine wpAny_pyNext_tuple_item st (show s.heap.IsTuple a us.toArray from tp) (x := u) (by simpa using hu) fun h' st' sb => ⟨u, rfl, ?_⟩
    have I1 : Inv X pins σ H { s with heap := h' } := I.turned (t' := s.toks) (fun b ob ne e => (sb.2 b ne).trans e) F.1 F.2.1 F.2.2.2.1 F.2.2.2.2.1 F.2.2.2.2.2
    have ⟨ob, e, c, dt⟩ := st'
    exact go_of (s := { s with heap := h' }) e c dt (by decide) ⟨x, H, I1, rx, ⟨rfl, fun ys hy => by rw [I.tuple_inj hy hq]; exact hx⟩, st', fun b hb => (hf b hb).1⟩
  · intro X e1 e2 e3 n pins s σ H E x1 hot I hf st hg
    subst e1 e2 e3
    obtain ⟨xs, hq, hx⟩ := hg
    obtain ⟨us, ru, tp, _⟩ := I.tuple hq
    have F := hf it (List.mem_singleton.mpr rfl)
    have lu := L2.Vals.length ru
    exact tuple_end_hot hot st (show s.heap.IsTuple a us.toArray from tp) (by simp; omega) fun h' eb => ⟨rfl, I.turned (t' := s.toks) (fun b ob ne e => eb b ob ne e) F.1 F.2.1 F.2.2.2.1 F.2.2.2.2.1 F.2.2.2.2.2⟩
/-- an iterator has come -/
def PIER (X : Cx) (pins : List (Addr × Obj)) (σ : L2.St) (tg : Expr) (R : It → Hp → Prop) (itv : Value) (s2 : Shared) : Prop :=
  ∃ (it : Addr) (fp : List Addr) (tn : Nat → Heap → Prop) (J : It) (H' : Hp), itv = .ref it ∧ Inv X pins σ H' s2 ∧ TurnR X.prog X.w X.K tg J fp it tn ∧ tn 0 s2.heap ∧ (∀ b ∈ fp, FpOk X pins H' b) ∧ R J H'
structure PIR (X : Cx) (tg iter : Expr) (wi : TI) : Prop where
  run : ∀ (pins : List (Addr × Obj)) (s : Shared) (σ : L2.St) (H : Hp) (R : It → Hp → Prop), Inv X pins σ H s → wi σ H R → wpAny (model X.prog X.w) X.A (eval iter X.env) (fun v s1 => wpAny (model X.prog X.w) X.A (pyIter v) (PIER X pins σ tg R) X.xe s1) X.xe s
theorem PIR.toH {X : Cx} {tg iter : Expr} {wi : TI} (h : PIR X tg iter wi) : PIH X tg iter wi :=
  ⟨fun pins s σ H R I q => wpAny_mono (h.run pins s σ H R I q) (fun v s1 q1 => wpAny_mono q1 (fun _ _ ⟨it, fp, tn, J, H', e, I', T, r⟩ => ⟨it, fp, tn, J, H', e, I', T.toH, r⟩) fun _ _ z => z) fun _ _ z => z⟩
theorem pi_tupR {X : Cx} {tg e : Expr} {te : TE} (he : PE X e te) : PIR X tg e (iTup X.K te) := by
  refine ⟨fun pins s σ H R I h => thn (he.run pins s σ H _ I h) fun u s1 ⟨x, H1, I1, rx, a, ex, ⟨xs, hq⟩, q⟩ => ?_⟩
  subst ex
  obtain rfl : u = Value.ref a := rx
  obtain ⟨us, ru, tp, _⟩ := I1.tuple hq
  refine wpAny_pyIter_tuple (show s1.heap.IsTuple a us.toArray from tp) ⟨_, [s1.heap.objs.size], _, _, H1, rfl, I1.kept (t' := s1.toks) (fun b ob e => Heap.get?_push_of_some _ e), turnR_tup a _, ⟨_, Heap.get?_push_size _ rfl, rfl, rfl⟩, fun b hb => ?_, q⟩
  rw [List.mem_singleton.mp hb]
  exact I1.fpOk (Nat.le_refl _) (I1.hok.fresh (Nat.le_refl _))
/-- unpacking of a tuple there -/
def HotI (X : Cx) : Prop := ∀ (pins : List (Addr × Obj)) (σ : L2.St) (H : Hp) (s : Shared), Inv X pins σ H s → ∃ x1, HotAt X.A x1 s.heap
theorem hotI {X : Cx} (h : HotC X) : HotI X := fun _ _ _ _ I => h.at I
def WarmB (X : Cx) (s : Shared) (H : Hp) (fp : List Addr) : Prop := ∃ p : Addr × Obj, Hot1 X.A p ∧ s.heap.get? p.1 = some p.2 ∧ H p.1 = none ∧ p.1 ∉ fp
theorem WarmB.hot {X : Cx} {s : Shared} {H : Hp} {fp : List Addr} {scope : Scope} {ce : Env} (h : WarmB X s H fp) : HotI (X.blk s H scope ce fp) := fun pins σ H' s' J => by
  obtain ⟨p, ⟨hh, v1, pd, pc⟩, g, f, n⟩ := h
  obtain ⟨sl, e⟩ := J.base.any (b := p.1) (ob := p.2) g f n
  exact ⟨p.1, hh, _, v1, e, pd, pc⟩
theorem pg_tupH {X : Cx} {es : List Expr} {k : Nat} {t : TGs} {n : Nat} {pos : Pos} (hot : HotI X) (h : PGs X es t)
    (hn : (assignEach es X.env).length = n := by rfl) (hst : (assignEach es X.env).findIdx? (·.1) = none := by rfl) : PG X (.Tuple es k pos) (gTup X.K n t) := by
  refine ⟨fun pins s σ H v u Q I r ⟨a, xs, ev, hq, hl, q⟩ => ?_⟩
  subst ev
  obtain rfl : u = Value.ref a := r
  obtain ⟨us, ru, tp, _⟩ := I.tuple hq
  have lu := L2.Vals.length ru
  obtain ⟨x1, o1, f1, ho⟩ := (show ∃ x1 o1 f1, X.A.handled = some (.ref x1) ∧ s.heap.get? x1 = some o1 ∧ o1.data = .fields f1 ∧ f1[2]? = some .none from let ⟨x1, hh, o1, f1, r⟩ := hot pins σ H s I; ⟨x1, o1, f1, hh, r⟩)
  obtain ⟨hh, g1, d1, c1⟩ := ho
  have tp2 : s.heap.IsTuple a us.toArray := tp
  have ne : a ≠ s.heap.objs.size := by obtain ⟨o, e, _⟩ := tp2; exact Nat.ne_of_lt (Heap.lt_size e)
  have ne1 : x1 ≠ s.heap.objs.size := Nat.ne_of_lt (Heap.lt_size g1)
  have sz : (assignEach es X.env).length = us.toArray.size := by rw [hn, List.size_toArray]; omega
  rw [assign_Tuple]
  refine wpAny_bind (wpAny_standAt ?_)
  unfold unpack
  rw [sz, hst]
  refine wpAny_bind (wpAny_holding ?_)
  unfold unpackItems notIterableAtAll
  refine wpAny_bind (wpAny_bind (wpAny_specialOf tp2.typeIs F.slot_tuple_iter.lookup (wpAny_pure ?_)))
  simp only [Bool.false_eq_true, if_false]
  refine wpAny_bind (wpAny_holding (wpAny_pyIter_tuple tp2 ?_))
  refine wpAny_bind (wpAny_holding (wpAny_draw_tuple ne us.toArray.size 0 _ _ ⟨_, Heap.get?_push_size _ rfl, rfl, rfl⟩ (tp2.push _) (by omega) fun h1 it1 sb1 => ?_))
  rw [show List.take us.toArray.size (List.drop 0 us.toArray.toList) = us by simp, if_neg (by simp)]
  have up1 : ∀ b o, b ≠ s.heap.objs.size → s.heap.get? b = some o → h1.get? b = some o := fun b o nb e => sb1.extBut b o nb (Heap.get?_push_of_some _ e)
  refine wpAny_bind (wpAny_holding (tuple_end_hot ⟨hh, o1, f1, up1 _ _ ne1 g1, d1, c1⟩ it1 ((tp2.push _).extBut sb1.extBut ne) (by simp) fun h2 eb2 => ?_))
  simp only [Option.isSome_none, Bool.false_eq_true, if_false]
  refine wpAny_pure ?_
  have I1 : Inv X pins σ H { s with heap := h2 } := I.kept (t' := s.toks) fun b o e => eb2 b o (Nat.ne_of_lt (Heap.lt_size e)) (up1 b o (Nat.ne_of_lt (Heap.lt_size e)) e)
  exact h.run pins _ σ H xs _ Q I1 ru q
theorem lcH_core {X : Cx} {pins : List (Addr × Obj)} {s : Shared} {σ : L2.St} {H : Hp} {Q : VK} {elt tg iter : Expr} {ifs : List Expr} {scope : Scope} {own : List (Str × Nat)} {pos pos' : Pos} {wi : TI} {g : TG} {tt : TT} {te : TE} {use : Option (Value → Sem Unit)} {Qf : Value → Shared → Prop} (hc : HotC X) (hN : X.N.Nodup) (I : Inv X pins σ H s) (hi : PIR X tg iter wi) (ok : BlkOk X.N X.env.scope scope own)
    (hg : ∀ (s : Shared) (H : Hp) (C : Addr) (cl : List (Str × Addr)) (fp : List Addr), WarmB X s H fp → PG (X.blk s H scope (compEnvC scope cl C X.env) fp) tg g)
    (ht : ∀ (s : Shared) (H : Hp) (C : Addr) (cl : List (Str × Addr)) (fp : List Addr), PTs (X.blk s H scope (compEnvC scope cl C X.env) fp) ifs tt)
    (he : ∀ (s : Shared) (H : Hp) (C : Addr) (cl : List (Str × Addr)) (fp : List Addr), PE (X.blk s H scope (compEnvC scope cl C X.env) fp) elt te) (hs : ∀ x, foldedSetIterable iter X.env x = pure x)
    (h : tLc wi g tt te (own.map (·.2)) σ H Q)
    (hRR : ∀ D C s' m H', Inv X pins σ H' s' → Q (.ref D) H' → s'.heap.Ns C m → FpOk X pins H' C → compPost (model X.prog X.w) X.A X.xe use Qf (.ref D) C (.ok .next) s') :
    wpAny (model X.prog X.w) X.A (comprehension (.ListComp elt [⟨tg, iter, ifs, 0⟩] scope pos) scope X.env pos' (newList []) false (eval iter X.env) use) Qf X.xe s := by
  have frees : ∀ y ∈ scope.names, y.2 = .free → ∃ c, X.env.cells.lookup y.1 = some c := fun y hy e => (ok.free y hy e).elim (fun k => I.ok.has _ (.inl k)) fun k => I.ok.has _ (.inr k)
  refine wpAny_comprehension_free (use := use) rfl hs (closure_ok frees) ok.kind (fun y hy e => by rw [ok.uniq y hy, e]) (thn (hi.run pins s σ H _ I h) fun xv s1 hx => thn hx fun itv s2 hh => ?_)
  obtain ⟨it, fp, tn, J, H2, e, I2, T, st2, f2, q⟩ := hh
  subst e
  refine wpAny_newObj_type (newEnv_comp ?_) (Nat.zero_le _)
  have hDn : H2 s2.heap.objs.size = none := I2.hok.fresh (Nat.le_refl _)
  have new : Inv X pins σ (upd H2 s2.heap.objs.size (.lst [])) { s2 with heap := s2.heap.push { cls := .type "list", data := .seq ([] : List Value).toArray } } :=
    I2.laid (t' := s2.toks) (fun b o e => Heap.get?_push_of_some _ e) (Nat.le_refl _) ⟨Nat.zero_le _, [], 0, .nil, Heap.get?_push_size _ rfl⟩
  obtain ⟨W, ⟨m0, w0⟩, turn⟩ := q s2.heap.objs.size hDn
  have old : ∀ b ∈ fp, b < s2.heap.objs.size := fun b hb => let ⟨o, e, _⟩ := T.obj _ _ st2 b hb; Heap.lt_size e
  have f3 : ∀ b ∈ fp, FpOk X pins (upd H2 s2.heap.objs.size (.lst [])) b ∧ b < (s2.heap.push { cls := .type "list", data := .seq ([] : List Value).toArray }).objs.size := fun b hb =>
    ⟨⟨by rw [upd_ne (Nat.ne_of_lt (old b hb))]; exact (f2 b hb).1, (f2 b hb).2⟩, by rw [Heap.size_push]; exact Nat.lt_succ_of_lt (old b hb)⟩
  have st3 : tn 0 (s2.heap.push { cls := .type "list", data := .seq ([] : List Value).toArray }) := T.keep _ _ _ st2 fun b _ o e => Heap.get?_push_of_some _ e
  generalize eD : s2.heap.objs.size = D at *
  generalize e3 : ({ s2 with heap := s2.heap.push { cls := .type "list", data := .seq ([] : List Value).toArray } } : Shared) = s3 at *
  have h3 : s3.heap = s2.heap.push { cls := .type "list", data := .seq ([] : List Value).toArray } := by rw [← e3]
  rw [← h3] at f3 st3
  -- the handled exception stands, and stays
  obtain ⟨px, ⟨hh, v1, pd, pc⟩, hp⟩ := hc
  have P3 := new.pin px (List.mem_append_left _ hp)
  have nfp1 : px.1 ∉ fp := fun hb => (f3 px.1 hb).1.2.2.2.2.2 px (List.mem_append_left _ hp) rfl
  have B := block_start new ok hN f3
  have pg := hg s3 (upd H2 D (.lst [])) s3.heap.objs.size (cellsFrom (s3.heap.objs.size + 1) scope.names (cloFrom X.env.cells scope.names [])) fp ⟨px, ⟨hh, v1, pd, pc⟩, P3.1, P3.2.1, nfp1⟩
  have pt := ht s3 (upd H2 D (.lst [])) s3.heap.objs.size (cellsFrom (s3.heap.objs.size + 1) scope.names (cloFrom X.env.cells scope.names [])) fp
  have pe := he s3 (upd H2 D (.lst [])) s3.heap.objs.size (cellsFrom (s3.heap.objs.size + 1) scope.names (cloFrom X.env.cells scope.names [])) fp
  change codeAny _ _ (.compStart (.ListComp elt [⟨tg, iter, ifs, 0⟩] scope pos) 0 (.ref it) (.ref D) (compEnvC scope (cellsFrom (s3.heap.objs.size + 1) scope.names (cloFrom X.env.cells scope.names [])) s3.heap.objs.size X.env))
    (compPost (model X.prog X.w) X.A X.xe use Qf (.ref D) s3.heap.objs.size) { s3 with heap := pushCells (s3.heap.push { cls := .type "dict", data := .dict #[] }) scope.names }
  generalize ec : compEnvC scope (cellsFrom (s3.heap.objs.size + 1) scope.names (cloFrom X.env.cells scope.names [])) s3.heap.objs.size X.env = ce at B pg pt pe ⊢
  have el : ce.locals = s3.heap.objs.size := by rw [← ec]; rfl
  generalize eH : upd H2 D (.lst []) = H3 at new B pg pt pe w0 f3 P3
  have nfp : ∀ b ∈ fp, H3 b = none := fun b hb => (f3 b hb).1.1
  generalize es4 : ({ s3 with heap := pushCells (s3.heap.push { cls := .type "dict", data := .dict #[] }) scope.names } : Shared) = s4 at B ⊢
  have st4 : tn 0 s4.heap := T.keep _ _ _ st3 fun b _ o e => by rw [← es4]; exact pushCells_keeps _ _ _ _ (Heap.get?_push_of_some _ e)
  have stat : ∀ {τ : L2.St} {G : Hp} {r : Shared}, Inv (X.blk s3 H3 scope ce fp) [] τ G r → (∀ b ∈ fp, G b = none) → ∀ b ∈ fp, FpOk (X.blk s3 H3 scope ce fp) [] G b := fun {τ G r} J' hn b hb =>
    ⟨hn b hb, (J'.ok.exf b hb).1, J'.ok.exfs b hb, .inl hb, fun x c e => (J'.ok.exf b hb).2 x c e, fun p hp => absurd (show p ∈ ([] : List (Addr × Obj)) ++ [] from hp) (by simp)⟩
  have warm : ∀ {τ : L2.St} {G : Hp} {r : Shared}, Inv (X.blk s3 H3 scope ce fp) [] τ G r → HotAt X.A px.1 r.heap := fun {τ G r} J' => by
    have keep := J'.base.any (b := px.1) (ob := px.2) P3.1 P3.2.1 nfp1
    obtain ⟨sl, g⟩ := keep
    exact ⟨hh, _, v1, g, pd, pc⟩
  have loop : codeAny (model X.prog X.w) X.A (.compLoop (.ListComp elt [⟨tg, iter, ifs, 0⟩] scope pos) 0 (.ref it) (.ref D) ce) (compPost (model X.prog X.w) X.A X.xe use Qf (.ref D) s3.heap.objs.size) s4 := by
    refine compLoop_any (fun n r => ∃ i G, Inv (X.blk s3 H3 scope ce fp) [] (wipe σ (own.map (·.2))) G r ∧ tn i r.heap ∧ (∀ b ∈ fp, G b = none) ∧ W i n G) ?_ m0 ⟨0, H3, B, st4, nfp, w0⟩
    rintro n s5 ⟨i, H5, I5, st5, n5, w5⟩
    rcases turn i n H5 w5 with ⟨halt, qq⟩ | ⟨go, Nx, hNx, step⟩
    · refine thnF (T.done (X.blk s3 H3 scope ce fp) rfl rfl rfl i [] s5 _ H5 (fun _ _ => False) px.1 (warm I5) I5 (stat I5 n5) st5 halt) fun r s6 ⟨hr, I6⟩ => ?_
      subst hr
      have I7 : Inv X pins σ H5 s6 := new.call' (ch := fp) I6.os I6.base I6.hok I6.bare fun b hb => ⟨(f3 b hb).1.2.2.2.1, (f3 b hb).1.2.1, (f3 b hb).1.2.2.2.2.1, (f3 b hb).1.2.2.2.2.2⟩
      have z : H5 ce.locals = none := I6.free
      obtain ⟨m, hn, _⟩ := I6.loc
      replace hn : s6.heap.Ns ce.locals m := hn
      rw [el] at z hn
      exact hRR D s3.heap.objs.size s6 m H5 I7 qq hn (new.fpOk (Nat.le_refl _) z)
    · refine thnF (T.item (X.blk s3 H3 scope ce fp) rfl rfl rfl i [] s5 _ H5 (fun _ _ => False) I5 (stat I5 n5) st5 go) fun r s6 ⟨u, hr, h6⟩ => ?_
      subst hr
      refine thnF h6 fun _ s7 got => ?_
      obtain ⟨x, H7, I7, r7, y7, st7, n7⟩ := got
      refine thnF (pg.run _ s7 _ H7 x u _ (I7.pinned (stat I7 n7) (T.obj _ _ st7)) r7 (step x H7 y7)) fun _ s8 ⟨σ8, H8, I8, hw8, q8⟩ => ?_
      refine thnF (pt.run _ s8 σ8 H8 _ I8 q8) fun b s9 ⟨H9, I9, q9⟩ => ?_
      have turned : ∀ {r : Shared} {G : Hp}, Inv (X.blk s3 H3 scope ce fp) ([] ++ pinsAt fp s7.heap) σ8 G r → Nx G → ∃ m, m < n ∧ ∃ i G, Inv (X.blk s3 H3 scope ce fp) [] (wipe σ (own.map (·.2))) G r ∧ tn i r.heap ∧ (∀ b ∈ fp, G b = none) ∧ W i m G := fun {r G} J' nx => by
        obtain ⟨m', hm, w'⟩ := hNx _ nx
        have pin' : ∀ b ∈ fp, ∀ o, s7.heap.get? b = some o → r.heap.get? b = some o ∧ G b = none := fun b hb o e =>
          let z := J'.pin (b, o) (List.mem_append_right _ (List.mem_append_right _ (mem_pinsAt hb e)))
          ⟨z.1, z.2.1⟩
        refine ⟨m', hm, i + 1, _, (J'.unpinned (pins := [])).weak (by rw [← hw8, wipe_length]) (fun j v e => ?_), T.keep _ _ _ st7 fun b hb o e => (pin' b hb o e).1, fun b hb => ?_, w'⟩
        · rw [← hw8] at e
          exact (wipe_some e).1
        · obtain ⟨o, e, _⟩ := T.obj _ _ st7 b hb
          exact (pin' b hb o e).2
      cases b with
      | false =>
        simp only [Bool.false_eq_true, if_false] at q9 ⊢
        exact turned I9 q9
      | true =>
        simp only [if_true] at q9 ⊢
        exact thnF (pe.run _ s9 σ8 H9 _ I9 q9) fun z s10 ⟨yv, H10, I10, r10, acc, hDx, hz, nx⟩ => app_ok (X := X.blk s3 H3 scope ce fp) I10 hDx hz r10 fun s11 I11 => turned I11 nx
  refine codeAny_compStart_list loop ?_
  exact T.self X.A 0 _ _ _ st4 loop
/-- name = [..] on one line, the name a local -/
theorem ps_setLcH {X : Cx} {i : Nat} {y : Str} {py : Pos} {elt tg iter : Expr} {ifs : List Expr} {scope : Scope} {own : List (Str × Nat)} {pos spos : Pos} {wi : TI} {g : TG} {tt : TT} {te : TE} (hc : HotC X) (hN : X.N.Nodup) (hy : X.N[i]? = some y) (hyl : X.env.scope.names.lookup y = some .local)
    (hsw : swapsWith (.ListComp elt [⟨tg, iter, ifs, 0⟩] scope pos) (some (.Name y py)) spos.line X.env = pure true) (hi : PIR X tg iter wi) (ok : BlkOk X.N X.env.scope scope own)
    (hg : ∀ (s : Shared) (H : Hp) (C : Addr) (cl : List (Str × Addr)) (fp : List Addr), WarmB X s H fp → PG (X.blk s H scope (compEnvC scope cl C X.env) fp) tg g)
    (ht : ∀ (s : Shared) (H : Hp) (C : Addr) (cl : List (Str × Addr)) (fp : List Addr), PTs (X.blk s H scope (compEnvC scope cl C X.env) fp) ifs tt)
    (he : ∀ (s : Shared) (H : Hp) (C : Addr) (cl : List (Str × Addr)) (fp : List Addr), PE (X.blk s H scope (compEnvC scope cl C X.env) fp) elt te) (hs : ∀ x, foldedSetIterable iter X.env x = pure x := by intro _; rfl) :
    PS X (.Assign [.Name y py] (.ListComp elt [⟨tg, iter, ifs, 0⟩] scope pos) spos) (tAsg (tLc wi g tt te (own.map (·.2))) (gName i)) := by
  refine ⟨fun pins s σ H D I h => ?_⟩
  rw [exec_Assign_Name_used _ _ _ _ hsw]
  refine wpAny_bind (wpAny_standAt ?_)
  refine wpAny_bind ?_
  change wpAny _ X.A (do let _ ← comprehension (.ListComp elt [⟨tg, iter, ifs, 0⟩] scope pos) scope X.env (firstIterPos [⟨tg, iter, ifs, 0⟩] pos) (newList []) false (eval iter X.env) (some (assign (.Name y py) X.env))) _ _ s
  have h : tLc wi g tt te (own.map (·.2)) σ H (fun x H1 => gName i x σ H1 D.nx) := h
  refine wpAny_bind (thn (lcH_core (Qf := fun _ s' => SP X pins D .next s') hc hN I hi ok hg ht he hs h fun L C s' m H' I' q hn f => ?_) fun _ s' hq => wpAny_pure (wpAny_pure hq))
  change wpAny _ _ (assign (.Name y py) X.env (.ref L)) _ _ _
  obtain ⟨c0, c1, c2, c3, c4, c5⟩ := f
  refine wpAny_assign_Name (store_ok2 I' hN hy (v := .ref L) (.inl hyl) rfl (fun s2 J ⟨at_, same, whose⟩ => ?_) (.inr hyl))
  have apart : C ≠ at_ := whose.elim (fun z => z ▸ c1) fun z e => c4 y at_ z e.symm
  exact ⟨m, hn.sameBut same apart, fun h3 sb => ⟨_, H', J.turned (t' := s2.toks) (fun b o nb g => (sb.2 b nb).trans g) c0 c1 c3 c4 c5, q⟩⟩
end Fc
namespace Fc
open PySem PySem.Spec PyProof.Rows L2 L2H HotX
/-! a set of texts, made while an exception is handled -/
theorem walks_hot {prog : Program} {w : World} {A : Around} {x1 : Addr} {o1 : Obj} {f1 : Array Value} (hh : A.handled = some (.ref x1)) (d1 : o1.data = .fields f1) (c1 : f1[2]? = some .none) (I ax : Addr) (hne : ax ≠ I) (h1 : x1 ≠ I) (items : Array Value) :
    Walks prog w A I [I, ax, x1] [I] items.size (fun i v => items[i]? = some v) (fun i h => h.IsListIter I ax i ∧ h.IsList ax items ∧ h.get? x1 = some o1) where
  sub := fun b hb => by rw [List.mem_singleton] at hb; rw [hb]; exact List.mem_cons_self
  frame := fun _ _ _ st k => ⟨st.1.at fun o e => k I List.mem_cons_self o e, st.2.1.at fun o e => k ax (List.mem_cons_of_mem _ List.mem_cons_self) o e, k x1 (List.mem_cons_of_mem _ (List.mem_cons_of_mem _ List.mem_cons_self)) o1 st.2.2⟩
  item := fun i s Q E hi st q => by
    have hg : items[i]? = some items[i] := Array.getElem?_eq_getElem hi
    refine wpAny_pyNext_list_item st.1 st.2.1 hg fun h' st' sb => ?_
    have eb := sb.extBut
    exact q _ h' s.toks hg ⟨st', st.2.1.extBut eb hne, eb x1 o1 h1 st.2.2⟩ fun b o hb e => eb b o (fun z => hb (List.mem_singleton.mpr z)) e
  done := fun s Q E st q => list_end_hot ⟨hh, o1, f1, st.2.2, d1, c1⟩ st.1 st.2.1 (by simp) fun h' eb => q h' s.toks fun b o hb e => eb b o (fun z => hb (List.mem_singleton.mpr z)) e
  self := fun _ _ _ _ st q => wpAny_pyIter_listiter st.1 q
section
variable {prog : Program} {w : World} {A : Around} {E : Value → Shared → Prop} {s : Shared}
set_option maxHeartbeats 6400000 in
theorem set_texts_hot {l : Addr} {items : Array Value} {xs : List Str} {Q : Value → Shared → Prop} {x1 : Addr} (hot : HotAt A x1 s.heap) (hl : s.heap.IsList l items) (hsz : items.size = xs.length) (hi : ∀ (i : Nat) (v : Value), items[i]? = some v → ∃ t, v = .str (xs.getD i Str.empty) t) (hb : xs.length + 1 < scanBound)
    (h : ∀ (h' : Heap) (tk : Nat), h'.SetOf (strKind prog w) s.heap.objs.size (fun k => decide (k ∈ onceS xs)) (onceS xs).length → (∀ b o, s.heap.get? b = some o → h'.get? b = some o) → Q (.ref s.heap.objs.size) { s with heap := h', toks := tk }) :
    wpAny (model prog w) A (call (.type "set") [.ref l]) Q E s := by
  obtain ⟨c, tl, hmro⟩ := F.called_set.mro
  have hmade := F.called_set.made
  have hsub := F.called_set.sub
  refine wpAny_call (codeAny_of_tree ?_)
  change wpAny _ _ (callAny (.type "set") _) _ _ _
  refine wpAny_pure ⟨Code.quiet_builtin _ (by decide +kernel), codeAny_builtin F.entry_type_call ?_⟩
  rw [Around.under_plain (weight_type_call_type "set" [.ref l] []) rfl]
  have n1 := F.called_set.notType
  have n2 := F.called_set.canCreate
  have n3 := F.typeCall_set_1 (.ref l)
  repeat (any_goals (first | assumption | wp_step))
  -- the new set, empty
  refine codeAny_mono (code_set_new_1 (.ref l) (E := E) (Q₁ := fun obj s₁ => ∃ led : Bool, obj = .ref s.heap.objs.size ∧ s₁ = { s with heap := s.heap.push { cls := .type "set", dict := none, data := .set #[] 0 (.fresh 0 0 led) } }) fun led => ⟨led, rfl, rfl⟩) fun r s₁ hr => ?_
  cases r with
  | error e => exact hr
  | ok fl =>
    cases fl with
    | next => exact hr.elim
    | brk => exact hr.elim
    | cont => exact hr.elim
    | ret obj =>
      obtain ⟨led, rfl, rfl⟩ := hr
      generalize eh : s.heap.push { cls := .type "set", dict := none, data := .set #[] 0 (.fresh 0 0 led) } = h1
      have hS : h1.get? s.heap.objs.size = some { cls := .type "set", dict := none, data := .set #[] 0 (.fresh 0 0 led) } := by rw [← eh]; exact Heap.get?_push_size _ rfl
      have k1 : ∀ b o, s.heap.get? b = some o → h1.get? b = some o := fun b o e => by rw [← eh]; exact Heap.get?_push_of_some _ e
      have z1 : h1.objs.size = s.heap.objs.size + 1 := by rw [← eh]; exact Heap.size_push _ _
      have hT : Shared.TypeIs { s with heap := h1 } (.ref s.heap.objs.size) "set" := ⟨_, hS, rfl⟩
      have hli := F.called_set.init.lookup
      have hbi := F.called_set.init.bind (.ref s.heap.objs.size)
      repeat (any_goals (first | assumption | wp_step))
      -- its members
      refine codeAny_mono (codeAny_call_builtin (R := wants (fun r s₂ => r = .none ∧ ∃ h' tk, s₂ = { s with heap := h', toks := tk } ∧ h'.SetOf (strKind prog w) s.heap.objs.size (fun k => decide (k ∈ onceS xs)) (onceS xs).length ∧ ∀ b o, s.heap.get? b = some o → h'.get? b = some o) E)
        F.called_set.init.plain F.entry_set_init (check_set_init_1 hT ?_)) fun r₂ s₂ hr₂ => ?_
      · obtain ⟨⟨ocls, odict, odata, oslots⟩, hol, hcl, nl, hdl⟩ := hl
        simp only at hcl hdl
        subst hcl
        subst hdl
        have hol' := k1 _ _ hol
        have hl1 : h1.IsList l items := ⟨_, hol', rfl, nl, rfl⟩
        have u1 := F.sub_list_set
        have u2 := F.sub_list_frozenset
        have u3 : (Value.type "list" == Value.type "dict") = false := by decide
        unfold Builtin.«set.__init__» noKeywords Builtin.Frozenset.updateFrom
        generalize hPI : pyIter = PI
        wp_walk
        subst hPI
        refine wpAny_pyIter_list hl1 (wpAny_bind (wpAny_runValue ?_))
        have lt : l < s.heap.objs.size := Heap.lt_size hol
        obtain ⟨hh, o1, f1, g1, d1, c1⟩ := hot
        have hh3 : A.in1.in1.in1.handled = some (.ref x1) := by simp [hh]
        have g1' := k1 _ _ g1
        have lt1 : x1 < s.heap.objs.size := Heap.lt_size g1
        have ne3 : x1 ≠ h1.objs.size := Nat.ne_of_lt (by rw [z1]; exact Nat.lt_succ_of_lt lt1)
        have ne1 : l ≠ h1.objs.size := Nat.ne_of_lt (by rw [z1]; exact Nat.lt_succ_of_lt lt)
        have ne2 : s.heap.objs.size ≠ h1.objs.size := Nat.ne_of_lt (by rw [z1]; exact Nat.lt_succ_self _)
        have nin : s.heap.objs.size ∉ [h1.objs.size, l, x1] := by
          simp only [List.mem_cons, List.not_mem_nil, or_false, not_or]
          exact ⟨ne2, Nat.ne_of_gt lt, Nat.ne_of_gt lt1⟩
        refine addAll (S := s.heap.objs.size) xs (hsz ▸ (walks_hot hh3 d1 c1 _ l ne1 ne3 items).toS) nin (fun i v _ hP => hi i v hP) hb xs [] [] _ rfl ⟨⟨_, Heap.get?_push_size _ rfl, rfl, rfl⟩, hl1.push _, Heap.get?_push_of_some _ g1'⟩ (Nat.le_refl _) ?_ ?_
        · have hget : (h1.push { cls := .type "list_iterator", data := .fields #[.ref l, .int 0 0] }).get? s.heap.objs.size = some { cls := .type "set", dict := none, data := .set #[] 0 (.fresh 0 0 led) } := Heap.get?_push_of_some _ hS
          exact setOf_to ((PyProof.Rows.setObjOf_fresh (knd := strKind prog w) led).setOf hget (by unfold scanBound; omega)) (fun k => by simp) rfl
        · intro s' hm hS'
          obtain ⟨h', g', d', tk', os'⟩ := s'
          have eg : g' = s.gens := hm.gens
          have ed : d' = s.drawn := hm.drawn
          have eo : os' = s.os := hm.os
          subst eg
          subst ed
          subst eo
          change wpAny _ _ _ _ _ _
          refine wpAny_pure ?_
          change wpAny _ _ (ret Value.none) _ _ _
          refine wpAny_pure ⟨rfl, h', tk', rfl, hS', fun b o e => ?_⟩
          have bl := Heap.lt_size e
          refine hm.heap b o ?_ (Heap.get?_push_of_some _ (k1 _ _ e))
          simp only [List.mem_cons, List.not_mem_nil, or_false, not_or]
          exact ⟨Nat.ne_of_lt bl, Nat.ne_of_lt (by rw [z1]; exact Nat.lt_succ_of_lt bl)⟩
      · cases r₂ with
        | error e => exact hr₂
        | ok fl₂ =>
          cases fl₂ with
          | next => exact hr₂.elim
          | brk => exact hr₂.elim
          | cont => exact hr₂.elim
          | ret r =>
            obtain ⟨rfl, h', tk, rfl, hS', hk'⟩ := hr₂
            repeat (any_goals (first | assumption | wp_step))
            exact h _ _ hS' hk'
end
/-- set(xs) of a list of texts -/
theorem call_setTH {X : Cx} (hc : HotC X) : CallR X (.type "set") (fun xs H Q => ∃ (a : Addr) (l : List Str), xs = [.ref a] ∧ SqL X.K H a (l.map V.str) ∧ l.length + 1 < scanBound ∧ ∀ p, H p = none → Q (.ref p) (upd H p (SetT X.prog X.w p (onceS l)))) := by
  intro pins s σ H xs us Q I r ⟨a, l, e, hq, hb, q⟩
  subst e
  obtain ⟨u, rfl, rx⟩ := vals1 r
  obtain rfl : u = Value.ref a := rx
  obtain ⟨its, rv, pl, hz⟩ := I.list hq
  have hl : its.length = l.length := by rw [← rv.length, List.length_map]
  obtain ⟨x1, hot⟩ := hc.at I
  refine set_texts_hot (xs := l) hot pl.isList (by rw [List.size_toArray, hl]) (fun i v hv => ?_) hb fun h' tk hS kp => ?_
  · rw [List.getElem?_toArray] at hv
    have hi : i < l.length := by rw [← hl]; exact (List.getElem?_eq_some_iff.mp hv).1
    obtain ⟨u, hu, ru⟩ := rv.get (i := i) (x := .str l[i]) (by rw [List.getElem?_map, List.getElem?_eq_getElem hi]; rfl)
    rw [hv] at hu
    cases hu
    obtain ⟨t, rfl⟩ := (show ∃ t, v = Value.str l[i] t from ru)
    exact ⟨t, by rw [List.getD_eq_getElem?_getD, List.getElem?_eq_getElem hi]; rfl⟩
  · exact ⟨.ref s.heap.objs.size, _, I.laid (t' := tk) kp (Nat.le_refl _) (setT_ok hS), rfl, q _ (I.hok.fresh (Nat.le_refl _))⟩
end Fc
namespace Fc
open PySem L2 L2H PyProof.Rows
/-! the calls that the except suite makes -/
section
variable {P : Program} {w : World} {K : PySem.W.Frag} {mg : Str → Option Value} {base : Heap}
theorem _root_.L2.Fun.okH {x qual : Str} {st : Stmt} {f : Addr} {fd : FuncData} {N ps : List Str} {k : Nat} {sp : Sp} (F : Fun K x qual st f fd) (S : FnScope N ps (defScope st)) (len : ∀ vs H Q E, sp vs H Q E → vs.length = ps.length)
    (hbody : ∀ (cdv : Value) (A : Around) (outer : List Env) (s : Shared) (H : Hp) (vs : List V) (Q : VK) (E : XK) (p : Addr × Obj), HotC (cxH CX0 P w K mg base N qual (defScope st) f cdv A outer s H E p) → RoomH k (A.deeper (envOfC qual (defScope st) s.heap.objs.size f cdv)) → sp vs H Q E →
      ∃ t, PSs (cxH CX0 P w K mg base N qual (defScope st) f cdv A outer s H E p) (defBody st) t ∧ t { nx := fun _ H' => Q .non H', rt := Q } (L2.start N vs) H) : FnH P w K mg base CX0 (k + 1) f fd ps sp := by
  obtain ⟨oc, od, kV, doc, pm, an, cdv, ct, osl, rfl, lk, hcd⟩ := F.ex
  refine fn_ofH lk hcd S len fun A outer s H vs Q E p hot hr hsp => hbody cdv A outer s H vs Q E p ⟨p, hot, List.mem_cons_self⟩ hr hsp
end
structure CalH (P : Program) (w : World) (K : PySem.W.Frag) (mg : Str → Option Value) (base : Heap) (k : Nat) (x : Str) (sp : Sp) : Prop where
  at_ : ∃ (f : Addr) (fd : FuncData) (ps : List Str), FnH P w K mg base CX0 k f fd ps sp ∧ mg x = some (.ref f) ∧ PySem.W.keepIn K (.ref f) = true ∧ Binds K fd ps []
theorem pe_cH {X : Cx} {k j : Nat} {x : Str} {sp : Sp} {p pos : Pos} {e : Expr} {es : List Expr} {t : TA} (c : CalH X.prog X.w X.K X.mg X.base k x sp) (hc : HotC X) (hr : RoomH j X.A) (hk : k ≤ j) (hg : Gl X x) (ha : PA X (e :: es) t) (hdb : (x == ("__debug__" : Str)) = false := by decide)
    (he : starEach (e :: es) X.env = (false, eval e X.env) :: starEach es X.env := by rfl) (hpl : (backTo pos (starEach es X.env)).any (·.1) = false := by rfl) : PE X (.Call (.Name x p) (e :: es) [] pos) (tCal sp t) := by
  obtain ⟨f, fd, ps, F, hm, kp, b⟩ := c.at_
  have q := pe_callH (q := p) (pos := pos) (E := fun _ => E0) F (hr.mono hk) hc hg hm kp b (fun σ pins H s e s' I c => c.elim) ha hdb he hpl
  exact q
theorem hu70H {A : Around} {k : Nat} (hr : RoomH k A) : A.units + 70 < cLine := by have := hr.un; omega
section
variable {K : PySem.W.Frag} {mg : Str → Option Value} {base : Heap} {P : Program} {w : World}
theorem ok38H {f : Addr} {fd : FuncData} (F : Fun K "_law_lengths" "_law_lengths" (topS 38) f fd) (B : Blt mg) : FnH P w K mg base CX0 1 f fd ["_law_parts_here"] (spLawLens K) := by
  refine F.okH sc38 (fun vs H Q E h => ?_) (fun cdv A outer s H vs Q E p hc hr h => ?_)
  · obtain ⟨r, P, rfl, _⟩ := h
    rfl
  · have hu := hu70H hr
    refine ⟨_, pss_cons (ps_set (i := 1) sc38.nd rfl (Or.inl rfl) (pe_lst pa_nil))
      (pss_cons (ps_forH .leaving hc (pi_tupR (pe_ix ix_list (pv 0) pe_int (fun _ _ => rfl))).toH (pg_tupH (hotI hc) (pgs_cons (pg_name (i := 2) sc38.nd rfl (Or.inl rfl)) (pgs_cons (pg_name (i := 3) sc38.nd rfl (Or.inl rfl)) pgs_nil)))
        (pss_one (ps_set (i := 1) sc38.nd rfl (Or.inl rfl) (pe_op op_cat (pv 1) (pe_ifExp (pt_cmpR (op_notInP (hu65 hu)) (pv 3) (pv 1) rfl) (pe_lst (pa_cons (pv 3) pa_nil)) (pe_lst pa_nil))))))
      (pss_one (ps_ret (pv 1)))), ?_⟩
    obtain ⟨r, P, rfl, ⟨⟨tA, tP, tV, h1, h2, h3, h4⟩, nm⟩, q⟩ := h
    have na := nm.na
    unfold dA at h2
    cases h2 with
    | @tup _ xs _ sa da =>
    have lx : xs.length = P.arrays.length := (dp_len da).trans (List.length_map _)
    refine ⟨Nat.zero_le _, fun L0 hL0 => ?_⟩
    have s0 := same_new (o := .lst ([] : List V)) hL0
    refine ⟨_, rfl, r, _, 0, _, rfl, rfl, .inl (.inl (s0 _ _ h1)), atI_nat (j := 0) rfl, tA, rfl, ⟨xs, Tups.same s0 _ _ sa⟩, ?_⟩
    refine for_steady (steady_tup (K := K) (a := tA) (xs := xs)) (fun i σ H' => Same H H' ∧ ∃ L z1 z2, σ = [some (.ref r), some (.ref L), z1, z2] ∧ H' L = some (.lst ((lensN P.arrays i).map V.str)) ∧ H L = none) ⟨s0, L0, none, none, rfl, upd_same, hL0⟩ (fun _ _ _ _ h => Tups.same h.1 _ _ sa) ?_ ?_
    · rintro i σ H' hi ⟨s1, L, z1, z2, rfl, hL, hn⟩
      have hi2 : i < P.arrays.length := by omega
      obtain ⟨u, eu, su⟩ := dA_at da hi2
      have ll : (lensN P.arrays i).length ≤ 60 := by
        have := lensOf_len (P.arrays.take i)
        rw [List.length_take] at this
        show (lensOf (P.arrays.take i)).length ≤ 60
        omega
      refine ⟨u, _, eu, Tups.same s1 _ _ su, rfl, _, _, rfl, _, _, rfl, rfl, ?_⟩
      refine ⟨_, rfl, _, rfl, _, rfl, .str (P.arrays[i]).2, (lensN P.arrays i).map PyData.str, .str _, .lst (.inl (.inl hL)) (dps_strs _), ⟨rfl, Nat.zero_le _⟩, plain_strs _, _, rfl, ?_⟩
      rw [any_strs]
      by_cases c : (P.arrays[i]).2 ∈ lensN P.arrays i
      · rw [decide_eq_true c]
        refine iteF ⟨Nat.zero_le _, fun M hM => ?_⟩
        have s2 := same_new (o := .lst ([] : List V)) hM
        refine ⟨L, M, _, _, rfl, rfl, s2 _ _ hL, upd_same, by rw [sizeLine_eq, List.length_map]; show _ + 0 ≤ _; omega, fun N hN => ⟨(s1.trans s2).trans (same_new hN), N, _, _, rfl, ?_, Same.none_of s1 (Same.none_of s2 hN)⟩⟩
        rw [lensN_succ hi2]
        unfold addS
        rw [if_pos c, upd_same, List.append_nil]
      · rw [decide_eq_false c]
        refine iteT ⟨_, rfl, by rw [sizeLine_eq]; exact (by decide : (1 : Nat) ≤ 16777216), fun M hM => ?_⟩
        have s2 := same_new (o := .lst ([V.str (P.arrays[i]).2] : List V)) hM
        refine ⟨L, M, _, _, rfl, rfl, s2 _ _ hL, upd_same, by rw [sizeLine_eq, List.length_map]; show _ + 1 ≤ _; omega, fun N hN => ⟨(s1.trans s2).trans (same_new hN), N, _, _, rfl, ?_, Same.none_of s1 (Same.none_of s2 hN)⟩⟩
        rw [lensN_succ hi2]
        unfold addS
        rw [if_neg c, upd_same, List.map_append]
        rfl
    · rintro σ H' ⟨s1, L, z1, z2, rfl, hL, hn⟩
      rw [show lensN P.arrays xs.length = lensOf P.arrays by unfold lensN; rw [lx, List.take_length]] at hL
      exact ⟨_, rfl, q _ L s1 hL hn⟩
theorem ok40H {f : Addr} {fd : FuncData} (F : Fun K "_law_all_of" "_law_all_of" (topS 40) f fd) (B : Blt mg) (c38 : CalH P w K mg base 1 "_law_lengths" (spLawLens K)) : FnH P w K mg base CX0 2 f fd ["_law_parts_here"] (spLawAll K) := by
  refine F.okH sc40 (fun vs H Q E h => ?_) (fun cdv A outer s H vs Q E p hc hr h => ?_)
  · obtain ⟨r, P, rfl, _⟩ := h
    rfl
  · have hu := hu70H hr
    refine ⟨_, pss_cons (ps_setLcH (i := 1) (own := [("_law_name", 2), ("_law_length", 3)]) (g := gTup K 2 (gCons (gName 2) (gCons (gName 3) gNil))) hc sc40.nd rfl rfl (sw_true rfl rfl rfl (by decide +kernel)) (pi_tupR (pe_ix ix_list (pv 0) pe_int (fun _ _ => rfl))) (blkOk_by (N := n40) (sc := defScope (topS 40)) (by decide +kernel))
        (fun _ _ _ _ _ wb => pg_tupH wb.hot (pgs_cons (pg_name (i := 2) sc40.nd rfl (Or.inl rfl)) (pgs_cons (pg_name (i := 3) sc40.nd rfl (Or.inl rfl)) pgs_nil))) (fun _ _ _ _ _ => pts_nil) (fun _ _ _ _ _ => pv 2))
      (pss_one (ps_ret (pe_op op_cat (pe_op op_cat (pv 1) (pe_cH c38 hc hr (by decide) (by rfl) (pa_cons (pv 0) pa_nil))) (pe_callTy call_list_of (by rfl) B.list boot_list (pa_cons (pe_op op_catA (pe_ix ix_list (pv 0) pe_int (fun _ _ => rfl)) (pe_ix ix_list (pv 0) pe_int (fun _ _ => rfl))) pa_nil))))), ?_⟩
    obtain ⟨r, P, rfl, R, q⟩ := h
    obtain ⟨⟨tA, tP, tV, h1, h2, h3, h4⟩, nm⟩ := id R
    have na := nm.na
    have np := nm.np
    have nv := nm.nv
    unfold dA at h2
    cases h2 with
    | @tup _ xs _ sa da =>
    have lx : xs.length = P.arrays.length := (dp_len da).trans (List.length_map _)
    refine ⟨_, rfl, r, _, 0, _, rfl, rfl, .inl (.inl h1), atI_nat (j := 0) rfl, tA, rfl, ⟨xs, sa⟩, fun D hD => ?_⟩
    refine lc_map (K := K) (te := tVar 2) (fun _ k y => y = .str (P.arrays.getD k e0).1) (steady_tup (K := K) (a := tA) (xs := xs)) (fun _ _ _ _ _ h => h) (fun H' s' => Tups.same s' _ _ sa) (by omega) hD (fun k H' Q' hk s' q' => ?_) fun H2 ys s2 hys py => ?_
    · have hk2 : k < P.arrays.length := by omega
      obtain ⟨u, eu, su⟩ := dA_at da hk2
      refine ⟨u, _, eu, Tups.same s' _ _ su, rfl, _, _, rfl, _, _, rfl, rfl, rfl, _, rfl, ?_⟩
      refine q' _ _ (Same.refl _) ?_
      rw [getD_at hk2]
    · have ey : ys = (P.arrays.map (·.1)).map V.str := by
        refine List.ext_getElem? fun i => ?_
        have lp := paired_len py
        rw [List.length_range] at lp
        by_cases c : i < P.arrays.length
        · have ci : i < ys.length := by omega
          have := paired_at py (i := i) (a := i) (b := ys[i]) (by rw [List.getElem?_range (by omega)]) (List.getElem?_eq_getElem ci)
          rw [List.getElem?_eq_getElem ci, this, getD_at c, List.getElem?_map, List.getElem?_map, List.getElem?_eq_getElem c]
          rfl
        · rw [List.getElem?_eq_none (by omega), List.getElem?_eq_none (by rw [List.length_map, List.length_map]; omega)]
      subst ey
      have ll := lensOf_len P.arrays
      refine ⟨_, rfl, _, rfl, r, P, rfl, R.mono s2, fun H3 L s3 hL nL => ?_⟩
      have s23 := s2.trans s3
      refine ⟨D, L, _, _, rfl, rfl, s3 _ _ hys, hL, by rw [sizeLine_eq]; simp only [List.length_map]; omega, fun M hM => ?_⟩
      have s4 := same_new (o := .lst ((P.arrays.map (·.1)).map V.str ++ (lensOf P.arrays).map V.str)) hM
      have s24 := s23.trans s4
      refine ⟨_, rfl, r, _, 1, _, rfl, rfl, .inl (.inl (s24 _ _ h1)), atI_nat (j := 1) rfl, _, rfl, r, _, 2, _, rfl, rfl, .inl (.inl (s24 _ _ h1)), atI_nat (j := 2) rfl, ?_⟩
      refine cat_dS (dp_mono s24 _ _ h3) (dp_mono s24 _ _ h4) (by omega) fun H5 t5 s5 d5 => ?_
      refine ⟨t5, _, rfl, .inr (tup_dS d5), fun N hN => ?_⟩
      have s6 := same_new (o := .lst ((P.pos ++ P.vals).map V.str)) hN
      refine ⟨M, N, _, _, rfl, rfl, s6 _ _ (s5 _ _ upd_same), upd_same, by rw [sizeLine_eq]; simp only [List.length_map, List.length_append]; omega, fun O hO => ?_⟩
      have s7 := same_new (o := .lst (((P.arrays.map (·.1)).map V.str ++ (lensOf P.arrays).map V.str) ++ (P.pos ++ P.vals).map V.str)) hO
      refine q _ O (((s24.trans s5).trans s6).trans s7) ?_ (Same.none_of ((s24.trans s5).trans s6) hO)
      rw [upd_same]
      unfold namesL
      simp only [List.map_append, List.append_assoc]
theorem ok47H {f : Addr} {fd : FuncData} (F : Fun K "_law_is_let" "_law_is_let" (topS 47) f fd) (B : Blt mg) (c40 : CalH P w K mg base 2 "_law_all_of" (spLawAll K)) : FnH P w K mg base CX0 3 f fd ["_law_parts_here"] (spLawLet K) := by
  refine F.okH sc47 (fun vs H Q E h => ?_) (fun cdv A outer s H vs Q E p hc hr h => ?_)
  · obtain ⟨r, P, rfl, _⟩ := h
    rfl
  · have hu := hu70H hr
    refine ⟨_, pss_cons (ps_set (i := 1) sc47.nd rfl (Or.inl rfl) (pe_cH c40 hc hr (by decide) (by rfl) (pa_cons (pv 0) pa_nil)))
      (pss_one (ps_ret (pe_and (pe_cmpR op_eq (pe_callB call_lenS (by rfl) B.len boot_len (pa_cons (pe_callTy (call_setTH hc) (by rfl) B.set boot_set (pa_cons (pv 1) pa_nil)) pa_nil)) (pe_callB call_len_seq (by rfl) B.len boot_len (pa_cons (pv 1) pa_nil)) (nomark _))
        (pe_and (pe_cmpR op_lt (pe_callB call_len_seq (by rfl) B.len boot_len (pa_cons (pe_ix ix_list (pv 0) pe_int (fun _ _ => rfl)) pa_nil)) pe_int (nomark _))
        (pe_and (pe_cmpR op_lt (pe_callB call_len_seq (by rfl) B.len boot_len (pa_cons (pe_ix ix_list (pv 0) pe_int (fun _ _ => rfl)) pa_nil)) pe_int (nomark _))
        (pe_one (pe_cmpR op_lt (pe_callB call_len_seq (by rfl) B.len boot_len (pa_cons (pe_ix ix_list (pv 0) pe_int (fun _ _ => rfl)) pa_nil)) pe_int (nomark _)))))))), ?_⟩
    obtain ⟨r, G, rfl, R, q⟩ := h
    refine ⟨_, rfl, r, G, rfl, R, fun H1 L s1 hL nL => ?_⟩
    have na := R.nm.na
    have np := R.nm.np
    have nv := R.nm.nv
    have ll := lensOf_len G.arrays
    have wl : (namesL G).length ≤ 300 := by
      unfold namesL
      simp only [List.length_append, List.length_map]
      omega
    refine ⟨_, rfl, L, namesL G, rfl, .inl (.inl hL), by unfold scanBound; omega, fun p hp => ⟨p, _, rfl, upd_same, ?_⟩⟩
    have s2 := same_new (o := SetT P w p (onceS (namesL G))) hp
    have s12 := s1.trans s2
    have qq := q _ s12
    rw [okB_turned] at qq
    obtain ⟨tA, tP, tV, h1, h2, h3, h4⟩ := (R.mono s12).ex
    unfold dA at h2
    cases h2 with
    | @tup _ xs _ sa da =>
    have lx : xs.length = G.arrays.length := (dp_len da).trans (List.length_map _)
    refine ⟨_, rfl, L, _, rfl, .inl (.inl (.inl (s2 _ _ hL))), rfl, _, rfl, ?_⟩
    rw [List.length_map]
    cases e1 : decide (V.int ((onceS (namesL G)).length : Int) = V.int ((namesL G).length : Int)) with
    | false => rw [e1] at qq; exact iteF qq
    | true =>
    rw [e1] at qq
    refine iteT ⟨_, rfl, r, _, 0, _, rfl, rfl, .inl (.inl h1), atI_nat (j := 0) rfl, tA, _, rfl, .inr sa, _, _, rfl, rfl, _, rfl, ?_⟩
    rw [lx]
    cases e2 : decide ((G.arrays.length : Int) < 13) with
    | false => rw [e2] at qq; exact iteF qq
    | true =>
    rw [e2] at qq
    refine iteT ⟨_, rfl, r, _, 1, _, rfl, rfl, .inl (.inl h1), atI_nat (j := 1) rfl, tP, _, rfl, .inr (tup_dS h3), _, _, rfl, rfl, _, rfl, ?_⟩
    rw [List.length_map]
    cases e3 : decide ((G.pos.length : Int) < 9) with
    | false => rw [e3] at qq; exact iteF qq
    | true =>
    rw [e3] at qq
    refine iteT ⟨_, rfl, r, _, 2, _, rfl, rfl, .inl (.inl h1), atI_nat (j := 2) rfl, tV, _, rfl, .inr (tup_dS h4), _, _, rfl, rfl, ?_⟩
    rw [List.length_map]
    exact qq
end
end Fc
namespace Fc
open PySem L2 PyProof.Rows
/-! frames, and more names, whose exception has no context -/
section
variable {P : Program} {w : World} {K : PySem.W.Frag} {mg : Str → Option Value} {base : Heap}
theorem _root_.L2.Fun.okN {x qual : Str} {st : Stmt} {f : Addr} {fd : FuncData} {N ps : List Str} {k : Nat} {sp : Sp} (F : Fun K x qual st f fd) (S : FnScope N ps (defScope st)) (len : ∀ vs H Q E, sp vs H Q E → vs.length = ps.length)
    (hbody : ∀ (cdv : Value) (A : Around) (outer : List Env) (s : Shared) (H : Hp) (vs : List V) (Q : VK) (E : XK), Room k (A.deeper (envOfC qual (defScope st) s.heap.objs.size f cdv)) → sp vs H Q E →
      ∃ t, PSs (cxOf (L2N.CX P w) P w K mg base N qual (defScope st) f cdv A outer s H E) (defBody st) t ∧ t { nx := fun _ H' => Q .non H', rt := Q } (L2.start N vs) H) : FnOk P w K mg base (L2N.CX P w) (k + 1) f fd ps sp := by
  obtain ⟨oc, od, kV, doc, pm, an, cdv, ct, osl, rfl, lk, hcd⟩ := F.ex
  exact fn_of lk hcd S len fun A outer s H vs Q E hr hsp => hbody cdv A outer s H vs Q E hr hsp
end
section
variable {K : PySem.W.Frag} {mg : Str → Option Value} {base : Heap} {P : Program} {w : World}
theorem okM0N {f C Cf : Addr} {fd : FuncData} (F : Fun K "__init__" "Frame.__init__" (mF 0) f fd) (T : FrTxt K mg C) (O : OwnX K mg "InvalidFrame" Cf) (c29 : Cal P w K mg base 2 "is_frame_content" (spContent K w)) (c28 : Cal P w K mg base 1 "different_lengths" (spLens K w)) (c30 : Cal P w K mg base 1 "kinds_of_names" (spKinds K w)) :
    FnOk P w K mg base (L2N.CX P w) 3 f fd ["self", "arrays", "positions", "values"] (spMake K C Cf) := by
  refine F.okN scM0 (fun vs H Q E h => ?_) (fun cdv A outer s H vs Q E hr h => ?_)
  · obtain ⟨p, dx, tA, tP, tV, P, rfl, _⟩ := h
    rfl
  · have hu := hu70 hr
    refine ⟨_, pss_cons (ps_if (pt_not (pt_val (pe_c c29 hr (by decide) (by rfl) (pa_cons (pv 1) (pa_cons (pv 2) (pa_cons (pv 3) pa_nil)))))) (pss_one (L2N.ps_raise rfl (L2N.takes_of rfl rfl rfl rfl) (L2N.pmk_own PySem.F.excBase_ValueError O.x O.g O.k (raises_own O.b O.t) rfl))) pss_nil)
      (pss_cons (ps_fld (pv 0) (pv 1) rfl) (pss_cons (ps_fld (pv 0) (pv 2) rfl) (pss_cons (ps_fld (pv 0) (pv 3) rfl) (pss_cons (ps_fld (pv 0) (pe_c c28 hr (by decide) (by rfl) (pa_cons (pv 1) pa_nil)) rfl)
      (pss_cons (ps_fld (pv 0) (pe_dcM (own := [("array", 4), ("length", 5)]) (g := gTup K 2 (gCons (gName 4) (gCons (gName 5) gNil))) (hu9 hu) (by rfl) scM0.nd (pi_tup (pv 1)) (blkOk_by (N := nM0) (sc := defScope (mF 0)) (by decide +kernel))
        (fun _ _ _ _ _ => pg_tup rfl (pgs_cons (pg_name (i := 4) scM0.nd rfl (Or.inl rfl)) (pgs_cons (pg_name (i := 5) scM0.nd rfl (Or.inl rfl)) pgs_nil))) (fun _ _ _ _ _ => pv 4) (fun _ _ _ _ _ => pv 5)) rfl)
      (pss_one (ps_fld (pv 0) (pe_c c30 hr (by decide) (by rfl) (pa_cons (pv 1) (pa_cons (pv 2) (pa_cons (pv 3) pa_nil)))) rfl))))))), ?_⟩
    obtain ⟨p, dx, tA, tP, tV, P, rfl, hp, hA, hP, hV, nm, q1, q2⟩ := h
    refine ⟨_, rfl, _, rfl, _, rfl, tA, tP, tV, P, rfl, hA, hP, hV, nm, fun H1 s1 => ⟨_, rfl, ?_⟩⟩
    cases e : okB P with
    | false => exact iteT (q1 e H1 s1)
    | true =>
    replace q2 := q2 e
    have ok := PaOk.of nm e
    refine iteF ?_
    have tA1 := tupD_dA P.arrays
    have tP1 := tupD_dS P.pos
    have tV1 := tupD_dS P.vals
    have ins : ∀ {H0 : Hp} {fs fs' : List (Str × V)}, H0 p = some (.ins C dx fs) → Tups K H0 (upd H0 p (.ins C dx fs')) := fun {H0 fs fs'} e0 => Tups.upd fun u e => by rw [e0] at e; cases e; exact True.intro
    have lz : ∀ {n : Nat}, n ≤ 6 → n < 1000 := fun h => by omega
    have hp1 := s1 _ _ hp
    refine ⟨_, rfl, _, rfl, p, C, dx, _, rfl, hp1, T.cl, T.nA, by decide, ?_⟩
    refine ⟨_, rfl, _, rfl, p, C, dx, _, rfl, upd_same, T.cl, T.nP, lz (by have := len_putF "_arrays" (.ref tA) []; simp at this; omega), ?_⟩
    refine ⟨_, rfl, _, rfl, p, C, dx, _, rfl, upd_same, T.cl, T.nV, lz (by have h1 := len_putF "_arrays" (.ref tA) []; have h2 := len_putF "_positions" (.ref tP) (putF "_arrays" (.ref tA) []); simp at h1; omega), ?_⟩
    rw [upd_upd, upd_upd]
    have t1 := ins (fs' := putF "_amounts" (.ref tV) (putF "_positions" (.ref tP) (putF "_arrays" (.ref tA) []))) hp1
    have b1 : But p H (upd H1 p (.ins C dx (putF "_amounts" (.ref tV) (putF "_positions" (.ref tP) (putF "_arrays" (.ref tA) []))))) := fun b o ne e => by rw [upd_ne ne]; exact s1 b o e
    have hA1 := dp_tups t1 _ _ tA1 (dp_mono s1 _ _ hA)
    have hP1 := dp_tups t1 _ _ tP1 (dp_mono s1 _ _ hP)
    have hV1 := dp_tups t1 _ _ tV1 (dp_mono s1 _ _ hV)
    have l3 : (putF "_amounts" (.ref tV) (putF "_positions" (.ref tP) (putF "_arrays" (.ref tA) []))).length ≤ 3 := by
      have h1 := len_putF "_arrays" (.ref tA) []
      have h2 := len_putF "_positions" (.ref tP) (putF "_arrays" (.ref tA) [])
      have h3 := len_putF "_amounts" (.ref tV) (putF "_positions" (.ref tP) (putF "_arrays" (.ref tA) []))
      simp at h1
      omega
    have hp2 : (upd H1 p (.ins C dx (putF "_amounts" (.ref tV) (putF "_positions" (.ref tP) (putF "_arrays" (.ref tA) []))))) p = some (.ins C dx (putF "_amounts" (.ref tV) (putF "_positions" (.ref tP) (putF "_arrays" (.ref tA) [])))) := upd_same
    generalize upd H1 p (.ins C dx (putF "_amounts" (.ref tV) (putF "_positions" (.ref tP) (putF "_arrays" (.ref tA) [])))) = H2 at *
    -- the lengths
    refine ⟨_, rfl, tA, P.arrays, rfl, hA1, by have := ok.na; omega, fun H3 pL s3 dL => ?_⟩
    have hp3 := s3 _ _ hp2
    have l4 := len_putF "_lengths" (.ref pL) (putF "_amounts" (.ref tV) (putF "_positions" (.ref tP) (putF "_arrays" (.ref tA) [])))
    refine ⟨_, rfl, p, C, dx, _, rfl, hp3, T.cl, T.nL, by omega, ?_⟩
    have t3 := ins (fs' := putF "_lengths" (.ref pL) (putF "_amounts" (.ref tV) (putF "_positions" (.ref tP) (putF "_arrays" (.ref tA) [])))) hp3
    have b3 := (b1.same s3).upd (o := .ins C dx (putF "_lengths" (.ref pL) (putF "_amounts" (.ref tV) (putF "_positions" (.ref tP) (putF "_arrays" (.ref tA) [])))))
    have hA3 := dp_tups t3 _ _ tA1 (dp_mono s3 _ _ hA1)
    have hP3 := dp_tups t3 _ _ tP1 (dp_mono s3 _ _ hP1)
    have hV3 := dp_tups t3 _ _ tV1 (dp_mono s3 _ _ hV1)
    have hp4 : (upd H3 p (.ins C dx (putF "_lengths" (.ref pL) (putF "_amounts" (.ref tV) (putF "_positions" (.ref tP) (putF "_arrays" (.ref tA) [])))))) p = some _ := upd_same
    generalize upd H3 p (.ins C dx (putF "_lengths" (.ref pL) (putF "_amounts" (.ref tV) (putF "_positions" (.ref tP) (putF "_arrays" (.ref tA) []))))) = H4 at *
    clear hp3 t3 s3 dL b1 t1 hp2 hA1 hP1 hV1 hp1
    -- the lengths of the arrays
    have hA4 := hA3
    unfold dA at hA4
    cases hA4 with
    | @tup _ xs _ sa da =>
    have lx : xs.length = P.arrays.length := (dp_len da).trans (List.length_map _)
    refine ⟨_, rfl, tA, rfl, ⟨xs, sa⟩, fun DO hDO => ?_⟩
    have npO : p ≠ DO := ne_of_none hp4 hDO
    refine dc_steady (K := K) (w := w) (steady_tup (K := K) (a := tA) (xs := xs)) (fun k H' => Same H4 H' ∧ ∃ B, TabIs K w H' DO B ∧ B.length ≤ k) ⟨same_new hDO, [], ⟨[], upd_same, .nil⟩, Nat.le_refl _⟩ (fun i H' _ h => Tups.same h.1 _ _ sa) (fun i H' hi h => ?_) fun H5 h => ?_
    · obtain ⟨s5, B, ⟨zs, hz, pz⟩, lB⟩ := h
      have hi2 : i < P.arrays.length := by omega
      have na := ok.na
      obtain ⟨u, eu, su⟩ := dA_at da hi2
      refine ⟨u, _, eu, Tups.same s5 _ _ su, rfl, _, _, rfl, _, _, rfl, ⟨rfl, rfl, _, rfl, _, rfl, zs, .text (P.arrays[i]).1, hz, tabR_keys pz, .inl (.inl (.text _)), by rw [sizeLine_eq, ← paired_len pz]; omega, ?_⟩⟩
      have tp : Tups K H' (upd H' DO (MD w DO (putM zs (.text (P.arrays[i]).1) (.str (P.arrays[i]).1) (.str (P.arrays[i]).2)))) := Tups.upd fun u e => by rw [hz] at e; cases e; exact True.intro
      refine ⟨fun b o e => ?_, putN B (.w (P.arrays[i]).1) (.str (P.arrays[i]).2), ⟨_, upd_same, tabR_mono tp (tabR_put (k := .w (P.arrays[i]).1) rfl pz)⟩, ?_⟩
      · rw [upd_ne (ne_of_none e hDO)]
        exact s5 b o e
      · have := len_putN B (.w (P.arrays[i]).1) (.str (P.arrays[i]).2)
        omega
    obtain ⟨s5, _⟩ := h
    have hp5 := s5 _ _ hp4
    have l5 := len_putF "_length_of" (.ref DO) (putF "_lengths" (.ref pL) (putF "_amounts" (.ref tV) (putF "_positions" (.ref tP) (putF "_arrays" (.ref tA) []))))
    refine ⟨_, rfl, p, C, dx, _, rfl, hp5, T.cl, T.nO, by omega, ?_⟩
    have t5 := ins (fs' := putF "_length_of" (.ref DO) (putF "_lengths" (.ref pL) (putF "_amounts" (.ref tV) (putF "_positions" (.ref tP) (putF "_arrays" (.ref tA) []))))) hp5
    have b5 := (b3.same s5).upd (o := .ins C dx (putF "_length_of" (.ref DO) (putF "_lengths" (.ref pL) (putF "_amounts" (.ref tV) (putF "_positions" (.ref tP) (putF "_arrays" (.ref tA) []))))))
    have hA5 := dp_tups t5 _ _ tA1 (dp_mono s5 _ _ hA3)
    have hP5 := dp_tups t5 _ _ tP1 (dp_mono s5 _ _ hP3)
    have hV5 := dp_tups t5 _ _ tV1 (dp_mono s5 _ _ hV3)
    have hp6 : (upd H5 p (.ins C dx (putF "_length_of" (.ref DO) (putF "_lengths" (.ref pL) (putF "_amounts" (.ref tV) (putF "_positions" (.ref tP) (putF "_arrays" (.ref tA) []))))))) p = some _ := upd_same
    generalize upd H5 p (.ins C dx (putF "_length_of" (.ref DO) (putF "_lengths" (.ref pL) (putF "_amounts" (.ref tV) (putF "_positions" (.ref tP) (putF "_arrays" (.ref tA) [])))))) = H6 at *
    -- the kinds
    refine ⟨_, rfl, _, rfl, _, rfl, tA, tP, tV, P, rfl, hA5, hP5, hV5, ok, fun H7 pK s7 nK hK => ?_⟩
    have hp7 := s7 _ _ hp6
    have npK : pK ≠ p := fun e => by rw [e, hp6] at nK; cases nK
    refine ⟨_, rfl, p, C, dx, _, rfl, hp7, T.cl, T.nK, by omega, ?_⟩
    have t7 := ins (fs' := fsF tA tP tV pL DO pK) hp7
    obtain ⟨a1, a2, a3, a4⟩ := fsF_at tA tP tV pL DO pK
    exact q2 _ ((b5.same s7).upd) ⟨ok, dx, _, tA, tP, tV, pK, upd_same, a1, a2, a3, a4, fsF_no tA tP tV pL DO pK, dp_tups t7 _ _ tA1 (dp_mono s7 _ _ hA5), dp_tups t7 _ _ tP1 (dp_mono s7 _ _ hP5), dp_tups t7 _ _ tV1 (dp_mono s7 _ _ hV5), by rw [upd_ne npK]; exact hK⟩
structure MkFrN (P : Program) (w : World) (K : PySem.W.Frag) (mg : Str → Option Value) (base : Heap) (C Cf : Addr) : Prop where
  at_ : ∃ (f : Addr) (fd : FuncData), Mk K C f ∧ FnOk P w K mg base (L2N.CX P w) 3 f fd ["self", "arrays", "positions", "values"] (spMake K C Cf) ∧ Binds K fd ["self", "arrays", "positions", "values"] [] ∧ mg "Frame" = some (.ref C)
theorem pe_mkEN {X : Cx} {C Cf : Addr} {E : XK} {j : Nat} {p pos : Pos} {e : Expr} {es : List Expr} {t : TA} (M : MkFrN X.prog X.w X.K X.mg X.base C Cf) (hr : Room j X.A) (hj : 4 ≤ j) (hg : Gl X "Frame") (hx : Passes (L2N.CX X.prog X.w) X E) (ha : PA X (e :: es) t)
    (he : starEach (e :: es) X.env = (false, eval e X.env) :: starEach es X.env := by rfl) (hpl : (backTo pos (starEach es X.env)).any (·.1) = false := by rfl) : PE X (.Call (.Name "Frame" p) (e :: es) [] pos) (tMake C (spMake X.K C Cf) [] E t) := by
  obtain ⟨f, fd, mk, F, b, hm⟩ := M.at_
  exact pe_make (p := p) (pos := pos) (E := E) mk F (hr.mono hj) hg hm b .nil hx ha (by decide) he hpl
theorem okM11N {f C Cf : Addr} {fd : FuncData} {kws : List (Str × V)} (F : FunD K "with_names" "Frame.with_names" (defArgs (mF 11)) (defBody (mF 11)) (defScope (mF 11)) [] kws f fd) (B : Blt mg) (T : FrTxt K mg C) (M : MkFrN P w K mg base C Cf) : FnOk P w K mg base (L2N.CX P w) 5 f fd ["self", "arrays", "positions", "values"] (spWith K C Cf) := by
  refine F.ok scM11 (fun vs H Q E h => ?_) (fun cdv A outer s H vs Q E hr h => ?_)
  · obtain ⟨p, tA, tP, tV, P, P2, rfl, _⟩ := h
    rfl
  · have hu := hu70 hr
    refine ⟨_, pss_cons (ps_for (passes_of rfl) rfl (pi_tup (pe_tup (pa_cons (pv 1) (pa_cons (pv 2) (pa_cons (pv 3) pa_nil))))) (pg_name (i := 4) scM11.nd rfl (Or.inl rfl)) (pss_one (ps_if (pt_not (pt_val (pe_callB call_isiD (by rfl) B.isinstance boot_isinstance (pa_cons (pv 4) (pa_cons (pe_bltn (v := .ty "tuple") (by rfl) B.tuple boot_tuple rfl) pa_nil))))) pss_never pss_nil)))
      (pss_one (ps_ret (pe_mkEN M hr (by decide) (by rfl) (L2N.passes_call (L2N.takes_of rfl rfl rfl rfl) fun _ _ _ _ h => h) (pa_cons (pe_op op_catA (pe_fld (pv 0) rfl) (pv 1)) (pa_cons (pe_op op_catA (pe_fld (pv 0) rfl) (pv 2)) (pa_cons (pe_op op_catA (pe_fld (pv 0) rfl) (pv 3)) pa_nil)))))), ?_⟩
    obtain ⟨p, tA, tP, tV, P, P2, rfl, fr, hA, hP, hV, nm, q1, q2⟩ := h
    obtain ⟨ok, dx, fs, uA, uP, uV, aK, h1, h2, h3, h4, h5, h6, h7, h8, h9, h10⟩ := id fr
    refine ⟨_, rfl, _, rfl, _, rfl, by rw [sizeLine_eq]; exact (by decide : (3 : Nat) ≤ 16777216), fun tp htp => ⟨tp, rfl, ⟨_, .inl (.inl upd_same)⟩, ?_⟩⟩
    have s1 := same_new (o := .tup [.ref tA, .ref tP, .ref tV]) htp
    have st : SqT K (upd H tp (.tup [.ref tA, .ref tP, .ref tV])) tp [.ref tA, .ref tP, .ref tV] := .inl (.inl upd_same)
    have hA1 := dp_mono s1 _ _ hA
    have hP1 := dp_mono s1 _ _ hP
    have hV1 := dp_mono s1 _ _ hV
    generalize upd H tp (.tup [.ref tA, .ref tP, .ref tV]) = H1 at *
    refine for_steady steady_tup (fun i σ H' => H' = H1 ∧ ∃ z, σ = [some (.ref p), some (.ref tA), some (.ref tP), some (.ref tV), z]) ⟨rfl, _, rfl⟩ (fun _ _ _ _ h => h.1 ▸ st) ?_ ?_
    · rintro i σ H' hi ⟨rfl, z, rfl⟩
      have hi2 : i < 3 := hi
      have hc : i = 0 ∨ i = 1 ∨ i = 2 := by omega
      rcases hc with rfl | rfl | rfl
      · exact ⟨_, rfl, .ref tA, _, _, rfl, .inl hA1, .inr (.inr (.inr (.inl rfl))), _, rfl, iteF ⟨rfl, _, rfl⟩⟩
      · exact ⟨_, rfl, .ref tP, _, _, rfl, .inl hP1, .inr (.inr (.inr (.inl rfl))), _, rfl, iteF ⟨rfl, _, rfl⟩⟩
      · exact ⟨_, rfl, .ref tV, _, _, rfl, .inl hV1, .inr (.inr (.inr (.inl rfl))), _, rfl, iteF ⟨rfl, _, rfl⟩⟩
    · rintro σ H' ⟨rfl, z, rfl⟩
      have na := nm.na
      have np := nm.np
      have nv := nm.nv
      simp only [List.length_append] at na np nv
      refine ⟨_, rfl, p, C, dx, fs, _, rfl, s1 _ _ h1, T.cl, T.nA, h2, _, rfl, ?_⟩
      refine cat_dA (dp_mono s1 _ _ h7) hA1 (by omega) fun H2 a2 s2 d2 => ?_
      refine ⟨_, rfl, p, C, dx, fs, _, rfl, s2 _ _ (s1 _ _ h1), T.cl, T.nP, h3, _, rfl, ?_⟩
      refine cat_dS (dp_mono (s1.trans s2) _ _ h8) (dp_mono s2 _ _ hP1) (by omega) fun H3 a3 s3 d3 => ?_
      refine ⟨_, rfl, p, C, dx, fs, _, rfl, s3 _ _ (s2 _ _ (s1 _ _ h1)), T.cl, T.nV, h4, _, rfl, ?_⟩
      refine cat_dS (dp_mono ((s1.trans s2).trans s3) _ _ h9) (dp_mono (s2.trans s3) _ _ hV1) (by omega) fun H4 a4 s4 d4 => ?_
      have sT := ((s1.trans s2).trans s3).trans s4
      exact mk_i ⟨P.arrays ++ P2.arrays, P.pos ++ P2.pos, P.vals ++ P2.vals⟩ (dp_mono (s3.trans s4) _ _ d2) (dp_mono s4 _ _ d3) d4 nm (fun e H' s' => q1 e H' (sT.trans s')) fun e H' p' s' _ fr' => q2 e H' p' (sT.trans s') fr'
end
end Fc
namespace Fc
open PySem L2 L2H PyProof.Rows
/-! o.m(k = v, ..) within a try -/
def tMethNE (C : Addr) (m : Str) (n j : Nat) (sp : Sp) (gV : List V → List V → List V) (E : L2.St → XK) (ta : TE) (t tk : TA) : TE := fun σ H Q => ta σ H fun x H1 => ∃ a dx fs, x = .ref a ∧ H1 a = some (.ins C dx fs) ∧ fs.lookup m = none ∧
  t σ H1 fun vs H2 => tk σ H2 fun zs H3 => vs.length = n ∧ zs.length = j ∧ sp (gV (x :: vs) zs) H3 Q (E σ)
section
variable {X : Cx} {CX : CXT} {k n : Nat} {f C : Addr} {fd : FuncData} {ps ks : List Str} {sp : Sp} {E : L2.St → XK} {m : Str} {pos apos : Pos} {o e : Expr} {es : List Expr} {kws : List Keyword} {ta : TE} {t tk : TA} {g : List Value → List Value → List Value} {gV : List V → List V → List V}
theorem run_fnNS {pins : List (Addr × Obj)} {σ : L2.St} {H : Hp} {s : Shared} {Q : VK} {us ws : List Value} {vs zs : List V} (F : FnOk X.prog X.w X.K X.mg X.base CX k f fd ps sp) (hr : Room k X.A) (hb : KBn X.K fd ps n ks g gV) (hx : PassesAt CX X σ (E σ))
    (I : Inv X pins σ H s) (r : Vals vs us) (rz : Vals zs ws) (l1 : vs.length = n) (l2 : zs.length = ks.length) (h : sp (gV vs zs) H Q (E σ)) : wpAny (model X.prog X.w) X.A (call (.ref f) us (ks.zip ws)) (EP X pins σ Q) X.xe s := by
  have r2 := hb.rel r rz
  refine wpAny_call (codeAny_mono (F.run X.A X.stack s H ⟨us, ks.zip ws⟩ (g us ws) (gV vs zs) Q (E σ) hr I.env0 (hb.to s us ws I.kIn (r.length.symm.trans l1) (rz.length.symm.trans l2)) r2 h) fun r s' hq => ?_)
  cases r with
  | error e => exact hx pins H s e s' I hq
  | ok fl =>
    cases fl with
    | ret u => exact I.after hq
    | next => exact False.elim hq
    | brk => exact False.elim hq
    | cont => exact False.elim hq
theorem pe_methNE0 {pl : Sem Bool} (he : PE X o ta) (c : Cls X.K C) (hm : Meth X.K C m f) (F : FnOk X.prog X.w X.K X.mg X.base CX k f fd ps sp) (hr : Room k X.A) (hb : KBn X.K fd ps 1 ks g gV) (hx : ∀ σ, PassesAt CX X σ (E σ)) (hkw : PK X kws tk)
    (hall : (backToKw pos (keywordEach kws X.env)).all (·.1.isSome) = true := by rfl) (hks : (backToKw pos (keywordEach kws X.env)).filterMap (·.1) = ks := by rfl)
    (hpl : ((backTo pos (starEach [] X.env)).any (·.1) || (backToKw pos (keywordEach kws X.env)).any (·.1.isNone)) = false := by rfl)
    (ht : eval (.Call (.Attribute o m apos) [] kws pos) X.env = (do
      let ov ← eval o X.env
      standAt apos.atName
      let (f, first) ← holding [ov] (getMethod ov m pl)
      callWith pos f first (backTo pos (starEach [] X.env)) (backToKw pos (keywordEach kws X.env))) := by rfl) :
    PE X (.Call (.Attribute o m apos) [] kws pos) (tMethNE C m 0 ks.length sp gV E ta tNil tk) := by
  refine ⟨fun pins s σ H Q I h => ?_⟩
  refine PySem.W.methodCall_KW (pl := pl) (thn (he.run pins s σ H _ I h) fun u s1 ⟨x, H1, I1, rx, a, dx, fs, ex, ea, l, q⟩ => ?_) ht
  subst ex
  obtain rfl : u = Value.ref a := rx
  refine getmeth_ok I1 ea c hm l ?_
  refine PySem.W.callWith_KW0 (first := [.ref a]) (h₀ := X.base) I.ok.mod.kin hm.kp hall ?_ hpl
  refine thn (hkw.run pos pins s1 σ H1 _ I1 q) fun ws s3 ⟨zs, H3, I3, rz, l1, l2, q3⟩ => ⟨I3.kIn, ?_⟩
  rw [hks]
  exact run_fnNS (us := [.ref a]) (vs := [.ref a]) F hr hb (hx σ) I3 (.cons rfl .nil) rz rfl l2 q3
end
/-! parts put together -/
def addP (P Q : Pa) : Pa := ⟨P.arrays ++ Q.arrays, P.pos ++ Q.pos, P.vals ++ Q.vals⟩
def dPart (P : Pa) (k : Nat) : PyData := if k = 0 then dA P.arrays else if k = 1 then dS P.pos else dS P.vals
theorem tupD_dPart (P : Pa) (k : Nat) : tupD (dPart P k) = true := by
  unfold dPart
  split
  · exact tupD_dA _
  · split <;> exact tupD_dS _
theorem RowAt.part {K : PySem.W.Frag} {H : Hp} {r : Addr} {P : Pa} (R : RowAt K H r P) : ∃ xs : List V, H r = some (.lst xs) ∧ xs.length = 3 ∧ ∀ k, k < 3 → ∃ t : Addr, xs[k]? = some (V.ref t) ∧ Dp K H (.ref t) (dPart P k) := by
  obtain ⟨⟨tA, tP, tV, h1, h2, h3, h4⟩, nm⟩ := R
  refine ⟨_, h1, rfl, fun k hk => ?_⟩
  have : k = 0 ∨ k = 1 ∨ k = 2 := by omega
  rcases this with rfl | rfl | rfl
  · exact ⟨tA, rfl, h2⟩
  · exact ⟨tP, rfl, h3⟩
  · exact ⟨tV, rfl, h4⟩
theorem ok_lens {P : Pa} (h : okB P = true) : P.arrays.length ≤ 12 ∧ P.pos.length ≤ 8 ∧ P.vals.length ≤ 6 := by
  unfold okB at h
  simp only [Bool.and_eq_true, decide_eq_true_iff] at h
  exact ⟨h.1, h.2.1, h.2.2.1⟩
theorem PaOk.okB {P : Pa} (h : PaOk P) : okB P = true := by
  unfold Fc.okB
  simp only [Bool.and_eq_true, decide_eq_true_iff]
  exact ⟨h.na, h.np, h.nv, h.nd⟩
theorem PaNm.add {P Q : Pa} (h1 : okB P = true) (h2 : okB Q = true) (n1 : PaNm P) (n2 : PaNm Q) : PaNm (addP P Q) := by
  obtain ⟨a, b, c⟩ := ok_lens h1
  obtain ⟨a', b', c'⟩ := ok_lens h2
  refine ⟨by unfold addP; simp only [List.length_append]; omega, by unfold addP; simp only [List.length_append]; omega, by unfold addP; simp only [List.length_append]; omega, fun x hx => ?_⟩
  have : x ∈ wordsL P ∨ x ∈ wordsL Q := by
    unfold wordsL addP at hx
    simp only [List.flatMap_append, List.mem_append] at hx
    unfold wordsL
    simp only [List.mem_append]
    rcases hx with (hx | hx) | (hx | hx) | (hx | hx)
    · exact .inl (.inl hx)
    · exact .inr (.inl hx)
    · exact .inl (.inr (.inl hx))
    · exact .inr (.inr (.inl hx))
    · exact .inl (.inr (.inr hx))
    · exact .inr (.inr (.inr hx))
  exact this.elim (n1.nm x) (n2.nm x)
/-- the text's method with_names, by its calls -/
structure MWith (P : Program) (w : World) (K : PySem.W.Frag) (mg : Str → Option Value) (base : Heap) (C Cf : Addr) : Prop where
  at_ : ∃ (f : Addr) (fd : FuncData) (g1 g2 : List Value → List Value → List Value) (TA TP TV : Addr) (ds : List Value), Meth K C "with_names" f ∧ FnOk P w K mg base (L2N.CX P w) 5 f fd ["self", "arrays", "positions", "values"] (spWith K C Cf) ∧
    KBn K fd ["self", "arrays", "positions", "values"] 1 ["positions", "arrays", "values"] g1 (fun vs zs => vs ++ [zs.getD 1 .non, zs.getD 0 .non, zs.getD 2 .non]) ∧
    KBn K fd ["self", "arrays", "positions", "values"] 1 ["positions"] g2 (fun vs zs => vs ++ [.ref TA, zs.getD 0 .non, .ref TV]) ∧
    Vals [V.ref TA, .ref TP, .ref TV] ds ∧ Binds K fd ["self", "arrays", "positions", "values"] ds ∧ ∀ H, SqT K H TA [] ∧ SqT K H TP [] ∧ SqT K H TV []
def spLawMore (K : PySem.W.Frag) (C : Addr) : Sp := fun vs H Q _ => ∃ (S G : Addr) (n : Int) (p r : Addr) (P : Pa), vs = [.ref S, .ref p, .ref r] ∧ SkAt H S G n ∧ n + 400 < 2 ^ 60 ∧ FrAt K C H p P ∧ RowAt K H r P ∧
  ∀ H' L p' r' P', ButSG S G H H' → SkAt H' S G (n + 400) → H' L = some (.lst [.ref p', .ref r']) → FrAt K C H' p' P' → RowAt K H' r' P' → (r' = r ∨ H r' = none) → Q (.ref L) H'
section
variable {K : PySem.W.Frag} {mg : Str → Option Value} {base : Heap} {P : Program} {w : World}
abbrev n48 : List Str := ["_law_skein_here", "_law_frame_here", "_law_parts_here", "_law_fresh", "_law_due", "_law_found", "_law_kind"]
theorem sc48 : FnScope n48 ["_law_skein_here", "_law_frame_here", "_law_parts_here"] (defScope (topS 48)) := ⟨rfl, rfl, rfl, by decide +kernel, rfl, by decide +kernel, by decide +kernel⟩
theorem takes0N {X : Cx} : L2N.Takes X (fun _ _ _ _ => False) := fun _ _ x => by
  obtain ⟨_, _, _, _, _, _, _, _, _, _, _, _, _, _, _, _, z⟩ := x
  exact z.elim
theorem hotS {X : Cx} {a : Addr} {oe : Obj} {cls : Value} {d : Option Addr} {pn : List (Addr × Obj)} (hz : L2N.Zn cls d oe) (hd : ∃ vs, oe.data = .fields vs) : HotC (X.suite a ((a, oe) :: pn)) := by
  obtain ⟨vs, e⟩ := hd
  exact ⟨(a, oe), ⟨rfl, vs, e, hz.2.2 vs e⟩, List.mem_cons_self⟩
theorem cat_dPart {H : Hp} {t u : Addr} {R F : Pa} {k : Nat} {Q : VK} (hk : k < 3) (h1 : Dp K H (.ref t) (dPart R k)) (h2 : Dp K H (.ref u) (dPart F k)) (n1 : PaNm R) (n2 : PaNm F) (q : ∀ H' p, Same H H' → Dp K H' (.ref p) (dPart (addP R F) k) → Q (.ref p) H') : rCatA K (.ref t) (.ref u) H Q := by
  have a1 := n1.na
  have a2 := n1.np
  have a3 := n1.nv
  have b1 := n2.na
  have b2 := n2.np
  have b3 := n2.nv
  have : k = 0 ∨ k = 1 ∨ k = 2 := by omega
  rcases this with rfl | rfl | rfl
  · exact cat_dA h1 h2 (by omega) q
  · exact cat_dS h1 h2 (by omega) q
  · exact cat_dS h1 h2 (by omega) q
theorem three {α : Type} {l : List α} (h : l.length = 3) : ∃ a b c, l = [a, b, c] := by
  match l, h with
  | [a, b, c], _ => exact ⟨a, b, c, rfl⟩
abbrev ts48 (K : PySem.W.Frag) : Addr → Value → Option Addr → TS := fun _ _ _ => tRet (tIf (tTest (tCal (spLawLet K) (tCons (tVar 4) tNil))) (tLst tNil) (tLst (tCons (tVar 1) (tCons (tVar 2) tNil))))
theorem ok48 {f C Cf : Addr} {fd : FuncData} (F : Fun K "_law_more" "_law_more" (topS 48) f fd) (B : Blt mg) (T : FrTxt K mg C) (O : OwnX K mg "InvalidFrame" Cf) (M : MWith P w K mg base C Cf) (c37 : Cal P w K mg base 3 "_law_parts" (spParts K)) (c47 : Cal P w K mg base 3 "_law_is_let" (spLawLet K)) (h47 : CalH P w K mg base 3 "_law_is_let" (spLawLet K)) : FnOk P w K mg base CX0 6 f fd ["_law_skein_here", "_law_frame_here", "_law_parts_here"] (spLawMore K C) := by
  refine F.ok sc48 (fun vs H Q E h => ?_) (fun cdv A outer s H vs Q E hr h => ?_)
  · obtain ⟨S, G, n, p, r, P, rfl, _⟩ := h
    rfl
  · obtain ⟨g, gd, g1, g2, TA, TP, TV, ds, mt, F5, kb, _, _, _, _⟩ := M.at_
    refine ⟨_, (pss_cons (ps_set (i := 3) sc48.nd rfl (Or.inr rfl) (pe_c c37 hr (by decide) (by rfl) (pa_cons (pv 0) pa_nil))) (pss_cons (ps_setLc (i := 4) (own := [("_law_kind", 6)]) (g := gName 6) (by rfl) sc48.nd rfl rfl (sw_true rfl rfl rfl (by decide +kernel)) (pi_range1 (by rfl) B.range (pa_cons pe_int pa_nil)) (blkOk_by (N := n48) (sc := defScope (topS 48)) (by decide +kernel)) (fun _ _ _ _ _ => (pg_name (i := 6) sc48.nd rfl (Or.inl rfl))) (fun _ _ _ _ _ => pts_nil) (fun _ _ _ _ _ => (pe_op (r := rCatA K) op_catA (pe_ix (r := rIxL K) ix_list (pv 2) (pv 6) (fun _ _ => rfl)) (pe_ix (r := rIxL K) ix_list (pv 3) (pv 6) (fun _ _ => rfl))))) (pss_cons (L2N.ps_try_many (tb := fun W => tAsg (tMethNE C "with_names" 0 3 (spWith K C Cf) (fun vs zs => vs ++ [zs.getD 1 .non, zs.getD 0 .non, zs.getD 2 .non]) (WE W) (tVar 1) tNil (tCons (tOp (rIxL K) (tVar 3) (tC (.int 1))) (tCons (tOp (rIxL K) (tVar 3) (tC (.int 0))) (tCons (tOp (rIxL K) (tVar 3) (tC (.int 2))) tNil)))) (gName 5)) (Wout := fun _ _ _ _ => False) (l := [(.ref Cf, ts48 K)]) rfl rfl takes0N (fun W pn xe tk _ => pss_one (ps_set (i := 5) sc48.nd rfl (Or.inl rfl) (pe_methNE0 (pv 1) T.cl mt F5 hr kb (fun σ => L2N.passAt tk σ) (pk_cons (pe_ix ix_list (pv 3) pe_int (fun _ _ => rfl)) (pk_cons (pe_ix ix_list (pv 3) pe_int (fun _ _ => rfl)) (pk_cons (pe_ix ix_list (pv 3) pe_int (fun _ _ => rfl)) pk_nil)))))) (.cons ⟨rfl, by decide, Or.inl O.g⟩ (fun _ _ _ _ _ hz hd => pss_one (ps_ret (pe_ifExp (pt_val (pe_cH (j := 5) h47 (hotS hz hd) ⟨hr.dp, hr.un⟩ (by decide) (by rfl) (pa_cons (pv 4) pa_nil))) (pe_lst pa_nil) (pe_lst (pa_cons (pv 1) (pa_cons (pv 2) pa_nil)))))) .nil)) (pss_one (ps_ret (pe_ifExp (pt_val (pe_c c47 hr (by decide) (by rfl) (pa_cons (pv 4) pa_nil))) (pe_lst (pa_cons (pv 5) (pa_cons (pv 4) pa_nil))) (pe_lst pa_nil))))))), ?_⟩
    obtain ⟨S, G, n, p, r, R, rfl, sk, nb, fr, row, q⟩ := h
    have sl : sizeLine = 16777216 := sizeLine_eq
    refine ⟨_, rfl, S, G, n, rfl, sk, by omega, fun H1 f1 N b1 sk1 nf rf okN => ?_⟩
    have row1 := row.but b1 sk
    have fr1 := fr.but b1 sk
    have okR : okB R = true := fr.ok.okB
    have nmS := PaNm.add okR okN row.nm rf.nm
    obtain ⟨xs, hx, lx, ax⟩ := row1.part
    obtain ⟨ys, hy, ly, ay⟩ := rf.part
    have f1S := rf.ne sk1
    refine ⟨_, rfl, by omega, by omega, fun D hD => ?_⟩
    refine lc_map (K := K) (fun H k y => ∃ t : Addr, y = .ref t ∧ Dp K H (.ref t) (dPart (addP R N) k)) steady_rng (fun _ _ _ _ t ⟨u, e, h⟩ => ⟨u, e, dp_tups t _ _ (tupD_dPart _ _) h⟩) (fun _ _ => trivial) (by omega) hD (fun k H2 Q' hk s2 q' => ?_) fun H2 zs s2 hz pz => ?_
    · have hk3 : k < 3 := hk
      obtain ⟨t1, e1, d1⟩ := ax k hk3
      obtain ⟨t2, e2, d2⟩ := ay k hk3
      refine ⟨rfl, _, rfl, _, rfl, r, xs, _, _, rfl, rfl, .inl (.inl (s2 _ _ hx)), by rw [Int.zero_add]; exact atI_nat e1, _, rfl, _, rfl, f1, ys, _, _, rfl, rfl, .inl (.inl (s2 _ _ hy)), by rw [Int.zero_add]; exact atI_nat e2, ?_⟩
      exact cat_dPart hk3 (dp_mono s2 _ _ d1) (dp_mono s2 _ _ d2) row.nm rf.nm fun H3 t s3 d3 => q' H3 _ s3 ⟨t, rfl, d3⟩
    · have lz : zs.length = 3 := by rw [← paired_len pz, List.length_range]; rfl
      obtain ⟨z0, z1, z2, rfl⟩ := three lz
      obtain ⟨t0, rfl, d0⟩ := paired_at pz (i := 0) (a := 0) rfl rfl
      obtain ⟨t1, rfl, d1⟩ := paired_at pz (i := 1) (a := 1) rfl rfl
      obtain ⟨t2, rfl, d2⟩ := paired_at pz (i := 2) (a := 2) rfl rfl
      have rD : RowAt K H2 D (addP R N) := ⟨⟨t0, t1, t2, hz, d0, d1, d2⟩, nmS⟩
      obtain ⟨u0, f0, e0⟩ := ay 0 (by decide)
      obtain ⟨u1, f2, e1⟩ := ay 1 (by decide)
      obtain ⟨u2, f3, e2⟩ := ay 2 (by decide)
      have hy2 := s2 _ _ hy
      obtain ⟨okP, dx, fs, tA, tP, tV, aK, h1, h2, h3, h4, h5, h6, h7⟩ := id (fr1.same s2)
      have bS : ButSG S G H H2 := b1.trans (ButSG.same s2)
      have sk2 := sk1.same s2
      refine ⟨_, rfl, p, dx, fs, rfl, h1, h6 _ (by decide), _, rfl, f1, ys, _, _, rfl, rfl, .inl (.inl hy2), atI_nat f2, _, rfl, f1, ys, _, _, rfl, rfl, .inl (.inl hy2), atI_nat f0, _, rfl, f1, ys, _, _, rfl, rfl, .inl (.inl hy2), atI_nat f3, rfl, rfl, ?_⟩
      refine ⟨p, u0, u1, u2, R, N, rfl, fr1.same s2, dp_mono s2 _ _ e0, dp_mono s2 _ _ e1, dp_mono s2 _ _ e2, nmS, fun e H3 s3 => ?_, fun e H3 p3 s3 fr3 => ?_⟩
      · refine ⟨true, O.e, fun _ a ha => ⟨_, rfl, D, addP R N, rfl, rD.mono s3, fun H4 s4 => ?_⟩, fun z => by cases z⟩
        have e2 : okB (addP R N) = false := e
        rw [e2]
        refine ⟨_, rfl, iteF ⟨_, rfl, _, rfl, by rw [sl]; exact (by decide : 2 ≤ 16777216), fun L hL => ?_⟩⟩
        have s5 := (s3.trans s4).trans (same_new (o := .lst [V.ref p, V.ref r]) hL)
        have bL : ButSG S G H (upd H4 L (.lst [V.ref p, V.ref r])) := bS.trans (ButSG.same s5)
        exact q _ L p r R bL ((sk2.same s5).le (by omega)) upd_same (fr.but bL sk) (row.but bL sk) (.inl rfl)
      · refine ⟨_, rfl, D, addP R N, rfl, rD.mono s3, fun H4 s4 => ?_⟩
        have e2 : okB (addP R N) = true := e
        rw [e2]
        refine ⟨_, rfl, iteT ⟨_, rfl, _, rfl, by rw [sl]; exact (by decide : 2 ≤ 16777216), fun L hL => ?_⟩⟩
        have s45 := s4.trans (same_new (o := .lst [V.ref p3, V.ref D]) hL)
        have s5 := s3.trans s45
        exact q _ L p3 D (addP R N) (bS.trans (ButSG.same s5)) ((sk2.same s5).le (by omega)) upd_same (fr3.same s45) (rD.mono s5) (.inr (b1.none_of hD (sk1.new hD).1 (sk1.new hD).2))
end
end Fc
namespace Fc
open PySem PySem.Spec L2 PyProof PyProof.Rows
/-! list(zip(xs, ys)): a list of new pairs -/
theorem zip_len_none : typeLookup (.type "zip") "__len__" = pure none := by rw [typeLookup_type, builtinLookup_eq_fast]; kernel_rfl
theorem zip_hint_none : typeLookup (.type "zip") "__length_hint__" = pure none := by rw [typeLookup_type, builtinLookup_eq_fast]; kernel_rfl
/-- the zip before its i-th turn; what it gave out is kept by others -/
structure ZSt (z TI TO i1 i2 l1 l2 S : Addr) (xs ys : Array Value) (i : Nat) (h : Heap) : Prop where
  ti : IsPair h TI (.ref i1) (.ref i2)
  t1 : h.IsListIter i1 l1 i
  t2 : h.IsListIter i2 l2 i
  q1 : h.IsList l1 xs
  q2 : h.IsList l2 ys
  st : (IsZip h z TI TO .none ∧ ∃ a b, IsPair h TO a b) ∨ ∃ T f oT, IsZipHeld h z TI TO T f ∧ h.get? T = some oT ∧ T ≠ z ∧ T ≠ i1 ∧ T ≠ i2 ∧ T ≠ S
/-- the pairs so far -/
structure ZAcc (B : Addr) (xs ys : Array Value) (ts : List Addr) (h : Heap) : Prop where
  nd : ts.Nodup
  lo : ∀ t ∈ ts, B ≤ t
  at_ : ∀ (j : Nat) (t : Addr), ts[j]? = some t → ∃ x y, xs[j]? = some x ∧ ys[j]? = some y ∧ IsPair h t x y
abbrev lstObj (ts : List Addr) (c : Nat) : Obj := { cls := .type "list", dict := none, data := .seq (ts.map Value.ref).toArray c, slots := #[] }
theorem ZSt.at {z TI TO i1 i2 l1 l2 S : Addr} {xs ys : Array Value} {i : Nat} {h h' : Heap} (Z : ZSt z TI TO i1 i2 l1 l2 S xs ys i h) (hn : S ≠ z ∧ S ≠ TI ∧ S ≠ TO ∧ S ≠ i1 ∧ S ≠ i2 ∧ S ≠ l1 ∧ S ≠ l2) (k : ∀ b o, b ≠ S → h.get? b = some o → h'.get? b = some o) : ZSt z TI TO i1 i2 l1 l2 S xs ys i h' := by
  obtain ⟨n1, n2, n3, n4, n5, n6, n7⟩ := hn
  obtain ⟨ti, t1, t2, q1, q2, st⟩ := Z
  refine ⟨k _ _ n2.symm ti, t1.at fun o e => k _ o n4.symm e, t2.at fun o e => k _ o n5.symm e, q1.at fun o e => k _ o n6.symm e, q2.at fun o e => k _ o n7.symm e, ?_⟩
  rcases st with ⟨hz, a, b, ho⟩ | ⟨T, f, oT, hz, hT, r1, r2, r3, r4⟩
  · exact .inl ⟨k _ _ n1.symm hz, a, b, k _ _ n3.symm ho⟩
  · exact .inr ⟨T, f, oT, k _ _ n1.symm hz, k _ _ r4 hT, r1, r2, r3, r4⟩
theorem far2 {a t B : Nat} (h1 : a < B) (h2 : B ≤ t) : t ≠ a := Nat.ne_of_gt (Nat.lt_of_lt_of_le h1 h2)
section
variable {prog : Program} {w : World} {A : Around} {R : Result → Shared → Prop} {z TI TO i1 i2 l1 l2 S B : Addr} {xs ys : Array Value}
theorem ext_zip (hh : A.in1.handled = none) (D : ZipApart z TI TO i1 i2 l1 l2) (hn : S ≠ z ∧ S ≠ TI ∧ S ≠ TO ∧ S ≠ i1 ∧ S ≠ i2 ∧ S ≠ l1 ∧ S ≠ l2) (hb : S < B ∧ z < B ∧ TO < B ∧ i1 < B ∧ i2 < B) (hs : xs.size = ys.size) (hz : xs.size ≤ sizeLine) :
    ∀ (k : Nat) (s : Shared) (ts : List Addr) (c : Nat), xs.size - ts.length = k → ts.length ≤ xs.size → ZSt z TI TO i1 i2 l1 l2 S xs ys ts.length s.heap → s.heap.get? S = some (lstObj ts c) → ZAcc B xs ys ts s.heap → B ≤ s.heap.objs.size →
      (∀ h' ts' c', h'.get? S = some (lstObj ts' c') → ts'.length = xs.size → ZAcc B xs ys ts' h' → (∀ b o, b ≠ S → b ≠ z → b ≠ TO → b ≠ i1 → b ≠ i2 → s.heap.get? b = some o → h'.get? b = some o) → R (.ok (.ret .none)) { s with heap := h' }) →
      codeAny (model prog w) A (.builtin "list.extend.loop" ⟨[.ref S, .ref z, .none], []⟩) R s := by
  intro k
  induction k with
  | zero =>
    intro s ts c hk hle Z gS Ac hB q
    have e : ts.length = xs.size := by omega
    have end1 : xs[ts.length]? = none ∨ ys[ts.length]? = none := .inl (Array.getElem?_eq_none (by omega))
    refine codeAny_builtin F.entry_extend_loop ?_
    rw [Around.under_plainId F.plain_extend_loop _]
    change wpAny _ A.in1 (pyNext (.ref z) >>= _) _ _ s
    have fin : ∀ h', (∀ b o, b ≠ z → b ≠ TO → b ≠ i1 → b ≠ i2 → s.heap.get? b = some o → h'.get? b = some o) → R (.ok (.ret .none)) { s with heap := h' } := fun h' kp => by
      refine q h' ts c (kp _ _ hn.1 hn.2.2.1 hn.2.2.2.1 hn.2.2.2.2.1 gS) e ⟨Ac.nd, Ac.lo, fun j t hj => ?_⟩ fun b o _ h1 h2 h3 h4 g => kp b o h1 h2 h3 h4 g
      obtain ⟨x, y, ex, ey, g⟩ := Ac.at_ j t hj
      have lo := Ac.lo t (List.mem_of_getElem? hj)
      exact ⟨x, y, ex, ey, kp _ _ (far2 hb.2.1 lo) (far2 hb.2.2.1 lo) (far2 hb.2.2.2.1 lo) (far2 hb.2.2.2.2 lo) g⟩
    rcases Z.st with ⟨hz, a, b, ho⟩ | ⟨T, f, oT, hz, hT, r1, r2, r3, r4⟩
    · exact wpAny_bind (wpAny_pyNext_zip_end hh D hz Z.ti ho Z.t1 Z.t2 Z.q1 Z.q2 end1 fun h' kp => wpAny_pure (fin h' kp))
    · exact wpAny_bind (wpAny_pyNext_zip_end_held hh D hz hT Z.ti Z.t1 Z.t2 Z.q1 Z.q2 end1 fun h' kp => wpAny_pure (fin h' fun b o h1 _ h3 h4 g => kp b o h1 h3 h4 g))
  | succ k ih =>
    intro s ts c hk hle Z gS Ac hB q
    have lt : ts.length < xs.size := by omega
    have ex : xs[ts.length]? = some xs[ts.length] := Array.getElem?_eq_getElem lt
    have ey : ys[ts.length]? = some ys[ts.length] := Array.getElem?_eq_getElem (hs ▸ lt)
    refine codeAny_builtin F.entry_extend_loop ?_
    rw [Around.under_plainId F.plain_extend_loop _]
    change wpAny _ A.in1 (pyNext (.ref z) >>= _) _ _ s
    have far : ∀ {c o}, s.heap.get? c = some o → s.heap.objs.size ≠ c := fun e => Nat.ne_of_gt (Heap.lt_size e)
    have n1 : s.heap.objs.size ≠ i1 := let ⟨_, e, _⟩ := Z.t1; far e
    have n2 : s.heap.objs.size ≠ i2 := let ⟨_, e, _⟩ := Z.t2; far e
    have nS : s.heap.objs.size ≠ S := far gS
    have step : ∀ h', ZSt z TI TO i1 i2 l1 l2 S xs ys (ts.length + 1) h' → IsPair h' s.heap.objs.size xs[ts.length] ys[ts.length] → h'.objs.size = s.heap.objs.size + 1 → (∀ b o, b ≠ z → b ≠ TO → b ≠ i1 → b ≠ i2 → s.heap.get? b = some o → h'.get? b = some o) →
        wpAny (model prog w) A.in1 (updateSeq S (·.push (.ref s.heap.objs.size)) >>= fun _ => again (.builtin "list.extend.loop" ⟨[.ref S, .ref z, .none], []⟩))
          (fun fin s' => match fin with | .done f => R (.ok f) s' | .again c' => c'.quiet = true ∧ codeAny (model prog w) A c' R s') (fun e s' => R (.error e) s') { s with heap := h' } := fun h' Z' gp hsz kp => by
      have gS' := kp _ _ hn.1 hn.2.2.1 hn.2.2.2.1 hn.2.2.2.2.1 gS
      refine wpAny_bind (wpAny_updateSeq gS' rfl ?_ (by simp; omega) (by simp; omega))
      have sb : Heap.SameBut S h' (h'.update S (Obj.mapSeq (·.push (.ref s.heap.objs.size)))) := Heap.SameBut.update ..
      have gS2 : (h'.update S (Obj.mapSeq (·.push (.ref s.heap.objs.size)))).get? S = some (Obj.mapSeq (·.push (.ref s.heap.objs.size)) (lstObj ts c)) := Heap.get?_update_self _ gS' rfl
      have sz2 : (h'.update S (Obj.mapSeq (·.push (.ref s.heap.objs.size)))).objs.size = s.heap.objs.size + 1 := by rw [← hsz]; first | exact Heap.size_update .. | simp
      generalize h'.update S (Obj.mapSeq (·.push (.ref s.heap.objs.size))) = h2 at sb gS2 sz2 ⊢
      have k2 : ∀ b o, b ≠ S → h'.get? b = some o → h2.get? b = some o := fun b o nb e => (sb.2 b nb).trans e
      have new : s.heap.objs.size ∉ ts := fun hm => by
        obtain ⟨j, hj⟩ := List.mem_iff_getElem?.mp hm
        obtain ⟨x, y, _, _, g⟩ := Ac.at_ j _ hj
        exact Nat.lt_irrefl _ (Heap.lt_size g)
      have len1 : (ts ++ [s.heap.objs.size]).length = ts.length + 1 := by simp
      have eo : Obj.mapSeq (·.push (.ref s.heap.objs.size)) (lstObj ts c) = lstObj (ts ++ [s.heap.objs.size]) (c + 1) := by simp [Obj.mapSeq, lstObj]
      rw [eo] at gS2
      refine wpAny_pure ⟨plainId_quiet F.plain_extend_loop _, ih _ (ts ++ [s.heap.objs.size]) (c + 1) (by omega) (by omega) (by rw [len1]; exact Z'.at hn k2) gS2 ⟨?_, fun t ht => ?_, fun j t hj => ?_⟩ (Nat.le_trans hB (by rw [sz2]; exact Nat.le_succ _)) fun h3 ts3 c3 g3 l3 A3 k3 => ?_⟩
      · rw [List.nodup_append]
        refine ⟨Ac.nd, by simp, fun a ha b hb => ?_⟩
        rw [List.mem_singleton.mp hb]
        exact fun e => new (e ▸ ha)
      · rcases List.mem_append.mp ht with ht | ht
        · exact Ac.lo t ht
        · rw [List.mem_singleton.mp ht]; exact hB
      · by_cases cj : j < ts.length
        · rw [List.getElem?_append_left cj] at hj
          obtain ⟨x, y, ex', ey', g⟩ := Ac.at_ j t hj
          have lo := Ac.lo t (List.mem_of_getElem? hj)
          exact ⟨x, y, ex', ey', k2 _ _ (far2 hb.1 lo) (kp _ _ (far2 hb.2.1 lo) (far2 hb.2.2.1 lo) (far2 hb.2.2.2.1 lo) (far2 hb.2.2.2.2 lo) g)⟩
        · rw [List.getElem?_append_right (by omega)] at hj
          have hj0 : j - ts.length = 0 := by
            by_cases c0 : j - ts.length = 0
            · exact c0
            · rw [List.getElem?_eq_none (by simp; omega)] at hj; cases hj
          rw [hj0] at hj
          cases hj
          have ej : j = ts.length := by omega
          subst ej
          exact ⟨_, _, ex, ey, k2 _ _ nS gp⟩
      · exact q h3 ts3 c3 g3 l3 A3 fun b o h0 h1 h2' h3' h4 g => k3 b o h0 h1 h2' h3' h4 (k2 b o h0 (kp b o h1 h2' h3' h4 g))
    rcases Z.st with ⟨hz, a, b, ho⟩ | ⟨T, f, oT, hz, hT, r1, r2, r3, r4⟩
    · refine wpAny_bind (wpAny_pyNext_zip_item D hz Z.ti ho Z.t1 Z.t2 Z.q1 Z.q2 ex ey fun h' a1 a2 a3 a4 a5 a6 kp => ?_)
      exact step h' ⟨kp _ _ D.TIz D.TITO D.TIi1 D.TIi2 Z.ti, a3, a4, Z.q1.at fun o e => kp _ o D.l1z D.l1TO D.l1i1 D.l1i2 e, Z.q2.at fun o e => kp _ o D.l2z D.l2TO D.l2i1 D.l2i2 e, .inr ⟨s.heap.objs.size, false, _, a1, a5, far hz, n1, n2, nS⟩⟩ a5 a6 kp
    · refine wpAny_bind (wpAny_pyNext_zip_item_held D hz hT Z.ti Z.t1 Z.t2 Z.q1 Z.q2 ex ey fun h' a1 a3 a4 a5 a6 kp => ?_)
      exact step h' ⟨kp _ _ D.TIz D.TIi1 D.TIi2 Z.ti, a3, a4, Z.q1.at fun o e => kp _ o D.l1z D.l1i1 D.l1i2 e, Z.q2.at fun o e => kp _ o D.l2z D.l2i1 D.l2i2 e, .inr ⟨T, true, oT, a1, kp _ _ r1 r2 r3 hT, r1, r2, r3, r4⟩⟩ a5 a6 fun b o h1 _ h3 h4 g => kp b o h1 h3 h4 g
end
section
variable {prog : Program} {w : World} {A : Around} {E : Value → Shared → Prop} {s : Shared} {z TI TO i1 i2 l1 l2 : Addr} {xs ys : Array Value}
theorem call_list_zip {Q : Value → Shared → Prop} (hh : A.handled = none) (D : ZipApart z TI TO i1 i2 l1 l2) (hz : IsZip s.heap z TI TO .none) (hTI : IsPair s.heap TI (.ref i1) (.ref i2)) (hTO : ∃ a b, IsPair s.heap TO a b) (h1 : s.heap.IsListIter i1 l1 0) (h2 : s.heap.IsListIter i2 l2 0) (q1 : s.heap.IsList l1 xs) (q2 : s.heap.IsList l2 ys)
    (hs : xs.size = ys.size) (hsz : xs.size ≤ sizeLine)
    (q : ∀ h' ts c, h'.get? s.heap.objs.size = some (lstObj ts c) → ts.length = xs.size → ZAcc (s.heap.objs.size + 1) xs ys ts h' → (∀ b o, b ≠ z → b ≠ TO → b ≠ i1 → b ≠ i2 → s.heap.get? b = some o → h'.get? b = some o) → Q (.ref s.heap.objs.size) { s with heap := h' }) :
    wpAny (model prog w) A (call (.type "list") [.ref z]) Q E s := by
  refine callType_codes (Q₁ := fun obj s₁ => obj = .ref s.heap.objs.size ∧ s₁ = { s with heap := s.heap.push { cls := .type "list", data := .seq #[] } }) F.called_list (F.typeCall_list_1 _) F.entry_list_init
    (code_list_new _ ⟨rfl, rfl⟩) fun obj s₁ e => ?_
  obtain ⟨rfl, rfl⟩ := e
  have gS : (s.heap.push { cls := .type "list", data := .seq #[] }).get? s.heap.objs.size = some { cls := .type "list", data := .seq #[] } := Heap.get?_push_size _ rfl
  have up : ∀ b o, s.heap.get? b = some o → (s.heap.push { cls := .type "list", data := .seq #[] }).get? b = some o := fun b o e => Heap.get?_push_of_some _ e
  have sz1 : (s.heap.push { cls := .type "list", data := .seq #[] }).objs.size = s.heap.objs.size + 1 := Heap.size_push ..
  have lt : ∀ {c o}, s.heap.get? c = some o → c < s.heap.objs.size := fun e => Heap.lt_size e
  obtain ⟨tA, tB, hTO⟩ := hTO
  have li1 : i1 < s.heap.objs.size := let ⟨_, e, _⟩ := h1; lt e
  have li2 : i2 < s.heap.objs.size := let ⟨_, e, _⟩ := h2; lt e
  have ll1 : l1 < s.heap.objs.size := let ⟨_, e, _⟩ := q1; lt e
  have ll2 : l2 < s.heap.objs.size := let ⟨_, e, _⟩ := q2; lt e
  have lz := lt hz
  have lTI := lt hTI
  have lTO := lt hTO
  generalize eS : s.heap.objs.size = S at *
  generalize s.heap.push { cls := .type "list", data := .seq #[] } = hp at *
  have nS : S ≠ z ∧ S ≠ TI ∧ S ≠ TO ∧ S ≠ i1 ∧ S ≠ i2 ∧ S ≠ l1 ∧ S ≠ l2 := ⟨Nat.ne_of_gt lz, Nat.ne_of_gt lTI, Nat.ne_of_gt lTO, Nat.ne_of_gt li1, Nat.ne_of_gt li2, Nat.ne_of_gt ll1, Nat.ne_of_gt ll2⟩
  have Z0 : ZSt z TI TO i1 i2 l1 l2 S xs ys 0 hp := ⟨up _ _ hTI, h1.at fun o e => up _ o e, h2.at fun o e => up _ o e, q1.at fun o e => up _ o e, q2.at fun o e => up _ o e, .inl ⟨up _ _ hz, tA, tB, up _ _ hTO⟩⟩
  have lz1 : S < S + 1 ∧ z < S + 1 ∧ TO < S + 1 ∧ i1 < S + 1 ∧ i2 < S + 1 := ⟨Nat.lt_succ_self _, Nat.lt_succ_of_lt lz, Nat.lt_succ_of_lt lTO, Nat.lt_succ_of_lt li1, Nat.lt_succ_of_lt li2⟩
  refine ⟨⟨_, gS, rfl⟩, F.args_list_init_2 _ _, ?_⟩
  change wpAny _ A.in1.in1 (do let old ← Builtin.List.listItems (.ref S); Builtin.List.listUpdate (.ref S) (fun _ => #[]); letGo old.toList.reverse; Builtin.List.listExtendWith (.ref S) (.ref z) .none) _ _ _
  refine wpAny_bind ?_
  unfold Builtin.List.listItems
  refine wpAny_bind (wpAny_seqItems gS rfl (wpAny_pure ?_))
  change wpAny _ A.in1.in1 (updateSeq S (fun _ => #[]) >>= fun _ => letGo (#[] : Array Value).toList.reverse >>= fun _ => Builtin.List.listExtendWith (.ref S) (.ref z) .none) _ _ _
  refine wpAny_bind (wpAny_updateSeq gS rfl ?_)
  have ga := Heap.get?_update_self (Obj.mapSeq (fun _ => (#[] : Array Value))) gS rfl
  have ka : ∀ b o, b ≠ S → hp.get? b = some o → (hp.update S (Obj.mapSeq (fun _ => (#[] : Array Value)))).get? b = some o := fun b o nb e => (Heap.get?_update_other _ _ (Ne.symm nb)).trans e
  have sa : (hp.update S (Obj.mapSeq (fun _ => (#[] : Array Value)))).objs.size = hp.objs.size := by first | exact Heap.size_update .. | simp
  have Za := Z0.at nS ka
  dsimp only
  generalize hp.update S (Obj.mapSeq (fun _ => (#[] : Array Value))) = ha at *
  refine wpAny_bind (wpAny_letGo ?_)
  unfold Builtin.List.listExtendWith
  have ta : Shared.TypeIs { s with heap := ha } (.ref z) "zip" := ⟨_, ka _ _ nS.1.symm (up _ _ hz), rfl⟩
  refine wpAny_bind (wpAny_typeOf ta ?_)
  have e1 : Builtin.List.listSameRef (.ref S) (.ref z) = false := by simp [Builtin.List.listSameRef, nS.1]
  have e2 : (Value.type "zip" == Value.type "list") = false := by decide
  have e3 : (Value.type "zip" == Value.type "tuple") = false := by decide
  simp only [e1, e2, e3, Bool.or_false, Bool.false_eq_true, if_false]
  have hza : IsZip ha z TI TO .none := ka _ _ nS.1.symm (up _ _ hz)
  refine wpAny_bind (wpAny_pyIter_zip hza (wpAny_bind (wpAny_holding ?_)))
  unfold Builtin.List.listLengthHint
  refine wpAny_bind (wpAny_specialOf ta zip_len_none ?_)
  change wpAny _ _ (specialOf (Value.ref z) (Str.ofString "__length_hint__") >>= _) _ _ _
  refine wpAny_bind (wpAny_specialOf ta zip_hint_none ?_)
  refine wpAny_pure ?_
  change wpAny _ _ (rule "list.extend.makes-room" >>= fun _ => Builtin.List.listTouch (.ref S) >>= fun _ =>
    again (.builtin "list.extend.loop" ⟨[.ref S, .ref z, .none], []⟩)) _ _ _
  refine wpAny_bind (wpAny_rule ?_)
  refine wpAny_bind ?_
  change wpAny _ _ (updateSeq S (·.push .none) >>= fun _ => updateSeq S (·.pop)) _ _ _
  refine wpAny_bind (wpAny_updateSeq ga rfl ?_)
  have gb := Heap.get?_update_self (Obj.mapSeq (·.push Value.none)) ga rfl
  refine wpAny_updateSeq (hz := by seq_fits) gb rfl ?_
  have gc := Heap.get?_update_self (Obj.mapSeq (·.pop)) gb rfl
  have kc : ∀ b o, b ≠ S → ha.get? b = some o → ((ha.update S (Obj.mapSeq (·.push Value.none))).update S (Obj.mapSeq (·.pop))).get? b = some o := fun b o nb e => (Heap.get?_update_other _ _ (Ne.symm nb)).trans ((Heap.get?_update_other _ _ (Ne.symm nb)).trans e)
  have sc : ((ha.update S (Obj.mapSeq (·.push Value.none))).update S (Obj.mapSeq (·.pop))).objs.size = S + 1 := by rw [← sz1, ← sa]; first | rfl | simp [Heap.size_update]
  have Zc := Za.at nS kc
  dsimp only at gc ⊢
  generalize (ha.update S (Obj.mapSeq (·.push Value.none))).update S (Obj.mapSeq (·.pop)) = hc at *
  refine wpAny_pure ⟨plainId_quiet F.plain_extend_loop _, ext_zip (B := S + 1) (by simp [hh]) D nS lz1 hs hsz _ _ [] _ rfl (Nat.zero_le _) Zc gc ⟨List.nodup_nil, fun _ h => (nomatch h), fun j t e => (by simp at e)⟩ (by show S + 1 ≤ hc.objs.size; rw [sc]; exact Nat.le_refl _) fun h' ts c g l A k => ⟨rfl, q h' ts c g l A fun b o n1 n2 n3 n4 e => ?_⟩⟩
  have nb : b ≠ S := fun x => Nat.lt_irrefl _ (x ▸ lt e)
  exact k b o nb n1 n2 n3 n4 (kc b o nb (ka b o nb (up b o e)))
end
theorem refs_vals : ∀ ts : List Addr, Vals (ts.map V.ref) (ts.map Value.ref)
  | [] => .nil
  | t :: ts => .cons rfl (refs_vals ts)
def tListZip (K : PySem.W.Frag) (ta : TA) : TE := fun σ H Q => ta σ H fun vs H1 => ∃ (a b : Addr) (xs ys : List V), vs = [.ref a, .ref b] ∧ SqL K H1 a xs ∧ SqL K H1 b ys ∧ xs.length = ys.length ∧
  ∀ (H2 : Hp) (p : Addr) (ts : List Addr), Same H1 H2 → H1 p = none → H2 p = some (.lst (ts.map V.ref)) → ts.length = xs.length → (∀ (j : Nat) (t : Addr) (x y : V), ts[j]? = some t → xs[j]? = some x → ys[j]? = some y → H2 t = some (.tup [x, y])) → Q (.ref p) H2
theorem pe_listZip {X : Cx} {e e2 : Expr} {ta : TA} {p p2 q pos : Pos} (hc : X.calm = true) (hg : Gl X "list") (hm : X.mg "list" = none) (hg2 : Gl X "zip") (hm2 : X.mg "zip" = none) (ha : PA X [e, e2] ta)
    (hs : starEach [e, e2] X.env = (false, eval e X.env) :: starEach [e2] X.env := by rfl) (hpl : (backTo q (starEach [e2] X.env)).any (·.1) = false := by rfl) : PE X (.Call (.Name "list" p) [.Call (.Name "zip" p2) [e, e2] [] q] [] pos) (tListZip X.K ta) := by
  refine ⟨fun pins s σ H Q I h => ?_⟩
  refine Call_ (ld_blt I hg hm boot_list (PyProof.Rows.callWith_type1 (PyProof.Rows.args_cons (Call_ (ld_blt I hg2 hm2 boot_zip (PyProof.Rows.callWith_type1 (thn (ha.run q pins s σ H _ I h) fun us s1 ⟨vs, H1, I1, r1, q1⟩ => ?_) hs hpl))) rfl) rfl rfl))
  obtain ⟨a, b, xs, ys, ev, hx, hy, hl, q1⟩ := q1
  subst ev
  obtain ⟨v1, v2, rfl, e1, e2⟩ := vals2 r1
  obtain rfl : v1 = Value.ref a := e1
  obtain rfl : v2 = Value.ref b := e2
  obtain ⟨ix, rx, px, zx⟩ := I1.list hx
  obtain ⟨iy, ry, py, zy⟩ := I1.list hy
  have lx := L2.Vals.length rx
  have ly := L2.Vals.length ry
  refine call_zip_2 px.isList py.isList fun h5 hz hTI hTO h1 h2 hsz k5 => PyProof.Rows.args_nil ?_
  have D := PySem.W.ktu_apart s1.heap.objs.size a b px.lt py.lt
  have qx := px.isList.at fun o e => k5 _ o e
  have qy := py.isList.at fun o e => k5 _ o e
  refine call_list_zip (s := { s1 with heap := h5 }) (I1.ok.hd hc) D hz hTI ⟨_, _, hTO⟩ h1 h2 qx qy (by rw [List.size_toArray, List.size_toArray]; omega) (by rw [List.size_toArray, ← lx]; exact zx) fun h' ts c gl tl A kp => ?_
  dsimp only at gl kp A ⊢
  rw [List.size_toArray] at tl
  have old : ∀ b o, s1.heap.get? b = some o → h'.get? b = some o := fun b o e => by
    have lb := Heap.lt_size e
    exact kp b o (far2 lb (Nat.le_add_right _ _)).symm (far2 lb (Nat.le_add_right _ _)).symm (far2 lb (Nat.le_refl _)).symm (far2 lb (Nat.le_add_right _ _)).symm (k5 b o e)
  have I2 : Inv X pins σ H1 { s1 with heap := h', toks := s1.toks } := I1.kept old
  have lo : ∀ t ∈ ts, s1.heap.objs.size ≤ t := fun t ht => Nat.le_trans (by rw [hsz]; exact Nat.le_trans (Nat.le_add_right _ 5) (Nat.le_succ _)) (A.lo t ht)
  have two : ∀ (j : Nat) (t : Addr), ts[j]? = some t → ∃ x y u v, xs[j]? = some x ∧ ys[j]? = some y ∧ RelV x u ∧ RelV y v ∧ h'.get? t = some { cls := .type "tuple", data := .seq #[u, v] } := fun j t hj => by
    obtain ⟨u, v, hu, hv, g⟩ := A.at_ j t hj
    rw [List.getElem?_toArray] at hu hv
    have jx : j < xs.length := by rw [lx]; exact (List.getElem?_eq_some_iff.mp hu).1
    have jy : j < ys.length := by rw [ly]; exact (List.getElem?_eq_some_iff.mp hv).1
    obtain ⟨u', hu', ru⟩ := rx.get (List.getElem?_eq_getElem jx)
    obtain ⟨v', hv', rv⟩ := ry.get (List.getElem?_eq_getElem jy)
    rw [hu] at hu'
    rw [hv] at hv'
    cases hu'
    cases hv'
    exact ⟨_, _, u, v, List.getElem?_eq_getElem jx, List.getElem?_eq_getElem jy, ru, rv, g⟩
  have sl : s1.heap.objs.size ≤ h5.objs.size := by rw [hsz]; exact Nat.le_add_right _ _
  have nl : ∀ t ∈ ts, t ≠ h5.objs.size := fun t hm e => Nat.lt_irrefl _ (Nat.lt_of_lt_of_le (Nat.lt_succ_self _) (e ▸ A.lo _ hm))
  have nH := I1.hok.fresh sl
  have lz : ts.length ≤ sizeLine := by rw [tl, ← lx]; exact zx
  have I3 : Inv X pins σ (upd H1 h5.objs.size (.lst (ts.map V.ref))) { s1 with heap := h', toks := s1.toks } := I2.take (h' := h') (t' := s1.toks) (fun b ob _ e => e) (I1.fpOk sl nH) ⟨by rw [List.length_map]; exact lz, ts.map Value.ref, c, refs_vals ts, gl⟩
  obtain ⟨H2, I4, s2, tp⟩ := L2.DX.takeT (P := fun t vs => ∃ (j : Nat) (x y : V), ts[j]? = some t ∧ xs[j]? = some x ∧ ys[j]? = some y ∧ vs = [x, y]) I1 ts _ I3 A.nd fun t ht => by
    obtain ⟨j, hj⟩ := List.mem_iff_getElem?.mp ht
    obtain ⟨x, y, u, v, ex, ey, ru, rv, g⟩ := two j t hj
    refine ⟨lo t ht, (upd_ne (nl t ht)).trans (I1.hok.fresh (lo t ht)), [x, y], ⟨j, x, y, hj, ex, ey, rfl⟩, fun H2 => ?_⟩
    exact ⟨by rw [sizeLine_eq]; exact (by decide : 2 ≤ 16777216), [u, v], .cons ru (.cons rv .nil), _, g, rfl, 0, rfl⟩
  refine ⟨.ref h5.objs.size, _, I4, rfl, q1 _ _ ts (fun b o e => s2 _ _ (by rw [upd_ne (ne_of_none e nH)]; exact e)) nH (s2 _ _ upd_same) (by omega) fun j t x y hj ex ey => ?_⟩
  obtain ⟨vs, ⟨j', x', y', hj', ex', ey', rfl⟩, g⟩ := tp t (List.mem_of_getElem? hj)
  obtain ⟨hj1, hj2⟩ := List.getElem?_eq_some_iff.mp hj
  obtain ⟨hk1, hk2⟩ := List.getElem?_eq_some_iff.mp hj'
  have : j' = j := (List.getElem_inj A.nd).mp (hk2.trans hj2.symm)
  subst this
  rw [ex] at ex'
  rw [ey] at ey'
  cases ex'
  cases ey'
  exact g
end Fc
namespace Fc
open PySem L2 PyProof.Rows
def spLawOther (K : PySem.W.Frag) (C : Addr) : Sp := spLawMore K C
def rowSc : Scope := { kind := .function, names := [(".0", .local), ("_law_row", .local), ("tuple", .globalImplicit), ("_law_change", .cell)], isGenerator := false, isCoroutine := false }
abbrev rTupOf (K : PySem.W.Frag) : List V → Hp → VK → Prop := fun xs H Q => ∃ p ys, xs = [.ref p] ∧ ((SqL K H p ys ∧ ∀ l, H l = none → Q (.ref l) (upd H l (.tup ys))) ∨ (SqT K H p ys ∧ Q (.ref p) H))
abbrev teRow (K : PySem.W.Frag) : TE := tCB (rTupOf K) (tCons (tLc (iTup K (tVar 14)) (gName 12) tYes (tDGet2 (tVar 6) (tVar 12) (tVar 12)) [12]) tNil)
abbrev rIsiD (K : PySem.W.Frag) (w : World) : List V → Hp → VK → Prop := fun xs H Q => ∃ v d T, xs = [v, .ty T] ∧ DV K w H v d ∧ (T = "int" ∨ T = "bool" ∨ T = "str" ∨ T = "tuple" ∨ T = "dict" ∨ T = "list") ∧ Q (.bl (isTy d T)) H
/-- the text's method renamed -/
structure MRen (P : Program) (w : World) (K : PySem.W.Frag) (mg : Str → Option Value) (base : Heap) (C Co : Addr) : Prop where
  at_ : ∃ (f : Addr) (fd : FuncData) (ps : List Str), Meth K C "renamed" f ∧ FnOk P w K mg base (L2.CX P w) 5 f fd ps (spRename K w C Co) ∧ Binds K fd ps []
theorem merge_kv : ∀ (ns : List (Str × Str)) (acc : List (Str × Str)), ((acc ++ ns).map (·.1)).Nodup → mergeK (kvK acc) (kvK ns) = kvK (acc ++ ns)
  | [], acc, _ => by rw [List.append_nil]; rfl
  | e :: ns, acc, h => by
    have h1 : e.1 ∉ acc.map (·.1) := fun hm => by
      rw [List.map_append, List.map_cons, List.nodup_append] at h
      exact h.2.2 _ hm _ List.mem_cons_self rfl
    have e1 : valV (kvK acc) (.inr e.1) = none := by
      rw [← Option.not_isSome_iff_eq_none, valK_some]
      simpa using h1
    have e2 : putK (kvK acc) (.inr e.1) (V.str e.2) = kvK (acc ++ [e]) := by
      rw [putK_new _ e1]
      unfold kvK
      rw [List.map_append]
      rfl
    change mergeK (putK (kvK acc) (.inr e.1) (V.str e.2)) (kvK ns) = _
    rw [e2, merge_kv ns (acc ++ [e]) (by rw [List.append_assoc]; exact h), List.append_assoc]
    rfl
theorem merge_kv0 {ns : List (Str × Str)} (h : (ns.map (·.1)).Nodup) : mergeK [] (kvK ns) = kvK ns := merge_kv ns [] h
theorem paired_at2 {α β : Type} {p : α → β → Prop} : ∀ {l : List α} {m : List β}, l.length = m.length → (∀ (i : Nat) (a : α) (b : β), l[i]? = some a → m[i]? = some b → p a b) → Paired p l m
  | [], [], _, _ => .nil
  | a :: l, b :: m, h, q => .cons (q 0 a b rfl rfl) (paired_at2 (by simpa using h) fun i x y e1 e2 => q (i + 1) x y (by simpa using e1) (by simpa using e2))
  | [], _ :: _, h, _ => by simp at h
  | _ :: _, [], h, _ => by simp at h
theorem zip_at {so ws : List Str} {i : Nat} {e : Str × Str} (h : (so.zip ws)[i]? = some e) : so[i]? = some e.1 ∧ ws[i]? = some e.2 := by
  rw [List.getElem?_zip_eq_some] at h
  exact h
theorem PaNm.nm' {P : Pa} (h : PaNm P) (x : Str) (hx : x ∈ namesL P) : isNameS x = true ∧ x.length ≤ 1000 := h.nm x (words_mem.mpr hx)
theorem two {α : Type} {l : List α} (h : l.length = 2) : ∃ a b, l = [a, b] := by
  match l, h with
  | [a, b], _ => exact ⟨a, b, rfl⟩
theorem ren_nm {P : Pa} {ns : List (Str × Str)} (ok : PaOk P) (ro : RenOk P ns) : PaNm (renP ns P) := by
  have nm : ∀ x ∈ wordsL P, isNameS (ren ns x) = true ∧ (ren ns x).length ≤ 1000 := fun x hx => by
    unfold ren
    cases e : kindOf ns x with
    | none =>
      have h1 := ok.nm x (words_mem.mp hx)
      refine ⟨h1, ?_⟩
      change x.length ≤ 1000
      unfold isNameS at h1
      simp only [Bool.and_eq_true, decide_eq_true_iff] at h1
      omega
    | some y => exact ro.val (x, y) ((kind_find ns ro.nd x y).mp e)
  have na := ok.na
  have np := ok.np
  have nv := ok.nv
  refine ⟨by unfold renP; rw [List.length_map]; omega, by unfold renP; rw [List.length_map]; omega, by unfold renP; rw [List.length_map]; omega, fun x hx => ?_⟩
  obtain ⟨y, hy, rfl⟩ : ∃ y ∈ wordsL P, x = ren ns y := by
    unfold wordsL renP at hx
    simp only [List.mem_append, List.mem_flatMap, List.mem_map, List.mem_cons, List.not_mem_nil, or_false] at hx
    unfold wordsL
    simp only [List.mem_append, List.mem_flatMap, List.mem_cons, List.not_mem_nil, or_false]
    rcases hx with ⟨_, ⟨e, he, rfl⟩, rfl | rfl⟩ | ⟨y, hy, rfl⟩ | ⟨y, hy, rfl⟩
    · exact ⟨e.1, .inl ⟨e, he, .inl rfl⟩, rfl⟩
    · exact ⟨e.2, .inl ⟨e, he, .inr rfl⟩, rfl⟩
    · exact ⟨y, .inr (.inl hy), rfl⟩
    · exact ⟨y, .inr (.inr hy), rfl⟩
  exact nm y hy
theorem cutT {a b : TS} {D : Ends} {σ : L2.St} {H : Hp} (h : ∀ T, T = b → tSeq a T D σ H) : tSeq a b D σ H := h b rfl
def W6 : List Str := ["new", "old", "a", "i", "n", "x"]
theorem W6_nm : ∀ x ∈ W6, isNameS x = true ∧ x.length ≤ 1000 := by decide +kernel
abbrev if1_49 (K : PySem.W.Frag) (w : World) : TS := tIfS (tB (tCB (rIsiD K w) (tCons (tVar 10) (tCons (tC (V.ty "tuple")) tNil)))) (tAsg (tCB (rTupOf K) (tCons (tLc (iTup K (tVar 10)) (gName 15) tYes (tIf (tB (tCB (rIsiD K w) (tCons (tVar 15) (tCons (tC (V.ty "str")) tNil)))) (tDGet2 (tVar 6) (tVar 15) (tVar 15)) (tVar 15)) [15]) tNil)) (gName 11)) tNext
abbrev if2_49 (K : PySem.W.Frag) (w : World) (C T9 : Addr) : TS := tIfS (tAnd (tB (tVar 8)) (tTest (tOp rNe (tMeth C (Str.ofString "is_value_term") (spIsVal K w C) [V.ref T9] E0 (tVar 9) (tCons (tVar 11) tNil)) (tCal (spLawWo K w) (tCons (tVar 7) (tCons (tVar 11) (tCons (tTup tNil) tNil))))))) (tRet (tLst tNil)) tNext
abbrev tail49 (K : PySem.W.Frag) (w : World) (C T9 : Addr) : TS := tSeq (tPar 10 11 (tCons (tCal (spNear K w) (tCons (tVar 0) (tCons (tVar 2) (tCons (tTup tNil) tNil)))) (tCons (tCal (spNear K w) (tCons (tVar 0) (tCons (tVar 7) (tCons (tTup tNil) tNil)))) tNil)))
  (tSeq (if1_49 K w) (tSeq (if2_49 K w C T9) (tRet (tIf (tB (tVar 8)) (tLst (tCons (tVar 9) (tCons (tVar 7) tNil))) (tLst tNil)))))
def renD (ns : List (Str × Str)) (d : PyData) : PyData := match d with | .str x => .str (ren ns x) | d => d
theorem renD_fl (ns : List (Str × Str)) (d : PyData) (h : tupD d = true) : tupD (renD ns d) = true := by cases d <;> first | rfl | exact h
theorem renD_nos (ns : List (Str × Str)) (d : PyData) (h : isTy d "str" = false) : renD ns d = d := by cases d <;> first | rfl | (rw [isTy_strF] at h; cases h)
theorem tupDs_iff : ∀ ds : List PyData, tupDs ds = true ↔ ∀ d ∈ ds, tupD d = true
  | [] => ⟨fun _ d h => (by cases h), fun _ => rfl⟩
  | d :: ds => by
    have ih := tupDs_iff ds
    simp only [tupDs, Bool.and_eq_true, List.mem_cons, forall_eq_or_imp, ih]
theorem plainAll_back : ∀ {xs : List PyData}, PyData.plainAll xs = true → ∀ d ∈ xs, d.plain = true
  | [], _, _, h => nomatch h
  | x :: xs, h, d, hd => by
    simp only [PyData.plainAll, Bool.and_eq_true] at h
    rcases List.mem_cons.mp hd with rfl | hd
    · exact h.1
    · exact plainAll_back h.2 d hd
theorem renD_near {K : PySem.W.Frag} {w : World} {S G : Addr} {H : Hp} {P : Pa} {ns : List (Str × Str)} {t : Addr} {ys : List V} {ds : List PyData} (ro : RenOk P ns) (hs : SeqAt.shaped (.tuple ds) = true) (hp : PyData.plainAll ds = true) (hf : tupDs ds = true) (hl : ds.length ≤ 10)
    (h : SqT K H t ys) (hd : DpAll K H ys (ds.map (renD ns))) : NearD K w S G H (.ref t) (.tuple (ds.map (renD ns))) := by
  have hs2 : (PyData.canLayAll0 ds && decide (PyData.depthAll ds + 1 ≤ 64)) = true := hs
  simp only [Bool.and_eq_true, decide_eq_true_iff] at hs2
  obtain ⟨h1, h2⟩ := hs2
  have c1 := (canAll_iff ds).mp h1
  have c2 := plainAll_back hp
  have c3 := (tupDs_iff ds).mp hf
  have c4 := (depAll_iff (PyData.depthAll ds) ds).mp (Nat.le_refl _)
  have rn : ∀ d ∈ ds, PyData.canLay0 (renD ns d) = true ∧ (renD ns d).plain = true ∧ (renD ns d).depth ≤ PyData.depthAll ds := fun d hd => by
    have q1 := c1 d hd
    have q2 := c2 d hd
    have q4 := c4 d hd
    cases d with
    | str x =>
      refine ⟨?_, rfl, Nat.zero_le _⟩
      change PyData.strOk (ren ns x) = true
      unfold ren
      cases e : kindOf ns x with
      | none => exact q1
      | some y => exact name_ok (ro.val (x, y) ((kind_find ns ro.nd x y).mp e)).1
    | _ => exact ⟨q1, q2, q4⟩
  refine ⟨.inl ⟨.tup h hd, (tupDs_iff _).mpr fun d hd => ?_⟩, fun _ => ?_, fun ds' e => ?_⟩
  · obtain ⟨e, he, rfl⟩ := List.mem_map.mp hd
    exact renD_fl ns e (c3 e he)
  · change (PyData.canLayAll0 _ && decide (PyData.depthAll _ + 1 ≤ 64)) = true
    have g1 : PyData.canLayAll0 (ds.map (renD ns)) = true := (canAll_iff _).mpr fun d hd => by
      obtain ⟨e, he, rfl⟩ := List.mem_map.mp hd
      exact (rn e he).1
    have g2 : PyData.depthAll (ds.map (renD ns)) ≤ PyData.depthAll ds := (depAll_iff _ _).mpr fun d hd => by
      obtain ⟨e, he, rfl⟩ := List.mem_map.mp hd
      exact (rn e he).2.2
    rw [g1, decide_eq_true (by omega)]
    rfl
  · cases e
    exact ⟨plainAll_iff _ fun d hd => by
      obtain ⟨e, he, rfl⟩ := List.mem_map.mp hd
      exact (rn e he).2.1, by rw [List.length_map]; exact hl⟩
end Fc
namespace Fc
open PySem L2 PyProof.Rows
theorem isTy_tup {d : PyData} (h : isTy d "tuple" = true) : ∃ ds, d = .tuple ds := by cases d <;> first | exact ⟨_, rfl⟩ | (rw [isTy_tupF] at h; cases h)
theorem isTy_strX {d : PyData} (h : isTy d "str" = true) : ∃ x, d = .str x := by cases d <;> first | exact ⟨_, rfl⟩ | (rw [isTy_strF] at h; cases h)
theorem paired_strs {f : Nat → Str} {l : List Nat} {ys : List V} (h : Paired (fun k y => y = V.str (f k)) l ys) : ys = (l.map f).map V.str := by
  induction h with
  | nil => rfl
  | cons h _ ih => rw [h, ih]; rfl
section
variable {K : PySem.W.Frag} {mg : Str → Option Value} {base : Heap} {P : Program} {w : World}
theorem tail49_i {C T9 S G p r D M p' : Addr} {n : Int} {R : Pa} {ns : List (Str × Str)} {nx : L2.St → Hp → Prop} {Q : VK} {H : Hp} {z3 z4 z5 z10 z11 z12 z13 z14 z15 : Option V} (T : FrTxt K mg C) (t9 : ∀ H, SqT K H T9 []) (sk : SkAt H S G n) (nb : n + 200 < 2 ^ 60) (row : RowAt K H r R) (rowM : RowAt K H M (renP ns R)) (fr : FrAt K C H p' (renP ns R))
    (hd : H D = some (.dK (kvK ns))) (ro : RenOk R ns) (nM : M ≠ S ∧ M ≠ G)
    (q : ∀ H' L, ButSG S G H H' → SkAt H' S G (n + 20) → H' L = some (.lst [.ref p', .ref M]) → FrAt K C H' p' (renP ns R) → RowAt K H' M (renP ns R) → Q (.ref L) H') :
    tail49 K w C T9 { nx := nx, rt := Q } [some (.ref S), some (.ref p), some (.ref r), z3, z4, z5, some (.ref D), some (.ref M), some (.bl true), some (.ref p'), z10, z11, z12, z13, z14, z15] H := by
  have sl : sizeLine = 16777216 := sizeLine_eq
  refine ⟨_, rfl, _, rfl, Nat.zero_le _, fun o1 ho1 => ⟨S, G, n, r, R, o1, [], rfl, sk.same (same_new ho1), by omega, row.mono (same_new ho1), .inl (.inl upd_same), Nat.zero_le _, fun _ h => (nomatch h), fun v d H1 b1 k1 nd => ?_⟩⟩
  have c1 : ButSG S G H H1 := (ButSG.same (same_new (o := .tup []) ho1)).trans b1
  refine ⟨_, rfl, _, rfl, Nat.zero_le _, fun o2 ho2 => ⟨S, G, n + 10, M, renP ns R, o2, [], rfl, k1.same (same_new ho2), by omega, (rowM.but c1 sk).mono (same_new ho2), .inl (.inl upd_same), Nat.zero_le _, fun _ h => (nomatch h), fun v2 d2 H2 b2 k2 nd2 => ⟨_, _, rfl, ?_⟩⟩⟩
  have s2 : Same H1 (upd H1 o2 (.tup ([] : List V))) := same_new ho2
  have c2 : ButSG S G H H2 := (c1.trans (ButSG.same s2)).trans b2
  have nd1 := (nd.same s2).but b2 (k1.same s2)
  have row2 := rowM.but c2 sk
  have fr2 := fr.but c2 sk
  have hd2 := but_get c2 sk hd (fun _ e => by cases e)
  clear b1 b2 k1 nd s2 ho1 ho2 c1
  -- the other term
  apply joinI (P := fun vf H' => tSeq (if2_49 K w C T9) (tRet (tIf (tB (tVar 8)) (tLst (tCons (tVar 9) (tCons (tVar 7) tNil))) (tLst tNil))) { nx := nx, rt := Q } [some (.ref S), some (.ref p), some (.ref r), z3, z4, z5, some (.ref D), some (.ref M), some (.bl true), some (.ref p'), some v, some vf, z12, z13, z14, z15] H') (fun (vf : V) H' => Same H2 H' ∧ ∃ df, NearD K w S G H' vf df)
  · intro fin
    refine ⟨_, rfl, v, d, "tuple", rfl, nd1.dv, .inr (.inr (.inr (.inl rfl))), _, rfl, ?_⟩
    cases e : isTy d "tuple" with
    | false => exact iteF (fin v2 H2 ⟨Same.refl _, d2, nd2⟩)
    | true =>
      obtain ⟨ds, rfl⟩ := isTy_tup e
      have sh := nd1.sh e
      obtain ⟨pl, le⟩ := nd1.pl ds rfl
      obtain ⟨dp, fl⟩ : Dp K H2 v (.tuple ds) ∧ tupD (.tuple ds) = true := by
        rcases nd1.kind with h | ⟨_, _, _, _, e, _⟩ | ⟨_, _, e, _⟩
        · exact h
        · cases e
        · cases e
      obtain ⟨tv, xs, rfl, sq, da⟩ : ∃ tv xs, v = .ref tv ∧ SqT K H2 tv xs ∧ DpAll K H2 xs ds := by
        cases dp with
        | tup sa da => exact ⟨_, _, rfl, sa, da⟩
      have fl2 : tupDs ds = true := fl
      have flk : ∀ k, tupD (ds.getD k .none) = true := fun k => by
        by_cases c : k < ds.length
        · rw [getD_at c]; exact (tupDs_iff ds).mp fl2 _ (List.getElem_mem c)
        · rw [List.getD_eq_getElem?_getD, List.getElem?_eq_none (by omega)]; rfl
      have lx := dp_len da
      refine iteT ⟨_, rfl, tv, rfl, ⟨xs, sq⟩, fun D4 hD4 => ?_⟩
      refine lc_map (K := K) (fun H k y => Dp K H y (renD ns (ds.getD k .none))) (steady_tup (K := K) (a := tv) (xs := xs)) (fun _ _ k _ t h => dp_tups t _ _ (renD_fl ns _ (flk k)) h) (fun H' s' => Tups.same s' _ _ sq) (by omega) hD4 (fun k H' Q' hk s' q' => ?_) fun H3 ys s3 hys py => ?_
      · have hk2 : k < ds.length := by omega
        have dk := dp_mono s' _ _ (dp_at da hk2)
        generalize xs.getD k .non = x at *
        generalize ds.getD k .none = dd at *
        refine ⟨rfl, _, rfl, x, dd, "str", rfl, .inl dk, .inr (.inr (.inl rfl)), _, rfl, ?_⟩
        cases e2 : isTy dd "str" with
        | false =>
          rw [renD_nos ns dd e2] at q'
          exact iteF ⟨_, rfl, q' _ _ (Same.refl _) dk⟩
        | true =>
          obtain ⟨y, rfl⟩ := isTy_strX e2
          cases dk
          refine iteT ⟨_, rfl, D, rfl, .inl ⟨_, .inl (s' _ _ hd2)⟩, _, rfl, _, rfl, _, DGet.k (k := .inr y) (s' _ _ hd2), ?_⟩
          rw [ren_get]
          exact q' _ _ (Same.refl _) (.str _)
      · have dr : DpAll K H3 ys (ds.map (renD ns)) := by
          have h := dps_range py
          rw [range_map (l := ds) lx (h := renD ns) fun i hi => by rw [getD_at hi]] at h
          exact h
        refine ⟨D4, ys, rfl, .inl ⟨.inl (.inl hys), fun t ht => ?_⟩⟩
        exact fin (.ref t) _ ⟨s3.trans (same_new ht), _, renD_near ro sh pl fl2 le (.inl (.inl upd_same)) (dps_mono (same_new ht) _ _ dr)⟩
  rintro vf H3 ⟨s3, df, ndf⟩
  have fr3 := fr2.same s3
  have row3 := row2.mono s3
  have k3 := k2.same s3
  have c3 := c2.trans (ButSG.same s3)
  obtain ⟨ok, dx, fs, uA, uP, uV, aK, h1, h2, h3, h4, h5, h6, h7, h8, h9, h10⟩ := id fr3
  refine ⟨_, rfl, _, rfl, iteT ⟨_, rfl, p', dx, fs, rfl, h1, h6 _ (by decide +kernel), _, rfl, p', renP ns R, vf, df, T9, [], rfl, fr3, ndf.dv, ndf.sh, t9 _, ownOk_nil _, fun H4 s4 => ?_⟩⟩
  refine ⟨_, rfl, _, rfl, Nat.zero_le _, fun o5 ho5 => ⟨M, renP ns R, vf, df, o5, [], rfl, row3.mono (s4.trans (same_new ho5)), (ndf.same (s4.trans (same_new ho5))).dv, fun ds e => (ndf.pl ds e).1, .inl (.inl upd_same), Nat.zero_le _, fun H6 s6 => ⟨rfl, _, rfl, ?_⟩⟩⟩
  rw [decide_eq_true rfl]
  have s36 := (s4.trans (same_new (o := .tup []) ho5)).trans s6
  refine iteF ⟨_, rfl, _, rfl, iteT ⟨_, rfl, _, rfl, by rw [sl]; exact (by decide : 2 ≤ 16777216), fun L hL => ?_⟩⟩
  have s7 := s36.trans (same_new (o := .lst [V.ref p', .ref M]) hL)
  exact q _ L (c3.trans (ButSG.same s7)) ((k3.same s7).le (by omega)) upd_same (fr3.same s7) (row3.mono s7)
end
end Fc
namespace Fc
open PySem L2 PyProof.Rows
section
variable {K : PySem.W.Frag} {mg : Str → Option Value} {base : Heap} {P : Program} {w : World}
abbrev n49 : List Str := ["_law_skein_here", "_law_frame_here", "_law_parts_here", "_law_names", "_law_some", "_law_fresh", "_law_change", "_law_due", "_law_is_let_here", "_law_found", "_law_term", "_law_far", "_law_name", "_law_length", "_law_row", "_law_one"]
theorem sc49 : FnScope n49 ["_law_skein_here", "_law_frame_here", "_law_parts_here"] (defScope (topS 49)) := ⟨rfl, rfl, rfl, by decide +kernel, rfl, by decide +kernel, by decide +kernel⟩
theorem ok49 {f C Co : Addr} {fd : FuncData} (F : Fun K "_law_other" "_law_other" (topS 49) f fd) (B : Blt mg) (T : FrTxt K mg C) (O : OwnX K mg "InvalidOperation" Co) (M : MRen P w K mg base C Co) (M9 : MJud P w K mg base 5 C "is_value_term" (spIsVal K w C))
    (c34 : Cal P w K mg base 1 "_law_pull" (spPull K)) (c35 : Cal P w K mg base 2 "_law_one_of" (spOne K)) (c36 : Cal P w K mg base 2 "_law_few_of" (spFew K)) (c40 : Cal P w K mg base 2 "_law_all_of" (spLawAll K))
    (c43 : Cal P w K mg base 3 "_law_is_worth" (spLawWo K w)) (c44 : Cal P w K mg base 3 "_law_term_near" (spNear K w)) : FnOk P w K mg base CX0 6 f fd ["_law_skein_here", "_law_frame_here", "_law_parts_here"] (spLawOther K C) := by
  refine F.ok sc49 (fun vs H Q E h => ?_) (fun cdv A outer s H vs Q E hr h => ?_)
  · obtain ⟨S, G, n, p, r, P, rfl, _⟩ := h
    rfl
  · have hu := hu70 hr
    obtain ⟨f9, fd9, g9, T9, ds9, m9, F9, kb9, v9, b9, t9⟩ := M9.at_
    obtain ⟨fR, fdR, psR, mR, FR, bR⟩ := M.at_
    refine ⟨_, (pss_cons (ps_set (i := 3) sc49.nd rfl (Or.inl rfl) (pe_c c40 hr (by decide) (by rfl) (pa_cons (pv 2) pa_nil))) (pss_cons (ps_set (i := 4) sc49.nd rfl (Or.inl rfl) (pe_c c36 hr (by decide) (by rfl) (pa_cons (pv 0) (pa_cons (pv 3) (pa_cons (pe_c c34 hr (by decide) (by rfl) (pa_cons (pv 0) (pa_cons pe_int pa_nil))) pa_nil))))) (pss_cons (ps_set (i := 5) sc49.nd rfl (Or.inl rfl) (pe_c c36 hr (by decide) (by rfl) (pa_cons (pv 0) (pa_cons (pe_lst (pa_cons pe_str (pa_cons pe_str (pa_cons pe_str (pa_cons pe_str (pa_cons pe_str (pa_cons pe_str pa_nil))))))) (pa_cons (pe_callB call_len_seq (by rfl) B.len boot_len (pa_cons (pv 4) pa_nil)) pa_nil))))) (pss_cons (ps_set (i := 5) sc49.nd rfl (Or.inl rfl) (pe_c c35 hr (by decide) (by rfl) (pa_cons (pv 0) (pa_cons (pe_lst (pa_cons (pe_c c36 hr (by decide) (by rfl) (pa_cons (pv 0) (pa_cons (pv 4) (pa_cons pe_int pa_nil)))) (pa_cons (pv 5) pa_nil))) pa_nil)))) (pss_cons (ps_set (i := 6) sc49.nd rfl (Or.inr rfl) (pe_callTy (call_dictP rfl) (by rfl) B.dict boot_dict (pa_cons (pe_listZip rfl (by rfl) B.list (by rfl) B.zip (pa_cons (pv 4) (pa_cons (pv 5) pa_nil))) pa_nil))) (pss_cons (ps_set (i := 7) sc49.nd rfl (Or.inl rfl) (pe_lst (pa_cons (pe_callTy call_tuple_of (by rfl) B.tuple boot_tuple (pa_cons (pe_lc (own := [("_law_name", 12), ("_law_length", 13)]) (g := gTup K 2 (gCons (gName 12) (gCons (gName 13) gNil))) (by rfl) sc49.nd (pi_tup (pe_ix ix_list (pv 2) pe_int (fun _ _ => rfl))) (blkOk_by (N := n49) (sc := defScope (topS 49)) (by decide +kernel)) (fun _ _ _ _ _ => (pg_tup rfl (pgs_cons (pg_name (i := 12) sc49.nd rfl (Or.inl rfl)) (pgs_cons (pg_name (i := 13) sc49.nd rfl (Or.inl rfl)) pgs_nil)))) (fun _ _ _ _ _ => pts_nil) (fun _ _ _ _ _ => (pe_tup (pa_cons (pe_dget2 (hu1 hu) (pv 6) (pv 12) (pv 12) ⟨rfl, rfl, rfl, rfl⟩) (pa_cons (pe_dget2 (hu1 hu) (pv 6) (pv 13) (pv 13) ⟨rfl, rfl, rfl, rfl⟩) pa_nil))))) pa_nil)) pa_nil))) (pss_cons (ps_set (i := 7) sc49.nd rfl (Or.inl rfl) (pe_op op_cat (pv 7) (pe_lc (te := teRow K) (own := [("_law_row", 14)]) (g := gName 14) (by rfl) sc49.nd (pi_list (pe_slice sl_list (pv 2) (po_some pe_int) po_none)) (blkOk_by (N := n49) (sc := defScope (topS 49)) (by decide +kernel)) (fun _ _ _ _ _ => (pg_name (i := 14) sc49.nd rfl (Or.inl rfl))) (fun _ _ _ _ _ => pts_nil) (fun _ _ _ _ _ => (pe_callTy (r := rTupOf K) call_tuple_of (by rfl) B.tuple boot_tuple (pa_cons (pe_lc (own := [("_law_name", 12)]) (g := gName 12) (by rfl) sc49.nd (pi_tup (by exact (pv 14))) (blkOk_by (N := n49) (sc := rowSc) (by decide +kernel)) (fun _ _ _ _ _ => (pg_name (i := 12) sc49.nd rfl (Or.inl rfl))) (fun _ _ _ _ _ => pts_nil) (fun _ _ _ _ _ => (pe_dget2 (hu1 hu) (pv 6) (pv 12) (pv 12) ⟨rfl, rfl, rfl, rfl⟩))) pa_nil)))))) (pss_cons (ps_set (i := 8) sc49.nd rfl (Or.inl rfl) (pe_cmpR op_eq (pe_callB call_lenS (by rfl) B.len boot_len (pa_cons (pe_callTy (call_setT rfl) (by rfl) B.set boot_set (pa_cons (pe_lc (own := [("_law_name", 12)]) (g := gName 12) (by rfl) sc49.nd (pi_list (pv 3)) (blkOk_by (N := n49) (sc := defScope (topS 49)) (by decide +kernel)) (fun _ _ _ _ _ => (pg_name (i := 12) sc49.nd rfl (Or.inl rfl))) (fun _ _ _ _ _ => pts_nil) (fun _ _ _ _ _ => (pe_dget2 (hu1 hu) (pv 6) (pv 12) (pv 12) ⟨rfl, rfl, rfl, rfl⟩))) pa_nil)) pa_nil)) (pe_callB call_len_seq (by rfl) B.len boot_len (pa_cons (pv 3) pa_nil)) (nomark _))) (pss_cons (ps_try_only (tb := fun W => tAsg (tMethE C "renamed" (spRename K w C Co) (WE W) (tVar 1) (tCons (tVar 6) tNil)) (gName 9)) (ts := fun _ _ _ => tRet (tIf (tTest (tVar 8)) (tLst tNil) (tLst (tCons (tVar 1) (tCons (tVar 2) tNil))))) (Wout := fun _ _ _ _ => False) rfl rfl ⟨rfl, by decide, Or.inl O.g⟩ takes0 (fun W pn xe tk _ => pss_one (ps_set (i := 9) sc49.nd rfl (Or.inl rfl) (pe_methE (pv 1) T.cl mR FR hr bR (fun σ => passAt tk σ) (pa_cons (pv 6) pa_nil)))) (fun _ _ _ _ _ _ _ => pss_one (ps_ret (pe_ifExp (pt_val (pv 8)) (pe_lst pa_nil) (pe_lst (pa_cons (pv 1) (pa_cons (pv 2) pa_nil))))))) (pss_cons (ps_par (i := 10) (j := 11) rfl sc49.nd rfl rfl (by decide) rfl rfl (pa_cons (pe_c c44 hr (by decide) (by rfl) (pa_cons (pv 0) (pa_cons (pv 2) (pa_cons (pe_tup pa_nil) pa_nil)))) (pa_cons (pe_c c44 hr (by decide) (by rfl) (pa_cons (pv 0) (pa_cons (pv 7) (pa_cons (pe_tup pa_nil) pa_nil)))) pa_nil)) (by rfl)) (pss_cons (ps_if (pt_val (pe_callB call_isiD (by rfl) B.isinstance boot_isinstance (pa_cons (pv 10) (pa_cons (pe_bltn (v := .ty "tuple") (by rfl) B.tuple boot_tuple rfl) pa_nil)))) (pss_one (ps_set (i := 11) sc49.nd rfl (Or.inl rfl) (pe_callTy call_tuple_of (by rfl) B.tuple boot_tuple (pa_cons (pe_lc (own := [("_law_one", 15)]) (g := gName 15) (by rfl) sc49.nd (pi_tup (pv 10)) (blkOk_by (N := n49) (sc := defScope (topS 49)) (by decide +kernel)) (fun _ _ _ _ _ => (pg_name (i := 15) sc49.nd rfl (Or.inl rfl))) (fun _ _ _ _ _ => pts_nil) (fun _ _ _ _ _ => (pe_ifExp (pt_val (pe_callB (r := rIsiD K w) call_isiD (by rfl) B.isinstance boot_isinstance (pa_cons (pv 15) (pa_cons (pe_bltn (v := .ty "str") (by rfl) B.str boot_str rfl) pa_nil)))) (pe_dget2 (hu1 hu) (pv 6) (pv 15) (pv 15) ⟨rfl, rfl, rfl, rfl⟩) (pv 15)))) pa_nil)))) pss_nil) (pss_cons (ps_if (pw_and (pt_val (pv 8)) (pw_and1 (pt_cmpR op_ne (pe_meth (pv 9) T.cl m9 F9 hr b9 v9 pass0 (pa_cons (pv 11) pa_nil)) (pe_c c43 hr (by decide) (by rfl) (pa_cons (pv 7) (pa_cons (pv 11) (pa_cons (pe_tup pa_nil) pa_nil)))) (nomark _)))).pt (pss_one (ps_ret (pe_lst pa_nil))) pss_nil) (pss_one (ps_ret (pe_ifExp (pt_val (pv 8)) (pe_lst (pa_cons (pv 9) (pa_cons (pv 7) pa_nil))) (pe_lst pa_nil)))))))))))))))), ?_⟩
    obtain ⟨S, G, n, p, r, R, rfl, sk, nb, fr, row, q⟩ := h
    have sl : sizeLine = 16777216 := sizeLine_eq
    have okR := fr.ok
    have nm38 : (namesL R).length ≤ 38 := by
      have h1 := okR.na
      have h2 := okR.np
      have h3 := okR.nv
      have h4 := lensOf_len R.arrays
      unfold namesL
      simp only [List.length_append, List.length_map]
      omega
    refine ⟨_, rfl, r, R, rfl, row, fun H1 L1 s1 hL1 nL1 => ?_⟩
    have sk1 := sk.same s1
    have n1 := sk.new nL1
    refine ⟨_, rfl, _, rfl, _, rfl, S, G, n, 4, rfl, sk1, by omega, by decide, by decide, fun kz H2 k0 k1 b2 sk2 => ?_⟩
    obtain ⟨kn, rfl⟩ := Int.eq_ofNat_of_zero_le k0
    refine ⟨S, G, n + 1, L1, (namesL R).map V.str, kn, rfl, sk2, by omega, .inl (.inl (b2 _ _ n1.1 n1.2 hL1)), n1.1, n1.2, by rw [List.length_map]; omega, fun H3 F3 ys zs b3 sk3 nF3 hF3 ly pm => ?_⟩
    obtain ⟨so, rfl⟩ : ∃ so : List Str, ys = so.map V.str := texts_back fun y hy => by
      obtain ⟨x, _, e⟩ := List.mem_map.mp (pm.mem_iff.mpr (List.mem_append_left _ hy))
      exact ⟨x, e.symm⟩
    have soin : ∀ x ∈ so, x ∈ namesL R := fun x hx => by
      obtain ⟨y, hy, e⟩ := List.mem_map.mp (pm.mem_iff.mpr (List.mem_append_left zs (List.mem_map.mpr ⟨x, hx, rfl⟩)))
      rw [← V.str.inj e]
      exact hy
    have sond : so.Nodup := by
      have nd : ((namesL R).map V.str).Nodup := List.pairwise_map.mpr (okR.nd.imp fun h e => h (V.str.inj e))
      have nd2 : (so.map V.str).Nodup := (List.nodup_append.mp (pm.nodup_iff.mp nd)).1
      exact (List.pairwise_map.mp nd2).imp fun h e => h (by rw [e])
    have sol : so.length ≤ 3 := by rw [List.length_map, List.length_map] at ly; omega
    have bt3 := ((ButSG.same (S := S) (G := G) s1).trans b2).trans b3
    have hL3 := b3 _ _ n1.1 n1.2 (b2 _ _ n1.1 n1.2 hL1)
    have nF3S : F3 ≠ S ∧ F3 ≠ G := sk2.new nF3
    have row3 := row.but bt3 sk
    have fr3 := fr.but bt3 sk
    clear pm ly b2 b3 sk1 sk2 s1 hL1
    -- other names for them
    refine ⟨_, rfl, by rw [sl]; exact (by decide : 6 ≤ 16777216), fun A4 hA4 => ⟨_, rfl, F3, so.map V.str, rfl, .inl (.inl (.inl (same_new hA4 _ _ hF3))), ?_⟩⟩
    have s4 := same_new (o := .lst (W6.map V.str)) hA4
    have n4 := sk3.new hA4
    have sk4 := sk3.same s4
    refine ⟨S, G, n + 1 + 60, A4, W6.map V.str, (so.map V.str).length, rfl, sk4, by omega, .inl (.inl upd_same), n4.1, n4.2, by decide, fun H5 F5 ys5 zs5 b5 sk5 nF5 hF5 ly5 pm5 => ?_⟩
    obtain ⟨w5, rfl⟩ : ∃ w5 : List Str, ys5 = w5.map V.str := texts_back fun y hy => by
      obtain ⟨x, _, e⟩ := List.mem_map.mp (pm5.mem_iff.mpr (List.mem_append_left _ hy))
      exact ⟨x, e.symm⟩
    have w5in : ∀ x ∈ w5, isNameS x = true ∧ x.length ≤ 1000 := fun x hx => by
      obtain ⟨y, hy, e⟩ := List.mem_map.mp (pm5.mem_iff.mpr (List.mem_append_left zs5 (List.mem_map.mpr ⟨x, hx, rfl⟩)))
      rw [← V.str.inj e]
      exact W6_nm y hy
    have w5l : w5.length = so.length := by
      rw [List.length_map, List.length_map, List.length_map] at ly5
      have : W6.length = 6 := rfl
      omega
    have bt5 := (bt3.trans (ButSG.same s4)).trans b5
    have hF35 := b5 _ _ nF3S.1 nF3S.2 (s4 _ _ hF3)
    have hL5 := b5 _ _ n1.1 n1.2 (s4 _ _ hL3)
    have nF5S : F5 ≠ S ∧ F5 ≠ G := sk4.new nF5
    clear pm5 ly5 b5 sk4 s4 hA4 n4
    -- one of two such lists
    refine ⟨_, rfl, _, rfl, _, rfl, S, G, n + 1 + 60 + 60, F3, so.map V.str, 9, rfl, sk5, by omega, .inl (.inl hF35), nF3S.1, nF3S.2, by rw [List.length_map]; omega, fun H6 F6 ys6 zs6 b6 sk6 nF6 hF6 ly6 pm6 => ⟨_, rfl, by rw [sl]; exact (by decide : 2 ≤ 16777216), fun A7 hA7 => ?_⟩⟩
    obtain ⟨w6, rfl⟩ : ∃ w6 : List Str, ys6 = w6.map V.str := texts_back fun y hy => by
      obtain ⟨x, _, e⟩ := List.mem_map.mp (pm6.mem_iff.mpr (List.mem_append_left _ hy))
      exact ⟨x, e.symm⟩
    have w6in : ∀ x ∈ w6, isNameS x = true ∧ x.length ≤ 1000 := fun x hx => by
      obtain ⟨y, hy, e⟩ := List.mem_map.mp (pm6.mem_iff.mpr (List.mem_append_left zs6 (List.mem_map.mpr ⟨x, hx, rfl⟩)))
      rw [← V.str.inj e]
      exact row.nm.nm' y (soin y hy)
    have w6l : w6.length = so.length := by
      rw [List.length_map, List.length_map] at ly6
      omega
    have nF6S : F6 ≠ S ∧ F6 ≠ G := sk5.new nF6
    have s7 := same_new (o := .lst [V.ref F6, V.ref F5]) hA7
    have n7 := sk6.new hA7
    have sk7 := sk6.same s7
    refine ⟨S, G, n + 1 + 60 + 60 + 60, A7, [V.ref F6, V.ref F5], rfl, sk7, by omega, .inl (.inl upd_same), n7.1, n7.2, by simp, by simp, fun v8 H8 hv8 b8 sk8 => ?_⟩
    obtain ⟨Fx, ws, rfl, hFx, nFx, wsl, wsin⟩ : ∃ (Fx : Addr) (ws : List Str), v8 = .ref Fx ∧ H8 Fx = some (.lst (ws.map V.str)) ∧ (Fx ≠ S ∧ Fx ≠ G) ∧ ws.length = so.length ∧ ∀ x ∈ ws, isNameS x = true ∧ x.length ≤ 1000 := by
      simp only [List.mem_cons, List.not_mem_nil, or_false] at hv8
      rcases hv8 with rfl | rfl
      · exact ⟨F6, w6, rfl, b8 _ _ nF6S.1 nF6S.2 (s7 _ _ hF6), nF6S, w6l, w6in⟩
      · exact ⟨F5, w5, rfl, b8 _ _ nF5S.1 nF5S.2 (s7 _ _ (b6 _ _ nF5S.1 nF5S.2 hF5)), nF5S, w5l, w5in⟩
    have bt8 := ((bt5.trans b6).trans (ButSG.same s7)).trans b8
    have hF38 := b8 _ _ nF3S.1 nF3S.2 (s7 _ _ (b6 _ _ nF3S.1 nF3S.2 hF35))
    have hL8 := b8 _ _ n1.1 n1.2 (s7 _ _ (b6 _ _ n1.1 n1.2 hL5))
    have row8 := row.but bt8 sk
    have fr8 := fr.but bt8 sk
    clear pm6 ly6 b6 b8 sk5 sk6 sk7 s7 hA7 n7 hF6 nF6S hF5 nF5S w5in w6in w5l w6l hF35 hL5 hv8 hF3 hL3 sk3 bt5 bt3 row3 fr3 nF3 nF5 nF6
    -- the dict
    refine ⟨_, rfl, _, rfl, F3, Fx, so.map V.str, ws.map V.str, rfl, .inl (.inl hF38), .inl (.inl hFx), by rw [List.length_map, List.length_map]; omega, fun H9 p9 ts s9 n9 hp9 lt9 at9 => ?_⟩
    have zl : (so.zip ws).length = so.length := by rw [List.length_zip]; omega
    have zk : (so.zip ws).map (·.1) = so := List.map_fst_zip (by omega)
    have ro : RenOk R (so.zip ws) := by
      refine ⟨by omega, by rw [zk]; exact sond, fun e he => soin _ (by rw [← zk]; exact List.mem_map.mpr ⟨e, he, rfl⟩), fun e he => wsin _ ?_⟩
      exact (List.of_mem_zip he).2
    refine ⟨p9, ts, kvK (so.zip ws), rfl, .inl (.inl hp9), paired_at2 (by rw [lt9, List.length_map]; unfold kvK; rw [List.length_map]; omega) (fun i a b ha hb => ?_), fun D hD => ?_⟩
    · unfold kvK at hb
      rw [List.getElem?_map, Option.map_eq_some_iff] at hb
      obtain ⟨e, he, rfl⟩ := hb
      obtain ⟨e1, e2⟩ := zip_at he
      exact .inl (.inl (at9 i a (.str e.1) (.str e.2) ha (by rw [List.getElem?_map, e1]; rfl) (by rw [List.getElem?_map, e2]; rfl)))
    rw [merge_kv0 ro.nd]
    have sD := s9.trans (same_new (o := .dK (kvK (so.zip ws))) hD)
    have hd : (upd H9 D (.dK (kvK (so.zip ws)))) D = some (.dK (kvK (so.zip ws))) := upd_same
    have nDH : H8 D = none := Same.none_of s9 hD
    generalize upd H9 D (.dK (kvK (so.zip ws))) = H10 at *
    generalize so.zip ws = ns at *
    have skD := sk8.same sD
    have hLD := sD _ _ hL8
    clear at9 lt9 hp9 n9 s9 hF38 hFx nFx wsl wsin zk zl hD
    -- the parts with other names: the arrays
    have row10 := row8.mono sD
    obtain ⟨⟨tA, tP, tV, h1, h2, h3, h4⟩, nmR⟩ := id row10
    have na := nmR.na
    have np := nmR.np
    have nv := nmR.nv
    have h2' := h2
    unfold dA at h2'
    cases h2' with
    | @tup _ xs _ sa da =>
    have lx : xs.length = R.arrays.length := (dp_len da).trans (List.length_map _)
    refine gn_i (i := 6) ?_
    dsimp only
    refine cutT fun T1 eT1 => ?_
    refine ⟨_, rfl, r, _, 0, _, rfl, rfl, .inl (.inl h1), atI_nat (j := 0) rfl, tA, rfl, ⟨xs, sa⟩, fun D1 hD1 => ?_⟩
    refine lc_map (K := K) (fun H k y => Dp K H y (.tuple [.str (ren ns (R.arrays.getD k e0).1), .str (ren ns (R.arrays.getD k e0).2)])) (steady_tup (K := K) (a := tA) (xs := xs)) (fun _ _ _ _ t h => dp_tups t _ _ rfl h) (fun H' s' => Tups.same s' _ _ sa) (by omega) hD1 (fun k H' Q' hk s' q' => ?_) fun H11 ys s11 hys py => ?_
    · have hk2 : k < R.arrays.length := by omega
      obtain ⟨u, eu, su⟩ := dA_at da hk2
      have dg : ∀ x : Str, DGet H' D (.str x) (valV (kvK ns) (.inr x)) := fun x => DGet.k (k := .inr x) (s' _ _ hd)
      refine ⟨u, _, eu, Tups.same s' _ _ su, rfl, _, _, rfl, _, _, rfl, rfl, rfl, ?_⟩
      refine ⟨_, rfl, D, rfl, .inl ⟨_, .inl (s' _ _ hd)⟩, _, rfl, _, rfl, _, dg _, ?_⟩
      refine ⟨_, rfl, D, rfl, .inl ⟨_, .inl (s' _ _ hd)⟩, _, rfl, _, rfl, _, dg _, by rw [sl]; exact (by decide : (2 : Nat) ≤ 16777216), fun t ht => ?_⟩
      have st := same_new (o := .tup [(valV (kvK ns) (.inr (R.arrays[k]).1)).getD (.str (R.arrays[k]).1), (valV (kvK ns) (.inr (R.arrays[k]).2)).getD (.str (R.arrays[k]).2)]) ht
      refine q' _ _ st (.tup (.inl (.inl upd_same)) ?_)
      rw [ren_get, ren_get, getD_at hk2]
      exact .cons (.str _) (.cons (.str _) .nil)
    have dA2 : DpAll K H11 ys ((R.arrays.map fun e => (ren ns e.1, ren ns e.2)).map fun e => PyData.tuple [.str e.1, .str e.2]) := by
      have h := dps_range py
      rw [range_map (l := R.arrays) lx (h := fun e => PyData.tuple [.str (ren ns e.1), .str (ren ns e.2)]) fun i hi => by rw [getD_at hi]] at h
      rw [List.map_map]
      exact h
    refine ⟨D1, ys, rfl, .inl ⟨.inl (.inl hys), fun t1 ht1 => ⟨by rw [sl]; exact (by decide : (1 : Nat) ≤ 16777216), fun L7 hL7 => ?_⟩⟩⟩
    have u1 := same_new (o := .tup ys) ht1
    have u2 := same_new (o := .lst [V.ref t1]) hL7
    have eA : Dp K (upd (upd H11 t1 (.tup ys)) L7 (.lst [.ref t1])) (.ref t1) (dA (renP ns R).arrays) := dp_mono u2 _ _ (.tup (.inl (.inl upd_same)) (dps_mono u1 _ _ dA2))
    have hL7' : (upd (upd H11 t1 (.tup ys)) L7 (.lst [.ref t1])) L7 = some (.lst [V.ref t1]) := upd_same
    have s12 := (s11.trans u1).trans u2
    generalize upd (upd H11 t1 (.tup ys)) L7 (.lst [V.ref t1]) = H12 at *
    clear dA2 py hys ht1 hL7 u1 u2 s11 hD1
    refine gn_i (i := 7) ?_
    dsimp only
    subst eT1
    refine cutT fun T2 eT2 => ?_
    -- the positions, the values
    have sP := tup_dS h3
    have sV := tup_dS h4
    refine ⟨_, rfl, _, rfl, 1, rfl, r, _, rfl, .inl (.inl (s12 _ _ h1)), fun L8 hL8 => ?_⟩
    have s13 := s12.trans (same_new (o := .lst [V.ref tP, V.ref tV]) hL8)
    have hL8' : (upd H12 L8 (.lst [V.ref tP, V.ref tV])) L8 = some (.lst [V.ref tP, V.ref tV]) := upd_same
    have eA13 := dp_mono (same_new (o := .lst [V.ref tP, V.ref tV]) hL8) _ _ eA
    have hL13 := (same_new (o := .lst [V.ref tP, V.ref tV]) hL8) _ _ hL7'
    refine ⟨L8, rfl, ⟨_, .inl (.inl hL8')⟩, fun D2 hD2 => ?_⟩
    refine lc_map (K := K) (fun H k y => ∃ t : Addr, y = .ref t ∧ Dp K H (.ref t) (dS ((if k = 0 then R.pos else R.vals).map (ren ns)))) (steady_list (K := K) (a := L8) (xs := [V.ref tP, .ref tV])) (fun _ _ _ _ t ⟨u, e, h⟩ => ⟨u, e, dp_tups t _ _ (tupD_dS _) h⟩) (fun H' s' => .inl (.inl (s' _ _ hL8'))) (by simp) hD2 (fun k H' Q' hk s' q' => ?_) fun H14 ys2 s14 hys2 py2 => ?_
    · obtain ⟨t, l, ev, sq, el, ll⟩ : ∃ (t : Addr) (l : List Str), [V.ref tP, .ref tV].getD k .non = .ref t ∧ SqT K H' t (l.map V.str) ∧ (if k = 0 then R.pos else R.vals) = l ∧ l.length ≤ 60 := by
        have : k = 0 ∨ k = 1 := by have hk : k < 2 := hk; omega
        rcases this with rfl | rfl
        · exact ⟨tP, R.pos, rfl, Tups.same (s13.trans s') _ _ sP, rfl, np⟩
        · exact ⟨tV, R.vals, rfl, Tups.same (s13.trans s') _ _ sV, rfl, nv⟩
      rw [ev]
      rw [el] at q'
      refine ⟨rfl, _, rfl, t, rfl, ⟨_, sq⟩, fun D3 hD3 => ?_⟩
      refine lc_map (K := K) (fun H j y => Dp K H y (.str (ren ns (l.getD j Str.empty)))) (steady_tup (K := K) (a := t) (xs := l.map V.str)) (fun _ _ _ _ t h => dp_tups t _ _ rfl h) (fun H'' s'' => Tups.same s'' _ _ sq) (by rw [List.length_map]; omega) hD3 (fun j H'' Q'' hj s'' q'' => ?_) fun H15 zs s15 hzs pz => ?_
      · have hj2 : j < l.length := by rw [List.length_map] at hj; exact hj
        rw [strs_getD _ hj2]
        refine ⟨rfl, _, rfl, D, rfl, .inl ⟨_, .inl (s'' _ _ (s' _ _ (s13 _ _ hd)))⟩, _, rfl, _, rfl, _, DGet.k (k := .inr l[j]) (s'' _ _ (s' _ _ (s13 _ _ hd))), ?_⟩
        refine q'' _ _ (Same.refl _) ?_
        rw [ren_get, getD_at hj2]
        exact .str _
      · have dP : DpAll K H15 zs ((l.map (ren ns)).map PyData.str) := by
          have h := dps_range pz
          rw [range_map (l := l) (List.length_map _) (h := fun x => PyData.str (ren ns x)) fun i hi => by rw [getD_at hi]] at h
          rw [List.map_map]
          exact h
        refine ⟨D3, zs, rfl, .inl ⟨.inl (.inl hzs), fun t3 ht3 => ?_⟩⟩
        exact q' _ _ (s15.trans (same_new ht3)) ⟨t3, rfl, .tup (.inl (.inl upd_same)) (dps_mono (same_new ht3) _ _ dP)⟩
    have l2 : ys2.length = 2 := by rw [← paired_len py2, List.length_range]; rfl
    obtain ⟨y0, y1, rfl⟩ := two l2
    obtain ⟨t2, rfl, eP⟩ := paired_at py2 (i := 0) (a := 0) rfl rfl
    obtain ⟨t3, rfl, eV⟩ := paired_at py2 (i := 1) (a := 1) rfl rfl
    refine ⟨L7, D2, _, _, rfl, rfl, s14 _ _ hL13, hys2, by rw [sl]; exact (by decide : (3 : Nat) ≤ 16777216), fun M hM => ?_⟩
    rw [show ([V.ref t1] ++ [V.ref t2, V.ref t3]) = [V.ref t1, .ref t2, .ref t3] from rfl]
    have s16 := same_new (o := .lst [V.ref t1, .ref t2, .ref t3]) hM
    have rowM : RowAt K (upd H14 M (.lst [V.ref t1, .ref t2, .ref t3])) M (renP ns R) := ⟨⟨t1, t2, t3, upd_same, dp_mono (s14.trans s16) _ _ eA13, dp_mono s16 _ _ eP, dp_mono s16 _ _ eV⟩, ren_nm okR ro⟩
    have sM := (s13.trans s14).trans s16
    have skM := skD.same sM
    have hLM := sM _ _ hLD
    have hdM := sM _ _ hd
    have bM : ButSG S G H (upd H14 M (.lst [V.ref t1, .ref t2, .ref t3])) := (bt8.trans (ButSG.same sD)).trans (ButSG.same sM)
    have frM := (fr8.same sD).same sM
    have apM : Apart C (upd H14 M (.lst [V.ref t1, .ref t2, .ref t3])) p D := fr8.apart nDH (sD.trans sM)
    have rM := row10.mono sM
    have nMS : M ≠ S ∧ M ≠ G := (skD.same (s13.trans s14)).new hM
    have nMH : H M = none := (bt8.trans (ButSG.same (sD.trans (s13.trans s14)))).none_of hM nMS.1 nMS.2
    refine gn_i (i := 7) ?_
    dsimp only
    subst eT2
    refine cutT fun T3 eT3 => ?_
    generalize upd H14 M (.lst [V.ref t1, .ref t2, .ref t3]) = H16 at *
    -- how many names there are then
    refine ⟨_, rfl, L1, rfl, ⟨_, .inl (.inl hLM)⟩, fun D5 hD5 => ?_⟩
    refine lc_map (K := K) (fun _ k y => y = V.str (ren ns ((namesL R).getD k Str.empty))) (steady_list (K := K) (a := L1) (xs := (namesL R).map V.str)) (fun _ _ _ _ _ h => h) (fun H' s' => .inl (.inl (s' _ _ hLM))) (by rw [List.length_map]; omega) hD5 (fun k H' Q' hk s' q' => ?_) fun H17 ys5 s17 hys5 py5 => ?_
    · have hk2 : k < (namesL R).length := by rw [List.length_map] at hk; exact hk
      rw [strs_getD _ hk2]
      refine ⟨rfl, _, rfl, D, rfl, .inl ⟨_, .inl (s' _ _ hdM)⟩, _, rfl, _, rfl, _, DGet.k (k := .inr (namesL R)[k]) (s' _ _ hdM), ?_⟩
      rw [ren_get]
      exact q' _ _ (Same.refl _) (by rw [getD_at hk2])
    have ey5 : ys5 = ((namesL R).map (ren ns)).map V.str := by
      have h := paired_strs py5
      rw [range_map (l := namesL R) (List.length_map _) (h := ren ns) fun i hi => by rw [getD_at hi]] at h
      exact h
    subst ey5
    have e8 : decide (V.int ((onceS ((namesL R).map (ren ns))).length : Int) = V.int (((namesL R).map V.str).length : Int)) = renB R ns := once_count2 _ _ (by rw [List.length_map, List.length_map])
    refine ⟨D5, (namesL R).map (ren ns), rfl, .inl (.inl hys5), by unfold scanBound; rw [List.length_map]; omega, fun pS hpS => ⟨pS, _, rfl, upd_same, ?_⟩⟩
    have s18 := s17.trans (same_new (o := SetT P w pS (onceS ((namesL R).map (ren ns)))) hpS)
    refine ⟨_, rfl, L1, _, rfl, .inl (.inl (.inl (s18 _ _ hLM))), rfl, ?_⟩
    rw [e8]
    refine gn_i (i := 8) ?_
    dsimp only
    have skS := skM.same s18
    have hdS := s18 _ _ hdM
    have bS := bM.trans (ButSG.same s18)
    have frS := frM.same s18
    have apS : Apart C (upd H17 pS (SetT P w pS (onceS ((namesL R).map (ren ns))))) p D := fun dx fs aK g1 g2 => by
      obtain ⟨okP, dx', fs', uA, uP, uV, aK', h1, h2, h3, h4, h5, h6, h7, h8, h9, h10⟩ := id frM
      rw [s18 _ _ h1] at g1
      cases g1
      exact apM _ _ _ h1 g2
    have rS := rM.mono s18
    have rowS := rowM.mono s18
    clear s18 hys5 s17 py5 hD5 hLM hdM e8 apM frM rM rowM skM bM
    subst eT3
    obtain ⟨okP, dx, fs, uA, uP, uV, aK, g1, g2, g3, g4, g5, g6, g7⟩ := id frS
    obtain ⟨bb, eb⟩ : ∃ bb, bb = renB R ns := ⟨_, rfl⟩
    rw [← eb]
    refine ⟨_, rfl, p, dx, fs, rfl, g1, g6 _ (by decide +kernel), _, rfl, p, D, R, ns, rfl, frS, hdS, apS, ro, fun e H' s' => ?_, fun e H' p' s' fr' => ?_⟩
    · refine ⟨true, O.e, fun _ a ha => ⟨_, rfl, _, rfl, ?_⟩, fun z => nomatch z⟩
      rw [eb, e]
      refine iteF ⟨_, rfl, _, rfl, by rw [sl]; exact (by decide : 2 ≤ 16777216), fun L hL => ?_⟩
      have s20 := s'.trans (same_new (o := .lst [V.ref p, V.ref r]) hL)
      exact q _ L p r R (bS.trans (ButSG.same s20)) ((skS.same s20).le (by omega)) upd_same (frS.same s20) (rS.mono s20) (.inl rfl)
    · have eb2 : bb = true := eb.trans e
      subst eb2
      refine gn_i (i := 9) ?_
      exact tail49_i T t9 (skS.same s') (by omega) (rS.mono s') (rowS.mono s') fr' (s' _ _ hdS) ro nMS fun H'' L b'' k'' hL f'' r'' => q H'' L p' M (renP ns R) ((bS.trans (ButSG.same s')).trans b'') (k''.le (by omega)) hL f'' r'' (.inr nMH)
end
end Fc
namespace Fc
open PySem L2 PyProof.Rows
theorem hu0 {n : Nat} (h : n + 70 < cLine) : n < cLine := by omega
/-- two lists of different lengths are not equal -/
def rEqLen (K : PySem.W.Frag) : R2 := fun x y H Q => ∃ a b xs ys, x = .ref a ∧ y = .ref b ∧ SqL K H a xs ∧ SqL K H b ys ∧ xs.length ≠ ys.length ∧ Q (.bl false) H
theorem op_eqLen {X : Cx} (hu : X.A.units < cLine) : OpR X (compareOp .Eq) (rEqLen X.K) := by
  intro pins s σ H x y v u Q I rx ry h
  obtain ⟨a, b, xs, ys, rfl, rfl, hx, hy, hl, q⟩ := h
  cases rx
  cases ry
  obtain ⟨ix, r1, p1, _⟩ := I.list hx
  obtain ⟨iy, r2, p2, _⟩ := I.list hy
  have l1 := L2.Vals.length r1
  have l2 := L2.Vals.length r2
  exact SeqAt.eq_list_lengthsAt p1.isList p2.isList (by rw [List.size_toArray, List.size_toArray]; exact bne_iff_ne.mpr (by omega)) hu ⟨.bl false, H, I, rfl, q⟩
/-- a list of what stood before: the frame, its parts, its text -/
def EldT (K : PySem.W.Frag) (C E : Addr) (H : Hp) (t : V) (P : Pa) : Prop := ∃ a p r, t = .ref a ∧ SqT K H a [.ref p, .ref r, .str (showF P)] ∧ FrAt K C H p P ∧ RowAt K H r P ∧ r ≠ E
theorem EldT.but {K : PySem.W.Frag} {C E S G : Addr} {H H' : Hp} {t : V} {P : Pa} {n : Int} (h : EldT K C E H t P) (b : ButSG S G H H') (k : SkAt H S G n) : EldT K C E H' t P := by
  obtain ⟨a, p, r, rfl, h1, h2, h3, h4⟩ := h
  exact ⟨a, p, r, rfl, tups_but b k _ _ h1, h2.but b k, h3.but b k, h4⟩
theorem EldT.same {K : PySem.W.Frag} {C E : Addr} {H H' : Hp} {t : V} {P : Pa} (h : EldT K C E H t P) (s : Same H H') : EldT K C E H' t P := by
  obtain ⟨a, p, r, rfl, h1, h2, h3, h4⟩ := h
  exact ⟨a, p, r, rfl, Tups.same s _ _ h1, h2.same s, h3.mono s, h4⟩
theorem upd_lst {K : PySem.W.Frag} {H : Hp} {E : Addr} {xs ys : List V} (e : H E = some (.lst xs)) : Tups K H (upd H E (.lst ys)) := Tups.upd fun u z => by rw [e] at z; cases z; exact True.intro
theorem FrAt.upd {K : PySem.W.Frag} {C E : Addr} {H : Hp} {xs ys : List V} {p : Addr} {P : Pa} (e : H E = some (.lst xs)) (h : FrAt K C H p P) : FrAt K C (upd H E (.lst ys)) p P := by
  obtain ⟨ok, dx, fs, tA, tP, tV, aK, h1, h2, h3, h4, h5, h6, h7, h8, h9, h10⟩ := h
  have tp := upd_lst (K := K) (ys := ys) e
  have n1 : p ≠ E := fun z => by (rw [z, e] at h1; cases h1)
  have n2 : aK ≠ E := fun z => by (rw [z, e] at h10; cases h10)
  exact ⟨ok, dx, fs, tA, tP, tV, aK, (upd_ne n1).trans h1, h2, h3, h4, h5, h6, dp_tups tp _ _ (tupD_dA _) h7, dp_tups tp _ _ (tupD_dS _) h8, dp_tups tp _ _ (tupD_dS _) h9, (upd_ne n2).trans h10⟩
theorem RowAt.upd {K : PySem.W.Frag} {E : Addr} {H : Hp} {xs ys : List V} {r : Addr} {P : Pa} (e : H E = some (.lst xs)) (ne : r ≠ E) (h : RowAt K H r P) : RowAt K (upd H E (.lst ys)) r P := by
  have tp := upd_lst (K := K) (ys := ys) e
  obtain ⟨⟨tA, tP, tV, h1, h2, h3, h4⟩, nm⟩ := h
  exact ⟨⟨tA, tP, tV, (upd_ne ne).trans h1, dp_tups tp _ _ (tupD_dA _) h2, dp_tups tp _ _ (tupD_dS _) h3, dp_tups tp _ _ (tupD_dS _) h4⟩, nm⟩
theorem EldT.upd {K : PySem.W.Frag} {C E : Addr} {H : Hp} {xs ys : List V} {t : V} {P : Pa} (e : H E = some (.lst xs)) (h : EldT K C E H t P) : EldT K C E (upd H E (.lst ys)) t P := by
  obtain ⟨a, p, r, rfl, h1, h2, h3, h4⟩ := h
  exact ⟨a, p, r, rfl, upd_lst e _ _ h1, h2.upd e, h3.upd e h4, h4⟩
theorem row_dp {K : PySem.W.Frag} {H : Hp} {r : Addr} {P : Pa} (R : RowAt K H r P) : Dp K H (.ref r) (.list [dA P.arrays, dS P.pos, dS P.vals]) := by
  obtain ⟨⟨tA, tP, tV, h1, h2, h3, h4⟩, nm⟩ := R
  exact .lst (.inl (.inl h1)) (.cons h2 (.cons h3 (.cons h4 .nil)))
theorem row_pl (P : Pa) : plD (.list [dA P.arrays, dS P.pos, dS P.vals]) := by
  obtain ⟨a1, _⟩ := pl_dA P.arrays
  obtain ⟨b1, _⟩ := pl_dS P.pos
  obtain ⟨c1, _⟩ := pl_dS P.vals
  have a2 : (dA P.arrays).depth ≤ 3 := by
    have : PyData.depthAll (P.arrays.map fun e => PyData.tuple [.str e.1, .str e.2]) ≤ 2 := (depAll_iff 2 _).mpr fun d hd => by
      obtain ⟨e, _, rfl⟩ := List.mem_map.mp hd
      exact (by decide : 1 ≤ 2)
    change PyData.depthAll _ + 1 ≤ 3
    omega
  have s2 : ∀ l : List Str, (dS l).depth ≤ 3 := fun l => by
    have : PyData.depthAll (l.map PyData.str) ≤ 2 := (depAll_iff 2 _).mpr fun d hd => by
      obtain ⟨e, _, rfl⟩ := List.mem_map.mp hd
      exact Nat.zero_le _
    change PyData.depthAll _ + 1 ≤ 3
    omega
  refine ⟨plainAll_iff _ fun d hd => ?_, ?_⟩
  · simp only [List.mem_cons, List.not_mem_nil, or_false] at hd
    rcases hd with rfl | rfl | rfl
    · exact a1
    · exact b1
    · exact c1
  · have : PyData.depthAll [dA P.arrays, dS P.pos, dS P.vals] ≤ 3 := (depAll_iff 3 _).mpr fun d hd => by
      simp only [List.mem_cons, List.not_mem_nil, or_false] at hd
      rcases hd with rfl | rfl | rfl
      · exact a2
      · exact s2 _
      · exact s2 _
    change PyData.depthAll _ + 1 ≤ 64
    omega
theorem row_eqv (P R : Pa) : PyData.eqv (.list [dA P.arrays, dS P.pos, dS P.vals]) (.list [dA R.arrays, dS R.pos, dS R.vals]) = decide (P = R) := by
  obtain ⟨a, b, c⟩ := P
  obtain ⟨a', b', c'⟩ := R
  change (PyData.eqv (dA a) (dA a') && (PyData.eqv (dS b) (dS b') && (PyData.eqv (dS c) (dS c') && true))) = _
  rw [eqv_dA, eqv_dS, eqv_dS, Bool.eq_iff_iff]
  simp only [Bool.and_eq_true, decide_eq_true_iff, and_true, Pa.mk.injEq]
theorem paired_get {α β : Type} {p : α → β → Prop} {l : List α} {m : List β} {d : α} (h : Paired p l m) : ∀ {i : Nat}, i < l.length → ∃ b, m[i]? = some b ∧ p (l.getD i d) b := by
  induction h with
  | nil => intro i hi; simp at hi
  | cons h t ih =>
    intro i hi
    cases i with
    | zero => exact ⟨_, rfl, h⟩
    | succ i => exact ih (by simpa using hi)
theorem partsE_nil (R : Pa) : (⟨R.arrays ++ [], R.pos ++ [], R.vals ++ []⟩ : Pa) = R := by
  simp only [List.append_nil]
theorem kind_nil (x : Str) : ren [] x = x := rfl
theorem ren_nil (R : Pa) : renB R [] = decide (namesL R).Nodup := by
  unfold renB
  rw [show (namesL R).map (ren []) = namesL R from (List.map_congr_left fun x _ => kind_nil x).trans (List.map_id _)]
theorem renP_nil (R : Pa) : renP [] R = R := by
  obtain ⟨a, b, c⟩ := R
  unfold renP
  have e1 : (a.map fun e => (ren [] e.1, ren [] e.2)) = a := (List.map_congr_left fun x _ => rfl).trans (List.map_id _)
  have e2 : ∀ l : List Str, l.map (ren []) = l := fun l => (List.map_congr_left fun x _ => kind_nil x).trans (List.map_id _)
  rw [e1, e2, e2]
theorem PaOk.nd' {R : Pa} (h : PaOk R) : decide (namesL R).Nodup = true := decide_eq_true h.nd
theorem passLN {X : Cx} : Passes (L2N.CX X.prog X.w) X E0 := fun _ _ _ _ _ _ _ h => by
  obtain ⟨_, _, _, _, _, _, _, _, _, _, _, _, z⟩ := h
  exact z.elim
def spRight (K : PySem.W.Frag) : Sp := fun vs H Q _ => ∃ (S G : Addr) (n : Int), vs = [.ref S] ∧ SkAt H S G n ∧ n + 10000 < 2 ^ 60 ∧ ∀ H', ButSG S G H H' → Q (.bl true) H'
section
variable {K : PySem.W.Frag} {mg : Str → Option Value} {base : Heap} {P : Program} {w : World}
abbrev n50 : List Str := ["_law_skein_here", "_law_parts_here", "_law_frame_here", "_law_elder", "_law_turn", "_law_way", "_law_told", "_law_one", "_law_row", "_law_text"]
theorem sc50 : FnScope n50 ["_law_skein_here"] (defScope (topS 50)) := ⟨rfl, rfl, rfl, by decide +kernel, rfl, by decide +kernel, by decide +kernel⟩
abbrev rStrO (K : PySem.W.Frag) (C : Addr) : List V → Hp → VK → Prop := fun xs H Q => ∃ a dx fs, xs = [.ref a] ∧ H a = some (.ins C dx fs) ∧ spStrF K C [.ref a] H (fun v H' => ∃ x : Str, v = .str x ∧ Q (.str x) H') E0
theorem ok50 {f C Cf Co : Addr} {fd : FuncData} (F : Fun K "_law_right" "_law_right" (topS 50) f fd) (B : Blt mg) (T : FrTxt K mg C) (ME : OwnM P w K mg base 1 C "__eq__" (spEqF K C)) (MS : OwnM P w K mg base 3 C "__str__" (spStrF K C)) (NT : NeTxt K C) (MW : MWith P w K mg base C Cf) (MR : MRen P w K mg base C Co)
    (c34 : Cal P w K mg base 1 "_law_pull" (spPull K)) (c37 : Cal P w K mg base 3 "_law_parts" (spParts K)) (c39 : CalX P w K mg base 5 "_law_frame" (spLawFr K C Cf)) (c46 : CalG P w K mg base 9 "_law_terms_right" (spTerms K C)) (c48 : Cal P w K mg base 6 "_law_more" (spLawMore K C)) (c49 : Cal P w K mg base 6 "_law_other" (spLawOther K C)) : FnG P w K mg base 10 f fd ["_law_skein_here"] (spRight K) := by
  refine okG F sc50 (fun vs H Q E h => ?_) (fun cdv A outer s H vs Q E hgd hr h => ?_)
  · obtain ⟨S, G, n, rfl, _⟩ := h
    rfl
  · have hu := hu70 hr
    obtain ⟨g, gd, g1, g2, TA, TP, TV, ds, mt, F5, kb, kb2, vd, bd, sT⟩ := MW.at_
    obtain ⟨fR, fdR, psR, mR, FR, bR⟩ := MR.at_
    refine ⟨_, (pss_cons (ps_set (i := 1) sc50.nd rfl (Or.inl rfl) (pe_c c37 hr (by decide) (by rfl) (pa_cons (pv 0) pa_nil))) (pss_cons (ps_par (i := 2) (j := 3) rfl sc50.nd rfl rfl (by decide) rfl rfl (pa_cons (pe_cx c39 hr (by decide) (by rfl) (pa_cons (pv 1) pa_nil)) (pa_cons (pe_lst pa_nil) pa_nil)) (by rfl)) (pss_cons (ps_for PassesOwn.never rfl (pi_range1 (by rfl) B.range (pa_cons (pe_op op_add pe_int (pe_c c34 hr (by decide) (by rfl) (pa_cons (pv 0) (pa_cons pe_int pa_nil)))) pa_nil)) (pg_name (i := 4) sc50.nd rfl (Or.inl rfl)) (pss_cons (ps_expr (pe_bm PySem.F.plainAttrs_list PySem.F.slot_list_append PySem.F.type_list_append mt_append (pv 3) (pa_cons (pe_tup (pa_cons (pv 2) (pa_cons (pv 1) (pa_cons (pe_callTy (r := rStrO K C) (call_strO MS (hr.mono (by decide))) (by rfl) B.str boot_str (pa_cons (pv 2) pa_nil)) pa_nil)))) pa_nil))) (pss_cons (ps_set (i := 5) sc50.nd rfl (Or.inl rfl) (pe_c c34 hr (by decide) (by rfl) (pa_cons (pv 0) (pa_cons pe_int pa_nil)))) (pss_cons (ps_set (i := 6) sc50.nd rfl (Or.inl rfl) (pe_ifExp (pt_cmpR op_eq (pv 5) pe_int (nomark _)) (pe_c c48 hr (by decide) (by rfl) (pa_cons (pv 0) (pa_cons (pv 2) (pa_cons (pv 1) pa_nil)))) (pe_c c49 hr (by decide) (by rfl) (pa_cons (pv 0) (pa_cons (pv 2) (pa_cons (pv 1) pa_nil)))))) (pss_cons (ps_if (pt_cmpR (op_eqLen (hu0 hu)) (pv 6) (pe_lst pa_nil) rfl) (pss_one (ps_ret pe_bl)) pss_nil) (pss_cons (ps_asg (pv 6) (pg_lst rfl (pgs_cons (pg_name (i := 2) sc50.nd rfl (Or.inl rfl)) (pgs_cons (pg_name (i := 1) sc50.nd rfl (Or.inl rfl)) pgs_nil)))) (pss_one (ps_if (pw_or (pt_cmpR (op_neO ME NT (hr.mono (by decide))) (pv 2) (pe_cx c39 hr (by decide) (by rfl) (pa_cons (pv 1) pa_nil)) (nomark _)) (pw_or1 (pt_not (pt_val (pe_cg c46 hgd hr (by decide) (by rfl) (pa_cons (pv 0) (pa_cons (pv 2) (pa_cons (pv 1) pa_nil)))))))).pt (pss_one (ps_ret pe_bl)) pss_nil)))))))) (pss_cons (ps_for PassesOwn.never rfl (pi_list (pv 3)) (pg_tup rfl (pgs_cons (pg_name (i := 7) sc50.nd rfl (Or.inl rfl)) (pgs_cons (pg_name (i := 8) sc50.nd rfl (Or.inl rfl)) (pgs_cons (pg_name (i := 9) sc50.nd rfl (Or.inl rfl)) pgs_nil)))) (pss_one (ps_if (pw_or (pt_cmpR (op_neO ME NT (hr.mono (by decide))) (pv 7) (pe_cx c39 hr (by decide) (by rfl) (pa_cons (pv 8) pa_nil)) (nomark _)) (pw_or (pt_cmpR op_ne (pe_callTy (r := rStrO K C) (call_strO MS (hr.mono (by decide))) (by rfl) B.str boot_str (pa_cons (pv 7) pa_nil)) (pv 9) (nomark _)) (pw_or1 (pt_cmpR op_ne (pe_cmpR (op_eqO ME (hr.mono (by decide))) (pv 7) (pv 2) (nomark _)) (pe_cmpR (op_eqP (hu64 hu)) (pv 8) (pv 1) (nomark _)) (nomark _))))).pt (pss_one (ps_ret pe_bl)) pss_nil))) (pss_one (ps_ret (pe_and (pe_cmpR (op_eqO ME (hr.mono (by decide))) (pe_meth0 (pv 2) T.cl mt F5 (hr.mono (by decide)) bd vd passLN) (pv 2) (nomark _)) (pe_one (pe_cmpR (op_eqO ME (hr.mono (by decide))) (pe_meth (pv 2) T.cl mR FR (hr.mono (by decide)) bR .nil passL (pa_cons pe_dnewK pa_nil)) (pv 2) (nomark _)))))))))), ?_⟩
    obtain ⟨S, G, n, rfl, sk, nb, q⟩ := h
    have sl : sizeLine = 16777216 := sizeLine_eq
    refine ⟨_, rfl, S, G, n, rfl, sk, by omega, fun H1 r R b1 sk1 nr row okR => ?_⟩
    have nr1 := sk.new nr
    refine ⟨_, rfl, r, R, rfl, row, fun e => (by rw [okR] at e; cases e), fun _ H2 p s2 fr => ⟨Nat.zero_le _, fun E0' hE => ⟨_, _, rfl, ?_⟩⟩⟩
    have nES := (sk1.same s2).new hE
    have s3 := same_new (o := .lst ([] : List V)) hE
    have hE3 : (upd H2 E0' (.lst ([] : List V))) E0' = some (.lst []) := upd_same
    have fr3 := fr.same s3
    have row3 := (row.mono s2).mono s3
    have sk3 := (sk1.same s2).same s3
    have nrE : r ≠ E0' := by
      obtain ⟨⟨_, _, _, g, _⟩, _⟩ := row.mono s2
      exact ne_of_none g hE
    have b3 : ButSG S G H (upd H2 E0' (.lst ([] : List V))) := (b1.trans (ButSG.same s2)).trans (ButSG.same s3)
    have nEH : H E0' = none := (b1.trans (ButSG.same s2)).none_of hE nES.1 nES.2
    generalize upd H2 E0' (.lst ([] : List V)) = H3 at *
    clear s3 hE fr row sk1 s2 b1 nr nr1
    refine ⟨_, rfl, S, G, n + 66, 4, rfl, sk3, by omega, by decide, by decide, fun k H4 k0 k4 b4 sk4 => ⟨_, _, rfl, rfl, _, rfl, by omega, by omega, ?_⟩⟩
    have hE4 := b4 _ _ nES.1 nES.2 hE3
    have fr4 := fr3.but b4 sk3
    have row4 := row3.but b4 sk3
    have b04 := b3.trans b4
    clear b3 hE3 fr3 row3 b4 sk3
    refine for_steady steady_rng (fun i σ H' => ∃ (p r : Addr) (R : Pa) (z4 z5 z6 z7 z8 z9 : Option V) (xs : List V) (es : List Pa), σ = [some (.ref S), some (.ref r), some (.ref p), some (.ref E0'), z4, z5, z6, z7, z8, z9] ∧ ButSG S G H H' ∧ SkAt H' S G (n + 67 + 700 * (i : Int)) ∧ H' E0' = some (.lst xs) ∧ Paired (EldT K C E0' H') xs es ∧ xs.length = i ∧ FrAt K C H' p R ∧ RowAt K H' r R ∧ r ≠ E0') ⟨p, r, R, _, _, _, _, _, _, [], [], rfl, b04, sk4.le (by omega), hE4, .nil, rfl, fr4, row4, nrE⟩ (fun _ _ _ _ _ => trivial) ?_ ?_
    · rintro i σ H5 hi ⟨p, r, R, z4, z5, z6, z7, z8, z9, xs, es, rfl, b5, sk5, hE5, pe5, lx, fr5, row5, nrE⟩
      have hi6 : i < 6 := Nat.lt_of_lt_of_le hi (by omega)
      obtain ⟨okP, dx, fs, uA, uP, uV, aK, g1, g2, g3, g4, g5, g6, g7⟩ := id fr5
      -- what stood before
      refine ⟨_, rfl, .inl ⟨rfl, _, .inl (.inl hE5)⟩, _, rfl, _, rfl, _, rfl, p, dx, fs, rfl, g1, p, R, rfl, fr5, fun H6 s6 => ⟨_, rfl, by rw [sl]; exact (by decide : 3 ≤ 16777216), fun t ht => ?_⟩⟩
      have s7 := s6.trans (same_new (o := .tup [V.ref p, .ref r, .str (showF R)]) ht)
      have hT7 : SqT K (upd H6 t (.tup [V.ref p, .ref r, .str (showF R)])) t [V.ref p, .ref r, .str (showF R)] := .inl (.inl upd_same)
      have ntE : t ≠ E0' := fun e => by (rw [e, s6 _ _ hE5] at ht; cases ht)
      have hE7 := s7 _ _ hE5
      have e7 : EldT K C E0' (upd H6 t (.tup [V.ref p, .ref r, .str (showF R)])) (.ref t) R := ⟨t, p, r, rfl, hT7, fr5.same s7, row5.mono s7, nrE⟩
      have pe7 : Paired (EldT K C E0' (upd H6 t (.tup [V.ref p, .ref r, .str (showF R)]))) xs es := Paired.mapP pe5 fun _ _ h => h.same s7
      have sk7 := sk5.same s7
      have b7 := b5.trans (ButSG.same s7)
      have fr7 := fr5.same s7
      have row7 := row5.mono s7
      generalize upd H6 t (.tup [V.ref p, .ref r, .str (showF R)]) = H7 at *
      clear s7 s6 ht hT7 pe5 sk5 b5 fr5 row5 hE5 g1 g7
      refine ⟨E0', xs, _, rfl, rfl, hE7, by rw [sl]; omega, ?_⟩
      have hE8 : (upd H7 E0' (.lst (xs ++ [.ref t]))) E0' = some (.lst (xs ++ [V.ref t])) := upd_same
      have pe8 : Paired (EldT K C E0' (upd H7 E0' (.lst (xs ++ [.ref t])))) (xs ++ [.ref t]) (es ++ [R]) := paired_snoc (Paired.mapP pe7 fun _ _ h => h.upd hE7) (e7.upd hE7)
      have fr8 := fr7.upd (ys := xs ++ [.ref t]) hE7
      have row8 := row7.upd (ys := xs ++ [.ref t]) hE7 nrE
      have sk8 : SkAt (upd H7 E0' (.lst (xs ++ [.ref t]))) S G (n + 67 + 700 * (i : Int)) := sk7.upd nES
      have b8 : ButSG S G H (upd H7 E0' (.lst (xs ++ [.ref t]))) := fun b o h1 h2 e => by rw [upd_ne (ne_of_none e nEH)]; exact b7 b o h1 h2 e
      have lx8 : (xs ++ [V.ref t]).length = i + 1 := by rw [List.length_append, lx]; rfl
      generalize upd H7 E0' (.lst (xs ++ [.ref t])) = H8 at *
      generalize xs ++ [V.ref t] = xs8 at *
      generalize es ++ [R] = es8 at *
      clear e7 pe7 hE7 fr7 row7 sk7 b7
      refine ⟨_, rfl, S, G, n + 67 + 700 * (i : Int), 3, rfl, sk8, by omega, by decide, by decide, fun wy H9 w0 w3 b9 sk9 => ?_⟩
      have fr9 := fr8.but b9 sk8
      have row9 := row8.but b9 sk8
      have hE9 := b9 _ _ nES.1 nES.2 hE8
      have pe9 : Paired (EldT K C E0' H9) xs8 es8 := Paired.mapP pe8 fun _ _ h => h.but b9 sk8
      have b09 := b8.trans b9
      clear b9 sk8 fr8 row8 hE8 pe8 b8
      apply joinI (fun (L : Addr) H' => ∃ (p' r' : Addr) (R' : Pa), H' L = some (.lst [.ref p', .ref r']) ∧ ButSG S G H9 H' ∧ SkAt H' S G (n + 67 + 700 * (i : Int) + 1 + 400) ∧ FrAt K C H' p' R' ∧ RowAt K H' r' R' ∧ (r' = r ∨ H9 r' = none))
      · intro fin
        refine ⟨_, rfl, rfl, _, rfl, ?_⟩
        cases decide (V.int wy = V.int 0) with
        | true => exact iteT ⟨_, rfl, _, rfl, _, rfl, S, G, _, p, r, R, rfl, sk9, by omega, fr9, row9, fun H' L p' r' R' b k hL f rr d => fin L H' ⟨p', r', R', hL, b, k, f, rr, d⟩⟩
        | false => exact iteF ⟨_, rfl, _, rfl, _, rfl, S, G, _, p, r, R, rfl, sk9, by omega, fr9, row9, fun H' L p' r' R' b k hL f rr d => fin L H' ⟨p', r', R', hL, b, k, f, rr, d⟩⟩
      rintro L Ha ⟨p', r', R', hL, ba, ska, fra, rowa, dr⟩
      have nr' : r' ≠ E0' := dr.elim (fun e => e ▸ nrE) fun e z => by (rw [z, hE9] at e; cases e)
      have hEa := ba _ _ nES.1 nES.2 hE9
      have pea : Paired (EldT K C E0' Ha) xs8 es8 := Paired.mapP pe9 fun _ _ h => h.but ba sk9
      have b0a := b09.trans ba
      clear pe9 hE9 b09 ba fr9 row9 sk9
      refine ⟨_, rfl, Nat.zero_le _, fun A0 hA0 => ⟨L, A0, _, _, rfl, rfl, .inl (.inl (same_new hA0 _ _ hL)), .inl (.inl upd_same), by simp, _, rfl, iteF ?_⟩⟩
      have sb := same_new (o := .lst ([] : List V)) hA0
      refine ⟨_, rfl, L, _, rfl, .inl (.inl (sb _ _ hL)), rfl, _, _, rfl, _, _, rfl, rfl, ?_⟩
      have frb := fra.same sb
      have rowb := rowa.mono sb
      refine ⟨_, rfl, _, rfl, r', R', rfl, rowb, fun e => (by rw [frb.ok.okB] at e; cases e), fun _ Hc p2 sc fr2 => ?_⟩
      have frc := frb.same sc
      obtain ⟨ok1, dx1, fs1, a1, a2, a3, a4, k1, _⟩ := id frc
      obtain ⟨ok2, dx2, fs2, c1, c2, c3, c4, k2, _⟩ := id fr2
      refine ⟨p', p2, dx1, dx2, fs1, fs2, rfl, rfl, k1, k2, p', p2, R', R', rfl, frc, fr2, _, rfl, _, rfl, ?_⟩
      rw [decide_eq_true rfl]
      have sbc := sb.trans sc
      refine iteF ⟨_, rfl, _, rfl, _, rfl, S, G, _, p', r', R', rfl, ska.same sbc, by omega, frc, rowb.mono sc, fun Hd bd' skd => ⟨_, rfl, iteF ?_⟩⟩
      have bcd := (ButSG.same (S := S) (G := G) sbc).trans bd'
      refine ⟨p', r', R', _, _, _, _, _, _, xs8, es8, rfl, b0a.trans bcd, skd.le (by omega), bcd _ _ nES.1 nES.2 hEa, Paired.mapP pea fun _ _ h => h.but bcd ska, lx8, fra.but bcd ska, rowa.but bcd ska, nr'⟩
    · rintro σ H5 ⟨p, r, R, z4, z5, z6, z7, z8, z9, xs, es, rfl, b5, sk5, hE5, pe5, lx, fr5, row5, nrE⟩
      have nRE := nrE
      refine ⟨_, rfl, E0', rfl, ⟨_, .inl (.inl hE5)⟩, ?_⟩
      refine for_steady (steady_list (K := K) (a := E0') (xs := xs)) (fun j σ H' => Same H5 H' ∧ ∃ z7 z8 z9 : Option V, σ = [some (.ref S), some (.ref r), some (.ref p), some (.ref E0'), z4, z5, z6, z7, z8, z9]) ⟨Same.refl _, _, _, _, rfl⟩ (fun _ _ _ _ h => .inl (.inl (h.1 _ _ hE5))) ?_ ?_
      · rintro j σ H6 hj ⟨s6, z7, z8, z9, rfl⟩
        obtain ⟨Pj, hPj, et⟩ := paired_get pe5 hj
        obtain ⟨a, pj, rj, ea, sq, frj, rowj, nrj⟩ := et.same s6
        rw [ea]
        have frp := fr5.same s6
        have rowp := row5.mono s6
        refine ⟨a, _, rfl, sq, rfl, _, _, rfl, _, _, rfl, _, _, rfl, rfl, ?_⟩
        refine ⟨_, rfl, _, rfl, rj, Pj, rfl, rowj, fun e => (by rw [frj.ok.okB] at e; cases e), fun _ H7 p2 s7 fr2 => ?_⟩
        have frj7 := frj.same s7
        obtain ⟨ok1, dx1, fs1, a1, a2, a3, a4, k1, _⟩ := id frj7
        obtain ⟨ok2, dx2, fs2, c1, c2, c3, c4, k2, _⟩ := id fr2
        refine ⟨pj, p2, dx1, dx2, fs1, fs2, rfl, rfl, k1, k2, pj, p2, Pj, Pj, rfl, frj7, fr2, _, rfl, _, rfl, ?_⟩
        rw [decide_eq_true rfl]
        refine iteF ⟨_, rfl, pj, dx1, fs1, rfl, k1, pj, Pj, rfl, frj7, fun H8 s8 => ⟨_, rfl, _, rfl, rfl, _, rfl, ?_⟩⟩
        rw [decide_eq_true rfl]
        have s78 := s7.trans s8
        have frj8 := frj.same s78
        have frp8 := frp.same s78
        obtain ⟨ok3, dx3, fs3, d1, d2, d3, d4, k3, _⟩ := id frp8
        refine iteF ⟨_, rfl, _, rfl, pj, p, dx1, dx3, fs1, fs3, rfl, rfl, s8 _ _ k1, k3, pj, p, Pj, R, rfl, frj8, frp8, _, rfl, _, rfl, _, rfl, _, _, row_dp (rowj.mono s78), row_dp (rowp.mono s78), row_pl _, row_pl _, rfl, _, rfl, ?_⟩
        rw [row_eqv, decide_eq_true rfl]
        exact iteF ⟨s6.trans s78, _, _, _, rfl⟩
      · rintro σ H6 ⟨s6, z7, z8, z9, rfl⟩
        have fr6 := fr5.same s6
        have row6 := row5.mono s6
        obtain ⟨okP, dx, fs, uA, uP, uV, aK, g1, g2, g3, g4, g5, g6, g7⟩ := id fr6
        obtain ⟨t1, t2, t3⟩ := sT H6
        refine ⟨_, rfl, p, dx, fs, rfl, g1, g6 _ (by decide +kernel), p, TA, TP, TV, R, ⟨[], [], []⟩, rfl, fr6, .tup t1 .nil, .tup t2 .nil, .tup t3 .nil, ?_, fun e => ?_, fun _ H7 p2 s7 fr2 => ?_⟩
        · rw [partsE_nil]; exact row6.nm
        · rw [partsE_nil, okP.okB] at e; cases e
        rw [partsE_nil] at fr2
        have fr7 := fr6.same s7
        obtain ⟨ok1, dx1, fs1, a1, a2, a3, a4, k1, _⟩ := id fr7
        obtain ⟨ok2, dx2, fs2, c1, c2, c3, c4, k2, _⟩ := id fr2
        refine ⟨_, rfl, p2, p, dx2, dx1, fs2, fs1, rfl, rfl, k2, k1, p2, p, R, R, rfl, fr2, fr7, _, rfl, _, rfl, ?_⟩
        rw [decide_eq_true rfl]
        refine iteT ⟨_, rfl, p, dx, fs, rfl, s7 _ _ g1, g6 _ (by decide +kernel), fun D hD => ⟨p, D, R, [], rfl, fr7.same (same_new hD), upd_same, fr7.apart hD (same_new hD), ⟨Nat.zero_le _, .nil, fun _ h => (nomatch h), fun _ h => (nomatch h)⟩, fun e => ?_, fun _ H8 p3 s8 fr3 => ?_⟩⟩
        · rw [ren_nil, okP.nd'] at e; cases e
        rw [renP_nil] at fr3
        have fr8 := (fr7.same (same_new hD)).same s8
        obtain ⟨ok1, dx1, fs1, a1, a2, a3, a4, k1, _⟩ := id fr8
        obtain ⟨ok2, dx2, fs2, c1, c2, c3, c4, k2, _⟩ := id fr3
        refine ⟨_, rfl, p3, p, dx2, dx1, fs2, fs1, rfl, rfl, k2, k1, p3, p, R, R, rfl, fr3, fr8, _, rfl, ?_⟩
        rw [decide_eq_true rfl]
        exact q _ (b5.trans (ButSG.same ((s6.trans s7).trans ((same_new hD).trans s8))))
end
end Fc
namespace Fc
open PySem L2 PyProof.Rows
/-- tuple(x) of a text -/
abbrev rTupS : List V → Hp → VK → Prop := fun xs H Q => ∃ x : Str, xs = [.str x] ∧ x.length ≤ 1000 ∧ ∀ p, H p = none → Q (.ref p) (upd H p (.tup ((signs x).map V.str)))
theorem call_tupS {X : Cx} (hc : X.calm = true) : CallR X (.type "tuple") rTupS := by
  intro pins s σ H xs us Q I r ⟨x, e, hl, q⟩
  subst e
  obtain ⟨u, rfl, rx⟩ := vals1 r
  obtain ⟨t, rfl⟩ := (show ∃ t, u = Value.str x t from rx)
  have hz : x.cps.size ≤ sizeLine := by rw [sizeLine_eq]; exact Nat.le_trans hl (by decide)
  refine call_tuple_str (hsz := hz) (I.ok.hd hc) x t fun h' tk acc k it => ?_
  have I1 : Inv X pins σ H { s with heap := h', toks := tk } := I.kept k
  have nH := I1.hok.fresh (Nat.le_refl _)
  have vs : Vals ((signs x).map V.str) acc.toList := by
    refine vals_of_at ?_ fun i a b ha hb => ?_
    · rw [List.length_map, signs_length, Array.length_toList, it.1]; rfl
    · obtain ⟨c, t2, hc2, eb⟩ := it.2 i b (by simpa using hb)
      unfold signs at ha
      rw [List.map_map, List.getElem?_map, Array.getElem?_toList, hc2] at ha
      cases ha
      subst eb
      exact ⟨t2, rfl⟩
  exact ⟨.ref h'.objs.size, _, I1.laid (t' := tk) (a := h'.objs.size) (o := .tup ((signs x).map V.str)) (h' := h'.push { cls := .type "tuple", data := .seq acc }) (fun b o e => Heap.get?_push_of_some _ e) (Nat.le_refl _) ⟨by rw [List.length_map, signs_length]; exact hz, acc.toList, vs, _, Heap.get?_push_size _ rfl, rfl, 0, by simp⟩, rfl, q _ nH⟩
/-- a walk over enumerate(xs) -/
theorem for_enum {K : PySem.W.Frag} {a : Addr} {xs : List V} {g : TG} {tb : TS} {D : Ends} {σ : L2.St} {H : Hp} (Pv : Nat → L2.St → Hp → Prop) (h0 : Pv 0 σ H) (hl : ∀ i σ H, Pv i σ H → SqL K H a xs)
    (hs : ∀ i x σ H T, xs[i]? = some x → Pv i σ H → H T = none → g (.ref T) σ (upd H T (.tup [.int (i : Nat), x])) fun σ2 H2 => tb { D with nx := Pv (i + 1), ct := Pv (i + 1), bk := D.nx } σ2 H2) (hd : ∀ σ H, Pv xs.length σ H → D.nx σ H) :
    ∃ W : Nat → Nat → L2.St → Hp → Prop, (∃ m, W 0 m σ H) ∧ ∀ i m σ H, W i m σ H → ((Ite K a).stop i H ∧ D.nx σ H) ∨
      ((Ite K a).go i H ∧ ∃ N : L2.St → Hp → Prop, (∀ σ' H', N σ' H' → ∃ m', m' < m ∧ W (i + 1) m' σ' H') ∧ ∀ x H', (Ite K a).yld i H x H' → g x σ H' fun σ2 H2 => tb { D with nx := N, ct := N, bk := D.nx } σ2 H2) := by
  refine ⟨fun i m σ H => m + i = xs.length ∧ Pv i σ H, ⟨xs.length, rfl, h0⟩, fun i m σ H ⟨e, p⟩ => ?_⟩
  have q := hl i σ H p
  by_cases c : i = xs.length
  · subst c
    exact .inl ⟨⟨xs, q, Nat.le_refl _⟩, hd σ H p⟩
  · have lt : i < xs.length := by omega
    refine .inr ⟨⟨xs, xs[i], q, List.getElem?_eq_getElem lt⟩, Pv (i + 1), fun σ' H' p' => ⟨m - 1, by omega, by omega, p'⟩, fun x H' y => ?_⟩
    obtain ⟨T, z, e1, e2, e3, e4⟩ := y
    subst e1 e3
    exact hs i z σ H T (e4 xs q) p e2
def spRefused (K : PySem.W.Frag) (C : Addr) : Sp := fun vs H Q _ => ∃ (p : Addr) (R : Pa), vs = [.ref p] ∧ FrAt K C H p R ∧ R.pos.length = 8 ∧ ∀ H' L ys, H' L = some (.lst ys) → ys.length = 4 → Q (.ref L) H'
def Ws51 : List (List Str) := [["z"], ["a", "b", "c", "d", "e", "f"], ["a", "zz"], ["zz", "zz"]]
theorem nm_len {x : Str} (h : isNameS x = true) : isNameS x = true ∧ x.length ≤ 1000 := by
  refine ⟨h, ?_⟩
  unfold isNameS at h
  simp only [Bool.and_eq_true, decide_eq_true_iff] at h
  omega
theorem Ws51_nm : ∀ ws ∈ Ws51, (0 < ws.length ∧ ws.length ≤ 6) ∧ ∀ x ∈ ws, isNameS x = true ∧ x.length ≤ 1000 := by decide +kernel
section
variable {K : PySem.W.Frag} {mg : Str → Option Value} {base : Heap} {P : Program} {w : World}
abbrev n51 : List Str := ["_law_frame_here", "_law_some", "_law_found", "_law_at", "_law_names", "_law_one"]
theorem sc51 : FnScope n51 ["_law_frame_here"] (defScope (topS 51)) := ⟨rfl, rfl, rfl, by decide +kernel, rfl, by decide +kernel, by decide +kernel⟩
abbrev ts51 (K : PySem.W.Frag) : Addr → Value → Option Addr → TS := fun _ _ _ => tDrop (tBM K "list" rAppend (tVar 2) (tCons (tOp (fun x y H Q => ∃ i j, x = .str i ∧ y = .str j ∧ i.length + j.length ≤ sizeLine ∧ Q (.str (i ++ j)) H) (tC (.str "positions ")) (tCB (fun xs H Q => ∃ i, xs = [.int i] ∧ i.natAbs.log2 < 1920 ∧ Q (.str (toString i)) H) (tCons (tVar 3) tNil))) tNil))
abbrev body51 (K : PySem.W.Frag) (C Cf TA TV : Addr) : TS := fun D σ H => tSeq (tAsg (tMethNE C (Str.ofString "with_names") 0 1 (spWith K C Cf) (fun vs zs => vs ++ [V.ref TA, zs.getD 0 V.non, V.ref TV]) (WE (wMany K (fun _ _ _ _ => False) D [(Value.ref Cf, ts51 K)])) (tVar 0) tNil (tCons (tVar 4) tNil)) (gName 5)) tNever D σ H
theorem ok51 {f C Cf : Addr} {fd : FuncData} (F : Fun K "_law_refused" "_law_refused" (topS 51) f fd) (B : Blt mg) (T : FrTxt K mg C) (O : OwnX K mg "InvalidFrame" Cf) (M : MWith P w K mg base C Cf) : FnOk P w K mg base CX0 6 f fd ["_law_frame_here"] (spRefused K C) := by
  refine F.ok sc51 (fun vs H Q E h => ?_) (fun cdv A outer s H vs Q E hr h => ?_)
  · obtain ⟨p, R, rfl, _⟩ := h
    rfl
  · obtain ⟨g, gd, g1, g2, TA, TP, TV, ds, mt, F5, kb, kb2, vd, bd, sT⟩ := M.at_
    refine ⟨_, (pss_cons (ps_set (i := 1) sc51.nd rfl (Or.inl rfl) (pe_lst (pa_cons (pe_tup (pa_cons pe_str pa_nil)) (pa_cons (pe_callTy (call_tupS rfl) (by rfl) B.tuple boot_tuple (pa_cons pe_str pa_nil)) (pa_cons (pe_tup (pa_cons pe_str (pa_cons pe_str pa_nil))) (pa_cons (pe_tup (pa_cons pe_str (pa_cons pe_str pa_nil))) pa_nil)))))) (pss_cons (ps_set (i := 2) sc51.nd rfl (Or.inl rfl) (pe_lst pa_nil)) (pss_cons (ps_for PassesOwn.never rfl (pi_enum (by rfl) B.enumerate (pa_cons (pv 1) pa_nil)) (pg_tup rfl (pgs_cons (pg_name (i := 3) sc51.nd rfl (Or.inl rfl)) (pgs_cons (pg_name (i := 4) sc51.nd rfl (Or.inl rfl)) pgs_nil))) (pss_one (L2N.ps_try_many (tb := fun W => tSeq (tAsg (tMethNE C "with_names" 0 1 (spWith K C Cf) (fun vs zs => vs ++ [.ref TA, zs.getD 0 .non, .ref TV]) (WE W) (tVar 0) tNil (tCons (tVar 4) tNil)) (gName 5)) tNever) (Wout := fun _ _ _ _ => False) (l := [(.ref Cf, ts51 K)]) rfl rfl takes0N (fun W pn xe tk _ => pss_cons (ps_set (i := 5) sc51.nd rfl (Or.inl rfl) (pe_methNE0 (pv 0) T.cl mt F5 hr kb2 (fun σ => L2N.passAt tk σ) (pk_cons (pv 4) pk_nil))) pss_never) (.cons ⟨rfl, by decide, Or.inl O.g⟩ (fun _ _ _ _ _ hz hd => pss_one (ps_expr (pe_bm PySem.F.plainAttrs_list PySem.F.slot_list_append PySem.F.type_list_append mt_append (pv 2) (pa_cons (pe_op op_add_str pe_str (pe_callTy call_str_int (by rfl) B.str boot_str (pa_cons (pv 3) pa_nil))) pa_nil)))) .nil)))) (pss_one (ps_ret (pv 2)))))), ?_⟩
    obtain ⟨p, R, rfl, fr, l8, q⟩ := h
    have sl : sizeLine = 16777216 := sizeLine_eq
    refine ⟨by rw [sl]; exact (by decide : 1 ≤ 16777216), fun t1 ht1 => ⟨_, rfl, by decide +kernel, fun t2 ht2 => ⟨by rw [sl]; exact (by decide : 2 ≤ 16777216), fun t3 ht3 => ⟨by rw [sl]; exact (by decide : 2 ≤ 16777216), fun t4 ht4 => ⟨by rw [sl]; exact (by decide : 4 ≤ 16777216), fun L hL => ⟨Nat.zero_le _, fun L2 hL2 => ?_⟩⟩⟩⟩⟩⟩
    rw [show (signs "abcdef").map V.str = [V.str "a", .str "b", .str "c", .str "d", .str "e", .str "f"] from rfl] at *
    have s1 := same_new (o := .tup [V.str "z"]) ht1
    have s2 := same_new (o := .tup [V.str "a", .str "b", .str "c", .str "d", .str "e", .str "f"]) ht2
    have s3 := same_new (o := .tup [V.str "a", .str "zz"]) ht3
    have s4 := same_new (o := .tup [V.str "zz", .str "zz"]) ht4
    have s5 := same_new (o := .lst [V.ref t1, .ref t2, .ref t3, .ref t4]) hL
    have s6 := same_new (o := .lst ([] : List V)) hL2
    have s46 := (s4.trans s5).trans s6
    have s36 := s3.trans s46
    have s26 := s2.trans s36
    have fr6 := fr.same (s1.trans s26)
    have q1 := s26 _ _ (show _ = some (HO.tup [V.str "z"]) from upd_same)
    have q2 := s36 _ _ (show _ = some (HO.tup [V.str "a", .str "b", .str "c", .str "d", .str "e", .str "f"]) from upd_same)
    have q3 := s46 _ _ (show _ = some (HO.tup [V.str "a", .str "zz"]) from upd_same)
    have q4 := (s5.trans s6) _ _ (show _ = some (HO.tup [V.str "zz", .str "zz"]) from upd_same)
    have qL := s6 _ _ (show _ = some (HO.lst [V.ref t1, .ref t2, .ref t3, .ref t4]) from upd_same)
    have nL : L ≠ L2 := fun e => by (rw [← e, upd_same] at hL2; cases hL2)
    have qE := (show (upd _ L2 (.lst ([] : List V))) L2 = some (HO.lst ([] : List V)) from upd_same (H := upd (upd (upd (upd (upd H t1 (.tup [V.str "z"])) t2 (.tup [V.str "a", .str "b", .str "c", .str "d", .str "e", .str "f"])) t3 (.tup [V.str "a", .str "zz"])) t4 (.tup [V.str "zz", .str "zz"])) L (.lst [V.ref t1, .ref t2, .ref t3, .ref t4])))
    generalize upd (upd (upd (upd (upd (upd H t1 (.tup [V.str "z"])) t2 (.tup [V.str "a", .str "b", .str "c", .str "d", .str "e", .str "f"])) t3 (.tup [V.str "a", .str "zz"])) t4 (.tup [V.str "zz", .str "zz"])) L (.lst [V.ref t1, .ref t2, .ref t3, .ref t4])) L2 (.lst []) = H6 at *
    have four : ∀ (j : Nat) (x : V), [V.ref t1, V.ref t2, V.ref t3, V.ref t4][j]? = some x → ∃ t ws, x = .ref t ∧ SqT K H6 t (ws.map V.str) ∧ ws ∈ Ws51 := fun j x hx => by
      have hj : j < 4 := (List.getElem?_eq_some_iff.mp hx).1
      have : j = 0 ∨ j = 1 ∨ j = 2 ∨ j = 3 := by omega
      rcases this with rfl | rfl | rfl | rfl <;> cases hx
      · exact ⟨t1, ["z"], rfl, .inl (.inl q1), by decide⟩
      · exact ⟨t2, ["a", "b", "c", "d", "e", "f"], rfl, .inl (.inl q2), by decide⟩
      · exact ⟨t3, ["a", "zz"], rfl, .inl (.inl q3), by decide⟩
      · exact ⟨t4, ["zz", "zz"], rfl, .inl (.inl q4), by decide⟩
    clear s1 s2 s3 s4 s5 s6 s46 s36 s26 q1 q2 q3 q4
    refine ⟨_, rfl, L, _, rfl, .inl (.inl qL), ?_⟩
    refine for_enum (K := K) (tb := body51 K C Cf TA TV) (a := L) (xs := [V.ref t1, V.ref t2, V.ref t3, V.ref t4]) (fun i σ H' => ∃ (z3 z4 z5 : Option V) (ys : List V), σ = [some (.ref p), some (.ref L), some (.ref L2), z3, z4, z5] ∧ FrAt K C H' p R ∧ H' L = some (.lst [V.ref t1, .ref t2, .ref t3, .ref t4]) ∧ Tups K H6 H' ∧ H' L2 = some (.lst ys) ∧ ys.length = i) ⟨_, _, _, [], rfl, fr6, qL, fun _ _ h => h, qE, rfl⟩ (fun _ _ _ ⟨_, _, _, _, _, _, h, _⟩ => .inl (.inl h)) ?_ ?_
    · rintro i x σ H7 t hx ⟨z3, z4, z5, ys, rfl, fr7, qL7, tp7, qE7, ly⟩ ht
      obtain ⟨tw, ws, rfl, sq, hw⟩ := four i x hx
      have hi : i < 4 := (List.getElem?_eq_some_iff.mp hx).1
      obtain ⟨⟨w0, w6⟩, wn⟩ := Ws51_nm ws hw
      have s8 := same_new (o := .tup [V.int (i : Nat), .ref tw]) ht
      have fr8 := fr7.same s8
      obtain ⟨okP, dx, fs, uA, uP, uV, aK, g1, g2, g3, g4, g5, g6, g7⟩ := id fr8
      obtain ⟨e1, e2, e3⟩ := sT (upd H7 t (.tup [V.int (i : Nat), .ref tw]))
      have no : okB ⟨R.arrays ++ [], R.pos ++ ws, R.vals ++ []⟩ = false := by
        cases e : okB ⟨R.arrays ++ [], R.pos ++ ws, R.vals ++ []⟩ with
        | false => rfl
        | true =>
          have := (ok_lens e).2.1
          rw [List.length_append] at this
          omega
      have nm : PaNm ⟨R.arrays ++ [], R.pos ++ ws, R.vals ++ []⟩ := by
        have h1 := okP.na
        have h2 := okP.np
        have h3 := okP.nv
        refine ⟨by simp only [List.append_nil]; omega, by simp only [List.length_append]; omega, by simp only [List.append_nil]; omega, fun x hx => ?_⟩
        have h4 : x ∈ wordsL R ∨ x ∈ ws := by
          unfold wordsL at hx ⊢
          simp only [List.append_nil, List.mem_append] at hx ⊢
          rcases hx with h | (h | h) | h
          · exact .inl (.inl h)
          · exact .inl (.inr (.inl h))
          · exact .inr h
          · exact .inl (.inr (.inr h))
        rcases h4 with h4 | h4
        · exact nm_len (okP.nm x (words_mem.mp h4))
        · exact wn x h4
      refine ⟨t, _, rfl, .inl (.inl upd_same), rfl, _, _, rfl, _, _, rfl, rfl, ?_⟩
      refine ⟨_, rfl, p, dx, fs, rfl, g1, g6 _ (by decide +kernel), _, rfl, rfl, rfl, p, TA, tw, TV, R, ⟨[], ws, []⟩, rfl, fr8, .tup e1 .nil, dS_tup (Tups.same s8 _ _ (tp7 _ _ sq)), .tup e3 .nil, nm, fun _ H9 s9 => ?_, fun e => (by rw [no] at e; cases e)⟩
      refine ⟨true, O.e, fun _ a ha => ?_, fun z => nomatch z⟩
      have qE9 := s9 _ _ (s8 _ _ qE7)
      have hs : (Str.ofString (toString (i : Int))).length ≤ 1 ∧ ((i : Int)).natAbs.log2 < 1920 := by
        have : i = 0 ∨ i = 1 ∨ i = 2 ∨ i = 3 := by omega
        rcases this with rfl | rfl | rfl | rfl <;> exact ⟨by decide +kernel, by decide +kernel⟩
      refine ⟨_, rfl, .inl ⟨rfl, _, .inl (.inl qE9)⟩, _, rfl, _, rfl, hs.2, _, _, rfl, rfl, by rw [sl]; have : ("positions " : Str).length = 10 := rfl; have := hs.1; omega, L2, ys, _, rfl, rfl, qE9, by rw [sl]; omega, ?_⟩
      have t9 := (Tups.same (K := K) (s8.trans s9)).trans (upd_lst (K := K) (ys := ys ++ [.str ((Str.ofString "positions ") ++ Str.ofString (toString (i : Int)))]) qE9)
      exact ⟨_, _, _, _, rfl, (fr8.same s9).upd qE9, (upd_ne nL).trans (s9 _ _ (s8 _ _ qL7)), fun a b h => t9 a b (tp7 a b h), upd_same, by rw [List.length_append, ly]; rfl⟩
    · rintro σ H7 ⟨z3, z4, z5, ys, rfl, fr7, qL7, tp7, qE7, ly⟩
      exact ⟨_, rfl, q _ L2 ys qE7 ly⟩
end
end Fc
namespace Fc
open PySem L2 PyProof.Rows
def spLaw (K : PySem.W.Frag) : Sp := fun vs H Q _ => ∃ (ns : List Int) (a : Addr), vs = [.ref a] ∧ SqL K H a (ns.map V.int) ∧ ns.length ≤ 63 ∧ ∀ H', Q (.bl true) H'
def W0 : Pa := ⟨[("a", "n"), ("b", "n"), ("c", "m")], ["i"], []⟩
def NS0 : List (Str × Str) := [("n", "i"), ("i", "n"), ("a", "b"), ("b", "a")]
theorem W0_ok : okB W0 = true := by decide +kernel
theorem W0_nm : PaNm W0 := ⟨by decide, by decide, by decide, by decide +kernel⟩
theorem NS0_ok : RenOk W0 NS0 := ⟨by decide, by decide +kernel, by decide +kernel, by decide +kernel⟩
theorem W0_ren : renB W0 NS0 = true := by decide +kernel
theorem W0_text : showF (renP NS0 W0) = "b:i a:i c:m | n | -" := by decide +kernel
def Wx : Pa := ⟨W0.arrays ++ [], W0.pos ++ signs "opqrstu", W0.vals ++ []⟩
theorem Wx_ok : okB Wx = true := by decide +kernel
theorem Wx_nm : PaNm Wx := ⟨by decide +kernel, by decide +kernel, by decide +kernel, by decide +kernel⟩
theorem Wx_len : (namesL Wx).length = 13 := by decide +kernel
theorem Wx_pos : Wx.pos.length = 8 := by decide +kernel
theorem ButSG.seq0 {K : PySem.W.Frag} {S G p : Addr} {H H1 H' : Hp} {xs : List V} (s : Same H H1) (nS : H S = none) (nG : H G = none) (b : ButSG S G H1 H') (h : SqL K H p xs) : SqL K H' p xs := by
  rcases h with (h | ⟨o, h⟩) | h
  · exact .inl (.inl (b _ _ (ne_of_none h nS) (ne_of_none h nG) (s _ _ h)))
  · exact .inl (.inr ⟨o, b _ _ (ne_of_none h nS) (ne_of_none h nG) (s _ _ h)⟩)
  · exact .inr h
section
variable {K : PySem.W.Frag} {mg : Str → Option Value} {base : Heap} {P : Program} {w : World}
abbrev n52 : List Str := ["_law_script", "_law_cases", "_law_at", "_law_frame_here", "_law_told", "_law_wide"]
theorem sc52 : FnScope n52 ["_law_script"] (defScope (topS 52)) := ⟨rfl, rfl, rfl, by decide +kernel, rfl, by decide +kernel, by decide +kernel⟩
abbrev rLenO (K : PySem.W.Frag) (C : Addr) : List V → Hp → VK → Prop := fun xs H Q => ∃ a dx fs, xs = [.ref a] ∧ H a = some (.ins C dx fs) ∧ spLenF K C [.ref a] H (fun v H' => ∃ n : Int, v = .int n ∧ (0 ≤ n ∧ n < 2 ^ 63) ∧ Q (.int n) H') E0
theorem ok52 {f C Cf Ct Co : Addr} {fd : FuncData} (F : Fun K "law" "law" (topS 52) f fd) (B : Blt mg) (T : FrTxt K mg C) (MF : MkFr P w K mg base C Cf) (ML : OwnM P w K mg base 1 C "__len__" (spLenF K C)) (MS : OwnM P w K mg base 3 C "__str__" (spStrF K C)) (MW : MWith P w K mg base C Cf) (MR : MRen P w K mg base C Co) (MH : MShift P w K mg base C Ct)
    (M8 : MJud P w K mg base 4 C "is_position_term" (spIsPos K w C)) (c33 : Cal P w K mg base 1 "_law_skein" (spSkein K)) (c50 : CalG P w K mg base 10 "_law_right" (spRight K)) (c51 : Cal P w K mg base 6 "_law_refused" (spRefused K C)) : FnG P w K mg base 11 f fd ["_law_script"] (spLaw K) := by
  refine okG F sc52 (fun vs H Q E h => ?_) (fun cdv A outer s H vs Q E hgd hr h => ?_)
  · obtain ⟨ns, a, rfl, _⟩ := h
    rfl
  · have hu := hu70 hr
    obtain ⟨g, gd, g1, g2, TA, TP, TV, ds, mt, F5, kb, kb2, vd, bd, sT⟩ := MW.at_
    obtain ⟨fR, fdR, psR, mR, FR, bR⟩ := MR.at_
    obtain ⟨fH, fdH, psH, mH, FH, bH⟩ := MH.at_
    obtain ⟨f8, fd8, h8, T8, ds8, m8, F8, kb8, v8, b8, t8⟩ := M8.at_
    refine ⟨_, (pss_cons (ps_set (i := 1) sc52.nd rfl (Or.inl rfl) (pe_callB (call_max2 rfl) (by rfl) B.max boot_max (pa_cons pe_int (pa_cons (pe_callB (call_min2 rfl) (by rfl) B.min boot_min (pa_cons pe_int (pa_cons (pe_callB call_len_seq (by rfl) B.len boot_len (pa_cons (pv 0) pa_nil)) pa_nil))) pa_nil)))) (pss_cons (ps_for PassesOwn.never rfl (pi_range1 (by rfl) B.range (pa_cons (pv 1) pa_nil)) (pg_name (i := 2) sc52.nd rfl (Or.inl rfl)) (pss_one (ps_if (pt_not (pt_val (pe_cg c50 hgd hr (by decide) (by rfl) (pa_cons (pe_c c33 hr (by decide) (by rfl) (pa_cons (pv 0) (pa_cons (pv 2) (pa_cons (pv 1) pa_nil)))) pa_nil)))) (pss_one (ps_ret pe_bl)) pss_nil))) (pss_cons (ps_set (i := 3) sc52.nd rfl (Or.inl rfl) (pe_mkE (E := E0) MF hr (by decide) (by rfl) passL (pa_cons (pe_tup (pa_cons (pe_tup (pa_cons pe_str (pa_cons pe_str pa_nil))) (pa_cons (pe_tup (pa_cons pe_str (pa_cons pe_str pa_nil))) (pa_cons (pe_tup (pa_cons pe_str (pa_cons pe_str pa_nil))) pa_nil)))) (pa_cons (pe_tup (pa_cons pe_str pa_nil)) (pa_cons (pe_tup pa_nil) pa_nil))))) (pss_cons (ps_set (i := 4) sc52.nd rfl (Or.inl rfl) (pe_lst (pa_cons (pe_callTy (r := rStrO K C) (call_strO MS (hr.mono (by decide))) (by rfl) B.str boot_str (pa_cons (pe_meth (pv 3) T.cl mR FR (hr.mono (by decide)) bR .nil passL (pa_cons (pe_disp (pps_cons pe_str pe_str (pps_cons pe_str pe_str (pps_cons pe_str pe_str (pps_cons pe_str pe_str pps_nil)))) rfl rfl (fun h => nomatch h) (Nat.le_of_ble_eq_true rfl)) pa_nil)) pa_nil)) (pa_cons (pe_meth (pv 3) T.cl mH FH (hr.mono (by decide)) bH .nil passL (pa_cons (pe_tup (pa_cons pe_str (pa_cons pe_str (pa_cons pe_int (pa_cons (pe_un un_neg pe_int) pa_nil))))) (pa_cons pe_int pa_nil))) pa_nil)))) (pss_cons (ps_if (pw_or (pt_cmpR (op_neP (hu64 hu)) (pv 4) (pe_lst (pa_cons pe_str (pa_cons (pe_tup (pa_cons pe_str (pa_cons pe_str (pa_cons pe_int (pa_cons pe_int pa_nil))))) pa_nil))) (nomark _)) (pw_or1 (pt_not (pt_val (pe_meth (pv 3) T.cl m8 F8 (hr.mono (by decide)) b8 v8 pass0 (pa_cons (pe_tup (pa_cons pe_str (pa_cons (pe_un un_neg pe_int) pa_nil))) pa_nil)))))).pt (pss_one (ps_ret pe_bl)) pss_nil) (pss_cons (ps_set (i := 5) sc52.nd rfl (Or.inl rfl) (pe_methNE0 (E := fun _ => E0) (pv 3) T.cl mt F5 (hr.mono (by decide)) kb2 (fun σ pins H s e s1 I c => passLN pins σ H s e s1 I c) (pk_cons (pe_callTy (call_tupS rfl) (by rfl) B.tuple boot_tuple (pa_cons pe_str pa_nil)) pk_nil))) (pss_one (ps_ret (pe_and (pe_cmpR op_eq (pe_callB (r := rLenO K C) (call_lenO ML (hr.mono (by decide))) (by rfl) B.len boot_len (pa_cons (pv 5) pa_nil)) pe_int (nomark _)) (pe_one (pe_cmpR op_eq (pe_callB call_len_seq (by rfl) B.len boot_len (pa_cons (pe_c c51 hr (by decide) (by rfl) (pa_cons (pv 5) pa_nil)) pa_nil)) pe_int (nomark _)))))))))))), ?_⟩
    obtain ⟨ns, a, rfl, hS, hl, q⟩ := h
    have sl : sizeLine = 16777216 := sizeLine_eq
    refine ⟨_, rfl, a, _, rfl, .inl hS, _, _, rfl, _, _, rfl, ?_⟩
    obtain ⟨c, hc, c0, c3⟩ : ∃ c : Int, c = (if (if (((ns.map V.int).length : Nat) : Int) < 3 then (((ns.map V.int).length : Nat) : Int) else 3) > 1 then (if (((ns.map V.int).length : Nat) : Int) < 3 then (((ns.map V.int).length : Nat) : Int) else 3) else 1) ∧ 1 ≤ c ∧ c ≤ 3 := by
      refine ⟨_, rfl, ?_, ?_⟩
      · split
        · omega
        · omega
      · split
        · split <;> omega
        · omega
    rw [← hc]
    clear hc
    refine ⟨_, rfl, _, rfl, by omega, by omega, ?_⟩
    refine for_steady steady_rng (fun i σ H' => (∃ z2 z3 z4 z5 : Option V, σ = [some (.ref a), some (.int c), z2, z3, z4, z5]) ∧ SqL K H' a (ns.map V.int)) ⟨⟨_, _, _, _, rfl⟩, hS⟩ (fun _ _ _ _ _ => trivial) ?_ ?_
    · rintro i σ H1 hi ⟨⟨z2, z3, z4, z5, rfl⟩, sq⟩
      have hi3 : i < 3 := Nat.lt_of_lt_of_le hi (by omega)
      refine ⟨_, rfl, _, rfl, _, rfl, a, ns, 0 + (i : Int), c, rfl, sq, by omega, by omega, by omega, by omega, fun H2 S G s2 sk nS nG => ⟨S, G, 0, rfl, sk, by decide, fun H3 b3 => ⟨_, rfl, iteF ?_⟩⟩⟩
      exact ⟨⟨_, _, _, _, rfl⟩, ButSG.seq0 s2 nS nG b3 sq⟩
    rintro σ H1 ⟨⟨z2, z3, z4, z5, rfl⟩, sq⟩
    -- a frame of one's own
    refine ⟨by rw [sl]; exact (by decide : 2 ≤ 16777216), fun u1 hu1 => ⟨by rw [sl]; exact (by decide : 2 ≤ 16777216), fun u2 hu2 => ⟨by rw [sl]; exact (by decide : 2 ≤ 16777216), fun u3 hu3 => ⟨by rw [sl]; exact (by decide : 3 ≤ 16777216), fun tA hA => ⟨by rw [sl]; exact (by decide : 1 ≤ 16777216), fun tP hP => ⟨Nat.zero_le _, fun tV hV => ?_⟩⟩⟩⟩⟩⟩
    have s1 := same_new (o := .tup [V.str "a", .str "n"]) hu1
    have s2 := same_new (o := .tup [V.str "b", .str "n"]) hu2
    have s3 := same_new (o := .tup [V.str "c", .str "m"]) hu3
    have s4 := same_new (o := .tup [V.ref u1, .ref u2, .ref u3]) hA
    have s5 := same_new (o := .tup [V.str "i"]) hP
    have s6 := same_new (o := .tup ([] : List V)) hV
    have d1 : Dp K _ (.ref u1) (.tuple [.str "a", .str "n"]) := dp_mono ((((s2.trans s3).trans s4).trans s5).trans s6) _ _ (.tup (.inl (.inl upd_same)) (.cons (.str _) (.cons (.str _) .nil)))
    have d2 : Dp K _ (.ref u2) (.tuple [.str "b", .str "n"]) := dp_mono (((s3.trans s4).trans s5).trans s6) _ _ (.tup (.inl (.inl upd_same)) (.cons (.str _) (.cons (.str _) .nil)))
    have d3 : Dp K _ (.ref u3) (.tuple [.str "c", .str "m"]) := dp_mono ((s4.trans s5).trans s6) _ _ (.tup (.inl (.inl upd_same)) (.cons (.str _) (.cons (.str _) .nil)))
    have dA0 : Dp K _ (.ref tA) (dA W0.arrays) := .tup (.inl (.inl ((s5.trans s6) _ _ upd_same))) (.cons d1 (.cons d2 (.cons d3 .nil)))
    have dP0 : Dp K _ (.ref tP) (dS W0.pos) := .tup (.inl (.inl (s6 _ _ upd_same))) (.cons (.str _) .nil)
    refine mk_i (C := C) (Cf := Cf) (Q := fun v H' => gName 3 v [some (.ref a), some (.int c), z2, z3, z4, z5] H' _) W0 dA0 dP0 (.tup (.inl (.inl upd_same)) .nil) W0_nm (fun e => (by rw [W0_ok] at e; cases e)) fun _ H2 p s7 np fr => ?_
    clear s1 s2 s3 s4 s5 s6 d1 d2 d3 dA0 dP0 s7 np hu1 hu2 hu3 hA hP hV sq hS
    obtain ⟨okP, dx, fs, uA, uP, uV, aK, g1, g2, g3, g4, g5, g6, g7⟩ := id fr
    -- other names for some
    refine ⟨_, rfl, p, dx, fs, rfl, g1, g6 _ (by decide +kernel), fun D hD => ⟨upd_same, kvK NS0, rfl, by decide, ?_⟩⟩
    rw [upd_upd, merge_kv0 NS0_ok.nd]
    have sD := same_new (o := .dK (kvK NS0)) hD
    refine ⟨p, D, W0, NS0, rfl, fr.same sD, upd_same, fr.apart hD sD, NS0_ok, fun e => (by rw [W0_ren] at e; cases e), fun _ H3 p3 s3 fr3 => ?_⟩
    obtain ⟨_, dx3, fs3, _, _, _, _, k3, _⟩ := id fr3
    refine ⟨p3, dx3, fs3, rfl, k3, p3, _, rfl, fr3, fun H4 s4 => ⟨_, rfl, ?_⟩⟩
    rw [W0_text]
    have s24 := (sD.trans s3).trans s4
    have fr4 := fr.same s24
    refine ⟨_, rfl, p, dx, fs, rfl, s24 _ _ g1, g6 _ (by decide +kernel), _, rfl, by rw [sl]; exact (by decide : 4 ≤ 16777216), fun t ht => ?_⟩
    have s5 := same_new (o := .tup [V.str "a", .str "i", .int 2, .int (-1)]) ht
    refine ⟨p, W0, .ref t, .tuple [.str "a", .str "i", .int 2, .int (-1)], 3, rfl, fr4.same s5, .inl (.tup (.inl (.inl upd_same)) (.cons (.str _) (.cons (.str _) (.cons (.int _) (.cons (.int _) .nil))))), fun _ => by decide +kernel, by decide +kernel, fun e => ?_, fun ds i e _ => ?_⟩
    · rw [show anyT W0 (.tuple [.str "a", .str "i", .int 2, .int (-1)]) = true by decide +kernel] at e
      cases e
    obtain ⟨rfl, rfl⟩ : ds = [.str "a", .str "i", .int 2] ∧ i = -1 := by
      have e2 : ([.str "a", .str "i", .int 2] : List PyData) ++ [.int (-1)] = ds ++ [.int i] := PyData.tuple.inj e
      obtain ⟨h1, h2⟩ := List.append_inj' e2 rfl
      refine ⟨h1.symm, ?_⟩
      have := (List.cons.inj h2).1
      exact (PyData.int.inj this).symm
    refine ⟨fun b => ?_, fun _ H6 p6 s6 d6 => ⟨by rw [sl]; exact (by decide : 2 ≤ 16777216), fun L hL => ?_⟩⟩
    · rw [show small (-1 + 3) = true by decide +kernel] at b
      cases b
    replace d6 : Dp K H6 (.ref p6) (.tuple [.str "a", .str "i", .int 2, .int 2]) := d6
    have s7 := same_new (o := .lst [V.str "b:i a:i c:m | n | -", .ref p6]) hL
    have hL7 : (upd H6 L (.lst [V.str "b:i a:i c:m | n | -", .ref p6])) L = some (.lst [V.str "b:i a:i c:m | n | -", .ref p6]) := upd_same
    have d7 := dp_mono s7 _ _ d6
    have fr7 := (fr4.same s5).same (s6.trans s7)
    have g17 := (s6.trans s7) _ _ (s5 _ _ (s24 _ _ g1))
    generalize upd H6 L (.lst [V.str "b:i a:i c:m | n | -", .ref p6]) = H7 at *
    clear s5 s6 s7 ht hL d6 fr4 s24 sD fr3 k3 s3 s4 hD fr g1 g7
    -- they are told rightly
    refine ⟨_, rfl, by rw [sl]; exact (by decide : 4 ≤ 16777216), fun t2 ht2 => ⟨by rw [sl]; exact (by decide : 2 ≤ 16777216), fun L2 hL2 => ?_⟩⟩
    have s8 := same_new (o := .tup [V.str "a", .str "i", .int 2, .int 2]) ht2
    have s9 := same_new (o := .lst [V.str "b:i a:i c:m | n | -", .ref t2]) hL2
    have s89 := s8.trans s9
    have dd : Dp K _ (.ref t2) (.tuple [.str "a", .str "i", .int 2, .int 2]) := dp_mono s9 _ _ (.tup (.inl (.inl upd_same)) (.cons (.str _) (.cons (.str _) (.cons (.int _) (.cons (.int _) .nil)))))
    refine ⟨.list [.str "b:i a:i c:m | n | -", .tuple [.str "a", .str "i", .int 2, .int 2]], .list [.str "b:i a:i c:m | n | -", .tuple [.str "a", .str "i", .int 2, .int 2]], .lst (.inl (.inl (s89 _ _ hL7))) (.cons (.str _) (.cons (dp_mono s89 _ _ d7) .nil)), .lst (.inl (.inl upd_same)) (.cons (.str _) (.cons dd .nil)), ⟨rfl, by decide +kernel⟩, ⟨rfl, by decide +kernel⟩, _, rfl, ?_⟩
    rw [show PyData.eqv (.list [.str "b:i a:i c:m | n | -", .tuple [.str "a", .str "i", .int 2, .int 2]]) (.list [.str "b:i a:i c:m | n | -", .tuple [.str "a", .str "i", .int 2, .int 2]]) = true by decide +kernel]
    refine iteF ⟨_, rfl, p, dx, fs, rfl, s89 _ _ g17, g6 _ (by decide +kernel), _, rfl, by rw [sl]; exact (by decide : 2 ≤ 16777216), fun t3 ht3 => ?_⟩
    have s10 := s89.trans (same_new (o := .tup [V.str "m", .int (-4)]) ht3)
    refine ⟨p, W0, .ref t3, .tuple [.str "m", .int (-4)], T8, [], rfl, fr7.same s10, .inl (.tup (.inl (.inl upd_same)) (.cons (.str _) (.cons (.int _) .nil))), t8 _, ownOk_nil _, fun H11 s11 => ⟨_, rfl, ?_⟩⟩
    rw [show lawPlace W0 [] (.tuple [.str "m", .int (-4)]) = true by decide +kernel]
    have s7b := s10.trans s11
    have fr11 := fr7.same s7b
    refine iteF ⟨_, rfl, p, dx, fs, rfl, s7b _ _ g17, g6 _ (by decide +kernel), "opqrstu", rfl, by decide +kernel, fun tp htp => ⟨rfl, rfl, ?_⟩⟩
    have s12 := same_new (o := .tup ((signs "opqrstu").map V.str)) htp
    obtain ⟨t1', t2', t3'⟩ := sT (upd H11 tp (.tup ((signs "opqrstu").map V.str)))
    refine ⟨p, TA, tp, TV, W0, ⟨[], signs "opqrstu", []⟩, rfl, fr11.same s12, .tup t1' .nil, dS_tup (.inl (.inl upd_same)), .tup t3' .nil, Wx_nm, fun e => ?_, fun _ H13 pw s13 frw => ?_⟩
    · have e2 : okB Wx = false := e
      rw [Wx_ok] at e2
      cases e2
    replace frw : FrAt K C H13 pw Wx := frw
    obtain ⟨_, dxw, fsw, _, _, _, _, kw, _⟩ := id frw
    refine ⟨_, rfl, pw, dxw, fsw, rfl, kw, pw, Wx, rfl, frw, _, rfl, by rw [Wx_len]; exact ⟨by decide, by decide⟩, rfl, _, rfl, ?_⟩
    rw [Wx_len, decide_eq_true (show V.int ((13 : Nat) : Int) = V.int 13 from rfl)]
    refine iteT ⟨_, rfl, pw, Wx, rfl, frw, Wx_pos, fun H14 L14 ys hL14 ly => ⟨L14, ys, rfl, .inl (.inl (.inl hL14)), rfl, ?_⟩⟩
    rw [ly, decide_eq_true (show V.int ((4 : Nat) : Int) = V.int 4 from rfl)]
    exact q _
end
end Fc
namespace Fc
open PySem L2 PyProof.Rows
/-! what the text says of the frames' class -/
theorem sqT_empty {K : PySem.W.Frag} {T : Addr} {od : Option Addr} {n : Nat} {sl : Array (Option Value)} (l : K.lookup T = some ⟨.type "tuple", od, .seq #[] n, sl⟩) (H : Hp) : SqT K H T [] := .inr ⟨_, #[], n, l, rfl, rfl, Nat.zero_le _, .nil⟩
section
variable {K : PySem.W.Frag} {f : Addr} {fd : FuncData} {T TA TP TV : Addr}
abbrev ps8 : List Str := ["self", "value", "own"]
theorem binds8 (F : FunD K "is_position_term" "Frame.is_position_term" (defArgs (mF 8)) (defBody (mF 8)) (defScope (mF 8)) [] [("own", .ref T)] f fd) : ∃ ds, Vals [V.ref T] ds ∧ Binds K fd ps8 ds :=
  F.binds0 (ps := ps8) 2 (fun h => nomatch h) rfl fun D doc pm an cdv ct us ks h1 h2 => match us, ks, h1, h2 with | [_, _], [_], _, _ => ⟨_, _, _, _, _, _, rfl, rfl, rfl⟩
theorem kb8 (F : FunD K "is_position_term" "Frame.is_position_term" (defArgs (mF 8)) (defBody (mF 8)) (defScope (mF 8)) [] [("own", .ref T)] f fd) : KBn K fd ps8 2 ["own"] (fun us ws => us ++ ws) (fun vs zs => vs ++ zs) :=
  (F.kbinds0 (ps := ps8) 2 ["own"] [] (fun us mv ws => us ++ ws) (fun h => nomatch h) (fun _ h => nomatch h) (fun a _ c => L2.Vals.append a c) fun D doc pm an cdv ct us mv ws h1 h2 h3 => match us, mv, ws, h1, h2, h3 with | [_, _], [], [_], _, _, _ => rfl).elim fun _ h => h
theorem binds9 (F : FunD K "is_value_term" "Frame.is_value_term" (defArgs (mF 9)) (defBody (mF 9)) (defScope (mF 9)) [] [("own", .ref T)] f fd) : ∃ ds, Vals [V.ref T] ds ∧ Binds K fd ps8 ds :=
  F.binds0 (ps := ps8) 2 (fun h => nomatch h) rfl fun D doc pm an cdv ct us ks h1 h2 => match us, ks, h1, h2 with | [_, _], [_], _, _ => ⟨_, _, _, _, _, _, rfl, rfl, rfl⟩
theorem kb9 (F : FunD K "is_value_term" "Frame.is_value_term" (defArgs (mF 9)) (defBody (mF 9)) (defScope (mF 9)) [] [("own", .ref T)] f fd) : KBn K fd ps8 2 ["own"] (fun us ws => us ++ ws) (fun vs zs => vs ++ zs) :=
  (F.kbinds0 (ps := ps8) 2 ["own"] [] (fun us mv ws => us ++ ws) (fun h => nomatch h) (fun _ h => nomatch h) (fun a _ c => L2.Vals.append a c) fun D doc pm an cdv ct us mv ws h1 h2 h3 => match us, mv, ws, h1, h2, h3 with | [_, _], [], [_], _, _, _ => rfl).elim fun _ h => h
abbrev ps11 : List Str := ["self", "arrays", "positions", "values"]
abbrev F11 (K : PySem.W.Frag) (TA TP TV f : Addr) (fd : FuncData) : Prop := FunD K "with_names" "Frame.with_names" (defArgs (mF 11)) (defBody (mF 11)) (defScope (mF 11)) [] [("arrays", .ref TA), ("positions", .ref TP), ("values", .ref TV)] f fd
theorem binds11 (F : F11 K TA TP TV f fd) : ∃ ds, Vals [V.ref TA, .ref TP, .ref TV] ds ∧ Binds K fd ps11 ds :=
  F.binds0 (ps := ps11) 1 (fun h => nomatch h) rfl fun D doc pm an cdv ct us ks h1 h2 => match us, ks, h1, h2 with | [_], [_, _, _], _, _ => ⟨_, _, _, _, _, _, rfl, rfl, ⟨_, _, _, _, _, _, rfl, rfl, ⟨_, _, _, _, _, _, rfl, rfl, rfl⟩⟩⟩
theorem vals_getD {zs : List V} {ws : List Value} (h : Vals zs ws) (i : Nat) : RelV (zs.getD i .non) (ws.getD i .none) := by
  have l := L2.Vals.length h
  by_cases c : i < zs.length
  · obtain ⟨u, hu, r⟩ := h.get (List.getElem?_eq_getElem c)
    rw [List.getD_eq_getElem?_getD, List.getD_eq_getElem?_getD, List.getElem?_eq_getElem c, hu]
    exact r
  · rw [List.getD_eq_getElem?_getD, List.getD_eq_getElem?_getD, List.getElem?_eq_none (by omega), List.getElem?_eq_none (by omega)]
    rfl
theorem kb11 (F : F11 K TA TP TV f fd) : KBn K fd ps11 1 ["positions", "arrays", "values"] (fun us ws => us ++ [ws.getD 1 .none, ws.getD 0 .none, ws.getD 2 .none]) (fun vs zs => vs ++ [zs.getD 1 .non, zs.getD 0 .non, zs.getD 2 .non]) := by
  obtain ⟨oc, od, dV, kV, doc, pm, an, cdv, ct, osl, rfl, lk, hcd, hD, hK⟩ := F.ex
  rcases hD with ⟨_, rfl⟩ | ⟨e, _⟩
  · refine ⟨fun s us ws X l1 l2 => ?_, fun r1 r2 => L2.Vals.append r1 (.cons (vals_getD r2 1) (.cons (vals_getD r2 0) (.cons (vals_getD r2 2) .nil)))⟩
    match us, ws, l1, l2 with
    | [_], [_, _, _], _, _ => exact .of_eq rfl
  · exact absurd rfl e
theorem kb12 (F : F11 K TA TP TV f fd) : KBn K fd ps11 1 ["positions"] (fun us ws => us ++ [.ref TA, ws.getD 0 .none, .ref TV]) (fun vs zs => vs ++ [.ref TA, zs.getD 0 .non, .ref TV]) := by
  obtain ⟨oc, od, dV, kV, doc, pm, an, cdv, ct, osl, rfl, lk, hcd, hD, hK⟩ := F.ex
  rcases hD with ⟨_, rfl⟩ | ⟨e, _⟩
  · rcases hK with e | ⟨D, rfl, hq⟩
    · cases e
    · obtain ⟨uA, nA, rA⟩ := hq ("arrays", .ref TA) List.mem_cons_self
      obtain ⟨uV, nV, rV⟩ := hq ("values", .ref TV) (List.mem_cons_of_mem _ (List.mem_cons_of_mem _ List.mem_cons_self))
      obtain rfl : uA = Value.ref TA := rA
      obtain rfl : uV = Value.ref TV := rV
      refine ⟨fun s us ws X l1 l2 => ?_, fun r1 r2 => L2.Vals.append r1 (.cons rfl (.cons (vals_getD r2 0) (.cons rfl .nil)))⟩
      match us, ws, l1, l2 with
      | [_], [_], _, _ =>
        refine BindsTo.of_looks fun M => KwChain.looks (l := [("arrays", .ref TA), ("values", .ref TV)]) X (fun q h => ?_) ⟨_, _, _, _, _, _, rfl, rfl, ⟨_, _, _, _, _, _, rfl, rfl, rfl⟩⟩
        rcases List.mem_cons.mp h with rfl | h
        · exact nA
        · rw [List.mem_singleton.mp h]
          exact nV
  · exact absurd rfl e
end
end Fc
namespace Fc
open PySem L2 L2H PyProof.Rows
theorem all_mk {P : Program} {w : World} {K : PySem.W.Frag} {h : Heap} {mg : Str → Option Value} {fa : Addr} (X : K.In h) (G : h.Ns mainGlobals mg) (hfa : mg "law" = some (.ref fa))
    {f8 f9 f11 f12 f13 f14 f15 f16 f21 f24 f23 f27 f28 f29 f30 f31 f26 f25 f33 f34 f35 f36 f37 f38 f39 f40 f41 f42 f43 f44 f45 f46 f47 f48 f49 f50 f51 f52 fM0 fM7 fM8 fM9 fM10 fM11 fM12 fM14 fM15 fM16 C Cf Ct Co D8 D9 D11 T8 T9 TA TP TV : Addr} {od8 od9 od11 od12 od13 od14 od15 od16 od21 od24 od23 od27 od28 od29 od30 od31 od26 od25 od33 od34 od35 od36 od37 od38 od39 od40 od41 od42 od43 od44 od45 od46 od47 od48 od49 od50 od51 od52 odM0 odM7 odM8 odM9 odM10 odM11 odM12 odM14 odM15 odM16 odT8 odT9 odTA odTP odTV : Option Addr} {an8 an9 an11 an12 an13 an14 an15 an16 an21 an24 an23 an27 an28 an29 an30 an31 an26 an25 an33 an34 an35 an36 an37 an38 an39 an40 an41 an42 an43 an44 an45 an46 an47 an48 an49 an50 an51 an52 anM0 anM7 anM8 anM9 anM10 anM11 anM12 anM14 anM15 anM16 : Option Addr} {sl8 sl9 sl11 sl12 sl13 sl14 sl15 sl16 sl21 sl24 sl23 sl27 sl28 sl29 sl30 sl31 sl26 sl25 sl33 sl34 sl35 sl36 sl37 sl38 sl39 sl40 sl41 sl42 sl43 sl44 sl45 sl46 sl47 sl48 sl49 sl50 sl51 sl52 slM0 slM7 slM8 slM9 slM10 slM11 slM12 slM14 slM15 slM16 slT8 slT9 slTA slTP slTV : Array (Option Value)} {zT8 zT9 zTA zTP zTV : Nat}
    {oc8 dc8 pm8 cd8 ct8 oc9 dc9 pm9 cd9 ct9 oc11 dc11 pm11 cd11 ct11 oc12 dc12 pm12 cd12 ct12 oc13 dc13 pm13 cd13 ct13 oc14 dc14 pm14 cd14 ct14 oc15 dc15 pm15 cd15 ct15 oc16 dc16 pm16 cd16 ct16 oc21 dc21 pm21 cd21 ct21 oc24 dc24 pm24 cd24 ct24 oc23 dc23 pm23 cd23 ct23 oc27 dc27 pm27 cd27 ct27 oc28 dc28 pm28 cd28 ct28 oc29 dc29 pm29 cd29 ct29 oc30 dc30 pm30 cd30 ct30 oc31 dc31 pm31 cd31 ct31 oc26 dc26 pm26 cd26 ct26 oc25 dc25 pm25 cd25 ct25 oc33 dc33 pm33 cd33 ct33 oc34 dc34 pm34 cd34 ct34 oc35 dc35 pm35 cd35 ct35 oc36 dc36 pm36 cd36 ct36 oc37 dc37 pm37 cd37 ct37 oc38 dc38 pm38 cd38 ct38 oc39 dc39 pm39 cd39 ct39 oc40 dc40 pm40 cd40 ct40 oc41 dc41 pm41 cd41 ct41 oc42 dc42 pm42 cd42 ct42 oc43 dc43 pm43 cd43 ct43 oc44 dc44 pm44 cd44 ct44 oc45 dc45 pm45 cd45 ct45 oc46 dc46 pm46 cd46 ct46 oc47 dc47 pm47 cd47 ct47 oc48 dc48 pm48 cd48 ct48 oc49 dc49 pm49 cd49 ct49 oc50 dc50 pm50 cd50 ct50 oc51 dc51 pm51 cd51 ct51 oc52 dc52 pm52 cd52 ct52 ocM0 dcM0 pmM0 cdM0 ctM0 ocM7 dcM7 pmM7 cdM7 ctM7 ocM8 dcM8 pmM8 cdM8 ctM8 ocM9 dcM9 pmM9 cdM9 ctM9 ocM10 dcM10 pmM10 cdM10 ctM10 ocM11 dcM11 pmM11 cdM11 ctM11 ocM12 dcM12 pmM12 cdM12 ctM12 ocM14 dcM14 pmM14 cdM14 ctM14 ocM15 dcM15 pmM15 cdM15 ctM15 ocM16 dcM16 pmM16 cdM16 ctM16 kV8 kV9 kV11 kV12 kV13 kV14 kV15 kV16 kV21 kV24 kV23 kV27 kV28 kV29 kV30 kV31 kV26 kV25 kV33 kV34 kV35 kV36 kV37 kV38 kV39 kV40 kV41 kV42 kV43 kV44 kV45 kV46 kV47 kV48 kV49 kV50 kV51 kV52 kVM0 kVM7 kVM10 kVM12 kVM14 kVM15 kVM16 : Value} {t12 tp8 tv6 : Tok}
    (a8 : PySem.W.nsIn K mainGlobals "is_any_integer" = some (some (.ref f8))) (l8 : K.lookup f8 = some ⟨oc8, od8, .func (PySem.W.fnOf "is_any_integer" "is_any_integer" (defArgs (topS 8)) (defBody (topS 8)) (defScope (topS 8)) .none kV8 dc8 pm8 an8 cd8 ct8), sl8⟩) (c8 : PySem.W.codeIn K cd8 "is_any_integer" = true) (k8 : PySem.W.keepIn K (.ref f8) = true)
    (a9 : PySem.W.nsIn K mainGlobals "is_passed_integer" = some (some (.ref f9))) (l9 : K.lookup f9 = some ⟨oc9, od9, .func (PySem.W.fnOf "is_passed_integer" "is_passed_integer" (defArgs (topS 9)) (defBody (topS 9)) (defScope (topS 9)) .none kV9 dc9 pm9 an9 cd9 ct9), sl9⟩) (c9 : PySem.W.codeIn K cd9 "is_passed_integer" = true) (k9 : PySem.W.keepIn K (.ref f9) = true)
    (a11 : PySem.W.nsIn K mainGlobals "kind_among" = some (some (.ref f11))) (l11 : K.lookup f11 = some ⟨oc11, od11, .func (PySem.W.fnOf "kind_among" "kind_among" (defArgs (topS 11)) (defBody (topS 11)) (defScope (topS 11)) .none kV11 dc11 pm11 an11 cd11 ct11), sl11⟩) (c11 : PySem.W.codeIn K cd11 "kind_among" = true) (k11 : PySem.W.keepIn K (.ref f11) = true)
    (a12 : PySem.W.nsIn K mainGlobals "is_place_word" = some (some (.ref f12))) (l12 : K.lookup f12 = some ⟨oc12, od12, .func (PySem.W.fnOf "is_place_word" "is_place_word" (defArgs (topS 12)) (defBody (topS 12)) (defScope (topS 12)) .none kV12 dc12 pm12 an12 cd12 ct12), sl12⟩) (c12 : PySem.W.codeIn K cd12 "is_place_word" = true) (k12 : PySem.W.keepIn K (.ref f12) = true)
    (a13 : PySem.W.nsIn K mainGlobals "is_position_pair" = some (some (.ref f13))) (l13 : K.lookup f13 = some ⟨oc13, od13, .func (PySem.W.fnOf "is_position_pair" "is_position_pair" (defArgs (topS 13)) (defBody (topS 13)) (defScope (topS 13)) .none kV13 dc13 pm13 an13 cd13 ct13), sl13⟩) (c13 : PySem.W.codeIn K cd13 "is_position_pair" = true) (k13 : PySem.W.keepIn K (.ref f13) = true)
    (a14 : PySem.W.nsIn K mainGlobals "is_cell" = some (some (.ref f14))) (l14 : K.lookup f14 = some ⟨oc14, od14, .func (PySem.W.fnOf "is_cell" "is_cell" (defArgs (topS 14)) (defBody (topS 14)) (defScope (topS 14)) .none kV14 dc14 pm14 an14 cd14 ct14), sl14⟩) (c14 : PySem.W.codeIn K cd14 "is_cell" = true) (k14 : PySem.W.keepIn K (.ref f14) = true)
    (a15 : PySem.W.nsIn K mainGlobals "is_amount_pair" = some (some (.ref f15))) (l15 : K.lookup f15 = some ⟨oc15, od15, .func (PySem.W.fnOf "is_amount_pair" "is_amount_pair" (defArgs (topS 15)) (defBody (topS 15)) (defScope (topS 15)) .none kV15 dc15 pm15 an15 cd15 ct15), sl15⟩) (c15 : PySem.W.codeIn K cd15 "is_amount_pair" = true) (k15 : PySem.W.keepIn K (.ref f15) = true)
    (a16 : PySem.W.nsIn K mainGlobals "shifted_term" = some (some (.ref f16))) (l16 : K.lookup f16 = some ⟨oc16, od16, .func (PySem.W.fnOf "shifted_term" "shifted_term" (defArgs (topS 16)) (defBody (topS 16)) (defScope (topS 16)) .none kV16 dc16 pm16 an16 cd16 ct16), sl16⟩) (c16 : PySem.W.codeIn K cd16 "shifted_term" = true) (k16 : PySem.W.keepIn K (.ref f16) = true)
    (a21 : PySem.W.nsIn K mainGlobals "is_name" = some (some (.ref f21))) (l21 : K.lookup f21 = some ⟨oc21, od21, .func (PySem.W.fnOf "is_name" "is_name" (defArgs (topS 21)) (defBody (topS 21)) (defScope (topS 21)) .none kV21 dc21 pm21 an21 cd21 ct21), sl21⟩) (c21 : PySem.W.codeIn K cd21 "is_name" = true) (k21 : PySem.W.keepIn K (.ref f21) = true)
    (a24 : PySem.W.nsIn K mainGlobals "shown_words" = some (some (.ref f24))) (l24 : K.lookup f24 = some ⟨oc24, od24, .func (PySem.W.fnOf "shown_words" "shown_words" (defArgs (topS 24)) (defBody (topS 24)) (defScope (topS 24)) .none kV24 dc24 pm24 an24 cd24 ct24), sl24⟩) (c24 : PySem.W.codeIn K cd24 "shown_words" = true) (k24 : PySem.W.keepIn K (.ref f24) = true)
    (a23 : PySem.W.nsIn K mainGlobals "shown_pairs" = some (some (.ref f23))) (l23 : K.lookup f23 = some ⟨oc23, od23, .func (PySem.W.fnOf "shown_pairs" "shown_pairs" (defArgs (topS 23)) (defBody (topS 23)) (defScope (topS 23)) .none kV23 dc23 pm23 an23 cd23 ct23), sl23⟩) (c23 : PySem.W.codeIn K cd23 "shown_pairs" = true) (k23 : PySem.W.keepIn K (.ref f23) = true)
    (a27 : PySem.W.nsIn K mainGlobals "are_pairs" = some (some (.ref f27))) (l27 : K.lookup f27 = some ⟨oc27, od27, .func (PySem.W.fnOf "are_pairs" "are_pairs" (defArgs (topS 27)) (defBody (topS 27)) (defScope (topS 27)) .none kV27 dc27 pm27 an27 cd27 ct27), sl27⟩) (c27 : PySem.W.codeIn K cd27 "are_pairs" = true) (k27 : PySem.W.keepIn K (.ref f27) = true)
    (a28 : PySem.W.nsIn K mainGlobals "different_lengths" = some (some (.ref f28))) (l28 : K.lookup f28 = some ⟨oc28, od28, .func (PySem.W.fnOf "different_lengths" "different_lengths" (defArgs (topS 28)) (defBody (topS 28)) (defScope (topS 28)) .none kV28 dc28 pm28 an28 cd28 ct28), sl28⟩) (c28 : PySem.W.codeIn K cd28 "different_lengths" = true) (k28 : PySem.W.keepIn K (.ref f28) = true)
    (a29 : PySem.W.nsIn K mainGlobals "is_frame_content" = some (some (.ref f29))) (l29 : K.lookup f29 = some ⟨oc29, od29, .func (PySem.W.fnOf "is_frame_content" "is_frame_content" (defArgs (topS 29)) (defBody (topS 29)) (defScope (topS 29)) .none kV29 dc29 pm29 an29 cd29 ct29), sl29⟩) (c29 : PySem.W.codeIn K cd29 "is_frame_content" = true) (k29 : PySem.W.keepIn K (.ref f29) = true)
    (a30 : PySem.W.nsIn K mainGlobals "kinds_of_names" = some (some (.ref f30))) (l30 : K.lookup f30 = some ⟨oc30, od30, .func (PySem.W.fnOf "kinds_of_names" "kinds_of_names" (defArgs (topS 30)) (defBody (topS 30)) (defScope (topS 30)) .none kV30 dc30 pm30 an30 cd30 ct30), sl30⟩) (c30 : PySem.W.codeIn K cd30 "kinds_of_names" = true) (k30 : PySem.W.keepIn K (.ref f30) = true)
    (a31 : PySem.W.nsIn K mainGlobals "is_renaming" = some (some (.ref f31))) (l31 : K.lookup f31 = some ⟨oc31, od31, .func (PySem.W.fnOf "is_renaming" "is_renaming" (defArgs (topS 31)) (defBody (topS 31)) (defScope (topS 31)) .none kV31 dc31 pm31 an31 cd31 ct31), sl31⟩) (c31 : PySem.W.codeIn K cd31 "is_renaming" = true) (k31 : PySem.W.keepIn K (.ref f31) = true)
    (a26 : PySem.W.nsIn K mainGlobals "are_own_names" = some (some (.ref f26))) (l26 : K.lookup f26 = some ⟨oc26, od26, .func (PySem.W.fnOf "are_own_names" "are_own_names" (defArgs (topS 26)) (defBody (topS 26)) (defScope (topS 26)) .none kV26 dc26 pm26 an26 cd26 ct26), sl26⟩) (c26 : PySem.W.codeIn K cd26 "are_own_names" = true) (k26 : PySem.W.keepIn K (.ref f26) = true)
    (a25 : PySem.W.nsIn K mainGlobals "is_any_term" = some (some (.ref f25))) (l25 : K.lookup f25 = some ⟨oc25, od25, .func (PySem.W.fnOf "is_any_term" "is_any_term" (defArgs (topS 25)) (defBody (topS 25)) (defScope (topS 25)) .none kV25 dc25 pm25 an25 cd25 ct25), sl25⟩) (c25 : PySem.W.codeIn K cd25 "is_any_term" = true) (k25 : PySem.W.keepIn K (.ref f25) = true)
    (a33 : PySem.W.nsIn K mainGlobals "_law_skein" = some (some (.ref f33))) (l33 : K.lookup f33 = some ⟨oc33, od33, .func (PySem.W.fnOf "_law_skein" "_law_skein" (defArgs (topS 33)) (defBody (topS 33)) (defScope (topS 33)) .none kV33 dc33 pm33 an33 cd33 ct33), sl33⟩) (c33 : PySem.W.codeIn K cd33 "_law_skein" = true) (k33 : PySem.W.keepIn K (.ref f33) = true)
    (a34 : PySem.W.nsIn K mainGlobals "_law_pull" = some (some (.ref f34))) (l34 : K.lookup f34 = some ⟨oc34, od34, .func (PySem.W.fnOf "_law_pull" "_law_pull" (defArgs (topS 34)) (defBody (topS 34)) (defScope (topS 34)) .none kV34 dc34 pm34 an34 cd34 ct34), sl34⟩) (c34 : PySem.W.codeIn K cd34 "_law_pull" = true) (k34 : PySem.W.keepIn K (.ref f34) = true)
    (a35 : PySem.W.nsIn K mainGlobals "_law_one_of" = some (some (.ref f35))) (l35 : K.lookup f35 = some ⟨oc35, od35, .func (PySem.W.fnOf "_law_one_of" "_law_one_of" (defArgs (topS 35)) (defBody (topS 35)) (defScope (topS 35)) .none kV35 dc35 pm35 an35 cd35 ct35), sl35⟩) (c35 : PySem.W.codeIn K cd35 "_law_one_of" = true) (k35 : PySem.W.keepIn K (.ref f35) = true)
    (a36 : PySem.W.nsIn K mainGlobals "_law_few_of" = some (some (.ref f36))) (l36 : K.lookup f36 = some ⟨oc36, od36, .func (PySem.W.fnOf "_law_few_of" "_law_few_of" (defArgs (topS 36)) (defBody (topS 36)) (defScope (topS 36)) .none kV36 dc36 pm36 an36 cd36 ct36), sl36⟩) (c36 : PySem.W.codeIn K cd36 "_law_few_of" = true) (k36 : PySem.W.keepIn K (.ref f36) = true)
    (a37 : PySem.W.nsIn K mainGlobals "_law_parts" = some (some (.ref f37))) (l37 : K.lookup f37 = some ⟨oc37, od37, .func (PySem.W.fnOf "_law_parts" "_law_parts" (defArgs (topS 37)) (defBody (topS 37)) (defScope (topS 37)) .none kV37 dc37 pm37 an37 cd37 ct37), sl37⟩) (c37 : PySem.W.codeIn K cd37 "_law_parts" = true) (k37 : PySem.W.keepIn K (.ref f37) = true)
    (a38 : PySem.W.nsIn K mainGlobals "_law_lengths" = some (some (.ref f38))) (l38 : K.lookup f38 = some ⟨oc38, od38, .func (PySem.W.fnOf "_law_lengths" "_law_lengths" (defArgs (topS 38)) (defBody (topS 38)) (defScope (topS 38)) .none kV38 dc38 pm38 an38 cd38 ct38), sl38⟩) (c38 : PySem.W.codeIn K cd38 "_law_lengths" = true) (k38 : PySem.W.keepIn K (.ref f38) = true)
    (a39 : PySem.W.nsIn K mainGlobals "_law_frame" = some (some (.ref f39))) (l39 : K.lookup f39 = some ⟨oc39, od39, .func (PySem.W.fnOf "_law_frame" "_law_frame" (defArgs (topS 39)) (defBody (topS 39)) (defScope (topS 39)) .none kV39 dc39 pm39 an39 cd39 ct39), sl39⟩) (c39 : PySem.W.codeIn K cd39 "_law_frame" = true) (k39 : PySem.W.keepIn K (.ref f39) = true)
    (a40 : PySem.W.nsIn K mainGlobals "_law_all_of" = some (some (.ref f40))) (l40 : K.lookup f40 = some ⟨oc40, od40, .func (PySem.W.fnOf "_law_all_of" "_law_all_of" (defArgs (topS 40)) (defBody (topS 40)) (defScope (topS 40)) .none kV40 dc40 pm40 an40 cd40 ct40), sl40⟩) (c40 : PySem.W.codeIn K cd40 "_law_all_of" = true) (k40 : PySem.W.keepIn K (.ref f40) = true)
    (a41 : PySem.W.nsIn K mainGlobals "_law_is_number" = some (some (.ref f41))) (l41 : K.lookup f41 = some ⟨oc41, od41, .func (PySem.W.fnOf "_law_is_number" "_law_is_number" (defArgs (topS 41)) (defBody (topS 41)) (defScope (topS 41)) .none kV41 dc41 pm41 an41 cd41 ct41), sl41⟩) (c41 : PySem.W.codeIn K cd41 "_law_is_number" = true) (k41 : PySem.W.keepIn K (.ref f41) = true)
    (a42 : PySem.W.nsIn K mainGlobals "_law_is_place" = some (some (.ref f42))) (l42 : K.lookup f42 = some ⟨oc42, od42, .func (PySem.W.fnOf "_law_is_place" "_law_is_place" (defArgs (topS 42)) (defBody (topS 42)) (defScope (topS 42)) .none kV42 dc42 pm42 an42 cd42 ct42), sl42⟩) (c42 : PySem.W.codeIn K cd42 "_law_is_place" = true) (k42 : PySem.W.keepIn K (.ref f42) = true)
    (a43 : PySem.W.nsIn K mainGlobals "_law_is_worth" = some (some (.ref f43))) (l43 : K.lookup f43 = some ⟨oc43, od43, .func (PySem.W.fnOf "_law_is_worth" "_law_is_worth" (defArgs (topS 43)) (defBody (topS 43)) (defScope (topS 43)) .none kV43 dc43 pm43 an43 cd43 ct43), sl43⟩) (c43 : PySem.W.codeIn K cd43 "_law_is_worth" = true) (k43 : PySem.W.keepIn K (.ref f43) = true)
    (a44 : PySem.W.nsIn K mainGlobals "_law_term_near" = some (some (.ref f44))) (l44 : K.lookup f44 = some ⟨oc44, od44, .func (PySem.W.fnOf "_law_term_near" "_law_term_near" (defArgs (topS 44)) (defBody (topS 44)) (defScope (topS 44)) .none kV44 dc44 pm44 an44 cd44 ct44), sl44⟩) (c44 : PySem.W.codeIn K cd44 "_law_term_near" = true) (k44 : PySem.W.keepIn K (.ref f44) = true)
    (a45 : PySem.W.nsIn K mainGlobals "_law_shifted" = some (some (.ref f45))) (l45 : K.lookup f45 = some ⟨oc45, od45, .func (PySem.W.fnOf "_law_shifted" "_law_shifted" (defArgs (topS 45)) (defBody (topS 45)) (defScope (topS 45)) .none kV45 dc45 pm45 an45 cd45 ct45), sl45⟩) (c45 : PySem.W.codeIn K cd45 "_law_shifted" = true) (k45 : PySem.W.keepIn K (.ref f45) = true)
    (a46 : PySem.W.nsIn K mainGlobals "_law_terms_right" = some (some (.ref f46))) (l46 : K.lookup f46 = some ⟨oc46, od46, .func (PySem.W.fnOf "_law_terms_right" "_law_terms_right" (defArgs (topS 46)) (defBody (topS 46)) (defScope (topS 46)) .none kV46 dc46 pm46 an46 cd46 ct46), sl46⟩) (c46 : PySem.W.codeIn K cd46 "_law_terms_right" = true) (k46 : PySem.W.keepIn K (.ref f46) = true)
    (a47 : PySem.W.nsIn K mainGlobals "_law_is_let" = some (some (.ref f47))) (l47 : K.lookup f47 = some ⟨oc47, od47, .func (PySem.W.fnOf "_law_is_let" "_law_is_let" (defArgs (topS 47)) (defBody (topS 47)) (defScope (topS 47)) .none kV47 dc47 pm47 an47 cd47 ct47), sl47⟩) (c47 : PySem.W.codeIn K cd47 "_law_is_let" = true) (k47 : PySem.W.keepIn K (.ref f47) = true)
    (a48 : PySem.W.nsIn K mainGlobals "_law_more" = some (some (.ref f48))) (l48 : K.lookup f48 = some ⟨oc48, od48, .func (PySem.W.fnOf "_law_more" "_law_more" (defArgs (topS 48)) (defBody (topS 48)) (defScope (topS 48)) .none kV48 dc48 pm48 an48 cd48 ct48), sl48⟩) (c48 : PySem.W.codeIn K cd48 "_law_more" = true) (k48 : PySem.W.keepIn K (.ref f48) = true)
    (a49 : PySem.W.nsIn K mainGlobals "_law_other" = some (some (.ref f49))) (l49 : K.lookup f49 = some ⟨oc49, od49, .func (PySem.W.fnOf "_law_other" "_law_other" (defArgs (topS 49)) (defBody (topS 49)) (defScope (topS 49)) .none kV49 dc49 pm49 an49 cd49 ct49), sl49⟩) (c49 : PySem.W.codeIn K cd49 "_law_other" = true) (k49 : PySem.W.keepIn K (.ref f49) = true)
    (a50 : PySem.W.nsIn K mainGlobals "_law_right" = some (some (.ref f50))) (l50 : K.lookup f50 = some ⟨oc50, od50, .func (PySem.W.fnOf "_law_right" "_law_right" (defArgs (topS 50)) (defBody (topS 50)) (defScope (topS 50)) .none kV50 dc50 pm50 an50 cd50 ct50), sl50⟩) (c50 : PySem.W.codeIn K cd50 "_law_right" = true) (k50 : PySem.W.keepIn K (.ref f50) = true)
    (a51 : PySem.W.nsIn K mainGlobals "_law_refused" = some (some (.ref f51))) (l51 : K.lookup f51 = some ⟨oc51, od51, .func (PySem.W.fnOf "_law_refused" "_law_refused" (defArgs (topS 51)) (defBody (topS 51)) (defScope (topS 51)) .none kV51 dc51 pm51 an51 cd51 ct51), sl51⟩) (c51 : PySem.W.codeIn K cd51 "_law_refused" = true) (k51 : PySem.W.keepIn K (.ref f51) = true)
    (a52 : PySem.W.nsIn K mainGlobals "law" = some (some (.ref f52))) (l52 : K.lookup f52 = some ⟨oc52, od52, .func (PySem.W.fnOf "law" "law" (defArgs (topS 52)) (defBody (topS 52)) (defScope (topS 52)) .none kV52 dc52 pm52 an52 cd52 ct52), sl52⟩) (c52 : PySem.W.codeIn K cd52 "law" = true) (k52 : PySem.W.keepIn K (.ref f52) = true)
    (aF : PySem.W.nsIn K mainGlobals "Frame" = some (some (.ref C)))
    (aM0 : PySem.W.findIn K (.ref C) "__init__" = some (some (.ref fM0))) (nM0 : PySem.W.isFn K (.ref fM0) = true) (lM0 : K.lookup fM0 = some ⟨ocM0, odM0, .func (PySem.W.fnOf "__init__" "Frame.__init__" (defArgs (mF 0)) (defBody (mF 0)) (defScope (mF 0)) .none kVM0 dcM0 pmM0 anM0 cdM0 ctM0), slM0⟩) (cM0 : PySem.W.codeIn K cdM0 "Frame.__init__" = true) (kM0 : PySem.W.keepIn K (.ref fM0) = true)
    (aM7 : PySem.W.findIn K (.ref C) "is_fresh" = some (some (.ref fM7))) (nM7 : PySem.W.isFn K (.ref fM7) = true) (lM7 : K.lookup fM7 = some ⟨ocM7, odM7, .func (PySem.W.fnOf "is_fresh" "Frame.is_fresh" (defArgs (mF 7)) (defBody (mF 7)) (defScope (mF 7)) .none kVM7 dcM7 pmM7 anM7 cdM7 ctM7), slM7⟩) (cM7 : PySem.W.codeIn K cdM7 "Frame.is_fresh" = true) (kM7 : PySem.W.keepIn K (.ref fM7) = true)
    (aM8 : PySem.W.findIn K (.ref C) "is_position_term" = some (some (.ref fM8))) (nM8 : PySem.W.isFn K (.ref fM8) = true) (lM8 : K.lookup fM8 = some ⟨ocM8, odM8, .func (PySem.W.fnOf "is_position_term" "Frame.is_position_term" (defArgs (mF 8)) (defBody (mF 8)) (defScope (mF 8)) .none (.ref D8) dcM8 pmM8 anM8 cdM8 ctM8), slM8⟩) (cM8 : PySem.W.codeIn K cdM8 "Frame.is_position_term" = true) (kM8 : PySem.W.keepIn K (.ref fM8) = true)
    (nT8 : PySem.W.nsIn K D8 "own" = some (some (.ref T8))) (t8 : K.lookup T8 = some ⟨.type "tuple", odT8, .seq #[] zT8, slT8⟩)
    (aM9 : PySem.W.findIn K (.ref C) "is_value_term" = some (some (.ref fM9))) (nM9 : PySem.W.isFn K (.ref fM9) = true) (lM9 : K.lookup fM9 = some ⟨ocM9, odM9, .func (PySem.W.fnOf "is_value_term" "Frame.is_value_term" (defArgs (mF 9)) (defBody (mF 9)) (defScope (mF 9)) .none (.ref D9) dcM9 pmM9 anM9 cdM9 ctM9), slM9⟩) (cM9 : PySem.W.codeIn K cdM9 "Frame.is_value_term" = true) (kM9 : PySem.W.keepIn K (.ref fM9) = true)
    (nT9 : PySem.W.nsIn K D9 "own" = some (some (.ref T9))) (t9 : K.lookup T9 = some ⟨.type "tuple", odT9, .seq #[] zT9, slT9⟩)
    (aM10 : PySem.W.findIn K (.ref C) "shifted" = some (some (.ref fM10))) (nM10 : PySem.W.isFn K (.ref fM10) = true) (lM10 : K.lookup fM10 = some ⟨ocM10, odM10, .func (PySem.W.fnOf "shifted" "Frame.shifted" (defArgs (mF 10)) (defBody (mF 10)) (defScope (mF 10)) .none kVM10 dcM10 pmM10 anM10 cdM10 ctM10), slM10⟩) (cM10 : PySem.W.codeIn K cdM10 "Frame.shifted" = true) (kM10 : PySem.W.keepIn K (.ref fM10) = true)
    (aM11 : PySem.W.findIn K (.ref C) "with_names" = some (some (.ref fM11))) (nM11 : PySem.W.isFn K (.ref fM11) = true) (lM11 : K.lookup fM11 = some ⟨ocM11, odM11, .func (PySem.W.fnOf "with_names" "Frame.with_names" (defArgs (mF 11)) (defBody (mF 11)) (defScope (mF 11)) .none (.ref D11) dcM11 pmM11 anM11 cdM11 ctM11), slM11⟩) (cM11 : PySem.W.codeIn K cdM11 "Frame.with_names" = true) (kM11 : PySem.W.keepIn K (.ref fM11) = true)
    (nTA : PySem.W.nsIn K D11 "arrays" = some (some (.ref TA))) (ta : K.lookup TA = some ⟨.type "tuple", odTA, .seq #[] zTA, slTA⟩)
    (nTP : PySem.W.nsIn K D11 "positions" = some (some (.ref TP))) (tp : K.lookup TP = some ⟨.type "tuple", odTP, .seq #[] zTP, slTP⟩)
    (nTV : PySem.W.nsIn K D11 "values" = some (some (.ref TV))) (tv : K.lookup TV = some ⟨.type "tuple", odTV, .seq #[] zTV, slTV⟩)
    (aM12 : PySem.W.findIn K (.ref C) "renamed" = some (some (.ref fM12))) (nM12 : PySem.W.isFn K (.ref fM12) = true) (lM12 : K.lookup fM12 = some ⟨ocM12, odM12, .func (PySem.W.fnOf "renamed" "Frame.renamed" (defArgs (mF 12)) (defBody (mF 12)) (defScope (mF 12)) .none kVM12 dcM12 pmM12 anM12 cdM12 ctM12), slM12⟩) (cM12 : PySem.W.codeIn K cdM12 "Frame.renamed" = true) (kM12 : PySem.W.keepIn K (.ref fM12) = true)
    (aM14 : PySem.W.findIn K (.ref C) "__len__" = some (some (.ref fM14))) (nM14 : PySem.W.isFn K (.ref fM14) = true) (lM14 : K.lookup fM14 = some ⟨ocM14, odM14, .func (PySem.W.fnOf "__len__" "Frame.__len__" (defArgs (mF 14)) (defBody (mF 14)) (defScope (mF 14)) .none kVM14 dcM14 pmM14 anM14 cdM14 ctM14), slM14⟩) (cM14 : PySem.W.codeIn K cdM14 "Frame.__len__" = true) (kM14 : PySem.W.keepIn K (.ref fM14) = true)
    (aM15 : PySem.W.findIn K (.ref C) "__eq__" = some (some (.ref fM15))) (nM15 : PySem.W.isFn K (.ref fM15) = true) (lM15 : K.lookup fM15 = some ⟨ocM15, odM15, .func (PySem.W.fnOf "__eq__" "Frame.__eq__" (defArgs (mF 15)) (defBody (mF 15)) (defScope (mF 15)) .none kVM15 dcM15 pmM15 anM15 cdM15 ctM15), slM15⟩) (cM15 : PySem.W.codeIn K cdM15 "Frame.__eq__" = true) (kM15 : PySem.W.keepIn K (.ref fM15) = true)
    (aM16 : PySem.W.findIn K (.ref C) "__str__" = some (some (.ref fM16))) (nM16 : PySem.W.isFn K (.ref fM16) = true) (lM16 : K.lookup fM16 = some ⟨ocM16, odM16, .func (PySem.W.fnOf "__str__" "Frame.__str__" (defArgs (mF 16)) (defBody (mF 16)) (defScope (mF 16)) .none kVM16 dcM16 pmM16 anM16 cdM16 ctM16), slM16⟩) (cM16 : PySem.W.codeIn K cdM16 "Frame.__str__" = true) (kM16 : PySem.W.keepIn K (.ref fM16) = true)
    (x_pg : PySem.W.plainGet K C Str.empty = true)
    (x_hd : PySem.W.hasDictIn K C = true)
    (x_po : PySem.W.plainOver K C = true)
    (x_sa : PySem.W.findIn K (.ref C) "__setattr__" = some (some (.builtin "object.__setattr__")))
    (x_mk : PySem.W.makesIn K C = true)
    (x_kC : PySem.W.keepIn K (.ref C) = true)
    (x_i1 : PySem.W.findIn K (.ref C) "__class__" = some (some (.builtin "object.__class__")))
    (x_i2 : PySem.W.specialIn K (.builtin "object.__class__") "__get__" = some (some (.builtin "getset_descriptor.__get__")))
    (x_i3 : PySem.W.takesIn K (.builtin "object.__class__") = some true)
    (x_i4 : PySem.W.mroIn K C (.type "object") = some true)
    (x_ne : PySem.W.findIn K (.ref C) "__ne__" = some (some (.builtin "object.__ne__")))
    (y0 : PySem.W.findIn K (.ref C) "_arrays" = some none)
    (y1 : PySem.W.findIn K (.ref C) "_positions" = some none)
    (y2 : PySem.W.findIn K (.ref C) "_amounts" = some none)
    (y3 : PySem.W.findIn K (.ref C) "_lengths" = some none)
    (y4 : PySem.W.findIn K (.ref C) "_length_of" = some none)
    (y5 : PySem.W.findIn K (.ref C) "_kinds" = some none)
    (aCf : PySem.W.nsIn K mainGlobals "InvalidFrame" = some (some (.ref Cf)))
    (xCf : PySem.W.excIn K Cf [.type "ValueError", .type "Exception", .type "BaseException", .type "object"] "ValueError.__new__" = true)
    (kCf : PySem.W.keepIn K (.ref Cf) = true) (bCf : PySem.W.subIn K (.ref Cf) (.type "BaseException") = some true) (tCf : PySem.W.typeIn K (.ref Cf) = some (.type "type")) (dCf : PySem.W.hasDictIn K Cf = true) (sCf : PySem.W.subIn K (.ref Cf) (.ref Cf) = some true)
    (aCt : PySem.W.nsIn K mainGlobals "InvalidTerm" = some (some (.ref Ct)))
    (xCt : PySem.W.excIn K Ct [.type "ValueError", .type "Exception", .type "BaseException", .type "object"] "ValueError.__new__" = true)
    (kCt : PySem.W.keepIn K (.ref Ct) = true) (bCt : PySem.W.subIn K (.ref Ct) (.type "BaseException") = some true) (tCt : PySem.W.typeIn K (.ref Ct) = some (.type "type")) (dCt : PySem.W.hasDictIn K Ct = true) (sCt : PySem.W.subIn K (.ref Ct) (.ref Ct) = some true)
    (aCo : PySem.W.nsIn K mainGlobals "InvalidOperation" = some (some (.ref Co)))
    (xCo : PySem.W.excIn K Co [.type "ValueError", .type "Exception", .type "BaseException", .type "object"] "ValueError.__new__" = true)
    (kCo : PySem.W.keepIn K (.ref Co) = true) (bCo : PySem.W.subIn K (.ref Co) (.type "BaseException") = some true) (tCo : PySem.W.typeIn K (.ref Co) = some (.type "type")) (dCo : PySem.W.hasDictIn K Co = true) (sCo : PySem.W.subIn K (.ref Co) (.ref Co) = some true)
    (mA : PySem.W.nsIn K mainGlobals "MAX_ARRAYS" = some (some (.int 12 t12))) (mP : PySem.W.nsIn K mainGlobals "MAX_POSITIONS" = some (some (.int 8 tp8))) (mV : PySem.W.nsIn K mainGlobals "MAX_VALUES" = some (some (.int 6 tv6)))
    (z_isinstance : PySem.W.nsIn K mainGlobals "isinstance" = some none)
    (z_int : PySem.W.nsIn K mainGlobals "int" = some none)
    (z_bool : PySem.W.nsIn K mainGlobals "bool" = some none)
    (z_str : PySem.W.nsIn K mainGlobals "str" = some none)
    (z_tuple : PySem.W.nsIn K mainGlobals "tuple" = some none)
    (z_dict : PySem.W.nsIn K mainGlobals "dict" = some none)
    (z_list : PySem.W.nsIn K mainGlobals "list" = some none)
    (z_set : PySem.W.nsIn K mainGlobals "set" = some none)
    (z_len : PySem.W.nsIn K mainGlobals "len" = some none)
    (z_abs : PySem.W.nsIn K mainGlobals "abs" = some none)
    (z_range : PySem.W.nsIn K mainGlobals "range" = some none)
    (z_zip : PySem.W.nsIn K mainGlobals "zip" = some none)
    (z_enumerate : PySem.W.nsIn K mainGlobals "enumerate" = some none)
    (z_max : PySem.W.nsIn K mainGlobals "max" = some none)
    (z_min : PySem.W.nsIn K mainGlobals "min" = some none)
    (z_repr : PySem.W.nsIn K mainGlobals "repr" = some none)
    : ∃ fd : FuncData, (∀ (s : Shared) (v : Value), BindsTo s fd ⟨[v], []⟩ [("_law_script", v)]) ∧ ∀ base : Heap, K.In base → base.Ns mainGlobals mg → FnG P w K mg base 11 fa fd ["_law_script"] (spLaw K) := by
  have e := hfa.symm.trans (PySem.W.mg_of X G a52)
  cases e
  have B : Blt mg := ⟨PySem.W.mg_none_of X G z_isinstance, PySem.W.mg_none_of X G z_int, PySem.W.mg_none_of X G z_bool, PySem.W.mg_none_of X G z_str, PySem.W.mg_none_of X G z_tuple, PySem.W.mg_none_of X G z_dict, PySem.W.mg_none_of X G z_list, PySem.W.mg_none_of X G z_set, PySem.W.mg_none_of X G z_len, PySem.W.mg_none_of X G z_abs, PySem.W.mg_none_of X G z_range, PySem.W.mg_none_of X G z_zip, PySem.W.mg_none_of X G z_enumerate, PySem.W.mg_none_of X G z_max, PySem.W.mg_none_of X G z_min, PySem.W.mg_none_of X G z_repr⟩
  have MX : MaxTxt mg := ⟨⟨_, PySem.W.mg_of X G mA⟩, ⟨_, PySem.W.mg_of X G mP⟩, ⟨_, PySem.W.mg_of X G mV⟩⟩
  have Of : OwnX K mg "InvalidFrame" Cf := ⟨PySem.W.mg_of X G aCf, xCf, kCf, bCf, tCf, PySem.W.exm_ref bCf dCf tCf sCf⟩
  have Ot : OwnX K mg "InvalidTerm" Ct := ⟨PySem.W.mg_of X G aCt, xCt, kCt, bCt, tCt, PySem.W.exm_ref bCt dCt tCt sCt⟩
  have Oo : OwnX K mg "InvalidOperation" Co := ⟨PySem.W.mg_of X G aCo, xCo, kCo, bCo, tCo, PySem.W.exm_ref bCo dCo tCo sCo⟩
  have T : FrTxt K mg C := ⟨⟨x_pg, x_hd, x_po, x_sa⟩, y0, y1, y2, y3, y4, y5, PySem.W.mg_of X G aF⟩
  have Z : IsiTxt K C := ⟨x_i1, x_i2, x_i3, x_i4⟩
  have NT : NeTxt K C := ⟨x_i4, x_ne⟩
  have F8 := fun_mk (st := topS 8) l8 c8 k8
  have F9 := fun_mk (st := topS 9) l9 c9 k9
  have F11 := fun_mk (st := topS 11) l11 c11 k11
  have F12 := fun_mk (st := topS 12) l12 c12 k12
  have F13 := fun_mk (st := topS 13) l13 c13 k13
  have F14 := fun_mk (st := topS 14) l14 c14 k14
  have F15 := fun_mk (st := topS 15) l15 c15 k15
  have F16 := fun_mk (st := topS 16) l16 c16 k16
  have F21 := fun_mk (st := topS 21) l21 c21 k21
  have F24 := fun_mk (st := topS 24) l24 c24 k24
  have F23 := fun_mk (st := topS 23) l23 c23 k23
  have F27 := fun_mk (st := topS 27) l27 c27 k27
  have F28 := fun_mk (st := topS 28) l28 c28 k28
  have F29 := fun_mk (st := topS 29) l29 c29 k29
  have F30 := fun_mk (st := topS 30) l30 c30 k30
  have F31 := fun_mk (st := topS 31) l31 c31 k31
  have F26 := fun_mk (st := topS 26) l26 c26 k26
  have F25 := fun_mk (st := topS 25) l25 c25 k25
  have F33 := fun_mk (st := topS 33) l33 c33 k33
  have F34 := fun_mk (st := topS 34) l34 c34 k34
  have F35 := fun_mk (st := topS 35) l35 c35 k35
  have F36 := fun_mk (st := topS 36) l36 c36 k36
  have F37 := fun_mk (st := topS 37) l37 c37 k37
  have F38 := fun_mk (st := topS 38) l38 c38 k38
  have F39 := fun_mk (st := topS 39) l39 c39 k39
  have F40 := fun_mk (st := topS 40) l40 c40 k40
  have F41 := fun_mk (st := topS 41) l41 c41 k41
  have F42 := fun_mk (st := topS 42) l42 c42 k42
  have F43 := fun_mk (st := topS 43) l43 c43 k43
  have F44 := fun_mk (st := topS 44) l44 c44 k44
  have F45 := fun_mk (st := topS 45) l45 c45 k45
  have F46 := fun_mk (st := topS 46) l46 c46 k46
  have F47 := fun_mk (st := topS 47) l47 c47 k47
  have F48 := fun_mk (st := topS 48) l48 c48 k48
  have F49 := fun_mk (st := topS 49) l49 c49 k49
  have F50 := fun_mk (st := topS 50) l50 c50 k50
  have F51 := fun_mk (st := topS 51) l51 c51 k51
  have F52 := fun_mk (st := topS 52) l52 c52 k52
  have FM0 := fun_mk (st := mF 0) lM0 cM0 kM0
  have b0M := FM0.binds (ps := ["self", "arrays", "positions", "values"]) fun _ _ _ _ _ _ us hl => match us, hl with | [_, _, _, _], _ => rfl
  have FM7 := fun_mk (st := mF 7) lM7 cM7 kM7
  have b7M := FM7.binds (ps := ["self", "value"]) fun _ _ _ _ _ _ us hl => match us, hl with | [_, _], _ => rfl
  have FD8 : FunD K "is_position_term" "Frame.is_position_term" (defArgs (mF 8)) (defBody (mF 8)) (defScope (mF 8)) [] [("own", V.ref T8)] fM8 _ := ⟨⟨ocM8, odM8, .none, .ref D8, dcM8, pmM8, anM8, cdM8, ctM8, slM8, rfl, lM8, cM8, .inl ⟨rfl, rfl⟩, .inr ⟨D8, rfl, fun q hq => by
    simp only [List.mem_cons, List.not_mem_nil, or_false] at hq
    subst hq
    exact ⟨_, nT8, rfl⟩⟩⟩, kM8⟩
  have FD9 : FunD K "is_value_term" "Frame.is_value_term" (defArgs (mF 9)) (defBody (mF 9)) (defScope (mF 9)) [] [("own", V.ref T9)] fM9 _ := ⟨⟨ocM9, odM9, .none, .ref D9, dcM9, pmM9, anM9, cdM9, ctM9, slM9, rfl, lM9, cM9, .inl ⟨rfl, rfl⟩, .inr ⟨D9, rfl, fun q hq => by
    simp only [List.mem_cons, List.not_mem_nil, or_false] at hq
    subst hq
    exact ⟨_, nT9, rfl⟩⟩⟩, kM9⟩
  have FM10 := fun_mk (st := mF 10) lM10 cM10 kM10
  have b10M := FM10.binds (ps := ["self", "term", "shift"]) fun _ _ _ _ _ _ us hl => match us, hl with | [_, _, _], _ => rfl
  have FD11 : FunD K "with_names" "Frame.with_names" (defArgs (mF 11)) (defBody (mF 11)) (defScope (mF 11)) [] [("arrays", V.ref TA), ("positions", V.ref TP), ("values", V.ref TV)] fM11 _ := ⟨⟨ocM11, odM11, .none, .ref D11, dcM11, pmM11, anM11, cdM11, ctM11, slM11, rfl, lM11, cM11, .inl ⟨rfl, rfl⟩, .inr ⟨D11, rfl, fun q hq => by
    simp only [List.mem_cons, List.not_mem_nil, or_false] at hq
    rcases hq with rfl | rfl | rfl
    · exact ⟨_, nTA, rfl⟩
    · exact ⟨_, nTP, rfl⟩
    · exact ⟨_, nTV, rfl⟩⟩⟩, kM11⟩
  have FM12 := fun_mk (st := mF 12) lM12 cM12 kM12
  have b12M := FM12.binds (ps := ["self", "names"]) fun _ _ _ _ _ _ us hl => match us, hl with | [_, _], _ => rfl
  have FM14 := fun_mk (st := mF 14) lM14 cM14 kM14
  have b14M := FM14.binds (ps := ["self"]) fun _ _ _ _ _ _ us hl => match us, hl with | [_], _ => rfl
  have FM15 := fun_mk (st := mF 15) lM15 cM15 kM15
  have b15M := FM15.binds (ps := ["self", "other"]) fun _ _ _ _ _ _ us hl => match us, hl with | [_, _], _ => rfl
  have FM16 := fun_mk (st := mF 16) lM16 cM16 kM16
  have b16M := FM16.binds (ps := ["self"]) fun _ _ _ _ _ _ us hl => match us, hl with | [_], _ => rfl
  have m7 : Meth K C "is_fresh" fM7 := ⟨aM7, nM7, kM7⟩
  have m8 : Meth K C "is_position_term" fM8 := ⟨aM8, nM8, kM8⟩
  have m9 : Meth K C "is_value_term" fM9 := ⟨aM9, nM9, kM9⟩
  obtain ⟨ds8, v8, b8⟩ := binds8 FD8
  obtain ⟨ds9, v9, b9⟩ := binds9 FD9
  obtain ⟨dsW, vW, bW⟩ := binds11 FD11
  refine ⟨PySem.W.fnOf "law" "law" (defArgs (topS 52)) (defBody (topS 52)) (defScope (topS 52)) .none kV52 dc52 pm52 an52 cd52 ct52, fun s v => .of_eq rfl, fun base _ _ => ?_⟩
  have g8 : Cal P w K mg base 1 "is_any_integer" (spInt K w) := ⟨f8, _, ["value"], ok8 F8 B, PySem.W.mg_of X G a8, k8, F8.binds (ps := ["value"]) fun _ _ _ _ _ _ us hl => match us, hl with | [_], _ => rfl⟩
  have g9 : Cal P w K mg base 2 "is_passed_integer" (spPassed K w) := ⟨f9, _, ["value"], ok9 F9 B g8, PySem.W.mg_of X G a9, k9, F9.binds (ps := ["value"]) fun _ _ _ _ _ _ us hl => match us, hl with | [_], _ => rfl⟩
  have g11 : Cal P w K mg base 1 "kind_among" (spKind K w) := ⟨f11, _, ["kinds", "word"], ok11 F11 B, PySem.W.mg_of X G a11, k11, F11.binds (ps := ["kinds", "word"]) fun _ _ _ _ _ _ us hl => match us, hl with | [_, _], _ => rfl⟩
  have g12 : Cal P w K mg base 1 "is_place_word" (spPlaceW K w) := ⟨f12, _, ["kinds", "word", "own"], ok12 F12 B, PySem.W.mg_of X G a12, k12, F12.binds (ps := ["kinds", "word", "own"]) fun _ _ _ _ _ _ us hl => match us, hl with | [_, _, _], _ => rfl⟩
  have g13 : Cal P w K mg base 3 "is_position_pair" (spPlaceD K w) := ⟨f13, _, ["kinds", "value", "own"], ok13 F13 B g12 g9, PySem.W.mg_of X G a13, k13, F13.binds (ps := ["kinds", "value", "own"]) fun _ _ _ _ _ _ us hl => match us, hl with | [_, _, _], _ => rfl⟩
  have g14 : Cal P w K mg base 4 "is_cell" (spCellD K w) := ⟨f14, _, ["kinds", "value", "own"], ok14 F14 B g11 g13 g9, PySem.W.mg_of X G a14, k14, F14.binds (ps := ["kinds", "value", "own"]) fun _ _ _ _ _ _ us hl => match us, hl with | [_, _, _], _ => rfl⟩
  have g15 : Cal P w K mg base 3 "is_amount_pair" (spAmountD K w) := ⟨f15, _, ["kinds", "value"], ok15 F15 B g11 g9, PySem.W.mg_of X G a15, k15, F15.binds (ps := ["kinds", "value"]) fun _ _ _ _ _ _ us hl => match us, hl with | [_, _], _ => rfl⟩
  have g16 : Cal P w K mg base 1 "shifted_term" (spMore K w) := ⟨f16, _, ["term", "shift"], ok16 F16, PySem.W.mg_of X G a16, k16, F16.binds (ps := ["term", "shift"]) fun _ _ _ _ _ _ us hl => match us, hl with | [_, _], _ => rfl⟩
  have g21 : Cal P w K mg base 1 "is_name" (spName K w) := ⟨f21, _, ["value"], ok21 F21 B, PySem.W.mg_of X G a21, k21, F21.binds (ps := ["value"]) fun _ _ _ _ _ _ us hl => match us, hl with | [_], _ => rfl⟩
  have g24 : Cal P w K mg base 1 "shown_words" (spWords K) := ⟨f24, _, ["words"], ok24 F24 B, PySem.W.mg_of X G a24, k24, F24.binds (ps := ["words"]) fun _ _ _ _ _ _ us hl => match us, hl with | [_], _ => rfl⟩
  have g23 : Cal P w K mg base 2 "shown_pairs" (spShowP K) := ⟨f23, _, ["arrays"], ok23 F23 g24, PySem.W.mg_of X G a23, k23, F23.binds (ps := ["arrays"]) fun _ _ _ _ _ _ us hl => match us, hl with | [_], _ => rfl⟩
  have g27 : Cal P w K mg base 1 "are_pairs" (spPairs K w) := ⟨f27, _, ["value"], ok27 F27 B, PySem.W.mg_of X G a27, k27, F27.binds (ps := ["value"]) fun _ _ _ _ _ _ us hl => match us, hl with | [_], _ => rfl⟩
  have g28 : Cal P w K mg base 1 "different_lengths" (spLens K w) := ⟨f28, _, ["arrays"], ok28 F28 B, PySem.W.mg_of X G a28, k28, F28.binds (ps := ["arrays"]) fun _ _ _ _ _ _ us hl => match us, hl with | [_], _ => rfl⟩
  have g29 : Cal P w K mg base 2 "is_frame_content" (spContent K w) := ⟨f29, _, ["arrays", "positions", "values"], ok29 F29 B MX g27 g21 g28, PySem.W.mg_of X G a29, k29, F29.binds (ps := ["arrays", "positions", "values"]) fun _ _ _ _ _ _ us hl => match us, hl with | [_, _, _], _ => rfl⟩
  have g30 : Cal P w K mg base 1 "kinds_of_names" (spKinds K w) := ⟨f30, _, ["arrays", "positions", "values"], ok30 F30, PySem.W.mg_of X G a30, k30, F30.binds (ps := ["arrays", "positions", "values"]) fun _ _ _ _ _ _ us hl => match us, hl with | [_, _, _], _ => rfl⟩
  have g31 : Cal P w K mg base 2 "is_renaming" (spRen K w) := ⟨f31, _, ["kinds", "names"], ok31 F31 B g11 g21, PySem.W.mg_of X G a31, k31, F31.binds (ps := ["kinds", "names"]) fun _ _ _ _ _ _ us hl => match us, hl with | [_, _], _ => rfl⟩
  have G7 := okM7 (P := P) (w := w) (base := base) FM7 B T g21
  have b7 := b7M
  have g26 : Cal P w K mg base 3 "are_own_names" (spOwn K C) := ⟨f26, _, ["frame", "value"], ok26 F26 B T m7 G7 b7, PySem.W.mg_of X G a26, k26, F26.binds (ps := ["frame", "value"]) fun _ _ _ _ _ _ us hl => match us, hl with | [_, _], _ => rfl⟩
  have G8 := okM8 (P := P) (w := w) (base := base) FD8 T g26 g13
  have J8 : MJud P w K mg base 4 C "is_position_term" (spIsPos K w C) := ⟨fM8, _, _, T8, ds8, m8, G8, kb8 FD8, v8, b8, sqT_empty t8⟩
  have G9 := okM9 (P := P) (w := w) (base := base) FD9 T g26 g15 g14
  have J9 : MJud P w K mg base 5 C "is_value_term" (spIsVal K w C) := ⟨fM9, _, _, T9, ds9, m9, G9, kb9 FD9, v9, b9, sqT_empty t9⟩
  have g25 : Cal P w K mg base 6 "is_any_term" (spAny K w C) := ⟨f25, _, ["frame", "value"], ok25 F25 T m8 G8 v8 b8 (sqT_empty t8) m9 G9 v9 b9 (sqT_empty t9), PySem.W.mg_of X G a25, k25, F25.binds (ps := ["frame", "value"]) fun _ _ _ _ _ _ us hl => match us, hl with | [_, _], _ => rfl⟩
  have MH : MShift P w K mg base C Ct := ⟨fM10, _, _, ⟨aM10, nM10, kM10⟩, okM10 FM10 T Ot g25 g9 g16, b10M⟩
  have MF : MkFr P w K mg base C Cf := ⟨fM0, _, ⟨x_mk, aM0, nM0, x_kC⟩, okM0 FM0 T Of g29 g28 g30, b0M, PySem.W.mg_of X G aF⟩
  have MFN : MkFrN P w K mg base C Cf := ⟨fM0, _, ⟨x_mk, aM0, nM0, x_kC⟩, okM0N FM0 T Of g29 g28 g30, b0M, PySem.W.mg_of X G aF⟩
  have MW : MWith P w K mg base C Cf := ⟨fM11, _, _, _, TA, TP, TV, dsW, ⟨aM11, nM11, kM11⟩, okM11N FD11 B T MFN, kb11 FD11, kb12 FD11, vW, bW, fun H => ⟨sqT_empty ta H, sqT_empty tp H, sqT_empty tv H⟩⟩
  have MR : MRen P w K mg base C Co := ⟨fM12, _, _, ⟨aM12, nM12, kM12⟩, okM12 FM12 B T MF Oo g31, b12M⟩
  have ML : OwnM P w K mg base 1 C "__len__" (spLenF K C) := ⟨fM14, _, _, okM14 FM14 B T, aM14, nM14, b14M⟩
  have ME : OwnM P w K mg base 1 C "__eq__" (spEqF K C) := ⟨fM15, _, _, okM15 FM15 B T Z, aM15, nM15, b15M⟩
  have MS : OwnM P w K mg base 3 C "__str__" (spStrF K C) := ⟨fM16, _, _, okM16 FM16 T g23 g24, aM16, nM16, b16M⟩
  have g33 : Cal P w K mg base 1 "_law_skein" (spSkein K) := ⟨f33, _, ["_law_script", "_law_at", "_law_cases"], ok33 F33 B, PySem.W.mg_of X G a33, k33, F33.binds (ps := ["_law_script", "_law_at", "_law_cases"]) fun _ _ _ _ _ _ us hl => match us, hl with | [_, _, _], _ => rfl⟩
  have g34 : Cal P w K mg base 1 "_law_pull" (spPull K) := ⟨f34, _, ["_law_skein_here", "_law_total"], ok34 F34 B, PySem.W.mg_of X G a34, k34, F34.binds (ps := ["_law_skein_here", "_law_total"]) fun _ _ _ _ _ _ us hl => match us, hl with | [_, _], _ => rfl⟩
  have g35 : Cal P w K mg base 2 "_law_one_of" (spOne K) := ⟨f35, _, ["_law_skein_here", "_law_items"], ok35 F35 B g34, PySem.W.mg_of X G a35, k35, F35.binds (ps := ["_law_skein_here", "_law_items"]) fun _ _ _ _ _ _ us hl => match us, hl with | [_, _], _ => rfl⟩
  have g36 : Cal P w K mg base 2 "_law_few_of" (spFew K) := ⟨f36, _, ["_law_skein_here", "_law_items", "_law_count"], ok36 F36 B g34, PySem.W.mg_of X G a36, k36, F36.binds (ps := ["_law_skein_here", "_law_items", "_law_count"]) fun _ _ _ _ _ _ us hl => match us, hl with | [_, _, _], _ => rfl⟩
  have g37 : Cal P w K mg base 3 "_law_parts" (spParts K) := ⟨f37, _, ["_law_skein_here"], ok37 F37 B g34 g36, PySem.W.mg_of X G a37, k37, F37.binds (ps := ["_law_skein_here"]) fun _ _ _ _ _ _ us hl => match us, hl with | [_], _ => rfl⟩
  have g38 : Cal P w K mg base 1 "_law_lengths" (spLawLens K) := ⟨f38, _, ["_law_parts_here"], ok38 F38 B, PySem.W.mg_of X G a38, k38, F38.binds (ps := ["_law_parts_here"]) fun _ _ _ _ _ _ us hl => match us, hl with | [_], _ => rfl⟩
  have g39 : CalX P w K mg base 5 "_law_frame" (spLawFr K C Cf) := ⟨f39, _, ["_law_parts_here"], ok39 F39 MF, PySem.W.mg_of X G a39, k39, F39.binds (ps := ["_law_parts_here"]) fun _ _ _ _ _ _ us hl => match us, hl with | [_], _ => rfl⟩
  have g40 : Cal P w K mg base 2 "_law_all_of" (spLawAll K) := ⟨f40, _, ["_law_parts_here"], ok40 F40 B g38, PySem.W.mg_of X G a40, k40, F40.binds (ps := ["_law_parts_here"]) fun _ _ _ _ _ _ us hl => match us, hl with | [_], _ => rfl⟩
  have g41 : Cal P w K mg base 1 "_law_is_number" (spPassed K w) := ⟨f41, _, ["_law_value"], ok41 F41 B, PySem.W.mg_of X G a41, k41, F41.binds (ps := ["_law_value"]) fun _ _ _ _ _ _ us hl => match us, hl with | [_], _ => rfl⟩
  have g42 : Cal P w K mg base 2 "_law_is_place" (spLawPl K w) := ⟨f42, _, ["_law_parts_here", "_law_value", "_law_mine"], ok42 F42 B g38 g41, PySem.W.mg_of X G a42, k42, F42.binds (ps := ["_law_parts_here", "_law_value", "_law_mine"]) fun _ _ _ _ _ _ us hl => match us, hl with | [_, _, _], _ => rfl⟩
  have g43 : Cal P w K mg base 3 "_law_is_worth" (spLawWo K w) := ⟨f43, _, ["_law_parts_here", "_law_value", "_law_mine"], ok43 F43 B g42 g41, PySem.W.mg_of X G a43, k43, F43.binds (ps := ["_law_parts_here", "_law_value", "_law_mine"]) fun _ _ _ _ _ _ us hl => match us, hl with | [_, _, _], _ => rfl⟩
  have g44 : Cal P w K mg base 3 "_law_term_near" (spNear K w) := ⟨f44, _, ["_law_skein_here", "_law_parts_here", "_law_mine"], ok44 F44 B g34 g35 g40, PySem.W.mg_of X G a44, k44, F44.binds (ps := ["_law_skein_here", "_law_parts_here", "_law_mine"]) fun _ _ _ _ _ _ us hl => match us, hl with | [_, _, _], _ => rfl⟩
  have g45 : Cal P w K mg base 8 "_law_shifted" (spLawSh K w C) := ⟨f45, _, ["_law_frame_here", "_law_term", "_law_shift"], ok45 F45 T Ot MH, PySem.W.mg_of X G a45, k45, F45.binds (ps := ["_law_frame_here", "_law_term", "_law_shift"]) fun _ _ _ _ _ _ us hl => match us, hl with | [_, _, _], _ => rfl⟩
  have g46 : CalG P w K mg base 9 "_law_terms_right" (spTerms K C) := ⟨f46, _, ["_law_skein_here", "_law_frame_here", "_law_parts_here"], ok46 F46 B T J8 J9 g34 g35 g36 g40 g41 g42 g43 g44 g45, PySem.W.mg_of X G a46, k46, F46.binds (ps := ["_law_skein_here", "_law_frame_here", "_law_parts_here"]) fun _ _ _ _ _ _ us hl => match us, hl with | [_, _, _], _ => rfl⟩
  have g47 : Cal P w K mg base 3 "_law_is_let" (spLawLet K) := ⟨f47, _, ["_law_parts_here"], ok47 F47 B g40, PySem.W.mg_of X G a47, k47, F47.binds (ps := ["_law_parts_here"]) fun _ _ _ _ _ _ us hl => match us, hl with | [_], _ => rfl⟩
  have h38 : CalH P w K mg base 1 "_law_lengths" (spLawLens K) := ⟨f38, _, ["_law_parts_here"], ok38H F38 B, PySem.W.mg_of X G a38, k38, F38.binds (ps := ["_law_parts_here"]) fun _ _ _ _ _ _ us hl => match us, hl with | [_], _ => rfl⟩
  have h40 : CalH P w K mg base 2 "_law_all_of" (spLawAll K) := ⟨f40, _, ["_law_parts_here"], ok40H F40 B h38, PySem.W.mg_of X G a40, k40, F40.binds (ps := ["_law_parts_here"]) fun _ _ _ _ _ _ us hl => match us, hl with | [_], _ => rfl⟩
  have h47 : CalH P w K mg base 3 "_law_is_let" (spLawLet K) := ⟨f47, _, ["_law_parts_here"], ok47H F47 B h40, PySem.W.mg_of X G a47, k47, F47.binds (ps := ["_law_parts_here"]) fun _ _ _ _ _ _ us hl => match us, hl with | [_], _ => rfl⟩
  have g48 : Cal P w K mg base 6 "_law_more" (spLawMore K C) := ⟨f48, _, ["_law_skein_here", "_law_frame_here", "_law_parts_here"], ok48 F48 B T Of MW g37 g47 h47, PySem.W.mg_of X G a48, k48, F48.binds (ps := ["_law_skein_here", "_law_frame_here", "_law_parts_here"]) fun _ _ _ _ _ _ us hl => match us, hl with | [_, _, _], _ => rfl⟩
  have g49 : Cal P w K mg base 6 "_law_other" (spLawOther K C) := ⟨f49, _, ["_law_skein_here", "_law_frame_here", "_law_parts_here"], ok49 F49 B T Oo MR J9 g34 g35 g36 g40 g43 g44, PySem.W.mg_of X G a49, k49, F49.binds (ps := ["_law_skein_here", "_law_frame_here", "_law_parts_here"]) fun _ _ _ _ _ _ us hl => match us, hl with | [_, _, _], _ => rfl⟩
  have g50 : CalG P w K mg base 10 "_law_right" (spRight K) := ⟨f50, _, ["_law_skein_here"], ok50 F50 B T ME MS NT MW MR g34 g37 g39 g46 g48 g49, PySem.W.mg_of X G a50, k50, F50.binds (ps := ["_law_skein_here"]) fun _ _ _ _ _ _ us hl => match us, hl with | [_], _ => rfl⟩
  have g51 : Cal P w K mg base 6 "_law_refused" (spRefused K C) := ⟨f51, _, ["_law_frame_here"], ok51 F51 B T Of MW, PySem.W.mg_of X G a51, k51, F51.binds (ps := ["_law_frame_here"]) fun _ _ _ _ _ _ us hl => match us, hl with | [_], _ => rfl⟩
  exact ok52 F52 B T MF ML MS MW MR MH J8 g33 g50 g51
end Fc
open PySem PySem.W PyProof.Rows in
set_option maxRecDepth 100000 in
set_option maxHeartbeats 0 in
theorem PySem.Challenge.cw_forkcells_k01_whole_terms_in_changed_fra_holds : PySem.Challenge.rw_forkcells_k01_whole_terms_in_changed_fra.Holds := by
  w_on; o_law; k_head; (case hw => w_witness2)
  k_fill
  refine Fc.walkG (l := PySem.Challenge.rw_forkcells_k01_whole_terms_in_changed_fra) (n := 63) (k := 11) (x := "_law_script") (sp := Fc.spLaw) rfl (by decide) rfl ⟨rfl, by decide, by decide⟩ (fun w h Y => PySem.W.kIn_of Y) ?F (fun K H a ns hl _ hS => ⟨ns, a, rfl, hS, hl, fun _ => rfl⟩)
  case F =>
    intro w mg fa h KX G hmg
    refine' Fc.all_mk KX G hmg ?a8 ?l8 ?c8 ?k8 ?a9 ?l9 ?c9 ?k9 ?a11 ?l11 ?c11 ?k11 ?a12 ?l12 ?c12 ?k12 ?a13 ?l13 ?c13 ?k13 ?a14 ?l14 ?c14 ?k14 ?a15 ?l15 ?c15 ?k15 ?a16 ?l16 ?c16 ?k16 ?a21 ?l21 ?c21 ?k21 ?a24 ?l24 ?c24 ?k24 ?a23 ?l23 ?c23 ?k23 ?a27 ?l27 ?c27 ?k27 ?a28 ?l28 ?c28 ?k28 ?a29 ?l29 ?c29 ?k29 ?a30 ?l30 ?c30 ?k30 ?a31 ?l31 ?c31 ?k31 ?a26 ?l26 ?c26 ?k26 ?a25 ?l25 ?c25 ?k25 ?a33 ?l33 ?c33 ?k33 ?a34 ?l34 ?c34 ?k34 ?a35 ?l35 ?c35 ?k35 ?a36 ?l36 ?c36 ?k36 ?a37 ?l37 ?c37 ?k37 ?a38 ?l38 ?c38 ?k38 ?a39 ?l39 ?c39 ?k39 ?a40 ?l40 ?c40 ?k40 ?a41 ?l41 ?c41 ?k41 ?a42 ?l42 ?c42 ?k42 ?a43 ?l43 ?c43 ?k43 ?a44 ?l44 ?c44 ?k44 ?a45 ?l45 ?c45 ?k45 ?a46 ?l46 ?c46 ?k46 ?a47 ?l47 ?c47 ?k47 ?a48 ?l48 ?c48 ?k48 ?a49 ?l49 ?c49 ?k49 ?a50 ?l50 ?c50 ?k50 ?a51 ?l51 ?c51 ?k51 ?a52 ?l52 ?c52 ?k52 ?aF ?aM0 ?nM0 ?lM0 ?cM0 ?kM0 ?aM7 ?nM7 ?lM7 ?cM7 ?kM7 ?aM8 ?nM8 ?lM8 ?cM8 ?kM8 ?nT8 ?t8 ?aM9 ?nM9 ?lM9 ?cM9 ?kM9 ?nT9 ?t9 ?aM10 ?nM10 ?lM10 ?cM10 ?kM10 ?aM11 ?nM11 ?lM11 ?cM11 ?kM11 ?nTA ?ta ?nTP ?tp ?nTV ?tv ?aM12 ?nM12 ?lM12 ?cM12 ?kM12 ?aM14 ?nM14 ?lM14 ?cM14 ?kM14 ?aM15 ?nM15 ?lM15 ?cM15 ?kM15 ?aM16 ?nM16 ?lM16 ?cM16 ?kM16 ?x_pg ?x_hd ?x_po ?x_sa ?x_mk ?x_kC ?x_i1 ?x_i2 ?x_i3 ?x_i4 ?x_ne ?y0 ?y1 ?y2 ?y3 ?y4 ?y5 ?aCf ?xCf ?kCf ?bCf ?tCf ?dCf ?sCf ?aCt ?xCt ?kCt ?bCt ?tCt ?dCt ?sCt ?aCo ?xCo ?kCo ?bCo ?tCo ?dCo ?sCo ?mA ?mP ?mV ?z_isinstance ?z_int ?z_bool ?z_str ?z_tuple ?z_dict ?z_list ?z_set ?z_len ?z_abs ?z_range ?z_zip ?z_enumerate ?z_max ?z_min ?z_repr
    (case a8 => k_is)
    (case l8 => k_is)
    (case c8 => k_is)
    (case k8 => k_is)
    (case a9 => k_is)
    (case l9 => k_is)
    (case c9 => k_is)
    (case k9 => k_is)
    (case a11 => k_is)
    (case l11 => k_is)
    (case c11 => k_is)
    (case k11 => k_is)
    (case a12 => k_is)
    (case l12 => k_is)
    (case c12 => k_is)
    (case k12 => k_is)
    (case a13 => k_is)
    (case l13 => k_is)
    (case c13 => k_is)
    (case k13 => k_is)
    (case a14 => k_is)
    (case l14 => k_is)
    (case c14 => k_is)
    (case k14 => k_is)
    (case a15 => k_is)
    (case l15 => k_is)
    (case c15 => k_is)
    (case k15 => k_is)
    (case a16 => k_is)
    (case l16 => k_is)
    (case c16 => k_is)
    (case k16 => k_is)
    (case a21 => k_is)
    (case l21 => k_is)
    (case c21 => k_is)
    (case k21 => k_is)
    (case a24 => k_is)
    (case l24 => k_is)
    (case c24 => k_is)
    (case k24 => k_is)
    (case a23 => k_is)
    (case l23 => k_is)
    (case c23 => k_is)
    (case k23 => k_is)
    (case a27 => k_is)
    (case l27 => k_is)
    (case c27 => k_is)
    (case k27 => k_is)
    (case a28 => k_is)
    (case l28 => k_is)
    (case c28 => k_is)
    (case k28 => k_is)
    (case a29 => k_is)
    (case l29 => k_is)
    (case c29 => k_is)
    (case k29 => k_is)
    (case a30 => k_is)
    (case l30 => k_is)
    (case c30 => k_is)
    (case k30 => k_is)
    (case a31 => k_is)
    (case l31 => k_is)
    (case c31 => k_is)
    (case k31 => k_is)
    (case a26 => k_is)
    (case l26 => k_is)
    (case c26 => k_is)
    (case k26 => k_is)
    (case a25 => k_is)
    (case l25 => k_is)
    (case c25 => k_is)
    (case k25 => k_is)
    (case a33 => k_is)
    (case l33 => k_is)
    (case c33 => k_is)
    (case k33 => k_is)
    (case a34 => k_is)
    (case l34 => k_is)
    (case c34 => k_is)
    (case k34 => k_is)
    (case a35 => k_is)
    (case l35 => k_is)
    (case c35 => k_is)
    (case k35 => k_is)
    (case a36 => k_is)
    (case l36 => k_is)
    (case c36 => k_is)
    (case k36 => k_is)
    (case a37 => k_is)
    (case l37 => k_is)
    (case c37 => k_is)
    (case k37 => k_is)
    (case a38 => k_is)
    (case l38 => k_is)
    (case c38 => k_is)
    (case k38 => k_is)
    (case a39 => k_is)
    (case l39 => k_is)
    (case c39 => k_is)
    (case k39 => k_is)
    (case a40 => k_is)
    (case l40 => k_is)
    (case c40 => k_is)
    (case k40 => k_is)
    (case a41 => k_is)
    (case l41 => k_is)
    (case c41 => k_is)
    (case k41 => k_is)
    (case a42 => k_is)
    (case l42 => k_is)
    (case c42 => k_is)
    (case k42 => k_is)
    (case a43 => k_is)
    (case l43 => k_is)
    (case c43 => k_is)
    (case k43 => k_is)
    (case a44 => k_is)
    (case l44 => k_is)
    (case c44 => k_is)
    (case k44 => k_is)
    (case a45 => k_is)
    (case l45 => k_is)
    (case c45 => k_is)
    (case k45 => k_is)
    (case a46 => k_is)
    (case l46 => k_is)
    (case c46 => k_is)
    (case k46 => k_is)
    (case a47 => k_is)
    (case l47 => k_is)
    (case c47 => k_is)
    (case k47 => k_is)
    (case a48 => k_is)
    (case l48 => k_is)
    (case c48 => k_is)
    (case k48 => k_is)
    (case a49 => k_is)
    (case l49 => k_is)
    (case c49 => k_is)
    (case k49 => k_is)
    (case a50 => k_is)
    (case l50 => k_is)
    (case c50 => k_is)
    (case k50 => k_is)
    (case a51 => k_is)
    (case l51 => k_is)
    (case c51 => k_is)
    (case k51 => k_is)
    (case a52 => k_is)
    (case l52 => k_is)
    (case c52 => k_is)
    (case k52 => k_is)
    (case aF => k_is)
    (case aM0 => k_is)
    (case nM0 => k_is)
    (case lM0 => k_is)
    (case cM0 => k_is)
    (case kM0 => k_is)
    (case aM7 => k_is)
    (case nM7 => k_is)
    (case lM7 => k_is)
    (case cM7 => k_is)
    (case kM7 => k_is)
    (case aM8 => k_is)
    (case nM8 => k_is)
    (case lM8 => k_is)
    (case cM8 => k_is)
    (case kM8 => k_is)
    (case nT8 => k_is)
    (case t8 => k_is)
    (case aM9 => k_is)
    (case nM9 => k_is)
    (case lM9 => k_is)
    (case cM9 => k_is)
    (case kM9 => k_is)
    (case nT9 => k_is)
    (case t9 => k_is)
    (case aM10 => k_is)
    (case nM10 => k_is)
    (case lM10 => k_is)
    (case cM10 => k_is)
    (case kM10 => k_is)
    (case aM11 => k_is)
    (case nM11 => k_is)
    (case lM11 => k_is)
    (case cM11 => k_is)
    (case kM11 => k_is)
    (case nTA => k_is)
    (case ta => k_is)
    (case nTP => k_is)
    (case tp => k_is)
    (case nTV => k_is)
    (case tv => k_is)
    (case aM12 => k_is)
    (case nM12 => k_is)
    (case lM12 => k_is)
    (case cM12 => k_is)
    (case kM12 => k_is)
    (case aM14 => k_is)
    (case nM14 => k_is)
    (case lM14 => k_is)
    (case cM14 => k_is)
    (case kM14 => k_is)
    (case aM15 => k_is)
    (case nM15 => k_is)
    (case lM15 => k_is)
    (case cM15 => k_is)
    (case kM15 => k_is)
    (case aM16 => k_is)
    (case nM16 => k_is)
    (case lM16 => k_is)
    (case cM16 => k_is)
    (case kM16 => k_is)
    (case x_pg => k_is)
    (case x_hd => k_is)
    (case x_po => k_is)
    (case x_sa => k_is)
    (case x_mk => k_is)
    (case x_kC => k_is)
    (case x_i1 => k_is)
    (case x_i2 => k_is)
    (case x_i3 => k_is)
    (case x_i4 => k_is)
    (case x_ne => k_is)
    (case y0 => k_is)
    (case y1 => k_is)
    (case y2 => k_is)
    (case y3 => k_is)
    (case y4 => k_is)
    (case y5 => k_is)
    (case aCf => k_is)
    (case xCf => k_exc)
    (case kCf => k_is)
    (case bCf => k_is)
    (case tCf => k_is)
    (case dCf => k_is)
    (case sCf => k_is)
    (case aCt => k_is)
    (case xCt => k_exc)
    (case kCt => k_is)
    (case bCt => k_is)
    (case tCt => k_is)
    (case dCt => k_is)
    (case sCt => k_is)
    (case aCo => k_is)
    (case xCo => k_exc)
    (case kCo => k_is)
    (case bCo => k_is)
    (case tCo => k_is)
    (case dCo => k_is)
    (case sCo => k_is)
    (case mA => k_is)
    (case mP => k_is)
    (case mV => k_is)
    (case z_isinstance => k_is)
    (case z_int => k_is)
    (case z_bool => k_is)
    (case z_str => k_is)
    (case z_tuple => k_is)
    (case z_dict => k_is)
    (case z_list => k_is)
    (case z_set => k_is)
    (case z_len => k_is)
    (case z_abs => k_is)
    (case z_range => k_is)
    (case z_zip => k_is)
    (case z_enumerate => k_is)
    (case z_max => k_is)
    (case z_min => k_is)
    (case z_repr => k_is)
