import PyProof.Rows.All
import Wide.All
import OpenK.AllK
import Wide.FinOn
import HandS.ForMost
import HandS.IsInst
import HandS.Deep
import HandS.Conv
import PyProof.P3Eq
import PyProof.ReprRoads
import HandS.Lambda
import HandS.TupAny
import PyProof.Rows.IntBool
import HandS.TupMul
import HandS.SortInts
import HandS.Remove
import HandS.Style
import HandS.Text
import HandS.Codes
import KE.SortData
import KE.KSortedM
import HandS.RaiseMore
import HandS.WordsExc
import KE.KRevSl
import HandS.Small
import HandS.DictComp
import HandS.SetFor
import HandS.Strs
import KE.GoesEnum
import KE.DatumOrd
import HandS.SetBool
import KE.SortKeyHeap
import HandS.ExcIs
import KE.KExcIs
import HandS.ExcField
import HandS.EndTab
import PyProof.Rows.RegStrFacts
import PyProof.StrLawsRepr
import PySem.Challenge.RW_sealshelf_k32_lyings_told
set_option Elab.async false
set_option linter.all false
set_option maxRecDepth 100000
set_option maxHeartbeats 4000000
namespace MD
open PySem PySem.Spec PyProof.Rows L2
/-! ## dicts whose keys are ints and tuples of ints and texts -/
inductive MK where
  | i (n : Int) | t (ks : List Key)
deriving DecidableEq
def partOk : Key → Bool
  | .inl _ => true
  | .inr x => PyData.strOk x
section
variable (P : Program) (w : World)
def MK.is (h : Heap) : MK → Value → Prop
  | .i n, v => ∃ tk, v = .int n tk
  | .t ks, v => ks.all partOk = true ∧ ∃ a, v = .ref a ∧ IsTupleKey (mixKind P w) h ks a
def MK.hash : MK → Int
  | .i n => hashInt n
  | .t ks => tupleKeyHash (mixKind P w) ks
def MK.draws : MK → Nat
  | .i _ => 1
  | .t ks => ks.length + 1
end
variable {P : Program} {w : World} {A : Around} {E : Value → Shared → Prop} {s : Shared}
theorem is_inj {h : Heap} {x y : MK} {v : Value} (hx : MK.is P w h x v) (hy : MK.is P w h y v) : x = y := by
  cases x with
  | i n =>
    obtain ⟨t, rfl⟩ := hx
    cases y with
    | i m => obtain ⟨u, e⟩ := hy; cases e; rfl
    | t ks => obtain ⟨_, a, e, _⟩ := hy; cases e
  | t ks =>
    obtain ⟨_, a, rfl, q⟩ := hx
    cases y with
    | i m => obtain ⟨u, e⟩ := hy; cases e
    | t js => obtain ⟨_, b, e, r⟩ := hy; cases e; rw [q.inj r]
theorem is_hash {k : MK} {v : Value} {Q : Int → Shared → Prop} (hu : A.units < cLine) (hk : MK.is P w s.heap k v) (q : Q (MK.hash P w k) { s with toks := s.toks + k.draws }) : wpAny (model P w) A (pyHash v) Q E s := by
  cases k with
  | i n =>
    obtain ⟨t, rfl⟩ := hk
    exact (mixKind P w).pyHash (k := .inl n) (keyIs_int n t) q
  | t ks =>
    obtain ⟨_, a, rfl, r⟩ := hk
    exact (tupleKind (mixKind P w)).pyHash (k := ks) hu r q
theorem is_quiet {k : MK} {v : Value} {Q : Bool → Shared → Prop} (hk : MK.is P w s.heap k v) (q : Q true s) : wpAny (model P w) A (eqIsQuiet 8 v) Q E s := by
  cases k with
  | i n =>
    obtain ⟨t, rfl⟩ := hk
    exact wpAny_pure q
  | t ks =>
    obtain ⟨_, a, rfl, r⟩ := hk
    exact (tupleKind (mixKind P w)).quiet r q
def kData : Key → PyData
  | .inl n => .int n
  | .inr x => .str x
theorem reads_part {h : Heap} {k : Key} {v : Value} (e : keyIs k v = true) : Reads h v (kData k) [] := by
  rcases keyIs_shape e with ⟨i, t, rfl, rfl⟩ | ⟨x, t, rfl, rfl⟩
  · exact .int i t
  · exact .str x t
theorem reads_parts {h : Heap} : ∀ {ks : List Key} {vs : List Value}, ItemsAre (mixKind P w) ks vs → ReadsAll h vs (ks.map kData) []
  | _, _, .nil => .nil
  | _, _, .cons e r => .cons (reads_part e) (reads_parts r)
theorem lay_parts : ∀ {ks : List Key}, ks.all partOk = true → PyData.canLayAll0 (ks.map kData) = true
  | [], _ => by simp [PyData.canLayAll0]
  | k :: ks, e => by
    simp only [List.all_cons, Bool.and_eq_true] at e
    have := lay_parts e.2
    cases k with
    | inl n => simpa [PyData.canLayAll0, PyData.canLay0, kData] using this
    | inr x => simpa [PyData.canLayAll0, PyData.canLay0, kData] using ⟨e.1, this⟩
theorem is_eq {x y : MK} {u v : Value} {Q : Bool → Shared → Prop} (hu : A.units + 2 < cLine) (hx : MK.is P w s.heap x u) (hy : MK.is P w s.heap y v) (q : Q (decide (x = y)) s) : wpAny (model P w) A (eqBool u v) Q E s := by
  cases x with
  | i n =>
    obtain ⟨t, rfl⟩ := hx
    cases y with
    | i m =>
      obtain ⟨t', rfl⟩ := hy
      refine (mixKind P w).eqBool (a := .inl n) (b := .inl m) (keyIs_int n t) (keyIs_int m t') ?_
      have e : decide ((Sum.inl n : Key) = Sum.inl m) = decide (MK.i n = MK.i m) := by simp
      rw [e]; exact q
    | t ks =>
      obtain ⟨ok, a, rfl, o, items, z, h1, h2, h3, h4⟩ := hy
      refine SeqAt.eqBoolOverData P w A E s _ _ (.int n) (.tuple (ks.map kData)) [] [] Q (.int n t) (.tuple h1 h2 h3 (reads_parts h4)) (by simp [PyData.canLay0]) (by simpa [PyData.canLay0] using lay_parts ok) (by simp [PyData.depth]; omega) ?_
      have e : PyData.eqv (.int n) (.tuple (ks.map kData)) = decide (MK.i n = MK.t ks) := by simp [PyData.eqv]
      rw [e]; exact q
  | t ks =>
    obtain ⟨ok, a, rfl, o, items, z, h1, h2, h3, h4⟩ := hx
    cases y with
    | i m =>
      obtain ⟨t', rfl⟩ := hy
      refine SeqAt.eqBoolOverData P w A E s _ _ (.tuple (ks.map kData)) (.int m) [] [] Q (.tuple h1 h2 h3 (reads_parts h4)) (.int m t') (by simpa [PyData.canLay0] using lay_parts ok) (by simp [PyData.canLay0]) (by simp [PyData.depth]; omega) ?_
      have e : PyData.eqv (.tuple (ks.map kData)) (.int m) = decide (MK.t ks = MK.i m) := by simp [PyData.eqv]
      rw [e]; exact q
    | t js =>
      obtain ⟨_, b, rfl, r⟩ := hy
      refine (tupleKind (mixKind P w)).eqBool (x := ks) (y := js) (show A.units < cLine by omega) ⟨o, items, z, h1, h2, h3, h4⟩ r ?_
      have e : decide (ks = js) = decide (MK.t ks = MK.t js) := by simp
      rw [e]; exact q
end MD
set_option Elab.async false
set_option linter.all false
set_option maxRecDepth 100000
set_option maxHeartbeats 4000000
namespace MD
open PySem PySem.Spec PyProof.Rows L2
section
variable {P : Program} {w : World} {A : Around} {E : Value → Shared → Prop} {s : Shared}
/-- an entry: its key, the key as a value, the value -/
abbrev Ent := MK × Value × Value
def ent (P : Program) (w : World) (x : Ent) : DictEntry := ⟨MK.hash P w x.1, x.2.1, x.2.2⟩
theorem quietly {key : Value} {k : MK} {stored : List Value} {Q : Bool → Shared → Prop} (hk : MK.is P w s.heap k key) (hs : ∀ v ∈ stored, ∃ j, MK.is P w s.heap j v) (q : Q false s) : wpAny (model P w) A (tableMayTell key stored) Q E s := by
  unfold tableMayTell
  by_cases he : stored.isEmpty = true
  · rw [if_pos he]; exact wpAny_pure q
  rw [if_neg he]
  refine wpAny_bind (is_quiet hk ?_)
  rw [if_neg (by simp)]
  refine wpAny_bind ?_
  refine wpAny_forIn_list _ (fun rest r s' => s' = s ∧ r = (none, ()) ∧ ∀ v ∈ rest, v ∈ stored) _ ?_ ?_ _ _ ⟨rfl, rfl, fun v hv => hv⟩
  · rintro x rest r s' ⟨rfl, rfl, hr⟩
    obtain ⟨j, hj⟩ := hs x (hr x (by simp))
    refine wpAny_bind (is_quiet hj ?_)
    rw [if_neg (by simp)]
    exact wpAny_pure ⟨rfl, rfl, fun v hv => hr v (by simp [hv])⟩
  · rintro r s' ⟨rfl, rfl, _⟩
    exact wpAny_pure q
theorem ent_at {es : Array DictEntry} {xs : List Ent} (he : es.toList = xs.map (ent P w)) (i : Nat) : es[i]? = xs[i]?.map (ent P w) := by
  rw [← Array.getElem?_toList, he, List.getElem?_map]
theorem same_place {xs : List Ent} (hn : (xs.map (·.1)).Nodup) {i j : Nat} {x y : Ent} (hi : xs[i]? = some x) (hj : xs[j]? = some y) (e : x.1 = y.1) : i = j := by
  have a : (xs.map (·.1))[i]? = some x.1 := by rw [List.getElem?_map, hi]; rfl
  have b : (xs.map (·.1))[j]? = some x.1 := by rw [List.getElem?_map, hj, e]; rfl
  exact (List.getElem?_inj (List.getElem?_eq_some_iff.mp a).1 hn).mp (a.trans b.symm)
/-- what the search knows: the places still to see -/
def Seen (P : Program) (w : World) (xs : List Ent) (k : MK) (rest : List Nat) : Prop :=
  rest.Nodup ∧ (∀ i ∈ rest, ∃ x, xs[i]? = some x ∧ MK.hash P w x.1 = MK.hash P w k)
theorem seen_start {es : Array DictEntry} {xs : List Ent} (he : es.toList = xs.map (ent P w)) (k : MK) : Seen P w xs k (placesWithHash es.size (fun i => es[i]?.map (·.hash)) (MK.hash P w k)) ∧ ∀ (j : Nat) (x : Ent), xs[j]? = some x → x.1 = k → j ∈ placesWithHash es.size (fun i => es[i]?.map (·.hash)) (MK.hash P w k) := by
  have hz : es.size = xs.length := by rw [← Array.length_toList, he, List.length_map]
  unfold placesWithHash
  refine ⟨⟨List.nodup_range.filter _, fun i hi => ?_⟩, fun j x hj e => ?_⟩
  · obtain ⟨h1, h2⟩ := List.mem_filter.mp hi
    have hlt : i < xs.length := by rw [← hz]; exact List.mem_range.mp h1
    refine ⟨xs[i], List.getElem?_eq_getElem hlt, ?_⟩
    have h3 : (es[i]?.map (·.hash) == some (MK.hash P w k)) = true := h2
    rw [ent_at he, List.getElem?_eq_getElem hlt] at h3
    simpa [ent] using h3
  · have hlt := (List.getElem?_eq_some_iff.mp hj).1
    refine List.mem_filter.mpr ⟨List.mem_range.mpr (by omega), ?_⟩
    show (es[j]?.map (·.hash) == some (MK.hash P w k)) = true
    rw [ent_at he, hj]
    simp [ent, e]
theorem find_mk {d : Addr} {key : Value} {o : Obj} {es : Array DictEntry} {ep : Nat} {xs : List Ent} {k : MK} {Q : Option Nat → Shared → Prop} (hu : A.units + 2 < cLine) (hkey : MK.is P w s.heap k key)
    (ho : s.heap.get? d = some o) (hd : o.data = .dict es ep) (he : es.toList = xs.map (ent P w)) (his : ∀ x ∈ xs, MK.is P w s.heap x.1 x.2.1) (hn : (xs.map (·.1)).Nodup)
    (hnone : (∀ (j : Nat) (x : Ent), xs[j]? = some x → x.1 ≠ k) → Q none s) (hsome : ∀ (j : Nat) (x : Ent), xs[j]? = some x → x.1 = k → Q (some j) s) : wpAny (model P w) A (dictFind d key (MK.hash P w k)) Q E s := by
  obtain ⟨hs0, hall⟩ := seen_start he k
  generalize hpl : placesWithHash es.size (fun i => es[i]?.map (·.hash)) (MK.hash P w k) = places at hs0 hall
  -- the keys that are stored under this hash
  have hst : ∀ v ∈ places.filterMap (fun i => es[i]?.map (·.key)), ∃ j, MK.is P w s.heap j v := by
    intro v hv
    obtain ⟨i, hi, e⟩ := List.mem_filterMap.mp hv
    obtain ⟨x, hx, _⟩ := hs0.2 i hi
    rw [ent_at he, hx] at e
    simp only [ent, Option.map_some, Option.some.injEq] at e
    subst e
    exact ⟨_, his x (List.mem_of_getElem? hx)⟩
  have key_cases : (∃ n t, key = .int n t) ∨ ∃ a, key = .ref a := by
    cases k with
    | i n => obtain ⟨t, e⟩ := hkey; exact .inl ⟨n, t, e⟩
    | t ks => obtain ⟨_, a, e, _⟩ := hkey; exact .inr ⟨a, e⟩
  -- what holds along the walk
  let I : List Nat → Option (Option Nat) × Option Nat → Shared → Prop := fun rest b s' => s' = s ∧ b.1 = none ∧ (∀ i ∈ rest, i ∈ places) ∧ rest.Nodup ∧
    ((b.2 = none ∧ ∀ (j : Nat) (x : Ent), xs[j]? = some x → x.1 = k → j ∈ rest) ∨ ∃ (j : Nat) (x : Ent), b.2 = some j ∧ xs[j]? = some x ∧ x.1 = k ∧ j ∉ rest)
  have I0 : I places (none, none) s := ⟨rfl, rfl, fun i hi => hi, hs0.1, .inl ⟨rfl, hall⟩⟩
  have fin : ∀ (b : Option (Option Nat) × Option Nat) (s' : Shared), I [] b s' → b.1 = none ∧ Q b.2 s' := by
    rintro ⟨b1, b2⟩ s' ⟨rfl, e1, _, _, h⟩
    refine ⟨e1, ?_⟩
    rcases h with ⟨e2, h⟩ | ⟨j, x, e2, hj, hx, _⟩
    · simp only at e2
      subst e2
      exact hnone fun j x hj hx => by cases h j x hj hx
    · simp only at e2
      subst e2
      exact hsome j x hj hx
  have step : ∀ (i : Nat) (rest : List Nat) (b : Option (Option Nat) × Option Nat) (s' : Shared), I (i :: rest) b s' → s' = s ∧ b.1 = none ∧ ∃ x : Ent, xs[i]? = some x ∧ es[i]? = some ⟨MK.hash P w k, x.2.1, x.2.2⟩ ∧ MK.is P w s.heap x.1 x.2.1 ∧
      (x.1 ≠ k → I rest (none, b.2) s) ∧ (x.1 = k → b.2 = none ∧ I rest (none, some i) s) := by
    rintro i rest ⟨b1, b2⟩ s' ⟨rfl, e1, hin, hnd, h⟩
    simp only at e1
    subst e1
    obtain ⟨x, hx, hh⟩ := hs0.2 i (hin i (by simp))
    have hnd' := List.nodup_cons.mp hnd
    refine ⟨rfl, rfl, x, hx, by rw [ent_at he, hx]; simp [ent, hh], his x (List.mem_of_getElem? hx), fun hne => ?_, fun hk => ?_⟩
    · refine ⟨rfl, rfl, fun j hj => hin j (by simp [hj]), hnd'.2, ?_⟩
      rcases h with ⟨e2, h⟩ | ⟨j, y, e2, hj, hy, hnot⟩
      · refine .inl ⟨e2, fun j y hj hy => ?_⟩
        rcases List.mem_cons.mp (h j y hj hy) with rfl | hr
        · rw [hx] at hj; cases hj; exact absurd hy hne
        · exact hr
      · exact .inr ⟨j, y, e2, hj, hy, fun hr => hnot (by simp [hr])⟩
    · rcases h with ⟨e2, _⟩ | ⟨j, y, _, hj, hy, hnot⟩
      · exact ⟨e2, rfl, rfl, fun j hj => hin j (by simp [hj]), hnd'.2, .inr ⟨i, x, rfl, hx, hk, hnd'.1⟩⟩
      · have := same_place hn hj hx (hy.trans hk.symm)
        subst this
        exact absurd (by simp) hnot
  rcases key_cases with ⟨n, t, rfl⟩ | ⟨a, rfl⟩
  · unfold dictFind
    try with_reducible refine wpAny_holding ?_
    refine wpAny_bind (wpAny_dictEntries ho hd ?_)
    dsimp only
    rw [hpl]
    by_cases hcv : (Value.int n t :: List.filterMap (fun i => Option.map (fun x => x.key) es[i]?) places).all carriedByValue = true
    · rw [if_pos hcv]
      unfold dictWalkPlain
      refine wpAny_bind ?_
      refine wpAny_forIn_list _ (fun rest b s' => b.1 = none ∧ I rest (none, none) s') _ ?_ ?_ _ _ ⟨rfl, I0⟩
      · rintro i rest b s' ⟨eb, h⟩
        obtain ⟨rfl, _, x, hx, hex, hix, k1, k2⟩ := step i rest _ s' h
        rw [hex]
        dsimp only
        rw [if_pos (by simp)]
        refine wpAny_bind (wpAny_dictEpoch ho hd (wpAny_bind (is_eq hu hix hkey (wpAny_bind (wpAny_dictEpoch ho hd ?_)))))
        rw [if_neg (by simp)]
        by_cases hk : x.1 = k
        · rw [decide_eq_true hk, if_pos rfl]
          refine wpAny_bind (wpAny_rule ?_)
          exact wpAny_pure (wpAny_pure (hsome i x hx hk))
        · rw [decide_eq_false hk, if_neg (by simp)]
          refine wpAny_bind (wpAny_rule ?_)
          exact wpAny_pure ⟨rfl, k1 hk⟩
      · rintro ⟨b1, b2⟩ s' ⟨eb, h⟩
        simp only at eb
        subst eb
        exact wpAny_pure (fin (none, none) s' h).2
    · rw [if_neg hcv]
      by_cases hone : (List.filterMap (fun i => Option.map (fun x => x.key) es[i]?) places == [Value.int n t]) = true
      · rw [if_pos hone]
        refine wpAny_bind (wpAny_pure ?_)
        rw [if_neg (by simp)]
        refine wpAny_bind ?_
        refine wpAny_forIn_list _ I _ ?_ (fun b s' h => ?_) _ _ I0
        rotate_left
        · obtain ⟨e1, q⟩ := fin b s' h
          obtain ⟨b1, b2⟩ := b
          simp only at e1
          subst e1
          exact wpAny_pure q
        rintro i rest b s' h
        obtain ⟨rfl, eb, x, hx, hex, hix, k1, k2⟩ := step i rest b s' h
        rw [hex]
        dsimp only
        rw [if_pos (by simp)]
        refine wpAny_bind (wpAny_dictEpoch ho hd (wpAny_bind (is_eq hu hix hkey (wpAny_bind (wpAny_dictEpoch ho hd ?_)))))
        rw [if_neg (by simp)]
        by_cases hk : x.1 = k
        · rw [decide_eq_true hk, if_pos rfl, if_neg (by rw [(k2 hk).1]; simp)]
          refine wpAny_bind (wpAny_rule ?_)
          split
          · exact wpAny_pure (wpAny_pure (hsome i x hx hk))
          · exact wpAny_pure (k2 hk).2
        · rw [decide_eq_false hk, if_neg (by simp)]
          refine wpAny_bind (wpAny_rule ?_)
          rw [if_neg (by simp)]
          exact wpAny_pure (k1 hk)
      · rw [if_neg hone]
        refine wpAny_bind (quietly hkey hst ?_)
        rw [if_neg (by simp)]
        refine wpAny_bind ?_
        refine wpAny_forIn_list _ I _ ?_ (fun b s' h => ?_) _ _ I0
        rotate_left
        · obtain ⟨e1, q⟩ := fin b s' h
          obtain ⟨b1, b2⟩ := b
          simp only at e1
          subst e1
          exact wpAny_pure q
        rintro i rest b s' h
        obtain ⟨rfl, eb, x, hx, hex, hix, k1, k2⟩ := step i rest b s' h
        rw [hex]
        dsimp only
        rw [if_pos (by simp)]
        refine wpAny_bind (wpAny_dictEpoch ho hd (wpAny_bind (is_eq hu hix hkey (wpAny_bind (wpAny_dictEpoch ho hd ?_)))))
        rw [if_neg (by simp)]
        by_cases hk : x.1 = k
        · rw [decide_eq_true hk, if_pos rfl, if_neg (by rw [(k2 hk).1]; simp)]
          refine wpAny_bind (wpAny_rule ?_)
          split
          · exact wpAny_pure (wpAny_pure (hsome i x hx hk))
          · exact wpAny_pure (k2 hk).2
        · rw [decide_eq_false hk, if_neg (by simp)]
          refine wpAny_bind (wpAny_rule ?_)
          rw [if_neg (by simp)]
          exact wpAny_pure (k1 hk)
  · unfold dictFind
    try with_reducible refine wpAny_holding ?_
    refine wpAny_bind (wpAny_dictEntries ho hd ?_)
    dsimp only
    rw [hpl]
    rw [if_neg (show ¬ ((Value.ref a :: List.filterMap (fun i => Option.map (fun x => x.key) es[i]?) places).all carriedByValue = true) by simp [carriedByValue])]
    have noOld : ¬ ((es.any fun e => e.key == Value.ref a && e.hash != MK.hash P w k) = true) := by
      rw [← Array.any_toList, List.any_eq_true, he]
      rintro ⟨e, hin, hc⟩
      obtain ⟨x, hx, rfl⟩ := List.mem_map.mp hin
      simp only [ent, Bool.and_eq_true, beq_iff_eq, bne_iff_ne, ne_eq] at hc
      have h2 := his x hx
      rw [hc.1] at h2
      exact hc.2 (by rw [is_inj h2 hkey])
    rw [if_neg noOld]
    by_cases hone : (List.filterMap (fun i => Option.map (fun x => x.key) es[i]?) places == [Value.ref a]) = true
    · rw [if_pos hone]
      refine wpAny_bind (wpAny_pure ?_)
      rw [if_neg (by simp)]
      refine wpAny_bind ?_
      refine wpAny_forIn_list _ I _ ?_ (fun b s' h => ?_) _ _ I0
      rotate_left
      · obtain ⟨e1, q⟩ := fin b s' h
        obtain ⟨b1, b2⟩ := b
        simp only at e1
        subst e1
        exact wpAny_pure q
      rintro i rest b s' h
      obtain ⟨rfl, eb, x, hx, hex, hix, k1, k2⟩ := step i rest b s' h
      rw [hex]
      dsimp only
      rw [if_pos (by simp)]
      refine wpAny_bind (wpAny_dictEpoch ho hd (wpAny_bind (is_eq hu hix hkey (wpAny_bind (wpAny_dictEpoch ho hd ?_)))))
      rw [if_neg (by simp)]
      by_cases hk : x.1 = k
      · rw [decide_eq_true hk, if_pos rfl, if_neg (by rw [(k2 hk).1]; simp)]
        refine wpAny_bind (wpAny_rule ?_)
        split
        · exact wpAny_pure (wpAny_pure (hsome i x hx hk))
        · exact wpAny_pure (k2 hk).2
      · rw [decide_eq_false hk, if_neg (by simp)]
        refine wpAny_bind (wpAny_rule ?_)
        rw [if_neg (by simp)]
        exact wpAny_pure (k1 hk)
    · rw [if_neg hone]
      refine wpAny_bind (quietly hkey hst ?_)
      rw [if_neg (by simp)]
      refine wpAny_bind ?_
      refine wpAny_forIn_list _ I _ ?_ (fun b s' h => ?_) _ _ I0
      rotate_left
      · obtain ⟨e1, q⟩ := fin b s' h
        obtain ⟨b1, b2⟩ := b
        simp only at e1
        subst e1
        exact wpAny_pure q
      rintro i rest b s' h
      obtain ⟨rfl, eb, x, hx, hex, hix, k1, k2⟩ := step i rest b s' h
      rw [hex]
      dsimp only
      rw [if_pos (by simp)]
      refine wpAny_bind (wpAny_dictEpoch ho hd (wpAny_bind (is_eq hu hix hkey (wpAny_bind (wpAny_dictEpoch ho hd ?_)))))
      rw [if_neg (by simp)]
      by_cases hk : x.1 = k
      · rw [decide_eq_true hk, if_pos rfl, if_neg (by rw [(k2 hk).1]; simp)]
        refine wpAny_bind (wpAny_rule ?_)
        split
        · exact wpAny_pure (wpAny_pure (hsome i x hx hk))
        · exact wpAny_pure (k2 hk).2
      · rw [decide_eq_false hk, if_neg (by simp)]
        refine wpAny_bind (wpAny_rule ?_)
        rw [if_neg (by simp)]
        exact wpAny_pure (k1 hk)
end
end MD
set_option Elab.async false
set_option linter.all false
set_option maxRecDepth 100000
set_option maxHeartbeats 4000000
namespace MD
open PySem PySem.Spec PyProof.Rows L2
section
variable {P : Program} {w : World} {A : Around} {E : Value → Shared → Prop} {s : Shared} {d : Addr} {key v : Value} {k : MK} {xs : List Ent}
def MDict (P : Program) (w : World) (h : Heap) (d : Addr) (xs : List Ent) : Prop := ∃ o es ep, h.get? d = some o ∧ o.ExactDict ∧ o.data = .dict es ep ∧ es.toList = xs.map (ent P w)
def getM (xs : List Ent) (k : MK) : Option Value := (xs.find? fun x => decide (x.1 = k)).map (·.2.2)
def setM (xs : List Ent) (k : MK) (key v : Value) : List Ent := if (getM xs k).isSome = true then xs.map fun x => if x.1 = k then (x.1, x.2.1, v) else x else xs ++ [(k, key, v)]
theorem MDict.typeIs {xs : List Ent} (m : MDict P w s.heap d xs) : s.TypeIs (.ref d) "dict" := let ⟨o, _, _, h1, h2, _⟩ := m; ⟨o, h1, h2.1⟩
theorem getM_at (hn : (xs.map (·.1)).Nodup) {j : Nat} {x : Ent} (hj : xs[j]? = some x) (e : x.1 = k) : getM xs k = some x.2.2 := by
  unfold getM
  cases q : xs.find? fun x => decide (x.1 = k) with
  | none =>
    have := List.find?_eq_none.mp q x (List.mem_of_getElem? hj)
    simp [e] at this
  | some y =>
    have h1 := List.mem_of_find?_eq_some q
    have h2 : y.1 = k := by have := List.find?_some q; simpa using this
    obtain ⟨i, hi⟩ := List.mem_iff_getElem?.mp h1
    have := same_place hn hi hj (h2.trans e.symm)
    subst this
    rw [hi] at hj
    cases hj
    rfl
theorem getM_none (h : ∀ (j : Nat) (x : Ent), xs[j]? = some x → x.1 ≠ k) : getM xs k = none := by
  unfold getM
  rw [List.find?_eq_none.mpr fun x hx z => ?_]
  · rfl
  · obtain ⟨i, hi⟩ := List.mem_iff_getElem?.mp hx
    exact h i x hi (of_decide_eq_true z)
theorem get_mk {Q : Option Value → Shared → Prop} (hu : A.units + 2 < cLine) (hkey : MK.is P w s.heap k key) (m : MDict P w s.heap d xs) (his : ∀ x ∈ xs, MK.is P w s.heap x.1 x.2.1) (hn : (xs.map (·.1)).Nodup)
    (q : Q (getM xs k) { s with toks := s.toks + k.draws }) : wpAny (model P w) A (dictGet d key) Q E s := by
  obtain ⟨o, es, ep, ho, _, hd, he⟩ := m
  unfold dictGet
  try with_reducible refine wpAny_holding ?_
  refine wpAny_bind (is_hash (by omega) hkey (wpAny_bind (find_mk (s := { s with toks := s.toks + k.draws }) hu hkey ho hd he his hn ?_ ?_)))
  · intro hno
    rw [getM_none hno] at q
    exact wpAny_pure q
  · intro j x hj hx
    rw [getM_at hn hj hx] at q
    refine wpAny_bind (wpAny_dictEntries (s := { s with toks := s.toks + k.draws }) ho hd ?_)
    rw [ent_at he, hj]
    exact wpAny_pure q
theorem keys_setM : ((setM xs k key v).map (·.1)) = if (getM xs k).isSome = true then xs.map (·.1) else xs.map (·.1) ++ [k] := by
  unfold setM
  split
  · rw [List.map_map]
    apply List.map_congr_left
    intro x _
    simp only [Function.comp]
    split <;> rfl
  · simp
theorem nodup_setM (hn : (xs.map (·.1)).Nodup) : ((setM xs k key v).map (·.1)).Nodup := by
  rw [keys_setM]
  split
  · exact hn
  · rename_i h
    rw [List.nodup_append]
    refine ⟨hn, by simp, fun a ha b hb z => ?_⟩
    simp at hb
    subst hb; subst z
    obtain ⟨x, hx, e⟩ := List.mem_map.mp ha
    obtain ⟨i, hi⟩ := List.mem_iff_getElem?.mp hx
    exact h (by rw [getM_at hn hi e]; rfl)
theorem modify_setM (hn : (xs.map (·.1)).Nodup) {j : Nat} {x : Ent} (hj : xs[j]? = some x) (e : x.1 = k) : (xs.map (ent P w)).modify j (fun g => { g with val := v }) = (setM xs k key v).map (ent P w) := by
  have hs : setM xs k key v = xs.map fun x => if x.1 = k then (x.1, x.2.1, v) else x := by unfold setM; rw [getM_at hn hj e]; rfl
  rw [hs]
  apply List.ext_getElem?
  intro i
  rw [List.getElem?_modify, List.getElem?_map, List.getElem?_map, List.getElem?_map]
  cases q : xs[i]? with
  | none => simp
  | some y =>
    by_cases hij : j = i
    · subst hij
      rw [hj] at q
      cases q
      simp [ent, e]
    · have : ¬ y.1 = k := fun z => hij (same_place hn hj q (e.trans z.symm))
      simp [hij, this]
theorem is_same {k : MK} {key : Value} {h h' : Heap} {d : Addr} {o : Obj} {es : Array DictEntry} {ep : Nat} (hk : MK.is P w h k key) (ho : h.get? d = some o) (hd : o.data = .dict es ep) (hs : Heap.SameBut d h h') : MK.is P w h' k key := by
  cases k with
  | i n => exact hk
  | t ks => obtain ⟨ok, a, e, r⟩ := hk; exact ⟨ok, a, e, (tupleKind (mixKind P w)).keeps (k := ks) r ho hd hs⟩
theorem set_mk {Q : Unit → Shared → Prop} (hu : A.units + 2 < cLine) (hkey : MK.is P w s.heap k key) (m : MDict P w s.heap d xs) (his : ∀ x ∈ xs, MK.is P w s.heap x.1 x.2.1) (hn : (xs.map (·.1)).Nodup) (hz : xs.length ≤ sizeLine)
    (q : ∀ h', MDict P w h' d (setM xs k key v) → Heap.SameBut d s.heap h' → Q () { s with heap := h', toks := s.toks + k.draws }) : wpAny (model P w) A (dictSet d key v) Q E s := by
  obtain ⟨o, es, ep, ho, hc, hd, he⟩ := m
  have hsz : es.size = xs.length := by rw [← Array.length_toList, he, List.length_map]
  unfold dictSet
  try with_reducible refine wpAny_holding ?_
  refine wpAny_bind (is_hash (by omega) hkey ?_)
  unfold dictSetHashed
  try with_reducible refine wpAny_holding ?_
  refine wpAny_bind (find_mk (s := { s with toks := s.toks + k.draws }) hu hkey ho hd he his hn ?_ ?_)
  · intro hno
    refine wpAny_bind (wpAny_rule (wpAny_updateDictKeys (hz := by omega) (s := { s with toks := s.toks + k.draws }) ho hd (q _ ⟨_, _, ep + 1, Heap.get?_update_self _ ho (Obj.isFreed_of_dict (Obj.data_mapDictKeys hd _)), hc.mapDictKeys _, Obj.data_mapDictKeys hd _, ?_⟩ (Heap.SameBut.update ..))))
    unfold setM
    rw [getM_none hno]
    simp [he, ent]
  · intro j x hj hx
    refine wpAny_bind (wpAny_rule (wpAny_bind (wpAny_updateDict (s := { s with toks := s.toks + k.draws }) ho hd (wpAny_point (q _ ⟨_, _, ep, Heap.get?_update_self _ ho (Obj.isFreed_of_dict (Obj.data_mapDict hd _)), hc.mapDict _, Obj.data_mapDict hd _, ?_⟩ (Heap.SameBut.update ..))))))
    rw [← modify_setM hn hj hx, ← he]
    obtain ⟨l⟩ := es
    simp
end
end MD
set_option Elab.async false
set_option linter.all false
set_option maxRecDepth 100000
set_option maxHeartbeats 4000000
namespace MD
open PySem PySem.Spec PyProof.Rows L2
section
variable {P : Program} {w : World} {A : Around} {E : Value → Shared → Prop} {s : Shared} {d : Addr} {key v : Value} {k : MK} {xs : List Ent}
/-- a dict at d, its keys -/
structure MAt (P : Program) (w : World) (h : Heap) (d : Addr) (xs : List Ent) : Prop where
  sys : (d == sysModules) = false
  dict : MDict P w h d xs
  keys : ∀ x ∈ xs, MK.is P w h x.1 x.2.1
  nd : (xs.map (·.1)).Nodup
  len : xs.length ≤ sizeLine
theorem MAt.typeIs (m : MAt P w s.heap d xs) : s.TypeIs (.ref d) "dict" := m.dict.typeIs
theorem MAt.get {Q : Option Value → Shared → Prop} (hu : A.units + 2 < cLine) (hkey : MK.is P w s.heap k key) (m : MAt P w s.heap d xs) (q : Q (getM xs k) { s with toks := s.toks + k.draws }) : wpAny (model P w) A (dictGet d key) Q E s := get_mk hu hkey m.dict m.keys m.nd q
theorem told_in {Q : Value → Shared → Prop} (hu : A.in1.units + 2 < cLine) (hkey : MK.is P w s.heap k key) (m : MAt P w s.heap d xs) {f : Bool → Bool} {T : Bool → Sem Value} (hT : ∀ (b : Bool) (s' : Shared), Q (.bool (f b)) s' → wpAny (model P w) A (T b) Q E s')
    (q : Q (.bool (f (getM xs k).isSome)) { s with toks := s.toks + k.draws }) : wpAny (model P w) A (contains (.ref d) key >>= T) Q E s := by
  refine wpAny_bind ?_
  unfold contains; try with_reducible refine wpAny_holding ?_
  refine wpAny_bind (wpAny_specialOf m.typeIs PySem.F.slot_dict_contains.lookup ?_)
  rw [show (some (Value.builtin "dict.__contains__") == some Value.none) = false from beq_builtin_none _]
  show wpAny (model P w) _ (if false = true then _ else _) _ E s; rw [if_neg Bool.false_ne_true]
  refine wpAny_bind (wpAny_callSpecialUnlessNone?_slot (name := Str.ofString "__contains__") m.typeIs PySem.F.slot_dict_contains (wpAny_call_entry PySem.F.slot_dict_contains m.typeIs PySem.F.entry_dict_contains ?_ (PySem.args_dict_contains _ _)))
  show wpAny (model P w) _ (dictGet d key >>= _) _ _ s
  refine wpAny_bind (m.get hu hkey ?_)
  cases hf : getM xs k with
  | some p =>
    rw [hf] at q
    show wpAny (model P w) _ (ret (.bool true)) _ _ _
    exact wpAny_pure ⟨_, rfl, wpAny_truthy_bool (hT true _ q)⟩
  | none =>
    rw [hf] at q
    show wpAny (model P w) _ (Builtin.Dict.pendingKey? d key >>= _) _ _ _
    exact wpAny_bind (wpAny_pendingKey_other m.sys (wpAny_pure ⟨_, rfl, wpAny_truthy_bool (hT false _ q)⟩))
theorem in_mk {Q : Value → Shared → Prop} (hu : A.in1.units + 2 < cLine) (hkey : MK.is P w s.heap k key) (m : MAt P w s.heap d xs) (q : Q (.bool (getM xs k).isSome) { s with toks := s.toks + k.draws }) : wpAny (model P w) A (compareOp .In key (.ref d)) Q E s :=
  told_in (f := id) (T := fun b => pure (.bool b)) hu hkey m (fun b s' q => wpAny_pure q) q
theorem notIn_mk {Q : Value → Shared → Prop} (hu : A.in1.units + 2 < cLine) (hkey : MK.is P w s.heap k key) (m : MAt P w s.heap d xs) (q : Q (.bool (!(getM xs k).isSome)) { s with toks := s.toks + k.draws }) : wpAny (model P w) A (compareOp .NotIn key (.ref d)) Q E s :=
  told_in (f := not) (T := fun b => pure (.bool (!b))) hu hkey m (fun b s' q => wpAny_pure q) q
theorem getItem_mk {Q : Value → Shared → Prop} (hu : A.in1.units + 2 < cLine) (hkey : MK.is P w s.heap k key) (m : MAt P w s.heap d xs) (hv : getM xs k = some v) (q : Q v { s with toks := s.toks + k.draws }) : wpAny (model P w) A (getItem (.ref d) key) Q E s := by
  unfold getItem; try with_reducible refine wpAny_holding ?_
  refine wpAny_bind (wpAny_sequenceKey m.typeIs (by decide) (wpAny_bind (wpAny_callSpecial?_slot (name := Str.ofString "__getitem__") m.typeIs PySem.F.slot_dict_getitem (wpAny_call_entry PySem.F.slot_dict_getitem m.typeIs PySem.F.entry_dict_getitem ?_ (PySem.args_dict_getitem _ _)))))
  show wpAny (model P w) _ (dictGet d key >>= _) _ _ s
  refine wpAny_bind (m.get hu hkey ?_)
  rw [hv]; exact wpAny_pure ⟨v, rfl, wpAny_pure q⟩
theorem setItem_mk {Q : Unit → Shared → Prop} (hu : A.in1.units + 2 < cLine) (hkey : MK.is P w s.heap k key) (m : MAt P w s.heap d xs) (q : ∀ h', MDict P w h' d (setM xs k key v) → Heap.SameBut d s.heap h' → Q () { s with heap := h', toks := s.toks + k.draws }) : wpAny (model P w) A (setItem (.ref d) key v) Q E s := by
  unfold setItem; try with_reducible refine wpAny_holding ?_
  refine wpAny_bind (wpAny_sequenceKey m.typeIs (by decide) (wpAny_bind (wpAny_callSpecial?_slot (name := Str.ofString "__setitem__") m.typeIs PySem.F.slot_dict_setitem (wpAny_call_entry PySem.F.slot_dict_setitem m.typeIs PySem.F.entry_dict_setitem ?_ (PySem.args_dict_setitem _ _ _)))))
  show wpAny (model P w) _ (Builtin.Dict.notOrdered "__setitem__" ⟨[.ref d, key, v], []⟩ >>= _) _ _ s
  refine wpAny_bind (wpAny_notOrdered_dict m.typeIs ?_)
  show wpAny (model P w) _ (dictSet d key v >>= _) _ _ s
  exact wpAny_bind (set_mk hu hkey m.dict m.keys m.nd m.len fun h' m' hs => wpAny_pure ⟨.none, rfl, wpAny_pure (q h' m' hs)⟩)
/-- d.get(key, x) -/
theorem get2_meets {dflt : Value} (hd : (d == sysModules) = false) : MeetsIn P w (Builtin.«dict.get» ⟨[.ref d, key, dflt], []⟩) (fun A R s => A.in1.units + 2 < cLine ∧ ∃ k xs, MK.is P w s.heap k key ∧ MAt P w s.heap d xs ∧ R (.ok (.ret ((getM xs k).getD dflt))) { s with toks := s.toks + k.draws }) :=
  .of_wp fun A R s ⟨hu, k, xs, hkey, m, q⟩ => by
    show wpAny (model P w) _ (dictGet d key >>= _) _ _ s
    refine wpAny_bind (m.get hu hkey ?_)
    cases hf : getM xs k with
    | some p => rw [hf] at q; exact wpAny_pure ⟨p, rfl, q⟩
    | none =>
      rw [hf] at q
      show wpAny (model P w) _ (Builtin.Dict.missed d key >>= _) _ _ _
      exact wpAny_bind (wpAny_missed_other hd (wpAny_pure ⟨dflt, rfl, q⟩))
theorem get2_mk {dflt : Value} {Q : Value → Shared → Prop} (hu : A.in1.units + 2 < cLine) (hkey : MK.is P w s.heap k key) (m : MAt P w s.heap d xs) (q : Q ((getM xs k).getD dflt) { s with toks := s.toks + k.draws }) : wpAny (model P w) A (call (.builtin "dict.get") [.ref d, key, dflt]) Q E s :=
  call_meetsIn PySem.F.slot_dict_get m.typeIs PySem.F.entry_dict_get (PySem.F.args_dict_get_3 _ _ _) (get2_meets m.sys) ⟨hu, k, xs, hkey, m, q⟩
/-- d.setdefault(key, x) -/
theorem sdflt_mk {Q : Value → Shared → Prop} {dflt : Value} (hu : A.units + 2 < cLine) (hkey : MK.is P w s.heap k key) (m : MAt P w s.heap d xs) (q1 : ∀ p, getM xs k = some p → Q p { s with toks := s.toks + k.draws })
    (q2 : getM xs k = none → ∀ h', MDict P w h' d (setM xs k key dflt) → Heap.SameBut d s.heap h' → Q dflt { s with heap := h', toks := s.toks + k.draws }) : wpAny (model P w) A (dictSetDefault d key dflt) Q E s := by
  obtain ⟨o, es, ep, ho, hc, hd, he⟩ := m.dict
  have hsz : es.size = xs.length := by rw [← Array.length_toList, he, List.length_map]
  have hl := m.len
  unfold dictSetDefault; try with_reducible refine wpAny_holding ?_
  refine wpAny_bind (is_hash (by omega) hkey (wpAny_bind (find_mk (s := { s with toks := s.toks + k.draws }) hu hkey ho hd he m.keys m.nd ?_ ?_)))
  · intro hno
    refine wpAny_bind (wpAny_rule (wpAny_bind (wpAny_updateDictKeys (hz := by omega) (s := { s with toks := s.toks + k.draws }) ho hd (wpAny_pure (q2 (getM_none hno) _ ⟨_, _, ep + 1, Heap.get?_update_self _ ho (Obj.isFreed_of_dict (Obj.data_mapDictKeys hd _)), hc.mapDictKeys _, Obj.data_mapDictKeys hd _, ?_⟩ (Heap.SameBut.update ..))))))
    unfold setM; rw [getM_none hno]; simp [he, ent]
  · intro j x hj hx
    refine wpAny_bind (wpAny_dictEntries (s := { s with toks := s.toks + k.draws }) ho hd ?_)
    rw [ent_at he, hj]
    exact wpAny_bind (wpAny_rule (wpAny_pure (q1 _ (getM_at m.nd hj hx))))
end
end MD
set_option Elab.async false
set_option linter.all false
set_option maxRecDepth 100000
set_option maxHeartbeats 4000000
namespace Mi
open PySem PySem.Spec PyProof.Rows L2
/-! ## data, cells -/
/-- built-in types -/
inductive Ky where
  | non | bl | int | str | tup | lst | dic
def Ky.nm : Ky → String
  | .non => "NoneType" | .bl => "bool" | .int => "int" | .str => "str" | .tup => "tuple" | .lst => "list" | .dic => "dict"
inductive D where
  | non | bl (b : Bool) | int (i : Int) | str (x : Str) | tup (ds : List D) | cell (n : Nat) | fn (n : Nat) | scr (ns : List Int) | ty (t : Ky) | rol (ds : List D)
/-- a dict with ints and tuples as keys: `dix`; while it is walked: `dxl` -/
inductive Cell where
  | lst (ds : List D)
  | dic (kvs : List (Key × D))
  | dix (kvs : List (MD.MK × D))
  | dxl (kvs : List (MD.MK × D))
  | tab (k : Nat)
/-- the defs' places, the hash of a key -/
structure Cfg where
  fn : Nat → Addr
  hash : MD.MK → Int
  tab : Nat → Addr × Str
  exc : Nat → Addr × Str
instance : CoeFun Cfg (fun _ => Nat → Addr) := ⟨Cfg.fn⟩
abbrev Hm := List Cell
abbrev Ev := List (Option D)
/-- a list that nobody may change -/
def SqR (K : PySem.W.Frag) (H : Hp) (a : Addr) (xs : List V) : Prop :=
  SqL K H a xs ∧ ∀ H' : Hp, (∀ b o u, H b = some (.frz o u) → H' b = some (.frz o u)) → SqL K H' a xs
section
variable (K : PySem.W.Frag) (ft : Cfg) (ρ : List Addr) (H : Hp)
mutual
inductive DV : D → V → Prop
  | non : DV .non .non
  | bl (b : Bool) : DV (.bl b) (.bl b)
  | int (i : Int) : DV (.int i) (.int i)
  | str (x : Str) : DV (.str x) (.str x)
  | tup {ds : List D} {a : Addr} {vs : List V} : SqT K H a vs → DVs ds vs → DV (.tup ds) (.ref a)
  | cell {n : Nat} {a : Addr} : ρ[n]? = some a → DV (.cell n) (.ref a)
  | fn (n : Nat) : DV (.fn n) (.ref (ft n))
  | scr {ns : List Int} {a : Addr} : SqR K H a (ns.map V.int) → DV (.scr ns) (.ref a)
  | ty (t : Ky) : DV (.ty t) (.ty t.nm)
  | rol {ds : List D} {a : Addr} {vs : List V} {o : Obj} : H a = some (.frz o (.lst vs)) → DVs ds vs → DV (.rol ds) (.ref a)
inductive DVs : List D → List V → Prop
  | nil : DVs [] []
  | cons {d : D} {ds : List D} {v : V} {vs : List V} : DV d v → DVs ds vs → DVs (d :: ds) (v :: vs)
end
/-- a key and its value -/
def KeyV : MD.MK → V → Prop
  | .i n, v => v = .int n
  | .t ks, v => ks.all MD.partOk = true ∧ ∃ b, v = .ref b ∧ SqT K H b (ks.map kV)
/-- the table at P: each code object that it tells bears the name q, and is no cell -/
def TabR (ρ : List Addr) (H : Hp) (P : Addr) (q : Str) : Prop := ∃ ps : Array Value, H P = some (.tbl ps) ∧ TriplesOk ps.toList ∧ ∀ (pos : Pos) (cv : Value), codeAmong pos ps.toList = some cv → ∃ c, cv = .ref c ∧ H c = some (LamX.CodeO c q) ∧ c ∉ ρ
/-- what stands at a: a dict with these entries -/
abbrev EV := List (MD.MK × V × V)
def mixO (hash : MD.MK → Int) (a : Addr) (es : EV) : HO := .ext fun h => (a == sysModules) = false ∧ es.length ≤ sizeLine ∧ ∃ (o : Obj) (arr : Array DictEntry) (ep : Nat), h.get? a = some o ∧ o.ExactDict ∧ o.data = .dict arr ep ∧
  Paired (fun (e : MD.MK × V × V) (g : DictEntry) => g.hash = hash e.1 ∧ RelV e.2.1 g.key ∧ RelV e.2.2 g.val) es arr.toList
/-- the entries of a cell -/
def Mix (kvs : List (MD.MK × D)) (es : EV) : Prop := (es.map (·.1)).Nodup ∧ Paired (fun (p : MD.MK × D) (e : MD.MK × V × V) => p.1 = e.1 ∧ KeyV K H e.1 e.2.1 ∧ DV K ft ρ H p.2 e.2.2) kvs es
def COk (a : Addr) : Cell → Prop
  | .lst ds => ∃ vs, H a = some (.lst vs) ∧ DVs K ft ρ H ds vs
  | .dic kvs => ∃ ws, H a = some (.dK ws) ∧ Paired (fun (p : Key × D) (q : Key × V) => p.1 = q.1 ∧ DV K ft ρ H p.2 q.2) kvs ws
  | .dix kvs => ∃ es, H a = some (mixO ft.hash a es) ∧ Mix K ft ρ H kvs es
  | .dxl kvs => ∃ es o, H a = some (.frz o (mixO ft.hash a es)) ∧ Mix K ft ρ H kvs es
  | .tab k => a = (ft.tab k).1 ∧ TabR ρ H a (ft.tab k).2
def Cell.locked : Cell → Bool
  | .dxl _ => true
  | _ => false
structure Rel (C : Hm) : Prop where
  len : ρ.length = C.length
  nd : ρ.Nodup
  ok : ∀ (n : Nat) (c : Cell), C[n]? = some c → ∃ a : Addr, ρ[n]? = some a ∧ COk K ft ρ H a c
structure EnvOk (E : Ev) (σ : L2.St) : Prop where
  len : E.length = σ.length
  at_ : ∀ (i : Nat) (d : D), E[i]? = some (some d) → ∃ v : V, σ[i]? = some (some v) ∧ DV K ft ρ H d v
end
structure Stp (ρ : List Addr) (H : Hp) (ρ' : List Addr) (H' : Hp) : Prop where
  pre : ∃ t, ρ' = ρ ++ t ∧ ∀ b ∈ t, H b = none
  keep : ∀ b o, H b = some o → b ∉ ρ → H' b = some o
  there : ∀ b o, H b = some o → ∃ o', H' b = some o'
  tups : ∀ b xs, H b = some (.tup xs) → H' b = some (.tup xs)
  frzs : ∀ b o u, H b = some (.frz o u) → H' b = some (.frz o u)
section
variable {K : PySem.W.Frag} {ft : Cfg} {ρ ρ' ρ1 ρ2 : List Addr} {H H' H1 H2 : Hp} {C C' : Hm}
theorem Stp.refl : Stp ρ H ρ H := ⟨⟨[], by simp, by simp⟩, fun _ _ h _ => h, fun _ o h => ⟨o, h⟩, fun _ _ h => h, fun _ _ _ h => h⟩
theorem Stp.get (s : Stp ρ H ρ' H') {n : Nat} {a : Addr} (h : ρ[n]? = some a) : ρ'[n]? = some a := by
  obtain ⟨t, rfl, _⟩ := s.pre
  have := (List.getElem?_eq_some_iff.mp h).1
  rw [List.getElem?_append_left this]; exact h
theorem Stp.trans (s : Stp ρ H ρ1 H1) (r : Stp ρ1 H1 ρ2 H2) : Stp ρ H ρ2 H2 := by
  obtain ⟨t, rfl, ht⟩ := s.pre
  obtain ⟨u, rfl, hu⟩ := r.pre
  have fresh : ∀ b o, H b = some o → b ∉ ρ → b ∉ ρ ++ t := fun b o e hb z => by
    rcases List.mem_append.mp z with z | z
    · exact hb z
    · rw [ht b z] at e; cases e
  refine ⟨⟨t ++ u, by rw [List.append_assoc], fun b hb => ?_⟩, fun b o e hb => r.keep b o (s.keep b o e hb) (fresh b o e hb), fun b o e => ?_, fun b xs e => r.tups b xs (s.tups b xs e), fun b o u e => r.frzs b o u (s.frzs b o u e)⟩
  · rcases List.mem_append.mp hb with z | z
    · exact ht b z
    · cases q : H b with
      | none => rfl
      | some o =>
        obtain ⟨o', q'⟩ := s.there b o q
        rw [hu b z] at q'; cases q'
  · obtain ⟨o', q'⟩ := s.there b o e
    exact r.there b o' q'
/-- what data lean on -/
structure Wk (ρ : List Addr) (H : Hp) (ρ' : List Addr) (H' : Hp) : Prop where
  get : ∀ {n : Nat} {a : Addr}, ρ[n]? = some a → ρ'[n]? = some a
  tups : ∀ b xs, H b = some (.tup xs) → H' b = some (.tup xs)
  frzs : ∀ b o u, H b = some (.frz o u) → H' b = some (.frz o u)
theorem Stp.wk (s : Stp ρ H ρ' H') : Wk ρ H ρ' H' := ⟨s.get, s.tups, s.frzs⟩
theorem Wk.sqT (s : Wk ρ H ρ' H') {a : Addr} {xs : List V} (h : SqT K H a xs) : SqT K H' a xs := by
  rcases h with (h | ⟨o, h⟩) | h
  · exact .inl (.inl (s.tups _ _ h))
  · exact .inl (.inr ⟨o, s.frzs _ _ _ h⟩)
  · exact .inr h
theorem Wk.sqR (s : Wk ρ H ρ' H') {a : Addr} {xs : List V} (h : SqR K H a xs) : SqR K H' a xs :=
  ⟨h.2 H' s.frzs, fun H2 k => h.2 H2 fun b o u e => k b o u (s.frzs b o u e)⟩
mutual
theorem DV.monoW (s : Wk ρ H ρ' H') : ∀ {d : D} {v : V}, DV K ft ρ H d v → DV K ft ρ' H' d v
  | _, _, .non => .non
  | _, _, .bl b => .bl b
  | _, _, .int i => .int i
  | _, _, .str x => .str x
  | _, _, .tup h r => .tup (s.sqT h) (DVs.monoW s r)
  | _, _, .cell h => .cell (s.get h)
  | _, _, .fn n => .fn n
  | _, _, .scr h => .scr (s.sqR h)
  | _, _, .ty t => .ty t
  | _, _, .rol h r => .rol (s.frzs _ _ _ h) (DVs.monoW s r)
theorem DVs.monoW (s : Wk ρ H ρ' H') : ∀ {ds : List D} {vs : List V}, DVs K ft ρ H ds vs → DVs K ft ρ' H' ds vs
  | _, _, .nil => .nil
  | _, _, .cons h t => .cons (DV.monoW s h) (DVs.monoW s t)
end
theorem DV.mono {d : D} {v : V} (h : DV K ft ρ H d v) (s : Stp ρ H ρ' H') : DV K ft ρ' H' d v := DV.monoW s.wk h
theorem DVs.mono {d : List D} {v : List V} (h : DVs K ft ρ H d v) (s : Stp ρ H ρ' H') : DVs K ft ρ' H' d v := DVs.monoW s.wk h
theorem EnvOk.mono {E : Ev} {σ : L2.St} (h : EnvOk K ft ρ H E σ) (s : Stp ρ H ρ' H') : EnvOk K ft ρ' H' E σ :=
  ⟨h.len, fun i d e => let ⟨v, a, b⟩ := h.at_ i d e; ⟨v, a, b.mono s⟩⟩
theorem DVs.length : ∀ {ds : List D} {vs : List V}, DVs K ft ρ H ds vs → ds.length = vs.length
  | _, _, .nil => rfl
  | _, _, .cons _ t => by simp [DVs.length t]
theorem DVs.get : ∀ {ds : List D} {vs : List V} {i : Nat} {d : D}, DVs K ft ρ H ds vs → ds[i]? = some d → ∃ v, vs[i]? = some v ∧ DV K ft ρ H d v
  | _, _, _, _, .nil, e => by simp at e
  | _, _, 0, _, .cons h _, e => by simp at e; subst e; exact ⟨_, rfl, h⟩
  | _, _, i + 1, d, .cons _ t, e => by
    obtain ⟨v, h1, h2⟩ := DVs.get (i := i) (d := d) t (by simpa using e)
    exact ⟨v, by simpa using h1, h2⟩
theorem DVs.get' : ∀ {ds : List D} {vs : List V} {i : Nat} {v : V}, DVs K ft ρ H ds vs → vs[i]? = some v → ∃ d, ds[i]? = some d ∧ DV K ft ρ H d v
  | _, _, _, _, .nil, e => by simp at e
  | _, _, 0, _, .cons h _, e => by simp at e; subst e; exact ⟨_, rfl, h⟩
  | _, _, i + 1, d, .cons _ t, e => by
    obtain ⟨v, h1, h2⟩ := DVs.get' (i := i) t (by simpa using e)
    exact ⟨v, by simpa using h1, h2⟩
theorem DVs.append : ∀ {ds es : List D} {vs ws : List V}, DVs K ft ρ H ds vs → DVs K ft ρ H es ws → DVs K ft ρ H (ds ++ es) (vs ++ ws)
  | _, _, _, _, .nil, r => r
  | _, _, _, _, .cons h t, r => .cons h (DVs.append t r)
theorem DVs.set {d : D} {v : V} (h : DV K ft ρ H d v) : ∀ {ds : List D} {vs : List V} (i : Nat), DVs K ft ρ H ds vs → DVs K ft ρ H (ds.set i d) (vs.set i v)
  | _, _, _, .nil => .nil
  | _, _, 0, .cons _ t => .cons h t
  | _, _, i + 1, .cons q t => .cons q (DVs.set h i t)
theorem DVs.eraseIdx : ∀ {ds : List D} {vs : List V} (i : Nat), DVs K ft ρ H ds vs → DVs K ft ρ H (ds.eraseIdx i) (vs.eraseIdx i)
  | _, _, _, .nil => .nil
  | _, _, 0, .cons _ t => t
  | _, _, i + 1, .cons q t => .cons q (DVs.eraseIdx i t)
theorem DVs.take : ∀ {ds : List D} {vs : List V} (i : Nat), DVs K ft ρ H ds vs → DVs K ft ρ H (ds.take i) (vs.take i)
  | _, _, 0, _ => .nil
  | _, _, _ + 1, .nil => .nil
  | _, _, i + 1, .cons q t => .cons q (DVs.take i t)
theorem DVs.drop : ∀ {ds : List D} {vs : List V} (i : Nat), DVs K ft ρ H ds vs → DVs K ft ρ H (ds.drop i) (vs.drop i)
  | _, _, 0, h => h
  | _, _, _ + 1, .nil => .nil
  | _, _, i + 1, .cons _ t => DVs.drop i t
theorem DVs.reverse : ∀ {ds : List D} {vs : List V}, DVs K ft ρ H ds vs → DVs K ft ρ H ds.reverse vs.reverse
  | _, _, .nil => .nil
  | _, _, .cons h t => by simp only [List.reverse_cons]; exact DVs.append (DVs.reverse t) (.cons h .nil)
theorem DVs.ints : ∀ (ns : List Int), DVs K ft ρ H (ns.map D.int) (ns.map V.int)
  | [] => .nil
  | n :: ns => .cons (.int n) (DVs.ints ns)
/-! ## code objects -/
theorem heap_of (a : Addr) (o : Obj) (hd : o.data ≠ .freed) : ∃ h : Heap, h.get? a = some o := by
  refine ⟨⟨Array.replicate (a + 1) o, {}⟩, ?_⟩
  have e : (Array.replicate (a + 1) o)[a]? = some o := by simp
  unfold Heap.get?
  simp only [e]
  split
  · rename_i c d s q
    cases q
    exact absurd rfl hd
  · rfl
theorem code_obj (a : Addr) (q : Str) : ∃ (h : Heap) (vs : Array Value), h.get? a = some ⟨.none, none, .fields vs, #[]⟩ ∧ ∃ (oc : Obj) (vs : Array Value) (t : Tok), h.get? a = some oc ∧ oc.data = .fields vs ∧ vs[1]? = some (.str q t) := by
  obtain ⟨h, e⟩ := heap_of a ⟨.none, none, .fields #[.none, .str q default], #[]⟩ (by simp)
  exact ⟨h, _, e, _, _, default, e, rfl, rfl⟩
theorem ext_code {a : Addr} {q : Str} {φ : Heap → Prop} (h : HO.ext φ = LamX.CodeO a q) (no : ∀ (h : Heap) (vs : Array Value), h.get? a = some ⟨.none, none, .fields vs, #[]⟩ → ¬ φ h) : False := by
  obtain ⟨hp, vs, e, z⟩ := code_obj a q
  unfold LamX.CodeO at h
  refine no hp vs e ?_
  rw [HO.ext.inj h]
  exact z
theorem mixO_code {hash : MD.MK → Int} {a : Addr} {es : EV} {q : Str} : mixO hash a es ≠ LamX.CodeO a q := fun h => ext_code h fun hp vs e z => by
  obtain ⟨_, _, o, arr, ep, e1, _, e2, _⟩ := z
  rw [e] at e1
  cases e1
  cases e2
theorem code_lst {xs : List V} {a : Addr} {q : Str} : HO.lst xs ≠ LamX.CodeO a q := fun h => by unfold LamX.CodeO at h; cases h
theorem code_dK {xs : List (Key × V)} {a : Addr} {q : Str} : HO.dK xs ≠ LamX.CodeO a q := fun h => by unfold LamX.CodeO at h; cases h
theorem code_frz {o : Obj} {u : HO} {a : Addr} {q : Str} : HO.frz o u ≠ LamX.CodeO a q := fun h => by unfold LamX.CodeO at h; cases h
theorem code_tup {xs : List V} {a : Addr} {q : Str} : HO.tup xs ≠ LamX.CodeO a q := fun h => by unfold LamX.CodeO at h; cases h
theorem COk.nocode {a : Addr} {c : Cell} (k : COk K ft ρ H a c) (q : Str) : H a ≠ some (LamX.CodeO a q) := fun z => by
  cases c with
  | lst ds => obtain ⟨vs, e, _⟩ := k; rw [e] at z; exact code_lst (Option.some.inj z)
  | dic ks => obtain ⟨vs, e, _⟩ := k; rw [e] at z; exact code_dK (Option.some.inj z)
  | dix ks => obtain ⟨vs, e, _⟩ := k; rw [e] at z; exact mixO_code (Option.some.inj z)
  | dxl ks => obtain ⟨vs, o, e, _⟩ := k; rw [e] at z; exact code_frz (Option.some.inj z)
  | tab n => obtain ⟨_, ps, e, _⟩ := k; rw [e] at z; exact LamX.codeO_ne ps (Option.some.inj z).symm
theorem TabR.gen {P : Addr} {q : Str} (t : TabR ρ H P q) (h : H' P = H P) (hc : ∀ c, c ∉ ρ → H c = some (LamX.CodeO c q) → H' c = some (LamX.CodeO c q) ∧ c ∉ ρ') : TabR ρ' H' P q := by
  obtain ⟨ps, e1, e2, e3⟩ := t
  refine ⟨ps, h.trans e1, e2, fun pos cv e => ?_⟩
  obtain ⟨c, r1, r2, r3⟩ := e3 pos cv e
  exact ⟨c, r1, hc c r3 r2⟩
theorem TabR.mono {P : Addr} {q : Str} (t : TabR ρ H P q) (s : Stp ρ H ρ' H') (h : H' P = H P) : TabR ρ' H' P q := t.gen h fun c hc e => by
  refine ⟨s.keep c _ e hc, ?_⟩
  obtain ⟨u, rfl, hu⟩ := s.pre
  intro z
  rcases List.mem_append.mp z with z | z
  · exact hc z
  · rw [hu c z] at e; cases e
/-- some tracked object that is no code object is written anew -/
theorem TabR.upd {P : Addr} {q : Str} (t : TabR ρ H P q) {a : Addr} {u o : HO} (ha : H a = some u) (nc : u ≠ LamX.CodeO a q) (hP : P ≠ a) : TabR ρ (upd H a o) P q := t.gen (upd_ne hP) fun c hc e => by
  have : c ≠ a := fun z => by
    subst z
    rw [ha] at e
    exact nc (Option.some.inj e)
  exact ⟨by rw [upd_ne this]; exact e, hc⟩
/-! ## the heap's steps -/
theorem Rel.nil : Rel K ft [] H [] := ⟨rfl, List.nodup_nil, fun n c e => by simp at e⟩
theorem Rel.has (R : Rel K ft ρ H C) {b : Addr} (hb : b ∈ ρ) : ∃ o, H b = some o := by
  obtain ⟨n, hn, e⟩ := List.getElem_of_mem hb
  have hc : n < C.length := by rw [← R.len]; exact hn
  obtain ⟨a, ha, k⟩ := R.ok n C[n] (List.getElem?_eq_getElem hc)
  rw [List.getElem?_eq_getElem hn, e] at ha
  cases ha
  cases h : C[n] with
  | lst ds => rw [h] at k; obtain ⟨vs, q, _⟩ := k; exact ⟨_, q⟩
  | dic ks => rw [h] at k; obtain ⟨vs, q, _⟩ := k; exact ⟨_, q⟩
  | dix ks => rw [h] at k; obtain ⟨vs, q, _⟩ := k; exact ⟨_, q⟩
  | dxl ks => rw [h] at k; obtain ⟨vs, o, q, _⟩ := k; exact ⟨_, q⟩
  | tab n => rw [h] at k; obtain ⟨_, ps, q, _⟩ := k; exact ⟨_, q⟩
theorem Rel.out (R : Rel K ft ρ H C) {p : Addr} (hp : H p = none) : p ∉ ρ := fun z => by
  obtain ⟨o, e⟩ := R.has z; rw [hp] at e; cases e
theorem KeyV.monoW {k : MD.MK} {v : V} (w : Wk ρ H ρ' H') (h : KeyV K H k v) : KeyV K H' k v := by
  cases k with
  | i n => exact h
  | t ks => obtain ⟨ok, b, e, q⟩ := h; exact ⟨ok, b, e, w.sqT q⟩
theorem Mix.monoW {kvs : List (MD.MK × D)} {es : EV} (w : Wk ρ H ρ' H') (h : Mix K ft ρ H kvs es) : Mix K ft ρ' H' kvs es := ⟨h.1, Paired.mapP h.2 fun p e z => ⟨z.1, z.2.1.monoW w, DV.monoW w z.2.2⟩⟩
theorem COk.mono {a : Addr} {c : Cell} (s : Stp ρ H ρ' H') (h : H' a = H a) (k : COk K ft ρ H a c) : COk K ft ρ' H' a c := by
  cases c with
  | lst ds => obtain ⟨vs, q, r⟩ := k; exact ⟨vs, h.trans q, r.mono s⟩
  | dic ks => obtain ⟨vs, q, r⟩ := k; exact ⟨vs, h.trans q, Paired.mapP r fun p q z => ⟨z.1, z.2.mono s⟩⟩
  | dix ks => obtain ⟨es, q, r⟩ := k; exact ⟨es, h.trans q, r.monoW s.wk⟩
  | dxl ks => obtain ⟨es, o, q, r⟩ := k; exact ⟨es, o, h.trans q, r.monoW s.wk⟩
  | tab n => exact ⟨k.1, k.2.mono s h⟩
/-- a fresh object, tracked by the abstract heap but by no cell -/
theorem Stp.fresh {p : Addr} {o : HO} (hp : H p = none) : Stp ρ H ρ (upd H p o) := by
  have ne : ∀ b u, H b = some u → b ≠ p := fun b u e z => by rw [z, hp] at e; cases e
  exact ⟨⟨[], by simp, by simp⟩, fun b u e _ => by rw [upd_ne (ne b u e)]; exact e, fun b u e => ⟨u, by rw [upd_ne (ne b u e)]; exact e⟩, fun b u e => by rw [upd_ne (ne _ _ e)]; exact e, fun b u v e => by rw [upd_ne (ne _ _ e)]; exact e⟩
theorem Rel.fresh (R : Rel K ft ρ H C) {p : Addr} {o : HO} (hp : H p = none) : Rel K ft ρ (upd H p o) C :=
  ⟨R.len, R.nd, fun n c e => by
    obtain ⟨a, ha, k⟩ := R.ok n c e
    refine ⟨a, ha, k.mono (Stp.fresh hp) (upd_ne fun z => ?_)⟩
    exact R.out hp (z ▸ List.mem_of_getElem? ha)⟩
/-- a tracked object becomes the newest cell -/
theorem Rel.push (R : Rel K ft ρ H C) {p : Addr} {c : Cell} (hp : p ∉ ρ) (k : COk K ft ρ H p c) : Rel K ft (ρ ++ [p]) H (C ++ [c]) := by
  have w : Wk ρ H (ρ ++ [p]) H := ⟨fun {n a} h => by rw [List.getElem?_append_left (List.getElem?_eq_some_iff.mp h).1]; exact h, fun _ _ h => h, fun _ _ _ h => h⟩
  have gc : ∀ {a d}, COk K ft ρ H a d → COk K ft (ρ ++ [p]) H a d := fun {a d} kk => by
    have k := k.nocode
    cases d with
    | lst ds => obtain ⟨vs, q, r⟩ := kk; exact ⟨vs, q, DVs.monoW w r⟩
    | dic ks => obtain ⟨vs, q, r⟩ := kk; exact ⟨vs, q, Paired.mapP r fun p q z => ⟨z.1, DV.monoW w z.2⟩⟩
    | dix ks => obtain ⟨es, q, r⟩ := kk; exact ⟨es, q, r.monoW w⟩
    | dxl ks => obtain ⟨es, o, q, r⟩ := kk; exact ⟨es, o, q, r.monoW w⟩
    | tab n => exact ⟨kk.1, kk.2.gen rfl fun c hc e => ⟨e, fun z => by
        rcases List.mem_append.mp z with z | z
        · exact hc z
        · have z : c = p := by simpa using z
          subst z
          exact k _ e⟩⟩
  refine ⟨by simp [R.len], ?_, fun n c' e => ?_⟩
  · rw [List.nodup_append]
    exact ⟨R.nd, by simp, fun a ha b hb z => by simp at hb; subst hb; subst z; exact hp ha⟩
  · by_cases hn : n < C.length
    · rw [List.getElem?_append_left hn] at e
      obtain ⟨a, ha, k'⟩ := R.ok n c' e
      exact ⟨a, by rw [List.getElem?_append_left (by rw [R.len]; exact hn)]; exact ha, gc k'⟩
    · have e1 : n = C.length := by
        have := (List.getElem?_eq_some_iff.mp e).1
        simp at this; omega
      subst e1
      simp at e
      subst e
      exact ⟨p, by rw [← R.len]; simp, gc k⟩
theorem Stp.push {p : Addr} {o : HO} (hp : H p = none) : Stp ρ H (ρ ++ [p]) (upd H p o) :=
  let s := Stp.fresh (ρ := ρ) (o := o) hp
  ⟨⟨[p], rfl, fun b hb => by simp at hb; rw [hb]; exact hp⟩, s.keep, s.there, s.tups, s.frzs⟩
/-- a new list -/
theorem Rel.newL (R : Rel K ft ρ H C) {p : Addr} {ds : List D} {vs : List V} (hp : H p = none) (h : DVs K ft ρ H ds vs) : Rel K ft (ρ ++ [p]) (upd H p (.lst vs)) (C ++ [.lst ds]) :=
  (R.fresh hp).push (R.out hp) ⟨vs, upd_same, h.mono (Stp.fresh hp)⟩
theorem DV.new (R : Rel K ft ρ H C) {p : Addr} {H' : Hp} : DV K ft (ρ ++ [p]) H' (.cell C.length) (.ref p) := .cell (by rw [← R.len]; simp)
/-- a cell is written -/
theorem Stp.write (R : Rel K ft ρ H C) {n : Nat} {a : Addr} {o : HO} {c : Cell} (hn : ρ[n]? = some a) (hc : C[n]? = some c) (hu : c.locked = false := by rfl) : Stp ρ H ρ (upd H a o) := by
  obtain ⟨a', ha', k⟩ := R.ok n c hc
  rw [hn] at ha'; cases ha'
  have nt : ∀ xs, H a ≠ some (.tup xs) := fun xs e => by
    cases c with
    | lst ds => obtain ⟨vs, q, _⟩ := k; rw [e] at q; cases q
    | dic ks => obtain ⟨vs, q, _⟩ := k; rw [e] at q; cases q
    | dix ks => obtain ⟨vs, q, _⟩ := k; rw [e] at q; cases q
    | dxl ks => cases hu
    | tab n => obtain ⟨_, vs, q, _⟩ := k; rw [e] at q; cases q
  have nf : ∀ ob u, H a ≠ some (.frz ob u) := fun ob u e => by
    cases c with
    | lst ds => obtain ⟨vs, q, _⟩ := k; rw [e] at q; cases q
    | dic ks => obtain ⟨vs, q, _⟩ := k; rw [e] at q; cases q
    | dix ks => obtain ⟨vs, q, _⟩ := k; rw [e] at q; cases q
    | dxl ks => cases hu
    | tab n => obtain ⟨_, vs, q, _⟩ := k; rw [e] at q; cases q
  refine ⟨⟨[], by simp, by simp⟩, fun b u e hb => ?_, fun b u e => ?_, fun b xs e => ?_, fun b ob u e => ?_⟩
  · rw [upd_ne (show b ≠ a from fun z => hb (z ▸ List.mem_of_getElem? hn))]; exact e
  · by_cases hb : b = a
    · subst hb; exact ⟨o, upd_same⟩
    · exact ⟨u, by rw [upd_ne hb]; exact e⟩
  · rw [upd_ne (show b ≠ a from fun z => nt xs (z ▸ e))]; exact e
  · rw [upd_ne (show b ≠ a from fun z => nf ob u (z ▸ e))]; exact e
theorem nodup_at {l : List Addr} (h : l.Nodup) {i j : Nat} {x : Addr} (hi : l[i]? = some x) (hj : l[j]? = some x) : i = j := by
  obtain ⟨h1, e1⟩ := List.getElem?_eq_some_iff.mp hi
  obtain ⟨h2, e2⟩ := List.getElem?_eq_some_iff.mp hj
  exact (List.getElem_inj h).mp (e1.trans e2.symm)
theorem Rel.write (R : Rel K ft ρ H C) {n : Nat} {a : Addr} {o : HO} {c c' : Cell} (hn : ρ[n]? = some a) (hc : C[n]? = some c) (k : COk K ft ρ (upd H a o) a c') (hu : c.locked = false := by rfl) : Rel K ft ρ (upd H a o) (C.set n c') := by
  have s := Stp.write (o := o) R hn hc hu
  refine ⟨by simp [R.len], R.nd, fun m u e => ?_⟩
  by_cases hm : m = n
  · subst hm
    have : m < C.length := (List.getElem?_eq_some_iff.mp hc).1
    rw [List.getElem?_set_self this] at e
    cases e
    exact ⟨a, hn, k⟩
  · rw [List.getElem?_set_ne (Ne.symm hm)] at e
    obtain ⟨b, hb, q⟩ := R.ok m u e
    refine ⟨b, hb, q.mono s (upd_ne fun z => hm ?_)⟩
    subst z
    exact nodup_at R.nd hb hn
theorem Rel.writeL (R : Rel K ft ρ H C) {n : Nat} {a : Addr} {ds : List D} {vs : List V} {c : Cell} (hn : ρ[n]? = some a) (hc : C[n]? = some c) (h : DVs K ft ρ H ds vs) (hu : c.locked = false := by rfl) : Rel K ft ρ (upd H a (.lst vs)) (C.set n (.lst ds)) :=
  R.write hn hc ⟨vs, upd_same, h.mono (Stp.write R hn hc hu)⟩ hu
theorem Rel.lst (R : Rel K ft ρ H C) {n : Nat} {ds : List D} {v : V} (hc : C[n]? = some (.lst ds)) (h : DV K ft ρ H (.cell n) v) : ∃ a vs, v = .ref a ∧ ρ[n]? = some a ∧ H a = some (.lst vs) ∧ DVs K ft ρ H ds vs := by
  obtain ⟨a, ha, vs, q, r⟩ := R.ok n _ hc
  cases h with
  | cell h => rw [ha] at h; cases h; exact ⟨a, vs, rfl, ha, q, r⟩
/-- a list that is read -/
def lstOf (C : Hm) : D → Option (List D)
  | .rol ds => some ds
  | .cell n => match C[n]? with | some (.lst ds) => some ds | _ => none
  | _ => none
theorem lstOf_ok (R : Rel K ft ρ H C) {d : D} {v : V} {ds : List D} (h : DV K ft ρ H d v) (e : lstOf C d = some ds) : ∃ a vs, v = .ref a ∧ Rd H a (.lst vs) ∧ DVs K ft ρ H ds vs := by
  cases d with
  | rol l => cases e; cases h with | rol h r => exact ⟨_, _, rfl, .inr ⟨_, h⟩, r⟩
  | cell n =>
    unfold lstOf at e
    simp only at e
    split at e
    · rename_i q
      cases e
      obtain ⟨a, vs, rfl, _, e1, e2⟩ := R.lst q h
      exact ⟨a, vs, rfl, .inl e1, e2⟩
    · cases e
  | _ => cases e
theorem Rel.dic (R : Rel K ft ρ H C) {n : Nat} {kvs : List (Key × D)} {v : V} (hc : C[n]? = some (.dic kvs)) (h : DV K ft ρ H (.cell n) v) :
    ∃ a ws, v = .ref a ∧ ρ[n]? = some a ∧ H a = some (.dK ws) ∧ Paired (fun (p : Key × D) (q : Key × V) => p.1 = q.1 ∧ DV K ft ρ H p.2 q.2) kvs ws := by
  obtain ⟨a, ha, vs, q, r⟩ := R.ok n _ hc
  cases h with
  | cell h => rw [ha] at h; cases h; exact ⟨a, vs, rfl, ha, q, r⟩
theorem Rel.dix (R : Rel K ft ρ H C) {n : Nat} {kvs : List (MD.MK × D)} {v : V} (hc : C[n]? = some (.dix kvs)) (h : DV K ft ρ H (.cell n) v) :
    ∃ a es, v = .ref a ∧ ρ[n]? = some a ∧ H a = some (mixO ft.hash a es) ∧ Mix K ft ρ H kvs es := by
  obtain ⟨a, ha, es, q, r⟩ := R.ok n _ hc
  cases h with
  | cell h => rw [ha] at h; cases h; exact ⟨a, es, rfl, ha, q, r⟩
theorem Rel.dxl (R : Rel K ft ρ H C) {n : Nat} {kvs : List (MD.MK × D)} {v : V} (hc : C[n]? = some (.dxl kvs)) (h : DV K ft ρ H (.cell n) v) :
    ∃ a es o, v = .ref a ∧ ρ[n]? = some a ∧ H a = some (.frz o (mixO ft.hash a es)) ∧ Mix K ft ρ H kvs es := by
  obtain ⟨a, ha, es, o, q, r⟩ := R.ok n _ hc
  cases h with
  | cell h => rw [ha] at h; cases h; exact ⟨a, es, o, rfl, ha, q, r⟩
end
end Mi
set_option Elab.async false
set_option linter.all false
set_option maxRecDepth 100000
set_option maxHeartbeats 4000000
namespace Mi
open PySem PySem.Spec PyProof.Rows L2
/-! ## where a text runs -/
structure Fm where
  prog : Program
  w : World
  K : PySem.W.Frag
  mg : Str → Option Value
  base : Heap
  ft : Cfg
  sc : Scope
  N : List Str
  lv : Nat
  fn : Str → Bool
  tb : Option Nat
structure Fm.Is (F : Fm) (X : Cx) : Prop where
  prog : X.prog = F.prog
  w : X.w = F.w
  K : X.K = F.K
  mg : X.mg = F.mg
  base : X.base = F.base
  sc : X.env.scope = F.sc
  N : X.N = F.N
  fn : X.fn = F.fn
  nd : X.N.Nodup
  calm : X.calm = true
  gu : X.A.guards = some []
  rm : Room F.lv X.A
  xe : PassesOwn (model X.prog X.w) X.A X.env X.xe
  tab : ∀ k, F.tb = some k → X.env.qual ++ "<lambda>" = (F.ft.tab k).2 ∧ ∃ c, X.env.code = .ref c ∧ LamX.TabB X.base X.mg c (F.ft.tab k).1
def Fm.blk (F : Fm) (scope : Scope) : Fm := { F with sc := relS scope F.sc, fn := fun x => scope.names.lookup x == some .cell, tb := none }
theorem Fm.Is.blk {F : Fm} {X : Cx} (h : F.Is X) {scope : Scope} {s : Shared} {H : Hp} {C : Addr} {cl : List (Str × Addr)} {fp : List Addr} : (F.blk scope).Is (X.blk s H scope (compEnvC scope cl C X.env) fp) := by
  refine ⟨h.prog, h.w, h.K, h.mg, h.base, ?_, h.N, rfl, h.nd, h.calm, h.gu, h.rm, PassesOwn.never, fun _ z => nomatch z⟩
  show relS scope X.env.scope = relS scope F.sc
  rw [h.sc]
abbrev ME := Ev → Hm → Option (D × Hm)
abbrev MT := Ev → Hm → Option (Bool × Hm)
abbrev MA := Ev → Hm → Option (List D × Hm)
inductive Out where
  | nx (E : Ev) (C : Hm) | rt (d : D) (C : Hm) | bk (E : Ev) (C : Hm) | ct (E : Ev) (C : Hm)
abbrev MS := Ev → Hm → Option Out
section
variable (F : Fm)
abbrev RelF (ρ : List Addr) (H : Hp) (C : Hm) : Prop := Rel F.K F.ft ρ H C
abbrev DVF (ρ : List Addr) (H : Hp) (d : D) (v : V) : Prop := DV F.K F.ft ρ H d v
abbrev DVsF (ρ : List Addr) (H : Hp) (d : List D) (v : List V) : Prop := DVs F.K F.ft ρ H d v
abbrev EnvF (ρ : List Addr) (H : Hp) (E : Ev) (σ : L2.St) : Prop := EnvOk F.K F.ft ρ H E σ
def Post (ρ : List Addr) (H : Hp) (d : D) (C' : Hm) (Q : VK) : Prop := ∀ ρ' H' v, RelF F ρ' H' C' → Stp ρ H ρ' H' → DVF F ρ' H' d v → Q v H'
def PostB (ρ : List Addr) (H : Hp) (b : Bool) (C' : Hm) (Q : Bool → Hp → Prop) : Prop := ∀ ρ' H', RelF F ρ' H' C' → Stp ρ H ρ' H' → Q b H'
def PostA (ρ : List Addr) (H : Hp) (ds : List D) (C' : Hm) (Q : List V → Hp → Prop) : Prop := ∀ ρ' H' vs, RelF F ρ' H' C' → Stp ρ H ρ' H' → DVsF F ρ' H' ds vs → Q vs H'
def PostS (ρ : List Addr) (H : Hp) (Z : Ends) : Out → Prop
  | .nx E' C' => ∀ ρ' H' σ', RelF F ρ' H' C' → Stp ρ H ρ' H' → EnvF F ρ' H' E' σ' → Z.nx σ' H'
  | .rt d C' => ∀ ρ' H' v, RelF F ρ' H' C' → Stp ρ H ρ' H' → DVF F ρ' H' d v → Z.rt v H'
  | .bk E' C' => ∀ ρ' H' σ', RelF F ρ' H' C' → Stp ρ H ρ' H' → EnvF F ρ' H' E' σ' → Z.bk σ' H'
  | .ct E' C' => ∀ ρ' H' σ', RelF F ρ' H' C' → Stp ρ H ρ' H' → EnvF F ρ' H' E' σ' → Z.ct σ' H'
def EvE (t : TE) (m : ME) : Prop := ∀ ρ C H E σ d C' Q, RelF F ρ H C → EnvF F ρ H E σ → m E C = some (d, C') → Post F ρ H d C' Q → t σ H Q
def EvT (t : TT) (m : MT) : Prop := ∀ ρ C H E σ b C' Q, RelF F ρ H C → EnvF F ρ H E σ → m E C = some (b, C') → PostB F ρ H b C' Q → t σ H Q
def EvA (t : TA) (m : MA) : Prop := ∀ ρ C H E σ ds C' Q, RelF F ρ H C → EnvF F ρ H E σ → m E C = some (ds, C') → PostA F ρ H ds C' Q → t σ H Q
def EvS (t : TS) (m : MS) : Prop := ∀ ρ C H E σ o Z, RelF F ρ H C → EnvF F ρ H E σ → m E C = some o → PostS F ρ H Z o → t Z σ H
def SE (e : Expr) (m : ME) : Prop := ∃ t, (∀ X, F.Is X → PE X e t) ∧ EvE F t m
def ST (e : Expr) (m : MT) : Prop := ∃ t, (∀ X, F.Is X → PT X e t) ∧ EvT F t m
def SW (e : Expr) (m : MT) : Prop := ∃ t, (∀ X, F.Is X → PW X e t) ∧ EvT F t m
def SA (es : List Expr) (m : MA) : Prop := ∃ t, (∀ X, F.Is X → PA X es t) ∧ EvA F t m
def SS (st : Stmt) (m : MS) : Prop := ∃ t, (∀ X, F.Is X → PS X st t) ∧ EvS F t m
def SB (sts : List Stmt) (m : MS) : Prop := ∃ t, (∀ X, F.Is X → PSs X sts t) ∧ EvS F t m
/-- an operator by values -/
abbrev OD2 := D → D → Hm → Option (D × Hm)
def SOp (f : Value → Value → Sem Value) (op : OD2) : Prop := ∃ r : R2, (∀ X, F.Is X → OpR X f r) ∧ ∀ ρ C H x y vx vy d C' Q, RelF F ρ H C → DVF F ρ H x vx → DVF F ρ H y vy → op x y C = some (d, C') → Post F ρ H d C' Q → r vx vy H Q
abbrev OD1 := D → Hm → Option (D × Hm)
def SUn (f : Value → Sem Value) (op : OD1) : Prop := ∃ r, (∀ X, F.Is X → UnR X f r) ∧ ∀ ρ C H x vx d C' Q, RelF F ρ H C → DVF F ρ H x vx → op x C = some (d, C') → Post F ρ H d C' Q → r vx H Q
abbrev ODL := List D → Hm → Option (D × Hm)
def SCall (f : Value) (op : ODL) : Prop := ∃ r, (∀ X, F.Is X → CallR X f r) ∧ ∀ ρ C H xs vs d C' Q, RelF F ρ H C → DVsF F ρ H xs vs → op xs C = some (d, C') → Post F ρ H d C' Q → r vs H Q
abbrev ODM := D → List D → Hm → Option (D × Hm)
/-- a method of a built-in type -/
def SMt (T id : String) (op : ODM) : Prop := ∃ r, (∀ X, F.Is X → MtR X id r) ∧
  (∀ ρ C H x xs vx vs d C' Q, RelF F ρ H C → DVF F ρ H x vx → DVsF F ρ H xs vs → op x xs C = some (d, C') → Post F ρ H d C' Q → r vx vs H Q)
end
section
variable {F : Fm} {X : Cx} {a b c e o : Expr} {es : List Expr} {pos p : Pos} {x : Str} {i : Nat} {ma mb mc me : ME} {mt mu : MT} {ml : MA}
theorem obind {α β : Type} {o : Option α} {f : α → Option β} {z : β} (h : o.bind f = some z) : ∃ y, o = some y ∧ f y = some z := by
  cases o with
  | none => simp at h
  | some y => exact ⟨y, rfl, h⟩
theorem Post.step {ρ ρ1 : List Addr} {H H1 : Hp} {d : D} {C' : Hm} {Q : VK} (k : Post F ρ H d C' Q) (s : Stp ρ H ρ1 H1) : Post F ρ1 H1 d C' Q := fun ρ' H' v R s' dv => k ρ' H' v R (s.trans s') dv
theorem PostB.step {ρ ρ1 : List Addr} {H H1 : Hp} {d : Bool} {C' : Hm} {Q} (k : PostB F ρ H d C' Q) (s : Stp ρ H ρ1 H1) : PostB F ρ1 H1 d C' Q := fun ρ' H' R s' => k ρ' H' R (s.trans s')
theorem PostA.step {ρ ρ1 : List Addr} {H H1 : Hp} {d : List D} {C' : Hm} {Q} (k : PostA F ρ H d C' Q) (s : Stp ρ H ρ1 H1) : PostA F ρ1 H1 d C' Q := fun ρ' H' v R s' dv => k ρ' H' v R (s.trans s') dv
theorem PostS.step {ρ ρ1 : List Addr} {H H1 : Hp} {o : Out} {Z : Ends} (k : PostS F ρ H Z o) (s : Stp ρ H ρ1 H1) : PostS F ρ1 H1 Z o := by
  cases o with
  | nx E C => exact fun ρ' H' v R s' dv => k ρ' H' v R (s.trans s') dv
  | rt E C => exact fun ρ' H' v R s' dv => k ρ' H' v R (s.trans s') dv
  | bk E C => exact fun ρ' H' v R s' dv => k ρ' H' v R (s.trans s') dv
  | ct E C => exact fun ρ' H' v R s' dv => k ρ' H' v R (s.trans s') dv
theorem Post.now {ρ : List Addr} {H : Hp} {d : D} {C : Hm} {Q : VK} {v : V} (k : Post F ρ H d C Q) (R : RelF F ρ H C) (h : DVF F ρ H d v) : Q v H := k ρ H v R .refl h
/-! ## names, constants -/
def mVar (i : Nat) : ME := fun E C => match E[i]? with | some (some d) => some (d, C) | _ => none
def mC (d : D) : ME := fun _ C => some (d, C)
theorem se_var (i : Nat) (hN : F.N[i]? = some x := by rfl) (hv : Vis F.sc x := by first | exact Or.inl rfl | exact Or.inr (Or.inl rfl) | exact Or.inr (Or.inr rfl)) (hd : (x == ("__debug__" : Str)) = false := by decide) (hcd : (x == ("__classdict__" : Str)) = false := by decide) : SE F (.Name x pos) (mVar i) := by
  refine ⟨tVar i, fun X h => pe_var (by rw [h.N]; exact hN) (by rw [h.sc]; exact hv) hd hcd, fun ρ C H E σ d C' Q R eo hm k => ?_⟩
  unfold mVar at hm
  split at hm
  · rename_i d' q
    cases hm
    obtain ⟨v, q1, q2⟩ := eo.at_ i _ q
    exact ⟨v, q1, k.now R q2⟩
  · cases hm
theorem se_int {i : Int} {j : Nat} : SE F (.Constant (.int i) j pos) (mC (.int i)) := ⟨_, fun _ _ => pe_int, fun ρ C H E σ d C' Q R eo hm k => by cases hm; exact k.now R (.int _)⟩
theorem se_bl {i : Bool} {j : Nat} : SE F (.Constant (.bool i) j pos) (mC (.bl i)) := ⟨_, fun _ _ => pe_bl, fun ρ C H E σ d C' Q R eo hm k => by cases hm; exact k.now R (.bl _)⟩
theorem se_non {j : Nat} : SE F (.Constant .none j pos) (mC .non) := ⟨_, fun _ _ => pe_non, fun ρ C H E σ d C' Q R eo hm k => by cases hm; exact k.now R .non⟩
theorem se_str {i : Str} {j : Nat} : SE F (.Constant (.str i) j pos) (mC (.str i)) := ⟨_, fun _ _ => pe_str, fun ρ C H E σ d C' Q R eo hm k => by cases hm; exact k.now R (.str _)⟩
/-- a def's name as a value -/
theorem se_fn (n : Nat) (hm : F.mg x = some (.ref (F.ft n))) (hg : F.sc.names.lookup x = some .globalImplicit := by rfl) (hd : (x == ("__debug__" : Str)) = false := by decide) : SE F (.Name x pos) (mC (.fn n)) :=
  ⟨tC (.ref (F.ft n)), fun X h => pe_glob (show X.env.scope.names.lookup x = some .globalImplicit by rw [h.sc]; exact hg) (by rw [h.mg]; exact hm) (show _ = _ from rfl) hd, fun ρ C H E σ d C' Q R eo hm k => by cases hm; exact k.now R (.fn _)⟩
/-! ## operators -/
def mBin (op : OD2) (ma mb : ME) : ME := fun E C => (ma E C).bind fun p => (mb E p.2).bind fun q => op p.1 q.1 q.2
theorem se_op {op : Operator} {f : OD2} (ho : SOp F (binaryOp op) f) (ha : SE F a ma) (hb : SE F b mb) : SE F (.BinOp a op b pos) (mBin f ma mb) := by
  obtain ⟨r, hr, sr⟩ := ho
  obtain ⟨ta, pa, sa⟩ := ha
  obtain ⟨tb, pb, sb⟩ := hb
  refine ⟨_, fun X h => pe_op (hr X h) (pa X h) (pb X h), fun ρ C H E σ d C' Q R eo hm k => ?_⟩
  obtain ⟨⟨x, C1⟩, h1, hm⟩ := obind hm
  obtain ⟨⟨y, C2⟩, h2, hm⟩ := obind hm
  refine sa ρ C H E σ x C1 _ R eo h1 fun ρ1 H1 v1 R1 s1 d1 => ?_
  refine sb ρ1 C1 H1 E σ y C2 _ R1 (eo.mono s1) h2 fun ρ2 H2 v2 R2 s2 d2 => ?_
  exact sr ρ2 C2 H2 x y v1 v2 d C' Q R2 (d1.mono s2) d2 hm (k.step (s1.trans s2))
def mUn (op : OD1) (ma : ME) : ME := fun E C => (ma E C).bind fun p => op p.1 p.2
theorem se_un {op : UnaryOp} {f : OD1} (ho : SUn F (unaryOp op) f) (ha : SE F a ma) : SE F (.UnaryOp op a pos) (mUn f ma) := by
  obtain ⟨r, hr, sr⟩ := ho
  obtain ⟨ta, pa, sa⟩ := ha
  refine ⟨_, fun X h => pe_un (hr X h) (pa X h), fun ρ C H E σ d C' Q R eo hm k => ?_⟩
  obtain ⟨⟨x, C1⟩, h1, hm⟩ := obind hm
  refine sa ρ C H E σ x C1 _ R eo h1 fun ρ1 H1 v1 R1 s1 d1 => ?_
  exact sr ρ1 C1 H1 x v1 d C' Q R1 d1 hm (k.step s1)
/-- a comparison as a value -/
theorem se_cmp {op : CmpOp} {f : OD2} (ho : SOp F (compareOp op) f) (ha : SE F a ma) (hb : SE F b mb) (hmk : behindInMarks op b = false := by first | exact nomark _ | rfl) : SE F (.Compare a [op] [b] pos) (mBin f ma mb) := by
  obtain ⟨r, hr, sr⟩ := ho
  obtain ⟨ta, pa, sa⟩ := ha
  obtain ⟨tb, pb, sb⟩ := hb
  refine ⟨_, fun X h => pe_cmpR (hr X h) (pa X h) (pb X h) hmk, fun ρ C H E σ d C' Q R eo hm k => ?_⟩
  obtain ⟨⟨x, C1⟩, h1, hm⟩ := obind hm
  obtain ⟨⟨y, C2⟩, h2, hm⟩ := obind hm
  refine sa ρ C H E σ x C1 _ R eo h1 fun ρ1 H1 v1 R1 s1 d1 => ?_
  refine sb ρ1 C1 H1 E σ y C2 _ R1 (eo.mono s1) h2 fun ρ2 H2 v2 R2 s2 d2 => ?_
  exact sr ρ2 C2 H2 x y v1 v2 d C' Q R2 (d1.mono s2) d2 hm (k.step (s1.trans s2))
/-- a value that is a bool, as a test -/
def asB : Option (D × Hm) → Option (Bool × Hm)
  | some (.bl b, C) => some (b, C)
  | _ => none
def mTest (m : ME) : MT := fun E C => asB (m E C)
theorem asB_some {o : Option (D × Hm)} {b : Bool} {C : Hm} (h : asB o = some (b, C)) : o = some (.bl b, C) := by
  unfold asB at h
  split at h
  · cases h; rfl
  · cases h
theorem st_cmp {op : CmpOp} {f : OD2} (ho : SOp F (compareOp op) f) (ha : SE F a ma) (hb : SE F b mb) (hmk : behindInMarks op b = false := by first | exact nomark _ | rfl) : ST F (.Compare a [op] [b] pos) (mTest (mBin f ma mb)) := by
  obtain ⟨r, hr, sr⟩ := ho
  obtain ⟨ta, pa, sa⟩ := ha
  obtain ⟨tb, pb, sb⟩ := hb
  refine ⟨_, fun X h => pt_cmpR (hr X h) (pa X h) (pb X h) hmk, fun ρ C H E σ d C' Q R eo hm k => ?_⟩
  have hm := asB_some hm
  obtain ⟨⟨x, C1⟩, h1, hm⟩ := obind hm
  obtain ⟨⟨y, C2⟩, h2, hm⟩ := obind hm
  refine sa ρ C H E σ x C1 _ R eo h1 fun ρ1 H1 v1 R1 s1 d1 => ?_
  refine sb ρ1 C1 H1 E σ y C2 _ R1 (eo.mono s1) h2 fun ρ2 H2 v2 R2 s2 d2 => ?_
  exact sr ρ2 C2 H2 x y v1 v2 _ C' _ R2 (d1.mono s2) d2 hm fun ρ3 H3 v R3 s3 dv => by
    cases dv
    exact ⟨d, rfl, k ρ3 H3 R3 ((s1.trans s2).trans s3)⟩
theorem st_val (he : SE F e me) (hw : ∀ (env : Env) whole, isTrue e env whole = (do let v ← whole; standAt e.pos; holding [v] (truthy v)) := by intro _ _; rfl) : ST F e (mTest me) := by
  obtain ⟨t, p, s⟩ := he
  refine ⟨_, fun X h => pt_val (p X h) (hw _), fun ρ C H E σ d C' Q R eo hm k => ?_⟩
  exact s ρ C H E σ _ C' _ R eo (asB_some hm) fun ρ3 H3 v R3 s3 dv => by
    cases dv
    exact ⟨d, rfl, k ρ3 H3 R3 s3⟩
/-! ## and, or, not, if else -/
def mAnd (ma mb : ME) : ME := fun E C => (asB (ma E C)).bind fun p => if p.1 = true then mb E p.2 else some (.bl false, p.2)
def mOr (ma mb : ME) : ME := fun E C => (asB (ma E C)).bind fun p => if p.1 = true then some (.bl true, p.2) else mb E p.2
def mNot (ma : ME) : ME := fun E C => (asB (ma E C)).bind fun p => some (.bl (!p.1), p.2)
theorem se_one {op : BoolOp} (ha : SE F a ma) : SE F (.BoolOp op [a] pos) ma := let ⟨t, p, s⟩ := ha; ⟨t, fun X h => pe_one (p X h), s⟩
theorem se_and {r : List Expr} (ha : SE F a ma) (hb : SE F (.BoolOp .And (b :: r) pos) mb) : SE F (.BoolOp .And (a :: b :: r) pos) (mAnd ma mb) := by
  obtain ⟨ta, pa, sa⟩ := ha
  obtain ⟨tb, pb, sb⟩ := hb
  refine ⟨_, fun X h => pe_and (pa X h) (pb X h), fun ρ C H E σ d C' Q R eo hm k => ?_⟩
  obtain ⟨⟨x, C1⟩, h1, hm⟩ := obind hm
  refine sa ρ C H E σ _ C1 _ R eo (asB_some h1) fun ρ1 H1 v1 R1 s1 d1 => ?_
  cases d1
  refine ⟨x, rfl, ?_⟩
  cases x with
  | true => exact sb ρ1 C1 H1 E σ d C' Q R1 (eo.mono s1) hm (k.step s1)
  | false => cases hm; exact (k.step s1).now R1 (.bl false)
theorem se_or {r : List Expr} (ha : SE F a ma) (hb : SE F (.BoolOp .Or (b :: r) pos) mb) : SE F (.BoolOp .Or (a :: b :: r) pos) (mOr ma mb) := by
  obtain ⟨ta, pa, sa⟩ := ha
  obtain ⟨tb, pb, sb⟩ := hb
  refine ⟨_, fun X h => pe_or (pa X h) (pb X h), fun ρ C H E σ d C' Q R eo hm k => ?_⟩
  obtain ⟨⟨x, C1⟩, h1, hm⟩ := obind hm
  refine sa ρ C H E σ _ C1 _ R eo (asB_some h1) fun ρ1 H1 v1 R1 s1 d1 => ?_
  cases d1
  refine ⟨x, rfl, ?_⟩
  cases x with
  | true => cases hm; exact (k.step s1).now R1 (.bl true)
  | false => exact sb ρ1 C1 H1 E σ d C' Q R1 (eo.mono s1) hm (k.step s1)
theorem se_not (ha : SE F a ma) : SE F (.UnaryOp .Not a pos) (mNot ma) := by
  obtain ⟨ta, pa, sa⟩ := ha
  refine ⟨_, fun X h => pe_not (pa X h), fun ρ C H E σ d C' Q R eo hm k => ?_⟩
  obtain ⟨⟨x, C1⟩, h1, hm⟩ := obind hm
  refine sa ρ C H E σ _ C1 _ R eo (asB_some h1) fun ρ1 H1 v1 R1 s1 d1 => ?_
  cases d1
  cases hm
  exact ⟨x, rfl, (k.step s1).now R1 (.bl _)⟩
def tAndM (mt mu : MT) : MT := fun E C => (mt E C).bind fun p => if p.1 = true then mu E p.2 else some (false, p.2)
def tOrM (mt mu : MT) : MT := fun E C => (mt E C).bind fun p => if p.1 = true then some (true, p.2) else mu E p.2
def tNotM (mt : MT) : MT := fun E C => (mt E C).bind fun p => some (!p.1, p.2)
theorem sw_and1 (h : ST F a mt) : SW F (.BoolOp .And [a] pos) mt := let ⟨t, p, s⟩ := h; ⟨t, fun X i => pw_and1 (p X i), s⟩
theorem sw_or1 (h : ST F a mt) : SW F (.BoolOp .Or [a] pos) mt := let ⟨t, p, s⟩ := h; ⟨t, fun X i => pw_or1 (p X i), s⟩
theorem evt_and {t u : TT} (sa : Mi.EvT F t mt) (sb : Mi.EvT F u mu) : Mi.EvT F (L2.tAnd t u) (tAndM mt mu) := fun ρ C H E σ d C' Q R eo hm k => by
  obtain ⟨⟨x, C1⟩, h1, hm⟩ := obind hm
  refine sa ρ C H E σ x C1 _ R eo h1 fun ρ1 H1 R1 s1 => ?_
  cases x with
  | true => exact sb ρ1 C1 H1 E σ d C' Q R1 (eo.mono s1) hm (k.step s1)
  | false => cases hm; exact k ρ1 H1 R1 s1
theorem evt_or {t u : TT} (sa : Mi.EvT F t mt) (sb : Mi.EvT F u mu) : Mi.EvT F (L2.tOr t u) (tOrM mt mu) := fun ρ C H E σ d C' Q R eo hm k => by
  obtain ⟨⟨x, C1⟩, h1, hm⟩ := obind hm
  refine sa ρ C H E σ x C1 _ R eo h1 fun ρ1 H1 R1 s1 => ?_
  cases x with
  | true => cases hm; exact k ρ1 H1 R1 s1
  | false => exact sb ρ1 C1 H1 E σ d C' Q R1 (eo.mono s1) hm (k.step s1)
theorem sw_and {r : List Expr} (ha : ST F a mt) (hb : SW F (.BoolOp .And (b :: r) pos) mu) : SW F (.BoolOp .And (a :: b :: r) pos) (tAndM mt mu) := by
  obtain ⟨ta, pa, sa⟩ := ha
  obtain ⟨tb, pb, sb⟩ := hb
  exact ⟨_, fun X h => pw_and (pa X h) (pb X h), evt_and sa sb⟩
theorem sw_or {r : List Expr} (ha : ST F a mt) (hb : SW F (.BoolOp .Or (b :: r) pos) mu) : SW F (.BoolOp .Or (a :: b :: r) pos) (tOrM mt mu) := by
  obtain ⟨ta, pa, sa⟩ := ha
  obtain ⟨tb, pb, sb⟩ := hb
  exact ⟨_, fun X h => pw_or (pa X h) (pb X h), evt_or sa sb⟩
theorem st_w (h : SW F e mt) : ST F e mt := let ⟨t, p, s⟩ := h; ⟨t, fun X i => (p X i).pt, s⟩
theorem st_not (ha : ST F a mt) : ST F (.UnaryOp .Not a pos) (tNotM mt) := by
  obtain ⟨ta, pa, sa⟩ := ha
  refine ⟨_, fun X h => pt_not (pa X h), fun ρ C H E σ d C' Q R eo hm k => ?_⟩
  obtain ⟨⟨x, C1⟩, h1, hm⟩ := obind hm
  cases hm
  exact sa ρ C H E σ x C1 _ R eo h1 fun ρ1 H1 R1 s1 => k ρ1 H1 R1 s1
def mIf (mt : MT) (ma mb : ME) : ME := fun E C => (mt E C).bind fun p => if p.1 = true then ma E p.2 else mb E p.2
theorem se_if (hc : ST F c mt) (ha : SE F a ma) (hb : SE F b mb) : SE F (.IfExp c a b pos) (mIf mt ma mb) := by
  obtain ⟨tc, pc, sc⟩ := hc
  obtain ⟨ta, pa, sa⟩ := ha
  obtain ⟨tb, pb, sb⟩ := hb
  refine ⟨_, fun X h => pe_ifExp (pc X h) (pa X h) (pb X h), fun ρ C H E σ d C' Q R eo hm k => ?_⟩
  obtain ⟨⟨x, C1⟩, h1, hm⟩ := obind hm
  refine sc ρ C H E σ x C1 _ R eo h1 fun ρ1 H1 R1 s1 => ?_
  cases x with
  | true => exact sa ρ1 C1 H1 E σ d C' Q R1 (eo.mono s1) hm (k.step s1)
  | false => exact sb ρ1 C1 H1 E σ d C' Q R1 (eo.mono s1) hm (k.step s1)
/-- a < b < c -/
def mChain (f g : OD2) (ma mb mc : ME) : ME := fun E C => (ma E C).bind fun p => (mb E p.2).bind fun q => (asB (f p.1 q.1 q.2)).bind fun z => if z.1 = true then (mc E z.2).bind fun r => g q.1 r.1 r.2 else some (.bl false, z.2)
/-! ## arguments, displays -/
def mNil : MA := fun _ C => some ([], C)
def mCons (ma : ME) (ml : MA) : MA := fun E C => (ma E C).bind fun p => (ml E p.2).bind fun q => some (p.1 :: q.1, q.2)
theorem sa_nil : SA F [] mNil := ⟨_, fun _ _ => pa_nil, fun ρ C H E σ d C' Q R eo hm k => by cases hm; exact k ρ H [] R .refl .nil⟩
theorem sa_cons (ha : SE F e me) (hl : SA F es ml) (hs : ∀ env : Env, starEach (e :: es) env = (false, eval e env) :: starEach es env := by intro _; rfl) : SA F (e :: es) (mCons me ml) := by
  obtain ⟨ta, pa, sa⟩ := ha
  obtain ⟨tl, pl, sl⟩ := hl
  refine ⟨_, fun X h => pa_cons (pa X h) (pl X h) (hs _), fun ρ C H E σ d C' Q R eo hm k => ?_⟩
  obtain ⟨⟨x, C1⟩, h1, hm⟩ := obind hm
  obtain ⟨⟨ys, C2⟩, h2, hm⟩ := obind hm
  cases hm
  refine sa ρ C H E σ x C1 _ R eo h1 fun ρ1 H1 v1 R1 s1 d1 => ?_
  refine sl ρ1 C1 H1 E σ ys C2 _ R1 (eo.mono s1) h2 fun ρ2 H2 v2 R2 s2 d2 => ?_
  exact k ρ2 H2 _ R2 (s1.trans s2) (.cons (d1.mono s2) d2)
/-- a length that a list may have -/
def okLen (n : Nat) : Bool := decide (n ≤ sizeLine)
def mkTup (ds : List D) (C : Hm) : Option (D × Hm) := if ds.length ≤ sizeLine then some (.tup ds, C) else none
def mkLst (ds : List D) (C : Hm) : Option (D × Hm) := if ds.length ≤ sizeLine then some (.cell C.length, C ++ [.lst ds]) else none
theorem mkTup_post {ρ : List Addr} {H : Hp} {C C' : Hm} {ds : List D} {vs : List V} {d : D} {Q : VK} (R : RelF F ρ H C) (h : DVsF F ρ H ds vs) (hm : mkTup ds C = some (d, C')) (k : Post F ρ H d C' Q) : vs.length ≤ sizeLine ∧ ∀ p, H p = none → Q (.ref p) (upd H p (.tup vs)) := by
  unfold mkTup at hm
  split at hm
  · rename_i hl
    cases hm
    refine ⟨h.length ▸ hl, fun p hp => ?_⟩
    exact k ρ _ _ (R.fresh hp) (Stp.fresh hp) (.tup (SqT.of upd_same) (h.mono (Stp.fresh hp)))
  · cases hm
theorem mkLst_post {ρ : List Addr} {H : Hp} {C C' : Hm} {ds : List D} {vs : List V} {d : D} {Q : VK} (R : RelF F ρ H C) (h : DVsF F ρ H ds vs) (hm : mkLst ds C = some (d, C')) (k : Post F ρ H d C' Q) : vs.length ≤ sizeLine ∧ ∀ p, H p = none → Q (.ref p) (upd H p (.lst vs)) := by
  unfold mkLst at hm
  split at hm
  · rename_i hl
    cases hm
    refine ⟨h.length ▸ hl, fun p hp => ?_⟩
    exact k _ _ _ (R.newL hp h) (Stp.push hp) (DV.new R)
  · cases hm
def mTup (ml : MA) : ME := fun E C => (ml E C).bind fun p => mkTup p.1 p.2
def mLst (ml : MA) : ME := fun E C => (ml E C).bind fun p => mkLst p.1 p.2
theorem se_tup {x1} (hl : SA F es ml) : SE F (.Tuple es x1 pos) (mTup ml) := by
  obtain ⟨tl, pl, sl⟩ := hl
  refine ⟨_, fun X h => pe_tup (pl X h), fun ρ C H E σ d C' Q R eo hm k => ?_⟩
  obtain ⟨⟨ds, C1⟩, h1, hm⟩ := obind hm
  exact sl ρ C H E σ ds C1 _ R eo h1 fun ρ1 H1 v1 R1 s1 d1 => mkTup_post R1 d1 hm (k.step s1)
theorem se_lst (hl : SA F es ml) : SE F (.List es pos) (mLst ml) := by
  obtain ⟨tl, pl, sl⟩ := hl
  refine ⟨_, fun X h => pe_lst (pl X h), fun ρ C H E σ d C' Q R eo hm k => ?_⟩
  obtain ⟨⟨ds, C1⟩, h1, hm⟩ := obind hm
  exact sl ρ C H E σ ds C1 _ R eo h1 fun ρ1 H1 v1 R1 s1 d1 => mkLst_post R1 d1 hm (k.step s1)
/-! ## calls of built-ins, methods, subscripts -/
def mCallB (op : ODL) (ml : MA) : ME := fun E C => (ml E C).bind fun p => op p.1 p.2
theorem Fm.Is.gl (h : F.Is X) (hg : F.sc.names.lookup x = some .globalImplicit) : Gl X x := show X.env.scope.names.lookup x = some .globalImplicit by rw [h.sc]; exact hg
theorem se_callB {id : String} {op : ODL} (hc : SCall F (.builtin id) op) (hm : F.mg x = none) (hv : bootBuiltins x = some (.builtin id)) (ha : SA F (e :: es) ml) (hg : F.sc.names.lookup x = some .globalImplicit := by rfl) (hn : x ≠ "__name__" := by decide) (hdb : (x == ("__debug__" : Str)) = false := by decide)
    (he : ∀ env : Env, starEach (e :: es) env = (false, eval e env) :: starEach es env := by intro _; rfl) (hpl : ∀ env : Env, (backTo pos (starEach es env)).any (·.1) = false := by intro _; rfl) : SE F (.Call (.Name x p) (e :: es) [] pos) (mCallB op ml) := by
  obtain ⟨r, hr, sr⟩ := hc
  obtain ⟨tl, pl, sl⟩ := ha
  refine ⟨_, fun X h => pe_callB (hr X h) (h.gl hg) (by rw [h.mg]; exact hm) hv (pl X h) hn hdb (he _) (hpl _), fun ρ C H E σ d C' Q R eo hm k => ?_⟩
  obtain ⟨⟨ds, C1⟩, h1, hm⟩ := obind hm
  exact sl ρ C H E σ ds C1 _ R eo h1 fun ρ1 H1 v1 R1 s1 d1 => sr ρ1 C1 H1 ds v1 d C' Q R1 d1 hm (k.step s1)
theorem se_callTy {T : String} {op : ODL} (hc : SCall F (.type T) op) (hm : F.mg x = none) (hv : bootBuiltins x = some (.type T)) (ha : SA F (e :: es) ml) (hg : F.sc.names.lookup x = some .globalImplicit := by rfl) (hn : x ≠ "__name__" := by decide) (hdb : (x == ("__debug__" : Str)) = false := by decide)
    (he : ∀ env : Env, starEach (e :: es) env = (false, eval e env) :: starEach es env := by intro _; rfl) (hpl : ∀ env : Env, (backTo pos (starEach es env)).any (·.1) = false := by intro _; rfl) : SE F (.Call (.Name x p) (e :: es) [] pos) (mCallB op ml) := by
  obtain ⟨r, hr, sr⟩ := hc
  obtain ⟨tl, pl, sl⟩ := ha
  refine ⟨_, fun X h => pe_callTy (hr X h) (h.gl hg) (by rw [h.mg]; exact hm) hv (pl X h) hn hdb (he _) (hpl _), fun ρ C H E σ d C' Q R eo hm k => ?_⟩
  obtain ⟨⟨ds, C1⟩, h1, hm⟩ := obind hm
  exact sl ρ C H E σ ds C1 _ R eo h1 fun ρ1 H1 v1 R1 s1 d1 => sr ρ1 C1 H1 ds v1 d C' Q R1 d1 hm (k.step s1)
/-- what kind a value is, for a method's look-up -/
def tyD (T : String) (d : D) (C : Hm) : Bool := match d with
  | .str _ => T == "str"
  | .cell n => match C[n]? with
    | some (.lst _) => T == "list"
    | some (.dic _) => T == "dict"
    | _ => false
  | _ => false
def mMeth (T : String) (op : ODM) (mo : ME) (ml : MA) : ME := fun E C => (mo E C).bind fun p => if tyD T p.1 p.2 = true then (ml E p.2).bind fun q => op p.1 q.1 q.2 else none
end
end Mi
set_option Elab.async false
set_option linter.all false
set_option maxRecDepth 100000
set_option maxHeartbeats 4000000
namespace Mi
open PySem PySem.Spec PyProof.Rows L2
section
variable {F : Fm} {X : Cx} {a b c e o : Expr} {es : List Expr} {pos p : Pos} {x : Str} {i : Nat} {ma mb mc me mo : ME} {mt mu : MT} {ml : MA}
/-! ## chains of comparisons -/
theorem se_chain {op op' : CmpOp} {f g : OD2} (ho : SOp F (compareOp op) f) (ho' : SOp F (compareOp op') g) (ha : SE F a ma) (hb : SE F b mb) (hc : SE F c mc) (hmk : lastMarks [op, op'] [b, c] = false := by with_unfolding_all rfl) :
    SE F (.Compare a [op, op'] [b, c] pos) (mChain f g ma mb mc) := by
  obtain ⟨r, hr, sr⟩ := ho
  obtain ⟨q, hq, sq⟩ := ho'
  obtain ⟨ta, pa, sa⟩ := ha
  obtain ⟨tb, pb, sb⟩ := hb
  obtain ⟨tc, pc, sc⟩ := hc
  refine ⟨_, fun X h => pe_chain (hr X h) (hq X h) (pa X h) (pb X h) (pc X h) hmk, fun ρ C H E σ d C' Q R eo hm k => ?_⟩
  obtain ⟨⟨x, C1⟩, h1, hm⟩ := obind hm
  obtain ⟨⟨y, C2⟩, h2, hm⟩ := obind hm
  obtain ⟨⟨z, C3⟩, h3, hm⟩ := obind hm
  refine sa ρ C H E σ x C1 _ R eo h1 fun ρ1 H1 v1 R1 s1 d1 => ?_
  refine sb ρ1 C1 H1 E σ y C2 _ R1 (eo.mono s1) h2 fun ρ2 H2 v2 R2 s2 d2 => ?_
  refine sr ρ2 C2 H2 x y v1 v2 _ C3 _ R2 (d1.mono s2) d2 (asB_some h3) fun ρ3 H3 v3 R3 s3 d3 => ?_
  cases d3
  refine ⟨z, rfl, ?_⟩
  have s := (s1.trans s2).trans s3
  cases z with
  | false => cases hm; exact (k.step s).now R3 (.bl false)
  | true =>
    obtain ⟨⟨w, C4⟩, h4, hm⟩ := obind hm
    refine sc ρ3 C3 H3 E σ w C4 _ R3 (eo.mono s) h4 fun ρ4 H4 v4 R4 s4 d4 => ?_
    exact sq ρ4 C4 H4 y w v2 v4 d C' Q R4 (d2.mono (s3.trans s4)) d4 hm (k.step (s.trans s4))
theorem st_chain {op op' : CmpOp} {f g : OD2} (ho : SOp F (compareOp op) f) (ho' : SOp F (compareOp op') g) (ha : SE F a ma) (hb : SE F b mb) (hc : SE F c mc) (hmk : lastMarks [op, op'] [b, c] = false := by with_unfolding_all rfl) :
    ST F (.Compare a [op, op'] [b, c] pos) (mTest (mChain f g ma mb mc)) := by
  obtain ⟨r, hr, sr⟩ := ho
  obtain ⟨q, hq, sq⟩ := ho'
  obtain ⟨ta, pa, sa⟩ := ha
  obtain ⟨tb, pb, sb⟩ := hb
  obtain ⟨tc, pc, sc⟩ := hc
  refine ⟨_, fun X h => pt_chain (hr X h) (hq X h) (pa X h) (pb X h) (pc X h) hmk, fun ρ C H E σ d C' Q R eo hm k => ?_⟩
  have hm := asB_some hm
  obtain ⟨⟨x, C1⟩, h1, hm⟩ := obind hm
  obtain ⟨⟨y, C2⟩, h2, hm⟩ := obind hm
  obtain ⟨⟨z, C3⟩, h3, hm⟩ := obind hm
  refine sa ρ C H E σ x C1 _ R eo h1 fun ρ1 H1 v1 R1 s1 d1 => ?_
  refine sb ρ1 C1 H1 E σ y C2 _ R1 (eo.mono s1) h2 fun ρ2 H2 v2 R2 s2 d2 => ?_
  refine sr ρ2 C2 H2 x y v1 v2 _ C3 _ R2 (d1.mono s2) d2 (asB_some h3) fun ρ3 H3 v3 R3 s3 d3 => ?_
  cases d3
  refine ⟨z, rfl, ?_⟩
  have s := (s1.trans s2).trans s3
  cases z with
  | false => cases hm; exact ⟨false, rfl, k ρ3 H3 R3 s⟩
  | true =>
    obtain ⟨⟨w, C4⟩, h4, hm⟩ := obind hm
    refine sc ρ3 C3 H3 E σ w C4 _ R3 (eo.mono s) h4 fun ρ4 H4 v4 R4 s4 d4 => ?_
    exact sq ρ4 C4 H4 y w v2 v4 _ C' _ R4 (d2.mono (s3.trans s4)) d4 hm fun ρ5 H5 v R5 s5 dv => by
      cases dv
      exact ⟨d, rfl, k ρ5 H5 R5 ((s.trans s4).trans s5)⟩
/-! ## truth of any value -/
def truD (d : D) (C : Hm) : Option Bool := match d with
  | .non => some false
  | .bl b => some b
  | .int i => some (i != 0)
  | .str y => if y.length ≤ sizeLine then some ((y.length : Int) != 0) else none
  | .tup ds => some (!ds.isEmpty)
  | .cell n => match C[n]? with
    | some (.lst ds) => some (!ds.isEmpty)
    | some (.dic ks) => some (!ks.isEmpty)
    | _ => none
  | .scr ns => some (!ns.isEmpty)
  | .rol ds => some (!ds.isEmpty)
  | .fn _ => none
  | .ty _ => none
theorem DVs.isEmpty {K : PySem.W.Frag} {ft : Cfg} {ρ : List Addr} {H : Hp} {ds : List D} {vs : List V} (h : DVs K ft ρ H ds vs) : ds.isEmpty = vs.isEmpty := by cases h <;> rfl
theorem truD_ok {ρ : List Addr} {H : Hp} {C : Hm} {d : D} {v : V} {k : Bool} (R : RelF F ρ H C) (h : DVF F ρ H d v) (e : truD d C = some k) : TruV F.K v H k := by
  cases h with
  | non => cases e; rfl
  | bl b => cases e; rfl
  | int i => cases e; rfl
  | str y =>
    unfold truD at e
    simp only at e
    split at e
    · rename_i hl; cases e; exact ⟨hl, rfl⟩
    · cases e
  | tup h r => cases e; exact .inr (.inl ⟨_, h, by rw [r.isEmpty]⟩)
  | @cell n a h =>
    unfold truD at e
    simp only at e
    split at e
    · rename_i ds q
      cases e
      obtain ⟨a', vs, e1, e2, e3, e4⟩ := R.lst q (.cell h)
      cases e1
      exact .inl ⟨vs, SqL.of e3, by rw [e4.isEmpty]⟩
    · rename_i ks q
      cases e
      obtain ⟨a', vs, e1, e2, e3, e4⟩ := R.dic q (.cell h)
      cases e1
      refine .inr (.inr ⟨_, e3, ?_⟩)
      cases e4 <;> rfl
    · cases e
  | fn n => cases e
  | scr h => cases e; exact .inl ⟨_, h.1, by simp⟩
  | rol h r => cases e; exact .inl ⟨_, .inl (.inr ⟨_, h⟩), by rw [r.isEmpty]⟩
  | ty t => cases e
def mTru (m : ME) : MT := fun E C => (m E C).bind fun p => (truD p.1 p.2).map fun b => (b, p.2)
theorem st_tru (he : SE F e me) (hw : ∀ (env : Env) whole, isTrue e env whole = (do let v ← whole; standAt e.pos; holding [v] (truthy v)) := by intro _ _; rfl) : ST F e (mTru me) := by
  obtain ⟨t, p, s⟩ := he
  refine ⟨fun σ H Q => t σ H fun x H' => ∃ k, TruV F.K x H' k ∧ Q k H', fun X h => by have z := pt_truth (p X h) (hw X.env); rw [h.K] at z; exact z, fun ρ C H E σ d C' Q R eo hm k => ?_⟩
  obtain ⟨⟨x, C1⟩, h1, hm⟩ := obind hm
  cases q : truD x C1 with
  | none => simp only [q] at hm; cases hm
  | some b =>
    simp only [q] at hm
    cases hm
    exact s ρ C H E σ _ _ _ R eo h1 fun ρ3 H3 v R3 s3 dv => ⟨_, truD_ok R3 dv q, k ρ3 H3 R3 s3⟩
/-! ## methods, subscripts, slices -/
theorem tyD_ok {ρ : List Addr} {H : Hp} {C : Hm} {d : D} {v : V} {T : String} (R : RelF F ρ H C) (h : DVF F ρ H d v) (e : tyD T d C = true) : tyV F.K T v H := by
  cases h with
  | str y => exact eq_of_beq e
  | @cell n a h =>
    unfold tyD at e
    simp only at e
    split at e
    · rename_i ds q
      obtain ⟨a', vs, e1, e2, e3, e4⟩ := R.lst q (.cell h)
      cases e1
      exact .inl ⟨eq_of_beq e, vs, SqL.of e3⟩
    · rename_i ks q
      obtain ⟨a', vs, e1, e2, e3, e4⟩ := R.dic q (.cell h)
      cases e1
      exact .inr (.inr (.inl ⟨eq_of_beq e, .inl ⟨_, e3⟩⟩))
    · cases e
  | _ => cases e
theorem se_bm {T id : String} {name : Str} {apos : Pos} {op : ODM} (pa : PlainAttrs T) (slot : Slot T name id) (hty : typeOf (.builtin id) = pure (.type "method_descriptor")) (hmt : SMt F T id op) (ho : SE F o mo) (ha : SA F (e :: es) ml)
    (hbase : ∀ env : Env, attributeBase o name env (eval o env) = eval o env := by intro _; rfl)
    (hfew : ∀ env : Env, ((backTo pos (starEach (e :: es) env)).all (fun x => !x.1) && (backToKw pos (keywordEach [] env)).all (fun x => x.1.isSome)
      && decide ((e :: es).length + ([] : List Keyword).length + (if ([] : List Keyword).isEmpty then 0 else 1) < 30)) = true := by intro _; rfl)
    (hline : (apos.endLine == pos.line) = true := by rfl) (hs : ∀ env : Env, starEach (e :: es) env = (false, eval e env) :: starEach es env := by intro _; rfl) (hplain : ∀ env : Env, (backTo pos (starEach es env)).any (·.1) = false := by intro _; rfl) :
    SE F (.Call (.Attribute o name apos) (e :: es) [] pos) (mMeth T op mo ml) := by
  obtain ⟨r, hr, sr⟩ := hmt
  obtain ⟨to, po, so⟩ := ho
  obtain ⟨tl, pl, sl⟩ := ha
  refine ⟨tBM F.K T r to tl, fun X h => by have z := pe_bm pa slot hty (hr X h) (po X h) (pl X h) (hbase _) (hfew _) hline (hs _) (hplain _); rw [h.K] at z; exact z, fun ρ C H E σ d C' Q R eo hm k => ?_⟩
  obtain ⟨⟨x, C1⟩, h1, hm⟩ := obind hm
  simp only at hm
  split at hm
  · rename_i ty
    obtain ⟨⟨ys, C2⟩, h2, hm⟩ := obind hm
    refine so ρ C H E σ x C1 _ R eo h1 fun ρ1 H1 v1 R1 s1 d1 => ⟨tyD_ok R1 d1 ty, ?_⟩
    refine sl ρ1 C1 H1 E σ ys C2 _ R1 (eo.mono s1) h2 fun ρ2 H2 v2 R2 s2 d2 => ?_
    exact sr ρ2 C2 H2 x ys v1 v2 d C' Q R2 (d1.mono s2) d2 hm (k.step (s1.trans s2))
  · cases hm
theorem se_bm0 {T id : String} {name : Str} {apos : Pos} {op : ODM} (pa : PlainAttrs T) (slot : Slot T name id) (hty : typeOf (.builtin id) = pure (.type "method_descriptor")) (hmt : SMt F T id op) (ho : SE F o mo)
    (hbase : ∀ env : Env, attributeBase o name env (eval o env) = eval o env := by intro _; rfl) (hline : (apos.endLine == pos.line) = true := by rfl) : SE F (.Call (.Attribute o name apos) [] [] pos) (mMeth T op mo mNil) := by
  obtain ⟨r, hr, sr⟩ := hmt
  obtain ⟨to, po, so⟩ := ho
  refine ⟨tBM0 F.K T r to, fun X h => by have z := pe_bm0 pa slot hty (hr X h) (po X h) (hbase _) hline; rw [h.K] at z; exact z, fun ρ C H E σ d C' Q R eo hm k => ?_⟩
  obtain ⟨⟨x, C1⟩, h1, hm⟩ := obind hm
  simp only at hm
  split at hm
  · rename_i ty
    obtain ⟨⟨ys, C2⟩, h2, hm⟩ := obind hm
    cases h2
    refine so ρ C H E σ x C1 _ R eo h1 fun ρ1 H1 v1 R1 s1 d1 => ⟨tyD_ok R1 d1 ty, ?_⟩
    exact sr ρ1 C1 H1 x [] v1 [] d C' Q R1 d1 .nil hm (k.step s1)
  · cases hm
/-- o[i] by values -/
def SIx (F : Fm) (op : OD2) : Prop := ∃ r : R2, (∀ X, F.Is X → IxR X r) ∧ ∀ ρ C H x y vx vy d C' Q, RelF F ρ H C → DVF F ρ H x vx → DVF F ρ H y vy → op x y C = some (d, C') → Post F ρ H d C' Q → r vx vy H Q
theorem se_ix {f : OD2} (ho : SIx F f) (ha : SE F a ma) (hb : SE F b mb) (hs : PlainIx b := by intro _ _; rfl) : SE F (.Subscript a b pos) (mBin f ma mb) := by
  obtain ⟨r, hr, sr⟩ := ho
  obtain ⟨ta, pa, sa⟩ := ha
  obtain ⟨tb, pb, sb⟩ := hb
  refine ⟨_, fun X h => pe_ix (hr X h) (pa X h) (pb X h) hs, fun ρ C H E σ d C' Q R eo hm k => ?_⟩
  obtain ⟨⟨x, C1⟩, h1, hm⟩ := obind hm
  obtain ⟨⟨y, C2⟩, h2, hm⟩ := obind hm
  refine sa ρ C H E σ x C1 _ R eo h1 fun ρ1 H1 v1 R1 s1 d1 => ?_
  refine sb ρ1 C1 H1 E σ y C2 _ R1 (eo.mono s1) h2 fun ρ2 H2 v2 R2 s2 d2 => ?_
  exact sr ρ2 C2 H2 x y v1 v2 d C' Q R2 (d1.mono s2) d2 hm (k.step (s1.trans s2))
abbrev MO := Ev → Hm → Option (Option Int × Hm)
def SO (F : Fm) (e : Option Expr) (m : MO) : Prop := ∃ t : TO, (∀ X, F.Is X → PO X e t) ∧ ∀ ρ C H E σ z C' Q, RelF F ρ H C → EnvF F ρ H E σ → m E C = some (z, C') → (∀ ρ' H', RelF F ρ' H' C' → Stp ρ H ρ' H' → Q z H') → t σ H Q
def oNone : MO := fun _ C => some (none, C)
def oSome (m : ME) : MO := fun E C => match m E C with | some (.int i, C') => some (some i, C') | _ => none
theorem so_none : SO F none oNone := ⟨_, fun _ _ => po_none, fun ρ C H E σ z C' Q R eo hm k => by cases hm; exact k ρ H R .refl⟩
theorem so_some (h : SE F e me) : SO F (some e) (oSome me) := by
  obtain ⟨t, p, s⟩ := h
  refine ⟨_, fun X h => po_some (p X h), fun ρ C H E σ z C' Q R eo hm k => ?_⟩
  unfold oSome at hm
  split at hm
  · rename_i i C1 q
    cases hm
    exact s ρ C H E σ _ _ _ R eo q fun ρ1 H1 v R1 s1 d1 => by cases d1; exact ⟨i, rfl, k ρ1 H1 R1 s1⟩
  · cases hm
abbrev ODS := D → Option Int → Option Int → Hm → Option (D × Hm)
def SSl (F : Fm) (op : ODS) : Prop := ∃ r, (∀ X, F.Is X → SlR X r) ∧ ∀ ρ C H x lo hi vx d C' Q, RelF F ρ H C → DVF F ρ H x vx → op x lo hi C = some (d, C') → Post F ρ H d C' Q → r vx lo hi H Q
def mSl (op : ODS) (ma : ME) (ml mh : MO) : ME := fun E C => (ma E C).bind fun p => (ml E p.2).bind fun q => (mh E q.2).bind fun r => op p.1 q.1 r.1 r.2
theorem se_slice {op : ODS} {lo hi : Option Expr} {p2 : Pos} {ml mh : MO} (hr : SSl F op) (he : SE F e me) (hl : SO F lo ml) (hu : SO F hi mh) : SE F (.Subscript e (.Slice lo hi none p2) pos) (mSl op me ml mh) := by
  obtain ⟨r, hr, sr⟩ := hr
  obtain ⟨te, pe, se⟩ := he
  obtain ⟨tl, pl, sl⟩ := hl
  obtain ⟨th, ph, sh⟩ := hu
  refine ⟨_, fun X h => pe_slice (hr X h) (pe X h) (pl X h) (ph X h), fun ρ C H E σ d C' Q R eo hm k => ?_⟩
  obtain ⟨⟨x, C1⟩, h1, hm⟩ := obind hm
  obtain ⟨⟨y, C2⟩, h2, hm⟩ := obind hm
  obtain ⟨⟨z, C3⟩, h3, hm⟩ := obind hm
  refine se ρ C H E σ x C1 _ R eo h1 fun ρ1 H1 v1 R1 s1 d1 => ?_
  refine sl ρ1 C1 H1 E σ y C2 _ R1 (eo.mono s1) h2 fun ρ2 H2 R2 s2 => ?_
  refine sh ρ2 C2 H2 E σ z C3 _ R2 (eo.mono (s1.trans s2)) h3 fun ρ3 H3 R3 s3 => ?_
  exact sr ρ3 C3 H3 x y z v1 d C' Q R3 (d1.mono (s2.trans s3)) hm (k.step ((s1.trans s2).trans s3))
/-! ## statements -/
def mSeq (m n : MS) : MS := fun E C => (m E C).bind fun o => match o with | .nx E' C' => n E' C' | o => some o
def mNext : MS := fun E C => some (.nx E C)
def mDrop (m : ME) : MS := fun E C => (m E C).bind fun p => some (.nx E p.2)
def mRet (m : ME) : MS := fun E C => (m E C).bind fun p => some (.rt p.1 p.2)
def mRetN : MS := fun E C => some (.rt .non C)
def mBreak : MS := fun E C => some (.bk E C)
def mCont : MS := fun E C => some (.ct E C)
def mIfS (mt : MT) (m n : MS) : MS := fun E C => (mt E C).bind fun p => if p.1 = true then m E p.2 else n E p.2
variable {st : Stmt} {rest sts : List Stmt} {ms ns : MS}
theorem sb_nil : SB F [] mNext := ⟨_, fun _ _ => pss_nil, fun ρ C H E σ o Z R eo hm k => by cases hm; exact k ρ H σ R .refl eo⟩
theorem evs_seq {t u : TS} (s1 : EvS F t ms) (s2 : EvS F u ns) : EvS F (tSeq t u) (mSeq ms ns) := fun ρ C H E σ o Z R eo hm k => by
  obtain ⟨o1, h1, hm⟩ := obind hm
  refine s1 ρ C H E σ o1 _ R eo h1 ?_
  cases o1 with
  | nx E1 C1 => exact fun ρ' H' σ' R' s' eo' => s2 ρ' C1 H' E1 σ' o Z R' eo' hm (k.step s')
  | rt d C1 => cases hm; exact k
  | bk E1 C1 => cases hm; exact k
  | ct E1 C1 => cases hm; exact k
theorem sb_cons (h1 : SS F st ms) (h2 : SB F rest ns) : SB F (st :: rest) (mSeq ms ns) := by
  obtain ⟨t, p, s⟩ := h1
  obtain ⟨u, q, r⟩ := h2
  exact ⟨_, fun X h => pss_cons (p X h) (q X h), evs_seq s r⟩
theorem sb_one (h1 : SS F st ms) : SB F [st] ms := by
  obtain ⟨t, p, s⟩ := h1
  exact ⟨_, fun X h => pss_one (p X h), s⟩
theorem ss_pass : SS F (.Pass pos) mNext := ⟨_, fun _ _ => ps_pass, fun ρ C H E σ o Z R eo hm k => by cases hm; exact k ρ H σ R .refl eo⟩
theorem ss_break : SS F (.Break pos) mBreak := ⟨_, fun _ _ => ps_break, fun ρ C H E σ o Z R eo hm k => by cases hm; exact k ρ H σ R .refl eo⟩
theorem ss_continue : SS F (.Continue pos) mCont := ⟨_, fun _ _ => ps_continue, fun ρ C H E σ o Z R eo hm k => by cases hm; exact k ρ H σ R .refl eo⟩
theorem ss_expr (he : SE F e me) (hs : ∀ env : Env, swapsWith e none pos.line env = pure false := by intro _; rfl) : SS F (.Expr e pos) (mDrop me) := by
  obtain ⟨t, p, s⟩ := he
  refine ⟨_, fun X h => ps_expr (p X h) (hs _), fun ρ C H E σ o Z R eo hm k => ?_⟩
  obtain ⟨⟨x, C1⟩, h1, hm⟩ := obind hm
  cases hm
  exact s ρ C H E σ x C1 _ R eo h1 fun ρ1 H1 v1 R1 s1 d1 => k ρ1 H1 σ R1 s1 (eo.mono s1)
theorem ss_ret (he : SE F e me) : SS F (.Return (some e) pos) (mRet me) := by
  obtain ⟨t, p, s⟩ := he
  refine ⟨_, fun X h => ps_ret (p X h), fun ρ C H E σ o Z R eo hm k => ?_⟩
  obtain ⟨⟨x, C1⟩, h1, hm⟩ := obind hm
  cases hm
  exact s ρ C H E σ x C1 _ R eo h1 fun ρ1 H1 v1 R1 s1 d1 => k ρ1 H1 v1 R1 s1 d1
theorem ss_retN : SS F (.Return none pos) mRetN := ⟨_, fun _ _ => ps_retN, fun ρ C H E σ o Z R eo hm k => by cases hm; exact k ρ H .non R .refl .non⟩
theorem ss_if (hc : ST F c mt) (ha : SB F sts ms) (hb : SB F rest ns) : SS F (.If c sts rest pos) (mIfS mt ms ns) := by
  obtain ⟨tc, pc, sc⟩ := hc
  obtain ⟨ta, pa, sa⟩ := ha
  obtain ⟨tb, pb, sb⟩ := hb
  refine ⟨_, fun X h => ps_if (pc X h) (pa X h) (pb X h), fun ρ C H E σ o Z R eo hm k => ?_⟩
  obtain ⟨⟨x, C1⟩, h1, hm⟩ := obind hm
  refine sc ρ C H E σ x C1 _ R eo h1 fun ρ1 H1 R1 s1 => ?_
  cases x with
  | true => exact sa ρ1 C1 H1 E σ o Z R1 (eo.mono s1) hm (k.step s1)
  | false => exact sb ρ1 C1 H1 E σ o Z R1 (eo.mono s1) hm (k.step s1)
/-! ## targets -/
abbrev MG := D → Ev → Option Ev
def EvG (F : Fm) (g : TG) (slots : List Nat) (m : MG) : Prop := ∀ ρ C H E σ d v E' Q, RelF F ρ H C → EnvF F ρ H E σ → DVF F ρ H d v → m d E = some E' →
  (∀ σ', EnvF F ρ H E' σ' → (∀ vs : List Nat, (∀ i ∈ slots, i ∈ vs) → wipe σ' vs = wipe σ vs) → Q σ' H) → g v σ H Q
def EvGs (F : Fm) (g : TGs) (slots : List Nat) (m : List D → Ev → Option Ev) : Prop := ∀ ρ C H E σ ds vs E' Q, RelF F ρ H C → EnvF F ρ H E σ → DVsF F ρ H ds vs → m ds E = some E' →
  (∀ σ', EnvF F ρ H E' σ' → (∀ vs : List Nat, (∀ i ∈ slots, i ∈ vs) → wipe σ' vs = wipe σ vs) → Q σ' H) → g vs σ H Q
def SG (F : Fm) (e : Expr) (slots : List Nat) (m : MG) : Prop := ∃ g, (∀ X, F.Is X → PG X e g) ∧ EvG F g slots m
def SGs (F : Fm) (es : List Expr) (slots : List Nat) (m : List D → Ev → Option Ev) : Prop := ∃ g, (∀ X, F.Is X → PGs X es g) ∧ EvGs F g slots m
theorem wipe_set {σ : L2.St} {i : Nat} {z : Option V} : ∀ {vs : List Nat}, i ∈ vs → wipe (σ.set i z) vs = wipe σ vs
  | [], h => by simp at h
  | v :: vs, h => by
    by_cases hv : i ∈ vs
    · unfold wipe; rw [wipe_set hv]
    · have e : i = v := by
        rcases List.mem_cons.mp h with e | e
        · exact e
        · exact absurd e hv
      subst e
      have aux : ∀ {ws : List Nat}, i ∉ ws → wipe (σ.set i z) ws = (wipe σ ws).set i z := by
        intro ws
        induction ws with
        | nil => intro _; rfl
        | cons w ws ih =>
          intro hw
          simp only [List.mem_cons, not_or] at hw
          unfold wipe
          rw [ih hw.2, List.set_comm _ _ hw.1]
      unfold wipe
      rw [aux hv, List.set_set]
theorem EnvOk.set {K : PySem.W.Frag} {ft : Cfg} {ρ : List Addr} {H : Hp} {E : Ev} {σ : L2.St} {i : Nat} {d : D} {v : V} (h : EnvOk K ft ρ H E σ) (hd : DV K ft ρ H d v) : EnvOk K ft ρ H (E.set i (some d)) (σ.set i (some v)) := by
  refine ⟨by simp [h.len], fun j z e => ?_⟩
  by_cases hj : i = j
  · subst hj
    have hi : i < E.length := by
      have := (List.getElem?_eq_some_iff.mp e).1
      simpa using this
    rw [List.getElem?_set_self hi] at e
    cases e
    exact ⟨v, List.getElem?_set_self (by rw [← h.len]; exact hi), hd⟩
  · rw [List.getElem?_set_ne hj] at e
    obtain ⟨w, q1, q2⟩ := h.at_ j z e
    exact ⟨w, by rw [List.getElem?_set_ne hj]; exact q1, q2⟩
def gN (i : Nat) : MG := fun d E => some (E.set i (some d))
theorem sg_name (i : Nat) (hN : F.N[i]? = some x := by rfl) (hx : Loc F.sc x := by first | exact Or.inl rfl | exact Or.inr rfl) (hf : F.fn x = true ∨ F.sc.names.lookup x = some .local := by first | exact .inl rfl | exact .inr rfl) : SG F (.Name x pos) [i] (gN i) := by
  refine ⟨gName i, fun X h => pg_name h.nd (by rw [h.N]; exact hN) (by rw [h.sc]; exact hx) (by rw [h.sc, h.fn]; exact hf), fun ρ C H E σ d v E' Q R eo dv hm k => ?_⟩
  cases hm
  exact k _ (eo.set dv) fun vs hs => wipe_set (hs i (by simp))
def gsNil : List D → Ev → Option Ev := fun ds E => match ds with | [] => some E | _ => none
def gsCons (m : MG) (n : List D → Ev → Option Ev) : List D → Ev → Option Ev := fun ds E => match ds with | d :: r => (m d E).bind fun E' => n r E' | [] => none
theorem sgs_nil : SGs F [] [] gsNil := by
  refine ⟨gNil, fun _ _ => pgs_nil, fun ρ C H E σ ds vs E' Q R eo dv hm k => ?_⟩
  cases dv with
  | nil => cases hm; exact ⟨rfl, k σ eo fun _ _ => rfl⟩
  | cons _ _ => cases hm
theorem sgs_cons {s1 s2 : List Nat} {m : MG} {n : List D → Ev → Option Ev} (h1 : SG F e s1 m) (h2 : SGs F es s2 n) (hs : ∀ X, F.Is X → ∀ (g : TG) (u : TGs), PG X e g → PGs X es u → PGs X (e :: es) (gCons g u) := by intro X _ g u a b; exact pgs_cons a b) : SGs F (e :: es) (s1 ++ s2) (gsCons m n) := by
  obtain ⟨g, p, q⟩ := h1
  obtain ⟨u, p2, q2⟩ := h2
  refine ⟨gCons g u, fun X h => hs X h g u (p X h) (p2 X h), fun ρ C H E σ ds vs E' Q R eo dv hm k => ?_⟩
  cases dv with
  | nil => cases hm
  | @cons d ds v vs dh dt =>
    obtain ⟨E1, e1, hm⟩ := obind hm
    refine ⟨v, vs, rfl, q ρ C H E σ d v E1 _ R eo dh e1 fun σ1 eo1 w1 => ?_⟩
    refine q2 ρ C H E1 σ1 ds vs E' _ R eo1 dt hm fun σ2 eo2 w2 => ?_
    exact k σ2 eo2 fun ws hw => (w2 ws fun i hi => hw i (List.mem_append_right _ hi)).trans (w1 ws fun i hi => hw i (List.mem_append_left _ hi))
def gT (n : Nat) (m : List D → Ev → Option Ev) : MG := fun d E => match d with | .tup ds => if ds.length = n then m ds E else none | _ => none
end
end Mi
set_option Elab.async false
set_option linter.all false
set_option maxRecDepth 100000
set_option maxHeartbeats 4000000
namespace Mi
open PySem PySem.Spec PyProof.Rows L2
section
variable {F : Fm} {X : Cx} {a b c e o tg iter value : Expr} {es : List Expr} {pos pos' p : Pos} {x y : Str} {i j : Nat} {ma mb mc me mo mv : ME} {mt mu : MT} {ml : MA} {st : Stmt} {rest sts body : List Stmt} {ms ns : MS}
theorem sg_tup {k : Nat} {slots : List Nat} {n : Nat} {m : List D → Ev → Option Ev} (h : SGs F es slots m) (hn : ∀ env : Env, (assignEach es env).length = n := by intro _; rfl) (hst : ∀ env : Env, (assignEach es env).findIdx? (·.1) = none := by intro _; rfl) : SG F (.Tuple es k pos) slots (gT n m) := by
  obtain ⟨g, q, s⟩ := h
  refine ⟨gTup F.K n g, fun X h => by have z := pg_tup (pos := pos) (k := k) h.calm (q X h) (hn _) (hst _); rw [h.K] at z; exact z, fun ρ C H E σ d v E' Q R eo dv hm kk => ?_⟩
  unfold gT at hm
  split at hm
  · rename_i ds
    split at hm
    · rename_i hl
      cases dv with
      | tup hs hd => exact ⟨_, _, rfl, hs, by rw [← hd.length]; exact hl, s ρ C H E σ ds _ E' Q R eo hd hm kk⟩
    · cases hm
  · cases hm
/-! ## assignments -/
def mAsg (me : ME) (g : MG) : MS := fun E C => (me E C).bind fun p => (g p.1 E).bind fun E' => some (.nx E' p.2)
theorem ss_set (i : Nat) (he : SE F e me) (hN : F.N[i]? = some x := by rfl) (hx : Loc F.sc x := by first | exact Or.inl rfl | exact Or.inr rfl) (hf : F.fn x = true ∨ F.sc.names.lookup x = some .local := by first | exact .inl rfl | exact .inr rfl)
    (hs : ∀ env : Env, swapsWith e (some (.Name x pos')) pos.line env = pure false := by intro _; rfl) : SS F (.Assign [.Name x pos'] e pos) (mAsg me (gN i)) := by
  obtain ⟨t, q, s⟩ := he
  refine ⟨_, fun X h => ps_set h.nd (by rw [h.N]; exact hN) (by rw [h.sc]; exact hx) (q X h) (hs _) (by rw [h.sc, h.fn]; exact hf), fun ρ C H E σ o Z R eo hm k => ?_⟩
  obtain ⟨⟨x, C1⟩, h1, hm⟩ := obind hm
  cases hm
  exact s ρ C H E σ x C1 _ R eo h1 fun ρ1 H1 v1 R1 s1 d1 => k ρ1 H1 _ R1 s1 ((eo.mono s1).set d1)
theorem ss_asg {slots : List Nat} {g : MG} (he : SE F e me) (hg : SG F tg slots g) (hs : ∀ env : Env, swapsWithSole [tg] e pos.line env = pure false := by intro _; rfl) (hw : ∀ env : Env, swappedStores [tg] e env = pure none := by intro _; rfl)
    (h1 : ∀ env : Env, (assignEach [tg] env).map (·.2) = [assign tg env] := by intro _; rfl) : SS F (.Assign [tg] e pos) (mAsg me g) := by
  obtain ⟨t, q, s⟩ := he
  obtain ⟨u, q2, s2⟩ := hg
  refine ⟨_, fun X h => ps_asg (q X h) (q2 X h) (hs _) (hw _) (h1 _), fun ρ C H E σ o Z R eo hm k => ?_⟩
  obtain ⟨⟨x, C1⟩, e1, hm⟩ := obind hm
  obtain ⟨E1, e2, hm⟩ := obind hm
  cases hm
  exact s ρ C H E σ x C1 _ R eo e1 fun ρ1 H1 v1 R1 s1 d1 => s2 ρ1 C1 H1 E σ x v1 E1 _ R1 (eo.mono s1) d1 e2 fun σ' eo' _ => k ρ1 H1 σ' R1 s1 eo'
def mPar (i j : Nat) (ml : MA) : MS := fun E C => (ml E C).bind fun p => match p.1 with | [d, e] => some (.nx ((E.set i (some d)).set j (some e)) p.2) | _ => none
theorem ss_par {px py pt pt2 : Pos} {kt k2 : Nat} (i j : Nat) (ha : SA F [a, b] ml) (hij : i ≠ j) (hN : F.N[i]? = some x := by rfl) (hM : F.N[j]? = some y := by rfl)
    (hx : F.sc.names.lookup x = some .local := by rfl) (hy : F.sc.names.lookup y = some .local := by rfl)
    (hw : ∀ env : Env, env.scope = F.sc → swappedStores [.Tuple [.Name x px, .Name y py] kt pt] (.Tuple [a, b] k2 pt2) env = pure (some [x, y]))
    (hs : ∀ env : Env, swapsWithSole [.Tuple [.Name x px, .Name y py] kt pt] (.Tuple [a, b] k2 pt2) pos.line env = pure false := by intro _; rfl) :
    SS F (.Assign [.Tuple [.Name x px, .Name y py] kt pt] (.Tuple [a, b] k2 pt2) pos) (mPar i j ml) := by
  obtain ⟨t, q, s⟩ := ha
  refine ⟨_, fun X h => ps_par h.calm h.nd (by rw [h.N]; exact hN) (by rw [h.N]; exact hM) hij (by rw [h.sc]; exact hx) (by rw [h.sc]; exact hy) (q X h) (hw _ h.sc) (hs _), fun ρ C H E σ o Z R eo hm k => ?_⟩
  obtain ⟨⟨ds, C1⟩, h1, hm⟩ := obind hm
  refine s ρ C H E σ ds C1 _ R eo h1 fun ρ1 H1 v1 R1 s1 d1 => ?_
  simp only at hm
  split at hm
  · rename_i d e
    cases hm
    cases d1 with
    | cons dh dt => cases dt with
      | cons dh2 dt2 =>
        cases dt2
        exact ⟨_, _, rfl, k ρ1 H1 _ R1 s1 (((eo.mono s1).set dh).set dh2)⟩
  · cases hm
/-- x op= e -/
def SIp (F : Fm) (op : Operator) (f : OD2) : Prop := ∃ r : TIp, (∀ X, F.Is X → PIp X op r) ∧ ∀ ρ C H x y vx vy d C' Q, RelF F ρ H C → DVF F ρ H x vx → DVF F ρ H y vy → f x y C = some (d, C') → Post F ρ H d C' Q → r vx vy H Q
def mAug (i : Nat) (f : OD2) (me : ME) : MS := fun E C => match E[i]? with
  | some (some d) => (me E C).bind fun p => (f d p.1 p.2).bind fun q => some (.nx (E.set i (some q.1)) q.2)
  | _ => none
theorem ss_aug {op : Operator} {f : OD2} (i : Nat) (ho : SIp F op f) (he : SE F e me) (hN : F.N[i]? = some x := by rfl) (hx : Loc F.sc x := by first | exact Or.inl rfl | exact Or.inr rfl) (hf : F.fn x = true ∨ F.sc.names.lookup x = some .local := by first | exact .inl rfl | exact .inr rfl) : SS F (.AugAssign (.Name x pos') op e pos) (mAug i f me) := by
  obtain ⟨r, hr, sr⟩ := ho
  obtain ⟨t, q, s⟩ := he
  refine ⟨_, fun X h => ps_aug h.nd (by rw [h.N]; exact hN) (by rw [h.sc]; exact hx) (q X h) (hr X h) (by rw [h.sc, h.fn]; exact hf), fun ρ C H E σ o Z R eo hm k => ?_⟩
  unfold mAug at hm
  split at hm
  · rename_i d q
    obtain ⟨v, q1, q2⟩ := eo.at_ i _ q
    obtain ⟨⟨x, C1⟩, h1, hm⟩ := obind hm
    obtain ⟨⟨z, C2⟩, h2, hm⟩ := obind hm
    cases hm
    refine ⟨v, q1, s ρ C H E σ x C1 _ R eo h1 fun ρ1 H1 v1 R1 s1 d1 => ?_⟩
    exact sr ρ1 C1 H1 d x v v1 z C2 _ R1 (q2.mono s1) d1 h2 fun ρ2 H2 v2 R2 s2 d2 => k ρ2 H2 _ R2 (s1.trans s2) ((eo.mono (s1.trans s2)).set d2)
  · cases hm
/-! ## what is walked -/
inductive Itm where
  | seq (ds : List D) | live (n : Nat) | enl (n : Nat)
def Itm.at (it : Itm) (C : Hm) (i : Nat) : Option (Option D) := match it with
  | .seq ds => some ds[i]?
  | .live n => match C[n]? with | some (.lst ds) => some ds[i]? | _ => none
  | .enl n => match C[n]? with | some (.lst ds) => some (ds[i]?.map fun d => D.tup [.int (i : Nat), d]) | _ => none
abbrev MI := Ev → Hm → Option (Itm × Nat × Hm)
def ItAt (F : Fm) (ρ1 : List Addr) (H1 : Hp) (C1 : Hm) (J : It) (i : Nat) : Option D → Prop
  | none => J.stop i H1
  | some x => J.go i H1 ∧ ∀ v H', J.yld i H1 v H' → RelF F ρ1 H' C1 ∧ Stp ρ1 H1 ρ1 H' ∧ DVF F ρ1 H' x v
def ItOk (F : Fm) (ρ : List Addr) (H : Hp) (it : Itm) (J : It) : Prop := ∀ ρ1 H1 C1, RelF F ρ1 H1 C1 → Wk ρ H ρ1 H1 → ∀ i r, it.at C1 i = some r → ItAt F ρ1 H1 C1 J i r
def SI (F : Fm) (tg iter : Expr) (m : MI) : Prop := ∃ wi, (∀ X, F.Is X → PI X tg iter wi) ∧ ∀ ρ C H E σ it n C' R, RelF F ρ H C → EnvF F ρ H E σ → m E C = some (it, n, C') → (∀ ρ' H' J, RelF F ρ' H' C' → Stp ρ H ρ' H' → ItOk F ρ' H' it J → R J H') → wi σ H R
def iSeqD (d : D) (C : Hm) : Option (Itm × Nat × Hm) := match d with
  | .tup ds => some (.seq ds, ds.length, C)
  | _ => none
def iLstD (d : D) (C : Hm) : Option (Itm × Nat × Hm) := match d with
  | .cell n => match C[n]? with | some (.lst ds) => some (.live n, ds.length, C) | _ => none
  | .scr ns => some (.seq (ns.map D.int), ns.length, C)
  | _ => none
def mITup (m : ME) : MI := fun E C => (m E C).bind fun p => iSeqD p.1 p.2
def mILst (m : ME) : MI := fun E C => (m E C).bind fun p => iLstD p.1 p.2
theorem Wk.mono_dvs {ρ ρ1 : List Addr} {H H1 : Hp} {K : PySem.W.Frag} {ft : Cfg} {ds : List D} {vs : List V} (h : DVs K ft ρ H ds vs) (s : Wk ρ H ρ1 H1) : DVs K ft ρ1 H1 ds vs := DVs.monoW s h
theorem itOk_tup {ρ : List Addr} {H : Hp} {a : Addr} {ds : List D} {vs : List V} (hs : SqT F.K H a vs) (hd : DVsF F ρ H ds vs) (inj : ∀ H1 xs ys, SqT F.K H1 a xs → SqT F.K H1 a ys → True) : ItOk F ρ H (.seq ds) (Itt F.K a) := by
  intro ρ1 H1 C1 R1 s1 i r hr
  simp only [Itm.at, Option.some.injEq] at hr
  have hs1 := s1.sqT hs
  have hd1 := DVs.monoW s1 hd
  subst hr
  cases q : ds[i]? with
  | none =>
    refine ⟨vs, hs1, ?_⟩
    rw [← hd1.length]
    exact List.getElem?_eq_none_iff.mp q
  | some x =>
    obtain ⟨v, e1, e2⟩ := hd1.get q
    refine ⟨⟨vs, v, hs1, e1⟩, fun w H' hy => ?_⟩
    obtain ⟨rfl, hy⟩ := hy
    have := hy vs hs1
    rw [e1] at this
    cases this
    exact ⟨R1, .refl, e2⟩
theorem si_tup (hl : SE F iter me) : SI F tg iter (mITup me) := by
  obtain ⟨t, q, s⟩ := hl
  refine ⟨iTup F.K t, fun X h => by have z := pi_tup (tg := tg) (q X h); rw [h.K] at z; exact z, fun ρ C H E σ it n C' Q R eo hm k => ?_⟩
  obtain ⟨⟨x, C1⟩, h1, hm⟩ := obind hm
  refine s ρ C H E σ x C1 _ R eo h1 fun ρ1 H1 v1 R1 s1 d1 => ?_
  simp only at hm
  unfold iSeqD at hm
  split at hm
  · rename_i ds
    cases hm
    cases d1 with
    | tup hs hd => exact ⟨_, rfl, ⟨_, hs⟩, k ρ1 H1 _ R1 s1 (itOk_tup hs hd fun _ _ _ _ _ => trivial)⟩
  · cases hm
theorem si_lst (hl : SE F iter me) : SI F tg iter (mILst me) := by
  obtain ⟨t, q, s⟩ := hl
  refine ⟨iList F.K t, fun X h => by have z := pi_list (tg := tg) (q X h); rw [h.K] at z; exact z, fun ρ C H E σ it n C' Q R eo hm k => ?_⟩
  obtain ⟨⟨x, C1⟩, h1, hm⟩ := obind hm
  refine s ρ C H E σ x C1 _ R eo h1 fun ρ1 H1 v1 R1 s1 d1 => ?_
  simp only at hm
  unfold iLstD at hm
  split at hm
  · rename_i n1
    split at hm
    · rename_i ds qc
      cases hm
      obtain ⟨a, vs, rfl, ea, e3, e4⟩ := R1.lst qc d1
      refine ⟨a, rfl, ⟨vs, SqL.of e3⟩, k ρ1 H1 _ R1 s1 ?_⟩
      intro ρ2 H2 C2 R2 s2 i r hr
      simp only [Itm.at] at hr
      split at hr
      · rename_i ds2 qc2
        cases hr
        obtain ⟨a2, vs2, e5, ea2, e6, e7⟩ := R2.lst qc2 (DV.monoW s2 d1)
        cases e5
        cases qq : ds2[i]? with
        | none => exact ⟨vs2, SqL.of e6, by rw [← e7.length]; exact List.getElem?_eq_none_iff.mp qq⟩
        | some x =>
          obtain ⟨v, e8, e9⟩ := e7.get qq
          refine ⟨⟨vs2, v, SqL.of e6, e8⟩, fun w H' hy => ?_⟩
          obtain ⟨rfl, hy⟩ := hy
          have := hy vs2 (SqL.of e6)
          rw [e8] at this
          cases this
          exact ⟨R2, .refl, e9⟩
      · cases hr
    · cases hm
  · rename_i ns1
    cases hm
    cases d1 with
    | scr h =>
      refine ⟨_, rfl, ⟨_, h.1⟩, k ρ1 H1 _ R1 s1 ?_⟩
      intro ρ2 H2 C2 R2 s2 i r hr
      simp only [Itm.at, Option.some.injEq] at hr
      have h2 := (s2.sqR h).1
      subst hr
      have e7 : DVsF F ρ2 H2 (ns1.map D.int) (ns1.map V.int) := DVs.ints ns1
      cases qq : (ns1.map D.int)[i]? with
      | none => exact ⟨_, h2, by rw [← e7.length]; exact List.getElem?_eq_none_iff.mp qq⟩
      | some x =>
        obtain ⟨v, e8, e9⟩ := e7.get qq
        refine ⟨⟨_, v, h2, e8⟩, fun w H' hy => ?_⟩
        obtain ⟨rfl, hy⟩ := hy
        have := hy _ h2
        rw [e8] at this
        cases this
        exact ⟨R2, .refl, e9⟩
  · cases hm
def rngD (lo : Int) (n : Nat) : List D := (List.range n).map fun k => D.int (lo + (k : Nat))
theorem itOk_rng {ρ : List Addr} {H : Hp} {lo : Int} {n : Nat} : ItOk F ρ H (.seq (rngD lo n)) (Itr lo n) := by
  intro ρ1 H1 C1 R1 s1 i r hr
  simp only [Itm.at, Option.some.injEq] at hr
  subst hr
  by_cases hi : i < n
  · have : (rngD lo n)[i]? = some (.int (lo + (i : Nat))) := by simp [rngD, hi]
    rw [this]
    refine ⟨hi, fun w H' hy => ?_⟩
    obtain ⟨rfl, rfl⟩ := hy
    exact ⟨R1, .refl, .int _⟩
  · have : (rngD lo n)[i]? = none := by simp [rngD]; omega
    rw [this]
    exact Nat.le_of_not_lt hi
def iRng1D (ds : List D) (C : Hm) : Option (Itm × Nat × Hm) := match ds with
  | [.int j] => if -(2 ^ 62) ≤ j ∧ j < 2 ^ 62 then some (.seq (rngD 0 j.toNat), j.toNat, C) else none
  | _ => none
def iRng2D (ds : List D) (C : Hm) : Option (Itm × Nat × Hm) := match ds with
  | [.int i, .int j] => if -(2 ^ 62) ≤ i ∧ i < 2 ^ 62 ∧ -(2 ^ 62) ≤ j ∧ j < 2 ^ 62 then some (.seq (rngD i (j - i).toNat), (j - i).toNat, C) else none
  | _ => none
def mIRng1 (ml : MA) : MI := fun E C => (ml E C).bind fun p => iRng1D p.1 p.2
def mIRng2 (ml : MA) : MI := fun E C => (ml E C).bind fun p => iRng2D p.1 p.2
theorem si_range1 {p : Pos} (hm : F.mg "range" = none) (ha : SA F [a] ml) (hg : F.sc.names.lookup (Str.ofString "range") = some .globalImplicit := by rfl) (hs : ∀ env : Env, starEach [a] env = [(false, eval a env)] := by intro _; rfl) : SI F tg (.Call (.Name "range" p) [a] [] pos) (mIRng1 ml) := by
  obtain ⟨t, q, s⟩ := ha
  refine ⟨_, fun X h => pi_range1 (h.gl hg) (by rw [h.mg]; exact hm) (q X h) (hs _), fun ρ C H E σ it n C' Q R eo hm k => ?_⟩
  obtain ⟨⟨ds, C1⟩, h1, hm⟩ := obind hm
  refine s ρ C H E σ ds C1 _ R eo h1 fun ρ1 H1 v1 R1 s1 d1 => ?_
  simp only at hm
  unfold iRng1D at hm
  split at hm
  · rename_i jv
    split at hm
    · rename_i hj
      cases hm
      cases d1 with | cons dh dt => cases dh; cases dt; exact ⟨_, rfl, hj.1, hj.2, k ρ1 H1 _ R1 s1 itOk_rng⟩
    · cases hm
  · cases hm
theorem si_range2 {p : Pos} (hm : F.mg "range" = none) (ha : SA F [a, b] ml) (hg : F.sc.names.lookup (Str.ofString "range") = some .globalImplicit := by rfl) (hs : ∀ env : Env, starEach [a, b] env = [(false, eval a env), (false, eval b env)] := by intro _; rfl) (hs2 : ∀ env : Env, starEach [b] env = [(false, eval b env)] := by intro _; rfl) :
    SI F tg (.Call (.Name "range" p) [a, b] [] pos) (mIRng2 ml) := by
  obtain ⟨t, q, s⟩ := ha
  refine ⟨_, fun X h => pi_range2 (h.gl hg) (by rw [h.mg]; exact hm) (q X h) (hs _) (hs2 _), fun ρ C H E σ it n C' Q R eo hm k => ?_⟩
  obtain ⟨⟨ds, C1⟩, h1, hm⟩ := obind hm
  refine s ρ C H E σ ds C1 _ R eo h1 fun ρ1 H1 v1 R1 s1 d1 => ?_
  simp only at hm
  unfold iRng2D at hm
  split at hm
  · rename_i iv jv
    split at hm
    · rename_i hj
      cases hm
      cases d1 with | cons dh dt => cases dh; cases dt with | cons dh dt => cases dh; cases dt; exact ⟨_, _, rfl, hj, k ρ1 H1 _ R1 s1 itOk_rng⟩
    · cases hm
  · cases hm
def strD (x : Str) : List D := x.cps.toList.map fun c => D.str ⟨#[c]⟩
def iStrD (d : D) (C : Hm) : Option (Itm × Nat × Hm) := match d with
  | .str x => some (.seq (strD x), x.cps.size, C)
  | _ => none
def mIStr (m : ME) : MI := fun E C => (m E C).bind fun p => iStrD p.1 p.2
theorem itOk_str {ρ : List Addr} {H : Hp} {x : Str} : ItOk F ρ H (.seq (strD x)) (Its x) := by
  intro ρ1 H1 C1 R1 s1 i r hr
  simp only [Itm.at, Option.some.injEq] at hr
  subst hr
  by_cases hi : i < x.cps.size
  · have : (strD x)[i]? = some (.str ⟨#[x.cps[i]]⟩) := by simp [strD, hi]
    rw [this]
    refine ⟨hi, fun w H' hy => ?_⟩
    obtain ⟨rfl, c, hc, rfl⟩ := hy
    have : x.cps[i] = c := by simpa [hi] using hc
    rw [this]
    exact ⟨R1, .refl, .str _⟩
  · have : (strD x)[i]? = none := by simp [strD]; omega
    rw [this]
    exact Nat.le_of_not_lt hi
theorem si_str (hl : SE F iter me) : SI F tg iter (mIStr me) := by
  obtain ⟨t, q, s⟩ := hl
  refine ⟨iStr t, fun X h => pi_str (q X h), fun ρ C H E σ it n C' Q R eo hm k => ?_⟩
  obtain ⟨⟨x, C1⟩, h1, hm⟩ := obind hm
  refine s ρ C H E σ x C1 _ R eo h1 fun ρ1 H1 v1 R1 s1 d1 => ?_
  simp only at hm
  unfold iStrD at hm
  split at hm
  · cases hm
    cases d1
    exact ⟨_, rfl, k ρ1 H1 _ R1 s1 itOk_str⟩
  · cases hm
/-! ## any sequence -/
def iAnyD (d : D) (C : Hm) : Option (Itm × Nat × Hm) := match d with
  | .tup ds => some (.seq ds, ds.length, C)
  | .str x => some (.seq (strD x), x.cps.size, C)
  | .cell n => match C[n]? with | some (.lst ds) => some (.live n, ds.length, C) | _ => none
  | .scr ns => some (.seq (ns.map D.int), ns.length, C)
  | .rol ds => some (.seq ds, ds.length, C)
  | _ => none
def mIAny (m : ME) : MI := fun E C => (m E C).bind fun p => iAnyD p.1 p.2
def iAnyR (K : PySem.W.Frag) (tl : TE) : TI := fun σ H R => tl σ H fun x H1 => (∃ a, x = .ref a ∧ (∃ xs, SqT K H1 a xs) ∧ R (Itt K a) H1) ∨ (∃ a, x = .ref a ∧ (∃ xs, SqL K H1 a xs) ∧ R (Itl K a) H1) ∨ ∃ z, x = .str z ∧ R (Its z) H1
/-- a value that is walked, whatever its kind: by the three rules at a name that holds it -/
theorem pi_any {X : Cx} {l : Expr} {tl : TE} (hl : PE X l tl) : PI X tg l (iAnyR X.K tl) := by
  constructor
  intro pins s σ H R I h
  refine thn (hl.run pins s σ H _ I h) fun v s1 hv => ?_
  obtain ⟨x, H1, I1, r1, q1⟩ := hv
  have pushed : ∀ (o : Obj), Inv X pins σ H1 { s1 with heap := s1.heap.push o } := fun o => I1.kept (t' := s1.toks) fun b u e => Heap.get?_push_of_some _ e
  have own : ∀ b ∈ [s1.heap.objs.size], FpOk X pins H1 b := fun b hb => by
    obtain rfl : b = s1.heap.objs.size := by simpa using hb
    exact I1.fpOk (Nat.le_refl _) I1.fresh
  rcases q1 with ⟨a, rfl, ⟨xs, hq⟩, q⟩ | ⟨a, rfl, ⟨xs, hq⟩, q⟩ | ⟨z, rfl, q⟩
  · obtain rfl : v = Value.ref a := r1
    obtain ⟨its, rv, p, hz⟩ := I1.tuple hq
    exact wpAny_pyIter_tuple (show s1.heap.IsTuple a its.toArray from p) ⟨_, [s1.heap.objs.size], _, _, H1, rfl, pushed _, turn_tuple a _, ⟨_, Heap.get?_push_size _ rfl, rfl, rfl⟩, own, q⟩
  · obtain rfl : v = Value.ref a := r1
    obtain ⟨its, rv, p, hz⟩ := I1.list hq
    exact wpAny_pyIter_list p.isList ⟨_, [s1.heap.objs.size], _, _, H1, rfl, pushed _, turn_list a _, ⟨_, Heap.get?_push_size _ rfl, rfl, rfl⟩, own, q⟩
  · obtain ⟨t, rfl⟩ := (show ∃ t, v = Value.str z t from r1)
    by_cases small : z.cps.all (· < 128) = true
    · exact wpAny_pyIter_ascii small (pi_one (tk := s1.toks) I1 _ (turn_str _ z t _ (.inl rfl)) ⟨_, Heap.get?_push_size _ rfl, rfl, rfl⟩ q)
    · exact wpAny_pyIter_wide (by simpa using small) (pi_one (tk := s1.toks) I1 _ (turn_str _ z t _ (.inr rfl)) ⟨_, Heap.get?_push_size _ rfl, rfl, rfl⟩ q)
theorem itOk_live {ρ : List Addr} {H : Hp} {n : Nat} {a : Addr} (ha : ρ[n]? = some a) : ItOk F ρ H (.live n) (Itl F.K a) := by
  intro ρ2 H2 C2 R2 s2 i r hr
  simp only [Itm.at] at hr
  split at hr
  · rename_i ds2 qc2
    cases hr
    obtain ⟨a2, vs2, e5, ea2, e6, e7⟩ := R2.lst qc2 (.cell (s2.get ha))
    cases e5
    cases qq : ds2[i]? with
    | none => exact ⟨vs2, SqL.of e6, by rw [← e7.length]; exact List.getElem?_eq_none_iff.mp qq⟩
    | some x =>
      obtain ⟨v, e8, e9⟩ := e7.get qq
      refine ⟨⟨vs2, v, SqL.of e6, e8⟩, fun w H' hy => ?_⟩
      obtain ⟨rfl, hy⟩ := hy
      have := hy vs2 (SqL.of e6)
      rw [e8] at this
      cases this
      exact ⟨R2, .refl, e9⟩
  · cases hr
theorem itOk_scr {ρ : List Addr} {H : Hp} {ns : List Int} {a : Addr} (h : SqR F.K H a (ns.map V.int)) : ItOk F ρ H (.seq (ns.map D.int)) (Itl F.K a) := by
  intro ρ2 H2 C2 R2 s2 i r hr
  simp only [Itm.at, Option.some.injEq] at hr
  have h2 := (s2.sqR h).1
  subst hr
  have e7 : DVsF F ρ2 H2 (ns.map D.int) (ns.map V.int) := DVs.ints ns
  cases qq : (ns.map D.int)[i]? with
  | none => exact ⟨_, h2, by rw [← e7.length]; exact List.getElem?_eq_none_iff.mp qq⟩
  | some x =>
    obtain ⟨v, e8, e9⟩ := e7.get qq
    refine ⟨⟨_, v, h2, e8⟩, fun w H' hy => ?_⟩
    obtain ⟨rfl, hy⟩ := hy
    have := hy _ h2
    rw [e8] at this
    cases this
    exact ⟨R2, .refl, e9⟩
theorem itOk_rol {ρ : List Addr} {H : Hp} {ds : List D} {vs : List V} {a : Addr} {o : Obj} (h : H a = some (.frz o (.lst vs))) (hd0 : DVsF F ρ H ds vs) : ItOk F ρ H (.seq ds) (Itl F.K a) := by
  intro ρ2 H2 C2 R2 s2 i r hr
  simp only [Itm.at, Option.some.injEq] at hr
  have h2 : SqL F.K H2 a vs := .inl (.inr ⟨_, s2.frzs _ _ _ h⟩)
  subst hr
  have e7 := DVs.monoW s2 hd0
  cases qq : ds[i]? with
  | none => exact ⟨_, h2, by rw [← e7.length]; exact List.getElem?_eq_none_iff.mp qq⟩
  | some x =>
    obtain ⟨v, e8, e9⟩ := e7.get qq
    refine ⟨⟨_, v, h2, e8⟩, fun w H' hy => ?_⟩
    obtain ⟨rfl, hy⟩ := hy
    have := hy _ h2
    rw [e8] at this
    cases this
    exact ⟨R2, .refl, e9⟩
theorem si_any (hl : SE F iter me) : SI F tg iter (mIAny me) := by
  obtain ⟨t, q, s⟩ := hl
  refine ⟨iAnyR F.K t, fun X h => by have z := pi_any (tg := tg) (q X h); rw [h.K] at z; exact z, fun ρ C H E σ it n C' Q R eo hm k => ?_⟩
  obtain ⟨⟨x, C1⟩, h1, hm⟩ := obind hm
  refine s ρ C H E σ x C1 _ R eo h1 fun ρ1 H1 v1 R1 s1 d1 => ?_
  simp only at hm
  unfold iAnyD at hm
  split at hm
  · cases hm
    cases d1 with
    | tup hs hd => exact .inl ⟨_, rfl, ⟨_, hs⟩, k ρ1 H1 _ R1 s1 (itOk_tup hs hd fun _ _ _ _ _ => trivial)⟩
  · cases hm
    cases d1
    exact .inr (.inr ⟨_, rfl, k ρ1 H1 _ R1 s1 itOk_str⟩)
  · split at hm
    · rename_i ds qc
      cases hm
      obtain ⟨a, vs, rfl, ea, e3, e4⟩ := R1.lst qc d1
      exact .inr (.inl ⟨a, rfl, ⟨vs, SqL.of e3⟩, k ρ1 H1 _ R1 s1 (itOk_live ea)⟩)
    · cases hm
  · cases hm
    cases d1 with
    | scr h => exact .inr (.inl ⟨_, rfl, ⟨_, h.1⟩, k ρ1 H1 _ R1 s1 (itOk_scr h)⟩)
  · cases hm
    cases d1 with
    | rol h hd0 => exact .inr (.inl ⟨_, rfl, ⟨_, .inl (.inr ⟨_, h⟩)⟩, k ρ1 H1 _ R1 s1 (itOk_rol h hd0)⟩)
  · cases hm
/-! ## for, while -/
def forLoop (it : Itm) (tg : MG) (body : MS) : Nat → Nat → Ev → Hm → Option Out
  | 0, _, _, _ => none
  | fuel + 1, i, E, C => (it.at C i).bind fun r => match r with
    | none => some (.nx E C)
    | some x => (tg x E).bind fun E1 => (body E1 C).bind fun o => match o with
      | .nx E2 C2 => forLoop it tg body fuel (i + 1) E2 C2
      | .ct E2 C2 => forLoop it tg body fuel (i + 1) E2 C2
      | .bk E2 C2 => some (.nx E2 C2)
      | .rt d C2 => some (.rt d C2)
def mFor (src : MI) (tg : MG) (body : MS) : MS := fun E C => (src E C).bind fun p => forLoop p.1 tg body (p.2.1 + 1) 0 E p.2.2
theorem ss_for {src : MI} {g : MG} {slots : List Nat} (hi : SI F tg iter src) (hg : SG F tg slots g) (hb : SB F body ms) (hs : ∀ (env : Env) x, foldedSetIterable iter env x = pure x := by intro _ _; rfl) : SS F (.For tg iter body [] pos) (mFor src g ms) := by
  obtain ⟨wi, pi, si⟩ := hi
  obtain ⟨gg, pg, sg⟩ := hg
  obtain ⟨tb, pb, sb⟩ := hb
  refine ⟨tFor wi gg tb, fun X h => ps_for h.xe h.calm (pi X h) (pg X h) (pb X h) (hs _), fun ρ C H E σ o Z R eo hm k => ?_⟩
  obtain ⟨⟨it, n, C1⟩, h1, hm⟩ := obind hm
  refine si ρ C H E σ it n C1 _ R eo h1 fun ρ0 H0 J R0 s0 ok => ?_
  simp only at hm
  refine ⟨fun i m σ' Hc => ∃ ρ1 Cc E1, RelF F ρ1 Hc Cc ∧ Stp ρ0 H0 ρ1 Hc ∧ EnvF F ρ1 Hc E1 σ' ∧ forLoop it g ms m i E1 Cc = some o, ⟨_, ρ0, C1, E, R0, .refl, eo.mono s0, hm⟩, ?_⟩
  rintro i m σ' Hc ⟨ρ1, Cc, E1, R1, s1, eo1, hf⟩
  cases m with
  | zero => cases hf
  | succ fuel =>
    unfold forLoop at hf
    obtain ⟨r, e1, hf⟩ := obind hf
    have oki := ok ρ1 Hc Cc R1 s1.wk i r e1
    cases r with
    | none =>
      cases hf
      exact .inl ⟨oki, k ρ1 Hc σ' R1 (s0.trans s1) eo1⟩
    | some x =>
      refine .inr ⟨oki.1, fun σ2 H2 => ∃ ρ2 C2 E2, RelF F ρ2 H2 C2 ∧ Stp ρ0 H0 ρ2 H2 ∧ EnvF F ρ2 H2 E2 σ2 ∧ forLoop it g ms fuel (i + 1) E2 C2 = some o, fun σ2 H2 z => ⟨fuel, Nat.lt_succ_self _, z⟩, fun v H' hy => ?_⟩
      obtain ⟨R2, s2, dv⟩ := oki.2 v H' hy
      obtain ⟨E2, e2, hf⟩ := obind hf
      obtain ⟨o1, e3, hf⟩ := obind hf
      refine sg ρ1 Cc H' E1 σ' x v E2 _ R2 (eo1.mono s2) dv e2 fun σ3 eo3 _ => ?_
      refine sb ρ1 Cc H' E2 σ3 o1 _ R2 eo3 e3 ?_
      have s3 := s1.trans s2
      cases o1 with
      | nx E4 C4 => exact fun ρ4 H4 σ4 R4 s4 eo4 => ⟨ρ4, C4, E4, R4, s3.trans s4, eo4, hf⟩
      | ct E4 C4 => exact fun ρ4 H4 σ4 R4 s4 eo4 => ⟨ρ4, C4, E4, R4, s3.trans s4, eo4, hf⟩
      | bk E4 C4 => cases hf; exact fun ρ4 H4 σ4 R4 s4 eo4 => k ρ4 H4 σ4 R4 ((s0.trans s3).trans s4) eo4
      | rt d C4 => cases hf; exact fun ρ4 H4 v4 R4 s4 d4 => k ρ4 H4 v4 R4 ((s0.trans s3).trans s4) d4
def whLoop (c : MT) (body : MS) : Nat → Ev → Hm → Option Out
  | 0, _, _ => none
  | fuel + 1, E, C => (c E C).bind fun p => if p.1 = true then (body E p.2).bind fun o => match o with
      | .nx E2 C2 => whLoop c body fuel E2 C2
      | .ct E2 C2 => whLoop c body fuel E2 C2
      | .bk E2 C2 => some (.nx E2 C2)
      | .rt d C2 => some (.rt d C2)
    else some (.nx E p.2)
theorem ss_while (n : Nat) (hc : ST F c mt) (hb : SB F body ms) : SS F (.While c body [] pos) (whLoop mt ms n) := by
  obtain ⟨tc, pc, sc⟩ := hc
  obtain ⟨tb, pb, sb⟩ := hb
  refine ⟨tWhile tc tb, fun X h => ps_while h.xe (pc X h) (pb X h), fun ρ C H E σ o Z R eo hm k => ?_⟩
  refine ⟨fun m σ' Hc => ∃ ρ1 Cc E1, RelF F ρ1 Hc Cc ∧ Stp ρ H ρ1 Hc ∧ EnvF F ρ1 Hc E1 σ' ∧ whLoop mt ms m E1 Cc = some o, ⟨n, ρ, C, E, R, .refl, eo, hm⟩, ?_⟩
  rintro m σ' Hc ⟨ρ1, Cc, E1, R1, s1, eo1, hf⟩
  cases m with
  | zero => cases hf
  | succ fuel =>
    unfold whLoop at hf
    obtain ⟨⟨b, C2⟩, e1, hf⟩ := obind hf
    refine sc ρ1 Cc Hc E1 σ' b C2 _ R1 eo1 e1 fun ρ2 H2 R2 s2 => ?_
    cases b with
    | false => cases hf; exact k ρ2 H2 σ' R2 (s1.trans s2) (eo1.mono s2)
    | true =>
      refine ⟨fun σ2 H2 => ∃ ρ2 C2 E2, RelF F ρ2 H2 C2 ∧ Stp ρ H ρ2 H2 ∧ EnvF F ρ2 H2 E2 σ2 ∧ whLoop mt ms fuel E2 C2 = some o, fun σ2 H2 z => ⟨fuel, Nat.lt_succ_self _, z⟩, ?_⟩
      obtain ⟨o1, e3, hf⟩ := obind (show (ms E1 C2).bind _ = some o from hf)
      refine sb ρ2 C2 H2 E1 σ' o1 _ R2 (eo1.mono s2) e3 ?_
      have s3 := s1.trans s2
      cases o1 with
      | nx E4 C4 => exact fun ρ4 H4 σ4 R4 s4 eo4 => ⟨ρ4, C4, E4, R4, s3.trans s4, eo4, hf⟩
      | ct E4 C4 => exact fun ρ4 H4 σ4 R4 s4 eo4 => ⟨ρ4, C4, E4, R4, s3.trans s4, eo4, hf⟩
      | bk E4 C4 => cases hf; exact fun ρ4 H4 σ4 R4 s4 eo4 => k ρ4 H4 σ4 R4 (s3.trans s4) eo4
      | rt d C4 => cases hf; exact fun ρ4 H4 v4 R4 s4 d4 => k ρ4 H4 v4 R4 (s3.trans s4) d4
/-! ## list comprehensions -/
def wipeE (E : Ev) : List Nat → Ev
  | [] => E
  | v :: vs => (wipeE E vs).set v none
theorem EnvOk.wipe {K : PySem.W.Frag} {ft : Cfg} {ρ : List Addr} {H : Hp} {E : Ev} {σ : L2.St} (h : EnvOk K ft ρ H E σ) : ∀ vs, EnvOk K ft ρ H (wipeE E vs) (L2.wipe σ vs)
  | [] => h
  | v :: vs => by
    have ih := EnvOk.wipe h vs
    refine ⟨by simp [wipeE, L2.wipe, ih.len], fun j z e => ?_⟩
    unfold wipeE at e
    by_cases hj : v = j
    · subst hj
      have hl : v < (wipeE E vs).length := by
        have := (List.getElem?_eq_some_iff.mp e).1
        simpa using this
      rw [List.getElem?_set_self hl] at e
      cases e
    · rw [List.getElem?_set_ne hj] at e
      obtain ⟨w, q1, q2⟩ := ih.at_ j z e
      exact ⟨w, by unfold L2.wipe; rw [List.getElem?_set_ne hj]; exact q1, q2⟩
theorem wipe_idem (σ : L2.St) : ∀ vs : List Nat, L2.wipe (L2.wipe σ vs) vs = L2.wipe σ vs := by
  have key : ∀ (vs : List Nat) (τ : L2.St), (∀ i ∈ vs, i < τ.length → τ[i]? = some none) → L2.wipe τ vs = τ := by
    intro vs
    induction vs with
    | nil => intro τ _; rfl
    | cons v vs ih =>
      intro τ h
      unfold L2.wipe
      rw [ih τ fun i hi hl => h i (List.mem_cons_of_mem _ hi) hl]
      apply List.ext_getElem?
      intro j
      by_cases hj : v = j
      · subst hj
        by_cases hl : v < τ.length
        · rw [List.getElem?_set_self hl, h v List.mem_cons_self hl]
        · rw [List.getElem?_eq_none (by simp; omega), List.getElem?_eq_none (by omega)]
      · rw [List.getElem?_set_ne hj]
  have wn : ∀ (vs : List Nat) (i : Nat), i ∈ vs → i < σ.length → (L2.wipe σ vs)[i]? = some none := by
    intro vs
    induction vs with
    | nil => intro i h; simp at h
    | cons v vs ih =>
      intro i hi hl
      unfold L2.wipe
      by_cases hv : v = i
      · subst hv; rw [List.getElem?_set_self (by rw [wipe_length]; exact hl)]
      · rw [List.getElem?_set_ne hv]
        rcases List.mem_cons.mp hi with e | e
        · exact absurd e.symm hv
        · exact ih i e hl
  intro vs
  exact key vs _ fun i hi hl => wn vs i hi (by rw [wipe_length] at hl; exact hl)
def lcLoop (it : Itm) (tg : MG) (tt : MT) (elt : ME) (E : Ev) : Nat → Nat → List D → Hm → Option (List D × Hm)
  | 0, _, _, _ => none
  | fuel + 1, i, acc, C => (it.at C i).bind fun r => match r with
    | none => some (acc, C)
    | some x => (tg x E).bind fun E1 => (tt E1 C).bind fun p => if p.1 = true then (elt E1 p.2).bind fun q => if acc.length < sizeLine then lcLoop it tg tt elt E fuel (i + 1) (acc ++ [q.1]) q.2 else none
      else lcLoop it tg tt elt E fuel (i + 1) acc p.2
def mLc (src : MI) (tg : MG) (tt : MT) (elt : ME) (vs : List Nat) : ME := fun E C => (src E C).bind fun p => (lcLoop p.1 tg tt elt (wipeE E vs) (p.2.1 + 1) 0 [] p.2.2).bind fun q => some (.cell q.2.length, q.2 ++ [.lst q.1])
def SPT (F : Fm) (ifs : List Expr) (m : MT) : Prop := ∃ t, (∀ X, F.Is X → PTs X ifs t) ∧ EvT F t m
def mYes : MT := fun _ C => some (true, C)
theorem spt_nil : SPT F [] mYes := ⟨_, fun _ _ => pts_nil, fun ρ C H E σ b C' Q R eo hm k => by cases hm; exact k ρ H R .refl⟩
theorem spt_one (h : ST F c mt) : SPT F [c] mt := let ⟨t, p, s⟩ := h; ⟨_, fun X i => pts_one (p X i), s⟩
theorem Rel.other {K : PySem.W.Frag} {ft : Cfg} {ρ : List Addr} {H : Hp} {C : Hm} {P : Addr} {vs : List V} {o : HO} (R : Rel K ft ρ H C) (hP : P ∉ ρ) (e : H P = some (.lst vs)) : Rel K ft ρ (upd H P o) C ∧ Wk ρ H ρ (upd H P o) := by
  have w : Wk ρ H ρ (upd H P o) := ⟨fun h => h, fun b xs q => by rw [upd_ne (show b ≠ P from fun z => by rw [z, e] at q; cases q)]; exact q, fun b ob u q => by rw [upd_ne (show b ≠ P from fun z => by rw [z, e] at q; cases q)]; exact q⟩
  refine ⟨⟨R.len, R.nd, fun n c q => ?_⟩, w⟩
  obtain ⟨a, ha, k⟩ := R.ok n c q
  have ne : a ≠ P := fun z => hP (z ▸ List.mem_of_getElem? ha)
  refine ⟨a, ha, ?_⟩
  cases c with
  | lst ds => obtain ⟨ws, q, r⟩ := k; exact ⟨ws, (upd_ne ne).trans q, DVs.monoW w r⟩
  | dic ks => obtain ⟨ws, q, r⟩ := k; exact ⟨ws, (upd_ne ne).trans q, Paired.mapP r fun p q z => ⟨z.1, DV.monoW w z.2⟩⟩
  | dix ks => obtain ⟨es, q, r⟩ := k; exact ⟨es, (upd_ne ne).trans q, r.monoW w⟩
  | dxl ks => obtain ⟨es, o, q, r⟩ := k; exact ⟨es, o, (upd_ne ne).trans q, r.monoW w⟩
  | tab n => exact ⟨k.1, k.2.upd e code_lst ne⟩
end
section
variable {F : Fm} {tg iter elt : Expr} {ifs : List Expr} {scope : Scope} {own : List (Str × Nat)} {src : MI} {g : MG} {mt : MT} {me : ME} {slots : List Nat} {pos : Pos}
theorem evl_lc {wi : TI} {gg : TG} {tt : TT} {te : TE} (si : ∀ ρ C H E σ it n C' R, RelF F ρ H C → EnvF F ρ H E σ → src E C = some (it, n, C') → (∀ ρ' H' J, RelF F ρ' H' C' → Stp ρ H ρ' H' → ItOk F ρ' H' it J → R J H') → wi σ H R)
    (sg : EvG F gg slots g) (st : EvT F tt mt) (se : EvE F te me) (vs : List Nat) (hsl : ∀ i ∈ slots, i ∈ vs) : EvE F (tLc wi gg tt te vs) (mLc src g mt me vs) := by
  intro ρ C H E σ d C' Q R eo hm k
  obtain ⟨⟨it, n, C1⟩, h1, hm⟩ := obind hm
  obtain ⟨⟨accF, CF⟩, h2, hm⟩ := obind hm
  cases hm
  simp only at h2
  refine si ρ C H E σ it n C1 _ R eo h1 fun ρ0 H0 J R0 s0 ok => ?_
  intro P hP
  have outP : ∀ {ρ1 Hc}, Stp ρ0 H0 ρ1 Hc → P ∉ ρ1 → ∀ {o}, Stp ρ0 H0 ρ1 (upd Hc P o) := fun {ρ1 Hc} s hp {o} => by
    have ne : ∀ b u, H0 b = some u → b ≠ P := fun b u e z => by rw [z, hP] at e; cases e
    exact ⟨s.pre, fun b u e hb => by rw [upd_ne (ne b u e)]; exact s.keep b u e hb, fun b u e => by rw [upd_ne (ne b u e)]; exact s.there b u e, fun b u e => by rw [upd_ne (ne _ _ e)]; exact s.tups b u e, fun b u w e => by rw [upd_ne (ne _ _ e)]; exact s.frzs b u w e⟩
  refine ⟨fun i m Hc => ∃ ρ1 Cc accD accV, RelF F ρ1 Hc Cc ∧ P ∉ ρ1 ∧ Stp ρ0 H0 ρ1 Hc ∧ Hc P = some (.lst accV) ∧ DVsF F ρ1 Hc accD accV ∧ lcLoop it g mt me (wipeE E vs) m i accD Cc = some (accF, CF),
    ⟨n + 1, ρ0, C1, [], [], R0.fresh hP, R0.out hP, Stp.fresh hP, upd_same, .nil, h2⟩, ?_⟩
  rintro i m Hc ⟨ρ1, Cc, accD, accV, R1, nP, s1, eP, dA, hf⟩
  cases m with
  | zero => cases hf
  | succ fuel =>
    unfold lcLoop at hf
    obtain ⟨r, e1, hf⟩ := obind hf
    have oki := ok ρ1 Hc Cc R1 s1.wk i r e1
    cases r with
    | none =>
      cases hf
      refine .inl ⟨oki, k (ρ1 ++ [P]) Hc (.ref P) (R1.push nP ⟨accV, eP, dA⟩) ?_ (DV.new R1)⟩
      have s := s0.trans s1
      obtain ⟨t, e, ht⟩ := s.pre
      refine ⟨⟨t ++ [P], by rw [e, List.append_assoc], fun b hb => ?_⟩, s.keep, s.there, s.tups, s.frzs⟩
      rcases List.mem_append.mp hb with z | z
      · exact ht b z
      · have z : b = P := by simpa using z
        subst z
        cases q : H b with
        | none => rfl
        | some u => obtain ⟨u', q'⟩ := s0.there b u q; rw [hP] at q'; cases q'
    | some x =>
      refine .inr ⟨oki.1, fun H2 => ∃ ρ2 C2 accD accV, RelF F ρ2 H2 C2 ∧ P ∉ ρ2 ∧ Stp ρ0 H0 ρ2 H2 ∧ H2 P = some (.lst accV) ∧ DVsF F ρ2 H2 accD accV ∧ lcLoop it g mt me (wipeE E vs) fuel (i + 1) accD C2 = some (accF, CF), fun H2 z => ⟨fuel, Nat.lt_succ_self _, z⟩, fun v H' hy => ?_⟩
      obtain ⟨R2, s2, dv⟩ := oki.2 v H' hy
      obtain ⟨E2, e2, hf⟩ := obind hf
      obtain ⟨⟨b, C3⟩, e3, hf⟩ := obind hf
      have eo2 : EnvF F ρ1 H' (wipeE E vs) (L2.wipe σ vs) := (eo.wipe vs).mono ((s0.trans s1).trans s2)
      have keepP : ∀ {ρa Ha ρb Hb accV}, Stp ρa Ha ρb Hb → P ∉ ρa → Ha P = some (.lst accV) → P ∉ ρb ∧ Hb P = some (.lst accV) := fun {ρa Ha ρb Hb accV} s hn e => by
        refine ⟨fun z => ?_, s.keep _ _ e hn⟩
        obtain ⟨t, et, ht⟩ := s.pre
        rw [et] at z
        rcases List.mem_append.mp z with z | z
        · exact hn z
        · rw [ht _ z] at e; cases e
      obtain ⟨nP2, eP2⟩ := keepP s2 nP eP
      refine sg ρ1 Cc H' (wipeE E vs) (L2.wipe σ vs) x v E2 _ R2 eo2 dv e2 fun σ3 eo3 w3 => ?_
      refine ⟨by rw [w3 vs hsl, wipe_idem], ?_⟩
      refine st ρ1 Cc H' E2 σ3 b C3 _ R2 eo3 e3 fun ρ3 H3 R3 s3 => ?_
      obtain ⟨nP3, eP3⟩ := keepP s3 nP2 eP2
      cases b with
      | false =>
        exact ⟨ρ3, C3, accD, accV, R3, nP3, (s1.trans s2).trans s3, eP3, (dA.mono s2).mono s3, hf⟩
      | true =>
        obtain ⟨⟨y, C4⟩, e4, hf⟩ := obind (show (me E2 C3).bind _ = some (accF, CF) from hf)
        simp only at hf
        split at hf
        · rename_i hlen
          refine se ρ3 C3 H3 E2 σ3 y C4 _ R3 (eo3.mono s3) e4 fun ρ4 H4 v4 R4 s4 d4 => ?_
          obtain ⟨nP4, eP4⟩ := keepP s4 nP3 eP3
          have dA4 : DVsF F ρ4 H4 accD accV := ((dA.mono s2).mono s3).mono s4
          refine ⟨accV, eP4, by rw [← dA4.length]; exact hlen, ?_⟩
          obtain ⟨R5, w5⟩ := R4.other nP4 eP4 (o := .lst (accV ++ [v4]))
          exact ⟨ρ4, C4, accD ++ [y], accV ++ [v4], R5, nP4, outP (((s1.trans s2).trans s3).trans s4) nP4, upd_same, DVs.monoW w5 (dA4.append (.cons d4 .nil)), hf⟩
        · cases hf
theorem se_lc (own : List (Str × Nat)) (hi : SI F tg iter src) (ok : BlkOk F.N F.sc scope own) (hg : SG (F.blk scope) tg slots g) (ht : SPT (F.blk scope) ifs mt) (he : SE (F.blk scope) elt me) (hsl : ∀ i ∈ slots, i ∈ own.map (·.2) := by decide)
    (hs : ∀ (env : Env) x, foldedSetIterable iter env x = pure x := by intro _ _; rfl) : SE F (.ListComp elt [⟨tg, iter, ifs, 0⟩] scope pos) (mLc src g mt me (own.map (·.2))) := by
  obtain ⟨wi, pi, si⟩ := hi
  obtain ⟨gg, pg, sg⟩ := hg
  obtain ⟨tt, pt, st⟩ := ht
  obtain ⟨te, pe, se⟩ := he
  refine ⟨tLc wi gg tt te (own.map (·.2)), fun X h => ?_, evl_lc si sg st se _ hsl⟩
  exact pe_lc h.calm h.nd (pi X h) (by rw [h.N, h.sc]; exact ok) (fun _ _ _ _ _ => pg _ h.blk) (fun _ _ _ _ _ => pt _ h.blk) (fun _ _ _ _ _ => pe _ h.blk) (hs _)
theorem ss_setLc {x : Str} {py spos : Pos} (i : Nat) (own : List (Str × Nat)) (hsw : ∀ env : Env, env.scope = F.sc → swapsWith (.ListComp elt [⟨tg, iter, ifs, 0⟩] scope pos) (some (.Name x py)) spos.line env = pure true)
    (hi : SI F tg iter src) (ok : BlkOk F.N F.sc scope own) (hg : SG (F.blk scope) tg slots g) (ht : SPT (F.blk scope) ifs mt) (he : SE (F.blk scope) elt me) (hN : F.N[i]? = some x := by rfl) (hl : F.sc.names.lookup x = some .local := by rfl) (hsl : ∀ i ∈ slots, i ∈ own.map (·.2) := by decide)
    (hs : ∀ (env : Env) x, foldedSetIterable iter env x = pure x := by intro _ _; rfl) : SS F (.Assign [.Name x py] (.ListComp elt [⟨tg, iter, ifs, 0⟩] scope pos) spos) (mAsg (mLc src g mt me (own.map (·.2))) (gN i)) := by
  obtain ⟨wi, pi, si⟩ := hi
  obtain ⟨gg, pg, sg⟩ := hg
  obtain ⟨tt, pt, st⟩ := ht
  obtain ⟨te, pe, se⟩ := he
  refine ⟨tAsg (tLc wi gg tt te (own.map (·.2))) (gName i), fun X h => ?_, fun ρ C H E σ o Z R eo hm k => ?_⟩
  · exact ps_setLc h.calm h.nd (by rw [h.N]; exact hN) (by rw [h.sc]; exact hl) (hsw _ h.sc) (pi X h) (by rw [h.N, h.sc]; exact ok) (fun _ _ _ _ _ => pg _ h.blk) (fun _ _ _ _ _ => pt _ h.blk) (fun _ _ _ _ _ => pe _ h.blk) (hs _)
  · obtain ⟨⟨x, C1⟩, h1, hm⟩ := obind hm
    cases hm
    exact evl_lc si sg st se _ hsl ρ C H E σ x C1 _ R eo h1 fun ρ1 H1 v1 R1 s1 d1 => k ρ1 H1 _ R1 s1 ((eo.mono s1).set d1)
end
end Mi
set_option Elab.async false
set_option linter.all false
set_option maxRecDepth 100000
set_option maxHeartbeats 4000000
namespace Mi
open PySem PySem.Spec PyProof.Rows L2
/-! ## a def that is called where nothing is under way -/
abbrev SpG := List V → Hp → VK → Prop
structure FnG (P : Program) (w : World) (K : PySem.W.Frag) (mg : Str → Option Value) (base : Heap) (k : Nat) (f : Addr) (fd : FuncData) (ps : List Str) (sp : SpG) : Prop where
  len : ∀ vs H Q, sp vs H Q → vs.length = ps.length
  run : ∀ (A : Around) (outer : List Env) (s : Shared) (H : Hp) (args : Args) (us : List Value) (vs : List V) (Q : VK), Room k A → A.guards = some [] → Env0 P w K mg base A outer s H → BindsTo s fd args (ps.zip us) → Vals vs us → sp vs H Q →
    codeAny (model P w) A (.call (.ref f) args) (CR CX0 outer P w H s Q E0) s
/-- a mirror: what a def makes of data -/
abbrev MF := List D → Hm → Option (D × Hm)
def spM (K : PySem.W.Frag) (ft : Cfg) (n : Nat) (m : MF) : SpG := fun vs H Q => ∃ ρ C ds d C', Rel K ft ρ H C ∧ DVs K ft ρ H ds vs ∧ ds.length = n ∧ m ds C = some (d, C') ∧ ∀ ρ' H' v, Rel K ft ρ' H' C' → Stp ρ H ρ' H' → DV K ft ρ' H' d v → Q v H'
def mFn (n N : Nat) (body : MS) : MF := fun ds C => if ds.length = n then (body (ds.map some ++ List.replicate (N - n) none) C).bind fun o => match o with
  | .rt d C' => some (d, C')
  | .nx _ C' => some (.non, C')
  | _ => none else none
section
variable {P : Program} {w : World} {K : PySem.W.Frag} {mg : Str → Option Value} {base : Heap} {ft : Cfg}
theorem envOk_start {ρ : List Addr} {H : Hp} : ∀ {ds : List D} {vs : List V} {N : Nat}, DVs K ft ρ H ds vs → EnvOk K ft ρ H (ds.map some ++ List.replicate N none) (vs.map some ++ List.replicate N none)
  | ds, vs, N, h => by
    refine ⟨by simp [h.length], fun i d e => ?_⟩
    by_cases hi : i < ds.length
    · rw [List.getElem?_append_left (by simpa using hi), List.getElem?_map] at e
      cases q : ds[i]? with
      | none => rw [q] at e; cases e
      | some z =>
        rw [q] at e
        cases e
        obtain ⟨v, q1, q2⟩ := h.get q
        refine ⟨v, ?_, q2⟩
        rw [List.getElem?_append_left (by simpa [← h.length] using hi), List.getElem?_map, q1]
        rfl
    · rw [List.getElem?_append_right (by simpa using hi)] at e
      have := List.mem_of_getElem? e
      simp at this
/-- where the body of a def runs -/
def fmOf (P : Program) (w : World) (K : PySem.W.Frag) (mg : Str → Option Value) (base : Heap) (ft : Cfg) (st : Stmt) (N : List Str) (lv : Nat) : Fm := ⟨P, w, K, mg, base, ft, defScope st, N, lv, fun _ => true, none⟩
theorem fnG_of {x qual : Str} {st : Stmt} {f : Addr} {fd : FuncData} {N ps : List Str} {k : Nat} {m : MS} (F : Fun K x qual st f fd) (S : FnScope N ps (defScope st)) (hb : SB (fmOf P w K mg base ft st N k) (defBody st) m) :
    FnG P w K mg base (k + 1) f fd ps (spM K ft ps.length (mFn ps.length N.length m)) := by
  obtain ⟨t, pt, ev⟩ := hb
  refine ⟨fun vs H Q h => ?_, fun A outer s H args us vs Q hr hg e0 hbd r h => ?_⟩
  · obtain ⟨ρ, C, ds, d, C', _, h2, h3, _⟩ := h
    rw [← h2.length, h3]
  obtain ⟨oc, od, kV, doc, pm, an, cdv, ct, osl, rfl, lk, hcd⟩ := F.ex
  obtain ⟨ρ, C, ds, d, C', hR, hD, hl, hm, kk⟩ := h
  have hlv : vs.length = ps.length := by rw [← hD.length, hl]
  have inH : K.In s.heap := e0.mod.kin.keeps fun b o e => (e0.bs b o e).1
  have free : s.heap.NoLimit := e0.mod.nolimit.keeps fun b o e => (e0.bs b o e).1
  refine codeAny_call_function hr.depth (inH _ _ lk) rfl S.co S.gen rfl (PySem.W.codeRec_of inH hcd) (hbd _ _ _ _ ?_)
  refine wpAny_newFunctionEnv_cells S.kind (fun y hy => (S.par y.1 (List.of_mem_zip hy).1).elim .inl fun q => .inr ⟨q, PySem.W.cellsFrom_some _ _ _ (.inl q)⟩) fun env he s1 z => ?_
  subst he
  refine ⟨free.keeps z.toInCall.keep, codeAny_func ?_⟩
  have I := inv_start (CX := CX0) (E := E0) S hr.hd e0 hlv r z
  have is : (fmOf P w K mg base ft st N k).Is (cxOf CX0 P w K mg base N qual (defScope st) f cdv A outer s H E0).nox := ⟨rfl, rfl, rfl, rfl, rfl, rfl, rfl, rfl, S.nd, rfl, hg, hr.deeper _, PassesOwn.never, fun _ z => nomatch z⟩
  have env0 : EnvF (fmOf P w K mg base ft st N k) ρ H (ds.map some ++ List.replicate (N.length - ps.length) none) (L2.start N vs) := by
    unfold L2.start
    rw [hlv]
    exact envOk_start hD
  unfold mFn at hm
  rw [if_pos hl] at hm
  obtain ⟨o, ho, hm⟩ := obind hm
  have wish : t { nx := fun _ H' => Q .non H', rt := Q } (L2.start N vs) H := by
    refine ev ρ C H _ _ o _ hR env0 ho ?_
    cases o with
    | nx E2 C2 => cases hm; exact fun ρ' H' σ' R' s' _ => kk ρ' H' .non R' s' .non
    | rt d2 C2 => cases hm; exact fun ρ' H' v R' s' dv => kk ρ' H' v R' s' dv
    | bk E2 C2 => cases hm
    | ct E2 C2 => cases hm
  have run := (pt _ is).nox.run [] s1 (L2.start N vs) H _ I wish
  refine wpAny_mono run (fun fl s' hs => ?_) fun e s' hs => hs
  cases fl with
  | ret u => obtain ⟨v, σ', H', J, rv, q⟩ := hs; exact ⟨v, H', J.os, J.bare, J.base, J.hok, rv, q⟩
  | next => obtain ⟨σ', H', J, q⟩ := hs; exact ⟨.non, H', J.os, J.bare, J.base, J.hok, rfl, q⟩
  | brk => obtain ⟨_, _, _, q⟩ := hs; exact q.elim
  | cont => obtain ⟨_, _, _, q⟩ := hs; exact q.elim
theorem FnG.mono {j k : Nat} {f : Addr} {fd : FuncData} {ps : List Str} {sp : SpG} (F : FnG P w K mg base j f fd ps sp) (h : j ≤ k) : FnG P w K mg base k f fd ps sp := ⟨F.len, fun A outer s H args us vs Q hr => F.run A outer s H args us vs Q (hr.mono h)⟩
end
/-- the callee runs -/
theorem runG {X : Cx} {k : Nat} {f : Addr} {fd : FuncData} {ps : List Str} {sp : SpG} {ds : List Value} {dvs : List V} {pins : List (Addr × Obj)} {σ : L2.St} {H : Hp} {s : Shared} {Q : VK} {us : List Value} {vs : List V} (F : FnG X.prog X.w X.K X.mg X.base k f fd ps sp) (hr : Room k X.A) (hg : X.A.guards = some []) (hb : Binds X.K fd ps ds) (hd : Vals dvs ds)
    (I : Inv X pins σ H s) (r : Vals vs us) (h : sp (vs ++ dvs) H Q) : wpAny (model X.prog X.w) X.A (call (.ref f) us) (EP X pins σ Q) X.xe s := by
  have r2 := r.append hd
  have lenOk : (us ++ ds).length = ps.length := r2.length ▸ F.len _ _ _ h
  have go := F.run X.A X.stack s H ⟨us, []⟩ (us ++ ds) (vs ++ dvs) Q hr hg I.env0 (hb s us I.kIn lenOk) r2 h
  refine wpAny_call (codeAny_mono go fun r s' hq => ?_)
  match r, hq with
  | .ok (.ret u), hq => exact I.after hq
  | .ok .next, hq => exact (show False from hq).elim
  | .ok .brk, hq => exact (show False from hq).elim
  | .ok .cont, hq => exact (show False from hq).elim
  | .error e, hq => exact (show False from hq).elim
section
variable {F : Fm} {e : Expr} {es : List Expr} {pos p : Pos} {x : Str} {i : Nat} {ml : MA}
/-- a def called by its global name -/
structure Callee (P : Program) (w : World) (K : PySem.W.Frag) (mg : Str → Option Value) (base : Heap) (ft : Cfg) (x : Str) (n : Nat) (m : MF) (k : Nat) : Prop where
  ex : ∃ (f : Addr) (fd : FuncData) (ps : List Str) (ds : List Value) (dvs : List V) (dds : List D), mg x = some (.ref f) ∧ PySem.W.keepIn K (.ref f) = true ∧ Binds K fd ps ds ∧ Vals dvs ds ∧ (∀ ρ H, DVs K ft ρ H dds dvs) ∧
    ∃ m0 : MF, FnG P w K mg base k f fd ps (spM K ft ps.length m0) ∧ n + dds.length = ps.length ∧ ∀ xs C, xs.length = n → m0 (xs ++ dds) C = m xs C
def mCall (m : MF) (ml : MA) : ME := fun E C => (ml E C).bind fun q => m q.1 q.2
def tCallG (sp : SpG) (dvs : List V) (t : TA) : TE := fun σ H Q => t σ H fun vs H1 => sp (vs ++ dvs) H1 Q
theorem pe_callG {X : Cx} {k : Nat} {f : Addr} {fd : FuncData} {ps : List Str} {sp : SpG} {ds : List Value} {dvs : List V} {t : TA} (G : FnG X.prog X.w X.K X.mg X.base k f fd ps sp) (hr : Room k X.A) (hgu : X.A.guards = some []) (hg : Gl X x) (hm : X.mg x = some (.ref f)) (hk : PySem.W.keepIn X.K (.ref f) = true) (hb : Binds X.K fd ps ds) (hd : Vals dvs ds)
    (ha : PA X (e :: es) t) (hdb : (x == ("__debug__" : Str)) = false) (he : starEach (e :: es) X.env = (false, eval e X.env) :: starEach es X.env) (hpl : (backTo pos (starEach es X.env)).any (·.1) = false) : PE X (.Call (.Name x p) (e :: es) [] pos) (tCallG sp dvs t) := by
  constructor
  intro pins s σ H Q I h
  have inner := thn (ha.run pos pins s σ H _ I h) (Q' := fun us s1 => X.K.In s1.heap ∧ wpAny (model X.prog X.w) X.A (call (.ref f) us) (EP X pins σ Q) X.xe s1) fun us s1 ⟨vs, H1, I1, r, q⟩ => ⟨I1.kIn, runG G hr hgu hb hd I1 r q⟩
  exact wpAny_Call_Name_kw (ld_glob I hg hm (PySem.W.callWith_K (h₀ := X.base) I.ok.mod.kin hk inner he hpl) hdb)
theorem pe_callG0 {X : Cx} {k : Nat} {f : Addr} {fd : FuncData} {ps : List Str} {sp : SpG} {ds : List Value} {dvs : List V} (G : FnG X.prog X.w X.K X.mg X.base k f fd ps sp) (hr : Room k X.A) (hgu : X.A.guards = some []) (hg : Gl X x) (hm : X.mg x = some (.ref f)) (hk : PySem.W.keepIn X.K (.ref f) = true) (hb : Binds X.K fd ps ds) (hd : Vals dvs ds)
    (hdb : (x == ("__debug__" : Str)) = false) : PE X (.Call (.Name x p) [] [] pos) (tCallG sp dvs tNil) := by
  constructor
  intro pins s σ H Q I h
  exact wpAny_Call_Name_kw (ld_glob I hg hm (PySem.W.callWith_K0 I.kIn hk (runG (us := []) G hr hgu hb hd I .nil h)) hdb)
theorem evA_call {t : TA} {m m0 : MF} {n : Nat} {ps : List Str} {dvs : List V} {dds : List D} (sl : EvA F t ml) (hn : n + dds.length = ps.length) (hd : ∀ ρ H, DVsF F ρ H dds dvs) (hmm : ∀ xs C, xs.length = n → m0 (xs ++ dds) C = m xs C) (hlen : ∀ E C q, ml E C = some q → q.1.length = n) :
    EvE F (tCallG (spM F.K F.ft ps.length m0) dvs t) (mCall m ml) := by
  intro ρ C H E σ d C' Q R eo hm k
  obtain ⟨⟨xs, C1⟩, h1, hm⟩ := obind hm
  have hl := hlen _ _ _ h1
  refine sl ρ C H E σ xs C1 _ R eo h1 fun ρ1 H1 vs R1 s1 d1 => ?_
  refine ⟨ρ1, C1, xs ++ dds, d, C', R1, d1.append (hd ρ1 H1), by simp [hl, hn], by rw [hmm xs C1 hl]; exact hm, fun ρ' H' v R' s' dv => k ρ' H' v R' (s1.trans s') dv⟩
theorem se_call {n : Nat} {m : MF} (k : Nat) (c : Callee F.prog F.w F.K F.mg F.base F.ft x n m k) (ha : SA F (e :: es) ml) (hlen : ∀ E C q, ml E C = some q → q.1.length = n) (hk : k ≤ F.lv := by exact Nat.le_of_ble_eq_true rfl) (hg : F.sc.names.lookup x = some .globalImplicit := by rfl) (hdb : (x == ("__debug__" : Str)) = false := by decide)
    (he : ∀ env : Env, starEach (e :: es) env = (false, eval e env) :: starEach es env := by intro _; rfl) (hpl : ∀ env : Env, (backTo pos (starEach es env)).any (·.1) = false := by intro _; rfl) : SE F (.Call (.Name x p) (e :: es) [] pos) (mCall m ml) := by
  obtain ⟨f, fd, ps, ds, dvs, dds, hm, hkp, hb, hd, hdd, m0, G, hn, hmm⟩ := c.ex
  obtain ⟨t, pt, st⟩ := ha
  refine ⟨tCallG (spM F.K F.ft ps.length m0) dvs t, fun X h => ?_, evA_call st hn hdd hmm hlen⟩
  exact pe_callG (by rw [h.prog, h.w, h.K, h.mg, h.base]; exact G) (h.rm.mono hk) h.gu (h.gl hg) (by rw [h.mg]; exact hm) (by rw [h.K]; exact hkp) (by rw [h.K]; exact hb) hd (pt X h) hdb (he _) (hpl _)
theorem se_call0 {m : MF} (k : Nat) (c : Callee F.prog F.w F.K F.mg F.base F.ft x 0 m k) (hk : k ≤ F.lv := by exact Nat.le_of_ble_eq_true rfl) (hg : F.sc.names.lookup x = some .globalImplicit := by rfl) (hdb : (x == ("__debug__" : Str)) = false := by decide) : SE F (.Call (.Name x p) [] [] pos) (mCall m mNil) := by
  obtain ⟨f, fd, ps, ds, dvs, dds, hm, hkp, hb, hd, hdd, m0, G, hn, hmm⟩ := c.ex
  refine ⟨tCallG (spM F.K F.ft ps.length m0) dvs tNil, fun X h => ?_, evA_call (F := F) (fun ρ C H E σ d C' Q R eo hm k => by cases hm; exact k ρ H [] R .refl .nil) hn hdd hmm (fun E C q h => by cases h; rfl)⟩
  exact pe_callG0 (by rw [h.prog, h.w, h.K, h.mg, h.base]; exact G) (h.rm.mono hk) h.gu (h.gl hg) (by rw [h.mg]; exact hm) (by rw [h.K]; exact hkp) (by rw [h.K]; exact hb) hd hdb
/-! ## calls that keep the cells apart -/
mutual
/-- every cell within is below n, no def within -/
def D.bnd (n : Nat) : D → Bool
  | .non | .bl _ | .int _ | .str _ | .fn _ | .scr _ | .ty _ => true
  | .cell k => decide (k < n)
  | .tup ds => bnds n ds
  | .rol ds => bnds n ds
def bnds (n : Nat) : List D → Bool
  | [] => true
  | d :: ds => d.bnd n && bnds n ds
end
def Cell.bnd (n : Nat) : Cell → Bool
  | .lst ds => bnds n ds
  | .dic kvs => kvs.all fun p => p.2.bnd n
  | .dix kvs => kvs.all fun p => p.2.bnd n
  | .dxl kvs => kvs.all fun p => p.2.bnd n
  | .tab _ => true
end
section
variable {K : PySem.W.Frag} {ft : Cfg} {ρ t : List Addr} {H : Hp}
mutual
theorem DV.cut : ∀ {d : D} {v : V}, DV K ft (ρ ++ t) H d v → d.bnd ρ.length = true → DV K ft ρ H d v
  | _, _, .non, _ => .non
  | _, _, .bl b, _ => .bl b
  | _, _, .int i, _ => .int i
  | _, _, .str x, _ => .str x
  | _, _, .tup h r, e => .tup h (DVs.cut r (by simpa [D.bnd] using e))
  | _, _, .cell h, e => .cell (by rw [← List.getElem?_append_left (by simpa [D.bnd] using e)]; exact h)
  | _, _, .fn n, _ => .fn n
  | _, _, .scr h, _ => .scr h
  | _, _, .ty t, _ => .ty t
  | _, _, .rol h r, e => .rol h (DVs.cut r (by simpa [D.bnd] using e))
theorem DVs.cut : ∀ {ds : List D} {vs : List V}, DVs K ft (ρ ++ t) H ds vs → bnds ρ.length ds = true → DVs K ft ρ H ds vs
  | _, _, .nil, _ => .nil
  | _, _, .cons h r, e => by
    simp only [bnds, Bool.and_eq_true] at e
    exact .cons (DV.cut h e.1) (DVs.cut r e.2)
end
theorem Rel.cut {C : Hm} (R : Rel K ft (ρ ++ t) H C) (hb : ∀ c ∈ C.take ρ.length, c.bnd ρ.length = true) : Rel K ft ρ H (C.take ρ.length) := by
  have hl : ρ.length ≤ C.length := by have := R.len; simp at this; omega
  refine ⟨by simp; omega, (List.nodup_append.mp R.nd).1, fun n c e => ?_⟩
  have hn : n < ρ.length := by
    have := (List.getElem?_eq_some_iff.mp e).1
    simp at this; omega
  have e' : C[n]? = some c := by rw [List.getElem?_take_of_lt hn] at e; exact e
  obtain ⟨a, ha, k⟩ := R.ok n c e'
  rw [List.getElem?_append_left hn] at ha
  have hc := hb c (List.mem_of_getElem? e)
  refine ⟨a, ha, ?_⟩
  cases c with
  | lst ds => obtain ⟨vs, q, r⟩ := k; exact ⟨vs, q, r.cut hc⟩
  | dic kvs =>
    obtain ⟨ws, q, r⟩ := k
    refine ⟨ws, q, ?_⟩
    have hc' : ∀ p ∈ kvs, p.2.bnd ρ.length = true := by simpa [Cell.bnd, List.all_eq_true] using hc
    clear q hc e' e
    induction r with
    | nil => exact .nil
    | cons z r ih => exact .cons ⟨z.1, z.2.cut (hc' _ (by simp))⟩ (ih fun p hp => hc' p (by simp [hp]))
  | dix kvs =>
    obtain ⟨es, q, n1, r⟩ := k
    refine ⟨es, q, n1, ?_⟩
    have hc' : ∀ p ∈ kvs, p.2.bnd ρ.length = true := by simpa [Cell.bnd, List.all_eq_true] using hc
    clear q hc e' e n1
    induction r with
    | nil => exact .nil
    | cons z r ih => exact .cons ⟨z.1, z.2.1, z.2.2.cut (hc' _ (by simp))⟩ (ih fun p hp => hc' p (by simp [hp]))
  | dxl kvs =>
    obtain ⟨es, o, q, n1, r⟩ := k
    refine ⟨es, o, q, n1, ?_⟩
    have hc' : ∀ p ∈ kvs, p.2.bnd ρ.length = true := by simpa [Cell.bnd, List.all_eq_true] using hc
    clear q hc e' e n1
    induction r with
    | nil => exact .nil
    | cons z r ih => exact .cons ⟨z.1, z.2.1, z.2.2.cut (hc' _ (by simp))⟩ (ih fun p hp => hc' p (by simp [hp]))
  | tab n => exact ⟨k.1, k.2.gen rfl fun c hc e => ⟨e, fun z => hc (List.mem_append_left _ z)⟩⟩
end
/-- the cells that the call has made are let go -/
def cutC (n : Nat) (r : D × Hm) : Option (D × Hm) := if r.1.bnd n = true ∧ (r.2.take n).all (·.bnd n) = true then some (r.1, r.2.take n) else none
def mKeep (m : ME) : ME := fun E C => (m E C).bind fun r => cutC C.length r
theorem evE_keep {F : Fm} {t : TE} {m : ME} (s : EvE F t m) : EvE F t (mKeep m) := by
  intro ρ C H E σ d C' Q R eo hm k
  obtain ⟨⟨d1, C1⟩, h1, hm⟩ := obind hm
  unfold cutC at hm
  split at hm
  · rename_i hb
    cases hm
    refine s ρ C H E σ d1 C1 _ R eo h1 fun ρ1 H1 v R1 s1 dv1 => ?_
    obtain ⟨t, e, ht⟩ := s1.pre
    subst e
    have hb1 : D.bnd ρ.length d1 = true := by rw [R.len]; exact hb.1
    have hb2 : ∀ c ∈ C1.take ρ.length, c.bnd ρ.length = true := by rw [R.len]; simpa [List.all_eq_true] using hb.2
    have R2 := R1.cut hb2
    rw [R.len] at R2
    exact k ρ H1 v R2 ⟨⟨[], by simp, by simp⟩, s1.keep, s1.there, s1.tups, s1.frzs⟩ (dv1.cut hb1)
  · cases hm
theorem se_keep {F : Fm} {e : Expr} {m : ME} (h : SE F e m) : SE F e (mKeep m) := let ⟨t, p, s⟩ := h; ⟨t, p, evE_keep s⟩
end Mi
set_option Elab.async false
set_option linter.all false
set_option maxRecDepth 100000
set_option maxHeartbeats 4000000
namespace Mi
open PySem PySem.Spec PyProof.Rows L2
/-! ## data as the model's own data -/
def py (C : Hm) : Nat → D → Option PyData
  | 0, _ => none
  | n + 1, d => match d with
    | .non => some .none
    | .bl b => some (.bool b)
    | .int i => some (.int i)
    | .str x => some (.str x)
    | .tup ds => (ds.mapM (py C n)).map PyData.tuple
    | .cell k => match C[k]? with | some (.lst ds) => (ds.mapM (py C n)).map PyData.list | _ => none
    | .scr ns => some (.list (ns.map PyData.int))
    | .rol ds => (ds.mapM (py C n)).map PyData.list
    | .fn _ => none
    | .ty _ => none
theorem mapM_cons' {α β : Type} {f : α → Option β} {a : α} {l : List α} {r : List β} (h : (a :: l).mapM f = some r) : ∃ b bs, f a = some b ∧ l.mapM f = some bs ∧ r = b :: bs := by
  rw [List.mapM_cons] at h
  cases q : f a with
  | none => rw [q] at h; cases h
  | some b =>
    rw [q] at h
    cases q2 : l.mapM f with
    | none => rw [q2] at h; cases h
    | some bs => rw [q2] at h; cases h; exact ⟨b, bs, rfl, rfl, rfl⟩
section
variable {F : Fm}
theorem dp_ints {K : PySem.W.Frag} {H : Hp} : ∀ ns : List Int, DpAll K H (ns.map V.int) (ns.map PyData.int)
  | [] => .nil
  | n :: ns => .cons (.int n) (dp_ints ns)
theorem py_ok {ρ : List Addr} {H : Hp} {C : Hm} (R : RelF F ρ H C) : ∀ (n : Nat) {d : D} {v : V} {p : PyData}, DVF F ρ H d v → py C n d = some p → Dp F.K H v p
  | 0, _, _, _, _, e => by cases e
  | n + 1, d, v, p, h, e => by
    have all : ∀ {ds : List D} {vs : List V} {ps : List PyData}, DVsF F ρ H ds vs → ds.mapM (py C n) = some ps → DpAll F.K H vs ps := by
      intro ds
      induction ds with
      | nil => intro vs ps h e; cases h; cases e; exact .nil
      | cons d ds ih =>
        intro vs ps h e
        obtain ⟨b, bs, e1, e2, rfl⟩ := mapM_cons' e
        cases h with
        | cons h t => exact .cons (py_ok R n h e1) (ih t e2)
    cases d with
    | non => cases h; cases e; exact .non
    | bl b => cases h; cases e; exact .bl _
    | int b => cases h; cases e; exact .int _
    | str b => cases h; cases e; exact .str _
    | fn b => cases e
    | ty b => cases e
    | scr ns => cases h with | scr h => cases e; exact .lst h.1 (dp_ints ns)
    | rol ds =>
      unfold py at e
      simp only at e
      cases q : ds.mapM (py C n) with
      | none => rw [q] at e; cases e
      | some ps =>
        rw [q] at e
        cases e
        cases h with
        | rol hs hd => exact .lst (.inl (.inr ⟨_, hs⟩)) (all hd q)
    | tup ds =>
      unfold py at e
      simp only at e
      cases q : ds.mapM (py C n) with
      | none => rw [q] at e; cases e
      | some ps =>
        rw [q] at e
        cases e
        cases h with
        | tup hs hd => exact .tup hs (all hd q)
    | cell k =>
      unfold py at e
      simp only at e
      split at e
      · rename_i ds qc
        obtain ⟨a, vs, rfl, ea, e3, e4⟩ := R.lst qc h
        cases q : ds.mapM (py C n) with
        | none => rw [q] at e; cases e
        | some ps =>
          rw [q] at e
          cases e
          exact .lst (SqL.of e3) (all e4 q)
      · cases e
theorem Room.u64 {k : Nat} {A : Around} (r : Room k A) : A.units + 65 < cLine := by have := r.un; omega
def cmpD (f : PyData → PyData → Bool) : OD2 := fun x y C => match py C 70 x, py C 70 y with
  | some p, some q => if SeqAt.shaped p = true ∧ SeqAt.shaped q = true then some (.bl (f p q), C) else none
  | _, _ => none
theorem cmpD_some {f : PyData → PyData → Bool} {x y d : D} {C C' : Hm} (h : cmpD f x y C = some (d, C')) : ∃ p q, py C 70 x = some p ∧ py C 70 y = some q ∧ SeqAt.shaped p = true ∧ SeqAt.shaped q = true ∧ d = .bl (f p q) ∧ C' = C := by
  unfold cmpD at h
  split at h
  · rename_i p q e1 e2
    split at h
    · rename_i hs
      cases h
      exact ⟨p, q, e1, e2, hs.1, hs.2, rfl, rfl⟩
    · cases h
  · cases h
/-- two strings are compared as such -/
def cmpS (neg : Bool) (f : PyData → PyData → Bool) : OD2 := fun x y C => match x, y with
  | .str i, .str j => some (.bl (if neg = true then !(i == j) else i == j), C)
  | x, y => cmpD f x y C
abbrev dEq : OD2 := cmpS false fun p q => PyData.eqv p q
abbrev dNe : OD2 := cmpS true fun p q => !PyData.eqv p q
theorem so_eq : SOp F (compareOp .Eq) dEq := by
  refine ⟨_, fun X h => (op_eq (X := X)).or (show OpR X _ (rEqD F.K) by have z := op_eqD (X := X) h.rm.units; rw [h.K] at z; exact z), fun ρ C H x y vx vy d C' Q R hx hy hm k => ?_⟩
  unfold dEq cmpS at hm
  split at hm
  · cases hm; cases hx; cases hy
    rename_i i j
    exact .inl ⟨rfl, by rw [dec_str]; exact k.now R (.bl _)⟩
  · obtain ⟨p, q, e1, e2, s1, s2, rfl, rfl⟩ := cmpD_some hm
    exact .inr ⟨p, q, py_ok R _ hx e1, py_ok R _ hy e2, s1, s2, k.now R (.bl _)⟩
theorem so_ne : SOp F (compareOp .NotEq) dNe := by
  refine ⟨_, fun X h => (op_ne (X := X)).or (show OpR X _ (rNeD F.K) by have z := op_neD (X := X) h.rm.units; rw [h.K] at z; exact z), fun ρ C H x y vx vy d C' Q R hx hy hm k => ?_⟩
  unfold dNe cmpS at hm
  split at hm
  · cases hm; cases hx; cases hy
    rename_i i j
    exact .inl ⟨rfl, by rw [dec_str]; exact k.now R (.bl _)⟩
  · obtain ⟨p, q, e1, e2, s1, s2, rfl, rfl⟩ := cmpD_some hm
    exact .inr ⟨p, q, py_ok R _ hx e1, py_ok R _ hy e2, s1, s2, k.now R (.bl _)⟩
/-- x in a list or a tuple, by values -/
def rInS (K : PySem.W.Frag) (neg : Bool) : R2 := fun x y H Q => ∃ d ds, Dp K H x d ∧ (Dp K H y (.list ds) ∨ Dp K H y (.tuple ds)) ∧ SeqAt.shaped d = true ∧ SeqAt.shaped (.list ds) = true ∧ Q (.bl (if neg then !(ds.any fun z => PyData.eqv z d) else ds.any fun z => PyData.eqv z d)) H
theorem op_inS {X : Cx} (hu : X.A.units + 65 < cLine) : OpR X (compareOp .In) (rInS X.K false) := by
  intro pins s σ H x y v u Q I rx ry h
  obtain ⟨d, ds, hd, he, sd, se, q⟩ := h
  obtain ⟨as, r1⟩ := Dp.reads I d x v hd rx
  rcases he with he | he
  · obtain ⟨bs, r2⟩ := Dp.reads I (.list ds) y u he ry
    exact SeqAt.in_list_reads r2 r1 (SeqAt.canLay_of_shaped se) (SeqAt.canLay_of_shaped sd) (room_in_shaped sd hu) ⟨.bl _, H, I, rfl, q⟩
  · obtain ⟨bs, r2⟩ := Dp.reads I (.tuple ds) y u he ry
    exact SeqAt.in_tuple_reads r2 r1 (SeqAt.canLay_of_shaped se) (SeqAt.canLay_of_shaped sd) (room_in_shaped sd hu) ⟨.bl _, H, I, rfl, q⟩
theorem op_notInS {X : Cx} (hu : X.A.units + 65 < cLine) : OpR X (compareOp .NotIn) (rInS X.K true) := by
  intro pins s σ H x y v u Q I rx ry h
  obtain ⟨d, ds, hd, he, sd, se, q⟩ := h
  obtain ⟨as, r1⟩ := Dp.reads I d x v hd rx
  rcases he with he | he
  · obtain ⟨bs, r2⟩ := Dp.reads I (.list ds) y u he ry
    exact SeqAt.notIn_list_reads r2 r1 (SeqAt.canLay_of_shaped se) (SeqAt.canLay_of_shaped sd) (room_in_shaped sd hu) ⟨.bl _, H, I, rfl, q⟩
  · obtain ⟨bs, r2⟩ := Dp.reads I (.tuple ds) y u he ry
    exact SeqAt.notIn_tuple_reads r2 r1 (SeqAt.canLay_of_shaped se) (SeqAt.canLay_of_shaped sd) (room_in_shaped sd hu) ⟨.bl _, H, I, rfl, q⟩
def itemsP : PyData → Option (List PyData)
  | .list ds => some ds
  | .tuple ds => some ds
  | _ => none
def inD (neg : Bool) : OD2 := fun x y C => match py C 70 x, (py C 70 y).bind itemsP with
  | some p, some qs => if SeqAt.shaped p = true ∧ SeqAt.shaped (.list qs) = true then some (.bl (if neg then !(qs.any fun z => PyData.eqv z p) else qs.any fun z => PyData.eqv z p), C) else none
  | _, _ => none
theorem inD_post {neg : Bool} {ρ : List Addr} {C C' : Hm} {H : Hp} {x y d : D} {vx vy : V} {Q : VK} (R : RelF F ρ H C) (hx : DVF F ρ H x vx) (hy : DVF F ρ H y vy) (hm : inD neg x y C = some (d, C')) (k : Post F ρ H d C' Q) : rInS F.K neg vx vy H Q := by
  unfold inD at hm
  split at hm
  · rename_i p qs e1 e2
    split at hm
    · rename_i hs
      cases hm
      obtain ⟨q, e3, e4⟩ := obind e2
      refine ⟨p, qs, py_ok R _ hx e1, ?_, hs.1, hs.2, k.now R (.bl _)⟩
      have z := py_ok R _ hy e3
      cases q with
      | list l => cases e4; exact .inl z
      | tuple l => cases e4; exact .inr z
      | _ => cases e4
    · cases hm
  · cases hm
theorem so_in : SOp F (compareOp .In) (inD false) := ⟨rInS F.K false, fun X h => by have z := op_inS (X := X) (Room.u64 h.rm); rw [h.K] at z; exact z, fun ρ C H x y vx vy d C' Q R hx hy hm k => inD_post R hx hy hm k⟩
theorem so_notIn : SOp F (compareOp .NotIn) (inD true) := ⟨rInS F.K true, fun X h => by have z := op_notInS (X := X) (Room.u64 h.rm); rw [h.K] at z; exact z, fun ρ C H x y vx vy d C' Q R hx hy hm k => inD_post R hx hy hm k⟩
/-! ## order -/
def ordD (fi : Int → Int → Bool) (fs : List Nat → List Nat → Bool) : OD2 := fun x y C => match x, y with
  | .int i, .int j => some (.bl (fi i j), C)
  | .str i, .str j => some (.bl (fs i.cps.toList j.cps.toList), C)
  | _, _ => none
theorem ord_ok {op : CmpOp} {fi : Int → Int → Bool} {fs : List Nat → List Nat → Bool} (h1 : ∀ X, F.Is X → OpR X (compareOp op) (rI0 fun i j => .bl (fi i j))) (h2 : ∀ X, F.Is X → OpR X (compareOp op) (fun x y H Q => ∃ i j : Str, x = .str i ∧ y = .str j ∧ Q (.bl (fs i.cps.toList j.cps.toList)) H)) : SOp F (compareOp op) (ordD fi fs) := by
  refine ⟨_, fun X h => (h1 X h).or (h2 X h), fun ρ C H x y vx vy d C' Q R hx hy hm k => ?_⟩
  unfold ordD at hm
  split at hm
  · cases hm; cases hx; cases hy; exact .inl ⟨_, _, rfl, rfl, k.now R (.bl _)⟩
  · cases hm; cases hx; cases hy; exact .inr ⟨_, _, rfl, rfl, k.now R (.bl _)⟩
  · cases hm
abbrev dLt : OD2 := ordD (fun i j => decide (i < j)) (fun i j => decide (i < j))
abbrev dLe : OD2 := ordD (fun i j => decide (i ≤ j)) (fun i j => !decide (j < i))
abbrev dGt : OD2 := ordD (fun i j => decide (j < i)) (fun i j => decide (j < i))
abbrev dGe : OD2 := ordD (fun i j => decide (j ≤ i)) (fun i j => !decide (i < j))
theorem so_lt : SOp F (compareOp .Lt) dLt := ord_ok (fun _ _ => op_lt) fun _ _ => op_lt_str
theorem so_le : SOp F (compareOp .LtE) dLe := ord_ok (fun _ _ => op_le) fun _ _ => op_le_str
theorem so_gt : SOp F (compareOp .Gt) dGt := ord_ok (fun _ _ => op_gt) fun _ _ => op_gt_str
theorem so_ge : SOp F (compareOp .GtE) dGe := ord_ok (fun _ _ => op_ge) fun _ _ => op_ge_str
def isNonD : D → Bool
  | .non => true
  | _ => false
theorem isNon_ok {ρ : List Addr} {H : Hp} {d : D} {v : V} (h : DVF F ρ H d v) : decide (v = .non) = isNonD d := by
  cases h <;> simp [isNonD]
def isD (neg : Bool) : OD2 := fun x y C => match y with
  | .non => some (.bl (if neg then !isNonD x else isNonD x), C)
  | _ => none
theorem so_is : SOp F (compareOp .Is) (isD false) := by
  refine ⟨_, fun X h => op_isN, fun ρ C H x y vx vy d C' Q R hx hy hm k => ?_⟩
  unfold isD at hm
  split at hm
  · cases hm; cases hy; exact ⟨rfl, by rw [isNon_ok hx]; exact k.now R (.bl _)⟩
  · cases hm
theorem so_isnot : SOp F (compareOp .IsNot) (isD true) := by
  refine ⟨_, fun X h => op_notN, fun ρ C H x y vx vy d C' Q R hx hy hm k => ?_⟩
  unfold isD at hm
  split at hm
  · cases hm; cases hy; exact ⟨rfl, by rw [isNon_ok hx]; exact k.now R (.bl _)⟩
  · cases hm
/-! ## arithmetic, joining -/
def b2z (b : Bool) : Int := if b = true then 1 else 0
theorem op_add_bi {X : Cx} : OpR X (binaryOp .Add) (fun x y H Q => ∃ k i, x = .bl k ∧ y = .int i ∧ Q (.int ((if k = true then 1 else 0) + i)) H) := by
  intro pins s σ H x y v u Q I rx ry h
  obtain ⟨k, i, rfl, rfl, q⟩ := h
  obtain ⟨t, rfl⟩ := ry
  cases rx
  exact PySem.IntBool.add_bool_int ⟨.int _, H, I.tok _, ⟨_, rfl⟩, q⟩
theorem op_sub_bi {X : Cx} : OpR X (binaryOp .Sub) (fun x y H Q => ∃ k i, x = .bl k ∧ y = .int i ∧ Q (.int ((if k = true then 1 else 0) - i)) H) := by
  intro pins s σ H x y v u Q I rx ry h
  obtain ⟨k, i, rfl, rfl, q⟩ := h
  obtain ⟨t, rfl⟩ := ry
  cases rx
  exact PySem.IntBool.sub_bool_int ⟨.int _, H, I.tok _, ⟨_, rfl⟩, q⟩
theorem op_sub_ib {X : Cx} : OpR X (binaryOp .Sub) (fun x y H Q => ∃ i k, x = .int i ∧ y = .bl k ∧ Q (.int (i - (if k = true then 1 else 0))) H) := by
  intro pins s σ H x y v u Q I rx ry h
  obtain ⟨i, k, rfl, rfl, q⟩ := h
  obtain ⟨t, rfl⟩ := rx
  cases ry
  exact PySem.IntBool.sub_int_bool ⟨.int _, H, I.tok _, ⟨_, rfl⟩, q⟩
/-! ### lists that may be locked -/
section
variable {X : Cx}
theorem lstR {pins : List (Addr × Obj)} {σ : L2.St} {H : Hp} {s : Shared} {l : Addr} {xs : List V} (I : Inv X pins σ H s) (hH : Rd H l (.lst xs)) :
    ∃ (its : List Value) (n : Nat), xs.length ≤ sizeLine ∧ Vals xs its ∧ xs.length = its.length ∧ s.heap.get? l = some { cls := .type "list", data := .seq its.toArray n } := by
  obtain ⟨few, its, n, vals, at_⟩ := hH.ok I.hok
  exact ⟨its, n, few, vals, vals.length, at_⟩
def rCatR : R2 := fun x y H Q => ∃ l b xs zs, x = .ref l ∧ y = .ref b ∧ Rd H l (.lst xs) ∧ Rd H b (.lst zs) ∧ xs.length + zs.length ≤ sizeLine ∧ ∀ p, H p = none → Q (.ref p) (upd H p (.lst (xs ++ zs)))
theorem op_catR : OpR X (binaryOp .Add) rCatR := fun pins s σ H x y v u Q I rx ry h => by
  obtain ⟨l, b, xs, zs, rfl, rfl, hl, hb, few, q⟩ := h
  cases rx; cases ry
  obtain ⟨is1, n1, f1, v1, e1, o1⟩ := lstR I hl
  obtain ⟨is2, n2, f2, v2, e2, o2⟩ := lstR I hb
  refine PySem.P.add_list o1 o2 ?_ (by simp only [List.size_toArray]; omega)
  rw [show is1.toArray ++ is2.toArray = (is1 ++ is2).toArray from by simp]
  exact ⟨.ref _, _, I.lnew (t' := s.toks) (v1.append v2) (by simp only [List.length_append]; omega), rfl, q _ I.fresh⟩
theorem catN (its : List Value) : ∀ (m : Nat) (acc : List Value), List.foldl (fun a b => a ++ b) acc.toArray (List.replicate m its.toArray) = (acc ++ (List.replicate m its).flatten).toArray
  | 0, acc => by simp
  | m + 1, acc => by
    rw [List.replicate_succ, List.foldl_cons, show acc.toArray ++ its.toArray = (acc ++ its).toArray from by simp, catN its m]
    simp [List.replicate_succ]
def rRepR : R2 := fun x y H Q => ∃ l k xs, x = .ref l ∧ y = .int k ∧ Rd H l (.lst xs) ∧ -(2 ^ 63) ≤ k ∧ k < 2 ^ 63 ∧ xs.length * k.toNat ≤ sizeLine ∧ ∀ p, H p = none → Q (.ref p) (upd H p (.lst (List.replicate k.toNat xs).flatten))
theorem op_repR : OpR X (binaryOp .Mult) rRepR := fun pins s σ H x y v u Q I rx ry h => by
  obtain ⟨l, k, xs, rfl, rfl, hl, lo, hi, few, q⟩ := h
  cases rx
  obtain ⟨t, rfl⟩ := ry
  obtain ⟨its, n, f1, v1, e1, o1⟩ := lstR I hl
  have sz : its.toArray.size * k.toNat ≤ sizeLine := by rw [List.size_toArray, ← e1]; exact few
  have a1 : ¬ (!Builtin.List.listFitsIndex k) = true := by rw [fitsIndex_both lo hi]; decide
  have a2 : ¬ its.toArray.size * k.toNat > (2 ^ 63 - 1) / 8 := by have : (sizeLine : Nat) ≤ (2 ^ 63 - 1) / 8 := by decide
                                                                  omega
  have a3 : ¬ Builtin.List.listTooLong (its.toArray.size * k.toNat) = true := by rw [notLongL sz]; decide
  have new : List.foldl (fun x1 x2 => x1 ++ x2) #[] (List.replicate (if its.toArray.isEmpty = true then 0 else k.toNat) its.toArray) = (List.replicate k.toNat its).flatten.toArray := by
    have z := fun m => catN its m []
    simp only [List.nil_append] at z
    rw [z]
    cases its with
    | nil => simp
    | cons a r => rw [if_neg (by simp)]
  refine wpAny_binaryOp_repeat_ref (T := "list") (U := "int") (by decide) ⟨_, o1, rfl⟩ (fun s1 => typeIs_int s1 k t) noFill_list_mul F.fills_int_mul F.slot_int_rmul repeat_list F.slot_int_index.lookup
    (call_meets F.slot_int_rmul (typeIs_int s k t) F.entry_int_rmul (F.args_int_rmul_2 _ _) (int___rmul___int_list k t l its.toArray n) ⟨o1, rfl, ⟨_, o1, rfl⟩, call_meets F.slot_list_mul ⟨_, o1, rfl⟩ F.entry_list_mul (F.args_list_mul_2 _ _) (AutoListH.list___mul___list_int_3 l its.toArray n k t a1 a2 a3) ⟨o1, ?_⟩⟩)
  rw [new]
  exact ⟨.ref _, _, I.lnew (t' := s.toks) (v1.rep k.toNat) (by rw [PyProof.Rows.lm_len_rep_flat, Nat.mul_comm]; exact few), rfl, q _ I.fresh⟩
def rExtendR : V → List V → Hp → VK → Prop := fun x vs H Q => ∃ l b xs zs, x = .ref l ∧ vs = [.ref b] ∧ H l = some (.lst xs) ∧ Rd H b (.lst zs) ∧ xs.length + zs.length ≤ sizeLine ∧ Q .non (upd H l (.lst (xs ++ zs)))
theorem mt_extendR : MtM X "list.extend" rExtendR := fun pins s σ H x vs v us Q I rx rv h => by
  obtain ⟨l, b, xs, zs, rfl, rfl, hl, hb, few, q⟩ := h
  cases rx
  obtain ⟨u, rfl, ru⟩ := rv.one
  cases ru
  obtain ⟨is1, n1, f1, v1, e1, o1⟩ := lstR I (.inl hl)
  obtain ⟨is2, n2, f2, v2, e2, o2⟩ := lstR I hb
  have sz : is1.toArray.size + is2.toArray.size ≤ sizeLine := by simp only [List.size_toArray]; omega
  have a1 : ¬ (!is1.toArray.isEmpty && Builtin.List.listTooLong (is1.toArray.size + is2.toArray.size)) = true := by rw [notLongL sz, Bool.and_false]; decide
  refine call_meets F.slot_list_extend ⟨_, o1, rfl⟩ F.entry_list_extend (F.args_list_extend_2 _ _) (AutoSeq1.list_extend_list_list_0 l is1.toArray n1 b is2.toArray n2 a1 (by simp only [List.size_toArray]; omega) (by omega)) ⟨o1, o2, ?_⟩
  exact ⟨.non, _, I.lset (its' := is1 ++ is2) hl o1 (by simp) (v1.append v2) (by simp only [List.length_append]; omega), rfl, q⟩
end
def addD : OD2 := fun x y C => match x, y with
  | .int i, .int j => some (.int (i + j), C)
  | .bl k, .int j => some (.int (b2z k + j), C)
  | .str i, .str j => if i.length + j.length ≤ sizeLine then some (.str (i ++ j), C) else none
  | .tup a, .tup b => if a.length + b.length ≤ sizeLine then some (.tup (a ++ b), C) else none
  | x, y => match lstOf C x, lstOf C y with
    | some a, some b => if a.length + b.length ≤ sizeLine then some (.cell C.length, C ++ [.lst (a ++ b)]) else none
    | _, _ => none
theorem so_add : SOp F (binaryOp .Add) addD := by
  refine ⟨_, fun X h => (op_add.or (op_add_bi.or (op_add_str.or ((show OpR X (binaryOp .Add) (rCatA F.K) by rw [← h.K]; exact op_catA).or op_catR)))), fun ρ C H x y vx vy d C' Q R hx hy hm k => ?_⟩
  unfold addD at hm
  split at hm
  · cases hm; cases hx; cases hy; exact .inl ⟨_, _, rfl, rfl, k.now R (.int _)⟩
  · cases hm; cases hx; cases hy; exact .inr (.inl ⟨_, _, rfl, rfl, k.now R (.int _)⟩)
  · split at hm
    · rename_i hl
      cases hm; cases hx; cases hy; exact .inr (.inr (.inl ⟨_, _, rfl, rfl, hl, k.now R (.str _)⟩))
    · cases hm
  · split at hm
    · rename_i a b hl
      cases hm
      cases hx with | tup h1 h2 => cases hy with | tup h3 h4 =>
        rename_i ax vsx ay vsy
        have e2 := h2.length
        have e4 := h4.length
        refine .inr (.inr (.inr (.inl ⟨_, _, _, _, rfl, rfl, h1, h3, by omega, fun z => ?_, fun _ z => ?_, fun _ _ p hp => ?_⟩)))
        · subst z
          cases h2
          exact k.now R (.tup h3 h4)
        · subst z
          cases h4
          rw [List.append_nil] at k
          exact k.now R (.tup h1 h2)
        · exact k ρ _ _ (R.fresh hp) (Stp.fresh hp) (.tup (SqT.of upd_same) ((h2.append h4).mono (Stp.fresh hp)))
    · cases hm
  · split at hm
    · rename_i a b c1 c2
      split at hm
      · rename_i hl
        cases hm
        obtain ⟨p, vs, rfl, e3, e4⟩ := lstOf_ok R hx c1
        obtain ⟨q, ws, rfl, e5, e6⟩ := lstOf_ok R hy c2
        have l4 := e4.length
        have l6 := e6.length
        refine .inr (.inr (.inr (.inr ⟨_, _, _, _, rfl, rfl, e3, e5, by omega, fun r hr => ?_⟩)))
        exact k _ _ _ (R.newL hr (e4.append e6)) (Stp.push hr) (DV.new R)
      · cases hm
    · cases hm
def subD : OD2 := fun x y C => match x, y with
  | .int i, .int j => some (.int (i - j), C)
  | .bl k, .int j => some (.int (b2z k - j), C)
  | .int i, .bl k => some (.int (i - b2z k), C)
  | _, _ => none
theorem so_sub : SOp F (binaryOp .Sub) subD := by
  refine ⟨_, fun X h => op_sub.or (op_sub_bi.or op_sub_ib), fun ρ C H x y vx vy d C' Q R hx hy hm k => ?_⟩
  unfold subD at hm
  split at hm
  · cases hm; cases hx; cases hy; exact .inl ⟨_, _, rfl, rfl, k.now R (.int _)⟩
  · cases hm; cases hx; cases hy; exact .inr (.inl ⟨_, _, rfl, rfl, k.now R (.int _)⟩)
  · cases hm; cases hx; cases hy; exact .inr (.inr ⟨_, _, rfl, rfl, k.now R (.int _)⟩)
  · cases hm
def mulOk (i j : Int) : Bool := decide ((-(2 ^ 64) < i ∧ i < 2 ^ 64) ∨ (-(2 ^ 64) < j ∧ j < 2 ^ 64))
def mulD : OD2 := fun x y C => match x, y with
  | .int i, .int j => if mulOk i j = true then some (.int (i * j), C) else none
  | .tup a, .int k => if a ≠ [] ∧ 2 ≤ k ∧ k ≤ 1000 ∧ a.length ≤ 1000 then some (.tup (List.replicate k.toNat a).flatten, C) else none
  | x, .int k => match lstOf C x with
    | some a => if -(2 ^ 63) ≤ k ∧ k < 2 ^ 63 ∧ a.length * k.toNat ≤ sizeLine then some (.cell C.length, C ++ [.lst (List.replicate k.toNat a).flatten]) else none
    | _ => none
  | _, _ => none
theorem DVs.rep {K : PySem.W.Frag} {ft : Cfg} {ρ : List Addr} {H : Hp} {ds : List D} {vs : List V} (h : DVs K ft ρ H ds vs) : ∀ n : Nat, DVs K ft ρ H (List.replicate n ds).flatten (List.replicate n vs).flatten
  | 0 => .nil
  | n + 1 => by simp only [List.replicate_succ, List.flatten_cons]; exact h.append (DVs.rep h n)
theorem so_mul : SOp F (binaryOp .Mult) mulD := by
  refine ⟨_, fun X h => op_mul.or (op_repR.or (show OpR X (binaryOp .Mult) (rRepT F.K) by rw [← h.K]; exact op_repT)), fun ρ C H x y vx vy d C' Q R hx hy hm k => ?_⟩
  unfold mulD at hm
  split at hm
  · split at hm
    · rename_i hc
      cases hm; cases hx; cases hy
      have hc' := of_decide_eq_true hc
      exact .inl ⟨_, _, rfl, rfl, hc', k.now R (.int _)⟩
    · cases hm
  · split at hm
    · rename_i a z hc
      cases hm; cases hy
      cases hx with | tup h1 h2 =>
        have l2 := h2.length
        refine .inr (.inr ⟨_, _, _, rfl, rfl, h1, fun q => ?_, hc.2.1, hc.2.2.1, by rw [← l2]; exact hc.2.2.2, fun p hp => ?_⟩)
        · subst q; exact hc.1 (List.length_eq_zero_iff.mp (by simpa using l2))
        · exact k ρ _ _ (R.fresh hp) (Stp.fresh hp) (.tup (SqT.of upd_same) ((h2.rep _).mono (Stp.fresh hp)))
    · cases hm
  · split at hm
    · rename_i x1 z hne a c1
      split at hm
      · rename_i hc
        cases hm; cases hy
        obtain ⟨p, vs, rfl, e3, e4⟩ := lstOf_ok R hx c1
        have l4 := e4.length
        refine .inr (.inl ⟨_, _, _, rfl, rfl, e3, hc.1, hc.2.1, by rw [← l4]; exact hc.2.2, fun r hr => ?_⟩)
        exact k _ _ _ (R.newL hr (e4.rep _)) (Stp.push hr) (DV.new R)
      · cases hm
    · cases hm
  · cases hm
def intD (c : Int → Int → Bool) (f : Int → Int → Int) : OD2 := fun x y C => match x, y with
  | .int i, .int j => if c i j = true then some (.int (f i j), C) else none
  | _, _ => none
theorem int_ok {g : Value → Value → Sem Value} {c : Int → Int → Bool} {f : Int → Int → Int} {P : Int → Int → Prop} (h : ∀ X, F.Is X → OpR X g (rI P fun i j => .int (f i j))) (hc : ∀ i j, c i j = true → P i j) : SOp F g (intD c f) := by
  refine ⟨_, h, fun ρ C H x y vx vy d C' Q R hx hy hm k => ?_⟩
  unfold intD at hm
  split at hm
  · split at hm
    · rename_i q
      cases hm; cases hx; cases hy
      exact ⟨_, _, rfl, rfl, hc _ _ q, k.now R (.int _)⟩
    · cases hm
  · cases hm
abbrev modD : OD2 := intD (fun _ j => decide (j ≠ 0)) fun i j => i.fmod j
abbrev fdivD : OD2 := intD (fun _ j => decide (j ≠ 0 ∧ j.natAbs < 1073741824)) fun i j => i.fdiv j
abbrev powD : OD2 := intD (fun i j => decide (0 ≤ j ∧ j ≤ 1000000 ∧ i.natAbs < 2 ^ 64)) fun i j => i ^ j.toNat
abbrev shlD : OD2 := intD (fun i j => decide (0 ≤ j ∧ j ≤ 1000000 ∧ i.natAbs < 2 ^ 64)) fun i j => i * 2 ^ j.toNat
abbrev shrD : OD2 := intD (fun _ j => decide (0 ≤ j)) fun i j => i / 2 ^ j.toNat
theorem so_mod : SOp F (binaryOp .Mod) modD := int_ok (fun _ _ => op_modN) fun i j q => by have z := of_decide_eq_true q; exact z
theorem so_fdiv : SOp F (binaryOp .FloorDiv) fdivD := int_ok (fun _ _ => op_fdivN) fun i j q => by have z := of_decide_eq_true q; exact z
theorem so_pow : SOp F (binaryOp .Pow) powD := int_ok (fun _ _ => op_pow) fun i j q => by have z := of_decide_eq_true q; exact z
theorem so_shl : SOp F (binaryOp .LShift) shlD := int_ok (fun _ _ => op_shl) fun i j q => by have z := of_decide_eq_true q; exact z
theorem so_shr : SOp F (binaryOp .RShift) shrD := int_ok (fun _ _ => op_shr) fun i j q => by have z := of_decide_eq_true q; exact z
def int0D (f : Int → Int → Int) : OD2 := fun x y C => match x, y with
  | .int i, .int j => some (.int (f i j), C)
  | _, _ => none
theorem int0_ok {g : Value → Value → Sem Value} {f : Int → Int → Int} (h : ∀ X, F.Is X → OpR X g (rI0 fun i j => .int (f i j))) : SOp F g (int0D f) := by
  refine ⟨_, h, fun ρ C H x y vx vy d C' Q R hx hy hm k => ?_⟩
  unfold int0D at hm
  split at hm
  · cases hm; cases hx; cases hy; exact ⟨_, _, rfl, rfl, k.now R (.int _)⟩
  · cases hm
theorem so_band : SOp F (binaryOp .BitAnd) (int0D Builtin.bitAnd) := int0_ok fun _ _ => op_and
theorem so_bor : SOp F (binaryOp .BitOr) (int0D Builtin.bitOr) := int0_ok fun _ _ => op_or
def negD : OD1 := fun x C => match x with | .int i => some (.int (-i), C) | _ => none
theorem su_neg : SUn F (unaryOp .USub) negD := by
  refine ⟨_, fun X h => un_neg, fun ρ C H x vx d C' Q R hx hm k => ?_⟩
  unfold negD at hm
  split at hm
  · cases hm; cases hx; exact ⟨_, rfl, k.now R (.int _)⟩
  · cases hm
theorem sp_of {op : Operator} {f : OD2} (h : SOp F (inplaceOp op) f) : SIp F op f := by
  obtain ⟨r, hr, s⟩ := h
  exact ⟨r, fun X i => fun pins s σ H x y v u Q I rx ry q => hr X i pins s σ H x y v u Q I rx ry q, s⟩
theorem sip_add : SIp F .Add (int0D fun i j => i + j) := sp_of (int0_ok fun _ _ => iop_add)
theorem sip_sub : SIp F .Sub (int0D fun i j => i - j) := sp_of (int0_ok fun _ _ => iop_sub)
/-! ## subscripts, slices -/
def codeD (c : Nat) : D := .str ⟨#[c]⟩
def ixD : OD2 := fun x y C => match y with
  | .int i => match x with
    | .tup ds => (atI ds i).map fun d => (d, C)
    | .scr ns => (atI ns i).map fun d => (.int d, C)
    | .rol ds => (atI ds i).map fun d => (d, C)
    | .cell n => match C[n]? with | some (.lst ds) => (atI ds i).map fun d => (d, C) | _ => none
    | .str z => if z.length ≤ sizeLine then (atI z.cps.toList i).map fun c => (codeD c, C) else none
    | _ => none
  | _ => none
theorem atI_dvs {K : PySem.W.Frag} {ft : Cfg} {ρ : List Addr} {H : Hp} {ds : List D} {vs : List V} {i : Int} {d : D} (h : DVs K ft ρ H ds vs) (e : atI ds i = some d) : ∃ v, atI vs i = some v ∧ DV K ft ρ H d v := by
  unfold atI at e ⊢
  rw [h.length] at e
  cases q : ixN vs.length i with
  | none => rw [q] at e; cases e
  | some j =>
    rw [q] at e
    exact h.get e
theorem omap {α β : Type} {o : Option α} {f : α → β} {z : β} (h : o.map f = some z) : ∃ y, o = some y ∧ f y = z := by
  cases o with
  | none => cases h
  | some y => exact ⟨y, rfl, by simpa using h⟩
theorem six : SIx F ixD := by
  refine ⟨rIx F.K, fun X h => by have z := ix_seq (X := X); rw [h.K] at z; exact z, fun ρ C H x y vx vy d C' Q R hx hy hm k => ?_⟩
  unfold ixD at hm
  split at hm
  · rename_i i
    cases hy
    split at hm
    · obtain ⟨e, q1, q2⟩ := omap hm
      cases q2
      cases hx with | tup h1 h2 =>
        obtain ⟨v, e1, e2⟩ := atI_dvs h2 q1
        exact .inr (.inl ⟨_, _, _, _, rfl, rfl, h1, e1, k.now R e2⟩)
    · obtain ⟨e, q1, q2⟩ := omap hm
      cases q2
      cases hx with | scr h1 =>
        obtain ⟨v, e1, e2⟩ := atI_dvs (K := F.K) (ft := F.ft) (ρ := ρ) (H := H) (d := .int e) (i := i) (DVs.ints _) (by
          unfold atI at q1 ⊢
          rw [List.length_map]
          cases q : ixN _ i with
          | none => rw [q] at q1; cases q1
          | some j =>
            rw [q] at q1
            have q2 : _ = some e := q1
            show (List.map D.int _)[j]? = _
            rw [List.getElem?_map]
            exact (congrArg (Option.map D.int) q2))
        exact .inl ⟨_, _, _, _, rfl, rfl, h1.1, e1, k.now R e2⟩
    · obtain ⟨e, q1, q2⟩ := omap hm
      cases q2
      cases hx with | rol h1 h2 =>
        obtain ⟨v, e1, e2⟩ := atI_dvs h2 q1
        exact .inl ⟨_, _, _, _, rfl, rfl, .inl (.inr ⟨_, h1⟩), e1, k.now R e2⟩
    · split at hm
      · rename_i c1
        obtain ⟨e, q1, q2⟩ := omap hm
        cases q2
        obtain ⟨p, vs, rfl, ep, e3, e4⟩ := R.lst c1 hx
        obtain ⟨v, e1, e2⟩ := atI_dvs e4 q1
        exact .inl ⟨_, _, _, _, rfl, rfl, SqL.of e3, e1, k.now R e2⟩
      · cases hm
    · split at hm
      · rename_i z hl
        obtain ⟨e, q1, q2⟩ := omap hm
        cases q2
        cases hx
        exact .inr (.inr ⟨_, _, _, rfl, rfl, hl, q1, k.now R (.str _)⟩)
      · cases hm
    · cases hm
  · cases hm
def cutD (xs : List D) (lo hi : Option Int) : List D := (xs.drop (HT.sIx xs.length 0 lo)).take (HT.sIx xs.length xs.length hi - HT.sIx xs.length 0 lo)
theorem cut_dvs {K : PySem.W.Frag} {ft : Cfg} {ρ : List Addr} {H : Hp} {ds : List D} {vs : List V} (lo hi : Option Int) (h : DVs K ft ρ H ds vs) : DVs K ft ρ H (cutD ds lo hi) (cutV vs lo hi) := by
  unfold cutD cutV
  rw [h.length]
  exact (h.drop _).take _
def slD : ODS := fun x lo hi C => match x with
  | .tup ds => some (.tup (cutD ds lo hi), C)
  | .scr ns => some (.cell C.length, C ++ [.lst (cutD (ns.map D.int) lo hi)])
  | .rol ds => some (.cell C.length, C ++ [.lst (cutD ds lo hi)])
  | .cell n => match C[n]? with | some (.lst ds) => some (.cell C.length, C ++ [.lst (cutD ds lo hi)]) | _ => none
  | .str z => if z.length ≤ sizeLine then some (.str (Txt.slice z lo hi), C) else none
  | _ => none
theorem cut_whole {α : Type} (ds : List α) {a b : Nat} (h1 : a = 0) (h2 : b = ds.length) : (ds.drop a).take (b - a) = ds := by subst h1; subst h2; simp
theorem ssl : SSl F slD := by
  refine ⟨_, fun X h => ((show SlR X (rSlA F.K) by rw [← h.K]; exact sl_tupA).or ((show SlR X (rSlL F.K) by rw [← h.K]; exact sl_list).or C8.sl_txt)), fun ρ C H x lo hi vx d C' Q R hx hm k => ?_⟩
  unfold slD at hm
  split at hm
  · cases hm
    cases hx with | tup h1 h2 =>
      refine .inl ⟨_, _, rfl, h1, fun z => ?_, fun _ p hp => ?_⟩
      · have e := cut_dvs lo hi h2
        have e2 : cutV _ lo hi = _ := cut_whole _ z.1 z.2
        rw [e2] at e
        exact k.now R (.tup h1 e)
      · exact k ρ _ _ (R.fresh hp) (Stp.fresh hp) (.tup (SqT.of upd_same) ((cut_dvs lo hi h2).mono (Stp.fresh hp)))
  · cases hm
    cases hx with | scr h1 =>
      refine .inr (.inl ⟨_, _, rfl, h1.1, fun p hp => ?_⟩)
      exact k _ _ _ (R.newL hp (cut_dvs lo hi (DVs.ints _))) (Stp.push hp) (DV.new R)
  · cases hm
    cases hx with | rol h1 h2 =>
      refine .inr (.inl ⟨_, _, rfl, .inl (.inr ⟨_, h1⟩), fun p hp => ?_⟩)
      exact k _ _ _ (R.newL hp (cut_dvs lo hi h2)) (Stp.push hp) (DV.new R)
  · split at hm
    · rename_i c1
      cases hm
      obtain ⟨p, vs, rfl, ep, e3, e4⟩ := R.lst c1 hx
      refine .inr (.inl ⟨_, _, rfl, SqL.of e3, fun p hp => ?_⟩)
      exact k _ _ _ (R.newL hp (cut_dvs lo hi e4)) (Stp.push hp) (DV.new R)
    · cases hm
  · split at hm
    · rename_i hl
      cases hm; cases hx
      exact .inr (.inr ⟨_, rfl, hl, k.now R (.str _)⟩)
    · cases hm
  · cases hm
end
end Mi
set_option Elab.async false
set_option linter.all false
set_option maxRecDepth 100000
set_option maxHeartbeats 4000000
namespace Mi
open PySem PySem.Spec PyProof.Rows L2
section
variable {F : Fm} {pos : Pos} {x : Str}
/-- a built-in type's name as a value -/
theorem se_ty (t : Ky) (hm : F.mg x = none) (hv : bootBuiltins x = some (.type t.nm)) (hg : F.sc.names.lookup x = some .globalImplicit := by rfl) (hn : x ≠ "__name__" := by decide) (hd : (x == ("__debug__" : Str)) = false := by decide) : SE F (.Name x pos) (mC (.ty t)) :=
  ⟨tC (.ty t.nm), fun X h => pe_bltn (h.gl hg) (by rw [h.mg]; exact hm) hv (show _ = _ from rfl) hn hd, fun ρ C H E σ d C' Q R eo hm k => by cases hm; exact k.now R (.ty _)⟩
def kyD (C : Hm) : D → Option Ky
  | .non => some .non
  | .bl _ => some .bl
  | .int _ => some .int
  | .str _ => some .str
  | .tup _ => some .tup
  | .scr _ => some .lst
  | .rol _ => some .lst
  | .cell n => match C[n]? with | some (.lst _) => some .lst | some (.dic _) => some .dic | _ => none
  | _ => none
theorem kyD_ok {ρ : List Addr} {H : Hp} {C : Hm} {d : D} {v : V} {t : Ky} (R : RelF F ρ H C) (h : DVF F ρ H d v) (e : kyD C d = some t) : TyX F.K H v (.type t.nm) := by
  have lst : ∀ {a xs}, SqL F.K H a xs → TyX F.K H (.ref a) (.type "list") := fun {a xs} q => by
    rcases q with (q | ⟨o, q⟩) | ⟨o, its, n, hk, hc, _⟩
    · exact .base (.lst q)
    · exact .base (.frz q)
    · exact .kList hk hc
  cases h with
  | non => cases e; exact .base .non
  | bl b => cases e; exact .base (.bl b)
  | int b => cases e; exact .base (.int b)
  | str b => cases e; exact .base (.str b)
  | tup h _ =>
    cases e
    rcases h with (q | ⟨o, q⟩) | ⟨o, its, n, hk, hc, _⟩
    · exact .base (.tup q)
    · exact .fTuple q
    · exact .kTuple hk hc
  | scr h => cases e; exact lst h.1
  | rol h r => cases e; exact lst (.inl (.inr ⟨_, h⟩))
  | fn n => cases e
  | ty t => cases e
  | @cell n a h =>
    unfold kyD at e
    simp only at e
    split at e
    · rename_i ds q
      cases e
      obtain ⟨a', vs, e1, e2, e3, e4⟩ := R.lst q (.cell h)
      cases e1
      exact .base (.lst e3)
    · rename_i ds q
      cases e
      obtain ⟨a', vs, e1, e2, e3, e4⟩ := R.dic q (.cell h)
      cases e1
      exact .base (.dK e3)
    · cases e
def isiK : Ky → Ky → Bool
  | .bl, .int => true
  | .non, .non => true
  | .bl, .bl => true
  | .int, .int => true
  | .str, .str => true
  | .tup, .tup => true
  | .lst, .lst => true
  | .dic, .dic => true
  | _, _ => false
theorem isiK_ok (a b : Ky) (hb : b ≠ .non) : kitB a.nm b.nm = some (isiK a b) := by
  cases a <;> cases b <;> first | exact absurd rfl hb | decide +kernel
def notNon : Ky → Bool
  | .non => false
  | _ => true
def isiD : ODL := fun xs C => match xs with
  | [x, .ty t] => match kyD C x with
    | some k => if notNon t = true then some (.bl (isiK k t), C) else none
    | none => none
  | _ => none
theorem sc_isi : SCall F (.builtin "isinstance") isiD := by
  refine ⟨rIsi F.K, fun X h => by have z := call_isi (X := X); rw [h.K] at z; exact z, fun ρ C H xs vs d C' Q R hx hm k => ?_⟩
  unfold isiD at hm
  split at hm
  · rename_i x t
    split at hm
    · rename_i kk q
      split at hm
      · rename_i hn
        cases hm
        cases hx with | cons h1 h2 => cases h2 with | cons h3 h4 => cases h4; cases h3; exact ⟨_, _, _, _, _, rfl, .ty _, kyD_ok R h1 q, kit_ty (isiK_ok kk t (by intro e; subst e; cases hn)), k.now R (.bl _)⟩
      · cases hm
    · cases hm
  · cases hm
def lenD : ODL := fun xs C => match xs with
  | [.str z] => if z.length ≤ sizeLine then some (.int z.length, C) else none
  | [.tup ds] => some (.int ds.length, C)
  | [.scr ds] => some (.int ds.length, C)
  | [.rol ds] => some (.int ds.length, C)
  | [.cell n] => match C[n]? with | some (.lst ds) => some (.int ds.length, C) | _ => none
  | _ => none
theorem sc_len : SCall F (.builtin "len") lenD := by
  refine ⟨fun xs H Q => ∃ x n, xs = [x] ∧ LenV F.K x H n ∧ Q (.int n) H, fun X h => by have z := call_len (X := X); rw [h.K] at z; exact z, fun ρ C H xs vs d C' Q R hx hm k => ?_⟩
  unfold lenD at hm
  split at hm
  · split at hm
    · rename_i hl
      cases hm
      cases hx with | cons h1 h2 => cases h2; cases h1; exact ⟨_, _, rfl, ⟨hl, rfl⟩, k.now R (.int _)⟩
    · cases hm
  · cases hm
    cases hx with | cons h1 h2 => cases h2; cases h1 with | tup h3 h4 => exact ⟨_, _, rfl, .inr ⟨_, h3, rfl⟩, by rw [← h4.length]; exact k.now R (.int _)⟩
  · cases hm
    cases hx with | cons h1 h2 => cases h2; cases h1 with | scr h3 => exact ⟨_, _, rfl, .inl ⟨_, h3.1, rfl⟩, by rw [List.length_map]; exact k.now R (.int _)⟩
  · cases hm
    cases hx with | cons h1 h2 => cases h2; cases h1 with | rol h3 h4 => exact ⟨_, _, rfl, .inl ⟨_, .inl (.inr ⟨_, h3⟩), rfl⟩, by rw [← h4.length]; exact k.now R (.int _)⟩
  · split at hm
    · rename_i ds q
      cases hm
      cases hx with | cons h1 h2 =>
        cases h2
        obtain ⟨p, vs, rfl, ep, e3, e4⟩ := R.lst q h1
        exact ⟨_, _, rfl, .inl ⟨_, SqL.of e3, rfl⟩, by rw [← e4.length]; exact k.now R (.int _)⟩
    · cases hm
  · cases hm
/-- the truth values of a list of them -/
def blsOf : List D → Option (List Bool)
  | [] => some []
  | .bl b :: ds => (blsOf ds).map (b :: ·)
  | _ :: _ => none
theorem blsOf_ok {K : PySem.W.Frag} {ft : Cfg} {ρ : List Addr} {H : Hp} : ∀ {ds : List D} {vs : List V} {bs : List Bool}, DVs K ft ρ H ds vs → blsOf ds = some bs → vs = bs.map V.bl
  | [], _, _, .nil, e => by cases e; rfl
  | d :: ds, _, bs, .cons h t, e => by
    cases d with
    | bl b =>
      obtain ⟨cs, e1, e2⟩ := omap (show (blsOf ds).map (b :: ·) = some bs from e)
      cases e2
      cases h
      rw [blsOf_ok t e1]
      rfl
    | _ => cases e
def allD (f : List Bool → Bool) : ODL := fun xs C => match xs with
  | [x] => (lstOf C x).bind fun ds => (blsOf ds).map fun bs => (.bl (f bs), C)
  | _ => none
theorem allD_ok {id : String} {f : List Bool → Bool} (h : ∀ X, F.Is X → CallR X (.builtin id) (fun vs H Q => ∃ (a : Addr) (bs : List Bool), vs = [V.ref a] ∧ SqL F.K H a (bs.map V.bl) ∧ Q (.bl (f bs)) H)) : SCall F (.builtin id) (allD f) := by
  refine ⟨_, h, fun ρ C H xs vs d C' Q R hx hm k => ?_⟩
  unfold allD at hm
  split at hm
  · obtain ⟨ds, q, hm⟩ := obind hm
    obtain ⟨bs, e1, e2⟩ := omap hm
    cases e2
    cases hx with | cons h1 h2 =>
      cases h2
      obtain ⟨p, vs, rfl, e3, e4⟩ := lstOf_ok R h1 q
      exact ⟨_, _, rfl, by rw [← blsOf_ok e4 e1]; exact .inl e3, k.now R (.bl _)⟩
  · cases hm
theorem sc_all : SCall F (.builtin "all") (allD fun bs => bs.all id) := allD_ok fun X h => by have z := cr_all (X := X) h.calm; unfold rAll at z; rw [h.K] at z; exact z
theorem sc_any : SCall F (.builtin "any") (allD fun bs => bs.any id) := allD_ok fun X h => by have z := cr_any (X := X) h.calm; unfold rAny at z; rw [h.K] at z; exact z
def ordC : ODL := fun xs C => match xs with
  | [.str z] => if z.length = 1 then some (.int (z.cps.getD 0 0 : Nat), C) else none
  | _ => none
theorem sc_ord : SCall F (.builtin "ord") ordC := by
  refine ⟨_, fun X h => call_ord, fun ρ C H xs vs d C' Q R hx hm k => ?_⟩
  unfold ordC at hm
  split at hm
  · split at hm
    · rename_i hl
      cases hm
      cases hx with | cons h1 h2 => cases h2; cases h1; exact ⟨_, rfl, hl, k.now R (.int _)⟩
    · cases hm
  · cases hm
def intC : ODL := fun xs C => match xs with
  | [.int i] => some (.int i, C)
  | [.bl b] => some (.int (if b then 1 else 0), C)
  | _ => none
theorem sc_int : SCall F (.type "int") intC := by
  refine ⟨_, fun X h => call_int1, fun ρ C H xs vs d C' Q R hx hm k => ?_⟩
  unfold intC at hm
  split at hm
  · cases hm; cases hx with | cons h1 h2 => cases h2; cases h1; exact .inl ⟨_, rfl, k.now R (.int _)⟩
  · cases hm; cases hx with | cons h1 h2 => cases h2; cases h1; exact .inr ⟨_, rfl, k.now R (.int _)⟩
  · cases hm
/-! ## repr -/
def rRepr (K : PySem.W.Frag) : List V → Hp → VK → Prop := fun vs H Q => ∃ v p, vs = [v] ∧ Dp K H v p ∧ p.showable = true ∧ p.depth ≤ 64 ∧ p.shown.length ≤ sizeLine ∧ Q (.str p.shown) H
theorem dp_nodict {K : PySem.W.Frag} {H : Hp} : (∀ {v : V} {p : PyData}, Dp K H v p → p.hasDict = false) ∧ ∀ {vs : List V} {ps : List PyData}, DpAll K H vs ps → PyData.hasDictAll ps = false := by
  have a : ∀ {v : V} {p : PyData}, Dp K H v p → p.hasDict = false := by
    intro v p h
    induction h using Dp.rec (motive_2 := fun vs ps _ => PyData.hasDictAll ps = false) with
    | non => rfl
    | bl b => rfl
    | int i => rfl
    | str x => rfl
    | lst _ _ ih => exact ih
    | tup _ _ ih => exact ih
    | nil => rfl
    | cons _ _ a b => simp only [PyData.hasDictAll, a, b, Bool.or_self]
  refine ⟨a, fun {vs ps} h => ?_⟩
  induction ps generalizing vs with
  | nil => rfl
  | cons p ps ih => cases h with | cons h t => simp only [PyData.hasDictAll, a h, ih t, Bool.or_self]
theorem call_repr {X : Cx} (hg : X.A.guards = some []) (hu : X.A.units + 66 < cLine) : CallR X (.builtin "repr") (rRepr X.K) := by
  intro pins s σ H xs us Q I r h
  obtain ⟨v, p, rfl, hd, sh, dp, hl, q⟩ := h
  obtain ⟨u, rfl, rv⟩ := vals1 r
  obtain ⟨as, rd⟩ := Dp.reads I p v u hd rv
  have nd := dp_nodict.1 hd
  cases hd with
  | non => cases (show u = Value.none from rv); exact PySem.P.repr_of_none ⟨.str _, H, I.tok _, ⟨_, rfl⟩, q⟩
  | bl b => cases (show u = Value.bool b from rv); exact PySem.P.repr_of_bool ⟨.str _, H, I.tok _, ⟨_, rfl⟩, q⟩
  | int i =>
    obtain ⟨t, e⟩ := (show ∃ t, u = Value.int i t from rv)
    subst e
    exact PySem.P.repr_of_int (of_decide_eq_true sh) ⟨.str _, H, I.tok _, ⟨_, rfl⟩, q⟩
  | str y =>
    obtain ⟨t, e⟩ := (show ∃ t, u = Value.str y t from rv)
    subst e
    exact PySem.P.repr_of_str ⟨.str _, H, I.tok _, ⟨_, rfl⟩, q⟩ hl
  | lst _ _ =>
    cases rv
    exact repr_of_reads' rd sh (fun e => by rw [nd] at e; cases e) hg (by omega) (fun _ _ e => e) (fun h' t tk kp => ⟨.str _, H, I.kept (t' := tk) kp, ⟨_, rfl⟩, q⟩) hl
  | tup _ _ =>
    cases rv
    exact repr_of_reads' rd sh (fun e => by rw [nd] at e; cases e) hg (by omega) (fun _ _ e => e) (fun h' t tk kp => ⟨.str _, H, I.kept (t' := tk) kp, ⟨_, rfl⟩, q⟩) hl
def reprD : ODL := fun xs C => match xs with
  | [x] => match py C 70 x with
    | some p => if p.showable = true ∧ p.depth ≤ 64 ∧ p.shown.length ≤ sizeLine then some (.str p.shown, C) else none
    | none => none
  | _ => none
theorem Room.u66 {k : Nat} {A : Around} (r : Room k A) : A.units + 66 < cLine := by have := r.un; omega
theorem sc_repr : SCall F (.builtin "repr") reprD := by
  refine ⟨rRepr F.K, fun X h => by have z := call_repr h.gu (Room.u66 h.rm); rw [h.K] at z; exact z, fun ρ C H xs vs d C' Q R hx hm k => ?_⟩
  unfold reprD at hm
  split at hm
  · split at hm
    · rename_i p e
      split at hm
      · rename_i hc
        cases hm
        cases hx with | cons h1 h2 => cases h2; exact ⟨_, _, rfl, py_ok R _ h1 e, hc.1, hc.2.1, hc.2.2, k.now R (.str _)⟩
      · cases hm
    · cases hm
  · cases hm
/-! ## list, tuple, sorted, str -/
def seqOf (C : Hm) : D → Option (List D)
  | .tup ds => some ds
  | .scr ns => some (ns.map D.int)
  | .rol ds => some ds
  | .cell n => match C[n]? with | some (.lst ds) => some ds | _ => none
  | _ => none
theorem seqOf_ok {ρ : List Addr} {H : Hp} {C : Hm} {d : D} {v : V} {ds : List D} (R : RelF F ρ H C) (h : DVF F ρ H d v) (e : seqOf C d = some ds) : ∃ a vs, v = .ref a ∧ (SqL F.K H a vs ∨ SqT F.K H a vs) ∧ DVsF F ρ H ds vs := by
  cases d with
  | tup ds => cases e; cases h with | tup h1 h2 => exact ⟨_, _, rfl, .inr h1, h2⟩
  | scr ns => cases e; cases h with | scr h1 => exact ⟨_, _, rfl, .inl h1.1, DVs.ints _⟩
  | rol ds => cases e; cases h with | rol h1 h2 => exact ⟨_, _, rfl, .inl (.inl (.inr ⟨_, h1⟩)), h2⟩
  | cell n =>
    unfold seqOf at e
    simp only at e
    split at e
    · rename_i ds q
      cases e
      obtain ⟨p, vs, rfl, ep, e3, e4⟩ := R.lst q h
      exact ⟨_, _, rfl, .inl (SqL.of e3), e4⟩
    · cases e
  | _ => cases e
def listD : ODL := fun xs C => match xs with
  | [x] => (seqOf C x).map fun ds => (.cell C.length, C ++ [.lst ds])
  | _ => none
theorem sc_list : SCall F (.type "list") listD := by
  refine ⟨fun xs H Q => ∃ p ys, xs = [.ref p] ∧ (SqL F.K H p ys ∨ SqT F.K H p ys) ∧ ∀ l, H l = none → Q (.ref l) (upd H l (.lst ys)), fun X h => by have z := call_list_of (X := X); rw [h.K] at z; exact z, fun ρ C H xs vs d C' Q R hx hm k => ?_⟩
  unfold listD at hm
  split at hm
  · obtain ⟨ds, e1, e2⟩ := omap hm
    cases e2
    cases hx with | cons h1 h2 =>
      cases h2
      obtain ⟨a, vs, rfl, hs, hd⟩ := seqOf_ok R h1 e1
      exact ⟨_, _, rfl, hs, fun p hp => k _ _ _ (R.newL hp hd) (Stp.push hp) (DV.new R)⟩
  · cases hm
def tupleD : ODL := fun xs C => match xs with
  | [x] => (seqOf C x).map fun ds => (.tup ds, C)
  | _ => none
theorem sc_tuple : SCall F (.type "tuple") tupleD := by
  refine ⟨fun xs H Q => ∃ p ys, xs = [.ref p] ∧ ((SqL F.K H p ys ∧ ∀ l, H l = none → Q (.ref l) (upd H l (.tup ys))) ∨ (SqT F.K H p ys ∧ Q (.ref p) H)), fun X h => by have z := call_tuple_of (X := X); rw [h.K] at z; exact z, fun ρ C H xs vs d C' Q R hx hm k => ?_⟩
  unfold tupleD at hm
  split at hm
  · obtain ⟨ds, e1, e2⟩ := omap hm
    cases e2
    cases hx with | cons h1 h2 =>
      cases h2
      obtain ⟨a, vs, rfl, hs, hd⟩ := seqOf_ok R h1 e1
      refine ⟨_, vs, rfl, ?_⟩
      rcases hs with hs | hs
      · exact .inl ⟨hs, fun p hp => k ρ _ _ (R.fresh hp) (Stp.fresh hp) (.tup (SqT.of upd_same) (hd.mono (Stp.fresh hp)))⟩
      · exact .inr ⟨hs, k.now R (.tup hs hd)⟩
  · cases hm
end
end Mi
set_option Elab.async false
set_option linter.all false
set_option maxRecDepth 100000
set_option maxHeartbeats 4000000
namespace Mi
open PySem PySem.Spec PyProof.Rows L2
section
variable {F : Fm} {a b c e o tg iter value : Expr} {es : List Expr} {pos pos' p : Pos} {x y : Str} {i j : Nat} {ma mb mc me mo mv mi : ME} {mt mu : MT} {ml : MA}
/-! ## dicts -/
def keyD : D → Option Key
  | .int i => some (.inl i)
  | .str x => some (.inr x)
  | _ => none
theorem keyD_ok {ρ : List Addr} {H : Hp} {d : D} {v : V} {k : Key} (h : DVF F ρ H d v) (e : keyD d = some k) : v = kV k := by
  cases h <;> cases e <;> rfl
def valD (kvs : List (Key × D)) (k : Key) : Option D := (kvs.find? fun kv => decide (kv.1 = k)).map (·.2)
def putD (kvs : List (Key × D)) (k : Key) (v : D) : List (Key × D) := if (valD kvs k).isSome = true then kvs.map fun kv => if kv.1 = k then (kv.1, v) else kv else kvs ++ [(k, v)]
abbrev DKs (F : Fm) (ρ : List Addr) (H : Hp) : List (Key × D) → List (Key × V) → Prop := Paired fun (p : Key × D) (q : Key × V) => p.1 = q.1 ∧ DVF F ρ H p.2 q.2
theorem valD_ok {ρ : List Addr} {H : Hp} {k : Key} : ∀ {kvs : List (Key × D)} {ws : List (Key × V)}, DKs F ρ H kvs ws → (∀ d, valD kvs k = some d → ∃ v, valV ws k = some v ∧ DVF F ρ H d v) ∧ (valD kvs k = none → valV ws k = none)
  | _, _, .nil => ⟨(fun d h => by simp [valD] at h), (fun _ => rfl)⟩
  | p :: kvs, q :: ws, .cons h t => by
    have ih := valD_ok (k := k) t
    by_cases hk : p.1 = k
    · have hq : q.1 = k := h.1 ▸ hk
      refine ⟨fun d e => ?_, fun e => ?_⟩
      · rw [valV_pos hq]
        have e' : valD (p :: kvs) k = some p.2 := by simp [valD, List.find?_cons, hk]
        rw [e'] at e
        cases e
        exact ⟨_, rfl, h.2⟩
      · simp [valD, List.find?_cons, hk] at e
    · have hq : ¬ q.1 = k := h.1 ▸ hk
      have e' : valD (p :: kvs) k = valD kvs k := by simp [valD, List.find?_cons, hk]
      rw [e', valV_neg hq]
      exact ih
theorem putD_ok {ρ : List Addr} {H : Hp} {k : Key} {d : D} {v : V} {kvs : List (Key × D)} {ws : List (Key × V)} (h : DKs F ρ H kvs ws) (hd : DVF F ρ H d v) : DKs F ρ H (putD kvs k d) (putK ws k v) := by
  have hv := valD_ok (k := k) h
  unfold putD putK
  rw [valV_any]
  have snoc : ∀ {kvs : List (Key × D)} {ws : List (Key × V)}, DKs F ρ H kvs ws → DKs F ρ H (kvs ++ [(k, d)]) (ws ++ [(k, v)]) := by
    intro kvs ws h
    induction h with
    | nil => exact .cons ⟨rfl, hd⟩ .nil
    | cons z _ ih => exact .cons z ih
  have repl : ∀ {kvs : List (Key × D)} {ws : List (Key × V)}, DKs F ρ H kvs ws → DKs F ρ H (kvs.map fun kv => if kv.1 = k then (kv.1, d) else kv) (ws.map fun kv => if kv.1 = k then (kv.1, v) else kv) := by
    intro kvs ws h
    induction h with
    | nil => exact .nil
    | @cons p q _ _ z _ ih =>
      refine .cons ?_ ih
      by_cases hk : p.1 = k
      · dsimp only; rw [if_pos hk, if_pos (z.1 ▸ hk)]; exact ⟨z.1, hd⟩
      · dsimp only; rw [if_neg hk, if_neg (z.1 ▸ hk)]; exact z
  cases q : valD kvs k with
  | none =>
    rw [hv.2 q]
    simp only [Option.isSome_none, Bool.false_eq_true, if_false]
    exact snoc h
  | some z =>
    obtain ⟨w, e1, _⟩ := hv.1 z q
    rw [e1]
    simp only [Option.isSome_some, if_true]
    exact repl h
def dgetD : OD2 := fun x y C => match x with
  | .cell n => match C[n]? with | some (.dic kvs) => (keyD y).bind fun k => (valD kvs k).map fun d => (d, C) | _ => none
  | _ => none
theorem Room.u1 {k : Nat} {A : Around} (r : Room k A) : A.units + 1 < cLine := by have := r.un; omega
theorem se_dget (ho : SE F o mo) (hi : SE F e mi) (hs : NoSl e := by intro _ _; rfl) : SE F (.Subscript o e pos) (mBin dgetD mo mi) := by
  obtain ⟨to, po, so⟩ := ho
  obtain ⟨ti, pi, si⟩ := hi
  refine ⟨_, fun X h => pe_dget (Room.u1 h.rm) (po X h) (pi X h) hs, fun ρ C H E σ d C' Q R eo hm k => ?_⟩
  obtain ⟨⟨x, C1⟩, h1, hm⟩ := obind hm
  obtain ⟨⟨y, C2⟩, h2, hm⟩ := obind hm
  refine so ρ C H E σ x C1 _ R eo h1 fun ρ1 H1 v1 R1 s1 d1 => ?_
  refine si ρ1 C1 H1 E σ y C2 _ R1 (eo.mono s1) h2 fun ρ2 H2 v2 R2 s2 d2 => ?_
  simp only at hm
  unfold dgetD at hm
  split at hm
  · split at hm
    · rename_i kvs q
      obtain ⟨kk, e1, hm⟩ := obind hm
      obtain ⟨z, e2, e3⟩ := omap hm
      cases e3
      obtain ⟨p, ws, rfl, ep, e4, e5⟩ := R2.dic q (d1.mono s2)
      obtain ⟨v, e6, e7⟩ := (valD_ok (k := kk) e5).1 _ e2
      rw [keyD_ok d2 e1]
      exact ⟨p, v, rfl, by rw [← e6]; exact DGet.k e4, (k.step (s1.trans s2)).now R2 e7⟩
    · cases hm
  · cases hm
def mDPut (mv mo mi : ME) : MS := fun E C => (mv E C).bind fun r => (mo E r.2).bind fun p => (mi E p.2).bind fun q => match p.1 with
  | .cell n => match q.2[n]? with
    | some (.dic kvs) => (keyD q.1).bind fun k => if kvs.length < sizeLine then some (.nx E (q.2.set n (.dic (putD kvs k r.1)))) else none
    | _ => none
  | _ => none
theorem DKs.len {ρ : List Addr} {H : Hp} {kvs : List (Key × D)} {ws : List (Key × V)} (h : DKs F ρ H kvs ws) : kvs.length = ws.length := Paired.length h
theorem ss_dput (ho : SE F o mo) (hi : SE F e mi) (hv : SE F value mv) (hs : ∀ env : Env, swapsWith value (some (.Subscript o e pos')) pos.line env = pure false := by intro _; rfl) : SS F (.Assign [.Subscript o e pos'] value pos) (mDPut mv mo mi) := by
  obtain ⟨to, po, so⟩ := ho
  obtain ⟨ti, pi, si⟩ := hi
  obtain ⟨tv, pv, sv⟩ := hv
  refine ⟨_, fun X h => ps_dput (Room.u1 h.rm) (po X h) (pi X h) (pv X h) (hs _), fun ρ C H E σ o Z R eo hm k => ?_⟩
  obtain ⟨⟨r, C0⟩, h0, hm⟩ := obind hm
  obtain ⟨⟨x, C1⟩, h1, hm⟩ := obind hm
  obtain ⟨⟨y, C2⟩, h2, hm⟩ := obind hm
  refine sv ρ C H E σ r C0 _ R eo h0 fun ρ0 H0 v0 R0 s0 d0 => ?_
  refine so ρ0 C0 H0 E σ x C1 _ R0 (eo.mono s0) h1 fun ρ1 H1 v1 R1 s1 d1 => ?_
  refine si ρ1 C1 H1 E σ y C2 _ R1 (eo.mono (s0.trans s1)) h2 fun ρ2 H2 v2 R2 s2 d2 => ?_
  simp only at hm
  split at hm
  · split at hm
    · rename_i n kvs q
      obtain ⟨kk, e1, hm⟩ := obind hm
      split at hm
      · rename_i hl
        cases hm
        obtain ⟨p, ws, rfl, ep, e4, e5⟩ := R2.dic q (d1.mono s2)
        rw [keyD_ok d2 e1]
        have st := Stp.write (o := .dK (putK ws kk v0)) R2 ep q
        refine ⟨p, _, rfl, DPut.k e4 (by rw [← DKs.len e5]; exact hl), ?_⟩
        have s := ((s0.trans s1).trans s2).trans st
        refine k ρ2 _ σ (R2.write ep q ⟨_, upd_same, ?_⟩) s (eo.mono s)
        exact Paired.mapP (putD_ok e5 (d0.mono (s1.trans s2))) fun p q z => ⟨z.1, z.2.mono st⟩
      · cases hm
    · cases hm
  · cases hm
/-- {'a': e, ..} with written texts as keys -/
def SDs (F : Fm) (pos : Pos) (ks : List (Option Expr)) (vs : List Expr) (names : List Str) (m : MA) : Prop := ∃ trs, (∀ X, F.Is X → PPs X pos ks vs trs) ∧ ∀ ρ C H E σ ds C' Q, RelF F ρ H C → EnvF F ρ H E σ → m E C = some (ds, C') →
  (∀ ρ' H' vs, RelF F ρ' H' C' → Stp ρ H ρ' H' → DVsF F ρ' H' ds vs → ds.length = names.length → Q ((names.map V.str).zip vs) H') → tPairs trs σ H Q
theorem sds_nil : SDs F pos [] [] [] mNil := ⟨[], fun _ _ => pps_nil, fun ρ C H E σ ds C' Q R eo hm k => by cases hm; exact k ρ H [] R .refl .nil rfl⟩
theorem sds_cons {z : Str} {n : Nat} {kp : Pos} {ks : List (Option Expr)} {vs : List Expr} {names : List Str} {m : MA} (he : SE F e me) (hr : SDs F pos ks vs names m) : SDs F pos (some (.Constant (.str z) n kp) :: ks) (e :: vs) (z :: names) (mCons me m) := by
  obtain ⟨t, p, s⟩ := he
  obtain ⟨trs, q, r⟩ := hr
  refine ⟨(tC (.str z), t) :: trs, fun X h => pps_cons pe_str (p X h) (q X h), fun ρ C H E σ ds C' Q R eo hm k => ?_⟩
  obtain ⟨⟨x, C1⟩, h1, hm⟩ := obind hm
  obtain ⟨⟨ys, C2⟩, h2, hm⟩ := obind hm
  cases hm
  refine s ρ C H E σ x C1 _ R eo h1 fun ρ1 H1 v1 R1 s1 d1 => ?_
  refine r ρ1 C1 H1 E σ ys C2 _ R1 (eo.mono s1) h2 fun ρ2 H2 vs R2 s2 d2 hl => ?_
  exact k ρ2 H2 (v1 :: vs) R2 (s1.trans s2) (.cons (d1.mono s2) d2) (by simp [hl])
def mDisp (names : List Str) (m : MA) : ME := fun E C => (m E C).bind fun p => some (.cell p.2.length, p.2 ++ [.dic ((names.zip p.1).map fun q => (Sum.inr q.1, q.2))])
theorem merge_new : ∀ (more kvs : List (Key × V)), (kvs.map (·.1) ++ more.map (·.1)).Nodup → mergeK kvs more = kvs ++ more
  | [], kvs, _ => by simp [mergeK]
  | p :: more, kvs, h => by
    have hn : valV kvs p.1 = none := by
      cases q : valV kvs p.1 with
      | none => rfl
      | some v =>
        have : p.1 ∈ kvs.map (·.1) := by
          unfold valV at q
          cases r : kvs.find? (fun kv => decide (kv.1 = p.1)) with
          | none => rw [r] at q; cases q
          | some kv =>
            have h1 := List.find?_some r
            have h2 := List.mem_of_find?_eq_some r
            exact List.mem_map.mpr ⟨kv, h2, of_decide_eq_true h1⟩
        rw [List.nodup_append] at h
        exact absurd rfl (h.2.2 p.1 this p.1 (by simp))
    have e : mergeK kvs (p :: more) = mergeK (putK kvs p.1 p.2) more := rfl
    rw [e, putK_new _ hn, merge_new more (kvs ++ [(p.1, p.2)]) (by simpa using h)]
    simp
theorem se_disp {ks : List (Option Expr)} {vs : List Expr} {names : List Str} {m : MA} (h : SDs F pos ks vs names m) (hall : ks.all (·.isSome) = true) (hl : ks.length = vs.length) (h0 : ks ≠ []) (h15 : ks.length ≤ 15) (hn : names.Nodup) (hc : names.length ≤ 15) : SE F (.Dict ks vs pos) (mDisp names m) := by
  obtain ⟨trs, q, r⟩ := h
  refine ⟨tDisp trs, fun X h => pe_disp (q X h) hall hl h0 h15, fun ρ C H E σ d C' Q R eo hm k => ?_⟩
  obtain ⟨⟨ds, C1⟩, h1, hm⟩ := obind hm
  cases hm
  intro P hP
  refine r ρ C (upd H P (.dK [])) E σ ds C1 _ (R.fresh hP) (eo.mono (Stp.fresh hP)) h1 fun ρ1 H1 vs R1 s1 d1 hlen => ?_
  have nP : P ∉ ρ := R.out hP
  have eP : H1 P = some (.dK []) := s1.keep P _ upd_same nP
  have nP1 : P ∉ ρ1 := fun z => by
    obtain ⟨t, et, ht⟩ := s1.pre
    rw [et] at z
    rcases List.mem_append.mp z with z | z
    · exact nP z
    · have := ht P z; rw [upd_same] at this; cases this
  have lv : vs.length = names.length := by rw [← d1.length, hlen]
  have zipEq : (names.map V.str).zip vs = ((names.zip vs).map fun q => ((Sum.inr q.1 : Key), q.2)).map fun kv => (kV kv.1, kv.2) := by
    rw [List.map_map, List.zip_map_left]
    rfl
  refine ⟨eP, (names.zip vs).map fun q => ((Sum.inr q.1 : Key), q.2), zipEq, by rw [List.length_map, List.length_zip, lv]; omega, ?_⟩
  have mg : mergeK [] ((names.zip vs).map fun q => ((Sum.inr q.1 : Key), q.2)) = (names.zip vs).map fun q => ((Sum.inr q.1 : Key), q.2) := by
    rw [merge_new]
    · rfl
    · have e : ((names.zip vs).map fun q => ((Sum.inr q.1 : Key), q.2)).map (·.1) = names.map fun z => (Sum.inr z : Key) := by
        rw [List.map_map]
        have : (names.zip vs).map ((fun z => (Sum.inr z : Key)) ∘ Prod.fst) = names.map fun z => (Sum.inr z : Key) := by
          rw [← List.map_map, List.map_fst_zip (by omega)]
        exact this
      simp only [List.map_nil, List.nil_append, e]
      exact List.Pairwise.map _ (fun a b hab q => hab (Sum.inr.inj q)) hn
  rw [mg]
  have w1 : Wk ρ1 H1 ρ1 (upd H1 P (.dK ((names.zip vs).map fun q => ((Sum.inr q.1 : Key), q.2)))) := ⟨fun h => h, fun b xs e => by rw [upd_ne (show b ≠ P from fun z => by rw [z, eP] at e; cases e)]; exact e, fun b ob u e => by rw [upd_ne (show b ≠ P from fun z => by rw [z, eP] at e; cases e)]; exact e⟩
  have R2 : RelF F ρ1 (upd H1 P (.dK ((names.zip vs).map fun q => ((Sum.inr q.1 : Key), q.2)))) C1 := by
    refine ⟨R1.len, R1.nd, fun n c q => ?_⟩
    obtain ⟨a, ha, kk⟩ := R1.ok n c q
    have ne : a ≠ P := fun z => nP1 (z ▸ List.mem_of_getElem? ha)
    refine ⟨a, ha, ?_⟩
    cases c with
    | lst ds => obtain ⟨ws, q, r⟩ := kk; exact ⟨ws, (upd_ne ne).trans q, DVs.monoW w1 r⟩
    | dic ks => obtain ⟨ws, q, r⟩ := kk; exact ⟨ws, (upd_ne ne).trans q, Paired.mapP r fun p q z => ⟨z.1, DV.monoW w1 z.2⟩⟩
    | dix ks => obtain ⟨es, q, r⟩ := kk; exact ⟨es, (upd_ne ne).trans q, r.monoW w1⟩
    | dxl ks => obtain ⟨es, o, q, r⟩ := kk; exact ⟨es, o, (upd_ne ne).trans q, r.monoW w1⟩
    | tab n => exact ⟨kk.1, kk.2.upd eP (by first | exact code_dK | exact code_lst) ne⟩
  have d2 := DVs.monoW w1 d1
  refine k (ρ1 ++ [P]) _ (.ref P) (R2.push nP1 ⟨_, upd_same, ?_⟩) ?_ (DV.new R2)
  · have go : ∀ {names : List Str} {ds : List D} {vs : List V} {H2 : Hp}, DVsF F ρ1 H2 ds vs → Paired (fun (p : Key × D) (q : Key × V) => p.1 = q.1 ∧ DV F.K F.ft ρ1 H2 p.2 q.2) ((names.zip ds).map fun q => (Sum.inr q.1, q.2)) ((names.zip vs).map fun q => (Sum.inr q.1, q.2)) := by
      intro names
      induction names with
      | nil => intro ds vs H2 h; exact .nil
      | cons z names ih =>
        intro ds vs H2 h
        cases h with
        | nil => exact .nil
        | cons a t => exact .cons ⟨rfl, a⟩ (ih t)
    exact go d2
  · have s := s1
    obtain ⟨t, e, ht⟩ := s.pre
    have ne : ∀ b u, H b = some u → b ≠ P := fun b u e z => by rw [z, hP] at e; cases e
    refine ⟨⟨t ++ [P], by rw [e, List.append_assoc], fun b hb => ?_⟩, fun b u e hb => ?_, fun b u e => ?_, fun b xs e => ?_, fun b ob u e => ?_⟩
    · rcases List.mem_append.mp hb with z | z
      · have := ht b z
        by_cases hbP : b = P
        · subst hbP; exact hP
        · rw [upd_ne hbP] at this; exact this
      · have z : b = P := by simpa using z
        subst z; exact hP
    · rw [upd_ne (ne b u e)]; exact s.keep b u (by rw [upd_ne (ne b u e)]; exact e) hb
    · rw [upd_ne (ne b u e)]; exact s.there b u (by rw [upd_ne (ne b u e)]; exact e)
    · rw [upd_ne (ne b _ e)]; exact s.tups b xs (by rw [upd_ne (ne b _ e)]; exact e)
    · rw [upd_ne (ne b _ e)]; exact s.frzs b ob u (by rw [upd_ne (ne b _ e)]; exact e)
/-! ## sorted of ints -/
def insI (n : Int) : List Int → List Int
  | [] => [n]
  | m :: r => if n ≤ m then n :: m :: r else m :: insI n r
def sortI : List Int → List Int
  | [] => []
  | n :: r => insI n (sortI r)
theorem insI_perm (n : Int) : ∀ l : List Int, (insI n l).Perm (n :: l)
  | [] => .refl _
  | m :: r => by
    unfold insI
    split
    · exact .refl _
    · exact ((insI_perm n r).cons m).trans (.swap n m r)
theorem sortI_perm : ∀ l : List Int, (sortI l).Perm l
  | [] => .refl _
  | n :: r => (insI_perm n (sortI r)).trans ((sortI_perm r).cons n)
theorem insI_up (n : Int) : ∀ {l : List Int}, l.Pairwise (· ≤ ·) → (insI n l).Pairwise (· ≤ ·)
  | [], _ => by simp [insI]
  | m :: r, h => by
    unfold insI
    have h' := List.pairwise_cons.mp h
    split
    · rename_i hle
      refine List.pairwise_cons.mpr ⟨fun b hb => ?_, h⟩
      rcases List.mem_cons.mp hb with e | e
      · exact e ▸ hle
      · exact Int.le_trans hle (h'.1 b e)
    · rename_i hle
      refine List.pairwise_cons.mpr ⟨fun b hb => ?_, insI_up n h'.2⟩
      have := (insI_perm n r).mem_iff.mp hb
      rcases List.mem_cons.mp this with e | e
      · subst e; omega
      · exact h'.1 b e
theorem sortI_up : ∀ l : List Int, (sortI l).Pairwise (· ≤ ·)
  | [] => .nil
  | n :: r => insI_up n (sortI_up r)
def intsOf : List D → Option (List Int)
  | [] => some []
  | .int b :: ds => (intsOf ds).map (b :: ·)
  | _ :: _ => none
theorem intsOf_ok {K : PySem.W.Frag} {ft : Cfg} {ρ : List Addr} {H : Hp} : ∀ {ds : List D} {vs : List V} {bs : List Int}, DVs K ft ρ H ds vs → intsOf ds = some bs → vs = bs.map V.int
  | [], _, _, .nil, e => by cases e; rfl
  | d :: ds, _, bs, .cons h t, e => by
    cases d with
    | int b =>
      obtain ⟨cs, e1, e2⟩ := omap (show (intsOf ds).map (b :: ·) = some bs from e)
      cases e2
      cases h
      rw [intsOf_ok t e1]
      rfl
    | _ => cases e
def sortedD : ODL := fun xs C => match xs with
  | [x] => (lstOf C x).bind fun ds => (intsOf ds).map fun ns => (.cell C.length, C ++ [.lst ((sortI ns).map D.int)])
  | _ => none
theorem sc_sorted : SCall F (.builtin "sorted") sortedD := by
  refine ⟨rSortedI F.K, fun X h => by have z := cr_sortedI (X := X); rw [h.K] at z; exact z, fun ρ C H xs vs d C' Q R hx hm k => ?_⟩
  unfold sortedD at hm
  split at hm
  · obtain ⟨ds, q, hm⟩ := obind hm
    obtain ⟨ns, e1, e2⟩ := omap hm
    cases e2
    cases hx with | cons h1 h2 =>
      cases h2
      obtain ⟨p, vs, rfl, e3, e4⟩ := lstOf_ok R h1 q
      have ev := intsOf_ok e4 e1
      subst ev
      refine ⟨_, ns, rfl, .inl e3, fun ns' r hp hup hr => ?_⟩
      have : ns' = sortI ns := PySem.W.ksm_same (hp.trans (sortI_perm ns).symm) hup (sortI_up ns)
      subst this
      exact k _ _ _ (R.newL hr (DVs.ints _)) (Stp.push hr) (DV.new R)
  · cases hm
end
end Mi
set_option Elab.async false
set_option linter.all false
set_option maxRecDepth 100000
set_option maxHeartbeats 4000000
namespace Mi
open PySem PySem.Spec PyProof.Rows L2
section
variable {F : Fm} {a b c e o tg iter value : Expr} {es : List Expr} {pos pos' p : Pos} {x y : Str} {i j : Nat} {ma mb mc me mo mv mi : ME} {mt mu : MT} {ml : MA}
/-! ## list(range(..)), tuple(range(..)) -/
def rgOkB (a b : Int) : Bool := decide (-(2 ^ 62) ≤ a ∧ a < 2 ^ 62 ∧ -(2 ^ 62) ≤ b ∧ b < 2 ^ 62 ∧ (b - a).toNat ≤ 2 ^ 24)
abbrev MR := Ev → Hm → Option (Int × Int × Hm)
def SR (F : Fm) (e : Expr) (m : MR) : Prop := ∃ t, (∀ X, F.Is X → PRg X e t) ∧ ∀ ρ C H E σ a b C' Q, RelF F ρ H C → EnvF F ρ H E σ → m E C = some (a, b, C') → (∀ ρ' H', RelF F ρ' H' C' → Stp ρ H ρ' H' → Q a b H') → t σ H Q
def mR1 (m : ME) : MR := fun E C => match m E C with | some (.int n, C') => some (0, n, C') | _ => none
def mR2 (m n : ME) : MR := fun E C => match m E C with | some (.int i, C1) => (match n E C1 with | some (.int j, C2) => some (i, j, C2) | _ => none) | _ => none
theorem sr_1 {p : Pos} (hm : F.mg "range" = none) (ha : SE F a ma) (hg : F.sc.names.lookup (Str.ofString "range") = some .globalImplicit := by rfl) (na : ∀ env : Env, starEach [a] env = (false, eval a env) :: starEach [] env := by intro _; rfl) : SR F (.Call (.Name "range" p) [a] [] pos) (mR1 ma) := by
  obtain ⟨t, q, s⟩ := ha
  refine ⟨tRg1 t, fun X h => prg_1 (h.gl hg) (by rw [h.mg]; exact hm) (q X h) (na _), fun ρ C H E σ a b C' Q R eo hm k => ?_⟩
  unfold mR1 at hm
  split at hm
  · rename_i n C1 q1
    cases hm
    exact s ρ C H E σ _ _ _ R eo q1 fun ρ1 H1 v R1 s1 d1 => by cases d1; exact ⟨_, rfl, k ρ1 H1 R1 s1⟩
  · cases hm
theorem sr_2 {p : Pos} (hm : F.mg "range" = none) (ha : SE F a ma) (hb : SE F b mb) (hg : F.sc.names.lookup (Str.ofString "range") = some .globalImplicit := by rfl) (na : ∀ env : Env, starEach [a, b] env = (false, eval a env) :: starEach [b] env := by intro _; rfl) (nb : ∀ env : Env, starEach [b] env = (false, eval b env) :: starEach [] env := by intro _; rfl)
    (hp : ∀ env : Env, (backTo pos (starEach [b] env)).any (·.1) = false := by intro _; rfl) : SR F (.Call (.Name "range" p) [a, b] [] pos) (mR2 ma mb) := by
  obtain ⟨t, q, s⟩ := ha
  obtain ⟨u, q2, s2⟩ := hb
  refine ⟨tRg2 t u, fun X h => prg_2 (h.gl hg) (by rw [h.mg]; exact hm) (q X h) (q2 X h) (na _) (nb _) (hp _), fun ρ C H E σ a b C' Q R eo hm k => ?_⟩
  unfold mR2 at hm
  split at hm
  · rename_i n C1 q1
    split at hm
    · rename_i n2 C2 q3
      cases hm
      refine s ρ C H E σ _ _ _ R eo q1 fun ρ1 H1 v R1 s1 d1 => ?_
      refine s2 ρ1 C1 H1 E σ _ _ _ R1 (eo.mono s1) q3 fun ρ2 H2 v2 R2 s3 d2 => ?_
      cases d1; cases d2
      exact ⟨_, _, rfl, rfl, k ρ2 H2 R2 (s1.trans s3)⟩
    · cases hm
  · cases hm
theorem rg_dvs {K : PySem.W.Frag} {ft : Cfg} {ρ : List Addr} {H : Hp} (a b : Int) : DVs K ft ρ H (rngD a (b - a).toNat) (rgV a b) := by
  have e1 : rngD a (b - a).toNat = ((List.range (b - a).toNat).map fun k => a + (k : Nat)).map D.int := by unfold rngD; rw [List.map_map]; rfl
  have e2 : rgV a b = ((List.range (b - a).toNat).map fun k => a + (k : Nat)).map V.int := by unfold rgV; rw [List.map_map]; rfl
  rw [e1, e2]
  exact DVs.ints _
def mLstRg (m : MR) : ME := fun E C => (m E C).bind fun p => if rgOkB p.1 p.2.1 = true then some (.cell p.2.2.length, p.2.2 ++ [.lst (rngD p.1 (p.2.1 - p.1).toNat)]) else none
def mTupRg (m : MR) : ME := fun E C => (m E C).bind fun p => if rgOkB p.1 p.2.1 = true then some (.tup (rngD p.1 (p.2.1 - p.1).toNat), p.2.2) else none
theorem se_listRg {m : MR} {p : Pos} (hm : F.mg "list" = none) (he : SR F e m) (hg : F.sc.names.lookup (Str.ofString "list") = some .globalImplicit := by rfl) (na : ∀ env : Env, starEach [e] env = (false, eval e env) :: starEach [] env := by intro _; rfl) : SE F (.Call (.Name "list" p) [e] [] pos) (mLstRg m) := by
  obtain ⟨t, q, s⟩ := he
  refine ⟨tLstRg t, fun X h => pe_listRg h.calm (h.gl hg) (by rw [h.mg]; exact hm) (q X h) (na _), fun ρ C H E σ d C' Q R eo hm k => ?_⟩
  obtain ⟨⟨a, b, C1⟩, h1, hm⟩ := obind hm
  simp only at hm
  split at hm
  · rename_i hr
    cases hm
    have hr' := of_decide_eq_true hr
    refine s ρ C H E σ _ _ _ _ R eo h1 fun ρ1 H1 R1 s1 => ⟨hr', fun p hp => ?_⟩
    exact k _ _ _ (R1.newL hp (rg_dvs a b)) (s1.trans (Stp.push hp)) (DV.new R1)
  · cases hm
theorem se_tupRg {m : MR} {p : Pos} (hm : F.mg "tuple" = none) (he : SR F e m) (hg : F.sc.names.lookup (Str.ofString "tuple") = some .globalImplicit := by rfl) (na : ∀ env : Env, starEach [e] env = (false, eval e env) :: starEach [] env := by intro _; rfl) : SE F (.Call (.Name "tuple" p) [e] [] pos) (mTupRg m) := by
  obtain ⟨t, q, s⟩ := he
  refine ⟨tTupRg t, fun X h => pe_tupRg h.calm (h.gl hg) (by rw [h.mg]; exact hm) (q X h) (na _), fun ρ C H E σ d C' Q R eo hm k => ?_⟩
  obtain ⟨⟨a, b, C1⟩, h1, hm⟩ := obind hm
  simp only at hm
  split at hm
  · rename_i hr
    cases hm
    have hr' := of_decide_eq_true hr
    refine s ρ C H E σ _ _ _ _ R eo h1 fun ρ1 H1 R1 s1 => ⟨hr', fun p hp => ?_⟩
    exact k ρ1 _ _ (R1.fresh hp) (s1.trans (Stp.fresh hp)) (.tup (SqT.of upd_same) ((rg_dvs a b).mono (Stp.fresh hp)))
  · cases hm
/-! ## str -/
theorem call_str_bool {X : Cx} : CallR X (.type "str") (fun xs H Q => ∃ k, xs = [.bl k] ∧ Q (.str (if k then "True" else "False")) H) := by
  intro pins s σ H xs us Q I r h
  obtain ⟨k, rfl, q⟩ := h
  obtain ⟨u, rfl, ru⟩ := vals1 r
  obtain rfl : u = Value.bool k := ru
  refine PySem.P.str_of_bool ?_
  exact ⟨V.str _, H, I.tok _, ⟨_, rfl⟩, q⟩
def strC : ODL := fun xs C => match xs with
  | [.int i] => if i.natAbs.log2 < 1920 then some (.str (toString i), C) else none
  | [.str z] => some (.str z, C)
  | [.bl k] => some (.str (if k then "True" else "False"), C)
  | _ => none
theorem sc_str : SCall F (.type "str") strC := by
  refine ⟨_, fun X h => call_str_int.or (SkE.call_str_str.or call_str_bool), fun ρ C H xs vs d C' Q R hx hm k => ?_⟩
  unfold strC at hm
  split at hm
  · split at hm
    · rename_i hl
      cases hm; cases hx with | cons h1 h2 => cases h2; cases h1; exact .inl ⟨_, rfl, hl, k.now R (.str _)⟩
    · cases hm
  · cases hm; cases hx with | cons h1 h2 => cases h2; cases h1; exact .inr (.inl ⟨_, rfl, k.now R (.str _)⟩)
  · cases hm; cases hx with | cons h1 h2 => cases h2; cases h1; exact .inr (.inr ⟨_, rfl, k.now R (.str _)⟩)
  · cases hm
/-! ## methods of lists and texts -/
def appendD : ODM := fun x xs C => match x, xs with
  | .cell n, [d] => match C[n]? with
    | some (.lst ds) => if ds.length < sizeLine then some (.non, C.set n (.lst (ds ++ [d]))) else none
    | _ => none
  | _, _ => none
theorem sm_append : SMt F "list" "list.append" appendD := by
  refine ⟨rAppend, fun X h => mt_append, fun ρ C H x xs vx vs d C' Q R hx hxs hm k => ?_⟩
  unfold appendD at hm
  split at hm
  · split at hm
    · rename_i n dd ds q
      split at hm
      · rename_i hl
        cases hm
        obtain ⟨p, ws, rfl, ep, e3, e4⟩ := R.lst q hx
        cases hxs with | cons h1 h2 =>
          cases h2
          refine ⟨_, _, _, rfl, rfl, e3, by rw [← e4.length]; exact hl, ?_⟩
          exact k ρ _ _ (R.writeL ep q (e4.append (.cons h1 .nil))) (Stp.write R ep q) .non
      · cases hm
    · cases hm
  · cases hm
def extendD : ODM := fun x xs C => match x, xs with
  | .cell n, [y] => match C[n]?, lstOf C y with
    | some (.lst ds), some es => if ds.length + es.length ≤ sizeLine then some (.non, C.set n (.lst (ds ++ es))) else none
    | _, _ => none
  | _, _ => none
theorem sm_extend : SMt F "list" "list.extend" extendD := by
  refine ⟨rExtendR, fun X h => mt_extendR, fun ρ C H x xs vx vs d C' Q R hx hxs hm k => ?_⟩
  unfold extendD at hm
  split at hm
  · split at hm
    · rename_i n yy ds es q q2
      split at hm
      · rename_i hl
        cases hm
        obtain ⟨p, ws, rfl, ep, e3, e4⟩ := R.lst q hx
        cases hxs with | cons h1 h2 =>
          cases h2
          obtain ⟨p2, ws2, rfl, e5, e6⟩ := lstOf_ok R h1 q2
          refine ⟨_, _, _, _, rfl, rfl, e3, e5, by rw [← e4.length, ← e6.length]; exact hl, ?_⟩
          exact k ρ _ _ (R.writeL ep q (e4.append e6)) (Stp.write R ep q) .non
      · cases hm
    · cases hm
  · cases hm
def popD : ODM := fun x xs C => match x, xs with
  | .cell n, [.int i] => match C[n]? with
    | some (.lst ds) => if -(2 ^ 63) ≤ i ∧ i < 2 ^ 63 then (seqIndex? i ds.length).bind fun k => ds[k]?.map fun d => (d, C.set n (.lst (ds.eraseIdx k))) else none
    | _ => none
  | .cell n, [] => match C[n]? with
    | some (.lst ds) => ds[ds.length - 1]?.map fun d => (d, C.set n (.lst ds.dropLast))
    | _ => none
  | _, _ => none
theorem DVs.dropLast {K : PySem.W.Frag} {ft : Cfg} {ρ : List Addr} {H : Hp} {ds : List D} {vs : List V} (h : DVs K ft ρ H ds vs) : DVs K ft ρ H ds.dropLast vs.dropLast := by
  rw [List.dropLast_eq_take, List.dropLast_eq_take, h.length]
  exact h.take _
theorem sm_pop : SMt F "list" "list.pop" popD := by
  refine ⟨_, fun X h => (show MtR X "list.pop" rPopAt from mt_popAt).or (show MtR X "list.pop" rPop from mt_pop), fun ρ C H x xs vx vs d C' Q R hx hxs hm k => ?_⟩
  unfold popD at hm
  split at hm
  · split at hm
    · rename_i n i ds q
      split at hm
      · rename_i hb
        obtain ⟨j, e1, hm⟩ := obind hm
        obtain ⟨z, e2, e3⟩ := omap hm
        cases e3
        obtain ⟨p, ws, rfl, ep, e4, e5⟩ := R.lst q hx
        obtain ⟨v, e6, e7⟩ := e5.get e2
        cases hxs with | cons h1 h2 =>
          cases h2; cases h1
          have st := Stp.write (o := .lst (ws.eraseIdx j)) R ep q
          exact .inl ⟨_, _, _, j, v, rfl, rfl, e4, hb.1, hb.2, by rw [← e5.length]; exact e1, e6, k ρ _ _ (R.writeL ep q (e5.eraseIdx j)) st (e7.mono st)⟩
      · cases hm
    · cases hm
  · split at hm
    · rename_i n ds q
      obtain ⟨z, e2, e3⟩ := omap hm
      cases e3
      obtain ⟨p, ws, rfl, ep, e4, e5⟩ := R.lst q hx
      obtain ⟨v, e6, e7⟩ := e5.get e2
      cases hxs
      have st := Stp.write (o := .lst ws.dropLast) R ep q
      exact .inr ⟨_, _, v, rfl, rfl, e4, by rw [← e5.length]; exact e6, k ρ _ _ (R.writeL ep q e5.dropLast) st (e7.mono st)⟩
    · cases hm
  · cases hm
def mRem (mo me : ME) : ME := fun E C => (mo E C).bind fun p => if tyD "list" p.1 p.2 = true then (me E p.2).bind fun q => match p.1, q.1 with
  | .cell n, .int k => (match q.2[n]? with
    | some (.lst ds) => (intsOf ds).bind fun ns => if k ∈ ns then some (.non, q.2.set n (.lst ((ns.erase k).map D.int))) else none
    | _ => none)
  | _, _ => none else none
theorem noTake {X : Cx} : Takes X (fun _ _ _ _ => False) := fun _ _ z => by
  obtain ⟨_, _, _, _, _, _, _, _, _, _, _, _, _, _, _, _, z⟩ := z
  exact z.elim
theorem se_remove {apos : Pos} (ho : SE F o mo) (he : SE F e me) (hbase : ∀ env : Env, attributeBase o "remove" env (eval o env) = eval o env := by intro _; rfl)
    (hfew : ∀ env : Env, ((backTo pos (starEach [e] env)).all (fun x => !x.1) && (backToKw pos (keywordEach [] env)).all (fun x => x.1.isSome) && decide (([e] : List Expr).length + ([] : List Keyword).length + (if ([] : List Keyword).isEmpty then 0 else 1) < 30)) = true := by intro _; rfl)
    (hline : (apos.endLine == pos.line) = true := by rfl) (hs : ∀ env : Env, starEach [e] env = (false, eval e env) :: starEach [] env := by intro _; rfl) (hpl : ∀ env : Env, (backTo pos (starEach [] env)).any (·.1) = false := by intro _; rfl) :
    SE F (.Call (.Attribute o "remove" apos) [e] [] pos) (mRem mo me) := by
  obtain ⟨to, po, so⟩ := ho
  obtain ⟨te, pe, se⟩ := he
  refine ⟨tRemX F.K (fun _ _ _ _ => False) to te, fun X h => by have z := pe_remX h.calm noTake (po X h) (pe X h) (hbase _) (hfew _) hline (hs _) (hpl _); rw [h.K] at z; exact z, fun ρ C H E σ d C' Q R eo hm k => ?_⟩
  obtain ⟨⟨x, C1⟩, h1, hm⟩ := obind hm
  simp only at hm
  split at hm
  · rename_i ty
    obtain ⟨⟨y, C2⟩, h2, hm⟩ := obind hm
    refine so ρ C H E σ x C1 _ R eo h1 fun ρ1 H1 v1 R1 s1 d1 => ⟨tyD_ok R1 d1 ty, ?_⟩
    refine se ρ1 C1 H1 E σ y C2 _ R1 (eo.mono s1) h2 fun ρ2 H2 v2 R2 s2 d2 => ?_
    simp only at hm
    split at hm
    · rename_i n kk _
      split at hm
      · rename_i ds q
        obtain ⟨ns, e1, hm⟩ := obind hm
        split at hm
        · rename_i hk
          cases hm
          obtain ⟨p, ws, rfl, ep, e4, e5⟩ := R2.lst q (d1.mono s2)
          have ev := intsOf_ok e5 e1
          subst ev
          cases d2
          have st := Stp.write (o := .lst ((ns.erase kk).map V.int)) R2 ep q
          exact ⟨p, ns, kk, rfl, rfl, e4, fun _ => k ρ2 _ _ (R2.writeL ep q (DVs.ints _)) ((s1.trans s2).trans st) .non, fun q => absurd hk q⟩
        · cases hm
      · cases hm
    · cases hm
  · cases hm
def upperD : ODM := fun x xs C => match x, xs with
  | .str z, [] => if z.length ≤ 5592405 then some (.str (Txt.upper z), C) else none
  | _, _ => none
theorem sm_upper : SMt F "str" "str.upper" upperD := by
  refine ⟨_, fun X h => mt_upper, fun ρ C H x xs vx vs d C' Q R hx hxs hm k => ?_⟩
  unfold upperD at hm
  split at hm
  · split at hm
    · rename_i hl
      cases hm; cases hx; cases hxs
      exact ⟨_, rfl, rfl, hl, k.now R (.str _)⟩
    · cases hm
  · cases hm
/-! ## a call of a parameter that holds a def -/
/-- f(e, ..), f the parameter in slot i; tab says what each def does -/
def mCallV (i : Nat) (tab : Nat → Option MF) (ml : MA) : ME := fun E C => match E[i]? with
  | some (some (.fn n)) => (tab n).bind fun m => (ml E C).bind fun q => m q.1 q.2
  | _ => none
def tCallV (ft : Cfg) (S : Nat → Option SpG) (i : Nat) (t : TA) : TE := fun σ H Q => ∃ n sp, σ[i]? = some (some (.ref (ft n))) ∧ S n = some sp ∧ t σ H fun vs H1 => sp vs H1 Q
theorem pe_callV {X : Cx} {k : Nat} {ft : Cfg} {S : Nat → Option SpG} {t : TA} (hS : ∀ n sp, S n = some sp → ∃ (fd : FuncData) (ps : List Str), PySem.W.keepIn X.K (.ref (ft n)) = true ∧ Binds X.K fd ps [] ∧ FnG X.prog X.w X.K X.mg X.base k (ft n) fd ps sp) (hr : Room k X.A) (hgu : X.A.guards = some [])
    (hN : X.N[i]? = some x) (hv : Vis X.env.scope x) (ha : PA X (e :: es) t) (hdb : (x == ("__debug__" : Str)) = false) (hcd : (x == ("__classdict__" : Str)) = false) (he : starEach (e :: es) X.env = (false, eval e X.env) :: starEach es X.env) (hpl : (backTo pos (starEach es X.env)).any (·.1) = false) :
    PE X (.Call (.Name x p) (e :: es) [] pos) (tCallV ft S i t) := by
  constructor
  intro pins s σ H Q I h
  obtain ⟨n, sp, hs, hSn, ht⟩ := h
  obtain ⟨fd, ps, hk, hb, G⟩ := hS n sp hSn
  have nm := (pe_var (pos := p) hN hv hdb hcd).run pins s σ H (fun v H1 => v = .ref (ft n) ∧ H1 = H) I ⟨.ref (ft n), hs, rfl, rfl⟩
  refine wpAny_Call_Name_kw (thn nm fun u s1 hu => ?_)
  obtain ⟨v, H1, I1, r1, rfl, rfl⟩ := hu
  obtain rfl : u = Value.ref (ft n) := r1
  have inner := thn (ha.run pos pins s1 σ H1 _ I1 ht) (Q' := fun us s1 => X.K.In s1.heap ∧ wpAny (model X.prog X.w) X.A (call (.ref (ft n)) us) (EP X pins σ Q) X.xe s1) fun us s2 ⟨vs, H2, I2, r, q⟩ => ⟨I2.kIn, runG (dvs := []) G hr hgu hb .nil I2 r (by rw [List.append_nil]; exact q)⟩
  exact PySem.W.callWith_K (h₀ := X.base) I.ok.mod.kin hk inner he hpl
structure Tab (P : Program) (w : World) (K : PySem.W.Frag) (mg : Str → Option Value) (base : Heap) (ft : Cfg) (n : Nat) (tab : Nat → Option MF) (k : Nat) : Prop where
  at_ : ∀ j m, tab j = some m → ∃ (fd : FuncData) (ps : List Str), PySem.W.keepIn K (.ref (ft j)) = true ∧ Binds K fd ps [] ∧ ps.length = n ∧ FnG P w K mg base k (ft j) fd ps (spM K ft ps.length m)
def tab1 (i : Nat) (m : MF) : Nat → Option MF := fun j => if j = i then some m else none
theorem se_callV {tab : Nat → Option MF} (i : Nat) (k : Nat) (n : Nat) (hc : Tab F.prog F.w F.K F.mg F.base F.ft n tab k) (ha : SA F (e :: es) ml) (hlen : ∀ E C q, ml E C = some q → q.1.length = n) (hk : k ≤ F.lv := by exact Nat.le_of_ble_eq_true rfl)
    (hN : F.N[i]? = some x := by rfl) (hv : Vis F.sc x := by first | exact Or.inl rfl | exact Or.inr (Or.inl rfl) | exact Or.inr (Or.inr rfl)) (hdb : (x == ("__debug__" : Str)) = false := by decide) (hcd : (x == ("__classdict__" : Str)) = false := by decide)
    (he : ∀ env : Env, starEach (e :: es) env = (false, eval e env) :: starEach es env := by intro _; rfl) (hpl : ∀ env : Env, (backTo pos (starEach es env)).any (·.1) = false := by intro _; rfl) : SE F (.Call (.Name x p) (e :: es) [] pos) (mCallV i tab ml) := by
  obtain ⟨t, pt, st⟩ := ha
  refine ⟨tCallV F.ft (fun j => (tab j).map fun m => spM F.K F.ft n m) i t, fun X h => ?_, fun ρ C H E σ d C' Q R eo hm kk => ?_⟩
  · refine pe_callV (k := k) (fun j sp q => ?_) (h.rm.mono hk) h.gu (by rw [h.N]; exact hN) (by rw [h.sc]; exact hv) (pt X h) hdb hcd (he _) (hpl _)
    obtain ⟨m, e1, e2⟩ := omap q
    obtain ⟨fd, ps, h1, h2, h3, h4⟩ := hc.at_ j m e1
    subst e2
    rw [h.prog, h.w, h.K, h.mg, h.base]
    exact ⟨fd, ps, h1, h2, by rw [← h3]; exact h4⟩
  · unfold mCallV at hm
    split at hm
    · rename_i j q
      obtain ⟨m, e1, hm⟩ := obind hm
      obtain ⟨⟨xs, C1⟩, h1, hm⟩ := obind hm
      obtain ⟨v, q1, q2⟩ := eo.at_ i _ q
      cases q2
      refine ⟨j, spM F.K F.ft n m, q1, by simp only [e1, Option.map_some], ?_⟩
      exact st ρ C H E σ xs C1 _ R eo h1 fun ρ1 H1 vs R1 s1 d1 => ⟨ρ1, C1, xs, d, C', R1, d1, hlen _ _ _ h1, hm, fun ρ' H' v R' s' dv => kk ρ' H' v R' (s1.trans s') dv⟩
    · cases hm
end
end Mi
set_option Elab.async false
set_option linter.all false
set_option maxRecDepth 100000
set_option maxHeartbeats 4000000
namespace Mi
open PySem PySem.Spec PyProof.Rows L2
/-! ## slices with a step -/
def pickL {α : Type} (xs : List α) (lo hi st : Option Int) : List α :=
  (sliceRange (sliceBounds lo hi st xs.length).1 (sliceBounds lo hi st xs.length).2.1 (sliceBounds lo hi st xs.length).2.2).filterMap fun i => xs[i]?
theorem pickL_vals {xs : List V} {us : List Value} (r : Vals xs us) (lo hi st : Option Int) : Vals (pickL xs lo hi st) (slicePick us.toArray lo hi st).toList := by
  unfold pickL slicePick
  rw [List.size_toArray, ← r.length]
  generalize sliceRange _ _ _ = l
  show Vals _ (l.filterMap (us.toArray[·]?))
  induction l with
  | nil => exact .nil
  | cons i l ih =>
    rw [List.filterMap_cons, List.filterMap_cons]
    cases q : xs[i]? with
    | none =>
      have e : us.toArray[i]? = none := by simpa using r.none_of q
      rw [e]
      exact ih
    | some x =>
      obtain ⟨u, e, ru⟩ := r.get q
      have e : us.toArray[i]? = some u := by simpa using e
      rw [e]
      exact .cons ru ih
theorem pickL_dvs {K : PySem.W.Frag} {ft : Cfg} {ρ : List Addr} {H : Hp} {ds : List D} {vs : List V} (h : DVs K ft ρ H ds vs) (lo hi st : Option Int) : DVs K ft ρ H (pickL ds lo hi st) (pickL vs lo hi st) := by
  unfold pickL
  rw [← h.length]
  generalize sliceRange _ _ _ = l
  induction l with
  | nil => exact .nil
  | cons i l ih =>
    rw [List.filterMap_cons, List.filterMap_cons]
    cases q : ds[i]? with
    | none =>
      have e : vs[i]? = none := by
        rw [List.getElem?_eq_none_iff] at q ⊢
        rw [← h.length]; exact q
      rw [e]
      exact ih
    | some x =>
      obtain ⟨u, e, ru⟩ := h.get q
      rw [e]
      exact .cons ru ih
/-- a slice with a step, by values -/
def Sl3R (X : Cx) (r : V → Option Int → Option Int → Option Int → Hp → VK → Prop) : Prop :=
  ∀ (pins : List (Addr × Obj)) (s : Shared) (σ : L2.St) (H : Hp) (x : V) (v vl vu vs : Value) (lo hi st : Option Int) (sl : Addr) (Q : VK), Inv X pins σ H s → RelV x v → s.heap.IsSliceOf sl vl vu vs → IsPart vl lo → IsPart vu hi → IsPart vs st → r x lo hi st H Q →
    ∃ T id, typeLookup (.type T) "__getitem__" = pure (some (.builtin id)) ∧ s.TypeIs v T ∧ wpAny (model X.prog X.w) X.A (getItem v (.ref sl)) (EP X pins σ Q) X.xe s
def rSl3L (K : PySem.W.Frag) : V → Option Int → Option Int → Option Int → Hp → VK → Prop := fun x lo hi st H Q => ∃ a xs, x = .ref a ∧ SqL K H a xs ∧ st ≠ some 0 ∧ ∀ p, H p = none → Q (.ref p) (upd H p (.lst (pickL xs lo hi st)))
theorem sl3_list {X : Cx} : Sl3R X (rSl3L X.K) := by
  intro pins s σ H x v vl vu vs lo hi st sl Q I rx hs pl pu ps h
  obtain ⟨a, xs, rfl, hx, h0, q⟩ := h
  obtain rfl : v = Value.ref a := rx
  obtain ⟨its, r, ht, hz⟩ := I.list hx
  have hlen := r.length
  refine ⟨"list", _, slot_list_getitem.lookup, ht.isList.typeIs, ?_⟩
  refine wpAny_getItem_list_slice ht.isList hs pl pu ps h0 ?_ (by rw [List.size_toArray] <;> omega)
  have rv := pickL_vals r lo hi st
  have lz : (pickL xs lo hi st).length ≤ sizeLine := by
    rw [rv.length, Array.length_toList]
    exact Nat.le_trans (slicePick_size_le _ _ _ _) (by rw [List.size_toArray]; omega)
  refine ⟨.ref s.heap.objs.size, _, I.laid (t' := s.toks) (o := .lst (pickL xs lo hi st)) (fun b ob q => Heap.get?_push_of_some _ q) (Nat.le_refl _) ?_, rfl, q _ (I.hok.fresh (Nat.le_refl _))⟩
  exact ⟨lz, _, 0, rv, by rw [Array.toArray_toList]; exact Heap.get?_push_size _ rfl⟩
theorem Sl3R.or {X : Cx} {r r' : V → Option Int → Option Int → Option Int → Hp → VK → Prop} (h : Sl3R X r) (h' : Sl3R X r') : Sl3R X (fun x lo hi st H Q => r x lo hi st H Q ∨ r' x lo hi st H Q) := by
  intro pins s σ H x v vl vu vs lo hi st sl Q I rx hs pl pu ps q
  rcases q with q | q
  · exact h pins s σ H x v vl vu vs lo hi st sl Q I rx hs pl pu ps q
  · exact h' pins s σ H x v vl vu vs lo hi st sl Q I rx hs pl pu ps q
section
variable {prog : Program} {w : World} {A : Around} {E : Value → Shared → Prop} {s : Shared}
theorem rev_pick (xs : Array Value) : ((List.range xs.size).filterMap fun (m : Nat) => xs[(((xs.size : Nat) : Int) - 1 + (m : Int) * (-1)).toNat]?).toArray = xs.toList.reverse.toArray := by
  congr 1
  have key : ∀ l : List Value, ((List.range l.length).filterMap fun (m : Nat) => l[(((l.length : Nat) : Int) - 1 + (m : Int) * (-1)).toNat]?) = l.reverse := by
    intro l
    have e : ∀ m ∈ List.range l.length, l[(((l.length : Nat) : Int) - 1 + (m : Int) * (-1)).toNat]? = some (l.reverse.getD m (l.reverse.headD .none)) := by
      intro m hm
      have hm := List.mem_range.mp hm
      have e1 : (((l.length : Nat) : Int) - 1 + (m : Int) * (-1)).toNat = l.length - 1 - m := by omega
      have hm2 : m < l.reverse.length := by simpa using hm
      rw [e1, List.getElem?_eq_getElem (by omega), List.getD_eq_getElem?_getD, List.getElem?_eq_getElem hm2]
      simp [List.getElem_reverse]
    apply List.ext_getElem?
    intro i
    have fm : ∀ (ms : List Nat), (∀ m ∈ ms, m < l.length) → (ms.filterMap fun (m : Nat) => l[(((l.length : Nat) : Int) - 1 + (m : Int) * (-1)).toNat]?) = ms.map fun m => l.reverse.getD m (l.reverse.headD .none) := by
      intro ms
      induction ms with
      | nil => intro _; rfl
      | cons a ms ih =>
        intro h
        rw [List.filterMap_cons, e a (List.mem_range.mpr (h a (by simp))), List.map_cons, ih fun m hm => h m (by simp [hm])]
    rw [fm _ fun m hm => List.mem_range.mp hm, List.getElem?_map]
    by_cases hi : i < l.length
    · rw [List.getElem?_range hi]
      have hi2 : i < l.reverse.length := by simpa using hi
      simp [List.getElem?_eq_getElem hi2, List.getD_eq_getElem?_getD]
    · rw [List.getElem?_eq_none (by simp; omega), List.getElem?_eq_none (by simp; omega)]
      rfl
  have := key xs.toList
  rw [Array.length_toList] at this
  simpa using this
theorem getItem_tuple_back {t sl : Addr} {items : Array Value} {vs : Value} {Q : Value → Shared → Prop} (ht : IsTup s.heap t items) (hs : s.heap.IsSliceOf sl .none .none vs) (ps : IsPart vs (some (-1)))
    (h : Q (.ref s.heap.objs.size) { s with heap := s.heap.push { cls := .type "tuple", data := .seq items.toList.reverse.toArray } }) (hsz : items.size ≤ sizeLine) : wpAny (model prog w) A (getItem (.ref t) (.ref sl)) Q E s := by
  have fits : sizeOk (.seq items.toList.reverse.toArray) := by
    show items.toList.reverse.toArray.size ≤ sizeLine
    rw [List.size_toArray, List.length_reverse, Array.length_toList]
    exact hsz
  obtain ⟨os, hos, hcs, hds⟩ := id hs
  have isSl : s.TypeIs (.ref sl) "slice" := ⟨os, hos, hcs⟩
  unfold getItem
  try with_reducible refine wpAny_holding ?_
  first | refine wpAny_bind (wpAny_pure ?_) | skip
  refine wpAny_bind (wpAny_sequenceKey ht.typeIs (by decide) ?_)
  refine wpAny_bind (wpAny_callSpecial?_slot (name := Str.ofString "__getitem__") ht.typeIs PyProof.Rows.slot_tuple_getitem (wpAny_call_entry PyProof.Rows.slot_tuple_getitem ht.typeIs entry_tuple_getitem ?_ (args_tuple_getitem _ _)))
  show wpAny _ _ (Builtin.Tuple.tupleItemsOf (.ref t) >>= _) _ _ s
  refine wpAny_bind (PyProof.Rows.tupleItemsOf_ ht ?_)
  refine wpAny_bind (wpAny_typeOf isSl ?_)
  rw [if_pos (by decide)]
  have app : ∀ {R : Int × Int × Nat → Shared → Prop} {E' : Value → Shared → Prop} {A' : Around}, R (((items.size : Nat) : Int) - 1, -1, items.size) s → wpAny (model prog w) A' (Builtin.Slice.sliceApplied (.ref sl) (pure (items.size : Int))) R E' s := by
    intro R E' A' hR
    unfold Builtin.Slice.sliceApplied Builtin.Slice.sliceFields
    refine wpAny_bind (wpAny_bind (wpAny_field hos hds (x := .none) rfl (wpAny_bind (wpAny_field hos hds (x := .none) rfl (wpAny_bind (wpAny_field hos hds (x := vs) rfl (wpAny_pure ?_)))))))
    refine wpAny_bind (HT.slicePart_ ps ?_)
    show wpAny _ _ (if ((-1 : Int) == 0) = true then _ else _) _ _ s
    rw [if_neg (by decide)]
    refine wpAny_bind (slicePart_none (wpAny_bind (slicePart_none (wpAny_bind (wpAny_pure ?_)))))
    have e : Builtin.Slice.slicePlaces (((items.size : Nat) : Int) - 1) (-1) (-1) = items.size := by
      unfold Builtin.Slice.slicePlaces
      rw [if_neg (by decide)]
      split
      · have e1 : (-(-1) : Int) = 1 := by decide
        rw [e1, Int.ediv_one]; omega
      · omega
    show wpAny _ _ (pure (((items.size : Nat) : Int) - 1, (-1 : Int), Builtin.Slice.slicePlaces (((items.size : Nat) : Int) - 1) (-1) (-1))) _ _ s
    rw [e]
    exact wpAny_pure hR
  refine wpAny_bind (app ?_)
  have hno : ¬ (((((items.size : Nat) : Int) - 1) == 0 && (-1 : Int) == 1 && items.size == items.size) = true) := by simp
  show wpAny _ _ (if ((((items.size : Nat) : Int) - 1) == 0 && (-1 : Int) == 1 && items.size == items.size) = true then _ else _) _ _ s
  rw [if_neg hno, rev_pick]
  first
    | exact wpAny_bind (m := Builtin.Tuple.tupleExact _) (wpAny_newObj_type (wpAny_pure ⟨_, rfl, wpAny_pure h⟩) fits)
    | exact wpAny_bind (m := Builtin.Tuple.tupleExact _) (wpAny_newObj_type (wpAny_bind (wpAny_pure (wpAny_pure ⟨_, rfl, wpAny_pure h⟩))) fits)
    | exact wpAny_bind (wpAny_bind (m := Builtin.Tuple.tupleExact _) (wpAny_newObj_type (wpAny_pure (wpAny_pure ⟨_, rfl, wpAny_pure h⟩)) fits))
    | exact wpAny_bind (wpAny_bind (m := Builtin.Tuple.tupleExact _) (wpAny_newObj_type (wpAny_pure ⟨_, rfl, wpAny_pure h⟩) fits))
end
def rSl3T (K : PySem.W.Frag) : V → Option Int → Option Int → Option Int → Hp → VK → Prop := fun x lo hi st H Q => ∃ a xs, x = .ref a ∧ SqT K H a xs ∧ lo = none ∧ hi = none ∧ st = some (-1) ∧ ∀ p, H p = none → Q (.ref p) (upd H p (.tup xs.reverse))
theorem sl3_tup {X : Cx} : Sl3R X (rSl3T X.K) := by
  intro pins s σ H x v vl vu vs lo hi st sl Q I rx hs pl pu ps h
  obtain ⟨a, xs, rfl, hx, rfl, rfl, rfl, q⟩ := h
  obtain rfl : v = Value.ref a := rx
  obtain ⟨its, r, ht, hz⟩ := I.tuple hx
  cases pl
  cases pu
  have hl := r.length
  refine ⟨"tuple", _, PyProof.Rows.slot_tuple_getitem.lookup, ht.typeIs, getItem_tuple_back ht hs ps ?_ (by rw [List.size_toArray]; omega)⟩
  refine ⟨.ref s.heap.objs.size, _, I.laid (t' := s.toks) (o := .tup xs.reverse) (fun b ob q => Heap.get?_push_of_some _ q) (Nat.le_refl _) ?_, rfl, q _ (I.hok.fresh (Nat.le_refl _))⟩
  refine ⟨by rw [List.length_reverse]; exact hz, its.reverse, r.reverse, ?_⟩
  have e : its.toArray.toList = its := by simp
  rw [e]
  exact IsTup.new _ _
section
variable {X : Cx} {e : Expr} {te : TE} {lo hi : Option Expr} {st : Expr} {tl th ts : TO} {pos p2 : Pos}
def tSl3 (r : V → Option Int → Option Int → Option Int → Hp → VK → Prop) (te : TE) (tl th ts : TO) : TE := fun σ H Q => te σ H fun x H1 => tl σ H1 fun l H2 => th σ H2 fun u H3 => ts σ H3 fun z H4 => r x l u z H4 Q
theorem pe_sl3 {r : V → Option Int → Option Int → Option Int → Hp → VK → Prop} (hr : Sl3R X r) (he : PE X e te) (hl : PO X lo tl) (hu : PO X hi th) (hs : PO X (some st) ts)
    (hsub : ∀ o i, subscripted (.Slice lo hi (some st) p2) false o i = operate [o, i] (getItem o i)) : PE X (.Subscript e (.Slice lo hi (some st) p2) pos) (tSl3 r te tl th ts) := by
  constructor
  intro pins s σ H Q I h
  refine Subscript_ (thn (he.run pins s σ H _ I h) fun v s1 ⟨x, H1, I1, r1, q1⟩ => ?_)
  refine wpAny_Slice (thn (hl.run pins s1 σ H1 _ I1 q1) fun vl s2 ⟨l, H2, I2, pl, q2⟩ => thn (hu.run pins s2 σ H2 _ I2 q2) fun vu s3 ⟨u, H3, I3, pu, q3⟩ => thn (hs.run pins s3 σ H3 _ I3 q3) fun vs s4 ⟨z, H4, I4, ps, q4⟩ => ?_)
  have I5 : Inv X pins σ H4 { s4 with heap := s4.heap.push { cls := .type "slice", data := .fields #[vl, vu, vs] } } := I4.kept (t' := s4.toks) fun b ob q => Heap.get?_push_of_some _ q
  obtain ⟨T, id, hT, ht, hg⟩ := hr pins _ σ H4 x v vl vu vs l u z s4.heap.objs.size Q I5 r1 (Heap.IsSliceOf.new ..) pl pu ps q4
  exact tail_any ht hT hg (hsub _ _)
end
section
variable {F : Fm} {e : Expr} {lo hi : Option Expr} {st : Expr} {me : ME} {ml mh ms : MO} {pos p2 : Pos}
def sl3D (x : D) (lo hi st : Option Int) (C : Hm) : Option (D × Hm) := match x with
  | .tup ds => if lo = none ∧ hi = none ∧ st = some (-1) then some (.tup ds.reverse, C) else none
  | x => match lstOf C x with
    | some ds => if st ≠ some 0 then some (.cell C.length, C ++ [.lst (pickL ds lo hi st)]) else none
    | _ => none
def mSl3 (me : ME) (ml mh ms : MO) : ME := fun E C => (me E C).bind fun p => (ml E p.2).bind fun q => (mh E q.2).bind fun r => (ms E r.2).bind fun z => sl3D p.1 q.1 r.1 z.1 z.2
theorem se_sl3 (he : SE F e me) (hl : SO F lo ml) (hu : SO F hi mh) (hs : SO F (some st) ms) (hsub : ∀ o i, subscripted (.Slice lo hi (some st) p2) false o i = operate [o, i] (getItem o i) := by intro _ _; with_unfolding_all rfl) : SE F (.Subscript e (.Slice lo hi (some st) p2) pos) (mSl3 me ml mh ms) := by
  obtain ⟨te, pe, se⟩ := he
  obtain ⟨tl, pl, sl⟩ := hl
  obtain ⟨th, ph, sh⟩ := hu
  obtain ⟨ts, ps, ss⟩ := hs
  refine ⟨tSl3 (fun x lo hi st H Q => rSl3L F.K x lo hi st H Q ∨ rSl3T F.K x lo hi st H Q) te tl th ts, fun X h => by have z := pe_sl3 (pos := pos) (sl3_list.or sl3_tup) (pe X h) (pl X h) (ph X h) (ps X h) hsub; rw [h.K] at z; exact z, fun ρ C H E σ d C' Q R eo hm k => ?_⟩
  obtain ⟨⟨x, C1⟩, h1, hm⟩ := obind hm
  obtain ⟨⟨y, C2⟩, h2, hm⟩ := obind hm
  obtain ⟨⟨z, C3⟩, h3, hm⟩ := obind hm
  obtain ⟨⟨w, C4⟩, h4, hm⟩ := obind hm
  refine se ρ C H E σ x C1 _ R eo h1 fun ρ1 H1 v1 R1 s1 d1 => ?_
  refine sl ρ1 C1 H1 E σ y C2 _ R1 (eo.mono s1) h2 fun ρ2 H2 R2 s2 => ?_
  refine sh ρ2 C2 H2 E σ z C3 _ R2 (eo.mono (s1.trans s2)) h3 fun ρ3 H3 R3 s3 => ?_
  refine ss ρ3 C3 H3 E σ w C4 _ R3 (eo.mono ((s1.trans s2).trans s3)) h4 fun ρ4 H4 R4 s4 => ?_
  have s := ((s1.trans s2).trans s3).trans s4
  have d4 := d1.mono ((s2.trans s3).trans s4)
  simp only at hm
  unfold sl3D at hm
  split at hm
  · split at hm
    · rename_i ds hc
      cases hm
      cases d4 with | tup h5 h6 => exact .inr ⟨_, _, rfl, h5, hc.1, hc.2.1, hc.2.2, fun p hp => k ρ4 _ _ (R4.fresh hp) (s.trans (Stp.fresh hp)) (.tup (SqT.of upd_same) (h6.reverse.mono (Stp.fresh hp)))⟩
    · cases hm
  · split at hm
    · rename_i ds q
      split at hm
      · rename_i h0
        cases hm
        obtain ⟨p, vs, rfl, e3, e4⟩ := lstOf_ok R4 d4 q
        exact .inl ⟨_, _, rfl, .inl e3, h0, fun p hp => k _ _ _ (R4.newL hp (pickL_dvs e4 _ _ _)) (s.trans (Stp.push hp)) (DV.new R4)⟩
      · cases hm
    · cases hm
end
/-! ## keywords alone -/
section
variable {F : Fm} {e : Expr} {es : List Expr} {pos p : Pos} {x : Str} {kws : List Keyword} {ks : List Str}
def SK (F : Fm) (kws : List Keyword) (m : MA) : Prop := ∃ t, (∀ X, F.Is X → PK X kws t) ∧ EvA F t m
theorem sk_nil : SK F [] mNil := ⟨_, fun _ _ => pk_nil, fun ρ C H E σ d C' Q R eo hm k => by cases hm; exact k ρ H [] R .refl .nil⟩
theorem sk_cons {nm : Option Str} {kp : Pos} {me : ME} {ml : MA} (ha : SE F e me) (hl : SK F kws ml) (hc : ∀ (X : Cx) (te : TE) (t : TA), PE X e te → PK X kws t → PK X (⟨nm, e, kp⟩ :: kws) (tCons te t) := by intro X te t a b; exact pk_cons a b) : SK F (⟨nm, e, kp⟩ :: kws) (mCons me ml) := by
  obtain ⟨ta, pa, sa⟩ := ha
  obtain ⟨tl, pl, sl⟩ := hl
  refine ⟨_, fun X h => hc X _ _ (pa X h) (pl X h), fun ρ C H E σ d C' Q R eo hm k => ?_⟩
  obtain ⟨⟨x, C1⟩, h1, hm⟩ := obind hm
  obtain ⟨⟨ys, C2⟩, h2, hm⟩ := obind hm
  cases hm
  refine sa ρ C H E σ x C1 _ R eo h1 fun ρ1 H1 v1 R1 s1 d1 => ?_
  refine sl ρ1 C1 H1 E σ ys C2 _ R1 (eo.mono s1) h2 fun ρ2 H2 v2 R2 s2 d2 => ?_
  exact k ρ2 H2 _ R2 (s1.trans s2) (.cons (d1.mono s2) d2)
/-- how keywords (all the parameters, in some order) come to the parameters -/
structure KwB (K : PySem.W.Frag) (fd : FuncData) (ps ks : List Str) (g : {α : Type} → List α → List α) : Prop where
  to : ∀ (s : Shared) (ws : List Value), K.In s.heap → ws.length = ks.length → BindsTo s fd ⟨[], ks.zip ws⟩ (ps.zip (g ws))
  vals : ∀ {zs : List V} {ws : List Value}, zs.length = ks.length → Vals zs ws → Vals (g zs) (g ws)
  dvs : ∀ {K : PySem.W.Frag} {ft : Cfg} {ρ : List Addr} {H : Hp} {ds : List D} {zs : List V}, ds.length = ks.length → DVs K ft ρ H ds zs → DVs K ft ρ H (g ds) (g zs)
  len : ∀ {ds : List D}, ds.length = ks.length → (g ds).length = ps.length
structure CalleeK (P : Program) (w : World) (K : PySem.W.Frag) (mg : Str → Option Value) (base : Heap) (ft : Cfg) (x : Str) (ks : List Str) (g : {α : Type} → List α → List α) (m : MF) (k : Nat) : Prop where
  ex : ∃ (f : Addr) (fd : FuncData) (ps : List Str), mg x = some (.ref f) ∧ PySem.W.keepIn K (.ref f) = true ∧ KwB K fd ps ks g ∧ FnG P w K mg base k f fd ps (spM K ft ps.length m)
def mCallK (g : {α : Type} → List α → List α) (m : MF) (ml : MA) : ME := fun E C => (ml E C).bind fun q => m (g q.1) q.2
def tCallK0 (sp : SpG) (n : Nat) (g : {α : Type} → List α → List α) (t : TA) : TE := fun σ H Q => t σ H fun vs H1 => vs.length = n ∧ sp (g vs) H1 Q
theorem pe_callK0 {X : Cx} {k : Nat} {f : Addr} {fd : FuncData} {ps : List Str} {sp : SpG} {g : {α : Type} → List α → List α} {t : TA} (G : FnG X.prog X.w X.K X.mg X.base k f fd ps sp) (hr : Room k X.A) (hgu : X.A.guards = some []) (hg : Gl X x) (hm : X.mg x = some (.ref f)) (hk : PySem.W.keepIn X.K (.ref f) = true) (hb : KwB X.K fd ps ks g)
    (hkw : PK X kws t) (hall : (backToKw pos (keywordEach kws X.env)).all (·.1.isSome) = true) (hks : (backToKw pos (keywordEach kws X.env)).filterMap (·.1) = ks) (hdb : (x == ("__debug__" : Str)) = false)
    (hpl : ((backTo pos (starEach [] X.env)).any (·.1) || (backToKw pos (keywordEach kws X.env)).any (·.1.isNone)) = false) : PE X (.Call (.Name x p) [] kws pos) (tCallK0 sp ks.length g t) := by
  constructor
  intro pins s σ H Q I h
  refine wpAny_Call_Name_kw (ld_glob I hg hm ?_ hdb)
  refine PySem.W.callWith_KW0 (h₀ := X.base) I.ok.mod.kin hk hall (thn (hkw.run pos pins s σ H _ I h) fun ws s1 ⟨zs, H1, I1, rz, hl, q⟩ => ⟨I1.kIn, ?_⟩) hpl
  rw [hks]
  have hlw : ws.length = ks.length := by rw [← rz.length]; exact hl
  have go := G.run X.A X.stack s1 H1 ⟨[], ks.zip ws⟩ (g ws) (g zs) Q hr hgu I1.env0 (hb.to s1 ws I1.kIn hlw) (hb.vals hl rz) q
  refine wpAny_call (codeAny_mono go fun r s' hq => ?_)
  match r, hq with
  | .ok (.ret u), hq => exact I1.after hq
  | .ok .next, hq => exact (show False from hq).elim
  | .ok .brk, hq => exact (show False from hq).elim
  | .ok .cont, hq => exact (show False from hq).elim
  | .error e, hq => exact (show False from hq).elim
theorem se_callK0 {g : {α : Type} → List α → List α} {m : MF} {ml : MA} (k : Nat) (c : CalleeK F.prog F.w F.K F.mg F.base F.ft x ks g m k) (ha : SK F kws ml) (hlen : ∀ E C q, ml E C = some q → q.1.length = ks.length) (hk : k ≤ F.lv := by exact Nat.le_of_ble_eq_true rfl) (hg : F.sc.names.lookup x = some .globalImplicit := by rfl) (hdb : (x == ("__debug__" : Str)) = false := by decide)
    (hall : ∀ env : Env, (backToKw pos (keywordEach kws env)).all (·.1.isSome) = true := by intro _; rfl) (hks : ∀ env : Env, (backToKw pos (keywordEach kws env)).filterMap (·.1) = ks := by intro _; rfl)
    (hpl : ∀ env : Env, ((backTo pos (starEach [] env)).any (·.1) || (backToKw pos (keywordEach kws env)).any (·.1.isNone)) = false := by intro _; rfl) : SE F (.Call (.Name x p) [] kws pos) (mCallK g m ml) := by
  obtain ⟨f, fd, ps, hm, hkp, hb, G⟩ := c.ex
  obtain ⟨t, pt, st⟩ := ha
  refine ⟨tCallK0 (spM F.K F.ft ps.length m) ks.length g t, fun X h => ?_, fun ρ C H E σ d C' Q R eo hm2 kk => ?_⟩
  · exact pe_callK0 (by rw [h.prog, h.w, h.K, h.mg, h.base]; exact G) (h.rm.mono hk) h.gu (h.gl hg) (by rw [h.mg]; exact hm) (by rw [h.K]; exact hkp) (by rw [h.K]; exact hb) (pt X h) (hall _) (hks _) hdb (hpl _)
  · obtain ⟨⟨xs, C1⟩, h1, hm2⟩ := obind hm2
    have hl := hlen _ _ _ h1
    refine st ρ C H E σ xs C1 _ R eo h1 fun ρ1 H1 vs R1 s1 d1 => ?_
    refine ⟨by rw [← d1.length]; exact hl, ρ1, C1, g xs, d, C', R1, hb.dvs hl d1, hb.len hl, hm2, fun ρ' H' v R' s' dv => kk ρ' H' v R' (s1.trans s') dv⟩
end
end Mi
set_option Elab.async false
set_option linter.all false
set_option maxRecDepth 100000
set_option maxHeartbeats 4000000
namespace Mi
open PySem PySem.Spec PyProof.Rows L2
/-! ## the law's own call -/
section
variable {P : Program} {w : World} {K : PySem.W.Frag} {mg mb : Str → Option Value} {k : Nat} {fa a : Addr} {fd : FuncData} {x : Str} {sp : SpG} {s₁ : Shared} {vs : List Value} {ns : List Int}
abbrev LawEnd (s₁ : Shared) (r : Result) (s' : Shared) : Prop := r = .ok (.ret (.bool true)) ∧ OldK s₁.heap s'.heap ∧ s'.os = s₁.os ∧ AllBare s'.gens
/-- from an abstract heap that tracks nothing but, perhaps, the locked script -/
theorem law_core (KX : K.In s₁.heap) (hns : s₁.heap.Ns mainGlobals mg) (hb : s₁.heap.Ns builtinsNs mb) (hbb : ∀ x : Str, x ≠ "__name__" → mb x = bootBuiltins x) (hlim : s₁.heap.NoLimit) (hg : s₁.gens = #[])
    (ha : s₁.heap.get? a = some { cls := .type "list", data := .seq vs.toArray }) (hr : Room k callerA) (F : ∀ base : Heap, K.In base → base.Ns mainGlobals mg → FnG P w K mg base k fa fd [x] sp) (hbind : ∀ (s : Shared) (u : Value), BindsTo s fd ⟨[u], []⟩ [(x, u)])
    {H : Hp} (hO : Only H) (ok : HOk P w H s₁.heap) (hA : ∀ b, H b ≠ none → b = a) (hK : H a ≠ none → K.lookup a = none) (hsp : sp [.ref a] H fun v _ => v = .bl true) : codeAny (model P w) callerA (.call (.ref fa) ⟨[.ref a], []⟩) (LawEnd s₁) s₁ := by
  let B := hidT s₁.heap H
  have toB : ∀ {b o}, s₁.heap.get? b = some o → H b = none → B.get? b = some o := fun e n => hidT_get e n
  have only : ∀ {b}, H b ≠ none → s₁.heap.get? b = some { cls := .type "list", data := .seq vs.toArray } := fun h => hA _ h ▸ ha
  have dictFree : ∀ {b o es ep}, s₁.heap.get? b = some o → o.data = .dict es ep → H b = none := fun {b o es ep} e d => Classical.byContradiction fun h => by
    rw [only h] at e
    cases e
    exact nomatch d
  have nsB : ∀ {b m}, s₁.heap.Ns b m → B.Ns b m := fun {b m} q => by
    obtain ⟨o, es, ep, e, d, r⟩ := q
    exact ⟨o, es, ep, toB e (dictFree e d), d, r⟩
  have kB : K.In B := fun b o e => toB (KX b o e) (Classical.byContradiction fun h => by
    have hb := hA b h
    subst hb
    rw [hK h] at e
    cases e)
  obtain ⟨mc, c1, c2⟩ := hlim
  have e0 : Env0 P w K mg B callerA [] s₁ H := ⟨rfl, ⟨kB, nsB hns, ⟨mb, nsB hb, hbb⟩, ⟨mc, nsB c1, c2⟩⟩, fun b o e => of_hidT e, Nat.le_of_eq (hidT_size _ _), trivial, (fun b hb => by cases hb), ok, .of_eq hg⟩
  have go := (F B kB (nsB hns)).run callerA [] s₁ H ⟨[.ref a], []⟩ [.ref a] [.ref a] _ hr rfl e0 (hbind s₁ (.ref a)) (.cons rfl .nil) hsp
  refine codeAny_mono go fun r s' h => ?_
  match r, h with
  | .error e, h => exact (show False from h).elim
  | .ok .next, h => exact (show False from h).elim
  | .ok .brk, h => exact (show False from h).elim
  | .ok .cont, h => exact (show False from h).elim
  | .ok (.ret u), h =>
    obtain ⟨v, H', os, bare, un, ok', rv, rfl⟩ := h
    obtain rfl : u = Value.bool true := rv
    refine ⟨rfl, OldK.of_keep fun b o e => ?_, os, bare⟩
    rcases hO b with z | ⟨ob, xs, z⟩
    · exact un.keep b o e z (by intro q; cases q) (by simp)
    · have e1 := (ok b _ z).1
      have e2 := (ok' b _ (un.frzs b ob _ z)).1
      rw [e] at e1
      cases e1
      exact e2
theorem law_callG (KX : K.In s₁.heap) (hns : s₁.heap.Ns mainGlobals mg) (hb : s₁.heap.Ns builtinsNs mb) (hbb : ∀ x : Str, x ≠ "__name__" → mb x = bootBuiltins x) (hlim : s₁.heap.NoLimit) (hg : s₁.gens = #[])
    (ha : s₁.heap.get? a = some { cls := .type "list", data := .seq vs.toArray }) (hi : IntsAre vs ns) (hl : ns.length ≤ sizeLine) (hr : Room k callerA) (F : ∀ base : Heap, K.In base → base.Ns mainGlobals mg → FnG P w K mg base k fa fd [x] sp) (hbind : ∀ (s : Shared) (u : Value), BindsTo s fd ⟨[u], []⟩ [(x, u)])
    (hsp : ∀ H : Hp, SqR K H a (ns.map V.int) → sp [.ref a] H fun v _ => v = .bl true) : codeAny (model P w) callerA (.call (.ref fa) ⟨[.ref a], []⟩) (LawEnd s₁) s₁ := by
  have rv := vals_ints hi
  have hlen : vs.toArray.size ≤ sizeLine := by rw [List.size_toArray, hi.length]; exact hl
  cases hk : K.lookup a with
  | some o =>
    have e := KX a o hk
    rw [ha] at e
    cases e
    have sq : ∀ H : Hp, SqL K H a (ns.map V.int) := fun H => .inr ⟨_, vs.toArray, _, hk, rfl, rfl, rfl, hlen, by simpa using rv⟩
    exact law_core KX hns hb hbb hlim hg ha hr F hbind (H := fun _ => none) (fun _ => .inl rfl) (fun b u z => by cases z) (fun b z => absurd rfl z) (fun z => absurd rfl z) (hsp _ ⟨sq _, fun H' _ => sq H'⟩)
  | none =>
    have at_ : ∀ b, (fun b => if b = a then some (HO.frz { cls := .type "list", data := .seq vs.toArray } (.lst (ns.map V.int))) else none : Hp) b ≠ none → b = a := fun b h => Classical.byContradiction fun q => h (if_neg q)
    refine law_core KX hns hb hbb hlim hg ha hr F hbind (H := fun b => if b = a then some (.frz { cls := .type "list", data := .seq vs.toArray } (.lst (ns.map V.int))) else none) (fun b => ?_) (fun b u z => ?_) at_ (fun _ => hk) (hsp _ ⟨.inl (.inr ⟨_, if_pos rfl⟩), fun H' kp => .inl (.inr ⟨_, kp a _ _ (if_pos rfl)⟩)⟩)
    · by_cases h : b = a
      · exact .inr ⟨_, _, if_pos h⟩
      · exact .inl (if_neg h)
    · have h := at_ b (by rw [z]; simp)
      subst h
      have z' := (if_pos rfl).symm.trans z
      cases z'
      exact ⟨ha, by rw [List.length_map]; exact hl, vs, _, rv, ha⟩
end
/-- the end of a row: the law's def keeps its promise -/
theorem walkG {l : PySem.W.OpenLaw} {n k : Nat} {q : Program} {loose : List Str} {XP : (Str → Option Value) → Heap → Prop} {YP : World → Heap → Prop} {d : DefRec} {K : Params → PySem.W.Frag} {sp : PySem.W.Frag → SpG} {x : Str}
    (hn : l.most = some n) (hn2 : n ≤ sizeLine) (hdf : d.params.defaults = []) (hr : Room k callerA) (hY : ∀ (w : World) (h : Heap), YP w h → (K w.params).In h)
    (F : ∀ (w : World) (mg : Str → Option Value) (fa : Addr) (h : Heap), (K w.params).In h → h.Ns mainGlobals mg → mg d.name = some (.ref fa) → ∃ fd : FuncData, (∀ (s : Shared) (u : Value), BindsTo s fd ⟨[u], []⟩ [(x, u)]) ∧
        ∀ base : Heap, (K w.params).In base → base.Ns mainGlobals mg → FnG l.prog w (K w.params) mg base k fa fd [x] (sp (K w.params)))
    (hsp : ∀ (K : PySem.W.Frag) (H : Hp) (a : Addr) (ns : List Int), ns.length ≤ n → SqR K H a (ns.map V.int) → sp K [.ref a] H fun v _ => v = .bl true) : PySem.W.WalkO q loose XP YP l.row.toRowW d [] (fun f vs => PySem.call f vs) := by
  refine Att.attach_call hn hdf fun w s₀ s₁ mg mb fa o pm cd doc a vs ns G Y ho hd hcd hmg hobj hints hlen hg => ?_
  obtain ⟨fd, hb, hF⟩ := F w mg fa _ (hY w _ Y) G.T.g hmg
  exact law_callG (hY w _ Y) G.T.g G.T.b G.T.builtins G.T.nolimit hg hobj hints (Nat.le_trans hlen hn2) hr hF hb fun H sq => hsp _ H a ns hlen sq
/-- a law's def: its mirror gives True for every script -/
theorem spM_law {ft : Cfg} {m : MF} {n : Nat} (h : ∀ ns : List Int, ns.length ≤ n → ∃ C', m [.scr ns] [] = some (.bl true, C')) (K : PySem.W.Frag) (H : Hp) (a : Addr) (ns : List Int) (hl : ns.length ≤ n) (sq : SqR K H a (ns.map V.int)) : spM K ft 1 m [.ref a] H fun v _ => v = .bl true := by
  obtain ⟨C', e⟩ := h ns hl
  exact ⟨[], [], [.scr ns], .bl true, C', Rel.nil, .cons (.scr sq) .nil, rfl, e, fun ρ' H' v _ _ dv => by cases dv; rfl⟩
/-! ## from a def of the text to what callers want -/
section
variable {F : Fm} {P : Program} {w : World} {K : PySem.W.Frag} {mg : Str → Option Value} {base : Heap} {ft : Cfg}
theorem calleeOf {x qual : Str} {st : Stmt} {f : Addr} {fd : FuncData} {ps : List Str} {m : MF} {k : Nat} (Fu : Fun K x qual st f fd) (hm : mg x = some (.ref f)) (hb : Binds K fd ps []) (G : FnG P w K mg base k f fd ps (spM K ft ps.length m)) : Callee P w K mg base ft x ps.length m k :=
  ⟨f, fd, ps, [], [], [], hm, Fu.kp, hb, .nil, fun _ _ => .nil, m, G, rfl, fun xs C _ => by rw [List.append_nil]⟩
theorem tabOf {x qual : Str} {st : Stmt} {f : Addr} {fd : FuncData} {ps : List Str} {m : MF} {k : Nat} (i : Nat) (hf : ft i = f) (Fu : Fun K x qual st f fd) (hb : Binds K fd ps []) (G : FnG P w K mg base k f fd ps (spM K ft ps.length m)) : Tab P w K mg base ft ps.length (tab1 i m) k := by
  refine ⟨fun j m' e => ?_⟩
  unfold tab1 at e
  split at e
  · rename_i hj
    cases e
    subst hj
    rw [hf]
    exact ⟨fd, ps, Fu.kp, hb, rfl, G⟩
  · cases e
end
theorem mNil_len {E : Ev} {C : Hm} {q : List D × Hm} (h : mNil E C = some q) : q.1.length = 0 := by cases h; rfl
theorem mCons_len {me : ME} {ml : MA} {n : Nat} (hl : ∀ E C q, ml E C = some q → q.1.length = n) : ∀ E C q, mCons me ml E C = some q → q.1.length = n + 1 := fun E C q h => by
  obtain ⟨p, _, h⟩ := obind h
  obtain ⟨r, h2, h⟩ := obind h
  cases h
  simp [hl _ _ _ h2]
theorem len0 : ∀ E C q, mNil E C = some q → q.1.length = 0 := fun _ _ _ h => mNil_len h
end Mi
set_option Elab.async false
set_option linter.all false
set_option maxRecDepth 100000
set_option maxHeartbeats 4000000
namespace Mi
open PySem PySem.Spec PyProof.Rows L2
abbrev gId : {α : Type} → List α → List α := fun l => l
section
variable {P : Program} {w : World} {K : PySem.W.Frag} {mg : Str → Option Value} {base : Heap} {ft : Cfg}
/-- nothing is promised -/
theorem fnG_none {f : Addr} {fd : FuncData} {ps : List Str} {k : Nat} : FnG P w K mg base k f fd ps (spM K ft ps.length fun _ _ => none) :=
  ⟨(fun vs H Q h => by obtain ⟨_, _, _, _, _, _, _, _, e, _⟩ := h; cases e), fun A outer s H args us vs Q _ _ _ _ _ h => by obtain ⟨_, _, _, _, _, _, _, _, e, _⟩ := h; cases e⟩
theorem calleeK_of {x qual : Str} {st : Stmt} {f : Addr} {fd : FuncData} {ps ks : List Str} {g : {α : Type} → List α → List α} {m : MF} {k : Nat} (Fu : Fun K x qual st f fd) (hm : mg x = some (.ref f)) (hb : KwB K fd ps ks g) (G : FnG P w K mg base k f fd ps (spM K ft ps.length m)) : CalleeK P w K mg base ft x ks g m k := ⟨f, fd, ps, hm, Fu.kp, hb, G⟩
end
/-- how many steps a loop of a mirror may take -/
abbrev fuel : Nat := 1000000
end Mi
namespace Mi
open PySem PySem.Spec PyProof.Rows L2
theorem FnG.imp {P : Program} {w : World} {K : PySem.W.Frag} {mg : Str → Option Value} {base : Heap} {k : Nat} {f : Addr} {fd : FuncData} {ps : List Str} {sp sp' : SpG} (F : FnG P w K mg base k f fd ps sp) (h : ∀ vs H Q, sp' vs H Q → sp vs H Q) : FnG P w K mg base k f fd ps sp' :=
  ⟨fun vs H Q q => F.len vs H Q (h _ _ _ q), fun A outer s H args us vs Q hr hg e b r q => F.run A outer s H args us vs Q hr hg e b r (h _ _ _ q)⟩
end Mi
set_option Elab.async false
set_option linter.all false
set_option maxRecDepth 100000
set_option maxHeartbeats 4000000
namespace Mi
open PySem PySem.Spec PyProof.Rows L2
/-! ## keys as data -/
def partK : D → Option Key
  | .int i => some (.inl i)
  | .str x => some (.inr x)
  | _ => none
def partD : Key → D
  | .inl i => .int i
  | .inr x => .str x
def mkOf : D → Option MD.MK
  | .int i => some (.i i)
  | .tup ds => (ds.mapM partK).bind fun ks => if ks.all MD.partOk = true then some (.t ks) else none
  | _ => none
def mkD : MD.MK → D
  | .i n => .int n
  | .t ks => .tup (ks.map partD)
section
variable {K : PySem.W.Frag} {ft : Cfg} {ρ : List Addr} {H : Hp}
theorem parts_ok : ∀ {ds : List D} {vs : List V} {ks : List Key}, DVs K ft ρ H ds vs → ds.mapM partK = some ks → vs = ks.map kV
  | _, _, ks, .nil, e => by cases e; rfl
  | d :: ds, _, ks, .cons h t, e => by
    obtain ⟨k, js, e1, e2, rfl⟩ := mapM_cons' e
    rw [parts_ok t e2]
    cases h <;> cases e1 <;> rfl
theorem mkOf_ok {d : D} {v : V} {k : MD.MK} (h : DV K ft ρ H d v) (e : mkOf d = some k) : KeyV K H k v := by
  cases h with
  | int i => cases e; rfl
  | tup hs hd =>
    obtain ⟨ks, e1, e2⟩ := obind (show (List.mapM partK _).bind _ = some k from e)
    split at e2
    · rename_i ok
      cases e2
      have := parts_ok hd e1
      subst this
      exact ⟨ok, _, rfl, hs⟩
    · cases e2
  | _ => cases e
theorem dvs_parts : ∀ ks : List Key, DVs K ft ρ H (ks.map partD) (ks.map kV)
  | [] => .nil
  | .inl i :: ks => .cons (.int i) (dvs_parts ks)
  | .inr x :: ks => .cons (.str x) (dvs_parts ks)
theorem keyV_dv {k : MD.MK} {v : V} (h : KeyV K H k v) : DV K ft ρ H (mkD k) v := by
  cases k with
  | i n => cases h; exact .int n
  | t ks => obtain ⟨_, b, rfl, q⟩ := h; exact .tup q (dvs_parts ks)
end
/-! ## the dict of a state -/
section
variable {X : Cx} {pins : List (Addr × Obj)} {σ : L2.St} {H : Hp} {s : Shared} {a : Addr} {es : EV}
theorem key_is {k : MD.MK} {v : V} {u : Value} (I : Inv X pins σ H s) (h : KeyV X.K H k v) (r : RelV v u) : MD.MK.is X.prog X.w s.heap k u := by
  cases k with
  | i n => cases h; exact r
  | t ks =>
    obtain ⟨ok, b, rfl, q⟩ := h
    obtain rfl : u = Value.ref b := r
    obtain ⟨its, rv, ⟨o, e1, e2, z, e3⟩, _⟩ := I.tuple q
    exact ⟨ok, b, rfl, o, its.toArray, z, e1, e2, e3, items_are rv⟩
/-- the dict, perhaps locked -/
def MRd (hash : MD.MK → Int) (H : Hp) (a : Addr) (es : EV) : Prop := H a = some (mixO hash a es) ∨ ∃ o, H a = some (.frz o (mixO hash a es))
abbrev EX (e : MD.MK × V × V) (x : MD.Ent) : Prop := e.1 = x.1 ∧ RelV e.2.1 x.2.1 ∧ RelV e.2.2 x.2.2
theorem ents_of {P : Program} {w : World} {hash : MD.MK → Int} (hh : hash = MD.MK.hash P w) : ∀ {es : EV} {gs : List DictEntry}, Paired (fun (e : MD.MK × V × V) (g : DictEntry) => g.hash = hash e.1 ∧ RelV e.2.1 g.key ∧ RelV e.2.2 g.val) es gs → ∃ xs : List MD.Ent, gs = xs.map (MD.ent P w) ∧ Paired EX es xs
  | _, _, .nil => ⟨[], rfl, .nil⟩
  | e :: _, g :: _, .cons z t => by
    obtain ⟨xs, e1, p⟩ := ents_of hh t
    refine ⟨(e.1, g.key, g.val) :: xs, ?_, .cons ⟨rfl, z.2.1, z.2.2⟩ p⟩
    rw [List.map_cons, ← e1]
    congr 1
    obtain ⟨gh, gk, gv⟩ := g
    simp only [MD.ent]
    rw [← hh, ← z.1]
theorem ex_keys : ∀ {es : EV} {xs : List MD.Ent}, Paired EX es xs → es.map (·.1) = xs.map (·.1)
  | _, _, .nil => rfl
  | _, _, .cons z t => by rw [List.map_cons, List.map_cons, z.1, ex_keys t]
theorem mix_at {hash : MD.MK → Int} (hh : hash = MD.MK.hash X.prog X.w) (I : Inv X pins σ H s) (e : MRd hash H a es) (nd : (es.map (·.1)).Nodup) (kv : ∀ e ∈ es, KeyV X.K H e.1 e.2.1) : ∃ xs : List MD.Ent, MD.MAt X.prog X.w s.heap a xs ∧ Paired EX es xs := by
  have ok : ObjOk X.prog X.w H s.heap a (mixO hash a es) := by
    rcases e with e | ⟨o, e⟩
    · exact I.hok a _ e
    · exact (I.hok a _ e).2
  obtain ⟨⟨hs, hl, o, arr, ep, h1, h2, h3, hp⟩, _⟩ := ok
  obtain ⟨xs, e1, p⟩ := ents_of hh hp
  have hk : ∀ {es : EV} {xs : List MD.Ent}, Paired EX es xs → (∀ e ∈ es, KeyV X.K H e.1 e.2.1) → ∀ x ∈ xs, MD.MK.is X.prog X.w s.heap x.1 x.2.1 := by
    intro es xs p
    induction p with
    | nil => intro _ x hx; cases hx
    | cons z t ih =>
      intro kv x hx
      rcases List.mem_cons.mp hx with rfl | hx
      · rw [← z.1]; exact key_is I (kv _ (by simp)) z.2.1
      · exact ih (fun e he => kv e (by simp [he])) x hx
  exact ⟨xs, ⟨hs, ⟨o, arr, ep, h1, h2, h3, e1⟩, hk p kv, by rw [← ex_keys p]; exact nd, by rw [← Paired.length p]; exact hl⟩, p⟩
def hasE (es : EV) (k : MD.MK) : Bool := es.any fun e => decide (e.1 = k)
def valE (es : EV) (k : MD.MK) : Option V := (es.find? fun e => decide (e.1 = k)).map (·.2.2)
def putE (es : EV) (k : MD.MK) (y v : V) : EV := if hasE es k = true then es.map fun e => if e.1 = k then (e.1, e.2.1, v) else e else es ++ [(k, y, v)]
theorem val_ex {k : MD.MK} : ∀ {es : EV} {xs : List MD.Ent}, Paired EX es xs → RelO (valE es k) (MD.getM xs k)
  | _, _, .nil => trivial
  | e :: es, x :: xs, .cons z t => by
    have ih := val_ex (k := k) t
    unfold valE MD.getM at ih ⊢
    rw [List.find?_cons, List.find?_cons]
    by_cases h : e.1 = k
    · have h' : x.1 = k := z.1 ▸ h
      simp only [h, h', decide_true]
      exact z.2.2
    · have h' : ¬ x.1 = k := z.1 ▸ h
      simp only [h, h', decide_false]
      exact ih
end
end Mi
set_option Elab.async false
set_option linter.all false
set_option maxRecDepth 100000
set_option maxHeartbeats 4000000
namespace Mi
open PySem PySem.Spec PyProof.Rows L2
theorem hasE_val (k : MD.MK) : ∀ es : EV, hasE es k = (valE es k).isSome
  | [] => rfl
  | e :: es => by
    have ih := hasE_val k es
    unfold hasE valE at ih ⊢
    rw [List.any_cons, List.find?_cons]
    by_cases h : e.1 = k <;> simp [h, ih]
def hasM (kvs : List (MD.MK × D)) (k : MD.MK) : Bool := kvs.any fun p => decide (p.1 = k)
def valM (kvs : List (MD.MK × D)) (k : MD.MK) : Option D := (kvs.find? fun p => decide (p.1 = k)).map (·.2)
def putM (kvs : List (MD.MK × D)) (k : MD.MK) (d : D) : List (MD.MK × D) := if hasM kvs k = true then kvs.map fun p => if p.1 = k then (p.1, d) else p else kvs ++ [(k, d)]
section
variable {K : PySem.W.Frag} {ft : Cfg} {ρ : List Addr} {H : Hp} {kvs : List (MD.MK × D)} {es : EV} {k : MD.MK}
theorem Mix.keys (m : Mix K ft ρ H kvs es) : kvs.map (·.1) = es.map (·.1) := by
  have := m.2
  clear m
  induction this with
  | nil => rfl
  | cons z t ih => rw [List.map_cons, List.map_cons, z.1, ih]
theorem Mix.has (m : Mix K ft ρ H kvs es) : hasM kvs k = hasE es k := by
  have e : ∀ {kvs : List (MD.MK × D)} {es : EV}, Paired (fun (p : MD.MK × D) (e : MD.MK × V × V) => p.1 = e.1 ∧ KeyV K H e.1 e.2.1 ∧ DV K ft ρ H p.2 e.2.2) kvs es → hasM kvs k = hasE es k := by
    intro kvs es p
    unfold hasM hasE
    induction p with
    | nil => rfl
    | cons z t ih => rw [List.any_cons, List.any_cons, z.1, ih]
  exact e m.2
theorem Mix.len (m : Mix K ft ρ H kvs es) : kvs.length = es.length := Paired.length m.2
theorem Mix.kv (m : Mix K ft ρ H kvs es) : ∀ e ∈ es, KeyV K H e.1 e.2.1 := by
  have e : ∀ {kvs : List (MD.MK × D)} {es : EV}, Paired (fun (p : MD.MK × D) (e : MD.MK × V × V) => p.1 = e.1 ∧ KeyV K H e.1 e.2.1 ∧ DV K ft ρ H p.2 e.2.2) kvs es → ∀ e ∈ es, KeyV K H e.1 e.2.1 := by
    intro kvs es p
    induction p with
    | nil => intro e he; cases he
    | cons z t ih =>
      intro e he
      rcases List.mem_cons.mp he with rfl | he
      · exact z.2.1
      · exact ih e he
  exact e m.2
theorem Mix.val (m : Mix K ft ρ H kvs es) : (∀ d, valM kvs k = some d → ∃ v, valE es k = some v ∧ DV K ft ρ H d v) ∧ (valM kvs k = none → valE es k = none) := by
  have e : ∀ {kvs : List (MD.MK × D)} {es : EV}, Paired (fun (p : MD.MK × D) (e : MD.MK × V × V) => p.1 = e.1 ∧ KeyV K H e.1 e.2.1 ∧ DV K ft ρ H p.2 e.2.2) kvs es → (∀ d, valM kvs k = some d → ∃ v, valE es k = some v ∧ DV K ft ρ H d v) ∧ (valM kvs k = none → valE es k = none) := by
    intro kvs es p
    unfold valM valE
    induction p with
    | nil => exact ⟨(fun d h => by cases h), fun _ => rfl⟩
    | @cons p e _ _ z t ih =>
      rw [List.find?_cons, List.find?_cons]
      by_cases h : p.1 = k
      · have h' : e.1 = k := z.1 ▸ h
        simp only [h, h', decide_true]
        exact ⟨fun d hd => by cases hd; exact ⟨_, rfl, z.2.2⟩, fun q => by cases q⟩
      · have h' : ¬ e.1 = k := z.1 ▸ h
        simp only [h, h', decide_false]
        exact ih
  exact e m.2
theorem Mix.put {d : D} {y v : V} (m : Mix K ft ρ H kvs es) (hk : KeyV K H k y) (hd : DV K ft ρ H d v) : Mix K ft ρ H (putM kvs k d) (putE es k y v) := by
  have hh := m.has (k := k)
  unfold putM putE
  rw [hh]
  cases q : hasE es k with
  | true =>
    simp only [if_true]
    refine ⟨?_, ?_⟩
    · have : (es.map fun e => if e.1 = k then (e.1, e.2.1, v) else e).map (·.1) = es.map (·.1) := by
        rw [List.map_map]
        apply List.map_congr_left
        intro e _
        simp only [Function.comp]
        split <;> rfl
      rw [this]
      exact m.1
    · have e : ∀ {kvs : List (MD.MK × D)} {es : EV}, Paired (fun (p : MD.MK × D) (e : MD.MK × V × V) => p.1 = e.1 ∧ KeyV K H e.1 e.2.1 ∧ DV K ft ρ H p.2 e.2.2) kvs es → Paired (fun (p : MD.MK × D) (e : MD.MK × V × V) => p.1 = e.1 ∧ KeyV K H e.1 e.2.1 ∧ DV K ft ρ H p.2 e.2.2) (kvs.map fun p => if p.1 = k then (p.1, d) else p) (es.map fun e => if e.1 = k then (e.1, e.2.1, v) else e) := by
        intro kvs es p
        induction p with
        | nil => exact .nil
        | @cons p e _ _ z t ih =>
          refine .cons ?_ ih
          by_cases h : p.1 = k
          · dsimp only; rw [if_pos h, if_pos (z.1 ▸ h)]; exact ⟨z.1, z.2.1, hd⟩
          · dsimp only; rw [if_neg h, if_neg (z.1 ▸ h)]; exact z
      exact e m.2
  | false =>
    simp only [Bool.false_eq_true, if_false]
    refine ⟨?_, ?_⟩
    · rw [List.map_append, List.nodup_append]
      refine ⟨m.1, by simp, fun a ha b hb z => ?_⟩
      simp at hb
      subst hb; subst z
      obtain ⟨e, he, e1⟩ := List.mem_map.mp ha
      have : hasE es a = true := List.any_eq_true.mpr ⟨e, he, decide_eq_true e1⟩
      rw [this] at q; cases q
    · have e : ∀ {kvs : List (MD.MK × D)} {es : EV}, Paired (fun (p : MD.MK × D) (e : MD.MK × V × V) => p.1 = e.1 ∧ KeyV K H e.1 e.2.1 ∧ DV K ft ρ H p.2 e.2.2) kvs es → Paired (fun (p : MD.MK × D) (e : MD.MK × V × V) => p.1 = e.1 ∧ KeyV K H e.1 e.2.1 ∧ DV K ft ρ H p.2 e.2.2) (kvs ++ [(k, d)]) (es ++ [(k, y, v)]) := by
        intro kvs es p
        induction p with
        | nil => exact .cons ⟨rfl, hk, hd⟩ .nil
        | cons z t ih => exact .cons z ih
      exact e m.2
end
/-! ## in, not in -/
def rMIn (hash : MD.MK → Int) (K : PySem.W.Frag) (neg : Bool) : R2 := fun x y H Q => ∃ a es k, y = .ref a ∧ MRd hash H a es ∧ (es.map (·.1)).Nodup ∧ (∀ e ∈ es, KeyV K H e.1 e.2.1) ∧ KeyV K H k x ∧ Q (.bl (if neg = true then !hasE es k else hasE es k)) H
theorem op_inM {X : Cx} {hash : MD.MK → Int} (hu : X.A.units + 3 < cLine) (hh : hash = MD.MK.hash X.prog X.w) : OpR X (compareOp .In) (rMIn hash X.K false) := by
  intro pins s σ H x y v u Q I rx ry h
  obtain ⟨a, es, k, rfl, e, nd, kv, hk, q⟩ := h
  obtain rfl : u = Value.ref a := ry
  obtain ⟨xs, m, p⟩ := mix_at hh I e nd kv
  refine MD.in_mk (show X.A.units + 1 + 2 < cLine by omega) (key_is I hk rx) m ⟨.bl _, H, I.tok _, ?_, q⟩
  have := (val_ex (k := k) p).isSome_eq
  simp only [Bool.false_eq_true, if_false, hasE_val]
  rw [this]
  rfl
theorem op_notInM {X : Cx} {hash : MD.MK → Int} (hu : X.A.units + 3 < cLine) (hh : hash = MD.MK.hash X.prog X.w) : OpR X (compareOp .NotIn) (rMIn hash X.K true) := by
  intro pins s σ H x y v u Q I rx ry h
  obtain ⟨a, es, k, rfl, e, nd, kv, hk, q⟩ := h
  obtain rfl : u = Value.ref a := ry
  obtain ⟨xs, m, p⟩ := mix_at hh I e nd kv
  refine MD.notIn_mk (show X.A.units + 1 + 2 < cLine by omega) (key_is I hk rx) m ⟨.bl _, H, I.tok _, ?_, q⟩
  have := (val_ex (k := k) p).isSome_eq
  simp only [if_true, hasE_val]
  rw [this]
  rfl
def mixOf (C : Hm) : D → Option (List (MD.MK × D))
  | .cell n => match C[n]? with
    | some (.dix kvs) => some kvs
    | some (.dxl kvs) => some kvs
    | _ => none
  | _ => none
theorem mixOf_ok {F : Fm} {ρ : List Addr} {H : Hp} {C : Hm} {d : D} {v : V} {kvs : List (MD.MK × D)} (R : RelF F ρ H C) (h : DVF F ρ H d v) (e : mixOf C d = some kvs) : ∃ a es, v = .ref a ∧ MRd F.ft.hash H a es ∧ Mix F.K F.ft ρ H kvs es := by
  cases d with
  | cell n =>
    unfold mixOf at e
    simp only at e
    split at e
    · rename_i ks q
      cases e
      obtain ⟨a, es, rfl, _, e1, m⟩ := R.dix q h
      exact ⟨a, es, rfl, .inl e1, m⟩
    · rename_i ks q
      cases e
      obtain ⟨a, es, o, rfl, _, e1, m⟩ := R.dxl q h
      exact ⟨a, es, rfl, .inr ⟨o, e1⟩, m⟩
    · cases e
  | _ => cases e
/-- y in x: a dict with mixed keys, or a list, a tuple -/
def inX (neg : Bool) : OD2 := fun x y C => match mixOf C y with
  | some kvs => (mkOf x).map fun k => (.bl (if neg = true then !hasM kvs k else hasM kvs k), C)
  | none => inD neg x y C
section
variable {F : Fm}
theorem inX_post {neg : Bool} {ρ : List Addr} {C C' : Hm} {H : Hp} {x y d : D} {vx vy : V} {Q : VK} (R : RelF F ρ H C) (hx : DVF F ρ H x vx) (hy : DVF F ρ H y vy) (hm : inX neg x y C = some (d, C')) (k : Post F ρ H d C' Q) : rMIn F.ft.hash F.K neg vx vy H Q ∨ rInS F.K neg vx vy H Q := by
  unfold inX at hm
  split at hm
  · rename_i kvs e
    obtain ⟨kk, e1, e2⟩ := omap hm
    cases e2
    obtain ⟨a, es, rfl, e3, m⟩ := mixOf_ok R hy e
    refine .inl ⟨a, es, kk, rfl, e3, m.1, m.kv, mkOf_ok hx e1, ?_⟩
    rw [← m.has]
    exact k.now R (.bl _)
  · exact .inr (inD_post R hx hy hm k)
theorem Room.u3 {k : Nat} {A : Around} (r : Room k A) : A.units + 3 < cLine := by have := r.un; omega
theorem so_inX (hh : F.ft.hash = MD.MK.hash F.prog F.w) : SOp F (compareOp .In) (inX false) :=
  ⟨_, fun X h => (show OpR X _ (rMIn F.ft.hash F.K false) by rw [← h.K]; exact op_inM (Room.u3 h.rm) (by rw [hh, h.prog, h.w])).or (show OpR X _ (rInS F.K false) by have z := op_inS (X := X) (Room.u64 h.rm); rw [h.K] at z; exact z), fun ρ C H x y vx vy d C' Q R hx hy hm k => inX_post R hx hy hm k⟩
theorem so_notInX (hh : F.ft.hash = MD.MK.hash F.prog F.w) : SOp F (compareOp .NotIn) (inX true) :=
  ⟨_, fun X h => (show OpR X _ (rMIn F.ft.hash F.K true) by rw [← h.K]; exact op_notInM (Room.u3 h.rm) (by rw [hh, h.prog, h.w])).or (show OpR X _ (rInS F.K true) by have z := op_notInS (X := X) (Room.u64 h.rm); rw [h.K] at z; exact z), fun ρ C H x y vx vy d C' Q R hx hy hm k => inX_post R hx hy hm k⟩
end
end Mi
set_option Elab.async false
set_option linter.all false
set_option maxRecDepth 100000
set_option maxHeartbeats 4000000
namespace Mi
open PySem PySem.Spec PyProof.Rows L2
/-! ## a mixed dict is written -/
theorem put_ex {k : MD.MK} {y v : V} {u r : Value} {es : EV} {xs : List MD.Ent} (p : Paired EX es xs) (ry : RelV y u) (rv : RelV v r) : Paired EX (putE es k y v) (MD.setM xs k u r) := by
  have hs : hasE es k = (MD.getM xs k).isSome := by rw [hasE_val]; exact (val_ex (k := k) p).isSome_eq
  unfold putE MD.setM
  rw [hs]
  split
  · rename_i hh
    clear hs hh
    induction p with
    | nil => exact .nil
    | @cons e x _ _ z t ih =>
      refine .cons ?_ ih
      by_cases h : e.1 = k
      · dsimp only; rw [if_pos h, if_pos (z.1 ▸ h)]; exact ⟨z.1, z.2.1, rv⟩
      · dsimp only; rw [if_neg h, if_neg (z.1 ▸ h)]; exact z
  · rename_i hh
    clear hs hh
    induction p with
    | nil => exact .cons ⟨rfl, ry, rv⟩ .nil
    | cons z t ih => exact .cons z ih
theorem len_putE (es : EV) (k : MD.MK) (y v : V) : (putE es k y v).length ≤ es.length + 1 := by
  unfold putE
  split
  · rw [List.length_map]; omega
  · simp
theorem ents_back {P : Program} {w : World} {hash : MD.MK → Int} (hh : hash = MD.MK.hash P w) : ∀ {es : EV} {xs : List MD.Ent}, Paired EX es xs → Paired (fun (e : MD.MK × V × V) (g : DictEntry) => g.hash = hash e.1 ∧ RelV e.2.1 g.key ∧ RelV e.2.2 g.val) es (xs.map (MD.ent P w))
  | _, _, .nil => .nil
  | _, _, .cons z t => .cons ⟨by subst hh; rw [z.1]; rfl, z.2.1, z.2.2⟩ (ents_back hh t)
theorem mix_obj {P : Program} {w : World} {hash : MD.MK → Int} (hh : hash = MD.MK.hash P w) {H' : Hp} {h' : Heap} {a : Addr} {es : EV} {xs : List MD.Ent} (sys : (a == sysModules) = false) (m : MD.MDict P w h' a xs) (p : Paired EX es xs) (hl : es.length ≤ sizeLine) : ObjOk P w H' h' a (mixO hash a es) := by
  obtain ⟨o, arr, ep, h1, h2, h3, h4⟩ := m
  refine ⟨⟨sys, hl, o, arr, ep, h1, h2, h3, ?_⟩, ⟨o, h1⟩, fun g1 g2 q k => ?_⟩
  · rw [h4]; exact ents_back hh p
  · obtain ⟨a1, a2, o', arr', ep', b1, b2⟩ := q
    exact ⟨a1, a2, o', arr', ep', k _ b1, b2⟩
theorem mix_written {X : Cx} {pins : List (Addr × Obj)} {σ : L2.St} {H : Hp} {s : Shared} {a : Addr} {es es' : EV} {hash : MD.MK → Int} {xs' : List MD.Ent} {h' : Heap} {t' : Nat} (I : Inv X pins σ H s) (hh : hash = MD.MK.hash X.prog X.w) (e : H a = some (mixO hash a es)) (sys : (a == sysModules) = false)
    (m : MD.MDict X.prog X.w h' a xs') (sb : Heap.SameBut a s.heap h') (p : Paired EX es' xs') (hl : es'.length ≤ sizeLine) : Inv X pins σ (upd H a (mixO hash a es')) { s with heap := h', toks := t' } :=
  d_write I (by rw [e]; exact True.intro) sb (let ⟨o, _, _, q, _⟩ := m; ⟨o, q⟩) (mix_obj hh sys m p hl)
/-- o[i] = v -/
def rSetX (hash : MD.MK → Int) (K : PySem.W.Frag) : TSet := fun o i v H Q => ∃ a es k, o = .ref a ∧ H a = some (mixO hash a es) ∧ (es.map (·.1)).Nodup ∧ (∀ e ∈ es, KeyV K H e.1 e.2.1) ∧ KeyV K H k i ∧ es.length < sizeLine ∧ Q (upd H a (mixO hash a (putE es k i v)))
theorem set_mixP {X : Cx} {hash : MD.MK → Int} (hu : X.A.units + 3 < cLine) (hh : hash = MD.MK.hash X.prog X.w) : PSet X (rSetX hash X.K) := by
  intro pins s σ H o i v ov iv u Q I ro ri rv h
  obtain ⟨a, es, k, rfl, e, nd, kv, hk, hl, q⟩ := h
  obtain rfl : ov = Value.ref a := ro
  obtain ⟨xs, m, p⟩ := mix_at hh I (.inl e) nd kv
  refine MD.setItem_mk (show X.A.units + 1 + 2 < cLine by omega) (key_is I hk ri) m fun h' m' sb => ?_
  exact ⟨_, mix_written I hh e m.sys m' sb (put_ex p ri rv) (by have := len_putE es k i v; omega), q⟩
theorem pset_or {X : Cx} {t t' : TSet} (h : PSet X t) (h' : PSet X t') : PSet X (fun o i v H Q => t o i v H Q ∨ t' o i v H Q) := by
  intro pins s σ H o i v ov iv u Q I ro ri rv q
  rcases q with q | q
  · exact h pins s σ H o i v ov iv u Q I ro ri rv q
  · exact h' pins s σ H o i v ov iv u Q I ro ri rv q
abbrev OS3 := D → D → D → Hm → Option Hm
def SSet (F : Fm) (f : OS3) : Prop := ∃ t : TSet, (∀ X, F.Is X → PSet X t) ∧ ∀ ρ C H o i d vo vi vd C' (Q : Hp → Prop), RelF F ρ H C → DVF F ρ H o vo → DVF F ρ H i vi → DVF F ρ H d vd → f o i d C = some C' → (∀ H', RelF F ρ H' C' → Stp ρ H ρ H' → Q H') → t vo vi vd H Q
def setX : OS3 := fun o i v C => match o with
  | .cell n => match C[n]? with
    | some (.lst ds) => (match i with | .int k => (ixN ds.length k).map fun j => C.set n (.lst (ds.set j v)) | _ => none)
    | some (.dic kvs) => (keyD i).bind fun k => if kvs.length < sizeLine then some (C.set n (.dic (putD kvs k v))) else none
    | some (.dix kvs) => (mkOf i).bind fun k => if kvs.length < sizeLine then some (C.set n (.dix (putM kvs k v))) else none
    | _ => none
  | _ => none
section
variable {F : Fm}
theorem Room.u2 {k : Nat} {A : Around} (r : Room k A) : A.units + 1 < cLine := by have := r.un; omega
theorem sset_X (hh : F.ft.hash = MD.MK.hash F.prog F.w) : SSet F setX := by
  refine ⟨_, fun X h => pset_or (set_list (X := X)) (pset_or (set_dict (Room.u2 h.rm)) (show PSet X (rSetX F.ft.hash F.K) by rw [← h.K]; exact set_mixP (Room.u3 h.rm) (by rw [hh, h.prog, h.w]))), fun ρ C H o i d vo vi vd C' Q R ho hi hd hm k => ?_⟩
  unfold setX at hm
  split at hm
  · split at hm
    · rename_i n ds q
      split at hm
      · obtain ⟨j, e1, e2⟩ := omap hm
        cases e2
        obtain ⟨p, vs, rfl, ep, e3, e4⟩ := R.lst q ho
        cases hi
        have st := Stp.write (o := .lst (vs.set j vd)) R ep q
        exact .inl ⟨p, vs, _, j, rfl, rfl, e3, by rw [← e4.length]; exact e1, k _ (R.writeL ep q (e4.set hd j)) st⟩
      · cases hm
    · rename_i n kvs q
      obtain ⟨kk, e1, hm⟩ := obind hm
      split at hm
      · rename_i hl
        cases hm
        obtain ⟨p, ws, rfl, ep, e3, e4⟩ := R.dic q ho
        have st := Stp.write (o := .dK (putK ws kk vd)) R ep q
        refine .inr (.inl ⟨p, _, rfl, ?_, k (upd H p (.dK (putK ws kk vd))) (R.write ep q ⟨_, upd_same, ?_⟩) st⟩)
        · rw [keyD_ok hi e1]; exact DPut.k e3 (by rw [← DKs.len e4]; exact hl)
        · exact Paired.mapP (putD_ok e4 hd) fun p q z => ⟨z.1, z.2.mono st⟩
      · cases hm
    · rename_i n kvs q
      obtain ⟨kk, e1, hm⟩ := obind hm
      split at hm
      · rename_i hl
        cases hm
        obtain ⟨p, es, rfl, ep, e3, m⟩ := R.dix q ho
        have st := Stp.write (o := mixO F.ft.hash p (putE es kk vi vd)) R ep q
        refine .inr (.inr ⟨p, es, kk, rfl, e3, m.1, m.kv, mkOf_ok hi e1, by rw [← m.len]; exact hl, k _ (R.write ep q ⟨_, upd_same, ?_⟩) st⟩)
        exact (m.put (mkOf_ok hi e1) hd).monoW st.wk
      · cases hm
    · cases hm
  · cases hm
end
section
variable {F : Fm} {o e value : Expr} {pos pos' : Pos} {mo mi mv : ME}
def mPut (f : OS3) (mv mo mi : ME) : MS := fun E C => (mv E C).bind fun r => (mo E r.2).bind fun p => (mi E p.2).bind fun q => (f p.1 q.1 r.1 q.2).map fun C' => .nx E C'
theorem ss_put {f : OS3} (hs : SSet F f) (ho : SE F o mo) (hi : SE F e mi) (hv : SE F value mv) (hsw : ∀ env : Env, swapsWithSole [.Subscript o e pos'] value pos.line env = pure false := by intro _; rfl) (hw : ∀ env : Env, swappedStores [.Subscript o e pos'] value env = pure none := by intro _; rfl)
    (h1 : ∀ env : Env, (assignEach [.Subscript o e pos'] env).map (·.2) = [assign (.Subscript o e pos') env] := by intro _; rfl)
    (ha : ∀ (X : Cx) (to ti : TE) (t : TSet), PE X o to → PE X e ti → PSet X t → PG X (.Subscript o e pos') (gSub to ti t) := by intro X to ti t a b c; exact pg_sub a b c) : SS F (.Assign [.Subscript o e pos'] value pos) (mPut f mv mo mi) := by
  obtain ⟨t, pt, st⟩ := hs
  obtain ⟨to, po, so⟩ := ho
  obtain ⟨ti, pi, si⟩ := hi
  obtain ⟨tv, pv, sv⟩ := hv
  refine ⟨tAsg tv (gSub to ti t), fun X h => ps_asg (pv X h) (ha X to ti t (po X h) (pi X h) (pt X h)) (hsw _) (hw _) (h1 _), fun ρ C H E σ o Z R eo hm k => ?_⟩
  obtain ⟨⟨r, C0⟩, h0, hm⟩ := obind hm
  obtain ⟨⟨x, C1⟩, h1, hm⟩ := obind hm
  obtain ⟨⟨y, C2⟩, h2, hm⟩ := obind hm
  obtain ⟨C3, h3, hm⟩ := omap hm
  subst hm
  refine sv ρ C H E σ r C0 _ R eo h0 fun ρ0 H0 v0 R0 s0 d0 => ?_
  refine so ρ0 C0 H0 E σ x C1 _ R0 (eo.mono s0) h1 fun ρ1 H1 v1 R1 s1 d1 => ?_
  refine si ρ1 C1 H1 E σ y C2 _ R1 (eo.mono (s0.trans s1)) h2 fun ρ2 H2 v2 R2 s2 d2 => ?_
  refine st ρ2 C2 H2 x y r v1 v2 v0 C3 _ R2 (d1.mono s2) d2 (d0.mono (s1.trans s2)) h3 fun H3 R3 s3 => ?_
  have s := ((s0.trans s1).trans s2).trans s3
  exact k ρ2 H3 σ R3 s (eo.mono s)
/-- o[i] op= v: what stands in a list -/
def rGetL (K : PySem.W.Frag) : V → V → Hp → VK → Prop := fun x y H Q => ∃ p xs i v, x = .ref p ∧ y = .int i ∧ 0 ≤ i ∧ SqL K H p xs ∧ xs[i.toNat]? = some v ∧ Q v H
theorem get_listP {X : Cx} : PGet X (rGetL X.K) := by
  intro pins s σ H o i ov iv Q I ro ri h
  obtain ⟨p, xs, k, v, rfl, rfl, h0, hs, hv, q⟩ := h
  obtain rfl : ov = Value.ref p := ro
  obtain ⟨t, rfl⟩ := ri
  obtain ⟨its, r, pl, hz⟩ := I.list hs
  obtain ⟨w, ew, rw'⟩ := r.get hv
  have hl := r.length
  have hn := line63
  have hi := (List.getElem?_eq_some_iff.mp hv).1
  exact wpAny_getItem_list pl.isList h0 (by omega) (by simpa using ew) ⟨v, H, I, rw', q⟩
def getL0 : OD2 := fun x y C => match x, y with
  | .cell n, .int i => (match C[n]? with
    | some (.lst ds) => if 0 ≤ i then ds[i.toNat]?.map fun d => (d, C) else none
    | _ => none)
  | _, _ => none
def mPutA (g : OD2) (f : OD2) (t : OS3) (mo mi mv : ME) : MS := fun E C => (mo E C).bind fun p => (mi E p.2).bind fun q => (g p.1 q.1 q.2).bind fun r => (mv E r.2).bind fun z => (f r.1 z.1 z.2).bind fun y => (t p.1 q.1 y.1 y.2).map fun C' => .nx E C'
def SGt (F : Fm) (f : OD2) : Prop := ∃ t, (∀ X, F.Is X → PGet X t) ∧ ∀ ρ C H x y vx vy d C' Q, RelF F ρ H C → DVF F ρ H x vx → DVF F ρ H y vy → f x y C = some (d, C') → Post F ρ H d C' Q → t vx vy H Q
theorem sgt_list : SGt F getL0 := by
  refine ⟨rGetL F.K, fun X h => by rw [← h.K]; exact get_listP, fun ρ C H x y vx vy d C' Q R hx hy hm k => ?_⟩
  unfold getL0 at hm
  split at hm
  · split at hm
    · rename_i ds q
      split at hm
      · rename_i h0
        obtain ⟨z, e1, e2⟩ := omap hm
        cases e2
        obtain ⟨p, vs, rfl, ep, e3, e4⟩ := R.lst q hx
        obtain ⟨v, e5, e6⟩ := e4.get e1
        cases hy
        exact ⟨p, vs, _, v, rfl, rfl, h0, SqL.of e3, e5, k.now R e6⟩
      · cases hm
    · cases hm
  · cases hm
theorem ss_putA {op : Operator} {g f : OD2} {t : OS3} (hg : SGt F g) (hf : SIp F op f) (hs : SSet F t) (ho : SE F o mo) (hi : SE F e mi) (hv : SE F value mv)
    (ha : ∀ ov iv new, augStore e ov iv new = (do holding [new, ov, iv] (setItem ov iv new); release [new, ov, iv] []; pure .next) := by intros; rfl) : SS F (.AugAssign (.Subscript o e pos') op value pos) (mPutA g f t mo mi mv) := by
  obtain ⟨tg, pg, sg⟩ := hg
  obtain ⟨tf, pf, sf⟩ := hf
  obtain ⟨ts, ps, ss⟩ := hs
  obtain ⟨to, po, so⟩ := ho
  obtain ⟨ti, pi, si⟩ := hi
  obtain ⟨tv, pv, sv⟩ := hv
  refine ⟨tAugS to ti tv tg tf ts, fun X h => ps_augS (po X h) (pi X h) (pg X h) (pv X h) (pf X h) (ps X h) ha, fun ρ C H E σ o Z R eo hm k => ?_⟩
  obtain ⟨⟨x, C1⟩, h1, hm⟩ := obind hm
  obtain ⟨⟨y, C2⟩, h2, hm⟩ := obind hm
  obtain ⟨⟨z, C3⟩, h3, hm⟩ := obind hm
  obtain ⟨⟨r, C4⟩, h4, hm⟩ := obind hm
  obtain ⟨⟨n, C5⟩, h5, hm⟩ := obind hm
  obtain ⟨C6, h6, hm⟩ := omap hm
  subst hm
  refine so ρ C H E σ x C1 _ R eo h1 fun ρ1 H1 v1 R1 s1 d1 => ?_
  refine si ρ1 C1 H1 E σ y C2 _ R1 (eo.mono s1) h2 fun ρ2 H2 v2 R2 s2 d2 => ?_
  refine sg ρ2 C2 H2 x y v1 v2 z C3 _ R2 (d1.mono s2) d2 h3 fun ρ3 H3 v3 R3 s3 d3 => ?_
  refine sv ρ3 C3 H3 E σ r C4 _ R3 (eo.mono ((s1.trans s2).trans s3)) h4 fun ρ4 H4 v4 R4 s4 d4 => ?_
  refine sf ρ4 C4 H4 z r v3 v4 n C5 _ R4 (d3.mono s4) d4 h5 fun ρ5 H5 v5 R5 s5 d5 => ?_
  have s25 := (s3.trans s4).trans s5
  refine ss ρ5 C5 H5 x y n v1 v2 v5 C6 _ R5 (d1.mono (s2.trans s25)) (d2.mono s25) d5 h6 fun H6 R6 s6 => ?_
  have s := ((s1.trans s2).trans s25).trans s6
  exact k ρ5 H6 σ R6 s (eo.mono s)
end
end Mi
set_option Elab.async false
set_option linter.all false
set_option maxRecDepth 100000
set_option maxHeartbeats 4000000
namespace MD
open PySem PySem.Spec PyProof.Rows L2
section
variable {P : Program} {w : World} {A : Around} {E : Value → Shared → Prop} {s : Shared} {d : Addr} {key v : Value} {k : MK} {xs : List Ent}
theorem sdflt_meets {dflt : Value} (hd : (d == sysModules) = false) : MeetsIn P w (Builtin.«dict.setdefault» ⟨[.ref d, key, dflt], []⟩) (fun A R s => A.in1.units + 2 < cLine ∧ ∃ k xs, MK.is P w s.heap k key ∧ MAt P w s.heap d xs ∧ (∀ p, getM xs k = some p → R (.ok (.ret p)) { s with toks := s.toks + k.draws }) ∧
    (getM xs k = none → ∀ h', MDict P w h' d (setM xs k key dflt) → Heap.SameBut d s.heap h' → R (.ok (.ret dflt)) { s with heap := h', toks := s.toks + k.draws })) :=
  .of_wp fun A R s ⟨hu, k, xs, hkey, m, q1, q2⟩ => by
    unfold Builtin.«dict.setdefault»; refine wpAny_bind ?_
    unfold Builtin.Dict.keyAndDefault; refine wpAny_bind (wpAny_notOrdered_dict m.typeIs ?_)
    show wpAny (model P w) _ (pure (d, key, some dflt)) _ _ s
    refine wpAny_pure ?_
    show wpAny (model P w) _ (if (d == sysModules) = true then _ else (dictSetDefault d key dflt >>= _)) _ _ s
    rw [if_neg (by rw [m.sys]; exact Bool.false_ne_true)]
    exact wpAny_bind (sdflt_mk hu hkey m (fun p hp => wpAny_pure ⟨p, rfl, q1 p hp⟩) fun hn h' m' hs => wpAny_pure ⟨dflt, rfl, q2 hn h' m' hs⟩)
theorem sdflt2_mk {dflt : Value} {Q : Value → Shared → Prop} (hu : A.in1.units + 2 < cLine) (hkey : MK.is P w s.heap k key) (m : MAt P w s.heap d xs) (q1 : ∀ p, getM xs k = some p → Q p { s with toks := s.toks + k.draws })
    (q2 : getM xs k = none → ∀ h', MDict P w h' d (setM xs k key dflt) → Heap.SameBut d s.heap h' → Q dflt { s with heap := h', toks := s.toks + k.draws }) : wpAny (model P w) A (call (.builtin "dict.setdefault") [.ref d, key, dflt]) Q E s :=
  call_meetsIn PySem.F.slot_dict_setdefault m.typeIs PySem.F.entry_dict_setdefault (PySem.F.args_dict_setdefault_3 _ _ _) (sdflt_meets m.sys) ⟨hu, k, xs, hkey, m, q1, q2⟩
end
end MD
namespace Mi
open PySem PySem.Spec PyProof.Rows L2
/-! ## methods of mixed dicts -/
section
variable {X : Cx} {pins : List (Addr × Obj)} {σ : L2.St} {H : Hp} {s : Shared} {a : Addr} {es : EV} {hash : MD.MK → Int}
theorem mixRd_is (I : Inv X pins σ H s) (e : MRd hash H a es) : s.TypeIs (.ref a) "dict" ∧ (∀ b, Value.ref a = .ref b → ∃ ob, s.heap.get? b = some ob ∧ ob.dict = none) ∧ (a == sysModules) = false := by
  have ok : ObjOk X.prog X.w H s.heap a (mixO hash a es) := by
    rcases e with e | ⟨o, e⟩
    · exact I.hok a _ e
    · exact (I.hok a _ e).2
  obtain ⟨⟨hs, hl, o, arr, ep, h1, h2, h3, hp⟩, _⟩ := ok
  exact ⟨⟨o, h1, h2.1⟩, (fun b q => by cases q; exact ⟨o, h1, h2.2.1⟩), hs⟩
variable {o e : Expr} {es' : List Expr} {to : TE} {t : TA} {apos cpos : Pos} {name : Str} {id : String} {r : V → List V → Hp → VK → Prop}
def tBMX (hash : MD.MK → Int) (r : V → List V → Hp → VK → Prop) (to : TE) (t : TA) : TE := fun σ H Q => to σ H fun x H1 => (∃ a es, x = V.ref a ∧ MRd hash H1 a es) ∧ t σ H1 fun xs H2 => r x xs H2 Q
theorem pe_bmX (slot : Slot "dict" name id) (hty : typeOf (.builtin id) = pure (.type "method_descriptor")) (hm : MtR X id r) (ho : PE X o to) (ha : PA X (e :: es') t) (hbase : attributeBase o name X.env (eval o X.env) = eval o X.env)
    (hfew : ((backTo cpos (starEach (e :: es') X.env)).all (fun x => !x.1) && (backToKw cpos (keywordEach [] X.env)).all (fun x => x.1.isSome) && decide ((e :: es').length + ([] : List Keyword).length + (if ([] : List Keyword).isEmpty then 0 else 1) < 30)) = true)
    (hline : (apos.endLine == cpos.line) = true) (hs : starEach (e :: es') X.env = (false, eval e X.env) :: starEach es' X.env) (hplain : (backTo cpos (starEach es' X.env)).any (·.1) = false) : PE X (.Call (.Attribute o name apos) (e :: es') [] cpos) (tBMX hash r to t) := by
  constructor
  intro pins s σ H Q I h
  refine wpAny_Call_method_late hbase hfew hline rfl (thn (ho.run pins s σ H _ I h) fun v s1 ⟨x, H1, I1, r1, ⟨a, es, ex, mr⟩, q1⟩ => ?_)
  subst ex
  obtain rfl : v = Value.ref a := r1
  obtain ⟨t1, t2, _⟩ := mixRd_is I1 mr
  refine ⟨"dict", id, PySem.F.plainAttrs_dict, slot, hty, t1, t2, ?_⟩
  have args := ha.run cpos pins s1 σ H1 _ I1 q1
  rw [hs] at args ⊢
  have none : ((false, eval e X.env) :: starEach es' X.env).any (·.1) = (starEach es' X.env).any (·.1) := rfl
  refine Calls.callWith_builtin ?_ (Calls.evalArgs_plain (thn args fun us s2 ⟨vs, H2, I2, r2, q2⟩ => hm pins s2 σ H2 (.ref a) vs _ us Q I2 rfl r2 q2))
  show (false || (backTo cpos (starEach es' X.env)).any (·.1)) = false
  rw [hplain]; rfl
/-- d.get(y, z) -/
def rGet2 (hash : MD.MK → Int) (K : PySem.W.Frag) : V → List V → Hp → VK → Prop := fun x xs H Q => ∃ a es k y z, x = V.ref a ∧ xs = [y, z] ∧ MRd hash H a es ∧ (es.map (·.1)).Nodup ∧ (∀ e ∈ es, KeyV K H e.1 e.2.1) ∧ KeyV K H k y ∧ Q ((valE es k).getD z) H
theorem mt_get2 (hu : X.A.units + 3 < cLine) (hh : hash = MD.MK.hash X.prog X.w) : MtR X "dict.get" (rGet2 hash X.K) := by
  intro pins s σ H x xs v us Q I rx rxs h
  obtain ⟨a, es, k, y, z, rfl, rfl, e, nd, kv, hk, q⟩ := h
  obtain rfl : v = Value.ref a := rx
  obtain ⟨u1, u2, rfl, r1, r2⟩ := rxs.two
  obtain ⟨xs, m, p⟩ := mix_at hh I e nd kv
  exact MD.get2_mk (show X.A.units + 1 + 2 < cLine by omega) (key_is I hk r1) m ⟨_, H, I.tok _, (val_ex (k := k) p).getD r2, q⟩
/-- d.setdefault(y, z) -/
def rSdf (hash : MD.MK → Int) (K : PySem.W.Frag) : V → List V → Hp → VK → Prop := fun x xs H Q => ∃ a es k y z, x = V.ref a ∧ xs = [y, z] ∧ H a = some (mixO hash a es) ∧ (es.map (·.1)).Nodup ∧ (∀ e ∈ es, KeyV K H e.1 e.2.1) ∧ KeyV K H k y ∧ es.length < sizeLine ∧
  (∀ p, valE es k = some p → Q p H) ∧ (valE es k = none → Q z (upd H a (mixO hash a (putE es k y z))))
theorem mt_sdf (hu : X.A.units + 3 < cLine) (hh : hash = MD.MK.hash X.prog X.w) : MtR X "dict.setdefault" (rSdf hash X.K) := by
  intro pins s σ H x xs v us Q I rx rxs h
  obtain ⟨a, es, k, y, z, rfl, rfl, e, nd, kv, hk, hl, q1, q2⟩ := h
  obtain rfl : v = Value.ref a := rx
  obtain ⟨u1, u2, rfl, r1, r2⟩ := rxs.two
  obtain ⟨xs, m, p⟩ := mix_at hh I (.inl e) nd kv
  have rel := val_ex (k := k) p
  refine MD.sdflt2_mk (show X.A.units + 1 + 2 < cLine by omega) (key_is I hk r1) m (fun w hw => ?_) fun hn h' m' sb => ?_
  · rw [hw] at rel
    cases hv : valE es k with
    | none => rw [hv] at rel; exact rel.elim
    | some y' => rw [hv] at rel; exact ⟨y', H, I.tok _, rel, q1 y' hv⟩
  · rw [hn] at rel
    have hv : valE es k = none := by
      cases hv : valE es k with
      | none => rfl
      | some y' => rw [hv] at rel; exact rel.elim
    exact ⟨z, _, mix_written I hh e m.sys m' sb (put_ex p r1 r2) (by have := len_putE es k y z; omega), r2, q2 hv⟩
end
def SMtX (F : Fm) (id : String) (op : ODM) : Prop := ∃ r, (∀ X, F.Is X → MtR X id r) ∧
  (∀ ρ C H x xs vx vs d C' Q, RelF F ρ H C → DVF F ρ H x vx → DVsF F ρ H xs vs → op x xs C = some (d, C') → Post F ρ H d C' Q → r vx vs H Q)
def mMethX (op : ODM) (mo : ME) (ml : MA) : ME := fun E C => (mo E C).bind fun p => if (mixOf p.2 p.1).isSome = true then (ml E p.2).bind fun q => op p.1 q.1 q.2 else none
section
variable {F : Fm} {o e : Expr} {es : List Expr} {apos pos : Pos} {name : Str} {id : String} {op : ODM} {mo : ME} {ml : MA}
theorem se_bmX (slot : Slot "dict" name id) (hty : typeOf (.builtin id) = pure (.type "method_descriptor")) (hmt : SMtX F id op) (ho : SE F o mo) (ha : SA F (e :: es) ml)
    (hbase : ∀ env : Env, attributeBase o name env (eval o env) = eval o env := by intro _; rfl)
    (hfew : ∀ env : Env, ((backTo pos (starEach (e :: es) env)).all (fun x => !x.1) && (backToKw pos (keywordEach [] env)).all (fun x => x.1.isSome) && decide ((e :: es).length + ([] : List Keyword).length + (if ([] : List Keyword).isEmpty then 0 else 1) < 30)) = true := by intro _; rfl)
    (hline : (apos.endLine == pos.line) = true := by rfl) (hs : ∀ env : Env, starEach (e :: es) env = (false, eval e env) :: starEach es env := by intro _; rfl) (hplain : ∀ env : Env, (backTo pos (starEach es env)).any (·.1) = false := by intro _; rfl) :
    SE F (.Call (.Attribute o name apos) (e :: es) [] pos) (mMethX op mo ml) := by
  obtain ⟨r, hr, sr⟩ := hmt
  obtain ⟨to, po, so⟩ := ho
  obtain ⟨tl, pl, sl⟩ := ha
  refine ⟨tBMX F.ft.hash r to tl, fun X h => pe_bmX slot hty (hr X h) (po X h) (pl X h) (hbase _) (hfew _) hline (hs _) (hplain _), fun ρ C H E σ d C' Q R eo hm k => ?_⟩
  obtain ⟨⟨x, C1⟩, h1, hm⟩ := obind hm
  simp only at hm
  split at hm
  · rename_i hx
    obtain ⟨⟨ys, C2⟩, h2, hm⟩ := obind hm
    refine so ρ C H E σ x C1 _ R eo h1 fun ρ1 H1 v1 R1 s1 d1 => ⟨?_, ?_⟩
    · obtain ⟨kvs, e1⟩ := Option.isSome_iff_exists.mp hx
      obtain ⟨a, es, ev, mr, _⟩ := mixOf_ok R1 d1 e1
      exact ⟨a, es, ev, mr⟩
    · refine sl ρ1 C1 H1 E σ ys C2 _ R1 (eo.mono s1) h2 fun ρ2 H2 v2 R2 s2 d2 => ?_
      exact sr ρ2 C2 H2 x ys v1 v2 d C' Q R2 (d1.mono s2) d2 hm (k.step (s1.trans s2))
  · cases hm
def get2D : ODM := fun x xs C => match xs with
  | [y, z] => (mixOf C x).bind fun kvs => (mkOf y).map fun k => ((valM kvs k).getD z, C)
  | _ => none
theorem smx_get2 (hh : F.ft.hash = MD.MK.hash F.prog F.w) : SMtX F "dict.get" get2D := by
  refine ⟨rGet2 F.ft.hash F.K, fun X h => by rw [← h.K]; exact mt_get2 (Room.u3 h.rm) (by rw [hh, h.prog, h.w]), fun ρ C H x xs vx vs d C' Q R hx hxs hm k => ?_⟩
  unfold get2D at hm
  split at hm
  · rename_i y z
    obtain ⟨kvs, e1, hm⟩ := obind hm
    obtain ⟨kk, e2, e3⟩ := omap hm
    cases e3
    obtain ⟨a, es, rfl, mr, m⟩ := mixOf_ok R hx e1
    cases hxs with | cons h1 h2 => cases h2 with | cons h3 h4 =>
      cases h4
      refine ⟨a, es, kk, _, _, rfl, rfl, mr, m.1, m.kv, mkOf_ok h1 e2, ?_⟩
      have mv := m.val (k := kk)
      cases q : valM kvs kk with
      | none => rw [mv.2 q]; rw [q] at k; exact k.now R h3
      | some w =>
        obtain ⟨v, e4, e5⟩ := mv.1 w q
        rw [e4]; rw [q] at k; exact k.now R e5
  · cases hm
def sdfD : ODM := fun x xs C => match x, xs with
  | .cell n, [y, z] => (match C[n]? with
    | some (.dix kvs) => (mkOf y).bind fun k => if kvs.length < sizeLine then (match valM kvs k with
      | some d => some (d, C)
      | none => some (z, C.set n (.dix (putM kvs k z)))) else none
    | _ => none)
  | _, _ => none
theorem smx_sdf (hh : F.ft.hash = MD.MK.hash F.prog F.w) : SMtX F "dict.setdefault" sdfD := by
  refine ⟨rSdf F.ft.hash F.K, fun X h => by rw [← h.K]; exact mt_sdf (Room.u3 h.rm) (by rw [hh, h.prog, h.w]), fun ρ C H x xs vx vs d C' Q R hx hxs hm k => ?_⟩
  unfold sdfD at hm
  split at hm
  · rename_i n y z
    split at hm
    · rename_i kvs q
      obtain ⟨kk, e2, hm⟩ := obind hm
      split at hm
      · rename_i hl
        obtain ⟨p, es, rfl, ep, e3, m⟩ := R.dix q hx
        have mv := m.val (k := kk)
        cases hxs with | cons h1 h2 => cases h2 with | cons h3 h4 =>
          cases h4
          rename_i v1 v3
          refine ⟨p, es, kk, _, _, rfl, rfl, e3, m.1, m.kv, mkOf_ok h1 e2, by rw [← m.len]; exact hl, fun w hw => ?_, fun hn => ?_⟩
          · split at hm
            · rename_i d0 qv
              cases hm
              obtain ⟨v, e4, e5⟩ := mv.1 _ qv
              rw [hw] at e4; cases e4
              exact k.now R e5
            · rename_i qv
              rw [mv.2 qv] at hw; cases hw
          · split at hm
            · rename_i d0 qv
              obtain ⟨v, e4, e5⟩ := mv.1 _ qv
              rw [hn] at e4; cases e4
            · cases hm
              have st := Stp.write (o := mixO F.ft.hash p (putE es kk v1 v3)) R ep q
              exact k ρ _ _ (R.write ep q ⟨_, upd_same, (m.put (mkOf_ok h1 e2) h3).monoW st.wk⟩) st (h3.mono st)
      · cases hm
    · cases hm
  · cases hm
end
/-! ## {} -/
theorem mixO_empty {P : Program} {w : World} {H : Hp} {hash : MD.MK → Int} (h : Heap) (hb : sysModules < h.objs.size) : ObjOk P w H (h.push { cls := .type "dict", data := .dict #[] }) h.objs.size (mixO hash h.objs.size []) :=
  ⟨⟨beq_eq_false_iff_ne.mpr (Ne.symm (Nat.ne_of_lt hb)), Nat.zero_le _, _, #[], 0, Heap.get?_push_size _ rfl, ⟨rfl, rfl, rfl⟩, rfl, .nil⟩, ⟨_, Heap.get?_push_size _ rfl⟩, fun g1 g2 q k => let ⟨a1, a2, o', arr', ep', b1, b2⟩ := q; ⟨a1, a2, o', arr', ep', k _ b1, b2⟩⟩
def tNewX (hash : MD.MK → Int) : TE := fun _ H Q => ∀ p, H p = none → Q (.ref p) (upd H p (mixO hash p []))
theorem pe_newX {X : Cx} {hash : MD.MK → Int} {pos : Pos} : PE X (.Dict [] [] pos) (tNewX hash) := by
  constructor
  intro pins s σ H Q I h
  exact wpAny_Dict_empty ⟨.ref s.heap.objs.size, _, I.laid (a := s.heap.objs.size) (o := mixO hash s.heap.objs.size []) (t' := s.toks) (fun _ _ q => Heap.get?_push_of_some _ q) (Nat.le_refl _) (mixO_empty s.heap I.big), rfl, h _ (I.hok.fresh (Nat.le_refl _))⟩
theorem mix_nil {K : PySem.W.Frag} {ft : Cfg} {ρ : List Addr} {H : Hp} : Mix K ft ρ H [] [] := ⟨by simp, .nil⟩
theorem Rel.newX {K : PySem.W.Frag} {ft : Cfg} {ρ : List Addr} {H : Hp} {C : Hm} (R : Rel K ft ρ H C) {p : Addr} (hp : H p = none) : Rel K ft (ρ ++ [p]) (upd H p (mixO ft.hash p [])) (C ++ [.dix []]) :=
  (R.fresh hp).push (R.out hp) ⟨[], upd_same, mix_nil⟩
def mNewX : ME := fun _ C => some (.cell C.length, C ++ [.dix []])
theorem se_newX {F : Fm} {pos : Pos} : SE F (.Dict [] [] pos) mNewX :=
  ⟨tNewX F.ft.hash, fun X h => pe_newX, fun ρ C H E σ d C' Q R eo hm k => by cases hm; exact fun p hp => k _ _ _ (R.newX hp) (Stp.push hp) (DV.new R)⟩
end Mi
set_option Elab.async false
set_option linter.all false
set_option maxRecDepth 100000
set_option maxHeartbeats 4000000
namespace Mi
open PySem PySem.Spec PyProof.Rows L2
/-! ## a locked mixed dict is walked -/
def Itx (hash : MD.MK → Int) (a : Addr) (o : Obj) (es : EV) : It :=
  ⟨fun i H => H a = some (.frz o (mixO hash a es)) ∧ i < es.length, fun i H x H' => H' = H ∧ ∃ e, es[i]? = some e ∧ x = e.2.1, fun i H => H a = some (.frz o (mixO hash a es)) ∧ es.length ≤ i⟩
theorem frz_mix {X : Cx} {pins : List (Addr × Obj)} {σ : L2.St} {H : Hp} {s : Shared} {a : Addr} {es : EV} {hash : MD.MK → Int} {o : Obj} (I : Inv X pins σ H s) (h : H a = some (.frz o (mixO hash a es))) :
    (a == sysModules) = false ∧ es.length ≤ sizeLine ∧ s.heap.get? a = some o ∧ o.ExactDict ∧ ∃ (arr : Array DictEntry) (ep : Nat), o.data = .dict arr ep ∧ arr.size = es.length ∧ ∀ (i : Nat) (e : MD.MK × V × V), es[i]? = some e → ∃ g : DictEntry, arr[i]? = some g ∧ RelV e.2.1 g.key := by
  obtain ⟨h0, ⟨hs, hl, o', arr, ep, h1, h2, h3, hp⟩, _⟩ := I.hok a _ h
  rw [h0] at h1
  cases h1
  refine ⟨hs, hl, h0, h2, arr, ep, h3, ?_, fun i e he => ?_⟩
  · rw [← Array.length_toList]; exact (Paired.length hp).symm
  · obtain ⟨g, e1, e2⟩ := paired_get hp he
    exact ⟨g, by rw [← Array.getElem?_toList]; exact e1, e2.2.1⟩
section
variable {P : Program} {w : World} {K : PySem.W.Frag} {tg : Expr} {a : Addr} {o : Obj} {arr : Array DictEntry} {ep : Nat} {hash : MD.MK → Int} {es : EV}
theorem turn_mix (it : Addr) (hod : o.data = .dict arr ep) (hn : arr.size = es.length) : Turn P w K tg (Itx hash a o es) [it] it (fun i h => h.IsKeyIter it a i es.length ep) := by
  refine ⟨by simp, fun i h st b hb => ?_, fun i h h' st k => st.at fun ob q => k it (by simp) ob q, ?_, ?_, fun A i s Q E st q => wpAny_pyIter_keyiter st q⟩
  · obtain rfl : b = it := by simpa using hb
    obtain ⟨ob, e, _, dd⟩ := st
    exact ⟨ob, e, fun v z => by rw [dd] at z; cases z⟩
  · intro X hP hw hK hc i pins s σ H E I hf st hg
    subst hP hw hK
    obtain ⟨hd, hi⟩ := hg
    have own := hf it (by simp)
    obtain ⟨_, _, hget, _, arr', ep', hdt, _, at_⟩ := frz_mix I hd
    rw [hod] at hdt
    cases hdt
    obtain ⟨g, e1, e2⟩ := at_ i es[i] (List.getElem?_eq_getElem hi)
    refine next_key_item st hget hod hn e1 fun h' st' sb => ⟨g.key, rfl, ?_⟩
    obtain ⟨ob, q1, q2, q3⟩ := id st'
    refine go_of (s := { s with heap := h' }) q1 q2 q3 (by decide) ⟨es[i].2.1, H, ?_, e2, ⟨rfl, es[i], List.getElem?_eq_getElem hi, rfl⟩, st', fun b hb => (hf b hb).1⟩
    exact I.turned (t' := s.toks) (fun b ob hb q => (sb.2 b hb).trans q) own.1 own.2.1 own.2.2.2.1 own.2.2.2.2.1 own.2.2.2.2.2
  · intro X hP hw hK hc i pins s σ H E I hf st hg
    subst hP hw hK
    obtain ⟨hd, hi⟩ := hg
    have own := hf it (by simp)
    obtain ⟨_, _, hget, _, arr', ep', hdt, _, _⟩ := frz_mix I hd
    rw [hod] at hdt
    cases hdt
    exact next_key_end (I.ok.hd hc) st hget hod hn hi fun h' eb => ⟨rfl, I.turned (t' := s.toks) (fun b ob hb q => eb b ob hb q) own.1 own.2.1 own.2.2.2.1 own.2.2.2.2.1 own.2.2.2.2.2⟩
end
def iAnyXR (hash : MD.MK → Int) (K : PySem.W.Frag) (tl : TE) : TI := fun σ H R => tl σ H fun x H1 => (∃ a, x = V.ref a ∧ (∃ xs, SqT K H1 a xs) ∧ R (Itt K a) H1) ∨ (∃ a, x = V.ref a ∧ (∃ xs, SqL K H1 a xs) ∧ R (Itl K a) H1) ∨ (∃ z, x = .str z ∧ R (Its z) H1) ∨
  ∃ a o es, x = V.ref a ∧ H1 a = some (.frz o (mixO hash a es)) ∧ R (Itx hash a o es) H1
theorem pi_anyX {X : Cx} {tg l : Expr} {tl : TE} {hash : MD.MK → Int} (hl : PE X l tl) : PI X tg l (iAnyXR hash X.K tl) := by
  constructor
  intro pins s σ H R I h
  refine thn (hl.run pins s σ H _ I h) fun v s1 hv => ?_
  obtain ⟨x, H1, I1, r1, q1⟩ := hv
  have more : ∀ (o : Obj), Inv X pins σ H1 { s1 with heap := s1.heap.push o } := fun o => I1.kept (t' := s1.toks) fun b u e => Heap.get?_push_of_some _ e
  have ours : ∀ b ∈ [s1.heap.objs.size], FpOk X pins H1 b := fun b hb => by
    obtain rfl : b = s1.heap.objs.size := by simpa using hb
    exact I1.fpOk (Nat.le_refl _) I1.fresh
  rcases q1 with ⟨a, rfl, ⟨xs, hq⟩, q⟩ | ⟨a, rfl, ⟨xs, hq⟩, q⟩ | ⟨z, rfl, q⟩ | ⟨a, o, es, rfl, hq, q⟩
  · obtain rfl : v = Value.ref a := r1
    obtain ⟨its, rv, p, hz⟩ := I1.tuple hq
    exact wpAny_pyIter_tuple (show s1.heap.IsTuple a its.toArray from p) ⟨_, [s1.heap.objs.size], _, _, H1, rfl, more _, turn_tuple a _, ⟨_, Heap.get?_push_size _ rfl, rfl, rfl⟩, ours, q⟩
  · obtain rfl : v = Value.ref a := r1
    obtain ⟨its, rv, p, hz⟩ := I1.list hq
    exact wpAny_pyIter_list p.isList ⟨_, [s1.heap.objs.size], _, _, H1, rfl, more _, turn_list a _, ⟨_, Heap.get?_push_size _ rfl, rfl, rfl⟩, ours, q⟩
  · obtain ⟨t, rfl⟩ := (show ∃ t, v = Value.str z t from r1)
    by_cases small : z.cps.all (· < 128) = true
    · exact wpAny_pyIter_ascii small (pi_one (tk := s1.toks) I1 _ (turn_str _ z t _ (.inl rfl)) ⟨_, Heap.get?_push_size _ rfl, rfl, rfl⟩ q)
    · exact wpAny_pyIter_wide (by simpa using small) (pi_one (tk := s1.toks) I1 _ (turn_str _ z t _ (.inr rfl)) ⟨_, Heap.get?_push_size _ rfl, rfl, rfl⟩ q)
  · obtain rfl : v = Value.ref a := r1
    obtain ⟨sys, _, hget, hx, arr, ep, hdt, hn, _⟩ := frz_mix I1 hq
    refine iter_keys sys hget hx hdt (pi_one (tk := s1.toks) I1 _ (turn_mix _ hdt hn) ?_ q)
    refine ⟨_, Heap.get?_push_size _ rfl, rfl, ?_⟩
    rw [← hn]; rfl
def iAnyDX (d : D) (C : Hm) : Option (Itm × Nat × Hm) := match d with
  | .cell n => match C[n]? with
    | some (.lst ds) => some (.live n, ds.length, C)
    | some (.dxl kvs) => some (.seq (kvs.map fun p => mkD p.1), kvs.length, C)
    | _ => none
  | d => iAnyD d C
def mIAnyX (m : ME) : MI := fun E C => (m E C).bind fun p => iAnyDX p.1 p.2
section
variable {F : Fm} {tg iter : Expr} {me : ME}
theorem Mix.at_ {K : PySem.W.Frag} {ft : Cfg} {ρ : List Addr} {H : Hp} {kvs : List (MD.MK × D)} {es : EV} (m : Mix K ft ρ H kvs es) (i : Nat) : (kvs.map fun p => mkD p.1)[i]? = es[i]?.map fun e => mkD e.1 := by
  have h := m.keys
  have : (kvs.map fun p => mkD p.1) = es.map fun e => mkD e.1 := by
    have e1 : (kvs.map fun p => mkD p.1) = (kvs.map (·.1)).map mkD := by rw [List.map_map]; rfl
    have e2 : (es.map fun e => mkD e.1) = (es.map (·.1)).map mkD := by rw [List.map_map]; rfl
    rw [e1, e2, h]
  rw [this, List.getElem?_map]
theorem itOk_mix {ρ : List Addr} {H : Hp} {a : Addr} {o : Obj} {es : EV} {kvs : List (MD.MK × D)} (hq : H a = some (.frz o (mixO F.ft.hash a es))) (m : Mix F.K F.ft ρ H kvs es) : ItOk F ρ H (.seq (kvs.map fun p => mkD p.1)) (Itx F.ft.hash a o es) := by
  intro ρ1 H1 C1 R1 s1 i r hr
  simp only [Itm.at, Option.some.injEq] at hr
  rw [m.at_] at hr
  have h1 := s1.frzs _ _ _ hq
  cases q : es[i]? with
  | none =>
    rw [q] at hr
    subst hr
    exact ⟨h1, List.getElem?_eq_none_iff.mp q⟩
  | some e =>
    rw [q] at hr
    subst hr
    refine ⟨⟨h1, (List.getElem?_eq_some_iff.mp q).1⟩, fun w H' hy => ?_⟩
    obtain ⟨rfl, e', q', rfl⟩ := hy
    rw [q] at q'
    cases q'
    exact ⟨R1, .refl, keyV_dv ((m.kv e (List.mem_of_getElem? q)).monoW s1)⟩
theorem si_anyX (hl : SE F iter me) : SI F tg iter (mIAnyX me) := by
  obtain ⟨t, q, s⟩ := hl
  refine ⟨iAnyXR F.ft.hash F.K t, fun X h => by rw [← h.K]; exact pi_anyX (q X h), fun ρ C H E σ it n C' R R0 eo hm k => ?_⟩
  obtain ⟨⟨x, C1⟩, h1, hm⟩ := obind hm
  refine s ρ C H E σ x C1 _ R0 eo h1 fun ρ1 H1 v1 R1 s1 d1 => ?_
  simp only at hm
  unfold iAnyDX at hm
  split at hm
  · split at hm
    · rename_i n1 ds qc
      cases hm
      obtain ⟨a, vs, rfl, ea, e3, e4⟩ := R1.lst qc d1
      exact .inr (.inl ⟨a, rfl, ⟨vs, SqL.of e3⟩, k ρ1 H1 _ R1 s1 (itOk_live ea)⟩)
    · rename_i n1 kvs qc
      cases hm
      obtain ⟨a, es, o, rfl, ea, e3, m⟩ := R1.dxl qc d1
      exact .inr (.inr (.inr ⟨a, o, es, rfl, e3, k ρ1 H1 _ R1 s1 (itOk_mix e3 m)⟩))
    · cases hm
  · unfold iAnyD at hm
    split at hm
    · cases hm
      cases d1 with
      | tup hs hd => exact .inl ⟨_, rfl, ⟨_, hs⟩, k ρ1 H1 _ R1 s1 (itOk_tup hs hd fun _ _ _ _ _ => trivial)⟩
    · cases hm
      cases d1
      exact .inr (.inr (.inl ⟨_, rfl, k ρ1 H1 _ R1 s1 itOk_str⟩))
    · rename_i n1 hno
      exact absurd rfl (hno n1)
    · cases hm
      cases d1 with
      | scr h => exact .inr (.inl ⟨_, rfl, ⟨_, h.1⟩, k ρ1 H1 _ R1 s1 (itOk_scr h)⟩)
    · cases hm
      cases d1 with
      | rol h hd0 => exact .inr (.inl ⟨_, rfl, ⟨_, .inl (.inr ⟨_, h⟩)⟩, k ρ1 H1 _ R1 s1 (itOk_rol h hd0)⟩)
    · cases hm
end
/-! ## the lock -/
structure Wk2 (K : PySem.W.Frag) (ρ : List Addr) (H : Hp) (ρ' : List Addr) (H' : Hp) : Prop where
  get : ∀ {n : Nat} {a : Addr}, ρ[n]? = some a → ρ'[n]? = some a
  sqT : ∀ {a : Addr} {xs : List V}, SqT K H a xs → SqT K H' a xs
  sqR : ∀ {a : Addr} {xs : List V}, SqR K H a xs → SqR K H' a xs
  frl : ∀ {a : Addr} {o : Obj} {xs : List V}, H a = some (.frz o (.lst xs)) → H' a = some (.frz o (.lst xs))
section
variable {K : PySem.W.Frag} {ft : Cfg} {ρ ρ' : List Addr} {H H' : Hp}
mutual
theorem DV.mono2 (s : Wk2 K ρ H ρ' H') : ∀ {d : D} {v : V}, DV K ft ρ H d v → DV K ft ρ' H' d v
  | _, _, .non => .non
  | _, _, .bl b => .bl b
  | _, _, .int i => .int i
  | _, _, .str x => .str x
  | _, _, .tup h r => .tup (s.sqT h) (DVs.mono2 s r)
  | _, _, .cell h => .cell (s.get h)
  | _, _, .fn n => .fn n
  | _, _, .scr h => .scr (s.sqR h)
  | _, _, .ty t => .ty t
  | _, _, .rol h r => .rol (s.frl h) (DVs.mono2 s r)
theorem DVs.mono2 (s : Wk2 K ρ H ρ' H') : ∀ {ds : List D} {vs : List V}, DVs K ft ρ H ds vs → DVs K ft ρ' H' ds vs
  | _, _, .nil => .nil
  | _, _, .cons h t => .cons (DV.mono2 s h) (DVs.mono2 s t)
end
theorem KeyV.mono2 {k : MD.MK} {v : V} (w : Wk2 K ρ H ρ' H') (h : KeyV K H k v) : KeyV K H' k v := by
  cases k with
  | i n => exact h
  | t ks => obtain ⟨ok, b, e, q⟩ := h; exact ⟨ok, b, e, w.sqT q⟩
theorem Mix.mono2 {kvs : List (MD.MK × D)} {es : EV} (w : Wk2 K ρ H ρ' H') (h : Mix K ft ρ H kvs es) : Mix K ft ρ' H' kvs es := ⟨h.1, Paired.mapP h.2 fun p e z => ⟨z.1, z.2.1.mono2 w, DV.mono2 w z.2.2⟩⟩
theorem COk.mono2 {a : Addr} {c : Cell} (s : Wk2 K ρ H ρ' H') (h : H' a = H a) (hc : ∀ c q, c ∉ ρ → H c = some (LamX.CodeO c q) → H' c = some (LamX.CodeO c q) ∧ c ∉ ρ') (k : COk K ft ρ H a c) : COk K ft ρ' H' a c := by
  cases c with
  | lst ds => obtain ⟨vs, q, r⟩ := k; exact ⟨vs, h.trans q, DVs.mono2 s r⟩
  | dic ks => obtain ⟨vs, q, r⟩ := k; exact ⟨vs, h.trans q, Paired.mapP r fun p q z => ⟨z.1, DV.mono2 s z.2⟩⟩
  | dix ks => obtain ⟨es, q, r⟩ := k; exact ⟨es, h.trans q, r.mono2 s⟩
  | dxl ks => obtain ⟨es, o, q, r⟩ := k; exact ⟨es, o, h.trans q, r.mono2 s⟩
  | tab n => exact ⟨k.1, k.2.gen h fun c h1 h2 => hc c _ h1 h2⟩
/-- a lock hides no code object -/
theorem unlock_code {a : Addr} {od : Obj} {v u : HO} (h : H a = some (.frz od v)) (c : Addr) (q : Str) (hc : c ∉ ρ) (e : H c = some (LamX.CodeO c q)) : upd H a u c = some (LamX.CodeO c q) ∧ c ∉ ρ := by
  have : c ≠ a := fun z => by
    subst z
    rw [h] at e
    exact code_frz (Option.some.inj e)
  exact ⟨by rw [upd_ne this]; exact e, hc⟩
/-- a lock goes -/
theorem Wk2.unlock {a : Addr} {od : Obj} {hash : MD.MK → Int} {es : EV} {u : HO} (h : H a = some (.frz od (mixO hash a es))) : Wk2 K ρ H ρ (upd H a u) := by
  refine ⟨fun h => h, fun {b xs} q => ?_, fun {b xs} q => ?_, fun {b o xs} q => by rw [upd_ne (show b ≠ a from fun z => by rw [z, h] at q; cases q)]; exact q⟩
  · rcases q with (q | ⟨o, q⟩) | q
    · exact .inl (.inl (by rw [upd_ne (show b ≠ a from fun z => by rw [z, h] at q; cases q)]; exact q))
    · refine .inl (.inr ⟨o, ?_⟩)
      rw [upd_ne (show b ≠ a from fun z => by rw [z, h] at q; cases q)]; exact q
    · exact .inr q
  · have go : ∀ H3 : Hp, (∀ b o u', upd H a u b = some (.frz o u') → H3 b = some (.frz o u')) → SqL K H3 b xs := fun H3 k3 => by
      have q4 := q.2 (upd H3 a (.frz od (mixO hash a es))) fun c o u' e => by
        by_cases hc : c = a
        · subst hc; rw [h] at e; cases e; exact upd_same
        · rw [upd_ne hc]; exact k3 c o u' (by rw [upd_ne hc]; exact e)
      rcases q4 with (q4 | ⟨o, q4⟩) | q4
      · have hb : b ≠ a := fun z => by rw [z, upd_same] at q4; cases q4
        rw [upd_ne hb] at q4; exact .inl (.inl q4)
      · have hb : b ≠ a := fun z => by rw [z, upd_same] at q4; cases q4
        rw [upd_ne hb] at q4; exact .inl (.inr ⟨o, q4⟩)
      · exact .inr q4
    refine ⟨?_, go⟩
    rcases q.1 with (q | ⟨o, q⟩) | q
    · exact .inl (.inl (by rw [upd_ne (show b ≠ a from fun z => by rw [z, h] at q; cases q)]; exact q))
    · refine .inl (.inr ⟨o, ?_⟩)
      rw [upd_ne (show b ≠ a from fun z => by rw [z, h] at q; cases q)]; exact q
    · exact .inr q
end
def mLock (i : Nat) (m : ME) : ME := fun E C => match E[i]? with
  | some (some (.cell n)) => (match C[n]? with
    | some (.dix kvs) => (m E (C.set n (.dxl kvs))).bind fun q => (match q.2[n]? with
      | some (.dxl kvs') => some (q.1, q.2.set n (.dix kvs'))
      | _ => none)
    | _ => none)
  | _ => none
section
variable {F : Fm} {e : Expr} {m : ME}
theorem se_lock (i : Nat) (he : SE F e m) : SE F e (mLock i m) := by
  obtain ⟨t, p, ev⟩ := he
  refine ⟨tLockE t, fun X h => pe_lock (p X h), fun ρ C H E σ d C' Q R eo hm k => ?_⟩
  unfold mLock at hm
  split at hm
  · rename_i n qe
    split at hm
    · rename_i kvs qc
      obtain ⟨⟨d1, C1⟩, h1, hm⟩ := obind hm
      simp only at hm
      split at hm
      · rename_i kvs' qc'
        cases hm
        obtain ⟨v, qσ, dv⟩ := eo.at_ i _ qe
        obtain ⟨a, es, rfl, ea, e3, mx⟩ := R.dix qc dv
        refine ⟨a, _, e3, True.intro, fun od => ?_⟩
        have st := Stp.write (o := HO.frz od (mixO F.ft.hash a es)) R ea qc
        have R0 : RelF F ρ (upd H a (.frz od (mixO F.ft.hash a es))) (C.set n (.dxl kvs)) := R.write ea qc ⟨es, od, upd_same, mx.monoW st.wk⟩
        refine ev ρ _ _ E σ _ C1 _ R0 (eo.mono st) h1 fun ρ1 H1 v1 R1 s1 d2 => ?_
        have hf : H1 a = some (.frz od (mixO F.ft.hash a es)) := s1.frzs _ _ _ upd_same
        refine ⟨hf, ?_⟩
        obtain ⟨a', es', o', e', ea', e4, mx'⟩ := R1.dxl qc' (.cell (s1.get ea))
        cases e'
        have w2 : Wk2 F.K ρ1 H1 ρ1 (upd H1 a (mixO F.ft.hash a es)) := Wk2.unlock hf
        have eu : mixO F.ft.hash a es = mixO F.ft.hash a es' := (HO.frz.inj (Option.some.inj (hf.symm.trans e4))).2
        have R2 : RelF F ρ1 (upd H1 a (mixO F.ft.hash a es)) (C1.set n (.dix kvs')) := by
          refine ⟨by simp [R1.len], R1.nd, fun j c e => ?_⟩
          by_cases hj : j = n
          · subst hj
            have : j < C1.length := (List.getElem?_eq_some_iff.mp qc').1
            rw [List.getElem?_set_self this] at e
            cases e
            exact ⟨a, ea', es', by rw [upd_same, eu], mx'.mono2 w2⟩
          · rw [List.getElem?_set_ne (Ne.symm hj)] at e
            obtain ⟨b, hb, q⟩ := R1.ok j c e
            refine ⟨b, hb, q.mono2 w2 (upd_ne fun z => hj ?_) (unlock_code hf)⟩
            subst z
            exact nodup_at R1.nd hb ea'
        have hao : a ∈ ρ := List.mem_of_getElem? ea
        have s := st.trans s1
        have nofr : ∀ {b o u}, H b = some (.frz o u) → b ≠ a := fun {b o u} q z => by rw [z, e3] at q; cases q
        have notp : ∀ {b xs}, H b = some (.tup xs) → b ≠ a := fun {b xs} q z => by rw [z, e3] at q; cases q
        refine k ρ1 _ v1 R2 ⟨s.pre, fun b o q hb => ?_, fun b o q => ?_, fun b xs q => ?_, fun b o u q => ?_⟩ (DV.mono2 w2 d2)
        · rw [upd_ne (show b ≠ a from fun z => hb (by rw [z]; exact hao))]; exact s.keep b o q hb
        · by_cases hb : b = a
          · subst hb; exact ⟨_, upd_same⟩
          · rw [upd_ne hb]; exact s.there b o q
        · rw [upd_ne (notp q)]; exact s.tups b xs q
        · rw [upd_ne (nofr q)]; exact s.frzs b o u q
      · cases hm
    · cases hm
  · cases hm
end
/-! ## list(d) -/
def rLstX (hash : MD.MK → Int) : List V → Hp → VK → Prop := fun xs H Q => ∃ a es, xs = [V.ref a] ∧ MRd hash H a es ∧ ∀ p, H p = none → Q (.ref p) (upd H p (.lst (es.map (·.2.1))))
theorem call_list_mix {X : Cx} {hash : MD.MK → Int} (hc : X.calm = true) : CallR X (.type "list") (rLstX hash) := by
  intro pins s σ H xs us Q I r h
  obtain ⟨a, es, rfl, mr, q⟩ := h
  obtain ⟨u, rfl, rx⟩ := r.one
  cases rx
  have ok : ObjOk X.prog X.w H s.heap a (mixO hash a es) := by
    rcases mr with e | ⟨o, e⟩
    · exact I.hok a _ e
    · exact (I.hok a _ e).2
  obtain ⟨⟨hs, hl, o, arr, ep, h1, h2, h3, hp⟩, _⟩ := ok
  have hn : arr.size = es.length := by rw [← Array.length_toList]; exact (Paired.length hp).symm
  refine PySem.W.kdl_call (kdl_raw hs h2 h3) (I.ok.hd hc) h1 (by omega) fun h' tk acc c kp e it => ?_
  have la : acc.toList.length = es.length := by rw [Array.length_toList, it.1, hn]
  have rv : Vals (es.map (·.2.1)) acc.toList := by
    refine vals_of_at (by rw [List.length_map, la]) fun j x u hx hu => ?_
    obtain ⟨g, hg, rfl⟩ := it.2 j u (by rw [← Array.getElem?_toList]; exact hu)
    rw [List.getElem?_map] at hx
    cases qe : es[j]? with
    | none => rw [qe] at hx; cases hx
    | some en =>
      rw [qe] at hx
      cases hx
      obtain ⟨g', e1, e2⟩ := paired_get hp qe
      rw [Array.getElem?_toList, hg] at e1
      cases e1
      exact e2.2.1
  exact ⟨.ref s.heap.objs.size, _, I.laid (t' := tk) (o := .lst (es.map (·.2.1))) kp (Nat.le_refl _) ⟨by rw [List.length_map]; exact hl, acc.toList, c, rv, by rw [Array.toArray_toList]; exact e⟩, rfl, q _ (I.hok.fresh (Nat.le_refl _))⟩
def listDX : ODL := fun xs C => match xs with
  | [x] => (match mixOf C x with
    | some kvs => some (.cell C.length, C ++ [.lst (kvs.map fun p => mkD p.1)])
    | none => listD xs C)
  | _ => none
theorem Mix.dvs {K : PySem.W.Frag} {ft : Cfg} {ρ : List Addr} {H : Hp} {kvs : List (MD.MK × D)} {es : EV} (m : Mix K ft ρ H kvs es) : DVs K ft ρ H (kvs.map fun p => mkD p.1) (es.map (·.2.1)) := by
  have e : ∀ {kvs : List (MD.MK × D)} {es : EV}, Paired (fun (p : MD.MK × D) (e : MD.MK × V × V) => p.1 = e.1 ∧ KeyV K H e.1 e.2.1 ∧ DV K ft ρ H p.2 e.2.2) kvs es → DVs K ft ρ H (kvs.map fun p => mkD p.1) (es.map (·.2.1)) := by
    intro kvs es p
    induction p with
    | nil => exact .nil
    | cons z t ih => exact .cons (by have q := keyV_dv (ft := ft) (ρ := ρ) z.2.1; rw [← z.1] at q; exact q) ih
  exact e m.2
theorem sc_listX {F : Fm} : SCall F (.type "list") listDX := by
  refine ⟨_, fun X h => (call_list_mix (hash := F.ft.hash) h.calm).or (show CallR X _ (fun xs H Q => ∃ p ys, xs = [V.ref p] ∧ (SqL F.K H p ys ∨ SqT F.K H p ys) ∧ ∀ l, H l = none → Q (.ref l) (upd H l (.lst ys))) by have z := call_list_of (X := X); rw [h.K] at z; exact z), fun ρ C H xs vs d C' Q R hx hm k => ?_⟩
  unfold listDX at hm
  split at hm
  · rename_i x
    split at hm
    · rename_i kvs qm
      cases hm
      cases hx with | cons h1 h2 =>
        cases h2
        obtain ⟨a, es, rfl, mr, m⟩ := mixOf_ok R h1 qm
        exact .inl ⟨a, es, rfl, mr, fun p hp => k _ _ _ (R.newL hp m.dvs) (Stp.push hp) (DV.new R)⟩
    · unfold listD at hm
      obtain ⟨ds, e1, e2⟩ := omap hm
      cases e2
      cases hx with | cons h1 h2 =>
        cases h2
        obtain ⟨a, vs, rfl, hs, hd⟩ := seqOf_ok R h1 e1
        exact .inr ⟨_, _, rfl, hs, fun p hp => k _ _ _ (R.newL hp hd) (Stp.push hp) (DV.new R)⟩
  · cases hm
end Mi
set_option Elab.async false
set_option linter.all false
set_option maxRecDepth 100000
set_option maxHeartbeats 4000000
namespace Mi
open PySem PySem.Spec PyProof.Rows L2
/-! ## enumerate(a tuple) -/
set_option maxHeartbeats 1000000 in
theorem meets_enum1 {v : Value} {ob : Obj} {G : Heap → Prop} (B : Begins v ob G) : Meets (Builtin.«enumerate.__new__» ⟨[.type "enumerate", v], []⟩) (fun _ R s => G s.heap ∧
    R (.ok (.ret (.ref (s.heap.push ob).objs.size))) { s with heap := (s.heap.push ob).push { cls := .type "enumerate", data := .fields #[.none, .bool false, .ref s.heap.objs.size, rawInt 0, .none, .none] } }) :=
  .of_wp fun prog w A R s h => by
    obtain ⟨hp, gs, dr, tk, os⟩ := s
    obtain ⟨h1, h⟩ := h
    have isub := sub_enumerate
    have it1 : ∀ {A' : Around} {E : Value → Shared → Prop} {Q : Value → Shared → Prop}, Q (.ref hp.objs.size) ⟨hp.push ob, gs, dr, tk, os⟩ → wpAny (model prog w) A' (pyIter v) Q E ⟨hp, gs, dr, tk, os⟩ := fun q => B.iter prog w _ _ ⟨hp, gs, dr, tk, os⟩ _ h1 q
    wp_walk using it1
    refine wpAny_stack_any fun st => wpAny_pure ?_
    split
    · rename_i c _ _ _ _ _
      cases (c == Value.type "enumerate") <;> (wp_walk using it1; exact ⟨_, rfl, h⟩)
    · wp_walk using it1
      exact ⟨_, rfl, h⟩
theorem call_enum1 {prog : Program} {w : World} {A : Around} {E : Value → Shared → Prop} {s : Shared} {v : Value} {ob : Obj} {G : Heap → Prop} {Q : Value → Shared → Prop} (B : Begins v ob G) (h1 : G s.heap)
    (h : ∀ h', IsEnum h' (s.heap.objs.size + 1) s.heap.objs.size 0 .none → h'.get? s.heap.objs.size = some ob → (∀ b o, s.heap.get? b = some o → h'.get? b = some o) → Q (.ref (s.heap.objs.size + 1)) { s with heap := h' }) : wpAny (model prog w) A (call (.type "enumerate") [v]) Q E s := by
  refine callType_new PySem.F.called_enumerate (by decide) (PySem.F.typeCall_enumerate_1 _) (PySem.F.newCall_enumerate_1 _) (fun obj => PySem.F.args_object_init_2 obj _) PySem.F.entry_enumerate_new (meets_enum1 B) ⟨h1, ?_⟩
  have sz : (s.heap.push ob).objs.size = s.heap.objs.size + 1 := Heap.size_push ..
  show _ ∧ _
  rw [sz]
  have en : IsEnum ((s.heap.push ob).push { cls := .type "enumerate", data := .fields #[.none, .bool false, .ref s.heap.objs.size, rawInt 0, .none, .none] }) (s.heap.objs.size + 1) s.heap.objs.size 0 .none := by
    have q := Heap.get?_push_size (s.heap.push ob) (o := { cls := .type "enumerate", data := .fields #[.none, .bool false, .ref s.heap.objs.size, rawInt 0, .none, .none] }) rfl
    rw [sz] at q; exact q
  exact ⟨⟨_, en, rfl⟩, h _ en (Heap.get?_push_of_some _ (Heap.get?_push_size _ B.free)) fun b o x => Heap.get?_push_of_some _ (Heap.get?_push_of_some _ x)⟩
/-- the tuple at a (n items), each item in a new pair -/
def IteT (K : PySem.W.Frag) (a : Addr) (n : Nat) : It :=
  ⟨fun i H => ∃ (xs : List V) (x : V), SqT K H a xs ∧ xs.length = n ∧ xs[i]? = some x, fun i H v H' => ∃ T x, v = V.ref T ∧ H T = none ∧ H' = upd H T (.tup [.int (i : Nat), x]) ∧ ∀ xs, SqT K H a xs → xs[i]? = some x, fun i H => ∃ xs : List V, SqT K H a xs ∧ xs.length = n ∧ n ≤ i⟩
theorem turn_enumT {P : Program} {w : World} {K : PySem.W.Frag} {elts : List Expr} {kk n : Nat} {tpos : Pos} (a e it : Addr) (ae : a ≠ e) (ai : a ≠ it) (ei : e ≠ it) :
    Turn P w K (.Tuple elts kk tpos) (IteT K a n) [e, it] e (fun i h => (∃ old, IsEnum h e it ((i : Nat) : Int) old) ∧ h.IsTupleIter it a i ∧ i ≤ n) := by
  refine ⟨by simp, fun i h st b hb => ?_, fun i h h' st k => ?_, ?_, ?_, fun A i s Q E st h => let ⟨⟨_, he⟩, _⟩ := st; wpAny_pyIter_enum he h⟩
  · obtain ⟨⟨old, he⟩, ⟨o, ho, _, hd⟩, _⟩ := st
    rcases (show b = e ∨ b = it by simpa using hb) with rfl | rfl
    · exact ⟨_, he, fun v q => nomatch q⟩
    · exact ⟨o, ho, fun v q => by rw [hd] at q; cases q⟩
  · obtain ⟨⟨old, he⟩, hi, hle⟩ := st
    exact ⟨⟨old, k e (by simp) _ he⟩, hi.at fun o q => k it (by simp) o q, hle⟩
  · intro X hP hw hK hc i pins s σ H E I hf st hg
    subst hP hw hK
    obtain ⟨⟨old, he⟩, hit, hle⟩ := st
    obtain ⟨xs, x, hq, hxn, hx⟩ := hg
    obtain ⟨its, rv, p, hz⟩ := I.tuple hq
    obtain ⟨u, hu, ru⟩ := rv.get hx
    have lt1 : e < s.heap.objs.size := Heap.lt_size he
    have lt2 : it < s.heap.objs.size := by obtain ⟨_, q, _⟩ := hit; exact Heap.lt_size q
    have ila : its.toArray.size = n := by rw [List.size_toArray, ← rv.length]; exact hxn
    have hin : i < n := by rw [← hxn]; exact (List.getElem?_eq_some_iff.mp hx).1
    have dr := Draws.tuple (prog := X.prog) (w := X.w) (A := X.A.in1) (I.ok.hd hc) it a ai its.toArray
    refine wpAny_pyNext_enum_itemC dr he ⟨hit, p⟩ (by rw [ila]; exact hin) ei (by simp [ei, Ne.symm ae]) fun y h' tk hy ho hst hT hsz hk => ?_
    have ey : y = u := by
      have : its.toArray[i]? = some u := by simpa using hu
      rw [this] at hy; exact (Option.some.inj hy).symm
    subst ey
    refine ⟨_, rfl, wpAny_letOwnedTupleGo_enum (s := { s with heap := h', toks := tk + 1 }) ho fun h'' he' sb => ?_⟩
    have hT2 : h''.get? s.heap.objs.size = some { cls := .type "tuple", data := .seq #[.int i tk, y] } := (sb.2 _ (Nat.ne_of_gt lt1)).trans hT
    have laid : ObjOk X.prog X.w (upd H s.heap.objs.size (.tup [.int (i : Nat), x])) h'' s.heap.objs.size (.tup [.int (i : Nat), x]) := ⟨by show 2 ≤ sizeLine; decide, [.int i tk, y], .cons ⟨_, rfl⟩ (.cons ru .nil), ⟨_, hT2, rfl, _, rfl⟩⟩
    have I1 : Inv X pins σ (upd H s.heap.objs.size (.tup [.int (i : Nat), x])) { s with heap := h'', toks := tk + 1 } :=
      I.turnedNew (ch := [e, it]) (fun b ob hb q => (sb.2 b (fun z => hb (by simp [z]))).trans (hk b ob (fun z => hb (by simp [z])) (fun z => hb (by simp [z])) q)) hf (Nat.le_refl _) laid
    refine ⟨.ref s.heap.objs.size, _, I1, rfl, ⟨_, x, rfl, I.hok.fresh (Nat.le_refl _), rfl, fun ys hy => by rw [I.tuple_inj hy hq]; exact hx⟩, ⟨⟨y, ?_⟩, hst.1.at fun o q => (sb.2 it (Ne.symm ei)).trans q, hin⟩, fun b hb => ?_⟩
    · rw [show ((i + 1 : Nat) : Int) = (i : Int) + 1 by omega]; exact he'
    · have hlt : b < s.heap.objs.size := by
        rcases (show b = e ∨ b = it by simpa using hb) with rfl | rfl
        · exact lt1
        · exact lt2
      rw [upd_ne (Nat.ne_of_lt hlt)]; exact (hf b hb).1
  · intro X hP hw hK hc i pins s σ H E I hf st hg
    subst hP hw hK
    obtain ⟨⟨old, he⟩, hit, hle⟩ := st
    obtain ⟨xs, hq, hxn, hni⟩ := hg
    obtain ⟨its, rv, p, hz⟩ := I.tuple hq
    have ila : its.toArray.size = n := by rw [List.size_toArray, ← rv.length]; exact hxn
    obtain rfl : i = n := Nat.le_antisymm hle hni
    have own := hf it (by simp)
    have dr := Draws.tuple (prog := X.prog) (w := X.w) (A := X.A.in1) (I.ok.hd hc) it a ai its.toArray
    exact wpAny_pyNext_enum_endD dr he ⟨by rw [ila]; exact hit, p⟩ fun h' eb => ⟨rfl, I.turned (t' := s.toks) (fun b o hb q => eb b o hb q) own.1 own.2.1 own.2.2.2.1 own.2.2.2.2.1 own.2.2.2.2.2⟩
def iEnumT (K : PySem.W.Frag) (ta : TA) : TI := fun σ H R => ta σ H fun vs H1 => ∃ a xs, vs = [V.ref a] ∧ SqT K H1 a xs ∧ R (IteT K a xs.length) H1
theorem pi_enumT {X : Cx} {e : Expr} {ta : TA} {p pos tpos : Pos} {elts : List Expr} {kk : Nat} (hg : Gl X "enumerate") (hm : X.mg "enumerate" = none) (ha : PA X [e] ta) (hs : starEach [e] X.env = [(false, eval e X.env)]) : PI X (.Tuple elts kk tpos) (.Call (.Name "enumerate" p) [e] [] pos) (iEnumT X.K ta) := by
  constructor
  intro pins s σ H R I h
  refine Call_ (ld_blt I hg hm boot_enumerate (PyProof.Rows.callWith_type1 (thn (ha.run pos pins s σ H _ I h) fun us s1 ⟨vs, H1, I1, r1, a, xs, ex, hq, q⟩ => ?_) hs rfl))
  subst ex
  obtain ⟨u, rfl, ru⟩ := r1.one
  obtain rfl : u = Value.ref a := ru
  obtain ⟨its, rv, pt, hz⟩ := I1.tuple hq
  have alt : a < s1.heap.objs.size := pt.lt
  refine call_enum1 (begins_tuple a its.toArray) pt fun h' he hob hk => wpAny_pyIter_enum he ?_
  have I2 : Inv X pins σ H1 { s1 with heap := h' } := I1.kept (t' := s1.toks) hk
  refine ⟨s1.heap.objs.size + 1, [s1.heap.objs.size + 1, s1.heap.objs.size], _, _, H1, rfl, I2, turn_enumT a (s1.heap.objs.size + 1) s1.heap.objs.size (Nat.ne_of_lt (Nat.lt_succ_of_lt alt)) (Nat.ne_of_lt alt) (Nat.succ_ne_self _), ⟨⟨.none, he⟩, ⟨_, hob, rfl, rfl⟩, Nat.zero_le _⟩, fun b hb => ?_, q⟩
  have hle : s1.heap.objs.size ≤ b := by
    rcases (show b = s1.heap.objs.size + 1 ∨ b = s1.heap.objs.size by simpa using hb) with rfl | rfl
    · exact Nat.le_succ _
    · exact Nat.le_refl _
  exact I1.fpOk hle (I1.hok.fresh hle)
def enD : Int → List D → List D
  | _, [] => []
  | k, d :: ds => .tup [.int k, d] :: enD (k + 1) ds
theorem enD_at : ∀ (k : Int) (ds : List D) (i : Nat), (enD k ds)[i]? = ds[i]?.map fun d => D.tup [.int (k + (i : Nat)), d]
  | _, [], i => by simp [enD]
  | k, d :: ds, 0 => by simp [enD]
  | k, d :: ds, i + 1 => by
    have := enD_at (k + 1) ds i
    simp only [enD, List.getElem?_cons_succ]
    rw [this]
    congr 2
    funext d
    congr 3
    omega
def mIEnum (ml : MA) : MI := fun E C => (ml E C).bind fun p => match p.1 with
  | [.tup ds] => some (.seq (enD 0 ds), ds.length, p.2)
  | _ => none
section
variable {F : Fm} {e : Expr} {ml : MA} {elts : List Expr} {kk : Nat} {tpos p pos : Pos}
theorem itOk_enum {ρ : List Addr} {H : Hp} {a : Addr} {ds : List D} {vs : List V} (hs : SqT F.K H a vs) (hd : DVsF F ρ H ds vs) : ItOk F ρ H (.seq (enD 0 ds)) (IteT F.K a vs.length) := by
  intro ρ1 H1 C1 R1 s1 i r hr
  simp only [Itm.at, Option.some.injEq] at hr
  rw [enD_at] at hr
  have h1 := s1.sqT hs
  have d1 := DVs.monoW s1 hd
  cases q : ds[i]? with
  | none =>
    rw [q] at hr; subst hr
    exact ⟨vs, h1, rfl, by rw [← d1.length]; exact List.getElem?_eq_none_iff.mp q⟩
  | some d =>
    rw [q] at hr; subst hr
    obtain ⟨v, e1, e2⟩ := d1.get q
    refine ⟨⟨vs, v, h1, rfl, e1⟩, fun w H' hy => ?_⟩
    obtain ⟨T, x, rfl, hT, rfl, hx⟩ := hy
    have := hx vs h1
    rw [e1] at this; cases this
    exact ⟨R1.fresh hT, Stp.fresh hT, .tup (SqT.of upd_same) (.cons (by rw [show (0 : Int) + ((i : Nat) : Int) = ((i : Nat) : Int) by omega]; exact .int _) (.cons (e2.mono (Stp.fresh hT)) .nil))⟩
theorem si_enum (hm : F.mg "enumerate" = none) (ha : SA F [e] ml) (hg : F.sc.names.lookup (Str.ofString "enumerate") = some .globalImplicit := by rfl) (hs : ∀ env : Env, starEach [e] env = [(false, eval e env)] := by intro _; rfl) : SI F (.Tuple elts kk tpos) (.Call (.Name "enumerate" p) [e] [] pos) (mIEnum ml) := by
  obtain ⟨t, q, s⟩ := ha
  refine ⟨iEnumT F.K t, fun X h => by rw [← h.K]; exact pi_enumT (h.gl hg) (by rw [h.mg]; exact hm) (q X h) (hs _), fun ρ C H E σ it n C' R R0 eo hm k => ?_⟩
  obtain ⟨⟨ds, C1⟩, h1, hm⟩ := obind hm
  refine s ρ C H E σ ds C1 _ R0 eo h1 fun ρ1 H1 v1 R1 s1 d1 => ?_
  simp only at hm
  split at hm
  · cases hm
    cases d1 with | cons dh dt =>
      cases dt
      cases dh with | tup hs hd => exact ⟨_, _, rfl, hs, k ρ1 H1 _ R1 s1 (itOk_enum hs hd)⟩
  · cases hm
end
end Mi
set_option Elab.async false
set_option linter.all false
set_option maxRecDepth 100000
set_option maxHeartbeats 4000000
namespace Mi
open PySem PySem.Spec PyProof.Rows L2
/-! ## dict comprehensions with ints as keys: a mixed dict -/
def mkI : Key → MD.MK
  | .inl i => .i i
  | .inr _ => .i 0
def isI : Key → Bool
  | .inl _ => true
  | .inr _ => false
def mixE (kvs : List (Key × V)) : EV := kvs.map fun p => (mkI p.1, kV p.1, p.2)
theorem mkI_nd {α : Type} : ∀ {kvs : List (Key × α)}, (kvs.map (·.1)).Nodup → (∀ p ∈ kvs, isI p.1 = true) → (kvs.map fun p => mkI p.1).Nodup
  | [], _, _ => by simp
  | p :: kvs, h, hi => by
    rw [List.map_cons, List.nodup_cons] at h ⊢
    refine ⟨fun z => h.1 ?_, mkI_nd h.2 fun q hq => hi q (by simp [hq])⟩
    obtain ⟨q, hq, e⟩ := List.mem_map.mp z
    refine List.mem_map.mpr ⟨q, hq, ?_⟩
    have h1 := hi p (by simp)
    have h2 := hi q (by simp [hq])
    cases hp : p.1 with
    | inr _ => rw [hp] at h1; cases h1
    | inl i =>
      cases hk : q.1 with
      | inr _ => rw [hk] at h2; cases h2
      | inl j => rw [hp, hk] at e; simp [mkI] at e; rw [e]
section
variable {X : Cx} {pins : List (Addr × Obj)} {σ : L2.St} {H : Hp} {s : Shared} {a : Addr} {hash : MD.MK → Int} {kvs : List (Key × V)}
theorem dk_mix (hh : hash = MD.MK.hash X.prog X.w) (I : Inv X pins σ H s) (h : H a = some (.dK kvs)) (hi : ∀ p ∈ kvs, isI p.1 = true) : Inv X pins σ (upd H a (mixO hash a (mixE kvs))) s ∧ (kvs.map (·.1)).Nodup := by
  obtain ⟨z, sys, vs, kv, o, es, ep, ho, hx, hd, ks, ps, nd⟩ := I.hok a _ h
  have pr : ∀ {kvs : List (Key × V)} {vs : List (Key × Value)} {gs : List DictEntry}, KV kvs vs → Pairs (mixKind X.prog X.w) gs vs → (∀ p ∈ kvs, isI p.1 = true) → (∀ g ∈ gs, ∃ k, (mixKind X.prog X.w).is k g.key = true ∧ g.hash = (mixKind X.prog X.w).hash k) →
      Paired (fun (e : MD.MK × V × V) (g : DictEntry) => g.hash = hash e.1 ∧ RelV e.2.1 g.key ∧ RelV e.2.2 g.val) (mixE kvs) gs := by
    intro kvs vs gs kv
    unfold KV at kv
    induction kv generalizing gs with
    | nil => intro ps _ _; cases ps; exact .nil
    | @cons p q _ _ r t ih =>
      intro ps hi hk
      cases ps with
      | @cons g _ gs _ e1 e2 e3 =>
        refine .cons ⟨?_, ?_, ?_⟩ (ih e3 (fun p hp => hi p (by simp [hp])) fun g hg => hk g (by simp [hg]))
        · obtain ⟨k, k1, k2⟩ := hk g (by simp)
          have ek : k = q.1 := (mixKind X.prog X.w).inj _ _ _ k1 e1
          have hp := hi p (by simp)
          have eq := r.1
          rw [k2, ek, hh]
          cases c : q.1 with
          | inr _ => rw [eq, c] at hp; cases hp
          | inl i => simp only [eq, c, mkI]; rfl
        · have := relV_key (show keyIs q.1 g.key = true from e1)
          rw [← r.1] at this; exact this
        · rw [e2]; exact r.2
  refine ⟨?_, by rw [KV.keys kv]; exact nd⟩
  have new : ObjOk X.prog X.w (upd H a (mixO hash a (mixE kvs))) s.heap a (mixO hash a (mixE kvs)) := by
    refine ⟨⟨sys, by unfold mixE; rw [List.length_map]; exact z, o, es, ep, ho, hx, hd, pr kv ps hi fun g hg => ks g (by simpa using hg)⟩, ⟨o, ho⟩, fun g1 g2 q k => ?_⟩
    obtain ⟨a1, a2, o', arr', ep', b1, b2⟩ := q
    exact ⟨a1, a2, o', arr', ep', k _ b1, b2⟩
  exact I.write (x := a) (e := a) (t' := s.toks) (h' := s.heap) (by rw [h]; exact True.intro) (.inl rfl) (fun b v _ q => q) ⟨o, ho⟩ new
end
/-- what a dict of ints becomes -/
def QConv (hash : MD.MK → Int) (Q : VK) : VK := fun v H => ∃ a kvs, v = V.ref a ∧ H a = some (.dK kvs) ∧ (∀ p ∈ kvs, isI p.1 = true) ∧ ((kvs.map (·.1)).Nodup → Q (.ref a) (upd H a (mixO hash a (mixE kvs))))
theorem pe_conv {X : Cx} {e : Expr} {t : TE} {hash : MD.MK → Int} (hh : hash = MD.MK.hash X.prog X.w) (h : PE X e t) : PE X e (fun σ H Q => t σ H (QConv hash Q)) := by
  constructor
  intro pins s σ H Q I hw
  refine thn (h.run pins s σ H _ I hw) fun v s1 ⟨x, H1, I1, r, a, kvs, ex, hk, hi, q⟩ => ?_
  subst ex
  obtain ⟨I2, nd⟩ := dk_mix hh I1 hk hi
  exact ⟨V.ref a, _, I2, r, q nd⟩
section
variable {X : Cx}
theorem sw_trueD {kx vx : Expr} {gs : List Comprehension} {scope : Scope} {pos py : Pos} {y : Str} {l : Nat} {env : Env} (hk : env.scope.kind = .function) (hy : env.scope.names.lookup y = some .local) (hl : (py.line == pos.line) = true)
    (ha : (scope.names.any fun (n, k) => n == y && (k == .local || k == .cell)) = false) : swapsWith (.DictComp kx vx gs scope pos) (some (.Name y py)) l env = pure true := by
  have e1 : env.kindOf y = some .local := hy
  have e2 : env.blockKind = .function := by unfold Env.blockKind; rw [hk]; rfl
  unfold swapsWith
  simp only [e2, e1, ha, Expr.pos, hl]
  rfl
/-- y = {k: v for ..} -/
theorem ps_setDc {i : Nat} {y : Str} {py : Pos} {kx vx tg iter : Expr} {ifs : List Expr} {scope : Scope} {own : List (Str × Nat)} {pos spos : Pos} {wi : TI} {g : TG} {tt : TT} {tk tv : TE} {hash : MD.MK → Int} (hh : hash = MD.MK.hash X.prog X.w) (hc : X.calm = true) (hN : X.N.Nodup) (hy : X.N[i]? = some y) (hyl : X.env.scope.names.lookup y = some .local)
    (hsw : swapsWith (.DictComp kx vx [⟨tg, iter, ifs, 0⟩] scope pos) (some (.Name y py)) spos.line X.env = pure true) (hi : PI X tg iter wi) (ok : BlkOk X.N X.env.scope scope own)
    (hg : ∀ (s : Shared) (H : Hp) (C : Addr) (cl : List (Str × Addr)) (fp : List Addr), PG (X.blk s H scope (compEnvC scope cl C X.env) fp) tg g) (ht : ∀ (s : Shared) (H : Hp) (C : Addr) (cl : List (Str × Addr)) (fp : List Addr), PTs (X.blk s H scope (compEnvC scope cl C X.env) fp) ifs tt)
    (hk : ∀ (s : Shared) (H : Hp) (C : Addr) (cl : List (Str × Addr)) (fp : List Addr), PE (X.blk s H scope (compEnvC scope cl C X.env) fp) kx tk) (he : ∀ (s : Shared) (H : Hp) (C : Addr) (cl : List (Str × Addr)) (fp : List Addr), PE (X.blk s H scope (compEnvC scope cl C X.env) fp) vx tv) (hs : ∀ x, foldedSetIterable iter X.env x = pure x) :
    PS X (.Assign [.Name y py] (.DictComp kx vx [⟨tg, iter, ifs, 0⟩] scope pos) spos) (fun D σ H => tDc wi g tt tk tv (own.map (·.2)) σ H (QConv hash fun v H' => D.nx (σ.set i (some v)) H')) := by
  constructor
  intro pins s σ H D I h
  rw [exec_Assign_Name_used _ _ _ _ hsw]
  refine wpAny_bind (wpAny_standAt (wpAny_bind ?_))
  show wpAny _ X.A (do let _ ← comprehension (.DictComp kx vx [⟨tg, iter, ifs, 0⟩] scope pos) scope X.env (firstIterPos [⟨tg, iter, ifs, 0⟩] pos) newDict false (eval iter X.env) (some (assign (.Name y py) X.env))) _ _ s
  refine wpAny_bind (thn (dc_core (Qf := fun _ s' => SP X pins D .next s') hc hN I hi ok hg ht hk he hs h fun L C s' m H' I' q hn f => ?_) fun _ s' hq => wpAny_pure (wpAny_pure hq))
  obtain ⟨a, kvs, ea, hd, hki, q⟩ := q
  cases ea
  obtain ⟨I', nd⟩ := dk_mix hh I' hd hki
  show wpAny _ _ (assign (.Name y py) X.env (.ref L)) _ _ _
  refine wpAny_assign_Name (store_ok2 (v := V.ref L) I' hN hy (.inl hyl) rfl (fun s2 I2 ⟨b, sb, hb⟩ => ?_) (.inr hyl))
  obtain ⟨f0, f1, f2, f3, f4, f5⟩ := f
  have nCL : C ≠ L := fun z => by rw [z, hd] at f0; cases f0
  have nCb : C ≠ b := by
    rcases hb with z | z
    · rw [z]; exact f1
    · exact fun e => f4 y b z e.symm
  exact ⟨m, hn.sameBut sb nCb, fun h3 sb3 => ⟨_, _, I2.turned (t' := s2.toks) (fun b o hb e => (sb3.2 b hb).trans e) (by rw [upd_ne nCL]; exact f0) f1 f3 f4 f5, q nd⟩⟩
end
def dcLoop (it : Itm) (tg : MG) (tt : MT) (mk mv : ME) (E : Ev) : Nat → Nat → List (Key × D) → Hm → Option (List (Key × D) × Hm)
  | 0, _, _, _ => none
  | fuel + 1, i, acc, C => (it.at C i).bind fun r => match r with
    | none => some (acc, C)
    | some x => (tg x E).bind fun E1 => (tt E1 C).bind fun p => if p.1 = true then (mk E1 p.2).bind fun q => (keyD q.1).bind fun k => (mv E1 q.2).bind fun z => if acc.length < sizeLine then dcLoop it tg tt mk mv E fuel (i + 1) (putD acc k z.1) z.2 else none
      else dcLoop it tg tt mk mv E fuel (i + 1) acc p.2
def mDc (src : MI) (tg : MG) (tt : MT) (mk mv : ME) (vs : List Nat) : ME := fun E C => (src E C).bind fun p => (dcLoop p.1 tg tt mk mv (wipeE E vs) (p.2.1 + 1) 0 [] p.2.2).bind fun q => if q.1.all (fun p => isI p.1) = true then some (.cell q.2.length, q.2 ++ [.dix (q.1.map fun p => (mkI p.1, p.2))]) else none
theorem Rel.other2 {K : PySem.W.Frag} {ft : Cfg} {ρ : List Addr} {H : Hp} {C : Hm} {P : Addr} {ws : List (Key × V)} {o : HO} (R : Rel K ft ρ H C) (hP : P ∉ ρ) (e : H P = some (.dK ws)) : Rel K ft ρ (upd H P o) C ∧ Wk ρ H ρ (upd H P o) := by
  have w : Wk ρ H ρ (upd H P o) := ⟨fun h => h, fun b xs q => by rw [upd_ne (show b ≠ P from fun z => by rw [z, e] at q; cases q)]; exact q, fun b ob u q => by rw [upd_ne (show b ≠ P from fun z => by rw [z, e] at q; cases q)]; exact q⟩
  refine ⟨⟨R.len, R.nd, fun n c q => ?_⟩, w⟩
  obtain ⟨a, ha, k⟩ := R.ok n c q
  have ne : a ≠ P := fun z => hP (z ▸ List.mem_of_getElem? ha)
  refine ⟨a, ha, ?_⟩
  cases c with
  | lst ds => obtain ⟨ws, q, r⟩ := k; exact ⟨ws, (upd_ne ne).trans q, DVs.monoW w r⟩
  | dic ks => obtain ⟨ws, q, r⟩ := k; exact ⟨ws, (upd_ne ne).trans q, Paired.mapP r fun p q z => ⟨z.1, DV.monoW w z.2⟩⟩
  | dix ks => obtain ⟨es, q, r⟩ := k; exact ⟨es, (upd_ne ne).trans q, r.monoW w⟩
  | dxl ks => obtain ⟨es, o, q, r⟩ := k; exact ⟨es, o, (upd_ne ne).trans q, r.monoW w⟩
  | tab n => exact ⟨k.1, k.2.upd e code_dK ne⟩
section
variable {F : Fm} {tg iter kx vx : Expr} {ifs : List Expr} {scope : Scope} {own : List (Str × Nat)} {src : MI} {g : MG} {mt : MT} {mk mv : ME} {slots : List Nat} {pos : Pos}
theorem DKs.int {ρ : List Addr} {H : Hp} {kvs : List (Key × D)} {ws : List (Key × V)} (h : DKs F ρ H kvs ws) : kvs.map (·.1) = ws.map (·.1) := by
  induction h with
  | nil => rfl
  | cons z t ih => rw [List.map_cons, List.map_cons, z.1, ih]
theorem mix_of_dk {ρ : List Addr} {H : Hp} {kvs : List (Key × D)} {ws : List (Key × V)} (h : DKs F ρ H kvs ws) (hi : ∀ p ∈ ws, isI p.1 = true) (nd : (ws.map (·.1)).Nodup) : Mix F.K F.ft ρ H (kvs.map fun p => (mkI p.1, p.2)) (mixE ws) := by
  refine ⟨?_, ?_⟩
  · have := mkI_nd nd hi
    have e : (mixE ws).map (·.1) = ws.map fun p => mkI p.1 := by unfold mixE; rw [List.map_map]; rfl
    rw [e]; exact this
  · clear nd
    induction h with
    | nil => exact .nil
    | @cons p q _ _ z t ih =>
      refine .cons ⟨by show mkI p.1 = mkI q.1; rw [z.1], ?_, z.2⟩ (ih fun p hp => hi p (by simp [hp]))
      have := hi q (by simp)
      show KeyV F.K H (mkI q.1) (kV q.1)
      cases c : q.1 with
      | inr _ => rw [c] at this; cases this
      | inl i => rfl
theorem evl_dc {wi : TI} {gg : TG} {tt : TT} {tk tv : TE} (si : ∀ ρ C H E σ it n C' R, RelF F ρ H C → EnvF F ρ H E σ → src E C = some (it, n, C') → (∀ ρ' H' J, RelF F ρ' H' C' → Stp ρ H ρ' H' → ItOk F ρ' H' it J → R J H') → wi σ H R)
    (sg : EvG F gg slots g) (st : EvT F tt mt) (sk : EvE F tk mk) (sv : EvE F tv mv) (vs : List Nat) (hsl : ∀ i ∈ slots, i ∈ vs) : EvE F (fun σ H Q => tDc wi gg tt tk tv vs σ H (QConv F.ft.hash Q)) (mDc src g mt mk mv vs) := by
  intro ρ C H E σ d C' Q R eo hm k
  obtain ⟨⟨it, n, C1⟩, h1, hm⟩ := obind hm
  obtain ⟨⟨accF, CF⟩, h2, hm⟩ := obind hm
  simp only at h2 hm
  by_cases allI : (accF.all fun p => isI p.1) = true
  rotate_left
  · rw [if_neg allI] at hm; cases hm
  rw [if_pos allI] at hm
  cases hm
  refine si ρ C H E σ it n C1 _ R eo h1 fun ρ0 H0 J R0 s0 ok => ?_
  intro P hP
  have outP : ∀ {ρ1 Hc}, Stp ρ0 H0 ρ1 Hc → P ∉ ρ1 → ∀ {o}, Stp ρ0 H0 ρ1 (upd Hc P o) := fun {ρ1 Hc} s hp {o} => by
    have ne : ∀ b u, H0 b = some u → b ≠ P := fun b u e z => by rw [z, hP] at e; cases e
    exact ⟨s.pre, fun b u e hb => by rw [upd_ne (ne b u e)]; exact s.keep b u e hb, fun b u e => by rw [upd_ne (ne b u e)]; exact s.there b u e, fun b u e => by rw [upd_ne (ne _ _ e)]; exact s.tups b u e, fun b u w e => by rw [upd_ne (ne _ _ e)]; exact s.frzs b u w e⟩
  refine ⟨fun i m Hc => ∃ ρ1 Cc accD accV, RelF F ρ1 Hc Cc ∧ P ∉ ρ1 ∧ Stp ρ0 H0 ρ1 Hc ∧ Hc P = some (.dK accV) ∧ DKs F ρ1 Hc accD accV ∧ dcLoop it g mt mk mv (wipeE E vs) m i accD Cc = some (accF, CF),
    ⟨n + 1, ρ0, C1, [], [], R0.fresh hP, R0.out hP, Stp.fresh hP, upd_same, .nil, h2⟩, ?_⟩
  rintro i m Hc ⟨ρ1, Cc, accD, accV, R1, nP, s1, eP, dA, hf⟩
  cases m with
  | zero => cases hf
  | succ fuel =>
    unfold dcLoop at hf
    obtain ⟨r, e1, hf⟩ := obind hf
    have oki := ok ρ1 Hc Cc R1 s1.wk i r e1
    cases r with
    | none =>
      cases hf
      have hiD : ∀ p ∈ accF, isI p.1 = true := fun p hp => List.all_eq_true.mp allI p hp
      have hiV : ∀ p ∈ accV, isI p.1 = true := fun p hp => by
        have hk : p.1 ∈ accF.map (·.1) := by rw [DKs.int dA]; exact List.mem_map.mpr ⟨p, hp, rfl⟩
        obtain ⟨q, hq, e⟩ := List.mem_map.mp hk
        rw [← e]; exact hiD q hq
      refine .inl ⟨oki, P, accV, rfl, eP, hiV, fun nd => ?_⟩
      obtain ⟨R2, w2⟩ := R1.other2 nP eP (o := mixO F.ft.hash P (mixE accV))
      have s := s0.trans (outP (o := mixO F.ft.hash P (mixE accV)) s1 nP)
      refine k (ρ1 ++ [P]) _ (.ref P) (R2.push nP ⟨mixE accV, upd_same, (mix_of_dk dA hiV nd).monoW w2⟩) ?_ (DV.new R2)
      obtain ⟨t, e, ht⟩ := s.pre
      refine ⟨⟨t ++ [P], by rw [e, List.append_assoc], fun b hb => ?_⟩, s.keep, s.there, s.tups, s.frzs⟩
      rcases List.mem_append.mp hb with z | z
      · exact ht b z
      · have z : b = P := by simpa using z
        subst z
        cases q : H b with
        | none => rfl
        | some u => obtain ⟨u', q'⟩ := s0.there b u q; rw [hP] at q'; cases q'
    | some x =>
      refine .inr ⟨oki.1, fun H2 => ∃ ρ2 C2 accD accV, RelF F ρ2 H2 C2 ∧ P ∉ ρ2 ∧ Stp ρ0 H0 ρ2 H2 ∧ H2 P = some (.dK accV) ∧ DKs F ρ2 H2 accD accV ∧ dcLoop it g mt mk mv (wipeE E vs) fuel (i + 1) accD C2 = some (accF, CF), fun H2 z => ⟨fuel, Nat.lt_succ_self _, z⟩, fun v H' hy => ?_⟩
      obtain ⟨R2, s2, dv⟩ := oki.2 v H' hy
      obtain ⟨E2, e2, hf⟩ := obind hf
      obtain ⟨⟨b, C3⟩, e3, hf⟩ := obind hf
      have eo2 : EnvF F ρ1 H' (wipeE E vs) (L2.wipe σ vs) := (eo.wipe vs).mono ((s0.trans s1).trans s2)
      have keepP : ∀ {ρa Ha ρb Hb accV}, Stp ρa Ha ρb Hb → P ∉ ρa → Ha P = some (.dK accV) → P ∉ ρb ∧ Hb P = some (.dK accV) := fun {ρa Ha ρb Hb accV} s hn e => by
        refine ⟨fun z => ?_, s.keep _ _ e hn⟩
        obtain ⟨t, et, ht⟩ := s.pre
        rw [et] at z
        rcases List.mem_append.mp z with z | z
        · exact hn z
        · rw [ht _ z] at e; cases e
      have dmono : ∀ {ρa Ha ρb Hb kvs ws}, Stp ρa Ha ρb Hb → DKs F ρa Ha kvs ws → DKs F ρb Hb kvs ws := fun s d => Paired.mapP d fun p q z => ⟨z.1, z.2.mono s⟩
      obtain ⟨nP2, eP2⟩ := keepP s2 nP eP
      refine sg ρ1 Cc H' (wipeE E vs) (L2.wipe σ vs) x v E2 _ R2 eo2 dv e2 fun σ3 eo3 w3 => ?_
      refine ⟨by rw [w3 vs hsl, wipe_idem], ?_⟩
      refine st ρ1 Cc H' E2 σ3 b C3 _ R2 eo3 e3 fun ρ3 H3 R3 s3 => ?_
      obtain ⟨nP3, eP3⟩ := keepP s3 nP2 eP2
      cases b with
      | false => exact ⟨ρ3, C3, accD, accV, R3, nP3, (s1.trans s2).trans s3, eP3, dmono s3 (dmono s2 dA), hf⟩
      | true =>
        obtain ⟨⟨y, C4⟩, e4, hf⟩ := obind (show (mk E2 C3).bind _ = some (accF, CF) from hf)
        obtain ⟨kk, ek, hf⟩ := obind hf
        obtain ⟨⟨z, C5⟩, e5, hf⟩ := obind hf
        simp only at hf
        split at hf
        · rename_i hlen
          refine sk ρ3 C3 H3 E2 σ3 y C4 _ R3 (eo3.mono s3) e4 fun ρ4 H4 v4 R4 s4 d4 => ?_
          obtain ⟨nP4, eP4⟩ := keepP s4 nP3 eP3
          refine sv ρ4 C4 H4 E2 σ3 z C5 _ R4 (eo3.mono (s3.trans s4)) e5 fun ρ5 H5 v5 R5 s5 d5 => ?_
          obtain ⟨nP5, eP5⟩ := keepP s5 nP4 eP4
          have dA5 : DKs F ρ5 H5 accD accV := dmono s5 (dmono s4 (dmono s3 (dmono s2 dA)))
          refine ⟨accV, kk, keyD_ok d4 ek, eP5, by rw [← DKs.len dA5]; exact hlen, ?_⟩
          obtain ⟨R6, w6⟩ := R5.other2 nP5 eP5 (o := .dK (putK accV kk v5))
          exact ⟨ρ5, C5, putD accD kk z, putK accV kk v5, R6, nP5, outP ((((s1.trans s2).trans s3).trans s4).trans s5) nP5, upd_same, Paired.mapP (putD_ok dA5 d5) fun p q z => ⟨z.1, DV.monoW w6 z.2⟩, hf⟩
        · cases hf
theorem se_dc (own : List (Str × Nat)) (hh : F.ft.hash = MD.MK.hash F.prog F.w) (hi : SI F tg iter src) (ok : BlkOk F.N F.sc scope own) (hg : SG (F.blk scope) tg slots g) (ht : SPT (F.blk scope) ifs mt) (hk : SE (F.blk scope) kx mk) (he : SE (F.blk scope) vx mv) (hsl : ∀ i ∈ slots, i ∈ own.map (·.2) := by decide)
    (hs : ∀ (env : Env) x, foldedSetIterable iter env x = pure x := by intro _ _; rfl) : SE F (.DictComp kx vx [⟨tg, iter, ifs, 0⟩] scope pos) (mDc src g mt mk mv (own.map (·.2))) := by
  obtain ⟨wi, pi, si⟩ := hi
  obtain ⟨gg, pg, sg⟩ := hg
  obtain ⟨tt, pt, st⟩ := ht
  obtain ⟨tk, pk, sk⟩ := hk
  obtain ⟨tv, pv, sv⟩ := he
  refine ⟨_, fun X h => ?_, evl_dc si sg st sk sv _ hsl⟩
  exact pe_conv (by rw [hh, h.prog, h.w]) (pe_dc h.calm h.nd (pi X h) (by rw [h.N, h.sc]; exact ok) (fun _ _ _ _ _ => pg _ h.blk) (fun _ _ _ _ _ => pt _ h.blk) (fun _ _ _ _ _ => pk _ h.blk) (fun _ _ _ _ _ => pv _ h.blk) (hs _))
theorem ss_setDc {x : Str} {py spos : Pos} (i : Nat) (own : List (Str × Nat)) (hh : F.ft.hash = MD.MK.hash F.prog F.w) (hsw : ∀ env : Env, env.scope = F.sc → swapsWith (.DictComp kx vx [⟨tg, iter, ifs, 0⟩] scope pos) (some (.Name x py)) spos.line env = pure true)
    (hi : SI F tg iter src) (ok : BlkOk F.N F.sc scope own) (hg : SG (F.blk scope) tg slots g) (ht : SPT (F.blk scope) ifs mt) (hk : SE (F.blk scope) kx mk) (he : SE (F.blk scope) vx mv) (hN : F.N[i]? = some x := by rfl) (hl : F.sc.names.lookup x = some .local := by rfl) (hsl : ∀ i ∈ slots, i ∈ own.map (·.2) := by decide)
    (hs : ∀ (env : Env) x, foldedSetIterable iter env x = pure x := by intro _ _; rfl) : SS F (.Assign [.Name x py] (.DictComp kx vx [⟨tg, iter, ifs, 0⟩] scope pos) spos) (mAsg (mDc src g mt mk mv (own.map (·.2))) (gN i)) := by
  obtain ⟨wi, pi, si⟩ := hi
  obtain ⟨gg, pg, sg⟩ := hg
  obtain ⟨tt, pt, st⟩ := ht
  obtain ⟨tk, pk, sk⟩ := hk
  obtain ⟨tv, pv, sv⟩ := he
  refine ⟨fun D σ H => tDc wi gg tt tk tv (own.map (·.2)) σ H (QConv F.ft.hash fun v H' => D.nx (σ.set i (some v)) H'), fun X h => ?_, fun ρ C H E σ o Z R eo hm k => ?_⟩
  · exact ps_setDc (by rw [hh, h.prog, h.w]) h.calm h.nd (by rw [h.N]; exact hN) (by rw [h.sc]; exact hl) (hsw _ h.sc) (pi X h) (by rw [h.N, h.sc]; exact ok) (fun _ _ _ _ _ => pg _ h.blk) (fun _ _ _ _ _ => pt _ h.blk) (fun _ _ _ _ _ => pk _ h.blk) (fun _ _ _ _ _ => pv _ h.blk) (hs _)
  · obtain ⟨⟨x, C1⟩, h1, hm⟩ := obind hm
    cases hm
    exact evl_dc si sg st sk sv _ hsl ρ C H E σ x C1 _ R eo h1 fun ρ1 H1 v1 R1 s1 d1 => k ρ1 H1 _ R1 s1 ((eo.mono s1).set d1)
end
end Mi
set_option Elab.async false
set_option linter.all false
set_option maxRecDepth 100000
set_option maxHeartbeats 4000000
namespace Mi
open PySem PySem.Spec PyProof.Rows L2
/-! ## sorted(a list of data) -/
def rSrtG (K : PySem.W.Frag) : List V → Hp → VK → Prop := fun vs H Q => ∃ (a : Addr) (ps : List (V × PyData)), vs = [V.ref a] ∧ SqL K H a (ps.map (·.1)) ∧ (∀ p ∈ ps, Dp K H p.1 p.2) ∧ PySem.W.AllAlike (ps.map (·.2)) ∧ PySem.W.Sortable (ps.map (·.2)) ∧ (∀ p ∈ ps, p.2.depth ≤ 60) ∧
  ∀ l, H l = none → Q (.ref l) (upd H l (.lst ((ps.mergeSort (PySem.W.dataLe false (·.2))).map (·.1))))
theorem each_vals : ∀ {ps : List (V × PyData)} {us : List Value}, Vals (ps.map (·.1)) us → PySem.W.EachIs (fun v (p : V × PyData) => RelV p.1 v) us ps
  | [], _, .nil => .nil
  | _ :: _, _, .cons h t => .cons h (each_vals t)
theorem vals_each : ∀ {ps : List (V × PyData)} {us : List Value}, PySem.W.EachIs (fun v (p : V × PyData) => RelV p.1 v) us ps → Vals (ps.map (·.1)) us
  | _, _, .nil => .nil
  | _, _, .cons h t => .cons h (vals_each t)
theorem each_reads {X : Cx} {pins : List (Addr × Obj)} {σ : L2.St} {H : Hp} {s : Shared} (I : Inv X pins σ H s) : ∀ {ps : List (V × PyData)} {us : List Value}, Vals (ps.map (·.1)) us → (∀ p ∈ ps, Dp X.K H p.1 p.2) → PySem.W.EachIs (fun v (p : V × PyData) => ∃ as, Reads s.heap v p.2 as) us ps
  | [], _, .nil, _ => .nil
  | p :: _, _, .cons h t, d => .cons (Dp.reads I p.2 p.1 _ (d p (by simp)) h) (each_reads I t fun q hq => d q (by simp [hq]))
theorem cr_srtG {X : Cx} (hu : X.A.units + 64 < cLine) : CallR X (.builtin "sorted") (rSrtG X.K) := by
  intro pins s σ H vs us Q I r h
  obtain ⟨a, ps, rfl, hs, hd, al, so, dp, q⟩ := h
  obtain ⟨its, rv, hl, hz⟩ := I.list hs
  rw [Vals.ref1 r]
  rw [List.length_map] at hz
  refine PySem.W.sorted_data (R := fun v (p : V × PyData) => RelV p.1 v) (enc := (·.2)) (bs := ps) hl.isList (each_vals rv) (each_reads I rv hd) al so hz (fun b hb => by have := dp b hb; omega) fun out ho he => ?_
  obtain ⟨ep, at_⟩ := PyProof.Rows.sortedAll_at s.heap its out.toArray
  have hlen : ((ps.mergeSort (PySem.W.dataLe false (·.2))).map (·.1)).length ≤ sizeLine := by rw [List.length_map, List.length_mergeSort]; exact hz
  exact ⟨.ref _, _, I.laid (t' := s.toks) (o := .lst ((ps.mergeSort (PySem.W.dataLe false (·.2))).map (·.1))) (fun _ _ => PyProof.Rows.sortedAll_old) (Nat.le_succ _) ⟨hlen, out, ep, vals_each he, at_⟩, rfl, q _ (I.hok.fresh (Nat.le_succ _))⟩
def encD (C : Hm) (d : D) : PyData := (py C 70 d).getD .none
def isPairD (C : Hm) (d : D) : Bool := match py C 70 d with
  | some (.tuple (x :: r)) => decide ((PyData.tuple (x :: r)).depth ≤ 60)
  | _ => false
def srtOk (C : Hm) (ds : List D) : Bool := ds.all (isPairD C) && ds.all fun d => ds.all fun e => PySem.W.alike (encD C d) (encD C e)
def sortedDX : ODL := fun xs C => match xs with
  | [x] => (match lstOf C x with
    | some ds => (match intsOf ds with
      | some ns => some (.cell C.length, C ++ [.lst ((sortI ns).map D.int)])
      | none => if srtOk C ds = true then some (.cell C.length, C ++ [.lst (ds.mergeSort (PySem.W.dataLe false (encD C)))]) else none)
    | _ => none)
  | _ => none
theorem isPairD_at {C : Hm} {d : D} (h : isPairD C d = true) : ∃ x r, py C 70 d = some (.tuple (x :: r)) ∧ (PyData.tuple (x :: r)).depth ≤ 60 := by
  unfold isPairD at h
  split at h
  · rename_i x r e; exact ⟨x, r, e, of_decide_eq_true h⟩
  · cases h
theorem dvs_zip {K : PySem.W.Frag} {ft : Cfg} {ρ : List Addr} {H : Hp} : ∀ {ds : List D} {vs : List V}, DVs K ft ρ H ds vs → (ds.zip vs).map (·.1) = ds ∧ (ds.zip vs).map (·.2) = vs ∧ ∀ t ∈ ds.zip vs, DV K ft ρ H t.1 t.2
  | _, _, .nil => ⟨rfl, rfl, fun t ht => by cases ht⟩
  | _, _, .cons h t => by
    obtain ⟨e1, e2, e3⟩ := dvs_zip t
    refine ⟨by simp [e1], by simp [e2], fun q hq => ?_⟩
    rw [List.zip_cons_cons] at hq
    rcases List.mem_cons.mp hq with rfl | hq
    · exact h
    · exact e3 q hq
theorem dvs_of {K : PySem.W.Frag} {ft : Cfg} {ρ : List Addr} {H : Hp} : ∀ {ts : List (D × V)}, (∀ t ∈ ts, DV K ft ρ H t.1 t.2) → DVs K ft ρ H (ts.map (·.1)) (ts.map (·.2))
  | [], _ => .nil
  | t :: ts, h => .cons (h t (by simp)) (dvs_of fun q hq => h q (by simp [hq]))
theorem Room.u64b {k : Nat} {A : Around} (r : Room k A) : A.units + 64 < cLine := by have := r.un; omega
theorem sc_sortedX {F : Fm} : SCall F (.builtin "sorted") sortedDX := by
  refine ⟨_, fun X h => (show CallR X (.builtin "sorted") (rSortedI F.K) by rw [← h.K]; exact cr_sortedI).or (show CallR X (.builtin "sorted") (rSrtG F.K) by rw [← h.K]; exact cr_srtG (Room.u64b h.rm)), fun ρ C H xs vs d C' Q R hx hm k => ?_⟩
  unfold sortedDX at hm
  split at hm
  · split at hm
    · rename_i x ds q
      cases hx with | cons h1 h2 =>
        cases h2
        obtain ⟨p, vs, rfl, e3, e4⟩ := lstOf_ok R h1 q
        split at hm
        · rename_i ns e1
          cases hm
          have ev := intsOf_ok e4 e1
          subst ev
          refine .inl ⟨_, ns, rfl, .inl e3, fun ns' r hp hup hr => ?_⟩
          have : ns' = sortI ns := PySem.W.ksm_same (hp.trans (sortI_perm ns).symm) hup (sortI_up ns)
          subst this
          exact k _ _ _ (R.newL hr (DVs.ints _)) (Stp.push hr) (DV.new R)
        · split at hm
          · rename_i hok
            cases hm
            unfold srtOk at hok
            rw [Bool.and_eq_true, List.all_eq_true, List.all_eq_true] at hok
            obtain ⟨z1, z2, z3⟩ := dvs_zip e4
            have mem : ∀ t ∈ ds.zip vs, t.1 ∈ ds := fun t ht => by rw [← z1]; exact List.mem_map.mpr ⟨t, ht, rfl⟩
            let ps : List (V × PyData) := (ds.zip vs).map fun t => (t.2, encD C t.1)
            have pv : ps.map (·.1) = vs := by rw [← z2]; show List.map _ (List.map _ _) = _; rw [List.map_map, z2]; exact z2
            have pe : ps.map (·.2) = ds.map (encD C) := by
              show List.map _ (List.map _ _) = _
              rw [List.map_map]
              have : ds.map (encD C) = ((ds.zip vs).map (·.1)).map (encD C) := by rw [z1]
              rw [this, List.map_map]; rfl
            have enc : ∀ d ∈ ds, ∃ x r, encD C d = .tuple (x :: r) ∧ py C 70 d = some (encD C d) ∧ (encD C d).depth ≤ 60 := fun d hd => by
              obtain ⟨x, r, e, dpt⟩ := isPairD_at (hok.1 d hd)
              have e' : encD C d = .tuple (x :: r) := by unfold encD; rw [e]; rfl
              exact ⟨x, r, e', by rw [e', e], by rw [e']; exact dpt⟩
            refine .inr ⟨p, ps, rfl, by rw [pv]; exact .inl e3, fun t ht => ?_, ?_, ?_, fun t ht => ?_, fun l hl => ?_⟩
            · obtain ⟨t0, h0, rfl⟩ := List.mem_map.mp ht
              obtain ⟨_, _, _, e, _⟩ := enc t0.1 (mem t0 h0)
              exact py_ok R _ (z3 t0 h0) e
            · rw [pe]
              intro a ha b hb
              obtain ⟨d1, h1, rfl⟩ := List.mem_map.mp ha
              obtain ⟨d2, h2, rfl⟩ := List.mem_map.mp hb
              exact List.all_eq_true.mp (hok.2 d1 h1) d2 h2
            · rw [pe]
              refine .inl fun a ha => ?_
              obtain ⟨d1, h1, rfl⟩ := List.mem_map.mp ha
              obtain ⟨x, r, e, _⟩ := enc d1 h1
              exact ⟨x, r, e⟩
            · obtain ⟨t0, h0, rfl⟩ := List.mem_map.mp ht
              obtain ⟨_, _, _, _, e⟩ := enc t0.1 (mem t0 h0)
              exact e
            · let ts := (ds.zip vs).mergeSort fun a b => PySem.W.dataLe false (encD C) a.1 b.1
              have s1 : ds.mergeSort (PySem.W.dataLe false (encD C)) = ts.map (·.1) := by
                have := List.map_mergeSort (r := fun (a b : D × V) => PySem.W.dataLe false (encD C) a.1 b.1) (s := PySem.W.dataLe false (encD C)) (f := (·.1)) (l := ds.zip vs) fun _ _ _ _ => rfl
                rw [z1] at this; exact this.symm
              have s2 : (ps.mergeSort (PySem.W.dataLe false (·.2))).map (·.1) = ts.map (·.2) := by
                have := List.map_mergeSort (r := fun (a b : D × V) => PySem.W.dataLe false (encD C) a.1 b.1) (s := PySem.W.dataLe false (fun p : V × PyData => p.2)) (f := fun t : D × V => (t.2, encD C t.1)) (l := ds.zip vs) fun _ _ _ _ => rfl
                have e : ps.mergeSort (PySem.W.dataLe false (·.2)) = ts.map fun t => (t.2, encD C t.1) := this.symm
                rw [e, List.map_map]; rfl
              rw [s2]
              have dts : DVsF F ρ H (ts.map (·.1)) (ts.map (·.2)) := dvs_of fun t ht => z3 t (List.mem_mergeSort.mp ht)
              rw [← s1] at dts
              exact k _ _ _ (R.newL hl dts) (Stp.push hl) (DV.new R)
          · cases hm
    · cases hm
  · cases hm
end Mi
set_option Elab.async false
set_option linter.all false
set_option maxRecDepth 100000
set_option maxHeartbeats 4000000
namespace Mi
open PySem PySem.Spec PyProof.Rows L2
/-! ## sorted(set(a list of ints)) -/
abbrev emptySet (w : World) : Obj := { cls := .type "set", dict := none, data := .set #[] 0 (.fresh 0 0 (!w.params.followText "set-order")) }
section
variable {P : Program} {w : World} {A : Around} {E : Value → Shared → Prop} {s : Shared}
set_option maxHeartbeats 3200000 in
theorem set_of_ints {l : Addr} {items : Array Value} (ns : List Int) {Q : Value → Shared → Prop} (noH : A.handled = none) (isl : s.heap.IsList l items) (ixs : IntsAre items.toList ns) (few : ns.length + 1 < scanBound)
    (fin : ∀ (h' : Heap) (tk c : Nat), SetR w h' s.heap.objs.size (fun j => decide (j ∈ ns)) c → c ≤ ns.length → (∀ b o, s.heap.get? b = some o → h'.get? b = some o) → Q (.ref s.heap.objs.size) { s with heap := h', toks := tk }) : wpAny (model P w) A (call (.type "set") [.ref l]) Q E s := by
  have sz : items.size = ns.length := by have q := IntsAre.length ixs; rwa [Array.length_toList] at q
  obtain ⟨c, tl, mro⟩ := PySem.F.called_set.mro
  have m1 := PySem.F.called_set.made
  have m2 := PySem.F.called_set.sub
  refine wpAny_call (codeAny_of_tree ?_); show wpAny _ _ (callAny (.type "set") _) _ _ _
  refine wpAny_pure ⟨Code.quiet_builtin _ (by decide +kernel), codeAny_builtin PySem.F.entry_type_call ?_⟩
  rw [Around.under_plain (weight_type_call_type "set" [.ref l] []) rfl]
  have m3 := PySem.F.called_set.notType
  have m4 := PySem.F.called_set.canCreate
  have m5 := PySem.F.typeCall_set_1 (.ref l)
  repeat (any_goals (first | assumption | wp_step))
  refine codeAny_mono (code_set_led1 (.ref l) (E := E) (Q₁ := fun obj t => obj = .ref s.heap.objs.size ∧ t = { s with heap := s.heap.push (emptySet w) }) ⟨rfl, rfl⟩) fun r t hr => ?_
  match r, hr with
  | .error e, hr => exact hr
  | .ok .next, hr => exact hr.elim
  | .ok .brk, hr => exact hr.elim
  | .ok .cont, hr => exact hr.elim
  | .ok (.ret obj), hr =>
    obtain ⟨rfl, rfl⟩ := hr
    have gS : (s.heap.push (emptySet w)).get? s.heap.objs.size = some (emptySet w) := Heap.get?_push_size _ rfl
    have tS : Shared.TypeIs { s with heap := s.heap.push (emptySet w) } (.ref s.heap.objs.size) "set" := ⟨_, gS, rfl⟩
    have i1 := PySem.F.called_set.init.lookup
    have i2 := PySem.F.called_set.init.bind (.ref s.heap.objs.size)
    repeat (any_goals (first | assumption | wp_step))
    refine codeAny_mono (codeAny_call_builtin (R := wants (fun r t => r = .none ∧ ∃ h' tk c, t = { s with heap := h', toks := tk } ∧ SetR w h' s.heap.objs.size (fun j => decide (j ∈ ns)) c ∧ c ≤ ns.length ∧ ∀ b o, s.heap.get? b = some o → h'.get? b = some o) E) PySem.F.called_set.init.plain PySem.F.entry_set_init (check_set_init_1 tS ?_)) fun r₂ t₂ hr₂ => ?_
    · obtain ⟨ol, hol, cl, nl, dl⟩ := isl
      obtain ⟨oc, od, odt, osl⟩ := ol
      simp only at cl dl
      subst cl dl
      have j0 : (s.heap.push (emptySet w)).get? l = some { cls := .type "list", dict := od, data := .seq items nl, slots := osl } := Heap.get?_push_of_some _ hol
      have j1 := PySem.F.sub_list_set
      have j2 := PySem.F.sub_list_frozenset
      have j3 : (Value.type "list" == Value.type "dict") = false := by decide
      have j4 : (s.heap.push (emptySet w)).IsList l items := ⟨_, j0, rfl, nl, rfl⟩
      unfold Builtin.«set.__init__» noKeywords Builtin.Frozenset.updateFrom
      generalize hIt : pyIter = It
      wp_walk
      subst hIt
      refine wpAny_pyIter_list j4 (wpAny_bind (wpAny_runValue ?_))
      have ll : l < s.heap.objs.size := Heap.lt_size hol
      have noH3 : A.in1.in1.in1.handled = none := by simp [noH]
      have z1 : (s.heap.push (emptySet w)).objs.size = s.heap.objs.size + 1 := Heap.size_push ..
      have lI : l ≠ (s.heap.push (emptySet w)).objs.size := by rw [z1]; exact Nat.ne_of_lt (Nat.lt_succ_of_lt ll)
      have nS : s.heap.objs.size ∉ [(s.heap.push (emptySet w)).objs.size, l] := by
        rw [z1]
        intro z
        rcases List.mem_cons.mp z with z | z
        · exact absurd z (Nat.ne_of_lt (Nat.lt_succ_self _))
        · exact absurd (List.mem_singleton.mp z) (Nat.ne_of_gt ll)
      have val : ∀ (i : Nat) (v : Value), items[i]? = some v → ∃ k t, ns[i]? = some k ∧ v = .int k t := fun i v hv => by
        have hi : i < ns.length := by rw [← sz]; exact (Array.getElem?_eq_some_iff.mp hv).1
        obtain ⟨t, e⟩ := IntsAre.int_at ixs i v (by rw [Array.getElem?_toList]; exact hv)
        refine ⟨ns[i], t, List.getElem?_eq_getElem hi, ?_⟩
        rw [e, List.getD_eq_getElem?_getD, List.getElem?_eq_getElem hi]; rfl
      refine set_update_ints ((Walks.list noH3 _ l lI items).toS) s.heap.objs.size nS ns sz few val (items.size - 0) 0 _ (by omega) (Nat.zero_le _) ⟨⟨_, Heap.get?_push_size _ rfl, rfl, rfl⟩, (j4.push _)⟩ ?start ?stop
      case start => exact ⟨0, Nat.le_refl 0, setR_new_at (Heap.get?_push_of_some _ gS)⟩
      case stop =>
        intro t' c' mv hc' hS'
        obtain ⟨h', g2, d', tk', os'⟩ := t'
        have eg : g2 = s.gens := mv.gens
        have ed : d' = s.drawn := mv.drawn
        have eo : os' = s.os := mv.os
        subst eg ed eo
        refine wpAny_pure ?_
        rw [sz] at hc'
        refine wpAny_pure ⟨rfl, h', tk', c', rfl, hS', hc', fun b o e => ?_⟩
        have hb0 : b < s.heap.objs.size := Heap.lt_size e
        refine mv.heap b o (fun z => ?_) (Heap.get?_push_of_some _ (Heap.get?_push_of_some _ e))
        rcases List.mem_cons.mp z with z | z
        · exact absurd z (Nat.ne_of_lt hb0)
        · rw [z1] at z
          exact absurd (List.mem_singleton.mp z) (Nat.ne_of_lt (Nat.lt_succ_of_lt hb0))
    · match r₂, hr₂ with
      | .error e, hr₂ => exact hr₂
      | .ok .next, hr₂ => exact hr₂.elim
      | .ok .brk, hr₂ => exact hr₂.elim
      | .ok .cont, hr₂ => exact hr₂.elim
      | .ok (.ret r), hr₂ =>
        obtain ⟨rfl, h', tk, c', rfl, hS', hc', hk'⟩ := hr₂
        repeat (any_goals (first | assumption | wp_step))
        exact fin _ _ _ hS' hc' hk'
end
def rSetLI (w : World) (K : PySem.W.Frag) : List V → Hp → VK → Prop := fun xs H Q => ∃ (l : Addr) (ns : List Int), xs = [V.ref l] ∧ SqL K H l (ns.map V.int) ∧ ns.length + 1 < scanBound ∧ ∀ a n, H a = none → n ≤ ns.length → Q (.ref a) (upd H a (SetO w a (fun j => decide (j ∈ ns)) n))
theorem cr_setLI {X : Cx} (hc : X.calm = true) : CallR X (.type "set") (rSetLI X.w X.K) := by
  intro pins s σ H xs us Q I r h
  obtain ⟨l, ns, rfl, hs, few, q⟩ := h
  obtain ⟨its, rv, pl, hz⟩ := I.list hs
  rw [Vals.ref1 r]
  refine set_of_ints ns (I.ok.hd hc) pl.isList (by simpa using rv.ints) few fun h' tk c hS hcn hk => ?_
  exact ⟨.ref _, _, I.laid (t' := tk) hk (Nat.le_refl _) (setO_new hS), rfl, q _ c (I.hok.fresh (Nat.le_refl _)) hcn⟩
/-- the members, upwards, each once -/
def dedup : List Int → List Int
  | a :: b :: r => if a = b then dedup (b :: r) else a :: dedup (b :: r)
  | l => l
theorem dedup_mem (k : Int) : ∀ l : List Int, k ∈ dedup l ↔ k ∈ l
  | [] => by simp [dedup]
  | [a] => by simp [dedup]
  | a :: b :: r => by
    have ih := dedup_mem k (b :: r)
    unfold dedup
    split
    · rename_i e
      subst e
      rw [ih]
      simp
    · rw [List.mem_cons, ih, List.mem_cons]
      simp only [List.mem_cons]
theorem dedup_head : ∀ (b : Int) (r : List Int), ∃ t, dedup (b :: r) = b :: t
  | b, [] => ⟨[], rfl⟩
  | b, c :: r => by
    unfold dedup
    split
    · rename_i e
      subst e
      exact dedup_head b r
    · exact ⟨_, rfl⟩
theorem dedup_up : ∀ l : List Int, l.Pairwise (· ≤ ·) → (dedup l).Pairwise (· < ·)
  | [], _ => by simp [dedup]
  | [a], _ => by simp [dedup]
  | a :: b :: r, h => by
    have h1 := List.pairwise_cons.mp h
    have ih := dedup_up (b :: r) h1.2
    unfold dedup
    split
    · exact ih
    · rename_i ne
      refine List.pairwise_cons.mpr ⟨fun k hk => ?_, ih⟩
      have hk := (dedup_mem k _).mp hk
      have hb := h1.1 b (by simp)
      have h2 := List.pairwise_cons.mp h1.2
      rcases List.mem_cons.mp hk with e | e
      · subst e; omega
      · have := h2.1 k e; omega
theorem up_unique : ∀ {l m : List Int}, l.Pairwise (· < ·) → m.Pairwise (· < ·) → (∀ k, k ∈ l ↔ k ∈ m) → l = m
  | [], [], _, _, _ => rfl
  | [], b :: m, _, _, h => absurd ((h b).mpr (by simp)) (by simp)
  | a :: l, [], _, _, h => absurd ((h a).mp (by simp)) (by simp)
  | a :: l, b :: m, h1, h2, h => by
    have p1 := List.pairwise_cons.mp h1
    have p2 := List.pairwise_cons.mp h2
    have e : a = b := by
      have ha := (h a).mp (by simp)
      have hb := (h b).mpr (by simp)
      rcases List.mem_cons.mp ha with e | e
      · exact e
      · rcases List.mem_cons.mp hb with e' | e'
        · exact e'.symm
        · have x1 := p1.1 b e'
          have x2 := p2.1 a e
          omega
    subst e
    congr 1
    refine up_unique p1.2 p2.2 fun k => ⟨fun hk => ?_, fun hk => ?_⟩
    · rcases List.mem_cons.mp ((h k).mp (List.mem_cons_of_mem _ hk)) with e | e
      · have := p1.1 k hk; omega
      · exact e
    · rcases List.mem_cons.mp ((h k).mpr (List.mem_cons_of_mem _ hk)) with e | e
      · have := p2.1 k hk; omega
      · exact e
def mSrtSet (me : ME) : ME := fun E C => (me E C).bind fun p => (seqOf p.2 p.1).bind fun ds => (intsOf ds).bind fun ns => if ns.length < 63 then some (.cell p.2.length, p.2 ++ [.lst ((dedup (sortI ns)).map D.int)]) else none
section
variable {F : Fm} {e : Expr} {me : ME} {p q pos pos2 : Pos}
def isLstD : D → Bool
  | .tup _ => false
  | _ => true
def mSrtSetL (me : ME) : ME := fun E C => (me E C).bind fun p => if isLstD p.1 = true then (seqOf p.2 p.1).bind fun ds => (intsOf ds).bind fun ns => if ns.length < 63 then some (.cell p.2.length, p.2 ++ [.lst ((dedup (sortI ns)).map D.int)]) else none else none
theorem se_srtSet (hm : F.mg "sorted" = none) (hm2 : F.mg "set" = none) (he : SE F e me) (hg : F.sc.names.lookup (Str.ofString "sorted") = some .globalImplicit := by rfl) (hg2 : F.sc.names.lookup (Str.ofString "set") = some .globalImplicit := by rfl)
    (h1 : ∀ env : Env, starEach [.Call (.Name "set" q) [e] [] pos2] env = (false, eval (.Call (.Name "set" q) [e] [] pos2) env) :: starEach [] env := by intro _; rfl) (h2 : ∀ env : Env, starEach [e] env = (false, eval e env) :: starEach [] env := by intro _; rfl)
    (hp1 : ∀ env : Env, (backTo pos (starEach [] env)).any (·.1) = false := by intro _; rfl) (hp2 : ∀ env : Env, (backTo pos2 (starEach [] env)).any (·.1) = false := by intro _; rfl)
    (ha1 : ∀ (X : Cx) (te : TE), PE X (.Call (.Name "set" q) [e] [] pos2) te → PA X [.Call (.Name "set" q) [e] [] pos2] (tCons te tNil) := by intro X te h; exact pa_cons h pa_nil) (ha2 : ∀ (X : Cx) (te : TE), PE X e te → PA X [e] (tCons te tNil) := by intro X te h; exact pa_cons h pa_nil) :
    SE F (.Call (.Name "sorted" p) [.Call (.Name "set" q) [e] [] pos2] [] pos) (mSrtSetL me) := by
  obtain ⟨t, pt, st⟩ := he
  refine ⟨_, fun X h => pe_callB (show CallR X (.builtin "sorted") (rSortedSet F.w) by rw [← h.w]; exact cr_sortedSet h.calm) (h.gl hg) (by rw [h.mg]; exact hm) (by decide +kernel) (ha1 X _ (pe_callTy (show CallR X (.type "set") (rSetLI F.w F.K) by rw [← h.w, ← h.K]; exact cr_setLI h.calm) (h.gl hg2) (by rw [h.mg]; exact hm2) (by decide +kernel) (ha2 X t (pt X h)) (by decide) (by decide) (h2 _) (hp2 _))) (by decide) (by decide) (h1 _) (hp1 _), fun ρ C H E σ d C' Q R eo hm k => ?_⟩
  obtain ⟨⟨x, C1⟩, e1, hm⟩ := obind hm
  simp only at hm
  split at hm
  · rename_i hl
    obtain ⟨ds, e2, hm⟩ := obind hm
    obtain ⟨ns, e3, hm⟩ := obind hm
    split at hm
    · rename_i few
      cases hm
      refine st ρ C H E σ x C1 _ R eo e1 fun ρ1 H1 v1 R1 s1 d1 => ?_
      have isl : ∃ a, v1 = V.ref a ∧ SqL F.K H1 a (ns.map V.int) := by
        cases x with
        | tup _ => cases hl
        | scr ms =>
          cases e2
          cases d1 with | scr h =>
            have ev := intsOf_ok (K := F.K) (ft := F.ft) (ρ := ρ1) (H := H1) (DVs.ints ms) e3
            exact ⟨_, rfl, by rw [← ev]; exact h.1⟩
        | rol ms =>
          cases e2
          cases d1 with | rol h hr =>
            have ev := intsOf_ok hr e3
            exact ⟨_, rfl, by rw [← ev]; exact .inl (.inr ⟨_, h⟩)⟩
        | cell n =>
          unfold seqOf at e2
          simp only at e2
          split at e2
          · rename_i ds0 qc
            cases e2
            obtain ⟨a, vs, rfl, ea, e4, e5⟩ := R1.lst qc d1
            have ev := intsOf_ok e5 e3
            subst ev
            exact ⟨a, rfl, SqL.of e4⟩
          · cases e2
        | _ => cases e2
      obtain ⟨l, rfl, hs⟩ := isl
      have sb : (64 : Nat) ≤ scanBound := by decide
      refine ⟨l, ns, rfl, hs, by omega, fun a n ha hn => ⟨a, _, n, rfl, upd_same, by omega, fun out pp up mem len hp => ?_⟩⟩
      have eo : out = dedup (sortI ns) := up_unique up (dedup_up _ (sortI_up _)) fun kk => by
        rw [mem kk, dedup_mem, (sortI_perm ns).mem_iff]
        simp
      subst eo
      have R2 := R1.fresh (o := SetO F.w a (fun j => decide (j ∈ ns)) n) ha
      exact k _ _ _ (R2.newL hp (DVs.ints _)) (s1.trans ((Stp.fresh ha).trans (Stp.push hp))) (DV.new R2)
    · cases hm
  · cases hm
end
end Mi
set_option Elab.async false
set_option linter.all false
set_option maxRecDepth 100000
set_option maxHeartbeats 4000000
namespace Mi
open PySem PySem.Spec PyProof.Rows L2
/-! ## a statement under a lock -/
def mLockS (i : Nat) (m : MS) : MS := fun E C => match E[i]? with
  | some (some (.cell n)) => (match C[n]? with
    | some (.dix kvs) => (m E (C.set n (.dxl kvs))).bind fun q => (match q with
      | .nx E' C' => (match C'[n]? with
        | some (.dxl kvs') => some (.nx E' (C'.set n (.dix kvs')))
        | _ => none)
      | _ => none)
    | _ => none)
  | _ => none
section
variable {F : Fm}
/-- the lock of a cell goes -/
theorem unlock_rel {ρ ρ1 : List Addr} {H H1 : Hp} {C1 : Hm} {n : Nat} {a : Addr} {od : Obj} {es : EV} {kvs' : List (MD.MK × D)} (ea : ρ1[n]? = some a) (hao : a ∈ ρ) (e3 : H a = some (mixO F.ft.hash a es)) (R1 : RelF F ρ1 H1 C1) (hf : H1 a = some (.frz od (mixO F.ft.hash a es))) (qc' : C1[n]? = some (.dxl kvs')) (s : Stp ρ H ρ1 H1) :
    RelF F ρ1 (upd H1 a (mixO F.ft.hash a es)) (C1.set n (.dix kvs')) ∧ Stp ρ H ρ1 (upd H1 a (mixO F.ft.hash a es)) ∧ Wk2 F.K ρ1 H1 ρ1 (upd H1 a (mixO F.ft.hash a es)) := by
  obtain ⟨a', es', o', e', ea', e4, mx'⟩ := R1.dxl qc' (.cell ea)
  cases e'
  have w2 : Wk2 F.K ρ1 H1 ρ1 (upd H1 a (mixO F.ft.hash a es)) := Wk2.unlock hf
  have eu : mixO F.ft.hash a es = mixO F.ft.hash a es' := (HO.frz.inj (Option.some.inj (hf.symm.trans e4))).2
  refine ⟨⟨by simp [R1.len], R1.nd, fun j c e => ?_⟩, ⟨s.pre, fun b o q hb => ?_, fun b o q => ?_, fun b xs q => ?_, fun b o u q => ?_⟩, w2⟩
  · by_cases hj : j = n
    · subst hj
      have : j < C1.length := (List.getElem?_eq_some_iff.mp qc').1
      rw [List.getElem?_set_self this] at e
      cases e
      exact ⟨a, ea', es', by rw [upd_same, eu], mx'.mono2 w2⟩
    · rw [List.getElem?_set_ne (Ne.symm hj)] at e
      obtain ⟨b, hb, q⟩ := R1.ok j c e
      refine ⟨b, hb, q.mono2 w2 (upd_ne fun z => hj ?_) (unlock_code hf)⟩
      subst z
      exact nodup_at R1.nd hb ea'
  · rw [upd_ne (show b ≠ a from fun z => hb (by rw [z]; exact hao))]; exact s.keep b o q hb
  · by_cases hb : b = a
    · subst hb; exact ⟨_, upd_same⟩
    · rw [upd_ne hb]; exact s.there b o q
  · rw [upd_ne (show b ≠ a from fun z => by rw [z, e3] at q; cases q)]; exact s.tups b xs q
  · rw [upd_ne (show b ≠ a from fun z => by rw [z, e3] at q; cases q)]; exact s.frzs b o u q
theorem EnvOk.mono2 {K : PySem.W.Frag} {ft : Cfg} {ρ ρ' : List Addr} {H H' : Hp} {E : Ev} {σ : L2.St} (h : EnvOk K ft ρ H E σ) (s : Wk2 K ρ H ρ' H') : EnvOk K ft ρ' H' E σ :=
  ⟨h.len, fun i d e => let ⟨v, a, b⟩ := h.at_ i d e; ⟨v, a, DV.mono2 s b⟩⟩
variable {st : Stmt} {m : MS}
theorem ss_lock (i : Nat) (he : SS F st m) : SS F st (mLockS i m) := by
  obtain ⟨t, p, ev⟩ := he
  refine ⟨tLock t, fun X h => ps_lock (p X h), fun ρ C H E σ o Z R eo hm k => ?_⟩
  unfold mLockS at hm
  split at hm
  · rename_i n qe
    split at hm
    · rename_i kvs qc
      obtain ⟨o1, h1, hm⟩ := obind hm
      split at hm
      · rename_i E' C1
        split at hm
        · rename_i kvs' qc'
          cases hm
          obtain ⟨v, qσ, dv⟩ := eo.at_ i _ qe
          obtain ⟨a, es, rfl, ea, e3, mx⟩ := R.dix qc dv
          refine ⟨a, _, e3, True.intro, fun od => ?_⟩
          have st := Stp.write (o := HO.frz od (mixO F.ft.hash a es)) R ea qc
          have R0 : RelF F ρ (upd H a (.frz od (mixO F.ft.hash a es))) (C.set n (.dxl kvs)) := R.write ea qc ⟨es, od, upd_same, mx.monoW st.wk⟩
          refine ev ρ _ _ E σ _ _ R0 (eo.mono st) h1 ?_
          intro ρ1 H1 σ1 R1 s1 eo1
          have hf : H1 a = some (.frz od (mixO F.ft.hash a es)) := s1.frzs _ _ _ upd_same
          obtain ⟨R2, s2, w2⟩ := unlock_rel (s1.get ea) (List.mem_of_getElem? ea) e3 R1 hf qc' (st.trans s1)
          exact ⟨hf, k ρ1 _ σ1 R2 s2 (eo1.mono2 w2)⟩
        · cases hm
      · cases hm
    · cases hm
  · cases hm
end
end Mi
set_option Elab.async false
set_option linter.all false
set_option maxRecDepth 100000
set_option maxHeartbeats 4000000
namespace Mi
open PySem PySem.Spec PyProof.Rows L2
section
variable {F : Fm} {tg e : Expr} {x : Str} {pos pos' : Pos} {me : ME}
/-- stores whose form the def's scope decides -/
theorem ss_setS (i : Nat) (he : SE F e me) (hs : ∀ env : Env, env.scope = F.sc → swapsWith e (some (.Name x pos')) pos.line env = pure false) (hN : F.N[i]? = some x := by rfl) (hx : Loc F.sc x := by first | exact Or.inl rfl | exact Or.inr rfl) (hf : F.fn x = true ∨ F.sc.names.lookup x = some .local := by first | exact .inl rfl | exact .inr rfl) : SS F (.Assign [.Name x pos'] e pos) (mAsg me (gN i)) := by
  obtain ⟨t, q, s⟩ := he
  refine ⟨_, fun X h => ps_set h.nd (by rw [h.N]; exact hN) (by rw [h.sc]; exact hx) (q X h) (hs _ h.sc) (by rw [h.sc, h.fn]; exact hf), fun ρ C H E σ o Z R eo hm k => ?_⟩
  obtain ⟨⟨x, C1⟩, h1, hm⟩ := obind hm
  cases hm
  exact s ρ C H E σ x C1 _ R eo h1 fun ρ1 H1 v1 R1 s1 d1 => k ρ1 H1 _ R1 s1 ((eo.mono s1).set d1)
theorem ss_asgS {slots : List Nat} {g : MG} (he : SE F e me) (hg : SG F tg slots g) (hw : ∀ env : Env, env.scope = F.sc → swappedStores [tg] e env = pure none) (hs : ∀ env : Env, swapsWithSole [tg] e pos.line env = pure false := by intro _; rfl)
    (h1 : ∀ env : Env, (assignEach [tg] env).map (·.2) = [assign tg env] := by intro _; rfl) : SS F (.Assign [tg] e pos) (mAsg me g) := by
  obtain ⟨t, q, s⟩ := he
  obtain ⟨u, q2, s2⟩ := hg
  refine ⟨_, fun X h => ps_asg (q X h) (q2 X h) (hs _) (hw _ h.sc) (h1 _), fun ρ C H E σ o Z R eo hm k => ?_⟩
  obtain ⟨⟨x, C1⟩, e1, hm⟩ := obind hm
  obtain ⟨E1, e2, hm⟩ := obind hm
  cases hm
  exact s ρ C H E σ x C1 _ R eo e1 fun ρ1 H1 v1 R1 s1 d1 => s2 ρ1 C1 H1 E σ x v1 E1 _ R1 (eo.mono s1) d1 e2 fun σ' eo' _ => k ρ1 H1 σ' R1 s1 eo'
theorem sw_cellD {kx vx : Expr} {gs : List Comprehension} {scope : Scope} {py : Pos} {y : Str} {l : Nat} {env : Env} (hy : env.scope.names.lookup y = some .cell) : swapsWith (.DictComp kx vx gs scope pos) (some (.Name y py)) l env = pure false := by
  have e1 : env.kindOf y = some .cell := hy
  unfold swapsWith
  simp only [e1]
  have : (some NameKind.cell == some NameKind.local) = false := rfl
  simp only [this, Bool.and_false, Bool.false_and]
theorem sw_cellL {elt : Expr} {gs : List Comprehension} {scope : Scope} {py : Pos} {y : Str} {l : Nat} {env : Env} (hy : env.scope.names.lookup y = some .cell) : swapsWith (.ListComp elt gs scope pos) (some (.Name y py)) l env = pure false := by
  have e1 : env.kindOf y = some .cell := hy
  unfold swapsWith
  simp only [e1]
  have : (some NameKind.cell == some NameKind.local) = false := rfl
  simp only [this, Bool.and_false, Bool.false_and]
end
end Mi
set_option Elab.async false
set_option linter.all false
set_option maxRecDepth 100000
set_option maxHeartbeats 4000000
namespace Mi
open PySem PySem.Spec PyProof.Rows L2
/-! ## the order of data -/
def rOrdG (K : PySem.W.Frag) (f : PyData → PyData → Bool) : R2 := fun x y H Q => ∃ p q, Dp K H x p ∧ Dp K H y q ∧ PySem.W.alike p q = true ∧ p ≠ .none ∧ p.depth ≤ 60 ∧ Q (.bl (f p q)) H
theorem op_geG {X : Cx} (hu : X.A.units + 64 < cLine) : OpR X (compareOp .GtE) (rOrdG X.K fun p q => !PySem.W.dataLt p q) := by
  intro pins s σ H x y v u Q I rx ry h
  obtain ⟨p, q, hp, hq, al, nn, dp, k⟩ := h
  obtain ⟨as, r1⟩ := Dp.reads I p x v hp rx
  obtain ⟨bs, r2⟩ := Dp.reads I q y u hq ry
  exact PySem.W.ge_data r1 r2 al nn (by omega) ⟨.bl _, H, I, rfl, k⟩
theorem op_ltG {X : Cx} (hu : X.A.units + 64 < cLine) : OpR X (compareOp .Lt) (rOrdG X.K fun p q => PySem.W.dataLt p q) := by
  intro pins s σ H x y v u Q I rx ry h
  obtain ⟨p, q, hp, hq, al, nn, dp, k⟩ := h
  obtain ⟨as, r1⟩ := Dp.reads I p x v hp rx
  obtain ⟨bs, r2⟩ := Dp.reads I q y u hq ry
  exact PySem.W.lt_data r1 r2 al nn (by omega) ⟨.bl _, H, I, rfl, k⟩
def ordX (g : OD2) (f : PyData → PyData → Bool) : OD2 := fun x y C => match x, y with
  | .tup _, .tup _ => (match py C 60 x, py C 60 y with
    | some p, some q => if PySem.W.alike p q = true ∧ p.depth ≤ 60 then some (.bl (f p q), C) else none
    | _, _ => none)
  | x, y => g x y C
abbrev dGeX : OD2 := ordX dGe fun p q => !PySem.W.dataLt p q
abbrev dLtX : OD2 := ordX dLt fun p q => PySem.W.dataLt p q
section
variable {F : Fm}
theorem tup_nn {C : Hm} {n : Nat} {ds : List D} {p : PyData} (h : py C n (.tup ds) = some p) : p ≠ .none := by
  cases n with
  | zero => cases h
  | succ n =>
    obtain ⟨ps, _, e⟩ := omap (show (ds.mapM (py C n)).map PyData.tuple = some p from h)
    rw [← e]; intro z; cases z
theorem ordX_ok {op : CmpOp} {g : OD2} {f : PyData → PyData → Bool} (hg : SOp F (compareOp op) g) (hf : ∀ X, F.Is X → OpR X (compareOp op) (rOrdG F.K f)) : SOp F (compareOp op) (ordX g f) := by
  obtain ⟨r, hr, s⟩ := hg
  refine ⟨_, fun X h => (hr X h).or (hf X h), fun ρ C H x y vx vy d C' Q R hx hy hm k => ?_⟩
  unfold ordX at hm
  split at hm
  · split at hm
    · rename_i p q e1 e2
      split at hm
      · rename_i hc
        cases hm
        exact .inr ⟨p, q, py_ok R _ hx e1, py_ok R _ hy e2, hc.1, tup_nn e1, hc.2, k.now R (.bl _)⟩
      · cases hm
    · cases hm
  · exact .inl (s ρ C H _ _ vx vy d C' Q R hx hy hm k)
theorem so_geX : SOp F (compareOp .GtE) dGeX := ordX_ok so_ge fun X h => by rw [← h.K]; exact op_geG (Room.u64b h.rm)
theorem so_ltX : SOp F (compareOp .Lt) dLtX := ordX_ok so_lt fun X h => by rw [← h.K]; exact op_ltG (Room.u64b h.rm)
end
/-! ## sorted(set(..)) of a tuple, too -/
def rSetTI (w : World) (K : PySem.W.Frag) : List V → Hp → VK → Prop := fun xs H Q => ∃ (l : Addr) (ns : List Int), xs = [V.ref l] ∧ SqT K H l (ns.map V.int) ∧ ns.length + 1 < scanBound ∧ ∀ a n, H a = none → n ≤ ns.length → Q (.ref a) (upd H a (SetO w a (fun j => decide (j ∈ ns)) n))
theorem cr_setTI {X : Cx} (hc : X.calm = true) : CallR X (.type "set") (rSetTI X.w X.K) := by
  intro pins s σ H xs us Q I r h
  obtain ⟨l, ns, rfl, hs, few, q⟩ := h
  obtain ⟨its, rv, pl, hz⟩ := I.tuple hs
  rw [Vals.ref1 r]
  refine call_set_tupI ns (I.ok.hd hc) pl (by simpa using rv.ints) few fun h' tk c hS hcn hk => ?_
  exact ⟨.ref _, _, I.laid (t' := tk) hk (Nat.le_refl _) (setO_new hS), rfl, q _ c (I.hok.fresh (Nat.le_refl _)) hcn⟩
section
variable {F : Fm} {e : Expr} {me : ME} {p q pos pos2 : Pos}
theorem se_srtSetX (hm : F.mg "sorted" = none) (hm2 : F.mg "set" = none) (he : SE F e me) (hg : F.sc.names.lookup (Str.ofString "sorted") = some .globalImplicit := by rfl) (hg2 : F.sc.names.lookup (Str.ofString "set") = some .globalImplicit := by rfl)
    (h1 : ∀ env : Env, starEach [.Call (.Name "set" q) [e] [] pos2] env = (false, eval (.Call (.Name "set" q) [e] [] pos2) env) :: starEach [] env := by intro _; rfl) (h2 : ∀ env : Env, starEach [e] env = (false, eval e env) :: starEach [] env := by intro _; rfl)
    (hp1 : ∀ env : Env, (backTo pos (starEach [] env)).any (·.1) = false := by intro _; rfl) (hp2 : ∀ env : Env, (backTo pos2 (starEach [] env)).any (·.1) = false := by intro _; rfl)
    (ha1 : ∀ (X : Cx) (te : TE), PE X (.Call (.Name "set" q) [e] [] pos2) te → PA X [.Call (.Name "set" q) [e] [] pos2] (tCons te tNil) := by intro X te h; exact pa_cons h pa_nil) (ha2 : ∀ (X : Cx) (te : TE), PE X e te → PA X [e] (tCons te tNil) := by intro X te h; exact pa_cons h pa_nil) :
    SE F (.Call (.Name "sorted" p) [.Call (.Name "set" q) [e] [] pos2] [] pos) (mSrtSet me) := by
  obtain ⟨t, pt, st⟩ := he
  refine ⟨_, fun X h => pe_callB (show CallR X (.builtin "sorted") (rSortedSet F.w) by rw [← h.w]; exact cr_sortedSet h.calm) (h.gl hg) (by rw [h.mg]; exact hm) (by decide +kernel) (ha1 X _ (pe_callTy ((show CallR X (.type "set") (rSetLI F.w F.K) by rw [← h.w, ← h.K]; exact cr_setLI h.calm).or (show CallR X (.type "set") (rSetTI F.w F.K) by rw [← h.w, ← h.K]; exact cr_setTI h.calm)) (h.gl hg2) (by rw [h.mg]; exact hm2) (by decide +kernel) (ha2 X t (pt X h)) (by decide) (by decide) (h2 _) (hp2 _))) (by decide) (by decide) (h1 _) (hp1 _), fun ρ C H E σ d C' Q R eo hm k => ?_⟩
  obtain ⟨⟨x, C1⟩, e1, hm⟩ := obind hm
  obtain ⟨ds, e2, hm⟩ := obind hm
  obtain ⟨ns, e3, hm⟩ := obind hm
  split at hm
  · rename_i few
    cases hm
    refine st ρ C H E σ x C1 _ R eo e1 fun ρ1 H1 v1 R1 s1 d1 => ?_
    obtain ⟨a, vs, rfl, hs, hd⟩ := seqOf_ok R1 d1 e2
    have ev := intsOf_ok hd e3
    subst ev
    have sb : (64 : Nat) ≤ scanBound := by decide
    have fin : ∀ l n, H1 l = none → n ≤ ns.length → rSortedSet F.w [V.ref l] (upd H1 l (SetO F.w l (fun j => decide (j ∈ ns)) n)) Q := fun l n hl hn => ⟨l, _, n, rfl, upd_same, by omega, fun out pp up mem len hp => by
      have eo : out = dedup (sortI ns) := up_unique up (dedup_up _ (sortI_up _)) fun kk => by
        rw [mem kk, dedup_mem, (sortI_perm ns).mem_iff]
        simp
      subst eo
      have R2 := R1.fresh (o := SetO F.w l (fun j => decide (j ∈ ns)) n) hl
      exact k _ _ _ (R2.newL hp (DVs.ints _)) (s1.trans ((Stp.fresh hl).trans (Stp.push hp))) (DV.new R2)⟩
    rcases hs with hs | hs
    · exact .inl ⟨a, ns, rfl, hs, by omega, fin⟩
    · exact .inr ⟨a, ns, rfl, hs, by omega, fin⟩
  · cases hm
end
end Mi
set_option Elab.async false
set_option linter.all false
set_option maxRecDepth 100000
set_option maxHeartbeats 4000000
namespace PySem.W
open PySem PySem.Calls PySem.SeqAt PyProof.Rows
/-! ## tuples in order, when one of them is empty: they are compared as any objects of one type -/
section
variable {prog : Program} {w : World} {A : Around} {E : Value → Shared → Prop} {s : Shared}
theorem call_tup_lt {Q : Value → Shared → Prop} {l b : Addr} {items items2 : Array Value} {e r : Nat → Bool} (hl : s.heap.IsTuple l items) (hb : s.heap.IsTuple b items2)
    (he : ∀ j (h1 : j < items.size) (h2 : j < items2.size), EqAt A.in1 s items[j] items2[j] (e j)) (hr : ∀ j (h1 : j < items.size) (h2 : j < items2.size), e j = false → RcLt A.in1 s items[j] items2[j] (r j))
    (h : Q (.bool (firstLt e r (decide (items.size < items2.size)) (List.range (min items.size items2.size)))) s) : wpAny (model prog w) A (call (.builtin "tuple.__lt__") [.ref l, .ref b]) Q E s := by
  obtain ⟨⟨cls, dd, data, sl⟩, ho, hc, n, hd⟩ := id hl
  obtain ⟨⟨cls2, dd2, data2, sl2⟩, ho2, hc2, n2, hd2⟩ := id hb
  simp only at hc hd hc2 hd2
  subst hc hd hc2 hd2
  exact call_meets F.slot_tuple_lt ⟨_, ho, rfl⟩ F.entry_tuple_lt (F.args_tuple_lt_2 _ _) (tuple_ltAt l b items items2 n n2 dd dd2 sl sl2 e r) ⟨ho, ho2, he, hr, h⟩
theorem oneLt_tup {xs ys : List PyData} {a b : Value} {as bs : List Addr} {Q : Bool → Shared → Prop} (ra : Reads s.heap a (.tuple xs) as) (rb : Reads s.heap b (.tuple ys) bs) (h : alike (.tuple xs) (.tuple ys) = true)
    (hu : A.units + min (PyData.tuple xs).depth (PyData.tuple ys).depth < cLine) (hq : Q (dataLt (.tuple xs) (.tuple ys)) s) : wpAny (model prog w) A (oneLt' true a b) Q E s := by
  have hal : alikeAll xs ys = true := by simpa [alike] using h
  cases ra with
  | @tuple l o vs n _ as₁ h1 h2 h3 h4 =>
    cases rb with
    | @tuple l' o' vs' n' _ bs₁ k1 k2 k3 k4 =>
      have n1 : vs.size = xs.length := by simpa using ReadsAll.length _ _ _ h4
      have n2 : vs'.size = ys.length := by simpa using ReadsAll.length _ _ _ k4
      rw [dataLt_tuple, ← firstLt_toks xs ys hal, ← n1, ← n2] at hq
      rw [oneLt'_eq]
      simp only [if_true]
      refine wpAny_bind (wpAny_cRoomFor (room_here hu) ?_)
      refine wpAny_bind (wpAny_callSpecialIfBound?_slot (T := "tuple") ⟨_, h1, h2⟩ F.slot_tuple_lt (call_tup_lt (e := pairEq xs ys) (r := fun j => dataLt (xs.getD j .none) (ys.getD j .none)) ⟨_, h1, h2, _, h3⟩ ⟨_, k1, k2, _, k3⟩ (fun j j1 j2 => ?_) (fun j j1 j2 hj => ?_) ?_))
      · have := eqAt_alikeAll xs ys A.in1 s vs.toList vs'.toList _ _ h4 k4 hal (room_in hu) j (by simpa using j1) (by simpa using j2)
        simpa using this
      · have := rcLt_alikeAll xs ys A.in1 s vs.toList vs'.toList _ _ h4 k4 hal (room_in hu) j (by simpa using j1) (by simpa using j2) hj
        simpa using this
      · exact wpAny_truthy_bool hq
end
/-- tuples, the first one empty -/
def EmptyFirst (ds : List PyData) : Prop := (∃ r, ds = .tuple [] :: r) ∧ ∀ d, d ∈ ds → ∃ xs, d = .tuple xs
section
variable {M : Model} {A : Around} {E : Value → Shared → Prop} {s : Shared}
theorem firsts_any : ∀ {vs : List Value} {ds : List PyData} {Q : List (Option Value) → Shared → Prop}, EachIs (fun v d => ∃ as, Reads s.heap v d as) vs ds → (∀ d, d ∈ ds → ∃ xs, d = .tuple xs) →
    (∀ fs : List (Option Value), (∀ r, ds = .tuple [] :: r → ∃ gs, fs = none :: gs) → Q fs s) → wpAny M A (vs.mapM firstOfTuple') Q E s
  | _, _, Q, .nil, _, h => by rw [List.mapM_nil]; exact wpAny_pure (h [] fun r e => by cases e)
  | _, _, Q, .cons (b := d) ⟨as, r⟩ t, ht, h => by
    obtain ⟨xs, rfl⟩ := ht d (List.mem_cons_self ..)
    rw [List.mapM_cons]
    refine wpAny_bind ?_
    rw [kas_first_eq]
    cases r with
    | @tuple a o vs n _ _ ho hc hd hr =>
      refine wpAny_bind (Looks.here (show Looks M s.heap (typeOf (.ref a)) o.cls from (Looks.ld ho).andThen .now) ?_)
      rw [hc, if_neg (by first | decide | simp)]
      refine wpAny_bind (listItems_at ho hd (wpAny_pure ?_))
      refine wpAny_bind (firsts_any t (fun d hd => ht d (List.mem_cons_of_mem _ hd)) fun fs _ => wpAny_pure (h _ fun r e => ?_))
      cases e
      have : vs.toList = [] := by
        cases q : vs.toList with
        | nil => rfl
        | cons _ _ => rw [q] at hr; cases hr
      refine ⟨fs, ?_⟩
      have e : vs[0]? = none := by rw [← Array.getElem?_toList, this]; rfl
      rw [e]
theorem kind_empty {vs : List Value} {ds : List PyData} {Q : SortKind → Shared → Prop} (e : EachIs (fun v d => ∃ as, Reads s.heap v d as) vs ds) (hE : EmptyFirst ds) (h : Q oneType' s) : wpAny M A (keyKind' vs.toArray) Q E s := by
  obtain ⟨⟨r, rfl⟩, ht⟩ := hE
  rw [kat_kind_eq, List.mapM_toArray, map_eq_pure_bind]
  refine wpAny_bind (wpAny_bind (firsts_any e ht fun fs hfs => ?_))
  obtain ⟨gs, rfl⟩ := hfs r rfl
  refine wpAny_pure ?_
  rw [if_neg (by simp), if_neg (by simp)]
  cases e with
  | @cons v d vs' ds' h0 h1 =>
    rw [oneTypeOnly'_eq, List.mapM_toArray, map_eq_pure_bind]
    have looks : ∀ u ∈ v :: vs', Looks M s.heap (typeOf u) (Value.type "tuple") := fun u hu => by
      obtain ⟨d, hd, as, rd⟩ := (EachIs.cons h0 h1).left u hu
      obtain ⟨xs, rfl⟩ := ht d hd
      exact looks_reads rd
    refine wpAny_bind (wpAny_bind (wpAny_bind (kas_mapM (r := Value.type "tuple") _ (fun v hv Q' hq => (looks v hv).here hq) (wpAny_pure ?_))))
    have hall : ((List.map (fun _ => Value.type "tuple") (v :: vs')).toArray.all fun x => x == Value.type "tuple") = true := by
      simp only [List.all_toArray, List.all_map, List.all_eq_true]
      intro _ _
      rfl
    have h0 : (List.map (fun _ => Value.type "tuple") (v :: vs')).toArray[0]? = some (Value.type "tuple") := by simp
    rw [h0]
    simp only [hall, if_true]
    exact wpAny_pure (wpAny_pure h)
end
section
variable {prog : Program} {w : World} {A : Around} {E : Value → Shared → Prop} {s : Shared} {β : Type} {vs : List Value} {bs : List β} {enc : β → PyData} {R : Value → β → Prop}
theorem SortsAt.empties {vs : List Value} {ds : List PyData} (e : EachIs (fun v d => ∃ as, Reads s.heap v d as) vs ds) (hal : AllAlike ds) (hE : EmptyFirst ds) (hu : ∀ d, d ∈ ds → A.units + d.depth < cLine) : SortsAt prog w A s (dataKind s.heap ds) vs := by
  have room : ∀ {d d' : PyData}, d ∈ ds → A.units + min d.depth d'.depth < cLine := fun {d d'} hd => Nat.lt_of_le_of_lt (Nat.add_le_add_left (Nat.min_le_left _ _) _) (hu d hd)
  refine ⟨fun v hv => ?_, oneType', ?_, fun h2 E Q hq => kind_empty e hE hq⟩
  · obtain ⟨d, hd, as, r⟩ := e.left v hv
    exact ⟨_, dataKind_some hal hd r⟩
  · intro E x y a b Q ha hb hq
    obtain ⟨d, as, hd, ra, rfl⟩ := dataKind_inv ha
    obtain ⟨d', as', hd', rb, rfl⟩ := dataKind_inv hb
    rw [keyLt'_oneType]
    obtain ⟨xs, rfl⟩ := hE.2 d hd
    obtain ⟨ys, rfl⟩ := hE.2 d' hd'
    exact oneLt_tup ra rb (hal _ hd _ hd') (room hd) hq
theorem sorted_empties {l : Addr} {Q : Value → Shared → Prop} (hl : s.heap.IsList l vs.toArray) (e : EachIs R vs bs) (er : EachIs (fun v b => ∃ as, Reads s.heap v (enc b) as) vs bs) (hal : AllAlike (bs.map enc)) (hk : EmptyFirst (bs.map enc)) (hL : bs.length ≤ sizeLine)
    (hu : ∀ b, b ∈ bs → A.units + 2 + (enc b).depth < cLine) (h : ∀ out, out.length = bs.length → EachIs R out (bs.mergeSort (dataLe false enc)) → Q (.ref (s.heap.objs.size + 1)) { s with heap := sortedAll s.heap vs (List.toArray out) }) :
    wpAny (model prog w) A (call (.builtin "sorted") [.ref l]) Q E s := by
  have er' : EachIs (fun v b => ∃ as, Reads (sortingHeap (copyHeap s.heap vs) (s.heap.objs.size + 1) vs) v (enc b) as) vs bs := er.mono fun _ _ ⟨as, r⟩ => ⟨as, PyProof.Rows.Reads.keeps (fun _ _ => sorting_copy_old) r⟩
  exact sorted_vals hl (SortsAt.empties (s := { s with heap := sortingHeap (copyHeap s.heap vs) (s.heap.objs.size + 1) vs }) (each_map (R := fun v d => ∃ as, Reads (sortingHeap (copyHeap s.heap vs) (s.heap.objs.size + 1) vs) v d as) enc er') hal hk (bound_map hu)) (by rw [e.length]; exact hL)
    (h _ (by rw [sortVals_length false rfl]; exact e.length) (sortVals_data false e er' hal))
end
end PySem.W
set_option Elab.async false
set_option linter.all false
set_option maxRecDepth 100000
set_option maxHeartbeats 4000000
namespace Mi
open PySem PySem.Spec PyProof.Rows L2
/-! ## {elt for .. in .. if .. for .. in .. if ..}: a set of ints, of two clauses -/
abbrev SC2 (elt t0 i0 t1 i1 : Expr) (fs0 fs1 : List Expr) (scope : Scope) (pos : Pos) : Expr := .SetComp elt [⟨t0, i0, fs0, 0⟩, ⟨t1, i1, fs1, 0⟩] scope pos
section
variable {elt t0 i0 t1 i1 : Expr} {fs0 fs1 : List Expr} {scope : Scope} {pos : Pos} {env : Env}
abbrev tstF (fs : List Expr) (env : Env) : Sem Bool := forIn fs true fun c r => if r = true then do let ok ← isTrue c env (eval c env); pure (ForInStep.yield ok) else pure (ForInStep.yield r)
theorem scTurn0 (it acc : Value) : compTurn (SC2 elt t0 i0 t1 i1 fs0 fs1 scope pos) 0 it acc env = (do
      standAt i0.pos
      match ← pyNext it with
      | none => pure (.done .next)
      | some v =>
        letOwnedTupleGo t0 it v
        assign t0 env v
        let ok ← tstF fs0 env
        if ok then
          let x ← eval i1 env
          standAt i1.pos
          let x ← foldedSetIterable i1 env x
          let _ ← runOwn (.compStart (SC2 elt t0 i0 t1 i1 fs0 fs1 scope pos) 1 (← holding [x] (pyIter x)) acc env) env
        again (.compLoop (SC2 elt t0 i0 t1 i1 fs0 fs1 scope pos) 0 it acc env)) := by rfl
theorem scTurn1 (it acc : Value) : compTurn (SC2 elt t0 i0 t1 i1 fs0 fs1 scope pos) 1 it acc env = (do
      standAt i1.pos
      match ← pyNext it with
      | none => pure (.done .next)
      | some v =>
        letOwnedTupleGo t1 it v
        assign t1 env v
        let ok ← tstF fs1 env
        if ok then
          (do let v ← eval elt env; standAt elt.pos; let _ ← call (.builtin "set.add") [acc, v])
        again (.compLoop (SC2 elt t0 i0 t1 i1 fs0 fs1 scope pos) 1 it acc env)) := by rfl
end
section
variable {prog : Program} {w : World} {A : Around} {R : Result → Shared → Prop} {s : Shared} {elt t0 i0 t1 i1 : Expr} {fs0 fs1 : List Expr} {scope : Scope} {pos : Pos} {it acc : Value} {env : Env}
/-- what is wanted where something is raised -/
abbrev XR (prog : Program) (w : World) (A : Around) (env : Env) (R : Result → Shared → Prop) : Value → Shared → Prop := notedBy (model prog w) A env fun e s' => R (.error e) s'
theorem scLoop0 (hs : ∀ x, foldedSetIterable i1 env x = pure x) (I : Nat → Shared → Prop)
    (turn : ∀ n s, I n s → wpAny (model prog w) A (pyNext it) (fun r s₁ => match r with
      | none => R (.ok .next) s₁
      | some v => wpAny (model prog w) A (letOwnedTupleGo t0 it v) (fun _ s₁' => wpAny (model prog w) A (assign t0 env v) (fun _ s₂ =>
          wpAny (model prog w) A (tstF fs0 env) (fun ok s₃ => if ok = true then wpAny (model prog w) A (eval i1 env) (fun x s₄ => wpAny (model prog w) A (pyIter x) (fun it1 s₅ =>
              codeAny (model prog w) A (.compStart (SC2 elt t0 i0 t1 i1 fs0 fs1 scope pos) 1 it1 acc env) (fun r s' => match r with
                | .ok _ => ∃ m, m < n ∧ I m s'
                | .error _ => False) s₅) (XR prog w A env R) s₄) (XR prog w A env R) s₃
            else ∃ m, m < n ∧ I m s₃) (XR prog w A env R) s₂) (XR prog w A env R) s₁') (XR prog w A env R) s₁) (XR prog w A env R) s)
    (n : Nat) (h : I n s) : codeAny (model prog w) A (.compLoop (SC2 elt t0 i0 t1 i1 fs0 fs1 scope pos) 0 it acc env) R s := by
  refine codeAny_loop rfl I (fun n s hI => ?_) n h
  show wpAny _ A ((compTurn (SC2 elt t0 i0 t1 i1 fs0 fs1 scope pos) 0 it acc env).onRaise (fun x => do noteFrame x env; theTreesLotGoes x)) _ _ s
  refine wpAny_noted ?_
  rw [scTurn0]
  refine wpAny_bind (wpAny_standAt (wpAny_bind (wpAny_mono (turn n s hI) (fun r s1 g1 => ?_) fun _ _ z => z)))
  cases r with
  | none => exact wpAny_pure g1
  | some v =>
    refine wpAny_bind (wpAny_mono g1 (fun _ s2 g2 => ?_) fun _ _ z => z)
    refine wpAny_bind (wpAny_mono g2 (fun _ s3 g3 => ?_) fun _ _ z => z)
    refine wpAny_bind (wpAny_mono g3 (fun ok s4 g4 => ?_) fun _ _ z => z)
    cases ok with
    | false => exact wpAny_pure ⟨rfl, g4⟩
    | true =>
      refine wpAny_bind (wpAny_mono g4 (fun x s5 g5 => ?_) fun _ _ z => z)
      refine wpAny_bind (wpAny_standAt (wpAny_bind (wpAny_of_eq (hs x) (wpAny_bind (wpAny_holding (wpAny_mono g5 (fun it1 s6 g6 => ?_) fun _ _ z => z))))))
      refine wpAny_bind (wpAny_runOwn ?_)
      rw [Around.mark_none]
      refine codeAny_mono g6 fun r s' hr => ?_
      cases r with
      | ok f => first | exact wpAny_pure ⟨rfl, hr⟩ | exact wpAny_bind (wpAny_pure (wpAny_pure ⟨rfl, hr⟩))
      | error e => exact hr.elim
theorem scLoop1 (I : Nat → Shared → Prop)
    (turn : ∀ n s, I n s → wpAny (model prog w) A (pyNext it) (fun r s₁ => match r with
      | none => R (.ok .next) s₁
      | some v => wpAny (model prog w) A (letOwnedTupleGo t1 it v) (fun _ s₁' => wpAny (model prog w) A (assign t1 env v) (fun _ s₂ =>
          wpAny (model prog w) A (tstF fs1 env) (fun ok s₃ => if ok = true then wpAny (model prog w) A (eval elt env) (fun x s₄ =>
              wpAny (model prog w) A (call (.builtin "set.add") [acc, x]) (fun _ s₅ => ∃ m, m < n ∧ I m s₅) (XR prog w A env R) s₄) (XR prog w A env R) s₃
            else ∃ m, m < n ∧ I m s₃) (XR prog w A env R) s₂) (XR prog w A env R) s₁') (XR prog w A env R) s₁) (XR prog w A env R) s)
    (n : Nat) (h : I n s) : codeAny (model prog w) A (.compLoop (SC2 elt t0 i0 t1 i1 fs0 fs1 scope pos) 1 it acc env) R s := by
  refine codeAny_loop rfl I (fun n s hI => ?_) n h
  show wpAny _ A ((compTurn (SC2 elt t0 i0 t1 i1 fs0 fs1 scope pos) 1 it acc env).onRaise (fun x => do noteFrame x env; theTreesLotGoes x)) _ _ s
  refine wpAny_noted ?_
  rw [scTurn1]
  refine wpAny_bind (wpAny_standAt (wpAny_bind (wpAny_mono (turn n s hI) (fun r s1 g1 => ?_) fun _ _ z => z)))
  cases r with
  | none => exact wpAny_pure g1
  | some v =>
    refine wpAny_bind (wpAny_mono g1 (fun _ s2 g2 => ?_) fun _ _ z => z)
    refine wpAny_bind (wpAny_mono g2 (fun _ s3 g3 => ?_) fun _ _ z => z)
    refine wpAny_bind (wpAny_mono g3 (fun ok s4 g4 => ?_) fun _ _ z => z)
    cases ok with
    | false => exact wpAny_pure ⟨rfl, g4⟩
    | true =>
      refine wpAny_bind (wpAny_bind (wpAny_mono g4 (fun x s5 g5 => ?_) fun _ _ z => z))
      refine wpAny_bind (wpAny_standAt (wpAny_bind (wpAny_mono g5 (fun _ s6 g6 => ?_) fun _ _ z => z)))
      exact wpAny_pure (wpAny_pure ⟨rfl, g6⟩)
theorem scStart (d : Nat) (hd : d = 0 ∨ d = 1) (h0 : codeAny (model prog w) A (.compLoop (SC2 elt t0 i0 t1 i1 fs0 fs1 scope pos) d it acc env) R s)
    (h : wpAny (model prog w) A (pyIter it) (fun it' s' => codeAny (model prog w) A (.compLoop (SC2 elt t0 i0 t1 i1 fs0 fs1 scope pos) d it' acc env) R s') (XR prog w A env R) s) :
    codeAny (model prog w) A (.compStart (SC2 elt t0 i0 t1 i1 fs0 fs1 scope pos) d it acc env) R s := by
  refine codeAny_of_tree ?_
  show wpAny _ _ ((compStart (SC2 elt t0 i0 t1 i1 fs0 fs1 scope pos) d it acc env).onRaise (fun x => do noteFrame x env; standAt theWindowsPlace)) _ _ s
  refine wpAny_notedAt ?_
  rcases hd with rfl | rfl
  all_goals
    unfold compStart
    show wpAny _ _ (ask >>= _) _ _ s
    refine wpAny_bind (wpAny_askSetting (wpAny_ite ?_))
    split
    · first
        | exact wpAny_bind (wpAny_pure (wpAny_pure (And.intro rfl h0)))
        | exact wpAny_pure (And.intro rfl h0)
    · refine wpAny_bind (wpAny_rule ?_)
      show wpAny _ _ (standAt _ >>= _) _ _ s
      exact wpAny_bind (wpAny_standAt (wpAny_bind (wpAny_mono h (fun it' s' h' => wpAny_pure (And.intro rfl h')) fun _ _ x => x)))
end
end Mi
set_option Elab.async false
set_option linter.all false
set_option maxRecDepth 100000
set_option maxHeartbeats 4000000
namespace Mi
open PySem PySem.Spec PyProof.Rows L2
/-- what the inner clause asks: Nx is reached when its source is through -/
def tScIn (D : Addr) (w : World) (g1 : TG) (tt1 : TT) (te : TE) (vs1 : List Nat) (σ2 : L2.St) (J1 : It) (Nx : Hp → Prop) (H4 : Hp) : Prop :=
  ∃ W1 : Nat → Nat → Hp → Prop, (∃ m, W1 0 m H4) ∧ ∀ j k H, W1 j k H → (J1.stop j H ∧ Nx H) ∨ (J1.go j H ∧ ∃ N1 : Hp → Prop, (∀ H', N1 H' → ∃ k', k' < k ∧ W1 (j + 1) k' H') ∧
    ∀ x H', J1.yld j H x H' → g1 x (wipe σ2 vs1) H' fun σ3 H5 => wipe σ3 vs1 = wipe σ2 vs1 ∧ tt1 σ3 H5 fun b H6 => if b = true then te σ3 H6 fun y H7 => rSAdd w (.ref D) [y] H7 fun _ H8 => N1 H8 else N1 H6)
/-- .. and the whole -/
def tSc (w : World) (wi : TI) (g : TG) (tt : TT) (wi1 : TI) (g1 : TG) (tt1 : TT) (te : TE) (vs vs1 : List Nat) : TE := fun σ H Q => wi σ H fun J H1 => ∀ D, H1 D = none →
  ∃ W : Nat → Nat → Hp → Prop, (∃ m, W 0 m (upd H1 D (SetO w D (fun _ => false) 0))) ∧ ∀ i m H, W i m H → (J.stop i H ∧ Q (.ref D) H) ∨ (J.go i H ∧ ∃ Nx : Hp → Prop, (∀ H', Nx H' → ∃ m', m' < m ∧ W (i + 1) m' H') ∧
    ∀ x H', J.yld i H x H' → g x (wipe σ vs) H' fun σ2 H2 => wipe σ2 vs = wipe σ vs ∧ tt σ2 H2 fun b H3 => if b = true then wi1 σ2 H3 fun J1 H4 => tScIn D w g1 tt1 te vs1 σ2 J1 Nx H4 else Nx H3)
section
variable {X : Cx} {u0 : Shared} {K0 : Hp} {ce : Env} {fp : List Addr} {elt t0 i0 t1 i1 : Expr} {fs0 fs1 : List Expr} {scope : Scope} {pos : Pos} {D : Addr}
/-- the pins of a source's own objects stand -/
theorem pin_get {Y : Cx} {P : List (Addr × Obj)} {τ : L2.St} {H' : Hp} {s' : Shared} {fq : List Addr} {h : Heap} (I : Inv Y (P ++ pinsAt fq h) τ H' s') {b : Addr} (hb : b ∈ fq) {o : Obj} (e : h.get? b = some o) : s'.heap.get? b = some o ∧ H' b = none :=
  let z := I.pin (b, o) (List.mem_append_right _ (List.mem_append_right _ (mem_pinsAt hb e)))
  ⟨z.1, z.2.1⟩
theorem sc_in {P : List (Addr × Obj)} {τ : L2.St} {H1 : Hp} {s1 : Shared} {q1 : Addr} {fq : List Addr} {tn : Nat → Heap → Prop} {J : It} {g1 : TG} {tt1 : TT} {te : TE} {vs1 : List Nat} {Nx : Hp → Prop} (hc : X.calm = true)
    (I : Inv (X.blk u0 K0 scope ce fp) P τ H1 s1) (T : Turn X.prog X.w X.K t1 J fq q1 tn) (st : tn 0 s1.heap) (fo : ∀ b ∈ fq, FpOk (X.blk u0 K0 scope ce fp) P H1 b)
    (pg : PG (X.blk u0 K0 scope ce fp) t1 g1) (pt : PTs (X.blk u0 K0 scope ce fp) fs1 tt1) (pe : PE (X.blk u0 K0 scope ce fp) elt te) (q : tScIn D X.w g1 tt1 te vs1 τ J Nx H1) :
    codeAny (model X.prog X.w) X.A (.compLoop (SC2 elt t0 i0 t1 i1 fs0 fs1 scope pos) 1 (.ref q1) (.ref D) ce) (fun r s' => match r with | .ok _ => ∃ H', Inv (X.blk u0 K0 scope ce fp) P (wipe τ vs1) H' s' ∧ Nx H' | .error _ => False) s1 := by
  obtain ⟨W, ⟨m, w0⟩, turn⟩ := q
  refine scLoop1 (fun k s' => ∃ j H', Inv (X.blk u0 K0 scope ce fp) P (wipe τ vs1) H' s' ∧ tn j s'.heap ∧ (∀ b ∈ fq, H' b = none) ∧ W j k H') ?_ m ⟨0, H1, I.weak (wipe_length _ _) (fun _ _ e => (wipe_some e).1), st, fun b hb => (fo b hb).1, w0⟩
  rintro k s2 ⟨j, H2, I2, st2, no2, w2⟩
  have ours : ∀ b ∈ fq, FpOk (X.blk u0 K0 scope ce fp) P H2 b := fun b hb => ⟨no2 b hb, (fo b hb).2⟩
  rcases turn j k H2 w2 with ⟨stop, nx⟩ | ⟨go, N1, hN, step⟩
  · refine thnF (T.done (X.blk u0 K0 scope ce fp) rfl rfl rfl hc j _ s2 _ H2 (fun _ _ => False) I2 ours st2 stop) fun r s3 hr => ?_
    obtain ⟨rfl, I3⟩ := hr
    exact ⟨H2, I3, nx⟩
  · refine thnF (T.item (X.blk u0 K0 scope ce fp) rfl rfl rfl hc j _ s2 _ H2 (fun _ _ => False) I2 ours st2 go) fun r s3 hr => ?_
    obtain ⟨u, rfl, more⟩ := hr
    refine thnF more fun _ s4 h4 => ?_
    obtain ⟨x, H4, I4, r4, y4, st4, no4⟩ := h4
    have ours4 : ∀ b ∈ fq, FpOk (X.blk u0 K0 scope ce fp) P H4 b := fun b hb => ⟨no4 b hb, (fo b hb).2⟩
    have I4p := I4.pinned ours4 (T.obj _ _ st4)
    refine thnF (pg.run _ s4 _ H4 x u _ I4p r4 (step x H4 y4)) fun _ s5 h5 => ?_
    obtain ⟨σ5, H5, I5, wp5, q5⟩ := h5
    refine thnF (pt.run _ s5 σ5 H5 _ I5 q5) fun b s6 h6 => ?_
    obtain ⟨H6, I6, q6⟩ := h6
    have close : ∀ {s' : Shared} {H' : Hp}, Inv (X.blk u0 K0 scope ce fp) (P ++ pinsAt fq s4.heap) σ5 H' s' → N1 H' → ∃ m, m < k ∧ ∃ j H', Inv (X.blk u0 K0 scope ce fp) P (wipe τ vs1) H' s' ∧ tn j s'.heap ∧ (∀ b ∈ fq, H' b = none) ∧ W j m H' := fun {s' H'} I' nx => by
      obtain ⟨k', lt, w'⟩ := hN H' nx
      refine ⟨k', lt, j + 1, H', I'.unpinned.weak (by rw [← wp5, wipe_length]) (fun j v e => (wipe_some (by rw [wp5]; exact e)).1), T.keep _ _ _ st4 fun b hb o e => (pin_get I' hb e).1, fun b hb => ?_, w'⟩
      obtain ⟨o, e, _⟩ := T.obj _ _ st4 b hb
      exact (pin_get I' hb e).2
    cases b with
    | false => exact close I6 (by simpa using q6)
    | true =>
      refine thnF (pe.run _ s6 σ5 H6 _ I6 (by simpa using q6)) fun z s7 h7 => ?_
      obtain ⟨yv, H7, I7, r7, add⟩ := h7
      refine thnF (mt_sadd (X := X.blk u0 K0 scope ce fp) _ s7 σ5 H7 (.ref D) [yv] (.ref D) [z] _ I7 rfl (.cons r7 .nil) add) fun _ s8 h8 => ?_
      obtain ⟨_, H8, I8, _, nx⟩ := h8
      exact close I8 nx
end
end Mi
set_option Elab.async false
set_option linter.all false
set_option maxRecDepth 100000
set_option maxHeartbeats 4000000
namespace Mi
open PySem PySem.Spec PyProof.Rows L2
section
variable {X : Cx} {elt t0 i0 t1 i1 : Expr} {fs0 fs1 : List Expr} {scope : Scope} {pos : Pos}
/-- the block's environment: a new one, at the end of the heap -/
abbrev blkE (X : Cx) (scope : Scope) (s : Shared) : Env := compEnvC scope (cellsFrom (s.heap.objs.size + 1) scope.names (cloFrom X.env.cells scope.names [])) s.heap.objs.size X.env
theorem pe_sc2 {own : List (Str × Nat)} {vs1 : List Nat} {wi wi1 : TI} {g g1 : TG} {tt tt1 : TT} {te : TE} (hc : X.calm = true) (hN : X.N.Nodup) (hi : PI X t0 i0 wi) (ok : BlkOk X.N X.env.scope scope own) (hv : ∀ i ∈ vs1, i ∈ own.map (·.2))
    (all : ∀ (s : Shared) (H : Hp) (C : Addr) (cl : List (Str × Addr)) (fp : List Addr), PG (X.blk s H scope (compEnvC scope cl C X.env) fp) t0 g ∧ PTs (X.blk s H scope (compEnvC scope cl C X.env) fp) fs0 tt ∧ PI (X.blk s H scope (compEnvC scope cl C X.env) fp) t1 i1 wi1 ∧ PG (X.blk s H scope (compEnvC scope cl C X.env) fp) t1 g1 ∧ PTs (X.blk s H scope (compEnvC scope cl C X.env) fp) fs1 tt1 ∧ PE (X.blk s H scope (compEnvC scope cl C X.env) fp) elt te)
    (hs : ∀ x, foldedSetIterable i0 X.env x = pure x := by intro _; rfl) (hs1 : ∀ env x, foldedSetIterable i1 env x = pure x := by intro _ _; rfl) :
    PE X (SC2 elt t0 i0 t1 i1 fs0 fs1 scope pos) (tSc X.w wi g tt wi1 g1 tt1 te (own.map (·.2)) vs1) := by
  refine ⟨fun pins s σ H Q I h => ?_⟩
  rw [PySem.arm_eval_SetComp]
  have free : ∀ y ∈ scope.names, y.2 = .free → ∃ c, X.env.cells.lookup y.1 = some c := fun y hy e => (ok.free y hy e).elim (fun k => I.ok.has _ (.inl k)) fun k => I.ok.has _ (.inr k)
  refine wpAny_comprehension_free (use := none) rfl hs (closure_ok free) ok.kind (fun y hy e => by rw [ok.uniq y hy, e]) (thn (hi.run pins s σ H _ I h) fun xv s1 hx => thn hx fun itv s2 h2 => ?_)
  obtain ⟨it, fp, tn, J, H2, rfl, I2, T, st2, f2, q⟩ := h2
  refine PpSet.newSet_ok ?_
  refine newEnv_comp ?_
  have new := setR_fresh (h := s2.heap) X.w
  obtain ⟨W, ⟨m0, w0⟩, turn⟩ := q s2.heap.objs.size (I2.hok.fresh (Nat.le_refl _))
  -- the new set
  have I3 : Inv X pins σ (upd H2 s2.heap.objs.size (SetO X.w s2.heap.objs.size (fun _ => false) 0)) { s2 with heap := s2.heap.push { cls := .type "set", dict := none, data := .set #[] 0 (.fresh 0 0 (!X.w.params.followText "set-order")) } } :=
    I2.laid (t' := s2.toks) (fun b o e => Heap.get?_push_of_some _ e) (Nat.le_refl _) (setO_new new)
  have lt2 : ∀ b ∈ fp, b < s2.heap.objs.size := fun b hb => let ⟨o, e, _⟩ := T.obj _ _ st2 b hb; Heap.lt_size e
  generalize hD : s2.heap.objs.size = D at *
  generalize hs3 : ({ s2 with heap := s2.heap.push { cls := .type "set", dict := none, data := .set #[] 0 (.fresh 0 0 (!X.w.params.followText "set-order")) } } : Shared) = s3 at *
  have h3 : s3.heap = s2.heap.push { cls := .type "set", dict := none, data := .set #[] 0 (.fresh 0 0 (!X.w.params.followText "set-order")) } := by rw [← hs3]
  have sz3 : s3.heap.objs.size = D + 1 := by rw [h3, Heap.size_push, hD]
  have up3 : ∀ b o, s2.heap.get? b = some o → s3.heap.get? b = some o := fun b o e => by rw [h3]; exact Heap.get?_push_of_some _ e
  have f3 : ∀ b ∈ fp, FpOk X pins (upd H2 D (SetO X.w D (fun _ => false) 0)) b ∧ b < s3.heap.objs.size := fun b hb => by
    have := lt2 b hb
    exact ⟨⟨by rw [upd_ne (Nat.ne_of_lt this)]; exact (f2 b hb).1, (f2 b hb).2⟩, by rw [sz3]; exact Nat.lt_succ_of_lt this⟩
  have st3 : tn 0 s3.heap := T.keep _ _ _ st2 fun b _ o e => up3 b o e
  have I4 := block_start I3 ok hN f3
  obtain ⟨pg, pt, pi1, pg1, pt1, pe⟩ := all s3 (upd H2 D (SetO X.w D (fun _ => false) 0)) s3.heap.objs.size (cellsFrom (s3.heap.objs.size + 1) scope.names (cloFrom X.env.cells scope.names [])) fp
  have e3 : ∀ d, ({ s2 with heap := s3.heap.push d } : Shared) = { s3 with heap := s3.heap.push d } := fun d => by rw [← hs3]
  show codeAny _ _ (.compStart (SC2 elt t0 i0 t1 i1 fs0 fs1 scope pos) 0 (.ref it) (.ref D) (blkE X scope s3)) (compPost (model X.prog X.w) X.A X.xe none (EP X pins σ Q) (.ref D) s3.heap.objs.size) { s3 with heap := pushCells (s3.heap.push { cls := .type "dict", data := .dict #[] }) scope.names }
  have nfp : ∀ b ∈ fp, (upd H2 D (SetO X.w D (fun _ => false) 0)) b = none := fun b hb => (f3 b hb).1.1
  generalize hce : compEnvC scope (cellsFrom (s3.heap.objs.size + 1) scope.names (cloFrom X.env.cells scope.names [])) s3.heap.objs.size X.env = ce at *
  have cL : ce.locals = s3.heap.objs.size := by rw [← hce]; rfl
  rw [show blkE X scope s3 = ce from hce]
  generalize hK : upd H2 D (SetO X.w D (fun _ => false) 0) = K0 at *
  generalize hs4 : ({ s3 with heap := pushCells (s3.heap.push { cls := .type "dict", data := .dict #[] }) scope.names } : Shared) = s4 at *
  have st4 : tn 0 s4.heap := T.keep _ _ _ st3 fun b _ o e => by rw [← hs4]; exact pushCells_keeps _ _ _ _ (Heap.get?_push_of_some _ e)
  have ours : ∀ {τ : L2.St} {H' : Hp} {s' : Shared}, Inv (X.blk s3 K0 scope ce fp) [] τ H' s' → (∀ b ∈ fp, H' b = none) → ∀ b ∈ fp, FpOk (X.blk s3 K0 scope ce fp) [] H' b := fun {τ H' s'} I' hn b hb =>
    ⟨hn b hb, (I'.ok.exf b hb).1, I'.ok.exfs b hb, .inl hb, fun x c e => (I'.ok.exf b hb).2 x c e, fun p hp => (by cases (show p ∈ ([] : List (Addr × Obj)) from hp))⟩
  have loop : codeAny (model X.prog X.w) X.A (.compLoop (SC2 elt t0 i0 t1 i1 fs0 fs1 scope pos) 0 (.ref it) (.ref D) ce) (compPost (model X.prog X.w) X.A X.xe none (EP X pins σ Q) (.ref D) s3.heap.objs.size) s4 := by
    refine scLoop0 (hs1 ce) (fun n s' => ∃ i H', Inv (X.blk s3 K0 scope ce fp) [] (wipe σ (own.map (·.2))) H' s' ∧ tn i s'.heap ∧ (∀ b ∈ fp, H' b = none) ∧ W i n H') ?_ m0 ⟨0, K0, I4, st4, nfp, w0⟩
    rintro n s5 ⟨i, H5, I5, st5, n5, w5⟩
    rcases turn i n H5 w5 with ⟨stop, qq⟩ | ⟨go, Nx, hNx, step⟩
    · refine thnF (T.done (X.blk s3 K0 scope ce fp) rfl rfl rfl hc i [] s5 _ H5 (fun _ _ => False) I5 (ours I5 n5) st5 stop) fun r s6 hr => ?_
      obtain ⟨rfl, I6⟩ := hr
      have I7 : Inv X pins σ H5 s6 := I3.call' (ch := fp) I6.os I6.base I6.hok I6.bare fun b hb => by
        obtain ⟨_, b1, b2, b3, b4, b5⟩ := (f3 b hb).1
        exact ⟨b3, b1, b4, b5⟩
      have nC : H5 s3.heap.objs.size = none := by
        have z : H5 ce.locals = none := I6.free
        rwa [cL] at z
      obtain ⟨m, hn, _⟩ := I6.loc
      have hn : s6.heap.Ns ce.locals m := hn
      rw [cL] at hn
      obtain ⟨b0, b1, b2, b3, b4, b5⟩ := I3.fpOk (Nat.le_refl _) nC
      refine ⟨m, hn, fun h'' sb => ?_⟩
      exact ⟨.ref D, H5, I7.turned (t' := s6.toks) (fun b o hb e => (sb.2 b hb).trans e) b0 b1 b3 b4 b5, rfl, qq⟩
    · refine thnF (T.item (X.blk s3 K0 scope ce fp) rfl rfl rfl hc i [] s5 _ H5 (fun _ _ => False) I5 (ours I5 n5) st5 go) fun r s6 hr => ?_
      obtain ⟨u, rfl, more⟩ := hr
      refine thnF more fun _ s7 h7 => ?_
      obtain ⟨x, H7, I7, r7, y7, st7, n7⟩ := h7
      have I7p := I7.pinned (ours I7 n7) (T.obj _ _ st7)
      refine thnF (pg.run _ s7 _ H7 x u _ I7p r7 (step x H7 y7)) fun _ s8 h8 => ?_
      obtain ⟨σ8, H8, I8, wp8, q8⟩ := h8
      refine thnF (pt.run _ s8 σ8 H8 _ I8 q8) fun b s9 h9 => ?_
      obtain ⟨H9, I9, q9⟩ := h9
      have close : ∀ {σ9 : L2.St} {s' : Shared} {H' : Hp}, Inv (X.blk s3 K0 scope ce fp) ([] ++ pinsAt fp s7.heap) σ9 H' s' → (wipe σ (own.map (·.2))).length = σ9.length → (∀ (j : Nat) v, (wipe σ (own.map (·.2)))[j]? = some (some v) → σ9[j]? = some (some v)) → Nx H' →
          ∃ m, m < n ∧ ∃ i H', Inv (X.blk s3 K0 scope ce fp) [] (wipe σ (own.map (·.2))) H' s' ∧ tn i s'.heap ∧ (∀ b ∈ fp, H' b = none) ∧ W i m H' := fun {σ9 s' H'} I' hl hk nx => by
        obtain ⟨m', lt, w'⟩ := hNx H' nx
        refine ⟨m', lt, i + 1, H', (I'.unpinned (pins := [])).weak hl hk, T.keep _ _ _ st7 fun b hb o e => (pin_get I' hb e).1, fun b hb => ?_, w'⟩
        obtain ⟨o, e, _⟩ := T.obj _ _ st7 b hb
        exact (pin_get I' hb e).2
      have l8 : (wipe σ (own.map (·.2))).length = σ8.length := by rw [← wp8, wipe_length]
      have k8 : ∀ (j : Nat) v, (wipe σ (own.map (·.2)))[j]? = some (some v) → σ8[j]? = some (some v) ∧ j ∉ own.map (·.2) := fun j v e => wipe_some (by rw [wp8]; exact e)
      cases b with
      | false => exact close I9 l8 (fun j v e => (k8 j v e).1) (by simpa using q9)
      | true =>
        refine thnF (pi1.run _ s9 σ8 H9 _ I9 (by simpa using q9)) fun xv s10 hx => thnF hx fun itv s11 h11 => ?_
        obtain ⟨it1, fq, tn1, J1, H11, rfl, I11, T1, st11, f11, q11⟩ := h11
        have inner := sc_in (elt := elt) (t0 := t0) (i0 := i0) (i1 := i1) (fs0 := fs0) (pos := pos) (X := X) hc I11 T1 st11 f11 pg1 pt1 pe q11
        have inner2 : codeAny (model X.prog X.w) X.A (.compLoop (SC2 elt t0 i0 t1 i1 fs0 fs1 scope pos) 1 (.ref it1) (.ref D) ce) (fun r s' => match r with
            | .ok _ => ∃ m, m < n ∧ ∃ i H', Inv (X.blk s3 K0 scope ce fp) [] (wipe σ (own.map (·.2))) H' s' ∧ tn i s'.heap ∧ (∀ b ∈ fp, H' b = none) ∧ W i m H'
            | .error _ => False) s11 := codeAny_mono inner fun r s' hr => by
          cases r with
          | error _ => exact hr
          | ok _ =>
            obtain ⟨H', I', nx⟩ := hr
            refine close I' (l8.trans (wipe_length σ8 vs1).symm) (fun j v e => ?_) nx
            obtain ⟨e1, e2⟩ := k8 j v e
            rw [wipe_out fun z => e2 (hv j z)]
            exact e1
        exact scStart 1 (.inr rfl) inner2 (T1.self X.A 0 _ _ _ st11 inner2)
  exact scStart 0 (.inl rfl) loop (T.self X.A 0 _ _ _ st4 loop)
end
end Mi
set_option Elab.async false
set_option linter.all false
set_option maxRecDepth 100000
set_option maxHeartbeats 4000000
namespace Mi
open PySem PySem.Spec PyProof.Rows L2
/-! ## sorted({elt for .. in .. if .. for .. in .. if ..}), of ints -/
def scIn (it : Itm) (tg : MG) (tt : MT) (elt : ME) (E : Ev) : Nat → Nat → List Int → Hm → Option (List Int × Hm)
  | 0, _, _, _ => none
  | fuel + 1, i, acc, C => (it.at C i).bind fun r => match r with
    | none => some (acc, C)
    | some x => (tg x E).bind fun E1 => (tt E1 C).bind fun p => if p.1 = true then (elt E1 p.2).bind fun q => match q.1 with
        | .int k => if acc.length < 60 then scIn it tg tt elt E fuel (i + 1) (acc ++ [k]) q.2 else none
        | _ => none
      else scIn it tg tt elt E fuel (i + 1) acc p.2
def scOut (it : Itm) (tg : MG) (tt : MT) (src1 : MI) (tg1 : MG) (tt1 : MT) (elt : ME) (vs1 : List Nat) (E : Ev) : Nat → Nat → List Int → Hm → Option (List Int × Hm)
  | 0, _, _, _ => none
  | fuel + 1, i, acc, C => (it.at C i).bind fun r => match r with
    | none => some (acc, C)
    | some x => (tg x E).bind fun E1 => (tt E1 C).bind fun p => if p.1 = true then (src1 E1 p.2).bind fun q => (scIn q.1 tg1 tt1 elt (wipeE E1 vs1) (q.2.1 + 1) 0 acc q.2.2).bind fun r => scOut it tg tt src1 tg1 tt1 elt vs1 E fuel (i + 1) r.1 r.2
      else scOut it tg tt src1 tg1 tt1 elt vs1 E fuel (i + 1) acc p.2
def mSrtSc (src : MI) (tg : MG) (tt : MT) (src1 : MI) (tg1 : MG) (tt1 : MT) (elt : ME) (vs vs1 : List Nat) : ME := fun E C => (src E C).bind fun p => (scOut p.1 tg tt src1 tg1 tt1 elt vs1 (wipeE E vs) (p.2.1 + 1) 0 [] p.2.2).bind fun q =>
  if q.1.length < 63 then some (.cell q.2.length, q.2 ++ [.lst ((dedup (sortI q.1)).map D.int)]) else none
section
variable {F : Fm} {elt t0 i0 t1 i1 : Expr} {fs0 fs1 : List Expr} {scope : Scope} {own : List (Str × Nat)} {src src1 : MI} {g g1 : MG} {mt mt1 : MT} {me : ME} {slots slots1 : List Nat} {pos : Pos}
theorem setO_code {w : World} {a : Addr} {S : Int → Bool} {n : Nat} {q : Str} : SetO w a S n ≠ LamX.CodeO a q := fun h => ext_code h fun hp vs e z => by
  obtain ⟨o, es, ep, t, e1, _, e2, _⟩ := z
  rw [e] at e1
  cases e1
  cases e2
/-- a set of one's own that no cell is -/
theorem Rel.otherS {K : PySem.W.Frag} {ft : Cfg} {ρ : List Addr} {H : Hp} {C : Hm} {P : Addr} {w : World} {S : Int → Bool} {n : Nat} {o : HO} (R : Rel K ft ρ H C) (hP : P ∉ ρ) (e : H P = some (SetO w P S n)) : Rel K ft ρ (upd H P o) C := by
  have w : Wk ρ H ρ (upd H P o) := ⟨fun h => h, fun b xs q => by rw [upd_ne (show b ≠ P from fun z => by rw [z, e] at q; cases q)]; exact q, fun b ob u q => by rw [upd_ne (show b ≠ P from fun z => by rw [z, e] at q; cases q)]; exact q⟩
  refine ⟨R.len, R.nd, fun n c q => ?_⟩
  obtain ⟨a, ha, k⟩ := R.ok n c q
  have ne : a ≠ P := fun z => hP (z ▸ List.mem_of_getElem? ha)
  refine ⟨a, ha, ?_⟩
  cases c with
  | lst ds => obtain ⟨ws, q, r⟩ := k; exact ⟨ws, (upd_ne ne).trans q, DVs.monoW w r⟩
  | dic ks => obtain ⟨ws, q, r⟩ := k; exact ⟨ws, (upd_ne ne).trans q, Paired.mapP r fun p q z => ⟨z.1, DV.monoW w z.2⟩⟩
  | dix ks => obtain ⟨es, q, r⟩ := k; exact ⟨es, (upd_ne ne).trans q, r.monoW w⟩
  | dxl ks => obtain ⟨es, o, q, r⟩ := k; exact ⟨es, o, (upd_ne ne).trans q, r.monoW w⟩
  | tab n => exact ⟨k.1, k.2.upd e setO_code ne⟩
theorem EnvOk.monoW {K : PySem.W.Frag} {ft : Cfg} {ρ ρ' : List Addr} {H H' : Hp} {E : Ev} {σ : L2.St} (h : EnvOk K ft ρ H E σ) (s : Wk ρ H ρ' H') : EnvOk K ft ρ' H' E σ :=
  ⟨h.len, fun i d e => let ⟨v, a, b⟩ := h.at_ i d e; ⟨v, a, b.monoW s⟩⟩
theorem Wk.tr {ρ ρ1 ρ2 : List Addr} {H H1 H2 : Hp} (s : Wk ρ H ρ1 H1) (r : Wk ρ1 H1 ρ2 H2) : Wk ρ H ρ2 H2 :=
  ⟨fun h => r.get (s.get h), fun b xs q => r.tups b xs (s.tups b xs q), fun b o u q => r.frzs b o u (s.frzs b o u q)⟩
theorem Wk.same {ρ : List Addr} {H : Hp} : Wk ρ H ρ H := ⟨fun h => h, fun _ _ q => q, fun _ _ _ q => q⟩
theorem Wk.set {ρ : List Addr} {H : Hp} {P : Addr} {w : World} {S : Int → Bool} {n : Nat} {o : HO} (e : H P = some (SetO w P S n)) : Wk ρ H ρ (upd H P o) :=
  ⟨fun h => h, fun b xs q => by rw [upd_ne (show b ≠ P from fun z => by rw [z, e] at q; cases q)]; exact q, fun b ob u q => by rw [upd_ne (show b ≠ P from fun z => by rw [z, e] at q; cases q)]; exact q⟩
theorem evl_sc {wi wi1 : TI} {gg gg1 : TG} {tt tt1 : TT} {te : TE} (si : ∀ ρ C H E σ it n C' R, RelF F ρ H C → EnvF F ρ H E σ → src E C = some (it, n, C') → (∀ ρ' H' J, RelF F ρ' H' C' → Stp ρ H ρ' H' → ItOk F ρ' H' it J → R J H') → wi σ H R)
    (si1 : ∀ ρ C H E σ it n C' R, RelF F ρ H C → EnvF F ρ H E σ → src1 E C = some (it, n, C') → (∀ ρ' H' J, RelF F ρ' H' C' → Stp ρ H ρ' H' → ItOk F ρ' H' it J → R J H') → wi1 σ H R)
    (sg : EvG F gg slots g) (st : EvT F tt mt) (sg1 : EvG F gg1 slots1 g1) (st1 : EvT F tt1 mt1) (se : EvE F te me) (vs vs1 : List Nat) (hsl : ∀ i ∈ slots, i ∈ vs) (hsl1 : ∀ i ∈ slots1, i ∈ vs1)
    {ρ : List Addr} {C : Hm} {H : Hp} {E : Ev} {σ : L2.St} {it : Itm} {n0 : Nat} {C1 : Hm} {accF : List Int} {CF : Hm} {Q : VK} (R : RelF F ρ H C) (eo : EnvF F ρ H E σ) (h1 : src E C = some (it, n0, C1))
    (h2 : scOut it g mt src1 g1 mt1 me vs1 (wipeE E vs) (n0 + 1) 0 [] C1 = some (accF, CF))
    (k : ∀ ρ1 Hc P n, RelF F ρ1 Hc CF → Stp ρ H ρ1 Hc → Hc P = some (SetO F.w P (fun j => decide (j ∈ accF)) n) → n ≤ accF.length → Q (.ref P) Hc) : tSc F.w wi gg tt wi1 gg1 tt1 te vs vs1 σ H Q := by
  have sb : (64 : Nat) ≤ scanBound := by decide
  refine si ρ C H E σ it n0 C1 _ R eo h1 fun ρ0 H0 J R0 s0 ok => ?_
  intro P hP
  have outP : ∀ {ρ1 Hc}, Stp ρ0 H0 ρ1 Hc → ∀ {o}, Stp ρ0 H0 ρ1 (upd Hc P o) := fun {ρ1 Hc} s {o} => by
    have ne : ∀ b u, H0 b = some u → b ≠ P := fun b u e z => by rw [z, hP] at e; cases e
    exact ⟨s.pre, fun b u e hb => by rw [upd_ne (ne b u e)]; exact s.keep b u e hb, fun b u e => by rw [upd_ne (ne b u e)]; exact s.there b u e, fun b u e => by rw [upd_ne (ne _ _ e)]; exact s.tups b u e, fun b u w e => by rw [upd_ne (ne _ _ e)]; exact s.frzs b u w e⟩
  have keepP : ∀ {ρa Ha ρb Hb o}, Stp ρa Ha ρb Hb → P ∉ ρa → Ha P = some o → P ∉ ρb ∧ Hb P = some o := fun {ρa Ha ρb Hb o} s hn e => by
    refine ⟨fun z => ?_, s.keep _ _ e hn⟩
    obtain ⟨t, et, ht⟩ := s.pre
    rw [et] at z
    rcases List.mem_append.mp z with z | z
    · exact hn z
    · rw [ht _ z] at e; cases e
  refine ⟨fun i m Hc => ∃ ρ1 Cc acc n, RelF F ρ1 Hc Cc ∧ P ∉ ρ1 ∧ Stp ρ0 H0 ρ1 Hc ∧ Hc P = some (SetO F.w P (fun j => decide (j ∈ acc)) n) ∧ n ≤ acc.length ∧ scOut it g mt src1 g1 mt1 me vs1 (wipeE E vs) m i acc Cc = some (accF, CF),
    ⟨n0 + 1, ρ0, C1, [], 0, R0.fresh hP, R0.out hP, Stp.fresh hP, by rw [upd_same]; simp, Nat.le_refl _, h2⟩, ?_⟩
  rintro i m Hc ⟨ρ1, Cc, acc, n, R1, nP, s1, eP, hn, hf⟩
  cases m with
  | zero => cases hf
  | succ fuel =>
    unfold scOut at hf
    obtain ⟨r, e1, hf⟩ := obind hf
    have oki := ok ρ1 Hc Cc R1 s1.wk i r e1
    cases r with
    | none =>
      cases hf
      exact .inl ⟨oki, k ρ1 Hc P n R1 (s0.trans s1) eP hn⟩
    | some x =>
      refine .inr ⟨oki.1, fun H2 => ∃ ρ2 C2 acc n, RelF F ρ2 H2 C2 ∧ P ∉ ρ2 ∧ Stp ρ0 H0 ρ2 H2 ∧ H2 P = some (SetO F.w P (fun j => decide (j ∈ acc)) n) ∧ n ≤ acc.length ∧ scOut it g mt src1 g1 mt1 me vs1 (wipeE E vs) fuel (i + 1) acc C2 = some (accF, CF), fun H2 z => ⟨fuel, Nat.lt_succ_self _, z⟩, fun v H' hy => ?_⟩
      obtain ⟨R2, s2, dv⟩ := oki.2 v H' hy
      obtain ⟨E2, e2, hf⟩ := obind hf
      obtain ⟨⟨b, C3⟩, e3, hf⟩ := obind hf
      have eo2 : EnvF F ρ1 H' (wipeE E vs) (L2.wipe σ vs) := (eo.wipe vs).mono ((s0.trans s1).trans s2)
      obtain ⟨nP2, eP2⟩ := keepP s2 nP eP
      refine sg ρ1 Cc H' (wipeE E vs) (L2.wipe σ vs) x v E2 _ R2 eo2 dv e2 fun σ3 eo3 w3 => ?_
      refine ⟨by rw [w3 vs hsl, wipe_idem], ?_⟩
      refine st ρ1 Cc H' E2 σ3 b C3 _ R2 eo3 e3 fun ρ3 H3 R3 s3 => ?_
      obtain ⟨nP3, eP3⟩ := keepP s3 nP2 eP2
      cases b with
      | false => exact ⟨ρ3, C3, acc, n, R3, nP3, (s1.trans s2).trans s3, eP3, hn, hf⟩
      | true =>
        obtain ⟨⟨it1, n1, C4⟩, e4, hf⟩ := obind (show (src1 E2 C3).bind _ = some (accF, CF) from hf)
        obtain ⟨⟨acc5, C5⟩, e5, hf⟩ := obind hf
        simp only at e5 hf
        refine si1 ρ3 C3 H3 E2 σ3 it1 n1 C4 _ R3 (eo3.mono s3) e4 fun ρ4 H4 J1 R4 s4 ok1 => ?_
        obtain ⟨nP4, eP4⟩ := keepP s4 nP3 eP3
        refine ⟨fun j m1 Hd => ∃ ρ5 Cd accd nd, RelF F ρ5 Hd Cd ∧ P ∉ ρ5 ∧ Wk ρ4 H4 ρ5 Hd ∧ Stp ρ0 H0 ρ5 Hd ∧ Hd P = some (SetO F.w P (fun j => decide (j ∈ accd)) nd) ∧ nd ≤ accd.length ∧ scIn it1 g1 mt1 me (wipeE E2 vs1) m1 j accd Cd = some (acc5, C5),
          ⟨n1 + 1, ρ4, C4, acc, n, R4, nP4, Wk.same, ((s1.trans s2).trans s3).trans s4, eP4, hn, e5⟩, ?_⟩
        rintro j m1 Hd ⟨ρ5, Cd, accd, nd, R5, nP5, s5, s05, eP5, hnd, hfd⟩
        cases m1 with
        | zero => cases hfd
        | succ fuel1 =>
          unfold scIn at hfd
          obtain ⟨r, e6, hfd⟩ := obind hfd
          have okj := ok1 ρ5 Hd Cd R5 s5 j r e6
          cases r with
          | none =>
            cases hfd
            exact .inl ⟨okj, ρ5, _, _, nd, R5, nP5, s05, eP5, hnd, hf⟩
          | some y =>
            refine .inr ⟨okj.1, fun H2 => ∃ ρ6 C6 acc6 n6, RelF F ρ6 H2 C6 ∧ P ∉ ρ6 ∧ Wk ρ4 H4 ρ6 H2 ∧ Stp ρ0 H0 ρ6 H2 ∧ H2 P = some (SetO F.w P (fun j => decide (j ∈ acc6)) n6) ∧ n6 ≤ acc6.length ∧ scIn it1 g1 mt1 me (wipeE E2 vs1) fuel1 (j + 1) acc6 C6 = some (acc5, C5), fun H2 z => ⟨fuel1, Nat.lt_succ_self _, z⟩, fun v1 Hy hy1 => ?_⟩
            obtain ⟨R6, s6, dv6⟩ := okj.2 v1 Hy hy1
            obtain ⟨E3, e7, hfd⟩ := obind hfd
            obtain ⟨⟨b1, C6⟩, e8, hfd⟩ := obind hfd
            obtain ⟨nP6, eP6⟩ := keepP s6 nP5 eP5
            have eo6 : EnvF F ρ5 Hy (wipeE E2 vs1) (L2.wipe σ3 vs1) := ((eo3.wipe vs1).mono (s3.trans s4)).monoW (s5.tr s6.wk)
            refine sg1 ρ5 Cd Hy (wipeE E2 vs1) (L2.wipe σ3 vs1) y v1 E3 _ R6 eo6 dv6 e7 fun σ7 eo7 w7 => ?_
            refine ⟨by rw [w7 vs1 hsl1, wipe_idem], ?_⟩
            refine st1 ρ5 Cd Hy E3 σ7 b1 C6 _ R6 eo7 e8 fun ρ7 H7 R7 s7 => ?_
            obtain ⟨nP7, eP7⟩ := keepP s7 nP6 eP6
            have s47 := (s5.tr s6.wk).tr s7.wk
            have s07 := (s05.trans s6).trans s7
            cases b1 with
            | false => exact ⟨ρ7, C6, accd, nd, R7, nP7, s47, s07, eP7, hnd, hfd⟩
            | true =>
              obtain ⟨⟨d, C8⟩, e9, hfd⟩ := obind (show (me E3 C6).bind _ = some (acc5, C5) from hfd)
              cases d with
              | int kk =>
                simp only at hfd
                split at hfd
                · rename_i few
                  refine se ρ7 C6 H7 E3 σ7 (.int kk) C8 _ R7 (eo7.mono s7) e9 fun ρ8 H8 v8 R8 s8 d8 => ?_
                  obtain ⟨nP8, eP8⟩ := keepP s8 nP7 eP7
                  cases d8
                  refine ⟨P, kk, _, nd, rfl, rfl, eP8, by omega, ρ8, C8, accd ++ [kk], _, Rel.otherS R8 nP8 eP8, nP8, (s47.tr s8.wk).tr (Wk.set eP8), outP (s07.trans s8), by
                    rw [upd_same]
                    congr 2
                    funext j
                    simp [Bool.decide_or], ?_, hfd⟩
                  rw [List.length_append, List.length_singleton]
                  split <;> omega
                · cases hfd
              | _ => cases hfd
theorem se_srtSc {p pos2 : Pos} (own : List (Str × Nat)) (hm : F.mg "sorted" = none) (hi : SI F t0 i0 src) (ok : BlkOk F.N F.sc scope own) (hg : SG (F.blk scope) t0 slots g) (ht : SPT (F.blk scope) fs0 mt) (hi1 : SI (F.blk scope) t1 i1 src1) (hg1 : SG (F.blk scope) t1 slots1 g1) (ht1 : SPT (F.blk scope) fs1 mt1) (he : SE (F.blk scope) elt me)
    (hsl : ∀ i ∈ slots, i ∈ own.map (·.2) := by decide) (hv : ∀ i ∈ slots1, i ∈ own.map (·.2) := by decide) (hgl : F.sc.names.lookup (Str.ofString "sorted") = some .globalImplicit := by rfl)
    (hs : ∀ (env : Env) x, foldedSetIterable i0 env x = pure x := by intro _ _; rfl) (hs1 : ∀ (env : Env) x, foldedSetIterable i1 env x = pure x := by intro _ _; rfl)
    (h1 : ∀ env : Env, starEach [SC2 elt t0 i0 t1 i1 fs0 fs1 scope pos] env = (false, eval (SC2 elt t0 i0 t1 i1 fs0 fs1 scope pos) env) :: starEach [] env := by intro _; rfl) (hp1 : ∀ env : Env, (backTo pos2 (starEach [] env)).any (·.1) = false := by intro _; rfl)
    (ha1 : ∀ (X : Cx) (te : TE), PE X (SC2 elt t0 i0 t1 i1 fs0 fs1 scope pos) te → PA X [SC2 elt t0 i0 t1 i1 fs0 fs1 scope pos] (tCons te tNil) := by intro X te h; exact pa_cons h pa_nil) :
    SE F (.Call (.Name "sorted" p) [SC2 elt t0 i0 t1 i1 fs0 fs1 scope pos] [] pos2) (mSrtSc src g mt src1 g1 mt1 me (own.map (·.2)) slots1) := by
  obtain ⟨wi, pi, si⟩ := hi
  obtain ⟨gg, pg, sg⟩ := hg
  obtain ⟨tt, pt, st⟩ := ht
  obtain ⟨wi1, pi1, si1⟩ := hi1
  obtain ⟨gg1, pg1, sg1⟩ := hg1
  obtain ⟨tt1, pt1, st1⟩ := ht1
  obtain ⟨te, pe, se⟩ := he
  refine ⟨_, fun X h => pe_callB (show CallR X (.builtin "sorted") (rSortedSet F.w) by rw [← h.w]; exact cr_sortedSet h.calm) (h.gl hgl) (by rw [h.mg]; exact hm) (by decide +kernel)
    (ha1 X _ (show PE X _ (tSc F.w wi gg tt wi1 gg1 tt1 te (own.map (·.2)) slots1) by rw [← h.w]; exact pe_sc2 h.calm h.nd (pi X h) (by rw [h.N, h.sc]; exact ok) hv (fun _ _ _ _ _ => ⟨pg _ h.blk, pt _ h.blk, pi1 _ h.blk, pg1 _ h.blk, pt1 _ h.blk, pe _ h.blk⟩) (hs _) hs1)) (by decide) (by decide) (h1 _) (hp1 _), fun ρ C H E σ d C' Q R eo hm k => ?_⟩
  obtain ⟨⟨it, n0, C1⟩, e1, hm⟩ := obind hm
  obtain ⟨⟨accF, CF⟩, e2, hm⟩ := obind hm
  simp only at e2 hm
  split at hm
  · rename_i few
    cases hm
    show tSc F.w wi gg tt wi1 gg1 tt1 te (own.map (·.2)) slots1 σ H (fun v H1 => rSortedSet F.w [v] H1 Q)
    refine evl_sc si (fun ρ C H E σ it n C' R hR hE hm => si1 ρ C H E σ it n C' R hR hE hm) sg st sg1 st1 se _ _ hsl (fun _ h => h) R eo e1 e2 fun ρ1 Hc P n R1 s1 eP hn => ?_
    refine ⟨P, _, n, rfl, eP, by omega, fun out p up mem len hp => ?_⟩
    have eo : out = dedup (sortI accF) := up_unique up (dedup_up _ (sortI_up _)) fun kk => by
      rw [mem kk, dedup_mem, (sortI_perm accF).mem_iff]
      simp
    subst eo
    exact k _ _ _ (R1.newL hp (DVs.ints _)) (s1.trans (Stp.push hp)) (DV.new R1)
  · cases hm
end
end Mi
set_option Elab.async false
set_option linter.all false
set_option maxRecDepth 100000
set_option maxHeartbeats 4000000
namespace PySem.W
open PySem PySem.Calls PySem.SeqAt PyProof.Rows
/-! ## sorted(a tuple) -/
section
variable {prog : Program} {w : World} {A : Around} {E : Value → Shared → Prop} {s : Shared} {β : Type} {vs : List Value} {bs : List β} {enc : β → PyData} {R : Value → β → Prop}
theorem collect_tup {l : Addr} {vs : List Value} {Q : List Value → Shared → Prop} (hl : s.heap.IsTuple l vs.toArray) (hz : vs.length ≤ sizeLine)
    (h : Q vs { s with heap := (s.heap.push (seqObj "list" #[] 0)).update s.heap.objs.size (Obj.mapSeq (· ++ vs.toArray)) }) : wpAny (model prog w) A (collect (.ref l)) Q E s := by
  obtain ⟨o, ho, hc, n, hd⟩ := id hl
  unfold collect
  refine wpAny_bind (wpAny_runValue (codeAny_builtin entry_proto_collect' ?_))
  show wpAny _ _ (do again (.builtin "list.__iadd__" ⟨[← newList [], .ref l], []⟩)) _ _ s
  refine wpAny_bind (wpAny_newList (wpAny_pure ⟨Code.quiet_builtin _ (by decide +kernel), codeAny_builtin entry_list_iadd' ?_⟩))
  show wpAny _ _ (Builtin.List.listExtendWith (.ref s.heap.objs.size) (.ref l) (.ref s.heap.objs.size)) _ _ { s with heap := s.heap.push (seqObj "list" #[] 0) }
  unfold Builtin.List.listExtendWith
  have old : (s.heap.push (seqObj "list" #[] 0)).get? l = some o := Heap.get?_push_of_some _ ho
  have new : (s.heap.push (seqObj "list" #[] 0)).get? s.heap.objs.size = some (seqObj "list" #[] 0) := Heap.get?_push_size _ rfl
  refine wpAny_bind (wpAny_typeOf (T := "tuple") ⟨o, old, hc⟩ ?_)
  have tt : (Value.type "tuple" == Value.type "tuple") = true := by rfl
  rw [if_pos (by rw [tt]; simp)]
  refine wpAny_bind (listItems_at old hd (wpAny_bind (listItems_at (xs := #[]) (n := 0) new rfl ?_)))
  rw [if_neg (by simp)]
  refine wpAny_bind (listUpdate_at (xs := #[]) (n := 0) new rfl (wpAny_pure ?_) (Nat.zero_le _) (by show (#[] ++ vs.toArray).size ≤ sizeLine + 1; simp only [Array.size_append, List.size_toArray, List.length_nil]; omega))
  show wpAny (model prog w) A (do
      let o ← load s.heap.objs.size
      match o.data with
      | .seq xs _ => pure xs.toList
      | _ => unsupported "internal:collect") Q E { s with heap := (s.heap.push (seqObj "list" #[] 0)).update s.heap.objs.size (Obj.mapSeq (· ++ vs.toArray)) }
  refine wpAny_bind (wpAny_load (get?_update_seq new _) ?_)
  show wpAny _ _ (pure ((#[] : Array Value) ++ vs.toArray).toList) Q E _
  have e : ((#[] : Array Value) ++ vs.toArray).toList = vs := by simp
  rw [e]
  exact wpAny_pure h
theorem sortedT_vals {κ : PyProof.Rows.KeyKind} {l : Addr} {vs : List Value} {Q : Value → Shared → Prop} (hl : s.heap.IsTuple l vs.toArray) (S : SortsAt prog w A.in1.in1 { s with heap := sortingHeap (copyHeap s.heap vs) (s.heap.objs.size + 1) vs } κ vs) (hz : vs.length ≤ sizeLine)
    (h : Q (.ref (s.heap.objs.size + 1)) { s with heap := sortedAll s.heap vs (sortVals κ false vs vs).toArray }) : wpAny (model prog w) A (call (.builtin "sorted") [.ref l]) Q E s := by
  refine call_function_entry_kw kind_sorted plain_sorted entry_sorted (args_sorted1 _) ?_
  unfold Builtin.«sorted»
  refine wpAny_bind (m := checkCount "sorted" 1 1 _) (wpAny_pure ?_)
  refine wpAny_bind (collect_tup hl hz (wpAny_bind (wpAny_newList ?_ hz)))
  have sz : ((s.heap.push (seqObj "list" #[] 0)).update s.heap.objs.size (Obj.mapSeq (· ++ vs.toArray))).objs.size = s.heap.objs.size + 1 := by rw [Heap.size_update, size_push']
  show wpAny _ _ _ _ _ { s with heap := copyHeap s.heap vs }
  rw [sz]
  refine wpAny_bind (wpAny_holding (wpAny_call_entry_kw slot_list_sort ⟨_, copyHeap_at s.heap vs, rfl⟩ entry_list_sort ?_ (args_list_sort _)))
  show wpAny (model prog w) A.in1.in1 (Builtin.«list.sort» ⟨[.ref (s.heap.objs.size + 1)], []⟩) _ _ _
  exact list_sort_vals (s := { s with heap := copyHeap s.heap vs }) (copyHeap_at s.heap vs) S hz ⟨_, rfl, wpAny_pure ⟨_, rfl, h⟩⟩
theorem sortedT_data {l : Addr} {Q : Value → Shared → Prop} (hl : s.heap.IsTuple l vs.toArray) (e : EachIs R vs bs) (er : EachIs (fun v b => ∃ as, Reads s.heap v (enc b) as) vs bs) (hal : AllAlike (bs.map enc)) (hk : Sortable (bs.map enc)) (hL : bs.length ≤ sizeLine)
    (room : ∀ b, b ∈ bs → A.units + 2 + (enc b).depth < cLine) (h : ∀ out, out.length = bs.length → EachIs R out (bs.mergeSort (dataLe false enc)) → Q (.ref (s.heap.objs.size + 1)) { s with heap := sortedAll s.heap vs (List.toArray out) }) :
    wpAny (model prog w) A (call (.builtin "sorted") [.ref l]) Q E s := by
  have up : EachIs (fun v b => ∃ as, Reads (sortingHeap (copyHeap s.heap vs) (s.heap.objs.size + 1) vs) v (enc b) as) vs bs := er.mono fun _ _ z => let ⟨as, r⟩ := z; ⟨as, PyProof.Rows.Reads.keeps (fun _ _ => sorting_copy_old) r⟩
  refine sortedT_vals hl (SortsAt.data (s := { s with heap := sortingHeap (copyHeap s.heap vs) (s.heap.objs.size + 1) vs }) (each_map (R := fun v d => ∃ as, Reads (sortingHeap (copyHeap s.heap vs) (s.heap.objs.size + 1) vs) v d as) enc up) hal hk (bound_map room)) (by rw [e.length]; exact hL) ?_
  exact h _ (by rw [sortVals_length false rfl]; exact e.length) (sortVals_data false e up hal)
end
end PySem.W
namespace Mi
open PySem PySem.Spec PyProof.Rows L2
/-! ## sorted(..) of data, of a tuple and of a list whose first item is () -/
def rSrtT (K : PySem.W.Frag) : List V → Hp → VK → Prop := fun vs H Q => ∃ (a : Addr) (ps : List (V × PyData)), vs = [V.ref a] ∧ SqT K H a (ps.map (·.1)) ∧ (∀ p ∈ ps, Dp K H p.1 p.2) ∧ PySem.W.AllAlike (ps.map (·.2)) ∧ PySem.W.Sortable (ps.map (·.2)) ∧ (∀ p ∈ ps, p.2.depth ≤ 60) ∧ ps.length ≤ sizeLine ∧
  ∀ l, H l = none → Q (.ref l) (upd H l (.lst ((ps.mergeSort (PySem.W.dataLe false (·.2))).map (·.1))))
def rSrtE (K : PySem.W.Frag) : List V → Hp → VK → Prop := fun vs H Q => ∃ (a : Addr) (ps : List (V × PyData)), vs = [V.ref a] ∧ SqL K H a (ps.map (·.1)) ∧ (∀ p ∈ ps, Dp K H p.1 p.2) ∧ PySem.W.AllAlike (ps.map (·.2)) ∧ PySem.W.EmptyFirst (ps.map (·.2)) ∧ (∀ p ∈ ps, p.2.depth ≤ 60) ∧
  ∀ l, H l = none → Q (.ref l) (upd H l (.lst ((ps.mergeSort (PySem.W.dataLe false (·.2))).map (·.1))))
theorem srt_fin {X : Cx} {pins : List (Addr × Obj)} {s : Shared} {σ : L2.St} {H : Hp} {ps : List (V × PyData)} {its : List Value} {Q : VK} {out : List Value} (I : Inv X pins σ H s) (hz : ps.length ≤ sizeLine) (he : PySem.W.EachIs (fun v (p : V × PyData) => RelV p.1 v) out (ps.mergeSort (PySem.W.dataLe false (·.2))))
    (q : ∀ l, H l = none → Q (.ref l) (upd H l (.lst ((ps.mergeSort (PySem.W.dataLe false (·.2))).map (·.1))))) : EP X pins σ Q (.ref (s.heap.objs.size + 1)) { s with heap := sortedAll s.heap its (List.toArray out) } := by
  obtain ⟨ep, at_⟩ := PyProof.Rows.sortedAll_at s.heap its out.toArray
  have len : ((ps.mergeSort (PySem.W.dataLe false (·.2))).map (·.1)).length ≤ sizeLine := by rw [List.length_map, List.length_mergeSort]; exact hz
  exact ⟨.ref _, _, I.laid (t' := s.toks) (o := .lst ((ps.mergeSort (PySem.W.dataLe false (·.2))).map (·.1))) (fun _ _ => PyProof.Rows.sortedAll_old) (Nat.le_succ _) ⟨len, out, ep, vals_each he, at_⟩, rfl, q _ (I.hok.fresh (Nat.le_succ _))⟩
theorem cr_srtT {X : Cx} (hu : X.A.units + 64 < cLine) : CallR X (.builtin "sorted") (rSrtT X.K) := by
  intro pins s σ H vs us Q I r h
  obtain ⟨a, ps, rfl, hs, hd, al, so, dp, sz, q⟩ := h
  obtain ⟨its, rv, hl, hz⟩ := I.tuple hs
  rw [Vals.ref1 r]
  exact PySem.W.sortedT_data (R := fun v (p : V × PyData) => RelV p.1 v) (enc := (·.2)) (bs := ps) hl (each_vals rv) (each_reads I rv hd) al so sz (fun b hb => by have := dp b hb; omega) fun out ho he => srt_fin I sz he q
theorem cr_srtE {X : Cx} (hu : X.A.units + 64 < cLine) : CallR X (.builtin "sorted") (rSrtE X.K) := by
  intro pins s σ H vs us Q I r h
  obtain ⟨a, ps, rfl, hs, hd, al, so, dp, q⟩ := h
  obtain ⟨its, rv, hl, hz⟩ := I.list hs
  rw [Vals.ref1 r]
  rw [List.length_map] at hz
  exact PySem.W.sorted_empties (R := fun v (p : V × PyData) => RelV p.1 v) (enc := (·.2)) (bs := ps) hl.isList (each_vals rv) (each_reads I rv hd) al so hz (fun b hb => by have := dp b hb; omega) fun out ho he => srt_fin I hz he q
end Mi
set_option Elab.async false
set_option linter.all false
set_option maxRecDepth 100000
set_option maxHeartbeats 4000000
namespace Mi
open PySem PySem.Spec PyProof.Rows L2
def isTupD (C : Hm) (d : D) : Bool := match py C 70 d with
  | some (.tuple xs) => decide ((PyData.tuple xs).depth ≤ 60)
  | _ => false
def headE : List D → Bool
  | .tup [] :: _ => true
  | _ => false
def srtEOk (C : Hm) (ds : List D) : Bool := headE ds && (ds.all (isTupD C) && ds.all fun d => ds.all fun e => PySem.W.alike (encD C d) (encD C e))
def srtD (C : Hm) (ds : List D) : List D := ds.mergeSort (PySem.W.dataLe false (encD C))
def sortedEX : ODL := fun xs C => match xs with
  | [.tup ds] => if srtOk C ds = true ∧ ds.length ≤ sizeLine then some (.cell C.length, C ++ [.lst (srtD C ds)]) else none
  | [x] => (match sortedDX [x] C with
    | some r => some r
    | none => match lstOf C x with
      | some ds => if srtEOk C ds = true then some (.cell C.length, C ++ [.lst (srtD C ds)]) else none
      | _ => none)
  | _ => none
theorem isTupD_at {C : Hm} {d : D} (h : isTupD C d = true) : ∃ xs, encD C d = .tuple xs ∧ py C 70 d = some (encD C d) ∧ (encD C d).depth ≤ 60 := by
  unfold isTupD at h
  split at h
  · rename_i xs e
    have e' : encD C d = .tuple xs := by unfold encD; rw [e]; rfl
    exact ⟨xs, e', by rw [e', e], by rw [e']; exact of_decide_eq_true h⟩
  · cases h
theorem isPairD_enc {C : Hm} {d : D} (h : isPairD C d = true) : ∃ x r, encD C d = .tuple (x :: r) ∧ py C 70 d = some (encD C d) ∧ (encD C d).depth ≤ 60 := by
  obtain ⟨x, r, e, dpt⟩ := isPairD_at h
  have e' : encD C d = .tuple (x :: r) := by unfold encD; rw [e]; rfl
  exact ⟨x, r, e', by rw [e', e], by rw [e']; exact dpt⟩
section
variable {F : Fm}
/-- the values beside their data, sorted -/
theorem sort_ps {ρ : List Addr} {H : Hp} {C : Hm} {ds : List D} {vs : List V} (R : RelF F ρ H C) (e4 : DVsF F ρ H ds vs) (ok : ∀ d ∈ ds, py C 70 d = some (encD C d) ∧ (encD C d).depth ≤ 60) : ∃ ps : List (V × PyData), ps.map (·.1) = vs ∧ ps.map (·.2) = ds.map (encD C) ∧ (∀ p ∈ ps, Dp F.K H p.1 p.2 ∧ p.2.depth ≤ 60) ∧ ps.length = ds.length ∧
    DVsF F ρ H (srtD C ds) ((ps.mergeSort (PySem.W.dataLe false (·.2))).map (·.1)) := by
  obtain ⟨z1, z2, z3⟩ := dvs_zip e4
  have mem : ∀ t ∈ ds.zip vs, t.1 ∈ ds := fun t ht => by rw [← z1]; exact List.mem_map.mpr ⟨t, ht, rfl⟩
  have pe : ((ds.zip vs).map fun t => (t.2, encD C t.1)).map (·.2) = ds.map (encD C) := by
    have : ds.map (encD C) = ((ds.zip vs).map (·.1)).map (encD C) := by rw [z1]
    rw [this, List.map_map, List.map_map]; rfl
  refine ⟨(ds.zip vs).map fun t => (t.2, encD C t.1), by rw [List.map_map]; exact z2, pe, fun p hp => ?_, ?_, ?_⟩
  · obtain ⟨t, ht, rfl⟩ := List.mem_map.mp hp
    have := ok t.1 (mem t ht)
    exact ⟨py_ok R _ (z3 t ht) this.1, this.2⟩
  · have := congrArg List.length pe
    simpa using this
  · have s1 := List.map_mergeSort (r := fun (a b : D × V) => PySem.W.dataLe false (encD C) a.1 b.1) (s := PySem.W.dataLe false (encD C)) (f := (·.1)) (l := ds.zip vs) fun _ _ _ _ => rfl
    have s2 := List.map_mergeSort (r := fun (a b : D × V) => PySem.W.dataLe false (encD C) a.1 b.1) (s := PySem.W.dataLe false (fun p : V × PyData => p.2)) (f := fun t : D × V => (t.2, encD C t.1)) (l := ds.zip vs) fun _ _ _ _ => rfl
    rw [z1] at s1
    rw [← s2, List.map_map]
    unfold srtD
    rw [← s1]
    exact dvs_of fun t ht => z3 t (List.mem_mergeSort.mp ht)
theorem sc_sortedE : SCall F (.builtin "sorted") sortedEX := by
  obtain ⟨r0, h0, s0⟩ := sc_sortedX (F := F)
  refine ⟨_, fun X h => (h0 X h).or ((show CallR X (.builtin "sorted") (rSrtT F.K) by rw [← h.K]; exact cr_srtT (Room.u64b h.rm)).or (show CallR X (.builtin "sorted") (rSrtE F.K) by rw [← h.K]; exact cr_srtE (Room.u64b h.rm))), fun ρ C H xs vs d C' Q R hx hm k => ?_⟩
  unfold sortedEX at hm
  split at hm
  · rename_i ds
    split at hm
    · rename_i hok
      cases hm
      obtain ⟨hok, sz⟩ := hok
      unfold srtOk at hok
      rw [Bool.and_eq_true, List.all_eq_true, List.all_eq_true] at hok
      cases hx with | cons h1 h2 =>
        cases h2
        cases h1 with | tup hs hd =>
          obtain ⟨ps, p1, p2, p3, p4, p5⟩ := sort_ps R hd fun d hd => let ⟨_, _, _, e, f⟩ := isPairD_enc (hok.1 d hd); ⟨e, f⟩
          refine .inr (.inl ⟨_, ps, rfl, by rw [p1]; exact hs, fun t ht => (p3 t ht).1, ?_, ?_, fun t ht => (p3 t ht).2, by rw [p4]; exact sz, fun l hl => ?_⟩)
          · rw [p2]
            intro a ha b hb
            obtain ⟨d1, h1, rfl⟩ := List.mem_map.mp ha
            obtain ⟨d2, h2, rfl⟩ := List.mem_map.mp hb
            exact List.all_eq_true.mp (hok.2 d1 h1) d2 h2
          · rw [p2]
            refine .inl fun a ha => ?_
            obtain ⟨d1, h1, rfl⟩ := List.mem_map.mp ha
            obtain ⟨x, r, e, _⟩ := isPairD_enc (hok.1 d1 h1)
            exact ⟨x, r, e⟩
          · exact k _ _ _ (R.newL hl p5) (Stp.push hl) (DV.new R)
    · cases hm
  · rename_i n
    split at hm
    · rename_i r hr
      cases hm
      exact .inl (s0 ρ C H _ vs d C' Q R hx hr k)
    · split at hm
      · rename_i ds qc
        split at hm
        · rename_i hok
          cases hm
          unfold srtEOk at hok
          rw [Bool.and_eq_true, Bool.and_eq_true, List.all_eq_true, List.all_eq_true] at hok
          obtain ⟨hh, hok⟩ := hok
          cases hx with | cons h1 h2 =>
            cases h2
            obtain ⟨p, us, rfl, e3, e4⟩ := lstOf_ok R h1 qc
            obtain ⟨ps, p1, p2, p3, p4, p5⟩ := sort_ps R e4 fun d hd => let ⟨_, _, e, f⟩ := isTupD_at (hok.1 d hd); ⟨e, f⟩
            refine .inr (.inr ⟨p, ps, rfl, by rw [p1]; exact .inl e3, fun t ht => (p3 t ht).1, ?_, ?_, fun t ht => (p3 t ht).2, fun l hl => ?_⟩)
            · rw [p2]
              intro a ha b hb
              obtain ⟨d1, h1, rfl⟩ := List.mem_map.mp ha
              obtain ⟨d2, h2, rfl⟩ := List.mem_map.mp hb
              exact List.all_eq_true.mp (hok.2 d1 h1) d2 h2
            · rw [p2]
              refine ⟨?_, fun a ha => ?_⟩
              · unfold headE at hh
                split at hh
                · rename_i r
                  exact ⟨r.map (encD C), rfl⟩
                · cases hh
              · obtain ⟨d1, h1, rfl⟩ := List.mem_map.mp ha
                obtain ⟨xs, e, _⟩ := isTupD_at (hok.1 d1 h1)
                exact ⟨xs, e⟩
            · exact k _ _ _ (R.newL hl p5) (Stp.push hl) (DV.new R)
        · cases hm
      · cases hm
  · cases hm
end
end Mi
set_option Elab.async false
set_option linter.all false
set_option maxRecDepth 100000
set_option maxHeartbeats 400000
namespace Mi
open PySem PySem.Spec PyProof.Rows L2
/-! ## sorted(a list of tuples, key=len) -/
def rSrtL (K : PySem.W.Frag) : V → Hp → VK → Prop := fun v H Q => ∃ (a : Addr) (ps : List (V × List V)), v = V.ref a ∧ SqL K H a (ps.map (·.1)) ∧ (∀ p ∈ ps, ∃ t, p.1 = V.ref t ∧ SqT K H t p.2) ∧
  ∀ l, H l = none → Q (.ref l) (upd H l (.lst ((ps.mergeSort fun x y => decide ((x.2.length : Int) ≤ y.2.length)).map (·.1))))
theorem each_rel {ps : List (V × List V)} : ∀ {us : List Value}, Vals (ps.map (·.1)) us → PySem.W.EachIs (fun v (p : V × List V) => RelV p.1 v) us ps := by
  induction ps with
  | nil => intro us h; cases h; exact .nil
  | cons p ps ih =>
    intro us h
    cases h with
    | cons h t => exact .cons h (ih t)
theorem rel_each : ∀ {ps : List (V × List V)} {us : List Value}, PySem.W.EachIs (fun v (p : V × List V) => RelV p.1 v) us ps → Vals (ps.map (·.1)) us
  | _, _, .nil => .nil
  | _, _, .cons h t => .cons h (rel_each t)
theorem call_srtLen {X : Cx} (hu : X.A.units + 64 < cLine) {pins : List (Addr × Obj)} {s : Shared} {σ : L2.St} {H : Hp} {v : V} {u : Value} {Q : VK} (I : Inv X pins σ H s) (r : RelV v u) (h : rSrtL X.K v H Q) :
    wpAny (model X.prog X.w) X.A (call (.builtin "sorted") [u] [(Str.ofString "key", .builtin "len")]) (EP X pins σ Q) X.xe s := by
  obtain ⟨a, ps, rfl, hs, ht, q⟩ := h
  obtain rfl : u = Value.ref a := r
  obtain ⟨its, rv, hl, hz⟩ := I.list hs
  rw [List.length_map] at hz
  have hl63 := line63
  refine PySem.W.sorted_key_data (R := fun v (p : V × List V) => RelV p.1 v) (bs := ps) (fun p => .int (p.2.length : Int)) hl.isList (each_rel rv) ?_ (.inr fun d hd => ?_) hz (fun p _ => by simp only [PyData.depth]; omega) (PyProof.Rows.ksk_s1 _ _) (fun _ => PyProof.Rows.ksk_l1 _ _) (fun _ => PyProof.Rows.ksk_t4 _ _) (fun w p hw hp h tk keep => ?_) fun out c h' tk keep fresh at_ len each => ?_
  · intro d hd d' hd'
    obtain ⟨_, _, rfl⟩ := List.mem_map.mp hd
    obtain ⟨_, _, rfl⟩ := List.mem_map.mp hd'
    rfl
  · obtain ⟨_, _, rfl⟩ := List.mem_map.mp hd
    exact ⟨fun z => (by cases z), fun _ z => (by cases z)⟩
  · obtain ⟨t, e, q2⟩ := ht p hp
    rw [e] at hw
    obtain rfl : w = Value.ref t := hw
    obtain ⟨its2, rv2, pl, hz2⟩ := I.tuple q2
    have hlen := rv2.length
    obtain ⟨o, g1, g2, n, g3⟩ := id pl
    refine len_tuple (s := { s with heap := h, toks := tk }) (items := its2.toArray) ⟨o, keep _ _ g1, g2, n, g3⟩ (by simp only [List.size_toArray]; omega) ⟨h, tk + 1 + 1, rfl, fun b o e => e, ?_⟩
    rw [show ((its2.toArray.size : Nat) : Int) = (p.2.length : Int) by rw [List.size_toArray, hlen]]
    exact .int _ _
  · rw [PySem.W.dataLe_int] at each
    have hm : ((ps.mergeSort fun x y => decide ((x.2.length : Int) ≤ y.2.length)).map (·.1)).length ≤ sizeLine := by rw [List.length_map, List.length_mergeSort]; exact hz
    exact ⟨.ref _, _, I.laid (t' := tk) (o := .lst ((ps.mergeSort fun x y => decide ((x.2.length : Int) ≤ y.2.length)).map (·.1))) keep (Nat.le_succ _) ⟨hm, out, c, rel_each each, by simpa using at_⟩, rfl, q _ (I.hok.fresh (Nat.le_succ _))⟩
abbrev kwLen (p kp : Pos) : List Keyword := [⟨some "key", .Name "len" p, kp⟩]
theorem pe_srtLen {X : Cx} (hu : X.A.units + 64 < cLine) {e : Expr} {te : TE} {p p2 kp pos : Pos} (ha : PA X [e] (tCons te tNil)) (hg : Gl X "sorted") (hm : X.mg "sorted" = none) (hg2 : Gl X "len") (hm2 : X.mg "len" = none)
    (he : backTo pos (starEach [e] X.env) = (false, eval e X.env) :: backTo pos (starEach [] X.env)) (hpl : (backTo pos (starEach [e] X.env)).any (·.1) = false) :
    PE X (.Call (.Name "sorted" p) [e] (kwLen p2 kp) pos) (fun σ H Q => te σ H fun v H1 => rSrtL X.K v H1 Q) := by
  refine ⟨fun pins s σ H Q I h => ?_⟩
  refine wpAny_Call_Name_kw (ld_blt I hg hm (show bootBuiltins "sorted" = some (.builtin "sorted") by decide +kernel) ?_)
  refine PyProof.Rows.callWith_kw (thn (ha.run pos pins s σ H (fun vs H1 => ∃ v, vs = [v] ∧ rSrtL X.K v H1 Q) I ?_) fun us s1 hq => ?_) he hpl
  · show te σ H _
    exact (h : te σ H fun v H1 => rSrtL X.K v H1 Q) |> fun z => by
      have : (fun v H1 => rSrtL X.K v H1 Q) = fun v H1 => tNil σ H1 fun vs H2 => ∃ v', v :: vs = [v'] ∧ rSrtL X.K v' H2 Q := by
        funext v H1
        apply propext
        constructor
        · intro z; exact ⟨v, rfl, z⟩
        · rintro ⟨v', e, z⟩
          cases e; exact z
      rw [← this]; exact z
  · obtain ⟨vs, H1, I1, r1, v, rfl, q1⟩ := hq
    obtain ⟨u, rfl, ru⟩ := vals1 r1
    show wpAny _ _ (evalAll [do let v ← eval (.Name "len" p2) X.env; standAt pos; pure v]) _ _ s1
    refine wpAny_evalAll_cons (wpAny_bind (ld_blt I1 hg2 hm2 (show bootBuiltins "len" = some (.builtin "len") by decide +kernel) (wpAny_bind (wpAny_standAt (wpAny_pure (wpAny_evalAll_nil ?_))))))
    exact call_srtLen hu I1 ru q1
end Mi
set_option Elab.async false
set_option linter.all false
set_option maxRecDepth 100000
set_option maxHeartbeats 800000
namespace Mi
open PySem PySem.Spec PyProof.Rows L2
def tupOf : D → Option (List D)
  | .tup l => some l
  | _ => none
def lenT : D → Int
  | .tup l => l.length
  | _ => 0
def srtLen (ds : List D) : List D := ds.mergeSort fun x y => decide (lenT x ≤ lenT y)
def mSrtLen (me : ME) : ME := fun E C => (me E C).bind fun p => (lstOf p.2 p.1).bind fun ds => if ds.all (fun d => (tupOf d).isSome) = true then some (.cell p.2.length, p.2 ++ [.lst (srtLen ds)]) else none
section
variable {F : Fm} {e : Expr} {me : ME} {p p2 kp pos : Pos}
theorem tups_ps {ρ : List Addr} {H : Hp} : ∀ {ds : List D} {vs : List V}, DVsF F ρ H ds vs → (∀ d ∈ ds, (tupOf d).isSome = true) → ∃ ts : List (D × V × List V), ts.map (·.1) = ds ∧ ts.map (·.2.1) = vs ∧ ∀ t ∈ ts, DVF F ρ H t.1 t.2.1 ∧ (∃ a, t.2.1 = V.ref a ∧ SqT F.K H a t.2.2) ∧ lenT t.1 = (t.2.2.length : Int)
  | _, _, .nil, _ => ⟨[], rfl, rfl, fun _ h => by cases h⟩
  | d :: ds, v :: vs, .cons h t, ok => by
    obtain ⟨ts, e1, e2, e3⟩ := tups_ps t fun x hx => ok x (by simp [hx])
    have hd := ok d (by simp)
    cases d with
    | tup l =>
      cases h with | @tup _ a ws hs hr =>
        refine ⟨(.tup l, .ref a, ws) :: ts, by simp [e1], by simp [e2], fun x hx => ?_⟩
        rcases List.mem_cons.mp hx with rfl | hx
        · exact ⟨.tup hs hr, ⟨a, rfl, hs⟩, by show (l.length : Int) = _; rw [DVs.length hr]⟩
        · exact e3 x hx
    | _ => cases hd
theorem se_srtLen (hm : F.mg "sorted" = none) (hm2 : F.mg "len" = none) (he : SE F e me) (hg : F.sc.names.lookup (Str.ofString "sorted") = some .globalImplicit := by rfl) (hg2 : F.sc.names.lookup (Str.ofString "len") = some .globalImplicit := by rfl)
    (h1 : ∀ env : Env, backTo pos (starEach [e] env) = (false, eval e env) :: backTo pos (starEach [] env) := by intro _; rfl) (hp1 : ∀ env : Env, (backTo pos (starEach [e] env)).any (·.1) = false := by intro _; rfl)
    (ha1 : ∀ (X : Cx) (te : TE), PE X e te → PA X [e] (tCons te tNil) := by intro X te h; exact pa_cons h pa_nil) : SE F (.Call (.Name "sorted" p) [e] (kwLen p2 kp) pos) (mSrtLen me) := by
  obtain ⟨t, pt, st⟩ := he
  refine ⟨fun σ H Q => t σ H fun v H1 => rSrtL F.K v H1 Q, fun X h => (by
    have z := pe_srtLen (p := p) (p2 := p2) (kp := kp) (pos := pos) (Room.u64b h.rm) (ha1 X t (pt X h)) (h.gl hg) (by rw [h.mg]; exact hm) (h.gl hg2) (by rw [h.mg]; exact hm2) (h1 _) (hp1 _)
    rw [h.K] at z
    exact z), fun ρ C H E σ d C' Q R eo hm k => ?_⟩
  obtain ⟨⟨x, C1⟩, e1, hm⟩ := obind hm
  obtain ⟨ds, qc, hm⟩ := obind hm
  · · split at hm
      · rename_i ok
        cases hm
        refine st ρ C H E σ _ C1 _ R eo e1 fun ρ1 H1 v1 R1 s1 d1 => ?_
        obtain ⟨a, vs, rfl, e3, e4⟩ := lstOf_ok R1 d1 qc
        obtain ⟨ts, t1, t2, t3⟩ := tups_ps e4 (List.all_eq_true.mp ok)
        have hps : (ts.map (·.2)).map (·.1) = vs := by rw [List.map_map]; exact t2
        refine ⟨a, ts.map (·.2), rfl, by rw [hps]; exact .inl e3, fun q hq => ?_, fun l hl => ?_⟩
        · obtain ⟨t, ht, rfl⟩ := List.mem_map.mp hq
          exact (t3 t ht).2.1
        · have m1 := List.map_mergeSort (r := fun (x y : D × V × List V) => decide ((x.2.2.length : Int) ≤ y.2.2.length)) (s := fun x y => decide (lenT x ≤ lenT y)) (f := (·.1)) (l := ts) fun x hx y hy => by rw [(t3 x hx).2.2, (t3 y hy).2.2]
          have m2 := List.map_mergeSort (r := fun (x y : D × V × List V) => decide ((x.2.2.length : Int) ≤ y.2.2.length)) (s := fun (x y : V × List V) => decide ((x.2.length : Int) ≤ y.2.length)) (f := (·.2)) (l := ts) fun _ _ _ _ => rfl
          rw [t1] at m1
          rw [← m2, List.map_map]
          have dts : DVsF F ρ1 H1 (srtLen ds) ((ts.mergeSort fun (x y : D × V × List V) => decide ((x.2.2.length : Int) ≤ y.2.2.length)).map ((fun q : V × List V => q.1) ∘ fun t : D × V × List V => t.2)) := by
            unfold srtLen
            rw [← m1]
            have key : ∀ us : List (D × V × List V), (∀ t ∈ us, DVF F ρ1 H1 t.1 t.2.1) → DVsF F ρ1 H1 (us.map (·.1)) (us.map ((fun q : V × List V => q.1) ∘ fun t : D × V × List V => t.2)) := by
              intro us
              induction us with
              | nil => intro _; exact .nil
              | cons u us ih => intro h; exact .cons (h u (by simp)) (ih fun t ht => h t (by simp [ht]))
            exact key _ fun t ht => (t3 t (List.mem_mergeSort.mp ht)).1
          exact k _ _ _ (R1.newL hl dts) (s1.trans (Stp.push hl)) (DV.new R1)
      · cases hm
end
/-! ## what is never reached -/
section
variable {F : Fm}
def mStop : MS := fun _ _ => none
theorem ss_stop (st : Stmt) (h : ∀ X, F.Is X → PS X st fun _ _ _ => False) : SS F st mStop := ⟨_, h, fun ρ C H E σ o Z R eo hm k => by cases hm⟩
theorem ss_raise {e : Option Expr} {c : Option Expr} {pos : Pos} : SS F (.Raise e c pos) mStop := ss_stop _ fun X _ => ⟨fun pins s σ H D I h => h.elim⟩
end
end Mi
set_option Elab.async false
set_option linter.all false
set_option maxRecDepth 100000
set_option maxHeartbeats 800000
namespace Mi
open PySem PySem.Spec PyProof.Rows L2
/-! ## one truth value is another -/
theorem op_isB {X : Cx} : OpR X (compareOp .Is) (fun x y H Q => ∃ a b, x = .bl a ∧ y = .bl b ∧ Q (.bl (decide (a = b))) H) := by
  intro pins s σ H x y v u Q I rx ry h
  obtain ⟨a, b, rfl, rfl, q⟩ := h
  cases rx; cases ry
  by_cases e : a = b
  · subst e; exact wpAny_is_self rfl ⟨.bl true, H, I, rfl, by simpa using q⟩
  · exact wpAny_is_other rfl (fun z => e (by cases z; rfl)) ⟨.bl false, H, I, rfl, by simpa [e] using q⟩
theorem op_isnotB {X : Cx} : OpR X (compareOp .IsNot) (fun x y H Q => ∃ a b, x = .bl a ∧ y = .bl b ∧ Q (.bl (!decide (a = b))) H) := by
  intro pins s σ H x y v u Q I rx ry h
  obtain ⟨a, b, rfl, rfl, q⟩ := h
  cases rx; cases ry
  by_cases e : a = b
  · subst e; exact wpAny_isNot_self rfl ⟨.bl false, H, I, rfl, by simpa using q⟩
  · exact wpAny_isNot_other rfl (fun z => e (by cases z; rfl)) ⟨.bl true, H, I, rfl, by simpa [e] using q⟩
def isDX (neg : Bool) : OD2 := fun x y C => match x, y with
  | .bl a, .bl b => some (.bl (if neg = true then !decide (a = b) else decide (a = b)), C)
  | x, y => isD neg x y C
section
variable {F : Fm}
theorem isDX_ok {op : CmpOp} {neg : Bool} (h0 : SOp F (compareOp op) (isD neg)) (hb : ∀ X : Cx, OpR X (compareOp op) (fun x y H Q => ∃ a b, x = .bl a ∧ y = .bl b ∧ Q (.bl (if neg = true then !decide (a = b) else decide (a = b))) H)) : SOp F (compareOp op) (isDX neg) := by
  obtain ⟨r, hr, s⟩ := h0
  refine ⟨_, fun X h => (hr X h).or (hb X), fun ρ C H x y vx vy d C' Q R hx hy hm k => ?_⟩
  unfold isDX at hm
  split at hm
  · cases hm; cases hx; cases hy
    exact .inr ⟨_, _, rfl, rfl, k.now R (.bl _)⟩
  · exact .inl (s ρ C H _ _ vx vy d C' Q R hx hy hm k)
theorem so_isX : SOp F (compareOp .Is) (isDX false) := isDX_ok so_is fun X => op_isB
theorem so_isnotX : SOp F (compareOp .IsNot) (isDX true) := isDX_ok so_isnot fun X => op_isnotB
end
/-! ## enumerate(a list) -/
def mIEnumX (ml : MA) : MI := fun E C => (ml E C).bind fun p => match p.1 with
  | [.tup ds] => some (.seq (enD 0 ds), ds.length, p.2)
  | [.rol ds] => some (.seq (enD 0 ds), ds.length, p.2)
  | [.cell n] => (match p.2[n]? with | some (.lst ds) => some (.enl n, ds.length, p.2) | _ => none)
  | _ => none
section
variable {F : Fm} {e : Expr} {ml : MA} {elts : List Expr} {kk : Nat} {tpos p pos : Pos}
theorem itOk_enl {ρ : List Addr} {H : Hp} {n : Nat} {a : Addr} (ha : ρ[n]? = some a) : ItOk F ρ H (.enl n) (Ite F.K a) := by
  intro ρ2 H2 C2 R2 s2 i r hr
  simp only [Itm.at] at hr
  split at hr
  · rename_i ds2 qc2
    cases hr
    obtain ⟨a2, vs2, e5, ea2, e6, e7⟩ := R2.lst qc2 (.cell (s2.get ha))
    cases e5
    cases qq : ds2[i]? with
    | none => exact ⟨vs2, SqL.of e6, by rw [← e7.length]; exact List.getElem?_eq_none_iff.mp qq⟩
    | some x =>
      obtain ⟨v, e8, e9⟩ := e7.get qq
      refine ⟨⟨vs2, v, SqL.of e6, e8⟩, fun w H' hy => ?_⟩
      obtain ⟨T, y, rfl, hT, rfl, hy⟩ := hy
      have := hy vs2 (SqL.of e6)
      rw [e8] at this
      cases this
      exact ⟨R2.fresh hT, Stp.fresh hT, .tup (SqT.of upd_same) (.cons (.int _) (.cons (e9.mono (Stp.fresh hT)) .nil))⟩
  · cases hr
theorem itOk_enr {ρ : List Addr} {H : Hp} {ds : List D} {vs : List V} {a : Addr} {o : Obj} (h : H a = some (.frz o (.lst vs))) (hd : DVsF F ρ H ds vs) : ItOk F ρ H (.seq (enD 0 ds)) (Ite F.K a) := by
  intro ρ2 H2 C2 R2 s2 i r hr
  simp only [Itm.at, Option.some.injEq] at hr
  have h2 : SqL F.K H2 a vs := .inl (.inr ⟨_, s2.frzs _ _ _ h⟩)
  have e7 := DVs.monoW s2 hd
  subst hr
  rw [enD_at]
  cases qq : ds[i]? with
  | none => exact ⟨vs, h2, by rw [← e7.length]; exact List.getElem?_eq_none_iff.mp qq⟩
  | some x =>
    obtain ⟨v, e8, e9⟩ := e7.get qq
    refine ⟨⟨vs, v, h2, e8⟩, fun w H' hy => ?_⟩
    obtain ⟨T, y, rfl, hT, rfl, hy⟩ := hy
    have := hy vs h2
    rw [e8] at this
    cases this
    rw [Int.zero_add]
    exact ⟨R2.fresh hT, Stp.fresh hT, .tup (SqT.of upd_same) (.cons (.int _) (.cons (e9.mono (Stp.fresh hT)) .nil))⟩
theorem si_enumX (hm : F.mg "enumerate" = none) (ha : SA F [e] ml) (hg : F.sc.names.lookup (Str.ofString "enumerate") = some .globalImplicit := by rfl) (hs : ∀ env : Env, starEach [e] env = [(false, eval e env)] := by intro _; rfl) : SI F (.Tuple elts kk tpos) (.Call (.Name "enumerate" p) [e] [] pos) (mIEnumX ml) := by
  obtain ⟨t, q, s⟩ := ha
  refine ⟨fun σ H R => iEnumT F.K t σ H R ∨ iEnum F.K t σ H R, fun X h => ?_, fun ρ C H E σ it n C' R R0 eo hm k => ?_⟩
  · have p1 := pi_enumT (p := p) (pos := pos) (tpos := tpos) (elts := elts) (kk := kk) (h.gl hg) (by rw [h.mg]; exact hm) (q X h) (hs _)
    have p2 := pi_enum (p := p) (pos := pos) (tpos := tpos) (elts := elts) (kk := kk) (h.gl hg) (by rw [h.mg]; exact hm) (q X h) (hs _)
    rw [h.K] at p1 p2
    exact ⟨fun pins s σ H R I h => h.elim (fun z => p1.run pins s σ H R I z) fun z => p2.run pins s σ H R I z⟩
  · obtain ⟨⟨ds, C1⟩, h1, hm⟩ := obind hm
    simp only at hm
    split at hm
    · cases hm
      refine .inl (s ρ C H E σ _ _ _ R0 eo h1 fun ρ1 H1 v1 R1 s1 d1 => ?_)
      cases d1 with | cons dh dt =>
        cases dt
        cases dh with | tup hs hd => exact ⟨_, _, rfl, hs, k ρ1 H1 _ R1 s1 (itOk_enum hs hd)⟩
    · cases hm
      refine .inr (s ρ C H E σ _ _ _ R0 eo h1 fun ρ1 H1 v1 R1 s1 d1 => ?_)
      cases d1 with | cons dh dt =>
        cases dt
        cases dh with | rol hs hd => exact ⟨_, _, rfl, .inl (.inr ⟨_, hs⟩), k ρ1 H1 _ R1 s1 (itOk_enr hs hd)⟩
    · split at hm
      · rename_i qc
        cases hm
        refine .inr (s ρ C H E σ _ _ _ R0 eo h1 fun ρ1 H1 v1 R1 s1 d1 => ?_)
        cases d1 with | cons dh dt =>
          cases dt
          obtain ⟨a, vs, rfl, ea, e3, e4⟩ := R1.lst qc dh
          exact ⟨a, vs, rfl, SqL.of e3, k ρ1 H1 _ R1 s1 (itOk_enl ea)⟩
      · cases hm
    · cases hm
end
end Mi
set_option Elab.async false
set_option linter.all false
set_option maxRecDepth 100000
set_option maxHeartbeats 4000000
namespace Mi
open PySem PySem.Spec PyProof.Rows L2
/-! ## what may be raised: an exception of class number c with one field, x -/
inductive RX where
  | ok (d : D) (C : Hm) | ex (c : Nat) (x : D) (C : Hm)
inductive OX where
  | o (x : Out) | ex (c : Nat) (x : D) (C : Hm)
abbrev MEX := Ev → Hm → Option RX
abbrev MSX := Ev → Hm → Option OX
abbrev MFX := List D → Hm → Option RX
section
variable (F : Fm)
/-- the wish of an exception, at the slots σ -/
def PostR (ρ : List Addr) (H : Hp) (c : Nat) (x : D) (C' : Hm) (E : XK) : Prop :=
  ∀ ρ' H' v dd, RelF F ρ' H' C' → Stp ρ H ρ' H' → DVF F ρ' H' x v → H' dd = some (.xd [((F.ft.exc c).2, v)]) → E (.ref (F.ft.exc c).1) (some dd) H'
def PostEX (ρ : List Addr) (H : Hp) (Q : VK) (E : XK) : RX → Prop
  | .ok d C' => Post F ρ H d C' Q
  | .ex c x C' => PostR F ρ H c x C' E
def PostSX (ρ : List Addr) (H : Hp) (Z : Ends) (W : WX) : OX → Prop
  | .o x => PostS F ρ H Z x
  | .ex c x C' => ∀ σ, PostR F ρ H c x C' (fun cls d H' => W cls d σ H')
def EvEX (t : WX → TE) (m : MEX) : Prop := ∀ ρ C H E σ r Q W, RelF F ρ H C → EnvF F ρ H E σ → m E C = some r → PostEX F ρ H Q (fun cls d H' => W cls d σ H') r → t W σ H Q
def EvSX (t : WX → TS) (m : MSX) : Prop := ∀ ρ C H E σ r Z W, RelF F ρ H C → EnvF F ρ H E σ → m E C = some r → PostSX F ρ H Z W r → t W Z σ H
def SEX (e : Expr) (m : MEX) : Prop := ∃ t : WX → TE, (∀ X W, F.Is X → Takes X W → PE X e (t W)) ∧ EvEX F t m
def SSX (st : Stmt) (m : MSX) : Prop := ∃ t : WX → TS, (∀ X W, F.Is X → Takes X W → PS X st (t W)) ∧ EvSX F t m
def SBX (sts : List Stmt) (m : MSX) : Prop := ∃ t : WX → TS, (∀ X W, F.Is X → Takes X W → PSs X sts (t W)) ∧ EvSX F t m
end
/-! ## the mirrors -/
def liftX (m : MS) : MSX := fun E C => (m E C).map .o
def mSeqX (m n : MSX) : MSX := fun E C => (m E C).bind fun o => match o with | .o (.nx E' C') => n E' C' | o => some o
def mIfX (mt : MT) (m n : MSX) : MSX := fun E C => (mt E C).bind fun p => if p.1 = true then m E p.2 else n E p.2
def mDropX (m : MEX) : MSX := fun E C => (m E C).bind fun r => match r with | .ok _ C' => some (.o (.nx E C')) | .ex c x C' => some (.ex c x C')
def mRetX (m : MEX) : MSX := fun E C => (m E C).bind fun r => match r with | .ok d C' => some (.o (.rt d C')) | .ex c x C' => some (.ex c x C')
def mRaise (c : Nat) (m : ME) : MSX := fun E C => (m E C).bind fun p => some (.ex c p.1 p.2)
def forLoopX (it : Itm) (tg : MG) (body : MSX) : Nat → Nat → Ev → Hm → Option OX
  | 0, _, _, _ => none
  | fuel + 1, i, E, C => (it.at C i).bind fun r => match r with
    | none => some (.o (.nx E C))
    | some x => (tg x E).bind fun E1 => (body E1 C).bind fun o => match o with
      | .o (.nx E2 C2) => forLoopX it tg body fuel (i + 1) E2 C2
      | .o (.ct E2 C2) => forLoopX it tg body fuel (i + 1) E2 C2
      | .o (.bk E2 C2) => some (.o (.nx E2 C2))
      | .o (.rt d C2) => some (.o (.rt d C2))
      | .ex c x C2 => some (.ex c x C2)
def mForX (src : MI) (tg : MG) (body : MSX) : MSX := fun E C => (src E C).bind fun p => forLoopX p.1 tg body (p.2.1 + 1) 0 E p.2.2
def mCallX (m : MFX) (ml : MA) : MEX := fun E C => (ml E C).bind fun q => m q.1 q.2
def mFnX (n N : Nat) (body : MSX) : MFX := fun ds C => if ds.length = n then (body (ds.map some ++ List.replicate (N - n) none) C).bind fun o => match o with
  | .o (.rt d C') => some (.ok d C')
  | .o (.nx _ C') => some (.ok .non C')
  | .ex c x C' => some (.ex c x C')
  | _ => none else none
/-- the cells that were made are let go -/
def cutX (n : Nat) : RX → Option RX
  | .ok d C' => (cutC n (d, C')).map fun p => .ok p.1 p.2
  | .ex c x C' => (cutC n (x, C')).map fun p => .ex c p.1 p.2
def mKeepX (m : MEX) : MEX := fun E C => (m E C).bind (cutX C.length)
/-! ## expressions -/
section
variable {F : Fm} {e : Expr} {es : List Expr} {pos p : Pos} {x : Str} {i : Nat} {ml : MA} {me : ME} {mx : MEX} {m n : MSX} {mt : MT} {st : Stmt} {a b rest : List Stmt}
theorem PostR.mono {ρ ρ1 : List Addr} {H H1 : Hp} {c : Nat} {d : D} {C' : Hm} {E : XK} (h : PostR F ρ H c d C' E) (s : Stp ρ H ρ1 H1) : PostR F ρ1 H1 c d C' E := fun ρ' H' v dd R s' dv hd => h ρ' H' v dd R (s.trans s') dv hd
theorem cut_rel {ρ ρ1 : List Addr} {H H1 : Hp} {C C1 : Hm} {d : D} {v : V} (R : RelF F ρ H C) (R1 : RelF F ρ1 H1 C1) (s1 : Stp ρ H ρ1 H1) (dv : DVF F ρ1 H1 d v) {r : D × Hm} (hc : cutC C.length (d, C1) = some r) :
    r.1 = d ∧ RelF F ρ H1 r.2 ∧ Stp ρ H ρ H1 ∧ DVF F ρ H1 d v := by
  unfold cutC at hc
  split at hc
  · rename_i hb
    cases hc
    obtain ⟨t, e, ht⟩ := s1.pre
    subst e
    have hb1 : D.bnd ρ.length d = true := by rw [R.len]; exact hb.1
    have hb2 : ∀ c ∈ C1.take ρ.length, c.bnd ρ.length = true := by rw [R.len]; simpa [List.all_eq_true] using hb.2
    have R2 := R1.cut hb2
    rw [R.len] at R2
    exact ⟨rfl, R2, ⟨⟨[], by simp, by simp⟩, s1.keep, s1.there, s1.tups, s1.frzs⟩, dv.cut hb1⟩
  · cases hc
theorem sex_keep (h : SEX F e mx) : SEX F e (mKeepX mx) := by
  obtain ⟨t, p, ev⟩ := h
  refine ⟨t, p, fun ρ C H E σ r Q W R eo hm k => ?_⟩
  obtain ⟨r1, h1, hm⟩ := obind hm
  cases r1 with
  | ok d C1 =>
    simp only [cutX] at hm
    cases q : cutC C.length (d, C1) with
    | none => rw [q] at hm; cases hm
    | some z =>
      rw [q] at hm
      cases hm
      refine ev ρ C H E σ _ Q W R eo h1 fun ρ1 H1 v R1 s1 dv => ?_
      obtain ⟨e1, R2, s2, dv2⟩ := cut_rel R R1 s1 dv q
      exact k ρ H1 v R2 s2 (by rw [e1]; exact dv2)
  | ex c d C1 =>
    simp only [cutX] at hm
    cases q : cutC C.length (d, C1) with
    | none => rw [q] at hm; cases hm
    | some z =>
      rw [q] at hm
      cases hm
      refine ev ρ C H E σ _ Q W R eo h1 fun ρ1 H1 v dd R1 s1 dv hdd => ?_
      obtain ⟨e1, R2, s2, dv2⟩ := cut_rel R R1 s1 dv q
      exact k ρ H1 v dd R2 s2 (by rw [e1]; exact dv2) hdd
/-- what does not raise -/
theorem sex_of (h : SE F e me) : SEX F e (fun E C => (me E C).map fun p => .ok p.1 p.2) := by
  obtain ⟨t, p, ev⟩ := h
  refine ⟨fun _ => t, fun X W i _ => p X i, fun ρ C H E σ r Q W R eo hm k => ?_⟩
  cases q : me E C with
  | none => simp only [q, Option.map_none] at hm; cases hm
  | some z =>
    simp only [q, Option.map_some] at hm
    cases hm
    exact ev ρ C H E σ z.1 z.2 Q R eo q k
theorem ssx_of {ms : MS} (h : SS F st ms) : SSX F st (liftX ms) := by
  obtain ⟨t, p, ev⟩ := h
  refine ⟨fun _ => t, fun X W i _ => p X i, fun ρ C H E σ r Z W R eo hm k => ?_⟩
  unfold liftX at hm
  cases q : ms E C with
  | none => rw [q] at hm; cases hm
  | some z => rw [q] at hm; cases hm; exact ev ρ C H E σ z Z R eo q k
theorem sbx_of {ms : MS} (h : SB F a ms) : SBX F a (liftX ms) := by
  obtain ⟨t, p, ev⟩ := h
  refine ⟨fun _ => t, fun X W i _ => p X i, fun ρ C H E σ r Z W R eo hm k => ?_⟩
  unfold liftX at hm
  cases q : ms E C with
  | none => rw [q] at hm; cases hm
  | some z => rw [q] at hm; cases hm; exact ev ρ C H E σ z Z R eo q k
theorem sbx_one (h : SSX F st m) : SBX F [st] m := let ⟨t, p, ev⟩ := h; ⟨t, fun X W i tk => pss_one (p X W i tk), ev⟩
theorem sbx_cons (h : SSX F st m) (k : SBX F rest n) : SBX F (st :: rest) (mSeqX m n) := by
  obtain ⟨t, p, ev⟩ := h
  obtain ⟨u, q, eu⟩ := k
  refine ⟨fun W => tSeq (t W) (u W), fun X W i tk => pss_cons (p X W i tk) (q X W i tk), fun ρ C H E σ r Z W R eo hm kk => ?_⟩
  obtain ⟨o, h1, hm⟩ := obind hm
  refine ev ρ C H E σ o _ W R eo h1 ?_
  cases o with
  | ex c d C1 => cases hm; exact kk
  | o x =>
    cases x with
    | nx E1 C1 =>
      refine fun ρ1 H1 σ1 R1 s1 eo1 => eu ρ1 C1 H1 E1 σ1 r Z W R1 eo1 hm ?_
      cases r with
      | ex c d C2 => exact fun σ2 => (kk σ2).mono s1
      | o y =>
        cases y with
        | nx E2 C2 => exact fun ρ2 H2 σ2 R2 s2 eo2 => kk ρ2 H2 σ2 R2 (s1.trans s2) eo2
        | ct E2 C2 => exact fun ρ2 H2 σ2 R2 s2 eo2 => kk ρ2 H2 σ2 R2 (s1.trans s2) eo2
        | bk E2 C2 => exact fun ρ2 H2 σ2 R2 s2 eo2 => kk ρ2 H2 σ2 R2 (s1.trans s2) eo2
        | rt d C2 => exact fun ρ2 H2 v R2 s2 dv => kk ρ2 H2 v R2 (s1.trans s2) dv
    | ct E1 C1 => cases hm; exact kk
    | bk E1 C1 => cases hm; exact kk
    | rt d C1 => cases hm; exact kk
theorem ssx_expr (h : SEX F e mx) (hs : ∀ env : Env, swapsWith e none pos.line env = pure false := by intro _; rfl) : SSX F (.Expr e pos) (mDropX mx) := by
  obtain ⟨t, p, ev⟩ := h
  refine ⟨fun W => tDrop (t W), fun X W i tk => ps_expr (p X W i tk) (hs _), fun ρ C H E σ r Z W R eo hm k => ?_⟩
  obtain ⟨r1, h1, hm⟩ := obind hm
  refine ev ρ C H E σ r1 _ W R eo h1 ?_
  cases r1 with
  | ok d C1 => cases hm; exact fun ρ1 H1 v R1 s1 dv => k ρ1 H1 σ R1 s1 (eo.mono s1)
  | ex c d C1 => cases hm; exact k σ
theorem ssx_ret (h : SEX F e mx) : SSX F (.Return (some e) pos) (mRetX mx) := by
  obtain ⟨t, p, ev⟩ := h
  refine ⟨fun W => tRet (t W), fun X W i tk => ps_ret (p X W i tk), fun ρ C H E σ r Z W R eo hm k => ?_⟩
  obtain ⟨r1, h1, hm⟩ := obind hm
  refine ev ρ C H E σ r1 _ W R eo h1 ?_
  cases r1 with
  | ok d C1 => cases hm; exact fun ρ1 H1 v R1 s1 dv => k ρ1 H1 v R1 s1 dv
  | ex c d C1 => cases hm; exact k σ
end
end Mi
set_option Elab.async false
set_option linter.all false
set_option maxRecDepth 100000
set_option maxHeartbeats 4000000
namespace Mi
open PySem PySem.Spec PyProof.Rows L2
section
variable {F : Fm} {e c : Expr} {es : List Expr} {pos p : Pos} {x : Str} {i : Nat} {ml : MA} {me : ME} {mx : MEX} {m n : MSX} {mt : MT} {st : Stmt} {a b rest body : List Stmt} {tg iter : Expr}
theorem ssx_if (hc : ST F c mt) (ha : SBX F a m) (hb : SBX F b n) : SSX F (.If c a b pos) (mIfX mt m n) := by
  obtain ⟨tc, pc, ec⟩ := hc
  obtain ⟨t, pt, et⟩ := ha
  obtain ⟨u, pu, eu⟩ := hb
  refine ⟨fun W => tIfS tc (t W) (u W), fun X W i tk => ps_if (pc X i) (pt X W i tk) (pu X W i tk), fun ρ C H E σ r Z W R eo hm k => ?_⟩
  obtain ⟨⟨z, C1⟩, h1, hm⟩ := obind hm
  refine ec ρ C H E σ z C1 _ R eo h1 fun ρ1 H1 R1 s1 => ?_
  have k1 : PostSX F ρ1 H1 Z W r := by
    cases r with
    | ex c d C2 => exact fun σ2 => (k σ2).mono s1
    | o y =>
      cases y with
      | nx E2 C2 => exact fun ρ2 H2 σ2 R2 s2 eo2 => k ρ2 H2 σ2 R2 (s1.trans s2) eo2
      | ct E2 C2 => exact fun ρ2 H2 σ2 R2 s2 eo2 => k ρ2 H2 σ2 R2 (s1.trans s2) eo2
      | bk E2 C2 => exact fun ρ2 H2 σ2 R2 s2 eo2 => k ρ2 H2 σ2 R2 (s1.trans s2) eo2
      | rt d C2 => exact fun ρ2 H2 v R2 s2 dv => k ρ2 H2 v R2 (s1.trans s2) dv
  cases z with
  | true => exact if_pos rfl ▸ et ρ1 C1 H1 E σ r Z W R1 (eo.mono s1) (by simpa using hm) k1
  | false => exact if_neg Bool.false_ne_true ▸ eu ρ1 C1 H1 E σ r Z W R1 (eo.mono s1) (by simpa using hm) k1
theorem ssx_for {src : MI} {g : MG} {slots : List Nat} (hi : SI F tg iter src) (hg : SG F tg slots g) (hb : SBX F body m) (hs : ∀ (env : Env) x, foldedSetIterable iter env x = pure x := by intro _ _; rfl) : SSX F (.For tg iter body [] pos) (mForX src g m) := by
  obtain ⟨wi, pi, si⟩ := hi
  obtain ⟨gg, pg, sg⟩ := hg
  obtain ⟨tb, pb, sb⟩ := hb
  refine ⟨fun W => tFor wi gg (tb W), fun X W h tk => ps_for h.xe h.calm (pi X h) (pg X h) (pb X W h tk) (hs _), fun ρ C H E σ o Z W R eo hm k => ?_⟩
  obtain ⟨⟨it, n, C1⟩, h1, hm⟩ := obind hm
  refine si ρ C H E σ it n C1 _ R eo h1 fun ρ0 H0 J R0 s0 ok => ?_
  simp only at hm
  refine ⟨fun i q σ' Hc => ∃ ρ1 Cc E1, RelF F ρ1 Hc Cc ∧ Stp ρ0 H0 ρ1 Hc ∧ EnvF F ρ1 Hc E1 σ' ∧ forLoopX it g m q i E1 Cc = some o, ⟨_, ρ0, C1, E, R0, .refl, eo.mono s0, hm⟩, ?_⟩
  rintro i q σ' Hc ⟨ρ1, Cc, E1, R1, s1, eo1, hf⟩
  cases q with
  | zero => cases hf
  | succ fuel =>
    unfold forLoopX at hf
    obtain ⟨r, e1, hf⟩ := obind hf
    have oki := ok ρ1 Hc Cc R1 s1.wk i r e1
    cases r with
    | none =>
      cases hf
      exact .inl ⟨oki, k ρ1 Hc σ' R1 (s0.trans s1) eo1⟩
    | some x =>
      refine .inr ⟨oki.1, fun σ2 H2 => ∃ ρ2 C2 E2, RelF F ρ2 H2 C2 ∧ Stp ρ0 H0 ρ2 H2 ∧ EnvF F ρ2 H2 E2 σ2 ∧ forLoopX it g m fuel (i + 1) E2 C2 = some o, fun σ2 H2 z => ⟨fuel, Nat.lt_succ_self _, z⟩, fun v H' hy => ?_⟩
      obtain ⟨R2, s2, dv⟩ := oki.2 v H' hy
      obtain ⟨E2, e2, hf⟩ := obind hf
      obtain ⟨o1, e3, hf⟩ := obind hf
      refine sg ρ1 Cc H' E1 σ' x v E2 _ R2 (eo1.mono s2) dv e2 fun σ3 eo3 _ => ?_
      refine sb ρ1 Cc H' E2 σ3 o1 _ W R2 eo3 e3 ?_
      have s3 := s1.trans s2
      have s03 := s0.trans s3
      cases o1 with
      | ex c d C2 => cases hf; exact fun σ4 => (k σ4).mono s03
      | o y =>
        cases y with
        | nx E4 C4 => exact fun ρ4 H4 σ4 R4 s4 eo4 => ⟨ρ4, C4, E4, R4, s3.trans s4, eo4, hf⟩
        | ct E4 C4 => exact fun ρ4 H4 σ4 R4 s4 eo4 => ⟨ρ4, C4, E4, R4, s3.trans s4, eo4, hf⟩
        | bk E4 C4 => cases hf; exact fun ρ4 H4 σ4 R4 s4 eo4 => k ρ4 H4 σ4 R4 (s03.trans s4) eo4
        | rt d C4 => cases hf; exact fun ρ4 H4 v R4 s4 dv => k ρ4 H4 v R4 (s03.trans s4) dv
/-! ## raise -/
/-- the making of an exception of class number c from one value -/
def tMk1 (C : Addr) (f : Str) (t : TA) : L2.St → Hp → XK → Prop := fun σ H Q => t σ H fun vs H1 => ∃ v, vs = [v] ∧ ∀ d, H1 d = none → Q (.ref C) (some d) (upd H1 d (.xd [(f, v)]))
theorem ssx_raise {k : Nat} (hp : ∀ X, F.Is X → ∀ t : TA, PA X [e] t → PMk X c (tMk1 (F.ft.exc k).1 (F.ft.exc k).2 t)) (he : SE F e me) (hst : ∀ env : Env, starEach [e] env = (false, eval e env) :: starEach [] env := by intro _; rfl) : SSX F (.Raise (some c) none pos) (mRaise k me) := by
  obtain ⟨t, p, ev⟩ := he
  refine ⟨fun W => fun _ σ H => tMk1 (F.ft.exc k).1 (F.ft.exc k).2 (tCons t tNil) σ H fun cls d H' => W cls d σ H', fun X W i tk => ps_raise i.calm tk (hp X i _ (pa_cons (p X i) pa_nil (hst _))), fun ρ C H E σ r Z W R eo hm kk => ?_⟩
  obtain ⟨⟨d, C1⟩, h1, hm⟩ := obind hm
  cases hm
  show tMk1 _ _ _ σ H _
  refine ev ρ C H E σ d C1 _ R eo h1 fun ρ1 H1 v R1 s1 dv => ?_
  refine ⟨v, rfl, fun a ha => ?_⟩
  have s2 := s1.trans (Stp.fresh (o := .xd [((F.ft.exc k).2, v)]) ha)
  exact kk σ ρ1 _ v a (R1.fresh ha) s2 (dv.mono (Stp.fresh ha)) upd_same
end
/-! ## defs that raise -/
abbrev SpX := List V → Hp → VK → XK → Prop
structure FnX (P : Program) (w : World) (K : PySem.W.Frag) (mg : Str → Option Value) (base : Heap) (k : Nat) (f : Addr) (fd : FuncData) (ps : List Str) (sp : SpX) : Prop where
  len : ∀ vs H Q E, sp vs H Q E → vs.length = ps.length
  run : ∀ (A : Around) (outer : List Env) (s : Shared) (H : Hp) (args : Args) (us : List Value) (vs : List V) (Q : VK) (E : XK), Room k A → A.guards = some [] → Env0 P w K mg base A outer s H → BindsTo s fd args (ps.zip us) → Vals vs us → sp vs H Q E →
    codeAny (model P w) A (.call (.ref f) args) (CR (L2.CX P w) outer P w H s Q E) s
def spX (K : PySem.W.Frag) (ft : Cfg) (n : Nat) (m : MFX) : SpX := fun vs H Q E => ∃ ρ C ds r, Rel K ft ρ H C ∧ DVs K ft ρ H ds vs ∧ ds.length = n ∧ m ds C = some r ∧ match r with
  | .ok d C' => ∀ ρ' H' v, Rel K ft ρ' H' C' → Stp ρ H ρ' H' → DV K ft ρ' H' d v → Q v H'
  | .ex c x C' => ∀ ρ' H' v dd, Rel K ft ρ' H' C' → Stp ρ H ρ' H' → DV K ft ρ' H' x v → H' dd = some (.xd [((ft.exc c).2, v)]) → E (.ref (ft.exc c).1) (some dd) H'
section
variable {P : Program} {w : World} {K : PySem.W.Frag} {mg : Str → Option Value} {base : Heap} {ft : Cfg}
theorem fnX_of {x qual : Str} {st : Stmt} {f : Addr} {fd : FuncData} {N ps : List Str} {k : Nat} {m : MSX} (F : Fun K x qual st f fd) (S : FnScope N ps (defScope st)) (hb : SBX (fmOf P w K mg base ft st N k) (defBody st) m) :
    FnX P w K mg base (k + 1) f fd ps (spX K ft ps.length (mFnX ps.length N.length m)) := by
  obtain ⟨t, pt, ev⟩ := hb
  refine ⟨fun vs H Q E h => ?_, fun A outer s H args us vs Q E hr hg e0 hbd r h => ?_⟩
  · obtain ⟨ρ, C, ds, r, _, h2, h3, _⟩ := h
    rw [← h2.length, h3]
  obtain ⟨oc, od, kV, doc, pm, an, cdv, ct, osl, rfl, lk, hcd⟩ := F.ex
  obtain ⟨ρ, C, ds, o1, hR, hD, hl, hm, kk⟩ := h
  have hlv : vs.length = ps.length := by rw [← hD.length, hl]
  have inH : K.In s.heap := e0.mod.kin.keeps fun b o e => (e0.bs b o e).1
  have free : s.heap.NoLimit := e0.mod.nolimit.keeps fun b o e => (e0.bs b o e).1
  refine codeAny_call_function hr.depth (inH _ _ lk) rfl S.co S.gen rfl (PySem.W.codeRec_of inH hcd) (hbd _ _ _ _ ?_)
  refine wpAny_newFunctionEnv_cells S.kind (fun y hy => (S.par y.1 (List.of_mem_zip hy).1).elim .inl fun q => .inr ⟨q, PySem.W.cellsFrom_some _ _ _ (.inl q)⟩) fun env he s1 z => ?_
  subst he
  refine ⟨free.keeps z.toInCall.keep, codeAny_func ?_⟩
  have I := inv_start (CX := L2.CX P w) (E := E) S hr.hd e0 hlv r z
  have is : (fmOf P w K mg base ft st N k).Is (cxOf (L2.CX P w) P w K mg base N qual (defScope st) f cdv A outer s H E) := ⟨rfl, rfl, rfl, rfl, rfl, rfl, rfl, rfl, S.nd, rfl, hg, hr.deeper _, passes_of rfl, fun _ z => nomatch z⟩
  have tk : Takes (cxOf (L2.CX P w) P w K mg base N qual (defScope st) f cdv A outer s H E) (fun cls d _ H => E cls d H) := takes_of rfl rfl rfl rfl
  have env0 : EnvF (fmOf P w K mg base ft st N k) ρ H (ds.map some ++ List.replicate (N.length - ps.length) none) (L2.start N vs) := by
    unfold L2.start
    rw [hlv]
    exact envOk_start hD
  unfold mFnX at hm
  rw [if_pos hl] at hm
  obtain ⟨o, ho, hm⟩ := obind hm
  have wish : t (fun cls d _ H => E cls d H) { nx := fun _ H' => Q .non H', rt := Q } (L2.start N vs) H := by
    refine ev ρ C H _ _ o _ _ hR env0 ho ?_
    cases o with
    | ex c d C2 => cases hm; exact fun σ => kk
    | o y =>
      cases y with
      | nx E2 C2 => cases hm; exact fun ρ' H' σ' R' s' _ => kk ρ' H' .non R' s' .non
      | rt d2 C2 => cases hm; exact fun ρ' H' v R' s' dv => kk ρ' H' v R' s' dv
      | bk E2 C2 => cases hm
      | ct E2 C2 => cases hm
  have run := (pt _ _ is tk).run [] s1 (L2.start N vs) H _ I wish
  refine wpAny_mono run (fun fl s' hs => ?_) fun e s' hs => hs
  cases fl with
  | ret u => obtain ⟨v, σ', H', J, rv, q⟩ := hs; exact ⟨v, H', J.os, J.bare, J.base, J.hok, rv, q⟩
  | next => obtain ⟨σ', H', J, q⟩ := hs; exact ⟨.non, H', J.os, J.bare, J.base, J.hok, rfl, q⟩
  | brk => obtain ⟨_, _, _, q⟩ := hs; exact q.elim
  | cont => obtain ⟨_, _, _, q⟩ := hs; exact q.elim
end
/-! ## their calls -/
/-- what a raised exception does where the callee was called -/
theorem runX {X : Cx} {k : Nat} {f : Addr} {fd : FuncData} {ps : List Str} {sp : SpX} {ds : List Value} {dvs : List V} {pins : List (Addr × Obj)} {σ : L2.St} {H : Hp} {s : Shared} {Q : VK} {W : WX} {us : List Value} {vs : List V} (F : FnX X.prog X.w X.K X.mg X.base k f fd ps sp) (hr : Room k X.A) (hg : X.A.guards = some []) (hb : Binds X.K fd ps ds) (hd : Vals dvs ds)
    (tk : Takes X W) (I : Inv X pins σ H s) (r : Vals vs us) (h : sp (vs ++ dvs) H Q (WE W σ)) : wpAny (model X.prog X.w) X.A (call (.ref f) us) (EP X pins σ Q) X.xe s := by
  have r2 := r.append hd
  have lenOk : (us ++ ds).length = ps.length := r2.length ▸ F.len _ _ _ _ h
  have go := F.run X.A X.stack s H ⟨us, []⟩ (us ++ ds) (vs ++ dvs) Q (WE W σ) hr hg I.env0 (hb s us I.kIn lenOk) r2 h
  refine wpAny_call (codeAny_mono go fun r s' hq => ?_)
  match r, hq with
  | .ok (.ret u), hq => exact I.after hq
  | .ok .next, hq => exact (show False from hq).elim
  | .ok .brk, hq => exact (show False from hq).elim
  | .ok .cont, hq => exact (show False from hq).elim
  | .error e, hq => exact passAt tk σ pins H s e s' I hq
structure CalleeX (P : Program) (w : World) (K : PySem.W.Frag) (mg : Str → Option Value) (base : Heap) (ft : Cfg) (x : Str) (n : Nat) (m : MFX) (k : Nat) : Prop where
  ex : ∃ (f : Addr) (fd : FuncData) (ps : List Str), mg x = some (.ref f) ∧ PySem.W.keepIn K (.ref f) = true ∧ Binds K fd ps [] ∧ FnX P w K mg base k f fd ps (spX K ft ps.length m) ∧ n = ps.length
section
variable {F : Fm} {e : Expr} {es : List Expr} {pos p : Pos} {x : Str} {i : Nat} {ml : MA}
def tCallX (sp : SpX) (t : TA) (W : WX) : TE := fun σ H Q => t σ H fun vs H1 => sp vs H1 Q (WE W σ)
theorem sex_call {n : Nat} {m : MFX} (k : Nat) (c : CalleeX F.prog F.w F.K F.mg F.base F.ft x n m k) (ha : SA F (e :: es) ml) (hlen : ∀ E C q, ml E C = some q → q.1.length = n) (hk : k ≤ F.lv := by exact Nat.le_of_ble_eq_true rfl) (hg : F.sc.names.lookup x = some .globalImplicit := by rfl) (hdb : (x == ("__debug__" : Str)) = false := by decide)
    (he : ∀ env : Env, starEach (e :: es) env = (false, eval e env) :: starEach es env := by intro _; rfl) (hpl : ∀ env : Env, (backTo pos (starEach es env)).any (·.1) = false := by intro _; rfl) : SEX F (.Call (.Name x p) (e :: es) [] pos) (mCallX m ml) := by
  obtain ⟨f, fd, ps, hm, hkp, hb, G, hn⟩ := c.ex
  obtain ⟨t, pt, st⟩ := ha
  refine ⟨tCallX (spX F.K F.ft ps.length m) t, fun X W h tk => ⟨fun pins s σ H Q I hw => ?_⟩, fun ρ C H E σ r Q W R eo hmm kk => ?_⟩
  · have G' : FnX X.prog X.w X.K X.mg X.base k f fd ps (spX F.K F.ft ps.length m) := by rw [h.prog, h.w, h.K, h.mg, h.base]; exact G
    have inner := thn ((pt X h).run pos pins s σ H _ I hw) (Q' := fun us s1 => X.K.In s1.heap ∧ wpAny (model X.prog X.w) X.A (call (.ref f) us) (EP X pins σ Q) X.xe s1) fun us s1 ⟨vs, H1, I1, r, q⟩ => ⟨I1.kIn, runX G' (h.rm.mono hk) h.gu (by rw [h.K]; exact hb) .nil tk I1 r (by rw [List.append_nil]; exact q)⟩
    exact wpAny_Call_Name_kw (ld_glob I (h.gl hg) (by rw [h.mg]; exact hm) (PySem.W.callWith_K (h₀ := X.base) I.ok.mod.kin (by rw [h.K]; exact hkp) inner (he _) (hpl _)) hdb)
  · obtain ⟨⟨xs, C1⟩, h1, hmm⟩ := obind hmm
    have hl := hlen _ _ _ h1
    refine st ρ C H E σ xs C1 _ R eo h1 fun ρ1 H1 vs R1 s1 d1 => ?_
    refine ⟨ρ1, C1, xs, r, R1, d1, by rw [hl, hn], hmm, ?_⟩
    cases r with
    | ok d C2 => exact fun ρ' H' v R' s' dv => kk ρ' H' v R' (s1.trans s') dv
    | ex c d C2 => exact fun ρ' H' v dd R' s' dv hdd => kk ρ' H' v dd R' (s1.trans s') dv hdd
end
end Mi
set_option Elab.async false
set_option linter.all false
set_option maxRecDepth 100000
set_option maxHeartbeats 4000000
namespace Mi
open PySem PySem.Spec PyProof.Rows L2
/-! ## a lambda that is handed to a def and called there -/
/-- where the lambda's text runs -/
def Fm.lam (F : Fm) (sc : Scope) (k : Nat) : Fm := { F with sc := sc, lv := k, fn := fun _ => false, tb := none }
section
variable {X : Cx} {pins : List (Addr × Obj)} {σ : L2.St} {H : Hp} {s : Shared}
abbrev lamQ (X : Cx) : Str := X.env.qual ++ "<lambda>"
/-- the made lambda's object -/
abbrev lamObj (X : Cx) (ps : Arguments) (body : Expr) (sc : Scope) (c : Addr) (pm ct : Value) : Obj := PySem.W.kla_obj "<lambda>" (lamQ X) ps body sc (cloFrom X.env.cells sc.names []) pm c ct
abbrev lamFd (X : Cx) (ps : Arguments) (body : Expr) (sc : Scope) (c : Value) (pm ct : Value) : FuncData := PySem.W.kla_fn "<lambda>" (lamQ X) ps body sc (cloFrom X.env.cells sc.names []) pm c ct
/-- what is known of a lambda at the place f, made at s -/
structure Lam (X : Cx) (pins : List (Addr × Obj)) (σ : L2.St) (H : Hp) (s : Shared) (ps : Arguments) (body : Expr) (sc : Scope) (f c : Addr) : Prop where
  inv : Inv X pins σ H s
  lsc : LamX.LamS X.env.scope sc
  obj : ∃ pm ct, s.heap.get? f = some (lamObj X ps body sc c pm ct) ∧ bindArgs (lamFd X ps body sc (.ref c) pm ct) ⟨[], []⟩ = pure []
  new : H f = none
  nofr : f ∉ frs X.stack
/-- where the def runs that got it -/
abbrev cxG (X : Cx) (Ng : List Str) (x : Str) (sg : Scope) (g : Addr) (cd : Value) (s : Shared) (H : Hp) : Cx := cxOf C8.CX0 X.prog X.w X.K X.mg X.base Ng x sg g cd X.A X.stack s H C8.E0
variable {ps : Arguments} {body : Expr} {sc : Scope} {f c g : Addr} {Ng : List Str} {x a : Str} {sg : Scope} {cd : Value} {k i : Nat} {F : Fm} {m : MEX} {W : WX} {pn : List (Addr × Obj)} {xe : Value → Shared → Prop} {p1 p2 : Pos}
theorem lam_is (h : F.Is X) {A : Around} {outer : List Env} {s' : Shared} {H' : Hp} {E : XK} (hg : A.guards = some []) (hr : Room k (A.deeper (LamX.lamEnv X sc s'.heap.objs.size f c))) :
    (F.lam sc k).Is (LamX.lamCx X A outer s' H' E sc f c) := ⟨h.prog, h.w, h.K, h.mg, h.base, rfl, h.N, rfl, h.nd, rfl, hg, hr, passes_of rfl, fun _ z => nomatch z⟩
/-- it is called by the name a -/
theorem lam_act (L : Lam X pins σ H s ps body sc f c) (h : F.Is X) {t : WX → TE} (hb : ∀ Y W, (F.lam sc k).Is Y → Takes Y W → PE Y body (t W)) (hr : Room (k + 1) (X.A.deeper (envOfC x sg s.heap.objs.size g cd)))
    (tk : Takes ((cxG X Ng x sg g cd s H).tr pn xe) W) (hN : Ng[i]? = some a) (hv : Vis sg a) (hd : (a == ("__debug__" : Str)) = false := by decide) (hcd : (a == ("__classdict__" : Str)) = false := by decide) :
    PE ((cxG X Ng x sg g cd s H).tr pn xe) (.Call (.Name a p1) [] [] p2) (fun σ2 H2 Q => σ2[i]? = some (some (.ref f)) ∧ H2 c = some (LamX.CodeO c (lamQ X)) ∧ t (fun cls d _ H => W cls d σ2 H) σ H2 Q) := by
  constructor
  intro pz sz σ2 H2 Q Iz hw
  obtain ⟨w1, w2, w3⟩ := hw
  obtain ⟨pm, ct, ho, hbind⟩ := L.obj
  have rd := (pe_var (X := (cxG X Ng x sg g cd s H).tr pn xe) (pos := p1) (i := i) hN hv hd hcd).run pz sz σ2 H2 (fun v H' => v = .ref f ∧ H' = H2) Iz ⟨.ref f, w1, rfl, rfl⟩
  refine wpAny_Call_Name_kw (thn rd fun u s1 hu => ?_)
  obtain ⟨v, H1, I1, r1, rfl, rfl⟩ := hu
  obtain rfl : u = Value.ref f := r1
  have of1 := I1.base.keep f _ ho L.new L.nofr fun z => nomatch (show f ∈ ([] : List Addr) from z)
  refine PySem.W.callWith_F0 ⟨_, _, _, _, of1⟩ ?_
  obtain ⟨⟨oc, vs, tk0, c1, c2, c3⟩, _, _⟩ := I1.hok c _ w2
  have go : codeAny (model X.prog X.w) (X.A.deeper (envOfC x sg s.heap.objs.size g cd)) (.call (.ref f) ⟨[], []⟩) (CR (L2.CX X.prog X.w) (envOfC x sg s.heap.objs.size g cd :: X.stack) X.prog X.w H1 s1 Q (fun cls d H => W cls d σ2 H)) s1 := by
    refine PySem.W.kla_callFunE hr.depth of1 rfl L.lsc.co L.lsc.gen rfl ⟨c, oc, vs, tk0, rfl, c1, c2, c3⟩ ?_
    rw [hbind]
    refine wpAny_pure (wpAny_newFunctionEnv (fun y hy => (L.lsc.own y hy).2) (fun y hy => nomatch hy) (fun h₁ n1 n2 => ⟨I1.nolimit.fresh _ n2, ?_⟩) L.lsc.kind)
    have kp : ∀ b o, s1.heap.get? b = some o → h₁.get? b = some o := fun b o e => n2.extBut b o (Nat.ne_of_lt (Heap.lt_size e)) (Heap.get?_push_of_some _ e)
    have J := LamX.lam_start2 (A := X.A.deeper (envOfC x sg s.heap.objs.size g cd)) (outer := envOfC x sg s.heap.objs.size g cd :: X.stack) (E := fun cls d H => W cls d σ2 H) (f := f) (c' := c) (tk := s1.toks + ([] : List (Str × Value)).length) L.inv L.lsc I1.env0 hr.hd I1.base n1 kp
    have tl : Takes (LamX.lamCx X (X.A.deeper (envOfC x sg s.heap.objs.size g cd)) (envOfC x sg s.heap.objs.size g cd :: X.stack) s1 H1 (fun cls d H => W cls d σ2 H) sc f c) (fun cls d _ H => W cls d σ2 H) := takes_of rfl rfl rfl rfl
    have run := (hb _ _ (lam_is (A := X.A.deeper (envOfC x sg s.heap.objs.size g cd)) (f := f) (c := c) (s' := s1) (H' := H1) (E := fun cls d H => W cls d σ2 H) (outer := envOfC x sg s.heap.objs.size g cd :: X.stack) h (show (X.A.deeper (envOfC x sg s.heap.objs.size g cd)).guards = some [] from h.gu) (hr.deeper _)) tl).run [] _ _ H1 Q J w3
    refine PySem.W.kla_codeExpr (wpAny_mono run (fun v s' hq => ?_) fun e s' hq => hq)
    obtain ⟨w', H', J', rv, q⟩ := hq
    exact ⟨w', H', J'.os, J'.bare, J'.base, J'.hok, rv, q⟩
  refine wpAny_call (codeAny_mono go fun r s' hq => ?_)
  match r, hq with
  | .ok (.ret u), hq => exact I1.after hq
  | .ok .next, hq => exact (show False from hq).elim
  | .ok .brk, hq => exact (show False from hq).elim
  | .ok .cont, hq => exact (show False from hq).elim
  | .error e, hq => exact passAt tk σ2 pz H1 s1 e s' I1 hq
end
end Mi
set_option Elab.async false
set_option linter.all false
set_option maxRecDepth 100000
set_option maxHeartbeats 4000000
namespace Mi
open PySem PySem.Spec PyProof.Rows L2
/-! ## defs that are given a lambda -/
abbrev RO := RX → Option (D × Hm)
/-- what the def makes of what the lambda's call brings -/
def ttG (F : Fm) (out : RO) (tl : XK → Hp → VK → Prop) (H : Hp) (Q : VK) : Prop := ∃ ρ C r d C', RelF F ρ H C ∧
  (∀ ρ1 H1 Q1 E, RelF F ρ1 H1 C → Stp ρ H ρ1 H1 → PostEX F ρ1 H1 Q1 E r → tl E H1 Q1) ∧ out r = some (d, C') ∧ Post F ρ H d C' Q
/-- the words of the def x -/
structure GiverT (K : PySem.W.Frag) (mg : Str → Option Value) (x : Str) where
  g : Addr
  pg : Arguments
  bg : List Stmt
  sg : Scope
  a : Str
  Ng : List Str
  oc : Value
  kV : Value
  doc : Value
  pm : Value
  cd : Value
  ct : Value
  od : Option Addr
  an : Option Addr
  osl : Array (Option Value)
  hm : mg x = some (.ref g)
  hk : PySem.W.keepIn K (.ref g) = true
  lk : K.lookup g = some ⟨oc, od, .func (PySem.W.fnOf x x pg bg sg .none kV doc pm an cd ct), osl⟩
  hc : PySem.W.codeIn K cd x = true
  hb : L2.Binds K (PySem.W.fnOf x x pg bg sg .none kV doc pm an cd ct) [a] []
  S : FnScope Ng [a] sg
  hN : Ng[0]? = some a
  hv : Vis sg a
  hd : (a == ("__debug__" : Str)) = false
  hcd : (a == ("__classdict__" : Str)) = false
def Giver (F : Fm) {x : Str} (T : GiverT F.K F.mg x) (k : Nat) (out : RO) : Prop :=
  ∀ (X : Cx) (s : Shared) (H : Hp) (f c : Addr) (tl : XK → Hp → VK → Prop) (q : Str) (Q : VK), F.Is X → Room k (X.A.deeper (envOfC x T.sg s.heap.objs.size T.g T.cd)) →
    (∀ (W : WX) (pn : List (Addr × Obj)) (xe : Value → Shared → Prop) (p1 p2 : Pos), Takes ((cxG X T.Ng x T.sg T.g T.cd s H).tr pn xe) W →
      PE ((cxG X T.Ng x T.sg T.g T.cd s H).tr pn xe) (.Call (.Name T.a p1) [] [] p2) (fun σ2 H2 Q => σ2[0]? = some (some (.ref f)) ∧ H2 c = some (LamX.CodeO c q) ∧ tl (fun cls d H => W cls d σ2 H) H2 Q)) →
    H c = some (LamX.CodeO c q) → ttG F out tl H Q →
    ∃ t, PSs (cxG X T.Ng x T.sg T.g T.cd s H).nox T.bg t ∧ t { nx := fun _ H' => Q .non H', rt := Q } (L2.start T.Ng [.ref f]) H
section
variable {F : Fm} {m : MEX} {out : RO} {j k n : Nat} {x : Str} {ps : Arguments} {body : Expr} {sc : Scope} {p lpos pos : Pos}
def mLam (j n : Nat) (out : RO) (m : MEX) : ME := fun E C => match C[j]? with
  | some (.tab n') => if n' = n then (m E C).bind out else none
  | _ => none
/-- data stay where a table grows that is a cell -/
theorem Stp.tab {ρ : List Addr} {H H1 : Hp} {P : Addr} {q : Str} (hP : P ∈ ρ) (hT : LamX.TabS H P q) (hT1 : LamX.TabS H1 P q) (e : ∀ b o, b ≠ P → H b = some o → H1 b = some o) : Stp ρ H ρ H1 := by
  obtain ⟨ps, e0, _, _⟩ := hT
  obtain ⟨ps1, e1, _, _⟩ := hT1
  refine ⟨⟨[], by simp, by simp⟩, fun b o h hb => e b o (fun z => hb (z ▸ hP)) h, fun b o h => ?_, fun b xs h => e b _ (fun z => ?_) h, fun b o u h => e b _ (fun z => ?_) h⟩
  · by_cases z : b = P
    · subst z; exact ⟨_, e1⟩
    · exact ⟨o, e b o z h⟩
  · subst z; rw [e0] at h; cases h
  · subst z; rw [e0] at h; cases h
theorem Rel.tab {K : PySem.W.Frag} {ft : Cfg} {ρ : List Addr} {H H1 : Hp} {C : Hm} {n k : Nat} (R : Rel K ft ρ H C) (hc : C[n]? = some (.tab k)) (hT1 : LamX.TabS H1 (ft.tab k).1 (ft.tab k).2) (e : ∀ b o, b ≠ (ft.tab k).1 → H b = some o → H1 b = some o) :
    Rel K ft ρ H1 C ∧ Stp ρ H ρ H1 := by
  obtain ⟨a, ha, rfl, t⟩ := R.ok n _ hc
  have hP : (ft.tab k).1 ∈ ρ := List.mem_of_getElem? ha
  have hT : LamX.TabS H (ft.tab k).1 (ft.tab k).2 := by
    obtain ⟨ps, z1, z2, z3⟩ := t
    exact ⟨ps, z1, z2, fun pos cv h => let ⟨c, q1, q2, _⟩ := z3 pos cv h; ⟨c, q1, q2⟩⟩
  have s := Stp.tab hP hT hT1 e
  refine ⟨⟨R.len, R.nd, fun m c h => ?_⟩, s⟩
  obtain ⟨b, hb, kk⟩ := R.ok m c h
  refine ⟨b, hb, ?_⟩
  by_cases z : b = (ft.tab k).1
  · subst z
    have em : m = n := nodup_at R.nd hb ha
    subst em
    rw [hc] at h
    cases h
    obtain ⟨ps, z1, z2, z3⟩ := hT1
    refine ⟨rfl, ps, z1, z2, fun pos cv h => ?_⟩
    obtain ⟨d, q1, q2⟩ := z3 pos cv h
    refine ⟨d, q1, q2, fun hd => ?_⟩
    obtain ⟨i, hi, ei⟩ := List.getElem_of_mem hd
    have hi' : i < C.length := by rw [← R.len]; exact hi
    obtain ⟨a', ha', k'⟩ := R.ok i _ (List.getElem?_eq_getElem hi')
    rw [List.getElem?_eq_getElem hi, ei] at ha'
    cases ha'
    by_cases w : d = (ft.tab k).1
    · rw [w, z1] at q2
      exact LamX.codeO_ne ps (Option.some.inj q2).symm
    · obtain ⟨o, ho⟩ := R.has hd
      have := e d o w ho
      rw [q2] at this
      exact k'.nocode _ (by rw [ho, this])
  · obtain ⟨o, ho⟩ := R.has (List.mem_of_getElem? hb)
    exact kk.mono s (by rw [ho, e b o z ho])
/-- a lambda is made -/
theorem lam_new {X : Cx} {pins : List (Addr × Obj)} {σ : L2.St} {H : Hp} {s : Shared} {c P : Addr} {ps : Arguments} {body : Expr} {sc : Scope} {pos : Pos} {E : Value → Shared → Prop} {Q : Value → Shared → Prop} (I : Inv X pins σ H s) (TB : LamX.TabB X.base X.mg c P) (hcode : X.env.code = .ref c)
    (hT : LamX.TabS H P (lamQ X)) (hdef : defaultsOf ps X.env = ([], [])) (hfree : ∀ y ∈ sc.names, y.2 = .free → ∃ c, X.env.cells.lookup y.1 = some c)
    (h : ∀ (f c' : Addr) (pm ct : Value) (H1 : Hp) (s' : Shared), Inv X pins σ H1 s' → (∀ b o, b ≠ P → H b = some o → H1 b = some o) → LamX.TabS H1 P (lamQ X) →
      s'.heap.get? f = some (lamObj X ps body sc c' pm ct) → H1 f = none → f ∉ frs X.stack → H1 c' = some (LamX.CodeO c' (lamQ X)) → Q (.ref f) s') :
    wpAny (model X.prog X.w) X.A (eval (.Lambda ps body sc pos) X.env) Q E s := by
  obtain ⟨tr, e0, e1, e2⟩ := hT
  have hb := TB.bm.keeps I.bk
  have e0' := I.hok P _ e0
  have noFr : ∀ f, s.heap.objs.size ≤ f → f ∉ frs X.stack := fun f hf z => (List.mem_cons.mp (I.stkSub _ z)).elim (fun e => absurd (Nat.lt_of_lt_of_le (e ▸ I.lt) hf) (Nat.lt_irrefl _)) fun e => I.nofs hf e
  refine PySem.W.kla_eval hdef ?_
  rcases eq : codeAmong pos tr.toList with _ | cv
  · refine PySem.W.kla_makeFunction (mg := X.mg) (c := c) (P := P) (ps := tr) (closure_ok hfree) I.ok.glob (I.mod.glob.keeps I.bk) hcode (TB.code.keeps I.bk) e0' e1 eq TB.gP hb ?_
    rintro c' ct h' tk hx hge hlt ⟨c2, oc, vs, t, q1, q2, q3, q4⟩ htb
    cases q1
    have up := Nat.le_trans hge (Nat.le_of_lt hlt)
    have cN : H c' = none := I.hok.fresh hge
    have cP : P ≠ c' := ne_of_none e0 cN
    let fo := lamObj X ps body sc c' ((X.mg "__name__").getD .none) ct
    have J := LamX.inv_table (t' := tk) (more := #[rawInt pos.line, rawInt pos.col, .ref c']) (h' := h'.push fo) I e0 (fun b o z w => Heap.get?_push_of_some _ (hx b o z w)) (Heap.get?_push_of_some _ htb) hge ⟨oc, vs, t, Heap.get?_push_of_some _ q2, q3, q4⟩
    have stay : ∀ b o, b ≠ P → H b = some o → upd (upd H P (.tbl (tr ++ #[rawInt pos.line, rawInt pos.col, .ref c']))) c' (LamX.CodeO c' (lamQ X)) b = some o := fun b o z w => by
      rw [upd_ne (ne_of_none w cN), upd_ne z]; exact w
    have snoc : (tr ++ #[rawInt pos.line, rawInt pos.col, .ref c']).toList = tr.toList ++ [rawInt pos.line, rawInt pos.col, .ref c'] := by simp
    refine h h'.objs.size c' _ ct _ _ J stay ⟨_, by rw [upd_ne cP, upd_same], by rw [snoc]; exact PySem.TriplesOk_snoc _ _ _ _ e1, fun p' cv' hv => ?_⟩ (Heap.get?_push_size _ rfl) ?_ (noFr _ up) upd_same
    · rw [snoc] at hv
      rcases LamX.among_app _ e1 hv with z | z
      · obtain ⟨d, r1, r2⟩ := e2 p' cv' z
        have dP : d ≠ P := fun w => by rw [w, e0] at r2; exact LamX.codeO_ne tr (Option.some.inj r2).symm
        exact ⟨d, r1, stay _ _ dP r2⟩
      · exact ⟨c', z, upd_same⟩
    · have n1 : h'.objs.size ≠ c' := Nat.ne_of_gt hlt
      have n2 : h'.objs.size ≠ P := Nat.ne_of_gt (Nat.lt_of_lt_of_le (Heap.lt_size e0') up)
      rw [upd_ne n1, upd_ne n2]
      exact I.hok.fresh up
  · obtain ⟨d, rfl, r⟩ := e2 pos cv eq
    refine PySem.W.kla_makeFunctionHit (mg := X.mg) (c := c) (P := P) (ps := tr) (closure_ok hfree) I.ok.glob (I.mod.glob.keeps I.bk) hcode (TB.code.keeps I.bk) e0' e1 eq hb ?_
    intro ct h' tk hx up
    have J : Inv X pins σ H { s with heap := h'.push (lamObj X ps body sc d ((X.mg "__name__").getD .none) ct), toks := tk } := I.kept fun b o w => Heap.get?_push_of_some _ (hx b o w)
    exact h h'.objs.size d _ ct H _ J (fun _ _ _ w => w) ⟨tr, e0, e1, e2⟩ (Heap.get?_push_size _ rfl) (I.hok.fresh up) (noFr _ up) r
/-- x(lambda: body) -/
def tLamG (F : Fm) (P : Addr) (q : Str) (out : RO) (t : WX → TE) : TE := fun σ H Q => LamX.TabS H P q ∧ ∀ H1, (∀ b o, b ≠ P → H b = some o → H1 b = some o) → LamX.TabS H1 P q → ttG F out (fun E H' Q' => t (fun cls d _ H => E cls d H) σ H' Q') H1 Q
theorem se_lam {T : GiverT F.K F.mg x} {lv : Nat} (G : Giver F T lv out) (ht : F.tb = some n) (hb : SEX (F.lam sc lv) body m) (hk : lv + 2 ≤ F.lv) (hg : F.sc.names.lookup x = some .globalImplicit) (hls : LamX.lamSB F.sc sc = true) (hdef : ∀ env : Env, defaultsOf ps env = ([], []))
    (hbind : ∀ (q : Str) (cl : List (Str × Addr)) (pm cv ct : Value), bindArgs (PySem.W.kla_fn "<lambda>" q ps body sc cl pm cv ct) ⟨[], []⟩ = pure []) (hdb : (x == ("__debug__" : Str)) = false) :
    SE F (.Call (.Name x p) [.Lambda ps body sc lpos] [] pos) (mLam j n out m) := by
  obtain ⟨t, pt, ev⟩ := hb
  refine ⟨tLamG F (F.ft.tab n).1 (F.ft.tab n).2 out t, fun X h => ⟨fun pins s σ H Q I hw => ?_⟩, fun ρ C H E σ d C' Q R eo hm k => ?_⟩
  · obtain ⟨hq, c, hcode, TB⟩ := h.tab n ht
    obtain ⟨hT, hw⟩ := hw
    rw [← hq] at hT hw
    have L : LamX.LamS X.env.scope sc := LamX.lamS_by (by rw [h.sc]; exact hls)
    have kp : PySem.W.keepIn X.K (.ref T.g) = true := by rw [h.K]; exact T.hk
    refine wpAny_Call_Name_kw (ld_glob I (h.gl hg) (by rw [h.mg]; exact T.hm) ?_ hdb)
    refine PySem.W.callWith_K (h₀ := X.base) I.ok.mod.kin kp ?_ (by rfl) (by rfl)
    show wpAny _ _ (spliced ((false, eval (.Lambda ps body sc lpos) X.env) :: backTo pos (starEach [] X.env))) _ _ s
    refine Calls.spliced_cons (lam_new I TB hcode hT (hdef _) (L.has I.ok) fun f c' pm ct H1 s' I1 eN T1 hf hfn hfr hco => ?_)
    refine Calls.spliced_nil ⟨I1.kIn, ?_⟩
    have rm : Room (lv + 2) X.A := h.rm.mono hk
    have rc : codeAny (model X.prog X.w) X.A (.call (.ref T.g) ⟨[.ref f], []⟩) (CR C8.CX0 X.stack X.prog X.w H1 s' Q C8.E0) s' := by
      refine LamX.run_ofS (N := T.Ng) (ps := [T.a]) (us := [.ref f]) (vs := [.ref f]) (by rw [h.K]; exact T.lk) (by rw [h.K]; exact T.hc) T.S rm I1.env0 (T.hb s' [.ref f] (by have z := I1.kIn; rw [h.K] at z; exact z) rfl) (.cons rfl .nil) rfl fun hr' => ?_
      have la : Lam X pins σ H1 s' ps body sc f c' := ⟨I1, L, ⟨pm, ct, hf, hbind _ _ _ _ _⟩, hfn, hfr⟩
      obtain ⟨t', ht', hq'⟩ := G X s' H1 f c' (fun E H' Q' => t (fun cls d _ H => E cls d H) σ H' Q') (lamQ X) Q h (hr'.mono (Nat.le_succ _)) (fun W pn xe p1 p2 tk => lam_act (i := 0) la h pt hr' tk T.hN T.hv T.hd T.hcd) hco (hw H1 eN T1)
      exact ⟨t', ht'.nox, hq'⟩
    refine wpAny_call (codeAny_mono rc fun r s2 hq => ?_)
    match r, hq with
    | .ok (.ret u), hq => exact I1.after hq
    | .ok .next, hq => exact (show False from hq).elim
    | .ok .brk, hq => exact (show False from hq).elim
    | .ok .cont, hq => exact (show False from hq).elim
    | .error e, hq => exact (show False from hq).elim
  · unfold mLam at hm
    split at hm
    · rename_i n' hc
      split at hm
      · rename_i en
        subst en
        obtain ⟨r, hr, ho⟩ := obind hm
        obtain ⟨a, ha, rfl, tt⟩ := R.ok j _ hc
        obtain ⟨ps', z1, z2, z3⟩ := tt
        refine ⟨⟨ps', z1, z2, fun pos cv h => let ⟨c, q1, q2, _⟩ := z3 pos cv h; ⟨c, q1, q2⟩⟩, fun H1 e1 T1 => ?_⟩
        obtain ⟨R1, s1⟩ := Rel.tab R hc T1 e1
        refine ⟨ρ, C, r, d, C', R1, fun ρ2 H2 Q2 E2 R2 s2 pp => ev ρ2 C H2 E σ r Q2 _ R2 (eo.mono (s1.trans s2)) hr pp, ho, fun ρ2 H2 v R2 s2 dv => k ρ2 H2 v R2 (s1.trans s2) dv⟩
      · cases hm
    · cases hm
end
end Mi
set_option Elab.async false
set_option linter.all false
set_option maxRecDepth 100000
set_option maxHeartbeats 4000000
/-! the error's class with one field (by skel/42_own_error_by_import) -/
namespace PySem
namespace UhoX
open PySem.W PySem.Calls PyProof.Rows PySem.HandSPX
/-! ### the text of __init__ -/
def iA (p1 p2 : Pos) : Arguments := { posonlyargs := [], args := [{ arg := "self", annotation := none, pos := p1 }, { arg := "holder", annotation := none, pos := p2 }], vararg := none, kwonlyargs := [], kw_defaults := [], kwarg := none, defaults := [] }
def iB (q1 q2 q3 q4 : Pos) : List Stmt := [.Assign [.Attribute (.Name "self" q1) "holder" q2] (.Name "holder" q3) q4]
def iS : Scope := { kind := .function, names := [(PySem.Str.ofString "self", .local), (PySem.Str.ofString "holder", .local)], isGenerator := false, isCoroutine := false, more := [] }
/-- what the written part says of Low, at C, and of its __init__, at fI -/
structure UhoTxt (K : Frag) (mg : Str → Option Value) (C fI : Addr) : Prop where
  gC : mg "UnknownHolder" = some (.ref C)
  cls : ∃ nm q N bs bm sn sub ab col dd k0 k1 k2 k3 k5, K.lookup C = some (excClassObj nm q C N bs bm true sn sub ab col dd k0 k1 k2 k3 k5 "ValueError.__new__") ∧ refsVE bm = true
  sa : findIn K (.ref C) "__setattr__" = some (some (.builtin "object.__setattr__"))
  ga : findIn K (.ref C) "__getattribute__" = some (some (.builtin "BaseException.__getattribute__"))
  gg : findIn K (.ref C) "__getattr__" = some none
  noN : findIn K (.ref C) "holder" = some none
  iC : findIn K (.ref C) "__init__" = some (some (.ref fI))
  tC : typeIn K (.ref fI) = some (.type "function")
  kC : keepIn K (.ref C) = true
  exC : subIn K (.ref C) (.type "BaseException") = some true
  tyC : typeIn K (.ref C) = some (.type "type")
  hdC : hasDictIn K C = true
  te : exmOne K (.ref C) (.ref C) = some true
  fn : ∃ (oc : Value) (od : Option Addr) (doc pm : Value) (an : Option Addr) (cdv ct : Value) (osl : Array (Option Value)) (p1 p2 q1 q2 q3 q4 : Pos),
    K.lookup fI = some ⟨oc, od, .func (fnOf "__init__" "UnknownHolder.__init__" (iA p1 p2) (iB q1 q2 q3 q4) iS .none .none doc pm an cdv ct), osl⟩ ∧ codeIn K cdv "UnknownHolder.__init__" = true
theorem one_size (v : Value) : [v].length ≤ sizeLine := by
  rw [sizeLine_eq]
  exact (by decide : 1 ≤ 16777216)
theorem kept_but {K : Frag} {h h' : Heap} {x : Addr} (X : K.In h) (hx : K.lookup x = none) (k : ∀ b o, b ≠ x → h.get? b = some o → h'.get? b = some o) : K.In h' := fun a o e =>
  k a o (fun z => by rw [z, hx] at e; cases e) (X a o e)
theorem ldC {M : Model} {s : Shared} {name : Str} {scope : Scope} {L a : Addr} {cd : Value} {m : Str → Option Value} {x : Str} {pos : Pos} {v : Value} {Q : Value → Shared → Prop} {A : Around} {E : Value → Shared → Prop} (hn : s.heap.Ns L m) (hv : m x = some v) (h : Q v s)
    (hk : scope.kind = .function := by rfl) (hl : (envOfC name scope L a cd).kindOf x = some .local := by rfl) (hd : (x == ("__debug__" : Str)) = false := by decide) :
    wpAny M A (eval (.Name x pos) (envOfC name scope L a cd)) Q E s := wpAny_Name (wpAny_loadName_local hk hl hn hv h) hd
/-- what __init__ leaves of a fresh exception at x -/
structure InitEnd (h h' : Heap) (x C dx t1 : Addr) (v : Value) : Prop where
  keep : ∀ b o, b ≠ x → h.get? b = some o → h'.get? b = some o
  obj : h'.get? x = some { cls := .ref C, dict := some dx, data := .fields #[.ref t1, .none, .none, .none, .bool false, .none] }
  dbig : h.objs.size ≤ dx
  dne : dx ≠ x
  ns : h'.Ns1 dx (fun y => if y = "holder" then some v else none)
/-- what is made -/
structure OwnMade (h h' : Heap) (e C d : Addr) (v : Value) : Prop where
  keep : ∀ b o, h.get? b = some o → h'.get? b = some o
  new : h.objs.size ≤ e
  obj : ∃ oe vs, h'.get? e = some oe ∧ oe.cls = .ref C ∧ oe.dict = some d ∧ oe.data = .fields vs ∧ vs[1]? = some .none
  dbig : h.objs.size ≤ d
  dne : d ≠ e
  ns : h'.Ns1 d (fun y => if y = "holder" then some v else none)
section
variable {prog : Program} {w : World} {A : Around} {E : Value → Shared → Prop} {R : Result → Shared → Prop} {s : Shared} {K : Frag} {mg : Str → Option Value} {C fI : Addr}
theorem uho_init (T : UhoTxt K mg C fI) {x t0 : Addr} {v : Value} (X : K.In s.heap) (hlim : s.heap.NoLimit) (hx : s.heap.get? x = some (excO C t0)) (hnx : K.lookup x = none) (hroom : A.depth < recursionLimit)
    (hq : ∀ h' tk dx, InitEnd s.heap h' x C dx t0 v → R (.ok (.ret .none)) { s with heap := h', toks := tk }) :
    codeAny (model prog w) A (.call (.ref fI) ⟨[.ref x, v], []⟩) R s := by
  obtain ⟨oc, od, doc, pm, an, cdv, ct, osl, p1, p2, q1, q2, q3, q4, ho, hcd⟩ := T.fn
  obtain ⟨nm, q, N, bs, bm, sn, sub, ab, col, dd, k0, k1, k2, k3, k5, hC, hbm⟩ := T.cls
  have hcl : clsIn K C = some { name := nm, bases := bs, mro := .ref C :: bm, ns := N, qualname := q, hasDict := true, slotNames := sn, subclasses := sub, abstract := ab, collection := col, hasDel := false } := by unfold clsIn; rw [hC] <;> rfl
  refine Att.call_fn (binds := [("self", .ref x), ("holder", v)]) X hlim ho hcd hroom (BindsTo.of_eq (by first | rfl | with_unfolding_all rfl)) (by first | rfl | decide | with_unfolding_all rfl) (fun s₁ IC => ?_) rfl rfl rfl
  obtain ⟨h₁, tk₁, rfl⟩ := IC.toInCall.same
  have k : ∀ b o, s.heap.get? b = some o → h₁.get? b = some o := IC.toInCall.keep
  have hn := IC.toInCall.ns
  have hxL : s.heap.objs.size ≠ x := Nat.ne_of_gt (Heap.lt_size hx)
  have X₁ : K.In h₁ := X.keeps k
  have hx₁ := k _ _ hx
  -- self.by = by
  show wpAny _ _ (execs _ _) _ _ _
  refine wpAny_execs_cons (plainObj_wpAny_Assign_Attribute ?_)
  refine ldC (v := v) hn (by first | rfl | with_unfolding_all rfl | kernel_rfl) (ldC (v := .ref x) hn (by first | rfl | with_unfolding_all rfl | kernel_rfl) ?_)
  refine set_plain X₁ (ox := excO C t0) (od := none) ⟨hx₁, rfl, rfl, trivial⟩ T.sa ?_
  refine exc_osa X₁ hx₁ hcl (show refsVE (.ref C :: bm) = true from hbm) rfl T.noN (fun h₃ tk₃ dx k₃ dn dne hx₃ hn₃ => ?_)
  show wpAny _ _ (execs _ _) _ _ _
  have z : s.heap.objs.size < h₁.objs.size := hn.lt
  exact wpAny_execs_nil (hq h₃ tk₃ dx ⟨fun b o hb e => k₃ b o hb (k b o e), hx₃, Nat.le_of_lt (Nat.lt_of_lt_of_le z dn), dne, hn₃⟩)
theorem uho_made (T : UhoTxt K mg C fI) {v : Value} (X : K.In s.heap) (hlim : s.heap.NoLimit) (hroom : A.depth + 1 < recursionLimit)
    (hq : ∀ h' tk e d, OwnMade s.heap h' e C d v → R (.ok (.ret (.ref e))) { s with heap := h', toks := tk }) :
    codeAny (model prog w) A (.call (.ref C) ⟨[v], []⟩) R s := by
  obtain ⟨nm, q, N, bs, bm, sn, sub, ab, col, dd, k0, k1, k2, k3, k5, hC, hbm⟩ := T.cls
  obtain ⟨hp, g, dr, tk, os⟩ := s
  have k : ∀ b o, hp.get? b = some o → ((hp.push (kdv_tup [v])).push (excO C hp.objs.size)).get? b = some o := fun b o e => Heap.get?_push_of_some _ (Heap.get?_push_of_some _ e)
  have hget : ((hp.push (kdv_tup [v])).push (excO C hp.objs.size)).get? (hp.objs.size + 1) = some (excO C hp.objs.size) := by heap_get
  have hnx : K.lookup (hp.objs.size + 1) = none := by
    cases e : K.lookup (hp.objs.size + 1) with
    | none => rfl
    | some o =>
      have z : hp.get? (hp.objs.size + 1) = some o := X _ _ e
      exact absurd (Nat.lt_of_succ_lt (Heap.lt_size z)) (Nat.lt_irrefl _)
  refine call_own F.excBase_ValueError (fun X => refsVE_contains X bm hbm) (X _ _ hC) (looks_findIn X T.iC) (fun self => bind_fn X self T.tC) (one_size v) ?_
  refine uho_init (s := ⟨(hp.push (kdv_tup [v])).push (excO C hp.objs.size), g, dr, tk, os⟩) T (X.keeps k) (hlim.keeps k) hget hnx ?_ fun h' tk' dx ⟨k', hx, dn, dne, hns⟩ => ?_
  · show A.depth + 1 < recursionLimit
    exact hroom
  · have old : ∀ b o, hp.get? b = some o → h'.get? b = some o := fun b o e => k' b o (Nat.ne_of_lt (Nat.lt_succ_of_lt (Heap.lt_size e))) (k b o e)
    have z : hp.objs.size + 1 + 1 ≤ dx := by
      first
        | (simpa only [Heap.size_push] using dn)
        | exact dn
        | (have q := dn; rw [Heap.size_push, Heap.size_push] at q; exact q)
    exact ⟨rfl, hq h' tk' (hp.objs.size + 1) dx ⟨old, Nat.le_succ _, ⟨_, _, hx, rfl, rfl, rfl, rfl⟩, Nat.le_trans (Nat.le_trans (Nat.le_succ _) (Nat.le_succ _)) z, dne, hns⟩⟩
end
end UhoX
end PySem
namespace L2
open PySem PySem.Spec PyProof.Rows
theorem relO_uho {v : V} {v' : Value} (r : RelV v v') (f : Str) : RelO (List.lookup f [(("holder" : Str), v)]) (if f = "holder" then some v' else none) := by
  by_cases hw : f = "holder"
  · subst hw
    rw [if_pos rfl]
    have q : List.lookup ("holder" : Str) [(("holder" : Str), v)] = some v := by simp [List.lookup]
    rw [q]
    exact r
  · rw [if_neg hw]
    have qw : (f == ("holder" : Str)) = false := by simpa using hw
    have q2 : List.lookup f [(("holder" : Str), v)] = none := by simp [List.lookup, qw]
    rw [q2]
    trivial
section
variable {X : Cx} {C fI : Addr}
def tMkUho (C : Addr) (ta : TA) : St → Hp → XK → Prop := fun σ H Q => ta σ H fun vs H1 => ∃ v, vs = [v] ∧ ∀ d, H1 d = none → Q (.ref C) (some d) (upd H1 d (.xd [(("holder" : Str), v)]))
theorem pmk_uho {a : Expr} {ta : TA} {p pos : Pos} {k : Nat} (T : PySem.UhoX.UhoTxt X.K X.mg C fI) (hr : Room k X.A) (ha : PA X [a] ta) (hg : Gl X "UnknownHolder" := by rfl)
    (he : starEach (a :: []) X.env = (false, eval a X.env) :: starEach [] X.env := by rfl) (hpl : (backTo pos (starEach [] X.env)).any (·.1) = false := by rfl) :
    PMk X (.Call (.Name "UnknownHolder" p) [a] [] pos) (tMkUho C ta) := by
  intro pins s σ H Q I h
  refine wpAny_Call_Name_kw (ld_glob I hg T.gC ?_)
  refine PySem.W.callWith_K (h₀ := X.base) I.ok.mod.kin T.kC (thn (ha.run pos pins s σ H _ I h) fun us s1 hh => ?_) he hpl
  obtain ⟨vs, H1, I1, r1, v, ev, q1⟩ := hh
  subst ev
  refine ⟨I1.kIn, ?_⟩
  cases r1 with
  | cons rv rn =>
    rename_i v' us'
    cases rn
    show wpAny _ _ (call (.ref C) [v']) _ _ _
    have hlim := I1.nolimit
    obtain ⟨hp, g, dr, tk, os⟩ := s1
    refine wpAny_call (PySem.UhoX.uho_made T I1.kIn hlim (by have := hr.dp; omega) fun h' tk' e d M => ?_)
    show MkP X pins σ Q (.ref e) ⟨h', g, dr, tk', os⟩
    obtain ⟨oe, fv, hoe, hc, hd, hdat, h1⟩ := M.obj
    have hns := M.ns
    obtain ⟨G', g1, g2⟩ := restrict h' fun b => decide (b ≠ e)
    have gk : ∀ b, b ≠ e → G'.get? b = h'.get? b := fun b hb => g1 b (decide_eq_true hb)
    have ge : G'.get? e = none := g2 e (by simp)
    have old : ∀ b o, hp.get? b = some o → G'.get? b = some o := fun b o q => (gk b (Nat.ne_of_lt (Nat.lt_of_lt_of_le (Heap.lt_size q) M.new))).trans (M.keep b o q)
    have ob : ObjOk X.prog X.w (upd H1 d (.xd [(("holder" : Str), v)])) G' d (.xd [(("holder" : Str), v)]) :=
      ⟨_, hns.at (fun o q => (gk d M.dne).trans q), fun f => relO_uho rv f⟩
    have J : Inv X pins σ (upd H1 d (.xd [(("holder" : Str), v)])) ⟨G', g, dr, tk', os⟩ := I1.laid (t' := tk') old M.dbig ob
    refine ⟨e, oe, fv, ⟨G', g, dr, tk', os⟩, _, .ref C, some d, rfl, J, fun b o q => ?_, ge, hoe, ⟨hc, hd⟩, hdat, h1, ?_, rfl, I1.bare, raises_own T.exC T.tyC, q1 d (I1.hok.fresh M.dbig)⟩
    · by_cases hb : b = e
      · have q' : G'.get? b = some o := q
        rw [hb, ge] at q'; cases q'
      · exact (gk b hb).symm.trans q
    · rw [upd_ne (Ne.symm M.dne)]
      exact I1.hok.fresh M.new
end
end L2
set_option Elab.async false
set_option linter.all false
set_option maxRecDepth 100000
set_option maxHeartbeats 4000000
namespace Mi
open PySem PySem.Spec PyProof.Rows L2
/-! ## a def that may raise, called with keywords -/
structure CalleeXK (P : Program) (w : World) (K : PySem.W.Frag) (mg : Str → Option Value) (base : Heap) (ft : Cfg) (x : Str) (ks : List Str) (g : {α : Type} → List α → List α) (m : MFX) (k : Nat) : Prop where
  ex : ∃ (f : Addr) (fd : FuncData) (ps : List Str), mg x = some (.ref f) ∧ PySem.W.keepIn K (.ref f) = true ∧ KwB K fd ps ks g ∧ FnX P w K mg base k f fd ps (spX K ft ps.length m)
def mCallXK (g : {α : Type} → List α → List α) (m : MFX) (ml : MA) : MEX := fun E C => (ml E C).bind fun q => m (g q.1) q.2
section
variable {F : Fm} {e : Expr} {es : List Expr} {pos p pos2 : Pos} {x : Str} {kws : List Keyword} {ks : List Str} {me : ME}
def tCallXK (sp : SpX) (n : Nat) (g : {α : Type} → List α → List α) (t : TA) (W : WX) : TE := fun σ H Q => t σ H fun vs H1 => vs.length = n ∧ sp (g vs) H1 Q (WE W σ)
theorem sex_callK0 {g : {α : Type} → List α → List α} {m : MFX} {ml : MA} (k : Nat) (c : CalleeXK F.prog F.w F.K F.mg F.base F.ft x ks g m k) (ha : SK F kws ml) (hlen : ∀ E C q, ml E C = some q → q.1.length = ks.length) (hk : k ≤ F.lv := by exact Nat.le_of_ble_eq_true rfl) (hg : F.sc.names.lookup x = some .globalImplicit := by rfl) (hdb : (x == ("__debug__" : Str)) = false := by decide)
    (hall : ∀ env : Env, (backToKw pos (keywordEach kws env)).all (·.1.isSome) = true := by intro _; rfl) (hks : ∀ env : Env, (backToKw pos (keywordEach kws env)).filterMap (·.1) = ks := by intro _; rfl)
    (hpl : ∀ env : Env, ((backTo pos (starEach [] env)).any (·.1) || (backToKw pos (keywordEach kws env)).any (·.1.isNone)) = false := by intro _; rfl) : SEX F (.Call (.Name x p) [] kws pos) (mCallXK g m ml) := by
  obtain ⟨f, fd, ps, hm, hkp, hb, G⟩ := c.ex
  obtain ⟨t, pt, st⟩ := ha
  refine ⟨tCallXK (spX F.K F.ft ps.length m) ks.length g t, fun X W h tk => ⟨fun pins s σ H Q I hw => ?_⟩, fun ρ C H E σ r Q W R eo hm2 kk => ?_⟩
  · have G' : FnX X.prog X.w X.K X.mg X.base k f fd ps (spX F.K F.ft ps.length m) := by rw [h.prog, h.w, h.K, h.mg, h.base]; exact G
    have hkp' : PySem.W.keepIn X.K (.ref f) = true := by rw [h.K]; exact hkp
    refine wpAny_Call_Name_kw (ld_glob I (h.gl hg) (by rw [h.mg]; exact hm) ?_ hdb)
    refine PySem.W.callWith_KW0 (h₀ := X.base) I.ok.mod.kin hkp' (hall _) (thn ((pt X h).run pos pins s σ H _ I hw) fun ws s1 ⟨zs, H1, I1, rz, hl, q⟩ => ⟨I1.kIn, ?_⟩) (hpl _)
    rw [hks]
    have hlw : ws.length = ks.length := by rw [← rz.length]; exact hl
    have kin : F.K.In s1.heap := by have z := I1.kIn; rw [h.K] at z; exact z
    have go := G'.run X.A X.stack s1 H1 ⟨[], ks.zip ws⟩ (g ws) (g zs) Q (WE W σ) (h.rm.mono hk) h.gu I1.env0 (hb.to s1 ws kin hlw) (hb.vals hl rz) q
    refine wpAny_call (codeAny_mono go fun r s' hq => ?_)
    match r, hq with
    | .ok (.ret u), hq => exact I1.after hq
    | .ok .next, hq => exact (show False from hq).elim
    | .ok .brk, hq => exact (show False from hq).elim
    | .ok .cont, hq => exact (show False from hq).elim
    | .error e, hq => exact passAt tk σ pins H1 s1 e s' I1 hq
  · obtain ⟨⟨xs, C1⟩, h1, hm2⟩ := obind hm2
    have hl := hlen _ _ _ h1
    refine st ρ C H E σ xs C1 _ R eo h1 fun ρ1 H1 vs R1 s1 d1 => ?_
    refine ⟨by rw [← d1.length]; exact hl, ρ1, C1, g xs, r, R1, hb.dvs hl d1, hb.len hl, hm2, ?_⟩
    cases r with
    | ok d C2 => exact fun ρ' H' v R' s' dv => kk ρ' H' v R' (s1.trans s') dv
    | ex c d C2 => exact fun ρ' H' v dd R' s' dv hdd => kk ρ' H' v dd R' (s1.trans s') dv hdd
/-- raise UnknownHolder(e) -/
theorem ssx_uho {n : Nat} {fI : Addr} (T : PySem.UhoX.UhoTxt F.K F.mg (F.ft.exc n).1 fI) (hf : (F.ft.exc n).2 = ("holder" : Str)) (he : SE F e me) (hg : F.sc.names.lookup ("UnknownHolder" : Str) = some .globalImplicit := by rfl) (hst : ∀ env : Env, starEach [e] env = (false, eval e env) :: starEach [] env := by intro _; rfl)
    (hpl : ∀ env : Env, (backTo pos (starEach [] env)).any (·.1) = false := by intro _; rfl) : SSX F (.Raise (some (.Call (.Name "UnknownHolder" p) [e] [] pos)) none pos2) (mRaise n me) := by
  refine ssx_raise (fun X h t ha => ?_) he hst
  have z := pmk_uho (X := X) (p := p) (pos := pos) (by rw [h.K, h.mg]; exact T) h.rm ha (h.gl hg) (hst _) (hpl _)
  intro pins s σ H Q I hw
  refine z pins s σ H Q I ?_
  unfold tMk1 at hw
  rw [hf] at hw
  exact hw
end
/-! ## a def with a table of code objects -/
def fmOfT (P : Program) (w : World) (K : PySem.W.Frag) (mg : Str → Option Value) (base : Heap) (ft : Cfg) (st : Stmt) (N : List Str) (lv : Nat) (n : Nat) : Fm := ⟨P, w, K, mg, base, ft, defScope st, N, lv, fun _ => true, some n⟩
section
variable {P : Program} {w : World} {K : PySem.W.Frag} {mg : Str → Option Value} {base : Heap} {ft : Cfg}
theorem fnG_ofT {x qual : Str} {st : Stmt} {f c : Addr} {N ps : List Str} {k n : Nat} {m : MS} {oc kV doc pm ct : Value} {od an : Option Addr} {osl : Array (Option Value)}
    (lk : K.lookup f = some ⟨oc, od, .func (PySem.W.fnOf x qual (defArgs st) (defBody st) (defScope st) .none kV doc pm an (.ref c) ct), osl⟩) (hcd : PySem.W.codeIn K (.ref c) qual = true) (S : FnScope N ps (defScope st)) (TB : LamX.TabB base mg c (ft.tab n).1) (hq : (envOfC qual (defScope st) 0 0 (.ref c)).qual ++ ("<lambda>" : Str) = (ft.tab n).2)
    (hb : SB (fmOfT P w K mg base ft st N k n) (defBody st) m) :
    FnG P w K mg base (k + 1) f (PySem.W.fnOf x qual (defArgs st) (defBody st) (defScope st) .none kV doc pm an (.ref c) ct) ps (spM K ft ps.length (mFn ps.length N.length m)) := by
  obtain ⟨t, pt, ev⟩ := hb
  refine ⟨fun vs H Q h => ?_, fun A outer s H args us vs Q hr hg e0 hbd r h => ?_⟩
  · obtain ⟨ρ, C, ds, d, C', _, h2, h3, _⟩ := h
    rw [← h2.length, h3]
  obtain ⟨ρ, C, ds, d, C', hR, hD, hl, hm, kk⟩ := h
  have hlv : vs.length = ps.length := by rw [← hD.length, hl]
  have inH : K.In s.heap := e0.mod.kin.keeps fun b o e => (e0.bs b o e).1
  have free : s.heap.NoLimit := e0.mod.nolimit.keeps fun b o e => (e0.bs b o e).1
  refine codeAny_call_function hr.depth (inH _ _ lk) rfl S.co S.gen rfl (PySem.W.codeRec_of inH hcd) (hbd _ _ _ _ ?_)
  refine wpAny_newFunctionEnv_cells S.kind (fun y hy => (S.par y.1 (List.of_mem_zip hy).1).elim .inl fun q => .inr ⟨q, PySem.W.cellsFrom_some _ _ _ (.inl q)⟩) fun env he s1 z => ?_
  subst he
  refine ⟨free.keeps z.toInCall.keep, codeAny_func ?_⟩
  have I := inv_start (CX := CX0) (E := E0) S hr.hd e0 hlv r z
  have is : (fmOfT P w K mg base ft st N k n).Is (cxOf CX0 P w K mg base N qual (defScope st) f (.ref c) A outer s H E0).nox := ⟨rfl, rfl, rfl, rfl, rfl, rfl, rfl, rfl, S.nd, rfl, hg, hr.deeper _, PassesOwn.never, fun n' e => by cases e; exact ⟨hq, c, rfl, TB⟩⟩
  have env0 : EnvF (fmOfT P w K mg base ft st N k n) ρ H (ds.map some ++ List.replicate (N.length - ps.length) none) (L2.start N vs) := by
    unfold L2.start
    rw [hlv]
    exact envOk_start hD
  unfold mFn at hm
  rw [if_pos hl] at hm
  obtain ⟨o, ho, hm⟩ := obind hm
  have wish : t { nx := fun _ H' => Q .non H', rt := Q } (L2.start N vs) H := by
    refine ev ρ C H _ _ o _ hR env0 ho ?_
    cases o with
    | nx E2 C2 => cases hm; exact fun ρ' H' σ' R' s' _ => kk ρ' H' .non R' s' .non
    | rt d2 C2 => cases hm; exact fun ρ' H' v R' s' dv => kk ρ' H' v R' s' dv
    | bk E2 C2 => cases hm
    | ct E2 C2 => cases hm
  have run := (pt _ is).nox.run [] s1 (L2.start N vs) H _ I wish
  refine wpAny_mono run (fun fl s' hs => ?_) fun e s' hs => hs
  cases fl with
  | ret u => obtain ⟨v, σ', H', J, rv, q⟩ := hs; exact ⟨v, H', J.os, J.bare, J.base, J.hok, rv, q⟩
  | next => obtain ⟨σ', H', J, q⟩ := hs; exact ⟨.non, H', J.os, J.bare, J.base, J.hok, rfl, q⟩
  | brk => obtain ⟨_, _, _, q⟩ := hs; exact q.elim
  | cont => obtain ⟨_, _, _, q⟩ := hs; exact q.elim
end
/-! ## the error that a suite holds -/
/-- what the class C of a caught error must say -/
structure Held (K : PySem.W.Frag) (C : Addr) : Prop where
  cl : (PySem.W.clsIn K C).isSome = true
  ga : PySem.W.findIn K (.ref C) "__getattribute__" = some (some (.builtin "BaseException.__getattribute__"))
  gt : PySem.W.findIn K (.ref C) "__getattr__" = some none
  sub : PySem.W.subIn K (.ref C) (.type "BaseException") = some true
  ha : PySem.W.findIn K (.ref C) "__class__" = some (some (.builtin "object.__class__"))
  hn : PySem.W.specialIn K (.builtin "object.__class__") "__get__" = some (some (.builtin "getset_descriptor.__get__"))
  ht : PySem.W.takesIn K (.builtin "object.__class__") = some true
  hm : PySem.W.mroIn K C (.type "object") = some true
  hd : PySem.W.hasDictIn K C = true
theorem Held.xf {K : PySem.W.Frag} {C : Addr} (h : Held K C) : XfC K C := ⟨h.ga, h.gt, h.sub, h.hd⟩
/-- isinstance(e, c), isinstance(e, (c, ..)) -/
def rHeld (K : PySem.W.Frag) (C a : Addr) : List V → Hp → VK → Prop := fun xs H Q => (∃ (c : V) (u : Value) (b : Bool), xs = [.ref a, c] ∧ ClsV c u ∧ PySem.W.kitOne K (.ref C) u = some b ∧ Q (.bl b) H) ∨
  ∃ (tp : Addr) (cs : List V) (us : List Value) (b : Bool), xs = [.ref a, .ref tp] ∧ H tp = some (.tup cs) ∧ Paired ClsV cs us ∧ PySem.W.kitAny K (.ref C) us = some b ∧ Q (.bl b) H
theorem call_held {X : Cx} {a C : Addr} {oe : Obj} {cls : Value} {d : Option Addr} {pn : List (Addr × Obj)} (L : Held X.K C) (hz : Zc cls d oe) (hf : ∃ vs, oe.data = .fields vs) :
    CallR (X.suite a ((a, oe) :: pn)) (.builtin "isinstance") (fun xs H Q => cls = .ref C ∧ (∀ dd, d = some dd → ∃ fs, H dd = some (.xd fs)) ∧ rHeld X.K C a xs H Q) := by
  intro pins s σ H xs us Q I r hw
  obtain ⟨rfl, hx, hw⟩ := hw
  obtain ⟨hget, _⟩ := I.pin (a, oe) (List.mem_append_left _ List.mem_cons_self)
  obtain ⟨vs, hv⟩ := hf
  have J : ∃ od, PySem.W.InstAt s.heap a oe C od := by
    cases hd' : d with
    | none => exact ⟨none, hget, hz.1, by unfold PySem.W.notCls; rw [hv] <;> rfl, by rw [hz.2, hd']; trivial⟩
    | some dd =>
      obtain ⟨fs, e⟩ := hx dd hd'
      obtain ⟨mA, hns, _⟩ := (show ObjOk X.prog X.w H s.heap dd (.xd fs) from I.hok dd _ e)
      obtain ⟨od, ho, _⟩ := lookIn_ns hns
      exact ⟨some od, hget, hz.1, by unfold PySem.W.notCls; rw [hv] <;> rfl, by rw [hz.2, hd']; exact ho⟩
  obtain ⟨od, J⟩ := J
  have Z := PySem.W.kitx_exc (K := X.K) (x := a) (C := C) (ox := oe) (od := od) L.cl L.ga L.gt L.sub L.ha L.hn L.ht L.hm
  rcases hw with ⟨c, u, b, rfl, k, e, q⟩ | ⟨tp, cs, ws, b, rfl, hT, k, e, q⟩
  · obtain ⟨u1, u2, rfl, r1, r2⟩ := vals2 r
    have e2 := k.eq r2
    subst e2
    cases (show u1 = Value.ref a from r1)
    exact PySem.W.kia_one Z I.kIn J e (fun z => nomatch z) fun tk => ⟨.bl b, H, I.tok tk, rfl, q⟩
  · obtain ⟨u1, u2, rfl, r1, r2⟩ := vals2 r
    cases (show u1 = Value.ref a from r1)
    cases (show u2 = Value.ref tp from r2)
    obtain ⟨_, its, rv, o, h1, h2, n, h3⟩ := (show ObjOk X.prog X.w H s.heap tp (.tup cs) from I.hok tp _ hT)
    have e3 := ClsV.all k rv
    subst e3
    obtain ⟨oc, od', dt, sl⟩ := o
    simp only at h2 h3
    subst h2 h3
    exact PySem.W.kia_tup Z I.kIn J h1 e (fun z => nomatch z) fun tk => ⟨.bl b, H, I.tok tk, rfl, q⟩
/-- the laws' outcome: told, or the error's word and field -/
def outc : RO
  | .ok d C => mkTup [.str (Str.ofString "told"), d] C
  | .ex 0 x C => mkTup [.str (Str.ofString "holder"), x] C
  | _ => none
end Mi
set_option Elab.async false
set_option linter.all false
set_option maxRecDepth 100000
set_option maxHeartbeats 4000000
/-! the end of a row whose defs have tables of code objects -/
namespace Mi
open PySem PySem.Spec PyProof.Rows L2
section
variable {P : Program} {w : World} {K : PySem.W.Frag} {mg mb : Str → Option Value} {k : Nat} {fa a : Addr} {cs : List (Addr × Addr)} {fd : FuncData} {x : Str} {sp : SpG} {s₁ : Shared} {vs : List Value} {ns : List Int}
abbrev emptyT : Obj := { cls := .none, data := .fields #[] }
/-- an abstract heap in which nothing is tracked but the tables and, perhaps, the locked script -/
structure Few (cs : List (Addr × Addr)) (a : Addr) (H : Hp) : Prop where
  tab : ∀ p ∈ cs, H p.2 = some (.tbl #[])
  only : ∀ b, H b = none ∨ b ∈ cs.map (·.2) ∨ (b = a ∧ ∃ o xs, H b = some (.frz o (.lst xs)))
theorem law_coreT (KX : K.In s₁.heap) (hns : s₁.heap.Ns mainGlobals mg) (hb : s₁.heap.Ns builtinsNs mb) (hbb : ∀ x : Str, x ≠ "__name__" → mb x = bootBuiltins x) (hlim : s₁.heap.NoLimit) (hg : s₁.gens = #[])
    (hT : ∀ p ∈ cs, s₁.heap.get? p.2 = some emptyT) (nT : ∀ p ∈ cs, K.lookup p.2 = none) (cT : ∀ p ∈ cs, PySem.W.CodeHd s₁.heap p.1 p.2)
    (hbm : ∃ (bm : Addr) (ob : Obj), mg "__builtins__" = some (.ref bm) ∧ bm ≠ builtinsNs ∧ s₁.heap.get? bm = some ob ∧ ob.cls = .type "module" ∧ ob.dict = some builtinsNs ∧ ob.data = .plain)
    (ha : s₁.heap.get? a = some { cls := .type "list", data := .seq vs.toArray }) (hr : Room k callerA)
    (F : ∀ base : Heap, K.In base → base.Ns mainGlobals mg → (∀ p ∈ cs, LamX.TabB base mg p.1 p.2) → FnG P w K mg base k fa fd [x] sp) (hbind : ∀ (s : Shared) (u : Value), BindsTo s fd ⟨[u], []⟩ [(x, u)])
    {H : Hp} (few : Few cs a H) (ok : HOk P w H s₁.heap) (hK : H a ≠ none → K.lookup a = none) (hsp : sp [.ref a] H fun v _ => v = .bl true) : codeAny (model P w) callerA (.call (.ref fa) ⟨[.ref a], []⟩) (LawEnd s₁) s₁ := by
  let B := hidT s₁.heap H
  have isT : ∀ {b}, b ∈ cs.map (·.2) → s₁.heap.get? b = some emptyT := fun h => by
    obtain ⟨p, hp, rfl⟩ := List.mem_map.mp h
    exact hT p hp
  have toB : ∀ {b o}, s₁.heap.get? b = some o → H b = none → B.get? b = some o := fun e n => hidT_get e n
  -- what is neither a list nor an empty record is not tracked
  have un0 : ∀ {b o}, s₁.heap.get? b = some o → (∀ vs n, o.data ≠ .seq vs n) → o.data ≠ .fields #[] → H b = none := fun {b o} e h1 h2 => by
    rcases few.only b with z | z | ⟨rfl, _⟩
    · exact z
    · rw [isT z] at e
      cases e
      exact absurd rfl h2
    · rw [ha] at e
      cases e
      exact absurd rfl (h1 _ _)
  have unD : ∀ {b o es ep}, s₁.heap.get? b = some o → o.data = .dict es ep → H b = none := fun {b o es ep} e d => un0 e (fun vs n z => by rw [d] at z; cases z) fun z => by rw [d] at z; cases z
  have nsB : ∀ {b m}, s₁.heap.Ns b m → B.Ns b m := fun {b m} q => by
    obtain ⟨o, es, ep, e, d, r⟩ := q
    exact ⟨o, es, ep, toB e (unD e d), d, r⟩
  have kB : K.In B := fun b o e => toB (KX b o e) (by
    rcases few.only b with z | z | ⟨rfl, _⟩
    · exact z
    · obtain ⟨p, hp, rfl⟩ := List.mem_map.mp z
      rw [nT p hp] at e
      cases e
    · exact Classical.byContradiction fun h => by rw [hK h] at e; cases e)
  obtain ⟨mc, c1, c2⟩ := hlim
  obtain ⟨bm, ob, b1, b2, b3, b4, b5, b6⟩ := hbm
  obtain ⟨og, eg, pg, g1, g2, g3⟩ := hns
  have tB : ∀ p ∈ cs, LamX.TabB B mg p.1 p.2 := fun p hp => by
    have e0 := hT p hp
    refine ⟨?_, ⟨bm, ob, b1, b2, fun q => ?_, fun q => ?_, toB b3 (un0 b3 (fun vs n z => by rw [b6] at z; cases z) fun z => by rw [b6] at z; cases z), b4, b5, b6⟩, fun z => ?_⟩
    · obtain ⟨o, us, file, tf, flags, tg, inF, text, tt, e1, r1, r2, r3, rest⟩ := cT p hp
      have nf : ∀ vs n, o.data ≠ .seq vs n := fun vs n z => by rw [r2] at z; cases z
      have ne : o.data ≠ .fields #[] := fun z => by
        rw [r2] at z
        cases z
        simp at r3
      exact ⟨o, us, file, tf, flags, tg, inF, text, tt, toB e1 (un0 e1 nf ne), r1, r2, r3, rest⟩
    · rw [q, g1] at b3
      cases b3
      rw [g2] at b6
      cases b6
    · rw [q, e0] at b3
      cases b3
      cases b6
    · rw [z, e0] at g1
      cases g1
      cases g2
  have e0 : Env0 P w K mg B callerA [] s₁ H := ⟨rfl, ⟨kB, nsB ⟨og, eg, pg, g1, g2, g3⟩, ⟨mb, nsB hb, hbb⟩, ⟨mc, nsB c1, c2⟩⟩, fun b o e => of_hidT e, Nat.le_of_eq (hidT_size _ _), trivial, (fun b hb => by cases hb), ok, .of_eq hg⟩
  have go := (F B kB (nsB ⟨og, eg, pg, g1, g2, g3⟩) tB).run callerA [] s₁ H ⟨[.ref a], []⟩ [.ref a] [.ref a] _ hr rfl e0 (hbind s₁ (.ref a)) (.cons rfl .nil) hsp
  refine codeAny_mono go fun r s' h => ?_
  match r, h with
  | .error e, h => exact (show False from h).elim
  | .ok .next, h => exact (show False from h).elim
  | .ok .brk, h => exact (show False from h).elim
  | .ok .cont, h => exact (show False from h).elim
  | .ok (.ret u), h =>
    obtain ⟨v, H', os, bare, un, ok', rv, rfl⟩ := h
    obtain rfl : u = Value.bool true := rv
    have stay : ∀ {b o}, b ∉ cs.map (·.2) → s₁.heap.get? b = some o → s'.heap.get? b = some o := fun {b o} nb e => by
      rcases few.only b with z | z | ⟨_, ob, xs, z⟩
      · exact un.keep b o e z (by intro q; cases q) (by simp)
      · exact absurd z nb
      · have e1 := (ok b _ z).1
        have e2 := (ok' b _ (un.frzs b ob _ z)).1
        rw [e] at e1
        cases e1
        exact e2
    have grew : ∀ p ∈ cs, ∃ more : Array Value, s'.heap.get? p.2 = some { cls := .none, data := .fields (#[] ++ more) } := fun p hp => by
      obtain ⟨more, z⟩ := un.tbls p.2 #[] (few.tab p hp)
      exact ⟨more, ok' p.2 _ z⟩
    refine ⟨rfl, ⟨fun b o e => ?_, fun b o e => ?_⟩, os, bare⟩
    · by_cases nb : b ∈ cs.map (·.2)
      · obtain ⟨p, hp, rfl⟩ := List.mem_map.mp nb
        obtain ⟨more, z⟩ := grew p hp
        rw [hT p hp] at e
        cases e
        exact .inr (.inl ⟨((cT p hp).tab (hT p hp)).isCodeTable, rfl, #[], more, rfl, z⟩)
      · exact .inl (stay nb e)
    · by_cases nb : b ∈ cs.map (·.2)
      · obtain ⟨p, hp, rfl⟩ := List.mem_map.mp nb
        obtain ⟨more, z⟩ := grew p hp
        exact ⟨_, z⟩
      · exact ⟨o, stay nb e⟩
theorem law_callT (KX : K.In s₁.heap) (hns : s₁.heap.Ns mainGlobals mg) (hb : s₁.heap.Ns builtinsNs mb) (hbb : ∀ x : Str, x ≠ "__name__" → mb x = bootBuiltins x) (hlim : s₁.heap.NoLimit) (hg : s₁.gens = #[])
    (hT : ∀ p ∈ cs, s₁.heap.get? p.2 = some emptyT) (nT : ∀ p ∈ cs, K.lookup p.2 = none) (cT : ∀ p ∈ cs, PySem.W.CodeHd s₁.heap p.1 p.2)
    (hbm : ∃ (bm : Addr) (ob : Obj), mg "__builtins__" = some (.ref bm) ∧ bm ≠ builtinsNs ∧ s₁.heap.get? bm = some ob ∧ ob.cls = .type "module" ∧ ob.dict = some builtinsNs ∧ ob.data = .plain)
    (ha : s₁.heap.get? a = some { cls := .type "list", data := .seq vs.toArray }) (hi : IntsAre vs ns) (hl : ns.length ≤ sizeLine) (hr : Room k callerA)
    (F : ∀ base : Heap, K.In base → base.Ns mainGlobals mg → (∀ p ∈ cs, LamX.TabB base mg p.1 p.2) → FnG P w K mg base k fa fd [x] sp) (hbind : ∀ (s : Shared) (u : Value), BindsTo s fd ⟨[u], []⟩ [(x, u)])
    (hsp : ∀ H : Hp, (∀ p ∈ cs, H p.2 = some (.tbl #[])) → SqR K H a (ns.map V.int) → sp [.ref a] H fun v _ => v = .bl true) : codeAny (model P w) callerA (.call (.ref fa) ⟨[.ref a], []⟩) (LawEnd s₁) s₁ := by
  have rv := vals_ints hi
  have hlen : vs.toArray.size ≤ sizeLine := by rw [List.size_toArray, hi.length]; exact hl
  have tabs : ∀ {b}, b ∈ cs.map (·.2) → s₁.heap.get? b = some emptyT := fun h => by
    obtain ⟨p, hp, rfl⟩ := List.mem_map.mp h
    exact hT p hp
  have aT : a ∉ cs.map (·.2) := fun z => by
    have q := tabs z
    rw [ha] at q
    exact nomatch (congrArg Obj.data (Option.some.inj q) : Data.seq vs.toArray _ = Data.fields #[])
  have inT : ∀ p ∈ cs, p.2 ∈ cs.map (·.2) := fun p hp => List.mem_map.mpr ⟨p, hp, rfl⟩
  cases hk : K.lookup a with
  | some o =>
    have e := KX a o hk
    rw [ha] at e
    cases e
    have sq : ∀ H : Hp, SqL K H a (ns.map V.int) := fun H => .inr ⟨_, vs.toArray, _, hk, rfl, rfl, rfl, hlen, by simpa using rv⟩
    let H : Hp := fun b => if b ∈ cs.map (·.2) then some (.tbl #[]) else none
    have tb : ∀ p ∈ cs, H p.2 = some (.tbl #[]) := fun p hp => if_pos (inT p hp)
    refine law_coreT KX hns hb hbb hlim hg hT nT cT hbm ha hr F hbind (H := H) ⟨tb, fun b => ?_⟩ (fun b u z => ?_) (fun z => absurd (if_neg aT) z) (hsp H tb ⟨sq _, fun H' _ => sq H'⟩)
    · by_cases h : b ∈ cs.map (·.2)
      · exact .inr (.inl h)
      · exact .inl (if_neg h)
    · by_cases h : b ∈ cs.map (·.2)
      · have z' := (if_pos h).symm.trans z
        cases z'
        exact tabs h
      · have z' := (if_neg h).symm.trans z
        cases z'
  | none =>
    let H : Hp := fun b => if b = a then some (HO.frz { cls := .type "list", data := .seq vs.toArray } (.lst (ns.map V.int))) else if b ∈ cs.map (·.2) then some (.tbl #[]) else none
    have Ha : H a = some (HO.frz { cls := .type "list", data := .seq vs.toArray } (.lst (ns.map V.int))) := if_pos rfl
    have tb : ∀ p ∈ cs, H p.2 = some (.tbl #[]) := fun p hp => (if_neg (fun z : p.2 = a => aT (z ▸ inT p hp))).trans (if_pos (inT p hp))
    refine law_coreT KX hns hb hbb hlim hg hT nT cT hbm ha hr F hbind (H := H) ⟨tb, fun b => ?_⟩ (fun b u z => ?_) (fun _ => hk) (hsp H tb ⟨.inl (.inr ⟨_, Ha⟩), fun H' kp => .inl (.inr ⟨_, kp a _ _ Ha⟩)⟩)
    · by_cases h : b = a
      · exact .inr (.inr ⟨h, _, _, by rw [h]; exact Ha⟩)
      · by_cases h2 : b ∈ cs.map (·.2)
        · exact .inr (.inl h2)
        · exact .inl ((if_neg h).trans (if_neg h2))
    · by_cases h : b = a
      · subst h
        have z' := Ha.symm.trans z
        cases z'
        exact ⟨ha, by rw [List.length_map]; exact hl, vs, _, rv, ha⟩
      · by_cases h2 : b ∈ cs.map (·.2)
        · have z' := ((if_neg h).trans (if_pos h2)).symm.trans z
          cases z'
          exact tabs h2
        · have z' := ((if_neg h).trans (if_neg h2)).symm.trans z
          cases z'
end
theorem walkT {l : PySem.W.OpenLaw} {n k : Nat} {q : Program} {loose : List Str} {XP : (Str → Option Value) → Heap → Prop} {YP : World → Heap → Prop} {d : DefRec} {K : Params → PySem.W.Frag} {sp : PySem.W.Frag → List (Addr × Addr) → SpG} {x : Str}
    (hn : l.most = some n) (hn2 : n ≤ sizeLine) (hdf : d.params.defaults = []) (hr : Room k callerA) (hY : ∀ (w : World) (h : Heap), YP w h → (K w.params).In h)
    (F : ∀ (w : World) (mg : Str → Option Value) (fa : Addr) (h : Heap), YP w h → (K w.params).In h → h.Ns mainGlobals mg → mg d.name = some (.ref fa) → ∃ (fd : FuncData) (cs : List (Addr × Addr)), (∀ (s : Shared) (u : Value), BindsTo s fd ⟨[u], []⟩ [(x, u)]) ∧
        (∀ p ∈ cs, h.get? p.2 = some emptyT ∧ (K w.params).lookup p.2 = none ∧ PySem.W.CodeHd h p.1 p.2) ∧
        ∀ base : Heap, (K w.params).In base → base.Ns mainGlobals mg → (∀ p ∈ cs, LamX.TabB base mg p.1 p.2) → FnG l.prog w (K w.params) mg base k fa fd [x] (sp (K w.params) cs))
    (hsp : ∀ (K : PySem.W.Frag) (cs : List (Addr × Addr)) (H : Hp) (a : Addr) (ns : List Int), (∀ p ∈ cs, H p.2 = some (.tbl #[])) → ns.length ≤ n → SqR K H a (ns.map V.int) → sp K cs [.ref a] H fun v _ => v = .bl true) : PySem.W.WalkO q loose XP YP l.row.toRowW d [] (fun f vs => PySem.call f vs) := by
  refine Att.attach_call hn hdf fun w s₀ s₁ mg mb fa o pm cd doc a vs ns G Y ho hd hcd hmg hobj hints hlen hg => ?_
  obtain ⟨fd, cs, hb, hc, hF⟩ := F w mg fa _ Y (hY w _ Y) G.T.g hmg
  exact law_callT (hY w _ Y) G.T.g G.T.b G.T.builtins G.T.nolimit hg (fun p hp => (hc p hp).1) (fun p hp => (hc p hp).2.1) (fun p hp => (hc p hp).2.2) G.T.bmain hobj hints (Nat.le_trans hlen hn2) hr hF hb fun H tb sq => hsp _ cs H a ns tb hlen sq
/-- a law's def with one table: its mirror gives True for every script, from the heap with the table -/
theorem spM_lawT {ft : Cfg} {m : MF} {n : Nat} {P : Addr} (hP : (ft.tab 0).1 = P) (h : ∀ ns : List Int, ns.length ≤ n → ∃ C', m [.scr ns] [.tab 0] = some (.bl true, C')) (K : PySem.W.Frag) (H : Hp) (a : Addr) (ns : List Int) (hH : H P = some (.tbl #[])) (hl : ns.length ≤ n) (sq : SqR K H a (ns.map V.int)) : spM K ft 1 m [.ref a] H fun v _ => v = .bl true := by
  obtain ⟨C', e⟩ := h ns hl
  have R : Rel K ft [P] H [.tab 0] := Rel.nil.push (by simp) ⟨hP.symm, #[], hH, True.intro, fun pos cv z => by simp [codeAmong] at z⟩
  exact ⟨[P], [.tab 0], [.scr ns], .bl true, C', R, .cons (.scr sq) .nil, rfl, e, fun ρ' H' v _ _ dv => by cases dv; rfl⟩
end Mi
set_option Elab.async false
set_option linter.all false
set_option maxRecDepth 100000
set_option maxHeartbeats 4000000
namespace Mi
open PySem PySem.Spec PyProof.Rows L2
/-! ## sets of texts -/
def txt (e : Int × Value) : Str := match e.2 with | .str x _ => x | _ => Str.empty
def IsT (w : World) (e : Int × Value) : Prop := ∃ x t, e.2 = Value.str x t ∧ e.1 = hashStr w x
/-- what a table of texts keeps: S its members -/
structure TabS (w : World) (S : Str → Bool) (n : Nat) (es : Array (Int × Value)) (t : SetTable) : Prop where
  good : ∀ e ∈ es.toList, IsT w e
  nd : (es.toList.map txt).Nodup
  mem : ∀ x, S x = true ↔ x ∈ es.toList.map txt
  few : es.size < scanBound
  fits : t.fits es.size = true
  num : es.size = n
  up : Ris t.place.toList
  led : w.params.followText "set-order" = true ∨ t.led = true
def SetS (w : World) (h : Heap) (a : Addr) (S : Str → Bool) (n : Nat) : Prop := ∃ o es ep t, h.get? a = some o ∧ o.ExactSet ∧ o.data = .set es ep t ∧ TabS w S n es t
section
variable {P : Program} {w : World} {h h' : Heap} {a : Addr} {S S' : Str → Bool} {n : Nat} {es : Array (Int × Value)} {t : SetTable}
theorem SetS.at (R : SetS w h a S n) (k : ∀ o, h.get? a = some o → h'.get? a = some o) : SetS w h' a S n := let ⟨o, es, ep, t, e, r⟩ := R; ⟨o, es, ep, t, k o e, r⟩
theorem SetS.cong (R : SetS w h a S n) (e : ∀ x, S' x = S x) : SetS w h a S' n := (funext e : S' = S) ▸ R
theorem isT_elems {l : List (Int × Value)} (g : ∀ e ∈ l, IsT w e) : ElemsOf (strKind P w) l := fun e he => by
  obtain ⟨x, t, e1, e2⟩ := g e he
  refine ⟨⟨x, ?_, e2⟩, ?_⟩
  · rw [e1]; exact strKind_is P w x t
  · rw [e1] <;> rfl
theorem isT_is {e : Int × Value} (g : IsT w e) (x : Str) : (strKind P w).is x e.2 = true ↔ txt e = x := by
  obtain ⟨y, t, e1, _⟩ := g
  unfold txt
  rw [e1]
  show ((y == x) = true) ↔ y = x
  exact beq_iff_eq
theorem mem_txt {l : List (Int × Value)} (g : ∀ e ∈ l, IsT w e) (x : Str) : x ∈ l.map txt ↔ ∃ e ∈ l, (strKind P w).is x e.2 = true :=
  List.mem_map.trans ⟨fun ⟨e, he, q⟩ => ⟨e, he, (isT_is (g e he) x).mpr q⟩, fun ⟨e, he, q⟩ => ⟨e, he, (isT_is (g e he) x).mp q⟩⟩
theorem SetS.setOf (R : SetS w h a S n) : h.SetOf (strKind P w) a S n := let ⟨o, es, ep, t, ho, hx, hd, T⟩ := R; ⟨o, es, ep, t, ho, hx, hd, isT_elems T.good, fun x => (T.mem x).trans (mem_txt T.good x), T.few, T.fits, T.num⟩
theorem setS_new (ho : h.get? a = some (emptySet w)) : SetS w h a (fun _ => false) 0 :=
  ⟨_, #[], 0, _, ho, ⟨rfl, rfl, rfl⟩, rfl, ⟨fun e he => by simp at he, by simp, fun x => by simp, by decide, by rfl, rfl, List.Pairwise.nil, by
    show _ ∨ (!w.params.followText "set-order") = true
    cases w.params.followText "set-order" <;> simp⟩⟩
end
section
variable {P : Program} {w : World} {A : Around} {E : Value → Shared → Prop} {s : Shared} {a : Addr} {S : Str → Bool} {n : Nat}
/-- what is laid is stored, and the table laid anew if it is too full -/
theorem storeS {g : Bool → Sem Unit} (hg : ∀ (b : Bool) (s1 : Shared) (Q : Unit → Shared → Prop), Q () s1 → wpAny (model P w) A (g b) Q E s1) {o : Obj} {es es1 : Array (Int × Value)} {ep m : Nat} {t t2 : SetTable} {S' : Str → Bool}
    (ho : s.heap.get? a = some o) (hx : o.ExactSet) (hd : o.data = .set es ep t) (T : TabS w S' m es1 t2) {dummy : Bool} {R : Option Bool → Shared → Prop} (k : ∀ h', Heap.SameBut a s.heap h' → SetS w h' a S' m → R (some true) { s with heap := h' }) :
    wpAny (model P w) A (do
        storeSet a es1 t2
        if (!dummy && t2.tooFull) = true then do
          g (relayAll t2 es1 (SetTable.grown es1.size)).2.2
          storeSet a (relayAll t2 es1 (SetTable.grown es1.size)).1 (relayAll t2 es1 (SetTable.grown es1.size)).2.1
          pure (some true)
        else pure (some true)) R E s := by
  refine wpAny_bind (wpAny_storeSet_of ho hd ?_ (fits_of_scanBound T.few))
  have o1 := store_at (es' := es1) (t' := t2) ho hd
  have b1 := Heap.SameBut.update s.heap a (Obj.putSet es1 t2)
  split
  · have pm := relayAll_perm t2 es1 (SetTable.grown es1.size)
    have ft := relayAll_fits t2 es1 (SetTable.grown es1.size)
    have ri := relayAll_ris t2 es1 (SetTable.grown es1.size)
    have ld := relayAll_led t2 es1 (SetTable.grown es1.size)
    generalize relayAll t2 es1 (SetTable.grown es1.size) = z at pm ft ri ld ⊢
    obtain ⟨es2, t3, gave⟩ := z
    dsimp only at pm ft ri ld ⊢
    have sz : es2.size = es1.size := by rw [← Array.length_toList, pm.length_eq, Array.length_toList]
    have fw : es2.size < scanBound := sz ▸ T.few
    refine wpAny_bind (hg _ _ _ (wpAny_bind (wpAny_storeSet_of o1 rfl ?_ (fits_of_scanBound fw))))
    refine wpAny_pure (k _ (b1.trans (Heap.SameBut.update _ a _)) ⟨_, es2, _, t3, store_at (es' := es2) (t' := t3) o1 rfl, hx, rfl, ?_⟩)
    exact ⟨fun e he => T.good e (pm.mem_iff.mp he), (pm.map txt).nodup_iff.mpr T.nd, fun x => (T.mem x).trans (pm.map txt).mem_iff.symm, fw, ft, sz.trans T.num, ri, T.led.imp id fun z => ld.trans z⟩
  · exact wpAny_pure (k _ b1 ⟨_, es1, _, t2, o1, hx, rfl, T⟩)
theorem TabS.off {w : World} {S : Str → Bool} {n : Nat} {es : Array (Int × Value)} {t t' : SetTable} (T : TabS w S n es t) (hf : t'.fits es.size = true) (hr : Ris t'.place.toList) (hl : t'.led = t.led) : TabS w S n es t' := ⟨T.good, T.nd, T.mem, T.few, hf, T.num, hr, T.led.imp id fun z => hl.trans z⟩
theorem addS_hashed {x : Str} {tk : Tok} {Q : Bool → Shared → Prop} (R : SetS w s.heap a S n) (room : n + 1 < scanBound)
    (k : ∀ h' m, m ≤ n + 1 → Heap.SameBut a s.heap h' → SetS w h' a (fun y => S y || decide (y = x)) m → Q (!S x) { s with heap := h' }) : wpAny (model P w) A (setAddHashed a (.str x tk) (hashStr w x)) Q E s := by
  obtain ⟨o, es, ep, t, ho, hx, hd, T⟩ := R
  have key : (strKind P w).is x (.str x tk) = true := strKind_is P w x tk
  have sc : (Value.str x tk).scannable = true := rfl
  have el : ElemsOf (strKind P w) es.toList := isT_elems T.good
  unfold setAddHashed setAddHashedIn
  refine wpAny_holding (wpAny_bind (wpAny_setState_of ho hd T.fits ?_))
  dsimp only
  rw [byScan_of sc T.few el]
  simp only [↓reduceIte]
  unfold setAddByScan
  refine wpAny_bind (wpAny_bind (wpAny_rule (wpAny_bind (wpAny_setScan_of key ho hd T.fits el ?_))))
  cases hfi : List.findIdx? (fun e => (strKind P w).is x e.2) es.toList with
  | some j =>
    obtain ⟨hj, pj, _⟩ := List.findIdx?_eq_some_iff_getElem.mp hfi
    have there : S x = true := (T.mem x).mpr ((mem_txt (P := P) T.good x).mpr ⟨es.toList[j], List.getElem_mem hj, pj⟩)
    have q := k s.heap n (Nat.le_succ n) (Heap.SameBut.refl a s.heap) ((show SetS w s.heap a S n from ⟨o, es, ep, t, ho, hx, hd, T⟩).cong fun y => by
      by_cases e : y = x
      · rw [e, there]; rfl
      · simp [e])
    rw [there] at q
    exact wpAny_pure (wpAny_pure q)
  | none =>
    have fresh : x ∉ es.toList.map txt := fun z => by
      obtain ⟨e, he, q⟩ := (mem_txt (P := P) T.good x).mp z
      have c := List.findIdx?_eq_none_iff.mp hfi e he
      rw [q] at c
      cases c
    have out : S x = false := Bool.eq_false_iff.mpr fun z => fresh ((T.mem x).mp z)
    have gave : ∀ (b : Bool) {s1 : Shared} {Q' : Unit → Shared → Prop}, Q' () s1 → wpAny (model P w) A (match b with | true => rule "set.scan.the-table-gave-way" | false => pure ()) Q' E s1 := fun b s1 Q' q => by
      cases b
      · exact wpAny_pure q
      · exact wpAny_rule q
    have pm := layNew_perm t es ((strKind P w).hash x) (.str x tk)
    have ft := layNew_fits t es ((strKind P w).hash x) (.str x tk)
    have ri := layNew_ris t es ((strKind P w).hash x) (.str x tk) T.up
    have ld := layNew_led t es ((strKind P w).hash x) (.str x tk)
    show wpAny _ A _ _ _ _
    have hh : (strKind P w).hash x = hashStr w x := rfl
    rw [← hh]
    generalize layNew t es ((strKind P w).hash x) (.str x tk) = Z at pm ft ri ld ⊢
    obtain ⟨es1, t1, dummy, way⟩ := Z
    dsimp only at pm ft ri ld ⊢
    rw [Array.toList_push] at pm
    have pc : es1.toList.Perm ((hashStr w x, Value.str x tk) :: es.toList) := pm.trans (List.perm_append_singleton _ _)
    have pk : (es1.toList.map txt).Perm (x :: es.toList.map txt) := pc.map txt
    have sz : es1.size = n + 1 := by rw [← Array.length_toList, pc.length_eq, List.length_cons, Array.length_toList, T.num]
    have T1 : TabS w (fun y => S y || decide (y = x)) (n + 1) es1 t1 := by
      refine ⟨fun e he => ?_, pk.nodup_iff.mpr (List.nodup_cons.mpr ⟨fresh, T.nd⟩), fun y => ?_, sz ▸ room, ft, sz, ri, T.led.imp id fun z => ld.trans z⟩
      · rcases List.mem_cons.mp (pc.mem_iff.mp he) with z | z
        · exact z ▸ ⟨x, tk, rfl, rfl⟩
        · exact T.good e z
      · rw [Bool.or_eq_true, decide_eq_true_iff, T.mem y, pk.mem_iff, List.mem_cons]
        exact Or.comm
    have fin : ∀ h', Heap.SameBut a s.heap h' → SetS w h' a (fun y => S y || decide (y = x)) (n + 1) → Q true { s with heap := h' } := fun h' sb r => by
      have q := k h' _ (Nat.le_refl _) sb r
      rw [out] at q
      exact q
    refine wpAny_bind (gave _ ?_)
    split
    · refine wpAny_bind ?_
      rw [hashByValue_scannable 8 sc]
      refine wpAny_pure (storeS (fun b s1 Q' q => gave b q) ho hx hd (T1.off ?_ ?_ ?_) fun h' sb r => wpAny_pure (fin h' sb r))
      · first | exact ft | (split <;> first | exact ft | exact SetTable.fits_plain_off ft)
      · first | exact ri | (split <;> exact ri)
      · first | rfl | (split <;> rfl)
    · refine wpAny_bind (wpAny_pure ?_)
      simp only [↓reduceIte]
      exact storeS (fun b s1 Q' q => gave b q) ho hx hd T1 fun h' sb r => wpAny_pure (fin h' sb r)
end
end Mi
set_option Elab.async false
set_option linter.all false
set_option maxRecDepth 100000
set_option maxHeartbeats 4000000
namespace Mi
open PySem PySem.Spec PyProof.Rows L2
theorem str_item {us : List Value} {xs : List Str} (h : StrsAre us xs) : ∀ (i : Nat) (v : Value), us[i]? = some v → ∃ t, v = .str (xs.getD i Str.empty) t := by
  induction h with
  | nil => intro i v e; simp at e
  | cons x t _ ih =>
    intro i v e
    cases i with
    | zero => simp at e; exact ⟨t, by rw [← e]; rfl⟩
    | succ i => simpa using ih i v (by simpa using e)
section
variable {P : Program} {w : World} {A : Around} {E : Value → Shared → Prop} {s : Shared} {a : Addr} {S : Str → Bool} {n : Nat}
/-! ## a text more -/
theorem addS {x : Str} {tk : Tok} {Q : Value → Shared → Prop} (R : SetS w s.heap a S n) (room : n + 1 < scanBound) (k : ∀ h' m, m ≤ n + 1 → Heap.SameBut a s.heap h' → SetS w h' a (fun y => S y || decide (y = x)) m → Q .none { s with heap := h', toks := s.toks + 1 }) :
    wpAny (model P w) A (call (.builtin "set.add") [.ref a, .str x tk]) Q E s := by
  have R2 : s.heap.SetOf (strKind P w) a S n := R.setOf
  refine wpAny_call_entry F.slot_set_add R2.typeIs F.entry_set_add ?_ (F.args_set_add_2 _ _)
  unfold Builtin.«set.add» Builtin.Frozenset.oneOther Builtin.Frozenset.addrOf setAdd
  simp only [List.isEmpty_nil, bind_assoc]
  refine wpAny_bind (wpAny_pure (wpAny_bind (wpAny_pure (wpAny_bind (wpAny_holding (wpAny_bind ((strKind P w).pyHash (strKind_is P w x tk) ?_)))))))
  refine addS_hashed (s := { s with toks := s.toks + 1 }) R room fun h' m hm sb r => ?_
  exact wpAny_pure ⟨_, rfl, k h' m hm sb r⟩
/-! ## set(of a list of texts) -/
theorem upd_texts {I : Addr} {fp wr : List Addr} {G : Array GenState → Array GenState → Prop} {n : Nat} {Pv : Nat → Value → Prop} {St : Nat → Shared → Prop} {R : Result → Shared → Prop} (W : WalksS P w A.in1 I fp wr G n Pv St) (D : Addr) (out : D ∉ fp) (ns : List Str) (hn : n = ns.length) (few : ns.length + 1 < scanBound) (val : ∀ i v, Pv i v → ∃ x t, ns[i]? = some x ∧ v = .str x t) :
    ∀ (k i : Nat) (s : Shared), n - i = k → i ≤ n → St i s → (∃ c, c ≤ i ∧ SetS w s.heap D (fun y => decide (y ∈ ns.take i)) c) → (∀ s' c, Moved (D :: wr) G s s' → c ≤ n → SetS w s'.heap D (fun y => decide (y ∈ ns)) c → R (.ok (.ret .none)) s') → codeAny (model P w) A (.builtin "set.update.loop" ⟨[.ref D, .ref I], []⟩) R s := by
  have nw : D ∉ wr := fun h => out (W.sub _ h)
  have into : ∀ b ∈ wr, b ∈ D :: wr := fun b hb => List.mem_cons_of_mem _ hb
  intro k
  induction k with
  | zero =>
    rintro i s hk hi st ⟨c, hc, hS⟩ fin
    obtain rfl : i = n := by omega
    refine codeAny_builtin F.entry_set_update_loop ?_
    rw [Around.under_plainId F.plain_set_update_loop _]
    show wpAny _ A.in1 (pyNext (.ref I) >>= _) _ _ s
    refine wpAny_bind (W.done s _ _ st fun s' mv => ?_)
    have e : ns.take i = ns := List.take_of_length_le (by omega)
    rw [e] at hS
    exact wpAny_pure (fin s' c (mv.mono into) hc (hS.at fun o e => mv.heap D o nw e))
  | succ k ih =>
    rintro i s hk hi st ⟨c, hc, hS⟩ fin
    have lt : i < n := by omega
    refine codeAny_builtin F.entry_set_update_loop ?_
    rw [Around.under_plainId F.plain_set_update_loop _]
    show wpAny _ A.in1 (pyNext (.ref I) >>= _) _ _ s
    refine wpAny_bind (W.item i s _ _ lt st fun v s' pv st' mv => ?_)
    obtain ⟨x, t, hx, rfl⟩ := val i v pv
    have hS' : SetS w s'.heap D (fun y => decide (y ∈ ns.take i)) c := hS.at fun o e => mv.heap D o nw e
    show wpAny _ A.in1 (holding [Value.str x t] (setAdd D (.str x t)) >>= _) _ _ s'
    refine wpAny_bind (wpAny_holding ?_)
    unfold setAdd
    refine wpAny_holding (wpAny_bind ((strKind P w).pyHash (k := x) (strKind_is _ _ _ _) ?_))
    refine addS_hashed (s := { s' with toks := s'.toks + 1 }) hS' (by omega) fun h' m hm sb hS2 => ?_
    have hS3 : SetS w h' D (fun y => decide (y ∈ ns.take (i + 1))) m := hS2.cong fun y => by
      rw [List.take_add_one, hx]
      simp [List.mem_append]
    refine wpAny_pure ⟨plainId_quiet F.plain_set_update_loop _, ih (i + 1) _ (by omega) lt (W.frame _ s' _ _ st' (Nat.le_succ _) fun b hb o e => (sb.2 b fun h : b = D => out (h ▸ hb)).trans e) ⟨m, by omega, hS3⟩ fun s2 c2 mv2 hc2 hS4 => ?_⟩
    exact fin s2 c2 (Moved.trans W.gtrans ((mv.mono into).then_heap (Nat.le_succ _) fun b o hb e => (sb.2 b fun h : b = D => hb (h ▸ List.mem_cons_self)).trans e) mv2) hc2 hS4
set_option maxHeartbeats 3200000 in
theorem set_of_texts {l : Addr} {items : Array Value} (ns : List Str) {Q : Value → Shared → Prop} (noH : A.handled = none) (isl : s.heap.IsList l items) (ixs : StrsAre items.toList ns) (few : ns.length + 1 < scanBound)
    (fin : ∀ (h' : Heap) (tk c : Nat), SetS w h' s.heap.objs.size (fun j => decide (j ∈ ns)) c → c ≤ ns.length → (∀ b o, s.heap.get? b = some o → h'.get? b = some o) → Q (.ref s.heap.objs.size) { s with heap := h', toks := tk }) : wpAny (model P w) A (call (.type "set") [.ref l]) Q E s := by
  have sz : items.size = ns.length := by have q := StrsAre.length ixs; rwa [Array.length_toList] at q
  obtain ⟨c, tl, mro⟩ := PySem.F.called_set.mro
  have m1 := PySem.F.called_set.made
  have m2 := PySem.F.called_set.sub
  refine wpAny_call (codeAny_of_tree ?_); show wpAny _ _ (callAny (.type "set") _) _ _ _
  refine wpAny_pure ⟨Code.quiet_builtin _ (by decide +kernel), codeAny_builtin PySem.F.entry_type_call ?_⟩
  rw [Around.under_plain (weight_type_call_type "set" [.ref l] []) rfl]
  have m3 := PySem.F.called_set.notType
  have m4 := PySem.F.called_set.canCreate
  have m5 := PySem.F.typeCall_set_1 (.ref l)
  repeat (any_goals (first | assumption | wp_step))
  refine codeAny_mono (code_set_led1 (.ref l) (E := E) (Q₁ := fun obj t => obj = .ref s.heap.objs.size ∧ t = { s with heap := s.heap.push (emptySet w) }) ⟨rfl, rfl⟩) fun r t hr => ?_
  match r, hr with
  | .error e, hr => exact hr
  | .ok .next, hr => exact hr.elim
  | .ok .brk, hr => exact hr.elim
  | .ok .cont, hr => exact hr.elim
  | .ok (.ret obj), hr =>
    obtain ⟨rfl, rfl⟩ := hr
    have gS : (s.heap.push (emptySet w)).get? s.heap.objs.size = some (emptySet w) := Heap.get?_push_size _ rfl
    have tS : Shared.TypeIs { s with heap := s.heap.push (emptySet w) } (.ref s.heap.objs.size) "set" := ⟨_, gS, rfl⟩
    have i1 := PySem.F.called_set.init.lookup
    have i2 := PySem.F.called_set.init.bind (.ref s.heap.objs.size)
    repeat (any_goals (first | assumption | wp_step))
    refine codeAny_mono (codeAny_call_builtin (R := wants (fun r t => r = .none ∧ ∃ h' tk c, t = { s with heap := h', toks := tk } ∧ SetS w h' s.heap.objs.size (fun j => decide (j ∈ ns)) c ∧ c ≤ ns.length ∧ ∀ b o, s.heap.get? b = some o → h'.get? b = some o) E) PySem.F.called_set.init.plain PySem.F.entry_set_init (check_set_init_1 tS ?_)) fun r₂ t₂ hr₂ => ?_
    · obtain ⟨ol, hol, cl, nl, dl⟩ := isl
      obtain ⟨oc, od, odt, osl⟩ := ol
      simp only at cl dl
      subst cl dl
      have j0 : (s.heap.push (emptySet w)).get? l = some { cls := .type "list", dict := od, data := .seq items nl, slots := osl } := Heap.get?_push_of_some _ hol
      have j1 := PySem.F.sub_list_set
      have j2 := PySem.F.sub_list_frozenset
      have j3 : (Value.type "list" == Value.type "dict") = false := by decide
      have j4 : (s.heap.push (emptySet w)).IsList l items := ⟨_, j0, rfl, nl, rfl⟩
      unfold Builtin.«set.__init__» noKeywords Builtin.Frozenset.updateFrom
      generalize hIt : pyIter = It
      wp_walk
      subst hIt
      refine wpAny_pyIter_list j4 (wpAny_bind (wpAny_runValue ?_))
      have ll : l < s.heap.objs.size := Heap.lt_size hol
      have noH3 : A.in1.in1.in1.handled = none := by simp [noH]
      have z1 : (s.heap.push (emptySet w)).objs.size = s.heap.objs.size + 1 := Heap.size_push ..
      have lI : l ≠ (s.heap.push (emptySet w)).objs.size := by rw [z1]; exact Nat.ne_of_lt (Nat.lt_succ_of_lt ll)
      have nS : s.heap.objs.size ∉ [(s.heap.push (emptySet w)).objs.size, l] := by
        rw [z1]
        intro z
        rcases List.mem_cons.mp z with z | z
        · exact absurd z (Nat.ne_of_lt (Nat.lt_succ_self _))
        · exact absurd (List.mem_singleton.mp z) (Nat.ne_of_gt ll)
      have val : ∀ (i : Nat) (v : Value), items[i]? = some v → ∃ x t, ns[i]? = some x ∧ v = .str x t := fun i v hv => by
        have hi : i < ns.length := by rw [← sz]; exact (Array.getElem?_eq_some_iff.mp hv).1
        obtain ⟨t, e⟩ := str_item ixs i v (by rw [Array.getElem?_toList]; exact hv)
        refine ⟨ns[i], t, List.getElem?_eq_getElem hi, ?_⟩
        rw [e, List.getD_eq_getElem?_getD, List.getElem?_eq_getElem hi]; rfl
      refine upd_texts ((Walks.list noH3 _ l lI items).toS) s.heap.objs.size nS ns sz few val (items.size - 0) 0 _ (by omega) (Nat.zero_le _) ⟨⟨_, Heap.get?_push_size _ rfl, rfl, rfl⟩, (j4.push _)⟩ ?start ?stop
      case start => exact ⟨0, Nat.le_refl 0, (setS_new (Heap.get?_push_of_some _ gS)).cong fun y => by simp⟩
      case stop =>
        intro t' c' mv hc' hS'
        obtain ⟨h', g2, d', tk', os'⟩ := t'
        have eg : g2 = s.gens := mv.gens
        have ed : d' = s.drawn := mv.drawn
        have eo : os' = s.os := mv.os
        subst eg ed eo
        refine wpAny_pure ?_
        rw [sz] at hc'
        refine wpAny_pure ⟨rfl, h', tk', c', rfl, hS', hc', fun b o e => ?_⟩
        have hb0 : b < s.heap.objs.size := Heap.lt_size e
        refine mv.heap b o (fun z => ?_) (Heap.get?_push_of_some _ (Heap.get?_push_of_some _ e))
        rcases List.mem_cons.mp z with z | z
        · exact absurd z (Nat.ne_of_lt hb0)
        · rw [z1] at z
          exact absurd (List.mem_singleton.mp z) (Nat.ne_of_lt (Nat.lt_succ_of_lt hb0))
    · match r₂, hr₂ with
      | .error e, hr₂ => exact hr₂
      | .ok .next, hr₂ => exact hr₂.elim
      | .ok .brk, hr₂ => exact hr₂.elim
      | .ok .cont, hr₂ => exact hr₂.elim
      | .ok (.ret r), hr₂ =>
        obtain ⟨rfl, h', tk, c', rfl, hS', hc', hk'⟩ := hr₂
        repeat (any_goals (first | assumption | wp_step))
        exact fin _ _ _ hS' hc' hk'
end
end Mi
set_option Elab.async false
set_option linter.all false
set_option maxRecDepth 100000
set_option maxHeartbeats 4000000
namespace Mi
open PySem PySem.Spec PyProof.Rows L2
/-! ## texts in order -/
def sLt (a b : Str) : Bool := PySem.W.dataLt (.str a) (.str b)
theorem sLt_irr (a : Str) : sLt a a = false := PySem.W.dataLt_self _
theorem sLt_tri {a b : Str} (h : sLt a b = false) (k : sLt b a = false) : a = b := by
  unfold sLt at h k
  rw [PySem.W.dataLt_str] at h k
  have h := of_decide_eq_false h
  have k := of_decide_eq_false k
  have e : a.cps.toList = b.cps.toList := List.le_antisymm (List.not_lt.mp k) (List.not_lt.mp h)
  cases a; cases b
  simp only [Str.mk.injEq]
  exact Array.toList_inj.mp e
theorem sLt_tr {a b c : Str} (h : sLt a b = true) (k : sLt b c = true) : sLt a c = true := by
  unfold sLt at *
  rw [PySem.W.dataLt_str] at *
  exact decide_eq_true (List.lt_trans (of_decide_eq_true h) (of_decide_eq_true k))
def srtS (l : List Str) : List Str := l.mergeSort (PySem.W.dataLe false PyData.str)
theorem srtS_perm (l : List Str) : (srtS l).Perm l := List.mergeSort_perm l _
theorem srtS_up {l : List Str} (nd : l.Nodup) : (srtS l).Pairwise fun a b => sLt a b = true := by
  have h1 : (srtS l).Pairwise (fun a b => PySem.W.dataLe false PyData.str a b = true) := PySem.W.sort_pairwise (PySem.W.sortLe_total (PyProof.Rows.listOrd PyProof.Rows.itemOrd) false fun b => PySem.W.keyToks (PyData.str b)) l
  have h2 : (srtS l).Nodup := (srtS_perm l).nodup_iff.mpr nd
  refine (h1.and h2).imp fun {a b} h => ?_
  have e : sLt b a = false := by
    have := h.1
    rw [PySem.W.dataLe_eq] at this
    simpa [sLt] using this
  cases q : sLt a b with
  | true => rfl
  | false => exact absurd (sLt_tri q e) h.2
/-- two rows in order with the same members are one -/
theorem up_one : ∀ {l m : List Str}, l.Pairwise (fun a b => sLt a b = true) → m.Pairwise (fun a b => sLt a b = true) → (∀ x, x ∈ l ↔ x ∈ m) → l = m
  | [], [], _, _, _ => rfl
  | [], b :: m, _, _, h => absurd ((h b).mpr (by simp)) (by simp)
  | a :: l, [], _, _, h => absurd ((h a).mp (by simp)) (by simp)
  | a :: l, b :: m, p, q, h => by
    obtain ⟨p1, p2⟩ := List.pairwise_cons.mp p
    obtain ⟨q1, q2⟩ := List.pairwise_cons.mp q
    have ab : a = b := by
      rcases List.mem_cons.mp ((h a).mp (by simp)) with e | e
      · exact e
      · rcases List.mem_cons.mp ((h b).mpr (by simp)) with f | f
        · exact f.symm
        · have := sLt_tr (q1 a e) (p1 b f)
          rw [sLt_irr] at this; cases this
    subst ab
    refine congrArg (a :: ·) (up_one p2 q2 fun x => ⟨fun hx => ?_, fun hx => ?_⟩)
    · rcases List.mem_cons.mp ((h x).mp (by simp [hx])) with e | e
      · have := p1 x hx
        rw [e, sLt_irr] at this; cases this
      · exact e
    · rcases List.mem_cons.mp ((h x).mpr (by simp [hx])) with e | e
      · have := q1 x hx
        rw [e, sLt_irr] at this; cases this
      · exact e
/-! ## sorted(of a set of texts) -/
def txtV (v : Value) : Str := match v with | .str x _ => x | _ => Str.empty
theorem each_txt {h : Heap} : ∀ (vs : List Value), (∀ v ∈ vs, ∃ x t, v = Value.str x t) → PySem.W.EachIs (fun v x => ∃ t, v = Value.str x t) vs (vs.map txtV) ∧ PySem.W.EachIs (fun v x => ∃ as, Reads h v (.str x) as) vs (vs.map txtV)
  | [], _ => ⟨.nil, .nil⟩
  | v :: vs, e => by
    obtain ⟨x, t, rfl⟩ := e v (by simp)
    obtain ⟨a, b⟩ := each_txt (h := h) vs fun u hu => e u (by simp [hu])
    exact ⟨.cons ⟨t, rfl⟩ a, .cons ⟨[], .str x t⟩ b⟩
theorem each_txt2 {h : Heap} {p : Addr} : ∀ (vs : List Value), (∀ v ∈ vs, ∃ x t, v = Value.str x t) → PySem.W.EachIs (fun v x => ∃ as, Reads h v (.str x) as ∧ p ∉ as) vs (vs.map txtV)
  | [], _ => .nil
  | v :: vs, e => by
    obtain ⟨x, t, rfl⟩ := e v (by simp)
    exact .cons ⟨[], .str x t, by simp⟩ (each_txt2 vs fun u hu => e u (by simp [hu]))
theorem strs_each : ∀ {vs : List Value} {xs : List Str}, PySem.W.EachIs (fun v x => ∃ t, v = Value.str x t) vs xs → StrsAre vs xs
  | _, _, .nil => .nil
  | _, _, .cons ⟨t, e⟩ r => by subst e; exact .cons _ t (strs_each r)
section
variable {P : Program} {w : World} {A : Around} {E : Value → Shared → Prop} {s : Shared} {a : Addr} {S : Str → Bool} {n : Nat}
theorem sortS {Q : Value → Shared → Prop} (R : SetS w s.heap a S n) (hh : A.handled = none) (hu : A.units + 64 < cLine)
    (k : ∀ s' p (out : Array Value) (c : Nat) (ns : List Str), (∀ b o, s.heap.get? b = some o → s'.heap.get? b = some o) → s'.gens = s.gens → s'.os = s.os → s.heap.objs.size ≤ p →
      s'.heap.get? p = some (seqObj "list" out c) → StrsAre out.toList ns → ns.Pairwise (fun a b => sLt a b = true) → (∀ x, x ∈ ns ↔ S x = true) → ns.length = n → Q (.ref p) s') : wpAny (model P w) A (call (.builtin "sorted") [.ref a]) Q E s := by
  obtain ⟨o, es, ep, t, ho, hx, hd, T⟩ := R
  refine Calls.call_function_entry kind_sorted plain_sorted entry_sorted (args_sorted1 _) ?_
  unfold Builtin.«sorted»
  refine wpAny_bind (m := checkCount "sorted" 1 1 _) (wpAny_pure (wpAny_bind (collect_set (A := A.in1) hh ⟨o, ho, hx.1, hd⟩ T.fits T.few T.up T.led fun s1 vs k1 hz g1 o1 pm => ?_)))
  have vl : vs.length = n := by rw [pm.length_eq, List.length_map, Array.length_toList]; exact T.num
  have fw : vs.length ≤ sizeLine := by
    have := fits_of_scanBound T.few
    rw [vl, ← T.num]; exact this
  have vt : ∀ v ∈ vs, ∃ x t, v = Value.str x t := fun v hv => by
    obtain ⟨e, he, q⟩ := List.mem_map.mp (pm.mem_iff.mp hv)
    obtain ⟨x, t, h1, _⟩ := T.good e he
    exact ⟨x, t, q ▸ h1⟩
  have pk : (vs.map txtV).Perm (es.toList.map txt) := by
    have q := pm.map txtV
    rw [List.map_map] at q
    exact q
  refine wpAny_bind (wpAny_newList ?_ fw)
  have at0 : (s1.heap.push (seqObj "list" vs.toArray 0)).get? s1.heap.objs.size = some (seqObj "list" vs.toArray 0) := Heap.get?_push_size _ rfl
  refine wpAny_bind (wpAny_holding (PySem.W.list_sort_data at0 (each_txt (h := s1.heap) vs vt).1 (each_txt2 vs vt) ?_ ?_ (by rw [List.length_map]; exact fw) (fun x _ => ?_) fun out lo eo => ?_))
  · intro d hd d' hd'
    obtain ⟨x, _, rfl⟩ := List.mem_map.mp hd
    obtain ⟨y, _, rfl⟩ := List.mem_map.mp hd'
    rfl
  · refine .inr fun d hd => ?_
    obtain ⟨x, _, rfl⟩ := List.mem_map.mp hd
    exact And.intro (fun z => (nomatch z)) (fun xs z => (nomatch z))
  · have : A.in1.units ≤ A.units + 1 := by
      first | exact Nat.le_refl _ | exact Nat.le_succ _ | (simp [Around.in1]; done)
    simp only [PyData.depth]; omega
  · obtain ⟨c, hc⟩ := sortedHeap_at (vs := vs) (out := out.toArray) at0
    have pn := (srtS_perm (vs.map txtV)).trans pk
    refine wpAny_pure ⟨_, rfl, k _ s1.heap.objs.size out.toArray c (srtS (vs.map txtV)) (fun b u e => ?_) g1 o1 hz hc (by simpa [srtS] using strs_each eo) (srtS_up (pk.nodup_iff.mpr T.nd)) (fun x => by rw [pn.mem_iff, ← T.mem x]) ?_⟩
    · have q := k1 b u e
      have lt := Heap.lt_size q
      show (sortedHeap (s1.heap.push (seqObj "list" vs.toArray 0)) s1.heap.objs.size vs out.toArray).get? b = some u
      rw [sortedHeap_old (Nat.ne_of_lt lt) (by rw [size_push']; exact Nat.lt_succ_of_lt lt)]
      exact Heap.get?_push_of_some _ q
    · rw [pn.length_eq, List.length_map, Array.length_toList]; exact T.num
end
end Mi
set_option Elab.async false
set_option linter.all false
set_option maxRecDepth 100000
set_option maxHeartbeats 4000000
namespace Mi
open PySem PySem.Spec PyProof.Rows L2
/-! ## a set of texts as an object of the heap -/
def SetTO (w : World) (a : Addr) (S : Str → Bool) (n : Nat) : HO := .ext fun h => SetS w h a S n
theorem setTO_new {w : World} {P : Program} {H : Hp} {h : Heap} {a : Addr} {S : Str → Bool} {n : Nat} (R : SetS w h a S n) : ObjOk P w H h a (SetTO w a S n) := ⟨R, let ⟨o, _, _, _, ho, _⟩ := R; ⟨o, ho⟩, fun _ _ p k => SetS.at p k⟩
section
variable {X : Cx}
theorem setTO_get {pins : List (Addr × Obj)} {σ : L2.St} {H : Hp} {s : Shared} {a : Addr} {S : Str → Bool} {n : Nat} (I : Inv X pins σ H s) (ha : H a = some (SetTO X.w a S n)) : SetS X.w s.heap a S n := (I.hok a _ ha).1
def rSetLT (w : World) (K : PySem.W.Frag) : List V → Hp → VK → Prop := fun xs H Q => ∃ (l : Addr) (ns : List Str), xs = [V.ref l] ∧ SqL K H l (ns.map V.str) ∧ ns.length + 1 < scanBound ∧ ∀ a n, H a = none → n ≤ ns.length → Q (.ref a) (upd H a (SetTO w a (fun y => decide (y ∈ ns)) n))
theorem cr_setLT (hc : X.calm = true) : CallR X (.type "set") (rSetLT X.w X.K) := by
  intro pins s σ H xs us Q I r h
  obtain ⟨l, ns, rfl, hs, few, q⟩ := h
  obtain ⟨its, rv, pl, hz⟩ := I.list hs
  rw [Vals.ref1 r]
  refine set_of_texts ns (I.ok.hd hc) pl.isList (by simpa using rv.strs) few fun h' tk c hS hcn hk => ?_
  exact ⟨.ref _, _, I.laid (t' := tk) hk (Nat.le_refl _) (setTO_new hS), rfl, q _ c (I.hok.fresh (Nat.le_refl _)) hcn⟩
def rSortedT (w : World) : List V → Hp → VK → Prop := fun vs H Q => ∃ (a : Addr) (S : Str → Bool) (n : Nat), vs = [V.ref a] ∧ H a = some (SetTO w a S n) ∧ n < 64 ∧
  ∀ (ns : List Str) (p : Addr), ns.Pairwise (fun a b => sLt a b = true) → (∀ x, x ∈ ns ↔ S x = true) → ns.length = n → H p = none → Q (.ref p) (upd H p (.lst (ns.map V.str)))
theorem cr_sortedT (hc : X.calm = true) (hu : X.A.units + 64 < cLine) : CallR X (.builtin "sorted") (rSortedT X.w) := by
  intro pins s σ H vs us Q I r h
  obtain ⟨a, S, n, rfl, ha, few, q⟩ := h
  rw [Vals.ref1 r]
  refine sortS (setTO_get I ha) (I.ok.hd hc) hu fun s' p out c ns k g o hp hg hi up mem hl => ?_
  have ln : (ns.map V.str).length ≤ sizeLine := by rw [List.length_map, hl, sizeLine_eq]; omega
  have hn : H p = none := I.hok.fresh hp
  have J : Inv X pins σ (upd H p (.lst (ns.map V.str))) { s with heap := s'.heap, gens := s'.gens, drawn := s'.drawn, toks := s'.toks } :=
    I.call (ch := []) (Un.laid k hp hn) (I.hok.laid k hp ⟨ln, out.toList, c, vals_of_strs hi, hg⟩) (by rw [g]; exact I.bare) (fun _ z => nomatch z)
  have e : s' = { s with heap := s'.heap, gens := s'.gens, drawn := s'.drawn, toks := s'.toks } := by
    cases s'; cases s; cases o; rfl
  rw [e]
  exact ⟨.ref p, _, J, rfl, q ns p up mem hl hn⟩
end
/-! ## sorted(set(a list of texts, or of ints)) -/
def strsOf : List D → Option (List Str)
  | [] => some []
  | .str x :: ds => (strsOf ds).map (x :: ·)
  | _ :: _ => none
theorem strsOf_map : ∀ xs : List Str, strsOf (xs.map D.str) = some xs
  | [] => rfl
  | x :: xs => by simp [strsOf, strsOf_map xs]
theorem strsOf_ok {K : PySem.W.Frag} {ft : Cfg} {ρ : List Addr} {H : Hp} : ∀ {ds : List D} {vs : List V} {xs : List Str}, DVs K ft ρ H ds vs → strsOf ds = some xs → vs = xs.map V.str
  | [], _, _, .nil, e => by cases e; rfl
  | d :: ds, _, xs, .cons h t, e => by
    cases d with
    | str x =>
      obtain ⟨ys, e1, e2⟩ := omap (show (strsOf ds).map (x :: ·) = some xs from e)
      cases e2
      cases h
      rw [strsOf_ok t e1]
      rfl
    | _ => cases e
theorem dvs_strs {K : PySem.W.Frag} {ft : Cfg} {ρ : List Addr} {H : Hp} : ∀ xs : List Str, DVs K ft ρ H (xs.map D.str) (xs.map V.str)
  | [] => .nil
  | x :: xs => .cons (.str x) (dvs_strs xs)
def nub : List Str → List Str
  | [] => []
  | x :: l => if x ∈ l then nub l else x :: nub l
theorem nub_mem {x : Str} : ∀ {l : List Str}, x ∈ nub l ↔ x ∈ l
  | [] => by simp [nub]
  | y :: l => by
    have ih := nub_mem (x := x) (l := l)
    unfold nub
    split
    · rename_i h
      rw [ih, List.mem_cons]
      exact ⟨.inr, fun z => z.elim (fun e => e ▸ h) id⟩
    · rw [List.mem_cons, List.mem_cons, ih]
theorem nub_nd : ∀ l : List Str, (nub l).Nodup
  | [] => by simp [nub]
  | y :: l => by
    unfold nub
    split
    · exact nub_nd l
    · rename_i h
      exact List.nodup_cons.mpr ⟨fun z => h (nub_mem.mp z), nub_nd l⟩
/-- the members, upwards, each once -/
def setS (l : List Str) : List Str := srtS (nub l)
theorem setS_up (l : List Str) : (setS l).Pairwise fun a b => sLt a b = true := srtS_up (nub_nd l)
theorem setS_mem {x : Str} {l : List Str} : x ∈ setS l ↔ x ∈ l := (srtS_perm _).mem_iff.trans nub_mem
def mSrtSetA (me : ME) : ME := fun E C => (me E C).bind fun p => (lstOf p.2 p.1).bind fun ds => match intsOf ds with
  | some ns => if ns.length < 63 then some (.cell p.2.length, p.2 ++ [.lst ((dedup (sortI ns)).map D.int)]) else none
  | none => (strsOf ds).bind fun xs => if xs.length < 63 then some (.cell p.2.length, p.2 ++ [.lst ((setS xs).map D.str)]) else none
section
variable {F : Fm} {e : Expr} {me : ME} {p q pos pos2 : Pos}
theorem se_srtSetA (hm : F.mg "sorted" = none) (hm2 : F.mg "set" = none) (he : SE F e me) (hg : F.sc.names.lookup (Str.ofString "sorted") = some .globalImplicit := by rfl) (hg2 : F.sc.names.lookup (Str.ofString "set") = some .globalImplicit := by rfl)
    (h1 : ∀ env : Env, starEach [.Call (.Name "set" q) [e] [] pos2] env = (false, eval (.Call (.Name "set" q) [e] [] pos2) env) :: starEach [] env := by intro _; rfl) (h2 : ∀ env : Env, starEach [e] env = (false, eval e env) :: starEach [] env := by intro _; rfl)
    (hp1 : ∀ env : Env, (backTo pos (starEach [] env)).any (·.1) = false := by intro _; rfl) (hp2 : ∀ env : Env, (backTo pos2 (starEach [] env)).any (·.1) = false := by intro _; rfl)
    (ha1 : ∀ (X : Cx) (te : TE), PE X (.Call (.Name "set" q) [e] [] pos2) te → PA X [.Call (.Name "set" q) [e] [] pos2] (tCons te tNil) := by intro X te h; exact pa_cons h pa_nil) (ha2 : ∀ (X : Cx) (te : TE), PE X e te → PA X [e] (tCons te tNil) := by intro X te h; exact pa_cons h pa_nil) :
    SE F (.Call (.Name "sorted" p) [.Call (.Name "set" q) [e] [] pos2] [] pos) (mSrtSetA me) := by
  obtain ⟨t, pt, st⟩ := he
  refine ⟨_, fun X h => pe_callB ((show CallR X (.builtin "sorted") (rSortedSet F.w) by rw [← h.w]; exact cr_sortedSet h.calm).or (show CallR X (.builtin "sorted") (rSortedT F.w) by rw [← h.w]; exact cr_sortedT h.calm (Room.u64b h.rm))) (h.gl hg) (by rw [h.mg]; exact hm) (by decide +kernel)
    (ha1 X _ (pe_callTy ((show CallR X (.type "set") (rSetLI F.w F.K) by rw [← h.w, ← h.K]; exact cr_setLI h.calm).or (show CallR X (.type "set") (rSetLT F.w F.K) by rw [← h.w, ← h.K]; exact cr_setLT h.calm)) (h.gl hg2) (by rw [h.mg]; exact hm2) (by decide +kernel) (ha2 X t (pt X h)) (by decide) (by decide) (h2 _) (hp2 _))) (by decide) (by decide) (h1 _) (hp1 _), fun ρ C H E σ d C' Q R eo hm k => ?_⟩
  obtain ⟨⟨x, C1⟩, e1, hm⟩ := obind hm
  have sb : (64 : Nat) ≤ scanBound := by decide
  refine st ρ C H E σ x C1 _ R eo e1 fun ρ1 H1 v1 R1 s1 d1 => ?_
  obtain ⟨ds, qc, hm⟩ := obind hm
  · · obtain ⟨a, vs, rfl, e4, e5⟩ := lstOf_ok R1 d1 qc
      split at hm
      · rename_i ns e3
        split at hm
        · rename_i few
          cases hm
          have ev := intsOf_ok e5 e3
          subst ev
          refine .inl ⟨a, ns, rfl, .inl e4, by omega, fun l m hl hn => .inl ⟨l, _, m, rfl, upd_same, by omega, fun out pp up mem len hp => ?_⟩⟩
          have eo : out = dedup (sortI ns) := up_unique up (dedup_up _ (sortI_up _)) fun kk => by
            rw [mem kk, dedup_mem, (sortI_perm ns).mem_iff]
            simp
          subst eo
          have R2 := R1.fresh (o := SetO F.w l (fun j => decide (j ∈ ns)) m) hl
          exact k _ _ _ (R2.newL hp (DVs.ints _)) (s1.trans ((Stp.fresh hl).trans (Stp.push hp))) (DV.new R2)
        · cases hm
      · obtain ⟨xs, e3, hm⟩ := obind hm
        split at hm
        · rename_i few
          cases hm
          have ev := strsOf_ok e5 e3
          subst ev
          refine .inr ⟨a, xs, rfl, .inl e4, by omega, fun l m hl hn => .inr ⟨l, _, m, rfl, upd_same, by omega, fun out pp up mem len hp => ?_⟩⟩
          have eo : out = setS xs := up_one up (setS_up xs) fun y => by rw [mem y, setS_mem]; simp
          subst eo
          have R2 := R1.fresh (o := SetTO F.w l (fun y => decide (y ∈ xs)) m) hl
          exact k _ _ _ (R2.newL hp (dvs_strs _)) (s1.trans ((Stp.fresh hl).trans (Stp.push hp))) (DV.new R2)
        · cases hm
end
end Mi
set_option Elab.async false
set_option linter.all false
set_option maxRecDepth 100000
set_option maxHeartbeats 4000000
namespace Mi
open PySem PySem.Spec PyProof.Rows L2
/-! ## {elt for .. in .. if ..}: a set of texts, of one clause -/
abbrev SC1 (elt t0 i0 : Expr) (fs0 : List Expr) (scope : Scope) (pos : Pos) : Expr := .SetComp elt [⟨t0, i0, fs0, 0⟩] scope pos
section
variable {elt t0 i0 : Expr} {fs0 : List Expr} {scope : Scope} {pos : Pos} {env : Env}
theorem scTurn (it acc : Value) : compTurn (SC1 elt t0 i0 fs0 scope pos) 0 it acc env = (do
      standAt i0.pos
      match ← pyNext it with
      | none => pure (.done .next)
      | some v =>
        letOwnedTupleGo t0 it v
        assign t0 env v
        let ok ← tstF fs0 env
        if ok then
          (do let v ← eval elt env; standAt elt.pos; let _ ← call (.builtin "set.add") [acc, v])
        again (.compLoop (SC1 elt t0 i0 fs0 scope pos) 0 it acc env)) := by rfl
end
section
variable {prog : Program} {w : World} {A : Around} {R : Result → Shared → Prop} {s : Shared} {elt t0 i0 : Expr} {fs0 : List Expr} {scope : Scope} {pos : Pos} {it acc : Value} {env : Env}
theorem scLoop (I : Nat → Shared → Prop)
    (turn : ∀ n s, I n s → wpAny (model prog w) A (pyNext it) (fun r s₁ => match r with
      | none => R (.ok .next) s₁
      | some v => wpAny (model prog w) A (letOwnedTupleGo t0 it v) (fun _ s₁' => wpAny (model prog w) A (assign t0 env v) (fun _ s₂ =>
          wpAny (model prog w) A (tstF fs0 env) (fun ok s₃ => if ok = true then wpAny (model prog w) A (eval elt env) (fun x s₄ =>
              wpAny (model prog w) A (call (.builtin "set.add") [acc, x]) (fun _ s₅ => ∃ m, m < n ∧ I m s₅) (XR prog w A env R) s₄) (XR prog w A env R) s₃
            else ∃ m, m < n ∧ I m s₃) (XR prog w A env R) s₂) (XR prog w A env R) s₁') (XR prog w A env R) s₁) (XR prog w A env R) s)
    (n : Nat) (h : I n s) : codeAny (model prog w) A (.compLoop (SC1 elt t0 i0 fs0 scope pos) 0 it acc env) R s := by
  refine codeAny_loop rfl I (fun n s hI => ?_) n h
  show wpAny _ A ((compTurn (SC1 elt t0 i0 fs0 scope pos) 0 it acc env).onRaise (fun x => do noteFrame x env; theTreesLotGoes x)) _ _ s
  refine wpAny_noted ?_
  rw [scTurn]
  refine wpAny_bind (wpAny_standAt (wpAny_bind (wpAny_mono (turn n s hI) (fun r s1 g1 => ?_) fun _ _ z => z)))
  cases r with
  | none => exact wpAny_pure g1
  | some v =>
    refine wpAny_bind (wpAny_mono g1 (fun _ s2 g2 => ?_) fun _ _ z => z)
    refine wpAny_bind (wpAny_mono g2 (fun _ s3 g3 => ?_) fun _ _ z => z)
    refine wpAny_bind (wpAny_mono g3 (fun ok s4 g4 => ?_) fun _ _ z => z)
    cases ok with
    | false => exact wpAny_pure ⟨rfl, g4⟩
    | true =>
      refine wpAny_bind (wpAny_bind (wpAny_mono g4 (fun x s5 g5 => ?_) fun _ _ z => z))
      refine wpAny_bind (wpAny_standAt (wpAny_bind (wpAny_mono g5 (fun _ s6 g6 => ?_) fun _ _ z => z)))
      exact wpAny_pure (wpAny_pure ⟨rfl, g6⟩)
theorem scStart1 (h0 : codeAny (model prog w) A (.compLoop (SC1 elt t0 i0 fs0 scope pos) 0 it acc env) R s)
    (h : wpAny (model prog w) A (pyIter it) (fun it' s' => codeAny (model prog w) A (.compLoop (SC1 elt t0 i0 fs0 scope pos) 0 it' acc env) R s') (XR prog w A env R) s) :
    codeAny (model prog w) A (.compStart (SC1 elt t0 i0 fs0 scope pos) 0 it acc env) R s := by
  refine codeAny_of_tree ?_
  show wpAny _ _ ((compStart (SC1 elt t0 i0 fs0 scope pos) 0 it acc env).onRaise (fun x => do noteFrame x env; standAt theWindowsPlace)) _ _ s
  refine wpAny_notedAt ?_
  unfold compStart
  show wpAny _ _ (ask >>= _) _ _ s
  refine wpAny_bind (wpAny_askSetting (wpAny_ite ?_))
  split
  · first
      | exact wpAny_bind (wpAny_pure (wpAny_pure (And.intro rfl h0)))
      | exact wpAny_pure (And.intro rfl h0)
  · refine wpAny_bind (wpAny_rule ?_)
    show wpAny _ _ (standAt _ >>= _) _ _ s
    exact wpAny_bind (wpAny_standAt (wpAny_bind (wpAny_mono h (fun it' s' h' => wpAny_pure (And.intro rfl h')) fun _ _ x => x)))
end
section
variable {X : Cx} {elt t0 i0 : Expr} {fs0 : List Expr} {scope : Scope} {pos : Pos}
/-- a text more in a set of texts -/
def rTAdd (w : World) : V → List V → Hp → VK → Prop := fun x xs H Q => ∃ (a : Addr) (k : Str) (S : Str → Bool) (n : Nat), x = V.ref a ∧ xs = [V.str k] ∧ H a = some (SetTO w a S n) ∧ n + 1 < scanBound ∧ ∀ m, m ≤ n + 1 → Q .non (upd H a (SetTO w a (fun y => S y || decide (y = k)) m))
theorem mt_tadd : MtR X "set.add" (rTAdd X.w) := by
  intro pins s σ H x xs v us Q I rx rxs h
  obtain ⟨a, k, S, n, rfl, rfl, ha, room, q⟩ := h
  cases rx
  obtain ⟨u, rfl, tk, rfl⟩ := rxs.one
  refine addS (setTO_get I ha) room fun h' m hm sb new => ?_
  have he : ∃ u, h'.get? a = some u := let ⟨o, _, _, _, ho, _⟩ := new; ⟨o, ho⟩
  exact ⟨.non, upd H a (SetTO X.w a (fun y => S y || decide (y = k)) m), I.write (e := a) (t' := s.toks + 1) (by rw [ha]; trivial) (.inl rfl) (fun b u hb hu => (sb.2 b hb).trans hu) he (setTO_new new), rfl, q m hm⟩
def tSc1 (w : World) (wi : TI) (g : TG) (tt : TT) (te : TE) (vs : List Nat) : TE := fun σ H Q => wi σ H fun J H1 => ∀ D, H1 D = none →
  ∃ W : Nat → Nat → Hp → Prop, (∃ m, W 0 m (upd H1 D (SetTO w D (fun _ => false) 0))) ∧ ∀ i m H, W i m H → (J.stop i H ∧ Q (.ref D) H) ∨ (J.go i H ∧ ∃ Nx : Hp → Prop, (∀ H', Nx H' → ∃ m', m' < m ∧ W (i + 1) m' H') ∧
    ∀ x H', J.yld i H x H' → g x (wipe σ vs) H' fun σ2 H2 => wipe σ2 vs = wipe σ vs ∧ tt σ2 H2 fun b H3 => if b = true then te σ2 H3 fun y H4 => rTAdd w (.ref D) [y] H4 fun _ H5 => Nx H5 else Nx H3)
theorem pe_sc1 {own : List (Str × Nat)} {wi : TI} {g : TG} {tt : TT} {te : TE} (hc : X.calm = true) (hN : X.N.Nodup) (hi : PI X t0 i0 wi) (ok : BlkOk X.N X.env.scope scope own)
    (all : ∀ (s : Shared) (H : Hp) (C : Addr) (cl : List (Str × Addr)) (fp : List Addr), PG (X.blk s H scope (compEnvC scope cl C X.env) fp) t0 g ∧ PTs (X.blk s H scope (compEnvC scope cl C X.env) fp) fs0 tt ∧ PE (X.blk s H scope (compEnvC scope cl C X.env) fp) elt te)
    (hs : ∀ x, foldedSetIterable i0 X.env x = pure x := by intro _; rfl) :
    PE X (SC1 elt t0 i0 fs0 scope pos) (tSc1 X.w wi g tt te (own.map (·.2))) := by
  refine ⟨fun pins s σ H Q I h => ?_⟩
  rw [PySem.arm_eval_SetComp]
  have free : ∀ y ∈ scope.names, y.2 = .free → ∃ c, X.env.cells.lookup y.1 = some c := fun y hy e => (ok.free y hy e).elim (fun k => I.ok.has _ (.inl k)) fun k => I.ok.has _ (.inr k)
  refine wpAny_comprehension_free (use := none) rfl hs (closure_ok free) ok.kind (fun y hy e => by rw [ok.uniq y hy, e]) (thn (hi.run pins s σ H _ I h) fun xv s1 hx => thn hx fun itv s2 h2 => ?_)
  obtain ⟨it, fp, tn, J, H2, rfl, I2, T, st2, f2, q⟩ := h2
  refine PpSet.newSet_ok ?_
  refine newEnv_comp ?_
  have new : SetS X.w (s2.heap.push (emptySet X.w)) s2.heap.objs.size (fun _ => false) 0 := setS_new (Heap.get?_push_size _ rfl)
  obtain ⟨W, ⟨m0, w0⟩, turn⟩ := q s2.heap.objs.size (I2.hok.fresh (Nat.le_refl _))
  -- the new set
  have I3 : Inv X pins σ (upd H2 s2.heap.objs.size (SetTO X.w s2.heap.objs.size (fun _ => false) 0)) { s2 with heap := s2.heap.push { cls := .type "set", dict := none, data := .set #[] 0 (.fresh 0 0 (!X.w.params.followText "set-order")) } } :=
    I2.laid (t' := s2.toks) (fun b o e => Heap.get?_push_of_some _ e) (Nat.le_refl _) (setTO_new new)
  have lt2 : ∀ b ∈ fp, b < s2.heap.objs.size := fun b hb => let ⟨o, e, _⟩ := T.obj _ _ st2 b hb; Heap.lt_size e
  generalize hD : s2.heap.objs.size = D at *
  generalize hs3 : ({ s2 with heap := s2.heap.push { cls := .type "set", dict := none, data := .set #[] 0 (.fresh 0 0 (!X.w.params.followText "set-order")) } } : Shared) = s3 at *
  have h3 : s3.heap = s2.heap.push { cls := .type "set", dict := none, data := .set #[] 0 (.fresh 0 0 (!X.w.params.followText "set-order")) } := by rw [← hs3]
  have sz3 : s3.heap.objs.size = D + 1 := by rw [h3, Heap.size_push, hD]
  have up3 : ∀ b o, s2.heap.get? b = some o → s3.heap.get? b = some o := fun b o e => by rw [h3]; exact Heap.get?_push_of_some _ e
  have f3 : ∀ b ∈ fp, FpOk X pins (upd H2 D (SetTO X.w D (fun _ => false) 0)) b ∧ b < s3.heap.objs.size := fun b hb => by
    have := lt2 b hb
    exact ⟨⟨by rw [upd_ne (Nat.ne_of_lt this)]; exact (f2 b hb).1, (f2 b hb).2⟩, by rw [sz3]; exact Nat.lt_succ_of_lt this⟩
  have st3 : tn 0 s3.heap := T.keep _ _ _ st2 fun b _ o e => up3 b o e
  have I4 := block_start I3 ok hN f3
  obtain ⟨pg, pt, pe⟩ := all s3 (upd H2 D (SetTO X.w D (fun _ => false) 0)) s3.heap.objs.size (cellsFrom (s3.heap.objs.size + 1) scope.names (cloFrom X.env.cells scope.names [])) fp
  have e3 : ∀ d, ({ s2 with heap := s3.heap.push d } : Shared) = { s3 with heap := s3.heap.push d } := fun d => by rw [← hs3]
  show codeAny _ _ (.compStart (SC1 elt t0 i0 fs0 scope pos) 0 (.ref it) (.ref D) (blkE X scope s3)) (compPost (model X.prog X.w) X.A X.xe none (EP X pins σ Q) (.ref D) s3.heap.objs.size) { s3 with heap := pushCells (s3.heap.push { cls := .type "dict", data := .dict #[] }) scope.names }
  have nfp : ∀ b ∈ fp, (upd H2 D (SetTO X.w D (fun _ => false) 0)) b = none := fun b hb => (f3 b hb).1.1
  generalize hce : compEnvC scope (cellsFrom (s3.heap.objs.size + 1) scope.names (cloFrom X.env.cells scope.names [])) s3.heap.objs.size X.env = ce at *
  have cL : ce.locals = s3.heap.objs.size := by rw [← hce]; rfl
  rw [show blkE X scope s3 = ce from hce]
  generalize hK : upd H2 D (SetTO X.w D (fun _ => false) 0) = K0 at *
  generalize hs4 : ({ s3 with heap := pushCells (s3.heap.push { cls := .type "dict", data := .dict #[] }) scope.names } : Shared) = s4 at *
  have st4 : tn 0 s4.heap := T.keep _ _ _ st3 fun b _ o e => by rw [← hs4]; exact pushCells_keeps _ _ _ _ (Heap.get?_push_of_some _ e)
  have ours : ∀ {τ : L2.St} {H' : Hp} {s' : Shared}, Inv (X.blk s3 K0 scope ce fp) [] τ H' s' → (∀ b ∈ fp, H' b = none) → ∀ b ∈ fp, FpOk (X.blk s3 K0 scope ce fp) [] H' b := fun {τ H' s'} I' hn b hb =>
    ⟨hn b hb, (I'.ok.exf b hb).1, I'.ok.exfs b hb, .inl hb, fun x c e => (I'.ok.exf b hb).2 x c e, fun p hp => (by cases (show p ∈ ([] : List (Addr × Obj)) from hp))⟩
  have loop : codeAny (model X.prog X.w) X.A (.compLoop (SC1 elt t0 i0 fs0 scope pos) 0 (.ref it) (.ref D) ce) (compPost (model X.prog X.w) X.A X.xe none (EP X pins σ Q) (.ref D) s3.heap.objs.size) s4 := by
    refine scLoop (fun n s' => ∃ i H', Inv (X.blk s3 K0 scope ce fp) [] (wipe σ (own.map (·.2))) H' s' ∧ tn i s'.heap ∧ (∀ b ∈ fp, H' b = none) ∧ W i n H') ?_ m0 ⟨0, K0, I4, st4, nfp, w0⟩
    rintro n s5 ⟨i, H5, I5, st5, n5, w5⟩
    rcases turn i n H5 w5 with ⟨stop, qq⟩ | ⟨go, Nx, hNx, step⟩
    · refine thnF (T.done (X.blk s3 K0 scope ce fp) rfl rfl rfl hc i [] s5 _ H5 (fun _ _ => False) I5 (ours I5 n5) st5 stop) fun r s6 hr => ?_
      obtain ⟨rfl, I6⟩ := hr
      have I7 : Inv X pins σ H5 s6 := I3.call' (ch := fp) I6.os I6.base I6.hok I6.bare fun b hb => by
        obtain ⟨_, b1, b2, b3, b4, b5⟩ := (f3 b hb).1
        exact ⟨b3, b1, b4, b5⟩
      have nC : H5 s3.heap.objs.size = none := by
        have z : H5 ce.locals = none := I6.free
        rwa [cL] at z
      obtain ⟨m, hn, _⟩ := I6.loc
      have hn : s6.heap.Ns ce.locals m := hn
      rw [cL] at hn
      obtain ⟨b0, b1, b2, b3, b4, b5⟩ := I3.fpOk (Nat.le_refl _) nC
      refine ⟨m, hn, fun h'' sb => ?_⟩
      exact ⟨.ref D, H5, I7.turned (t' := s6.toks) (fun b o hb e => (sb.2 b hb).trans e) b0 b1 b3 b4 b5, rfl, qq⟩
    · refine thnF (T.item (X.blk s3 K0 scope ce fp) rfl rfl rfl hc i [] s5 _ H5 (fun _ _ => False) I5 (ours I5 n5) st5 go) fun r s6 hr => ?_
      obtain ⟨u, rfl, more⟩ := hr
      refine thnF more fun _ s7 h7 => ?_
      obtain ⟨x, H7, I7, r7, y7, st7, n7⟩ := h7
      have I7p := I7.pinned (ours I7 n7) (T.obj _ _ st7)
      refine thnF (pg.run _ s7 _ H7 x u _ I7p r7 (step x H7 y7)) fun _ s8 h8 => ?_
      obtain ⟨σ8, H8, I8, wp8, q8⟩ := h8
      refine thnF (pt.run _ s8 σ8 H8 _ I8 q8) fun b s9 h9 => ?_
      obtain ⟨H9, I9, q9⟩ := h9
      have close : ∀ {σ9 : L2.St} {s' : Shared} {H' : Hp}, Inv (X.blk s3 K0 scope ce fp) ([] ++ pinsAt fp s7.heap) σ9 H' s' → (wipe σ (own.map (·.2))).length = σ9.length → (∀ (j : Nat) v, (wipe σ (own.map (·.2)))[j]? = some (some v) → σ9[j]? = some (some v)) → Nx H' →
          ∃ m, m < n ∧ ∃ i H', Inv (X.blk s3 K0 scope ce fp) [] (wipe σ (own.map (·.2))) H' s' ∧ tn i s'.heap ∧ (∀ b ∈ fp, H' b = none) ∧ W i m H' := fun {σ9 s' H'} I' hl hk nx => by
        obtain ⟨m', lt, w'⟩ := hNx H' nx
        refine ⟨m', lt, i + 1, H', (I'.unpinned (pins := [])).weak hl hk, T.keep _ _ _ st7 fun b hb o e => (pin_get I' hb e).1, fun b hb => ?_, w'⟩
        obtain ⟨o, e, _⟩ := T.obj _ _ st7 b hb
        exact (pin_get I' hb e).2
      have l8 : (wipe σ (own.map (·.2))).length = σ8.length := by rw [← wp8, wipe_length]
      have k8 : ∀ (j : Nat) v, (wipe σ (own.map (·.2)))[j]? = some (some v) → σ8[j]? = some (some v) ∧ j ∉ own.map (·.2) := fun j v e => wipe_some (by rw [wp8]; exact e)
      cases b with
      | false => exact close I9 l8 (fun j v e => (k8 j v e).1) (by simpa using q9)
      | true =>
        refine thnF (pe.run _ s9 σ8 H9 _ I9 (by simpa using q9)) fun zv s10 h10 => ?_
        obtain ⟨yv, H10, I10, r10, add⟩ := h10
        refine thnF (mt_tadd (X := X.blk s3 K0 scope ce fp) _ s10 σ8 H10 (.ref D) [yv] (.ref D) [zv] _ I10 rfl (.cons r10 .nil) add) fun _ s11 h11 => ?_
        obtain ⟨_, H11, I11, _, nx⟩ := h11
        exact close I11 l8 (fun j v e => (k8 j v e).1) nx
  exact scStart1 loop (T.self X.A 0 _ _ _ st4 loop)
end
end Mi
set_option Elab.async false
set_option linter.all false
set_option maxRecDepth 100000
set_option maxHeartbeats 4000000
namespace Mi
open PySem PySem.Spec PyProof.Rows L2
/-! ## sorted({elt for .. in .. if ..}), of texts -/
def scT (it : Itm) (tg : MG) (tt : MT) (elt : ME) (E : Ev) : Nat → Nat → List Str → Hm → Option (List Str × Hm)
  | 0, _, _, _ => none
  | fuel + 1, i, acc, C => (it.at C i).bind fun r => match r with
    | none => some (acc, C)
    | some x => (tg x E).bind fun E1 => (tt E1 C).bind fun p => if p.1 = true then (elt E1 p.2).bind fun q => match q.1 with
        | .str k => if acc.length < 62 then scT it tg tt elt E fuel (i + 1) (acc ++ [k]) q.2 else none
        | _ => none
      else scT it tg tt elt E fuel (i + 1) acc p.2
def mSrtSc1 (src : MI) (tg : MG) (tt : MT) (elt : ME) (vs : List Nat) : ME := fun E C => (src E C).bind fun p => (scT p.1 tg tt elt (wipeE E vs) (p.2.1 + 1) 0 [] p.2.2).bind fun q =>
  if q.1.length < 63 then some (.cell q.2.length, q.2 ++ [.lst ((setS q.1).map D.str)]) else none
section
variable {F : Fm} {elt t0 i0 : Expr} {fs0 : List Expr} {scope : Scope} {own : List (Str × Nat)} {src : MI} {g : MG} {mt : MT} {me : ME} {slots : List Nat} {pos : Pos}
theorem setTO_code {w : World} {a : Addr} {S : Str → Bool} {n : Nat} {q : Str} : SetTO w a S n ≠ LamX.CodeO a q := fun h => ext_code h fun hp vs e z => by
  obtain ⟨o, es, ep, t, e1, _, e2, _⟩ := z
  rw [e] at e1
  cases e1
  cases e2
theorem Rel.otherT {K : PySem.W.Frag} {ft : Cfg} {ρ : List Addr} {H : Hp} {C : Hm} {P : Addr} {w : World} {S : Str → Bool} {n : Nat} {o : HO} (R : Rel K ft ρ H C) (hP : P ∉ ρ) (e : H P = some (SetTO w P S n)) : Rel K ft ρ (upd H P o) C := by
  have w : Wk ρ H ρ (upd H P o) := ⟨fun h => h, fun b xs q => by rw [upd_ne (show b ≠ P from fun z => by rw [z, e] at q; cases q)]; exact q, fun b ob u q => by rw [upd_ne (show b ≠ P from fun z => by rw [z, e] at q; cases q)]; exact q⟩
  refine ⟨R.len, R.nd, fun n c q => ?_⟩
  obtain ⟨a, ha, k⟩ := R.ok n c q
  have ne : a ≠ P := fun z => hP (z ▸ List.mem_of_getElem? ha)
  refine ⟨a, ha, ?_⟩
  cases c with
  | lst ds => obtain ⟨ws, q, r⟩ := k; exact ⟨ws, (upd_ne ne).trans q, DVs.monoW w r⟩
  | dic ks => obtain ⟨ws, q, r⟩ := k; exact ⟨ws, (upd_ne ne).trans q, Paired.mapP r fun p q z => ⟨z.1, DV.monoW w z.2⟩⟩
  | dix ks => obtain ⟨es, q, r⟩ := k; exact ⟨es, (upd_ne ne).trans q, r.monoW w⟩
  | dxl ks => obtain ⟨es, o, q, r⟩ := k; exact ⟨es, o, (upd_ne ne).trans q, r.monoW w⟩
  | tab n => exact ⟨k.1, k.2.upd e setTO_code ne⟩
theorem Wk.setT {ρ : List Addr} {H : Hp} {P : Addr} {w : World} {S : Str → Bool} {n : Nat} {o : HO} (e : H P = some (SetTO w P S n)) : Wk ρ H ρ (upd H P o) :=
  ⟨fun h => h, fun b xs q => by rw [upd_ne (show b ≠ P from fun z => by rw [z, e] at q; cases q)]; exact q, fun b ob u q => by rw [upd_ne (show b ≠ P from fun z => by rw [z, e] at q; cases q)]; exact q⟩
theorem evl_sc1 {wi : TI} {gg : TG} {tt : TT} {te : TE} (si : ∀ ρ C H E σ it n C' R, RelF F ρ H C → EnvF F ρ H E σ → src E C = some (it, n, C') → (∀ ρ' H' J, RelF F ρ' H' C' → Stp ρ H ρ' H' → ItOk F ρ' H' it J → R J H') → wi σ H R)
    (sg : EvG F gg slots g) (st : EvT F tt mt) (se : EvE F te me) (vs : List Nat) (hsl : ∀ i ∈ slots, i ∈ vs)
    {ρ : List Addr} {C : Hm} {H : Hp} {E : Ev} {σ : L2.St} {it : Itm} {n0 : Nat} {C1 : Hm} {accF : List Str} {CF : Hm} {Q : VK} (R : RelF F ρ H C) (eo : EnvF F ρ H E σ) (h1 : src E C = some (it, n0, C1))
    (h2 : scT it g mt me (wipeE E vs) (n0 + 1) 0 [] C1 = some (accF, CF))
    (k : ∀ ρ1 Hc P n, RelF F ρ1 Hc CF → Stp ρ H ρ1 Hc → Hc P = some (SetTO F.w P (fun j => decide (j ∈ accF)) n) → n ≤ accF.length → Q (.ref P) Hc) : tSc1 F.w wi gg tt te vs σ H Q := by
  have sb : (64 : Nat) ≤ scanBound := by decide
  refine si ρ C H E σ it n0 C1 _ R eo h1 fun ρ0 H0 J R0 s0 ok => ?_
  intro P hP
  have outP : ∀ {ρ1 Hc}, Stp ρ0 H0 ρ1 Hc → ∀ {o}, Stp ρ0 H0 ρ1 (upd Hc P o) := fun {ρ1 Hc} s {o} => by
    have ne : ∀ b u, H0 b = some u → b ≠ P := fun b u e z => by rw [z, hP] at e; cases e
    exact ⟨s.pre, fun b u e hb => by rw [upd_ne (ne b u e)]; exact s.keep b u e hb, fun b u e => by rw [upd_ne (ne b u e)]; exact s.there b u e, fun b u e => by rw [upd_ne (ne _ _ e)]; exact s.tups b u e, fun b u w e => by rw [upd_ne (ne _ _ e)]; exact s.frzs b u w e⟩
  have keepP : ∀ {ρa Ha ρb Hb o}, Stp ρa Ha ρb Hb → P ∉ ρa → Ha P = some o → P ∉ ρb ∧ Hb P = some o := fun {ρa Ha ρb Hb o} s hn e => by
    refine ⟨fun z => ?_, s.keep _ _ e hn⟩
    obtain ⟨t, et, ht⟩ := s.pre
    rw [et] at z
    rcases List.mem_append.mp z with z | z
    · exact hn z
    · rw [ht _ z] at e; cases e
  refine ⟨fun i m Hc => ∃ ρ1 Cc acc n, RelF F ρ1 Hc Cc ∧ P ∉ ρ1 ∧ Stp ρ0 H0 ρ1 Hc ∧ Hc P = some (SetTO F.w P (fun j => decide (j ∈ acc)) n) ∧ n ≤ acc.length ∧ scT it g mt me (wipeE E vs) m i acc Cc = some (accF, CF),
    ⟨n0 + 1, ρ0, C1, [], 0, R0.fresh hP, R0.out hP, Stp.fresh hP, by rw [upd_same]; simp, Nat.le_refl _, h2⟩, ?_⟩
  rintro i m Hc ⟨ρ1, Cc, acc, n, R1, nP, s1, eP, hn, hf⟩
  cases m with
  | zero => cases hf
  | succ fuel =>
    unfold scT at hf
    obtain ⟨r, e1, hf⟩ := obind hf
    have oki := ok ρ1 Hc Cc R1 s1.wk i r e1
    cases r with
    | none =>
      cases hf
      exact .inl ⟨oki, k ρ1 Hc P n R1 (s0.trans s1) eP hn⟩
    | some x =>
      refine .inr ⟨oki.1, fun H2 => ∃ ρ2 C2 acc n, RelF F ρ2 H2 C2 ∧ P ∉ ρ2 ∧ Stp ρ0 H0 ρ2 H2 ∧ H2 P = some (SetTO F.w P (fun j => decide (j ∈ acc)) n) ∧ n ≤ acc.length ∧ scT it g mt me (wipeE E vs) fuel (i + 1) acc C2 = some (accF, CF), fun H2 z => ⟨fuel, Nat.lt_succ_self _, z⟩, fun v H' hy => ?_⟩
      obtain ⟨R2, s2, dv⟩ := oki.2 v H' hy
      obtain ⟨E2, e2, hf⟩ := obind hf
      obtain ⟨⟨b, C3⟩, e3, hf⟩ := obind hf
      have eo2 : EnvF F ρ1 H' (wipeE E vs) (L2.wipe σ vs) := (eo.wipe vs).mono ((s0.trans s1).trans s2)
      obtain ⟨nP2, eP2⟩ := keepP s2 nP eP
      refine sg ρ1 Cc H' (wipeE E vs) (L2.wipe σ vs) x v E2 _ R2 eo2 dv e2 fun σ3 eo3 w3 => ?_
      refine ⟨by rw [w3 vs hsl, wipe_idem], ?_⟩
      refine st ρ1 Cc H' E2 σ3 b C3 _ R2 eo3 e3 fun ρ3 H3 R3 s3 => ?_
      obtain ⟨nP3, eP3⟩ := keepP s3 nP2 eP2
      cases b with
      | false => exact ⟨ρ3, C3, acc, n, R3, nP3, (s1.trans s2).trans s3, eP3, hn, hf⟩
      | true =>
        obtain ⟨⟨d, C4⟩, e4, hf⟩ := obind (show (me E2 C3).bind _ = some (accF, CF) from hf)
        cases d with
        | str kk =>
          simp only at hf
          split at hf
          · rename_i few
            refine se ρ3 C3 H3 E2 σ3 (.str kk) C4 _ R3 (eo3.mono s3) e4 fun ρ4 H4 v4 R4 s4 d4 => ?_
            obtain ⟨nP4, eP4⟩ := keepP s4 nP3 eP3
            cases d4
            refine ⟨P, kk, _, n, rfl, rfl, eP4, by omega, fun m' hm' => ?_⟩
            refine ⟨ρ4, C4, acc ++ [kk], m', Rel.otherT R4 nP4 eP4, nP4, outP (((s1.trans s2).trans s3).trans s4), ?_, ?_, hf⟩
            · rw [upd_same]
              congr 2
              funext j
              simp [Bool.decide_or]
            · rw [List.length_append, List.length_singleton]; omega
          · cases hf
        | _ => cases hf
theorem se_srtSc1 {p pos2 : Pos} (own : List (Str × Nat)) (hm : F.mg "sorted" = none) (hi : SI F t0 i0 src) (ok : BlkOk F.N F.sc scope own) (hg : SG (F.blk scope) t0 slots g) (ht : SPT (F.blk scope) fs0 mt) (he : SE (F.blk scope) elt me)
    (hsl : ∀ i ∈ slots, i ∈ own.map (·.2) := by decide) (hgl : F.sc.names.lookup (Str.ofString "sorted") = some .globalImplicit := by rfl) (hs : ∀ (env : Env) x, foldedSetIterable i0 env x = pure x := by intro _ _; rfl)
    (h1 : ∀ env : Env, starEach [SC1 elt t0 i0 fs0 scope pos] env = (false, eval (SC1 elt t0 i0 fs0 scope pos) env) :: starEach [] env := by intro _; rfl) (hp1 : ∀ env : Env, (backTo pos2 (starEach [] env)).any (·.1) = false := by intro _; rfl)
    (ha1 : ∀ (X : Cx) (te : TE), PE X (SC1 elt t0 i0 fs0 scope pos) te → PA X [SC1 elt t0 i0 fs0 scope pos] (tCons te tNil) := by intro X te h; exact pa_cons h pa_nil) :
    SE F (.Call (.Name "sorted" p) [SC1 elt t0 i0 fs0 scope pos] [] pos2) (mSrtSc1 src g mt me (own.map (·.2))) := by
  obtain ⟨wi, pi, si⟩ := hi
  obtain ⟨gg, pg, sg⟩ := hg
  obtain ⟨tt, pt, st⟩ := ht
  obtain ⟨te, pe, se⟩ := he
  refine ⟨_, fun X h => pe_callB (show CallR X (.builtin "sorted") (rSortedT F.w) by rw [← h.w]; exact cr_sortedT h.calm (Room.u64b h.rm)) (h.gl hgl) (by rw [h.mg]; exact hm) (by decide +kernel)
    (ha1 X _ (show PE X _ (tSc1 F.w wi gg tt te (own.map (·.2))) by rw [← h.w]; exact pe_sc1 h.calm h.nd (pi X h) (by rw [h.N, h.sc]; exact ok) (fun _ _ _ _ _ => ⟨pg _ h.blk, pt _ h.blk, pe _ h.blk⟩) (hs _))) (by decide) (by decide) (h1 _) (hp1 _), fun ρ C H E σ d C' Q R eo hm k => ?_⟩
  obtain ⟨⟨it, n0, C1⟩, e1, hm⟩ := obind hm
  obtain ⟨⟨accF, CF⟩, e2, hm⟩ := obind hm
  simp only at e2 hm
  split at hm
  · rename_i few
    cases hm
    show tSc1 F.w wi gg tt te (own.map (·.2)) σ H (fun v H1 => rSortedT F.w [v] H1 Q)
    refine evl_sc1 si sg st se _ hsl R eo e1 e2 fun ρ1 Hc P n R1 s1 eP hn => ?_
    refine ⟨P, _, n, rfl, eP, by omega, fun out p up mem len hp => ?_⟩
    have eo : out = setS accF := up_one up (setS_up accF) fun y => by rw [mem y, setS_mem]; simp
    subst eo
    exact k _ _ _ (R1.newL hp (dvs_strs _)) (s1.trans (Stp.push hp)) (DV.new R1)
  · cases hm
end
end Mi
set_option Elab.async false
set_option linter.all false
set_option maxRecDepth 100000
set_option maxHeartbeats 4000000
namespace PySem
namespace ImoX
open PySem.W PySem.Calls PyProof.Rows PySem.HandSPX
/-! ### the text of __init__ -/
def iA (p1 p2 : Pos) : Arguments := { posonlyargs := [], args := [{ arg := "self", annotation := none, pos := p1 }, { arg := "moment", annotation := none, pos := p2 }], vararg := none, kwonlyargs := [], kw_defaults := [], kwarg := none, defaults := [] }
def iB (q1 q2 q3 q4 : Pos) : List Stmt := [.Assign [.Attribute (.Name "self" q1) "moment" q2] (.Name "moment" q3) q4]
def iS : Scope := { kind := .function, names := [(PySem.Str.ofString "self", .local), (PySem.Str.ofString "moment", .local)], isGenerator := false, isCoroutine := false, more := [] }
/-- what the written part says of Low, at C, and of its __init__, at fI -/
structure ImoTxt (K : Frag) (mg : Str → Option Value) (C fI : Addr) : Prop where
  gC : mg "InvalidMoment" = some (.ref C)
  cls : ∃ nm q N bs bm sn sub ab col dd k0 k1 k2 k3 k5, K.lookup C = some (excClassObj nm q C N bs bm true sn sub ab col dd k0 k1 k2 k3 k5 "ValueError.__new__") ∧ refsVE bm = true
  sa : findIn K (.ref C) "__setattr__" = some (some (.builtin "object.__setattr__"))
  ga : findIn K (.ref C) "__getattribute__" = some (some (.builtin "BaseException.__getattribute__"))
  gg : findIn K (.ref C) "__getattr__" = some none
  noN : findIn K (.ref C) "moment" = some none
  iC : findIn K (.ref C) "__init__" = some (some (.ref fI))
  tC : typeIn K (.ref fI) = some (.type "function")
  kC : keepIn K (.ref C) = true
  exC : subIn K (.ref C) (.type "BaseException") = some true
  tyC : typeIn K (.ref C) = some (.type "type")
  hdC : hasDictIn K C = true
  te : exmOne K (.ref C) (.ref C) = some true
  fn : ∃ (oc : Value) (od : Option Addr) (doc pm : Value) (an : Option Addr) (cdv ct : Value) (osl : Array (Option Value)) (p1 p2 q1 q2 q3 q4 : Pos),
    K.lookup fI = some ⟨oc, od, .func (fnOf "__init__" "InvalidMoment.__init__" (iA p1 p2) (iB q1 q2 q3 q4) iS .none .none doc pm an cdv ct), osl⟩ ∧ codeIn K cdv "InvalidMoment.__init__" = true
theorem one_size (v : Value) : [v].length ≤ sizeLine := by
  rw [sizeLine_eq]
  exact (by decide : 1 ≤ 16777216)
theorem kept_but {K : Frag} {h h' : Heap} {x : Addr} (X : K.In h) (hx : K.lookup x = none) (k : ∀ b o, b ≠ x → h.get? b = some o → h'.get? b = some o) : K.In h' := fun a o e =>
  k a o (fun z => by rw [z, hx] at e; cases e) (X a o e)
theorem ldC {M : Model} {s : Shared} {name : Str} {scope : Scope} {L a : Addr} {cd : Value} {m : Str → Option Value} {x : Str} {pos : Pos} {v : Value} {Q : Value → Shared → Prop} {A : Around} {E : Value → Shared → Prop} (hn : s.heap.Ns L m) (hv : m x = some v) (h : Q v s)
    (hk : scope.kind = .function := by rfl) (hl : (envOfC name scope L a cd).kindOf x = some .local := by rfl) (hd : (x == ("__debug__" : Str)) = false := by decide) :
    wpAny M A (eval (.Name x pos) (envOfC name scope L a cd)) Q E s := wpAny_Name (wpAny_loadName_local hk hl hn hv h) hd
/-- what __init__ leaves of a fresh exception at x -/
structure InitEnd (h h' : Heap) (x C dx t1 : Addr) (v : Value) : Prop where
  keep : ∀ b o, b ≠ x → h.get? b = some o → h'.get? b = some o
  obj : h'.get? x = some { cls := .ref C, dict := some dx, data := .fields #[.ref t1, .none, .none, .none, .bool false, .none] }
  dbig : h.objs.size ≤ dx
  dne : dx ≠ x
  ns : h'.Ns1 dx (fun y => if y = "moment" then some v else none)
/-- what is made -/
structure OwnMade (h h' : Heap) (e C d : Addr) (v : Value) : Prop where
  keep : ∀ b o, h.get? b = some o → h'.get? b = some o
  new : h.objs.size ≤ e
  obj : ∃ oe vs, h'.get? e = some oe ∧ oe.cls = .ref C ∧ oe.dict = some d ∧ oe.data = .fields vs ∧ vs[1]? = some .none
  dbig : h.objs.size ≤ d
  dne : d ≠ e
  ns : h'.Ns1 d (fun y => if y = "moment" then some v else none)
section
variable {prog : Program} {w : World} {A : Around} {E : Value → Shared → Prop} {R : Result → Shared → Prop} {s : Shared} {K : Frag} {mg : Str → Option Value} {C fI : Addr}
theorem imo_init (T : ImoTxt K mg C fI) {x t0 : Addr} {v : Value} (X : K.In s.heap) (hlim : s.heap.NoLimit) (hx : s.heap.get? x = some (excO C t0)) (hnx : K.lookup x = none) (hroom : A.depth < recursionLimit)
    (hq : ∀ h' tk dx, InitEnd s.heap h' x C dx t0 v → R (.ok (.ret .none)) { s with heap := h', toks := tk }) :
    codeAny (model prog w) A (.call (.ref fI) ⟨[.ref x, v], []⟩) R s := by
  obtain ⟨oc, od, doc, pm, an, cdv, ct, osl, p1, p2, q1, q2, q3, q4, ho, hcd⟩ := T.fn
  obtain ⟨nm, q, N, bs, bm, sn, sub, ab, col, dd, k0, k1, k2, k3, k5, hC, hbm⟩ := T.cls
  have hcl : clsIn K C = some { name := nm, bases := bs, mro := .ref C :: bm, ns := N, qualname := q, hasDict := true, slotNames := sn, subclasses := sub, abstract := ab, collection := col, hasDel := false } := by unfold clsIn; rw [hC] <;> rfl
  refine Att.call_fn (binds := [("self", .ref x), ("moment", v)]) X hlim ho hcd hroom (BindsTo.of_eq (by first | rfl | with_unfolding_all rfl)) (by first | rfl | decide | with_unfolding_all rfl) (fun s₁ IC => ?_) rfl rfl rfl
  obtain ⟨h₁, tk₁, rfl⟩ := IC.toInCall.same
  have k : ∀ b o, s.heap.get? b = some o → h₁.get? b = some o := IC.toInCall.keep
  have hn := IC.toInCall.ns
  have hxL : s.heap.objs.size ≠ x := Nat.ne_of_gt (Heap.lt_size hx)
  have X₁ : K.In h₁ := X.keeps k
  have hx₁ := k _ _ hx
  -- self.by = by
  show wpAny _ _ (execs _ _) _ _ _
  refine wpAny_execs_cons (plainObj_wpAny_Assign_Attribute ?_)
  refine ldC (v := v) hn (by first | rfl | with_unfolding_all rfl | kernel_rfl) (ldC (v := .ref x) hn (by first | rfl | with_unfolding_all rfl | kernel_rfl) ?_)
  refine set_plain X₁ (ox := excO C t0) (od := none) ⟨hx₁, rfl, rfl, trivial⟩ T.sa ?_
  refine exc_osa X₁ hx₁ hcl (show refsVE (.ref C :: bm) = true from hbm) rfl T.noN (fun h₃ tk₃ dx k₃ dn dne hx₃ hn₃ => ?_)
  show wpAny _ _ (execs _ _) _ _ _
  have z : s.heap.objs.size < h₁.objs.size := hn.lt
  exact wpAny_execs_nil (hq h₃ tk₃ dx ⟨fun b o hb e => k₃ b o hb (k b o e), hx₃, Nat.le_of_lt (Nat.lt_of_lt_of_le z dn), dne, hn₃⟩)
theorem imo_made (T : ImoTxt K mg C fI) {v : Value} (X : K.In s.heap) (hlim : s.heap.NoLimit) (hroom : A.depth + 1 < recursionLimit)
    (hq : ∀ h' tk e d, OwnMade s.heap h' e C d v → R (.ok (.ret (.ref e))) { s with heap := h', toks := tk }) :
    codeAny (model prog w) A (.call (.ref C) ⟨[v], []⟩) R s := by
  obtain ⟨nm, q, N, bs, bm, sn, sub, ab, col, dd, k0, k1, k2, k3, k5, hC, hbm⟩ := T.cls
  obtain ⟨hp, g, dr, tk, os⟩ := s
  have k : ∀ b o, hp.get? b = some o → ((hp.push (kdv_tup [v])).push (excO C hp.objs.size)).get? b = some o := fun b o e => Heap.get?_push_of_some _ (Heap.get?_push_of_some _ e)
  have hget : ((hp.push (kdv_tup [v])).push (excO C hp.objs.size)).get? (hp.objs.size + 1) = some (excO C hp.objs.size) := by heap_get
  have hnx : K.lookup (hp.objs.size + 1) = none := by
    cases e : K.lookup (hp.objs.size + 1) with
    | none => rfl
    | some o =>
      have z : hp.get? (hp.objs.size + 1) = some o := X _ _ e
      exact absurd (Nat.lt_of_succ_lt (Heap.lt_size z)) (Nat.lt_irrefl _)
  refine call_own F.excBase_ValueError (fun X => refsVE_contains X bm hbm) (X _ _ hC) (looks_findIn X T.iC) (fun self => bind_fn X self T.tC) (one_size v) ?_
  refine imo_init (s := ⟨(hp.push (kdv_tup [v])).push (excO C hp.objs.size), g, dr, tk, os⟩) T (X.keeps k) (hlim.keeps k) hget hnx ?_ fun h' tk' dx ⟨k', hx, dn, dne, hns⟩ => ?_
  · show A.depth + 1 < recursionLimit
    exact hroom
  · have old : ∀ b o, hp.get? b = some o → h'.get? b = some o := fun b o e => k' b o (Nat.ne_of_lt (Nat.lt_succ_of_lt (Heap.lt_size e))) (k b o e)
    have z : hp.objs.size + 1 + 1 ≤ dx := by
      first
        | (simpa only [Heap.size_push] using dn)
        | exact dn
        | (have q := dn; rw [Heap.size_push, Heap.size_push] at q; exact q)
    exact ⟨rfl, hq h' tk' (hp.objs.size + 1) dx ⟨old, Nat.le_succ _, ⟨_, _, hx, rfl, rfl, rfl, rfl⟩, Nat.le_trans (Nat.le_trans (Nat.le_succ _) (Nat.le_succ _)) z, dne, hns⟩⟩
end
end ImoX
end PySem
namespace L2
open PySem PySem.Spec PyProof.Rows
theorem relO_imo {v : V} {v' : Value} (r : RelV v v') (f : Str) : RelO (List.lookup f [(("moment" : Str), v)]) (if f = "moment" then some v' else none) := by
  by_cases hw : f = "moment"
  · subst hw
    rw [if_pos rfl]
    have q : List.lookup ("moment" : Str) [(("moment" : Str), v)] = some v := by simp [List.lookup]
    rw [q]
    exact r
  · rw [if_neg hw]
    have qw : (f == ("moment" : Str)) = false := by simpa using hw
    have q2 : List.lookup f [(("moment" : Str), v)] = none := by simp [List.lookup, qw]
    rw [q2]
    trivial
section
variable {X : Cx} {C fI : Addr}
def tMkImo (C : Addr) (ta : TA) : St → Hp → XK → Prop := fun σ H Q => ta σ H fun vs H1 => ∃ v, vs = [v] ∧ ∀ d, H1 d = none → Q (.ref C) (some d) (upd H1 d (.xd [(("moment" : Str), v)]))
theorem pmk_imo {a : Expr} {ta : TA} {p pos : Pos} {k : Nat} (T : PySem.ImoX.ImoTxt X.K X.mg C fI) (hr : Room k X.A) (ha : PA X [a] ta) (hg : Gl X "InvalidMoment" := by rfl)
    (he : starEach (a :: []) X.env = (false, eval a X.env) :: starEach [] X.env := by rfl) (hpl : (backTo pos (starEach [] X.env)).any (·.1) = false := by rfl) :
    PMk X (.Call (.Name "InvalidMoment" p) [a] [] pos) (tMkImo C ta) := by
  intro pins s σ H Q I h
  refine wpAny_Call_Name_kw (ld_glob I hg T.gC ?_)
  refine PySem.W.callWith_K (h₀ := X.base) I.ok.mod.kin T.kC (thn (ha.run pos pins s σ H _ I h) fun us s1 hh => ?_) he hpl
  obtain ⟨vs, H1, I1, r1, v, ev, q1⟩ := hh
  subst ev
  refine ⟨I1.kIn, ?_⟩
  cases r1 with
  | cons rv rn =>
    rename_i v' us'
    cases rn
    show wpAny _ _ (call (.ref C) [v']) _ _ _
    have hlim := I1.nolimit
    obtain ⟨hp, g, dr, tk, os⟩ := s1
    refine wpAny_call (PySem.ImoX.imo_made T I1.kIn hlim (by have := hr.dp; omega) fun h' tk' e d M => ?_)
    show MkP X pins σ Q (.ref e) ⟨h', g, dr, tk', os⟩
    obtain ⟨oe, fv, hoe, hc, hd, hdat, h1⟩ := M.obj
    have hns := M.ns
    obtain ⟨G', g1, g2⟩ := restrict h' fun b => decide (b ≠ e)
    have gk : ∀ b, b ≠ e → G'.get? b = h'.get? b := fun b hb => g1 b (decide_eq_true hb)
    have ge : G'.get? e = none := g2 e (by simp)
    have old : ∀ b o, hp.get? b = some o → G'.get? b = some o := fun b o q => (gk b (Nat.ne_of_lt (Nat.lt_of_lt_of_le (Heap.lt_size q) M.new))).trans (M.keep b o q)
    have ob : ObjOk X.prog X.w (upd H1 d (.xd [(("moment" : Str), v)])) G' d (.xd [(("moment" : Str), v)]) :=
      ⟨_, hns.at (fun o q => (gk d M.dne).trans q), fun f => relO_imo rv f⟩
    have J : Inv X pins σ (upd H1 d (.xd [(("moment" : Str), v)])) ⟨G', g, dr, tk', os⟩ := I1.laid (t' := tk') old M.dbig ob
    refine ⟨e, oe, fv, ⟨G', g, dr, tk', os⟩, _, .ref C, some d, rfl, J, fun b o q => ?_, ge, hoe, ⟨hc, hd⟩, hdat, h1, ?_, rfl, I1.bare, raises_own T.exC T.tyC, q1 d (I1.hok.fresh M.dbig)⟩
    · by_cases hb : b = e
      · have q' : G'.get? b = some o := q
        rw [hb, ge] at q'; cases q'
      · exact (gk b hb).symm.trans q
    · rw [upd_ne (Ne.symm M.dne)]
      exact I1.hok.fresh M.new
end
end L2
namespace Mi
open PySem PySem.Spec PyProof.Rows L2
section
variable {F : Fm} {e : Expr} {es : List Expr} {pos p pos2 : Pos} {x : Str} {kws : List Keyword} {ks : List Str} {me : ME}
/-- raise InvalidMoment(e) -/
theorem ssx_imo {n : Nat} {fI : Addr} (T : PySem.ImoX.ImoTxt F.K F.mg (F.ft.exc n).1 fI) (hf : (F.ft.exc n).2 = ("moment" : Str)) (he : SE F e me) (hg : F.sc.names.lookup ("InvalidMoment" : Str) = some .globalImplicit := by rfl) (hst : ∀ env : Env, starEach [e] env = (false, eval e env) :: starEach [] env := by intro _; rfl)
    (hpl : ∀ env : Env, (backTo pos (starEach [] env)).any (·.1) = false := by intro _; rfl) : SSX F (.Raise (some (.Call (.Name "InvalidMoment" p) [e] [] pos)) none pos2) (mRaise n me) := by
  refine ssx_raise (fun X h t ha => ?_) he hst
  have z := pmk_imo (X := X) (p := p) (pos := pos) (by rw [h.K, h.mg]; exact T) h.rm ha (h.gl hg) (hst _) (hpl _)
  intro pins s σ H Q I hw
  refine z pins s σ H Q I ?_
  unfold tMk1 at hw
  rw [hf] at hw
  exact hw
end
end Mi
set_option Elab.async false
set_option linter.all false
set_option maxRecDepth 100000
set_option maxHeartbeats 4000000
namespace Mi
open PySem PySem.Spec PyProof.Rows L2
/-- what a def tells that catches UnknownHolder and InvalidMoment -/
def outs : RO
  | .ok d C => mkTup [.str (Str.ofString "told"), d] C
  | .ex 0 d C => mkTup [.str (Str.ofString "holder"), d] C
  | .ex 1 d C => mkTup [.str (Str.ofString "moment"), d] C
  | .ex _ _ _ => none
end Mi
set_option Elab.async false
set_option linter.all false
set_option maxRecDepth 100000
set_option maxHeartbeats 4000000
namespace Mi
open PySem PySem.Spec PyProof.Rows L2
/-! ## sorted(a list of texts) -/
def sortedDT : ODL := fun xs C => match xs with
  | [x] => (match lstOf C x with
    | some ds => (match strsOf ds with
      | some ss => some (.cell C.length, C ++ [.lst ((srtS ss).map D.str)])
      | none => none)
    | _ => none)
  | _ => none
theorem sc_sortedT {F : Fm} : SCall F (.builtin "sorted") sortedDT := by
  refine ⟨_, fun X h => (show CallR X (.builtin "sorted") (rSrtG F.K) by rw [← h.K]; exact cr_srtG (Room.u64b h.rm)), fun ρ C H xs vs d C' Q R hx hm k => ?_⟩
  unfold sortedDT at hm
  split at hm
  · split at hm
    · rename_i x ds q
      cases hx with | cons h1 h2 =>
        cases h2
        obtain ⟨p, vs, rfl, e3, e4⟩ := lstOf_ok R h1 q
        split at hm
        · rename_i ss e1
          cases hm
          have ev := strsOf_ok e4 e1
          subst ev
          have pv : (ss.map fun x => ((V.str x, PyData.str x) : V × PyData)).map (·.1) = ss.map V.str := by rw [List.map_map]; rfl
          refine ⟨p, ss.map fun x => (V.str x, PyData.str x), rfl, by rw [pv]; exact .inl e3, fun t ht => ?_, ?_, ?_, fun t ht => ?_, fun l hl => ?_⟩
          · obtain ⟨x, _, rfl⟩ := List.mem_map.mp ht
            exact .str x
          · intro a ha b hb
            rw [List.map_map] at ha hb
            obtain ⟨x, _, rfl⟩ := List.mem_map.mp ha
            obtain ⟨y, _, rfl⟩ := List.mem_map.mp hb
            rfl
          · refine .inr fun a ha => ?_
            rw [List.map_map] at ha
            obtain ⟨x, _, rfl⟩ := List.mem_map.mp ha
            exact And.intro (fun z => (nomatch z)) (fun xs z => (nomatch z))
          · obtain ⟨x, _, rfl⟩ := List.mem_map.mp ht
            simp [PyData.depth]
          · have s2 : ((ss.map fun x => ((V.str x, PyData.str x) : V × PyData)).mergeSort (PySem.W.dataLe false (·.2))).map (·.1) = (srtS ss).map V.str := by
              have := List.map_mergeSort (r := PySem.W.dataLe false PyData.str) (s := PySem.W.dataLe false (fun p : V × PyData => p.2)) (f := fun x : Str => ((V.str x, PyData.str x) : V × PyData)) (l := ss) fun _ _ _ _ => rfl
              rw [← this, List.map_map]; rfl
            rw [s2]
            exact k _ _ _ (R.newL hl (dvs_strs _)) (Stp.push hl) (DV.new R)
        · cases hm
    · cases hm
  · cases hm
end Mi
set_option Elab.async false
set_option linter.all false
set_option maxRecDepth 100000
set_option maxHeartbeats 4000000
namespace Mi
open PySem PySem.Spec PyProof.Rows L2
/-! ## a list that is locked for good -/
def tFrz (t : TE) : TE := fun σ H Q => t σ H fun v H1 => (∃ P vs, H1 P = some (.lst vs) ∧ ∀ od, Q v (upd H1 P (.frz od (.lst vs)))) ∨ Q v H1
section
variable {X : Cx} {e : Expr} {t : TE} {st : Stmt} {ts : TS}
theorem pe_frz (h : PE X e t) : PE X e (tFrz t) := ⟨fun pins s σ H Q I hw => thn (h.run pins s σ H _ I hw) fun v s1 ⟨x, H1, I1, r, q⟩ => by
  rcases q with ⟨P, vs, hP, q⟩ | q
  · obtain ⟨od, I2⟩ := I1.lock hP True.intro
    exact ⟨x, _, I2, r, q od⟩
  · exact ⟨x, _, I1, r, q⟩⟩
def tFrzS (t : TS) : TS := fun D σ H => t { D with nx := fun σ' H' => (∃ P vs, H' P = some (.lst vs) ∧ ∀ od, D.nx σ' (upd H' P (.frz od (.lst vs)))) ∨ D.nx σ' H' } σ H
theorem ps_frz (h : PS X st ts) : PS X st (tFrzS ts) := ⟨fun pins s σ H D I hw => thn (h.run pins s σ H _ I hw) fun f s1 q => by
  cases f with
  | next =>
    obtain ⟨σ', H', I1, q⟩ := q
    rcases q with ⟨P, vs, hP, q⟩ | q
    · obtain ⟨od, I2⟩ := I1.lock hP True.intro
      exact ⟨σ', _, I2, q od⟩
    · exact ⟨σ', H', I1, q⟩
  | ret v => exact q
  | brk => exact q
  | cont => exact q⟩
end
section
variable {K : PySem.W.Frag} {ft : Cfg} {ρ ρ1 : List Addr} {H H1 : Hp} {C1 : Hm}
theorem take_at {n : Nat} {P : Addr} (h : ρ1[n]? = some P) (nd : ρ1.Nodup) : P ∉ ρ1.take n := fun z => by
  obtain ⟨i, hi, e⟩ := List.getElem_of_mem z
  have hl : i < n := by simp at hi; omega
  have h2 : ρ1[i]? = some P := by
    rw [← e, List.getElem_take]
    exact List.getElem?_eq_getElem _
  have := nodup_at nd h h2
  omega
/-- from the n-th on nothing is kept but the list there, locked -/
theorem frz_rel (R1 : Rel K ft ρ1 H1 C1) (s : Stp ρ H ρ1 H1) {n : Nat} {ds : List D} {P : Addr} (hn : ρ.length ≤ n) (hP : ρ1[n]? = some P) (hc : C1[n]? = some (.lst ds)) (b1 : bnds n ds = true) (b2 : (C1.take n).all (·.bnd n) = true) :
    ∃ vs, H1 P = some (.lst vs) ∧ ∀ od, Rel K ft (ρ1.take n) (upd H1 P (.frz od (.lst vs))) (C1.take n) ∧ Stp ρ H (ρ1.take n) (upd H1 P (.frz od (.lst vs))) ∧ DV K ft (ρ1.take n) (upd H1 P (.frz od (.lst vs))) (.rol ds) (.ref P) ∧
      Wk (ρ1.take n) H1 (ρ1.take n) (upd H1 P (.frz od (.lst vs))) := by
  obtain ⟨a, ha, vs, e1, e2⟩ := R1.ok n _ hc
  rw [hP] at ha
  cases ha
  have hl : n < ρ1.length := (List.getElem?_eq_some_iff.mp hP).1
  have hlt : (ρ1.take n).length = n := by simp; omega
  have hsp : ρ1.take n ++ ρ1.drop n = ρ1 := List.take_append_drop n ρ1
  have R2 : Rel K ft (ρ1.take n) H1 (C1.take n) := by
    have z := Rel.cut (ρ := ρ1.take n) (t := ρ1.drop n) (by rw [hsp]; exact R1) (by rw [hlt]; exact List.all_eq_true.mp b2)
    rwa [hlt] at z
  have d2 : DVs K ft (ρ1.take n) H1 ds vs := DVs.cut (t := ρ1.drop n) (by rw [hsp]; exact e2) (by rw [hlt]; exact b1)
  have nP := take_at hP R1.nd
  refine ⟨vs, e1, fun od => ?_⟩
  obtain ⟨R3, w3⟩ := R2.other nP e1 (o := .frz od (.lst vs))
  obtain ⟨t, et, ht⟩ := s.pre
  have hPn : H P = none := by
    have : P ∈ t := by
      rw [et, List.getElem?_append_right hn] at hP
      exact List.mem_of_getElem? hP
    exact ht P this
  have ne : ∀ b u, H b = some u → b ≠ P := fun b u e z => by rw [z, hPn] at e; cases e
  refine ⟨R3, ⟨⟨t.take (n - ρ.length), by rw [et, List.take_append, List.take_of_length_le hn], fun b hb => ht b (List.mem_of_mem_take hb)⟩, fun b o e hb => ?_, fun b o e => ?_, fun b xs e => ?_, fun b o u e => ?_⟩, .rol upd_same (DVs.monoW w3 d2), w3⟩
  · rw [upd_ne (ne b o e)]; exact s.keep b o e hb
  · rw [upd_ne (ne b o e)]; exact s.there b o e
  · rw [upd_ne (ne b _ e)]; exact s.tups b xs e
  · rw [upd_ne (ne b _ e)]; exact s.frzs b o u e
end
/-- a new list is locked, and all that was made beside it is let go -/
def frzR (k : Nat) (r : D × Hm) : Option (D × Hm) := match r.1 with
  | .cell n => if k ≤ n then match r.2[n]? with
    | some (.lst ds) => if bnds n ds && (r.2.take n).all (·.bnd n) then some (.rol ds, r.2.take n) else none
    | _ => some r else some r
  | _ => some r
def mFrz (m : ME) : ME := fun E C => (m E C).bind fun r => frzR C.length r
section
variable {F : Fm}
theorem evE_frz {t : TE} {m : ME} (s : EvE F t m) : EvE F (tFrz t) (mFrz m) := by
  intro ρ C H E σ d C' Q R eo hm k
  obtain ⟨⟨d1, C1⟩, h1, hm⟩ := obind hm
  refine s ρ C H E σ d1 C1 _ R eo h1 fun ρ1 H1 v R1 s1 dv1 => ?_
  unfold frzR at hm
  simp only at hm
  split at hm
  · rename_i n
    split at hm
    · rename_i hn
      split at hm
      · rename_i ds hc
        split at hm
        · rename_i hb
          cases hm
          rw [Bool.and_eq_true] at hb
          cases dv1 with | cell hP =>
            obtain ⟨vs, e1, z⟩ := frz_rel R1 s1 (by rw [R.len]; exact hn) hP hc hb.1 hb.2
            refine .inl ⟨_, vs, e1, fun od => ?_⟩
            obtain ⟨R2, s2, d2, _⟩ := z od
            exact k _ _ _ R2 s2 d2
        · cases hm
      · cases hm; exact .inr (k ρ1 H1 v R1 s1 dv1)
    · cases hm; exact .inr (k ρ1 H1 v R1 s1 dv1)
  · cases hm; exact .inr (k ρ1 H1 v R1 s1 dv1)
theorem se_frz {e : Expr} {m : ME} (h : SE F e m) : SE F e (mFrz m) := let ⟨t, p, s⟩ := h; ⟨tFrz t, fun X i => pe_frz (p X i), evE_frz s⟩
/-- a call's list, locked; the cells that the call has made are let go -/
def keepR (k : Nat) (r : D × Hm) : Option (D × Hm) := match r.1 with
  | .cell n => if k ≤ n then match r.2[n]? with
    | some (.lst ds) => if bnds k ds && (r.2.take k).all (·.bnd k) then some (.rol ds, r.2.take k) else none
    | _ => none else cutC k r
  | _ => cutC k r
def mKeepF (m : ME) : ME := fun E C => (m E C).bind fun r => keepR C.length r
mutual
theorem D.bnd_le {k n : Nat} (h : k ≤ n) : ∀ d : D, d.bnd k = true → d.bnd n = true
  | .non, _ | .bl _, _ | .int _, _ | .str _, _ | .fn _, _ | .scr _, _ | .ty _, _ => rfl
  | .cell j, e => by simp only [D.bnd, decide_eq_true_eq] at e ⊢; omega
  | .tup ds, e => bnds_le h ds (by simpa [D.bnd] using e)
  | .rol ds, e => bnds_le h ds (by simpa [D.bnd] using e)
theorem bnds_le {k n : Nat} (h : k ≤ n) : ∀ ds : List D, bnds k ds = true → bnds n ds = true
  | [], _ => rfl
  | d :: ds, e => by
    simp only [bnds, Bool.and_eq_true] at e ⊢
    exact ⟨D.bnd_le h d e.1, bnds_le h ds e.2⟩
end
theorem evE_keepF {t : TE} {m : ME} (s : EvE F t m) : EvE F (tFrz t) (mKeepF m) := by
  intro ρ C H E σ d C' Q R eo hm k
  obtain ⟨⟨d1, C1⟩, h1, hm⟩ := obind hm
  have cutCase : cutC C.length (d1, C1) = some (d, C') → tFrz t σ H Q := fun hm => by
    have z := evE_keep s ρ C H E σ d C' (fun v H1 => (∃ P vs, H1 P = some (.lst vs) ∧ ∀ od, Q v (upd H1 P (.frz od (.lst vs)))) ∨ Q v H1) R eo (by unfold mKeep; rw [h1]; exact hm) fun ρ' H' v R' s' dv => .inr (k ρ' H' v R' s' dv)
    exact z
  unfold keepR at hm
  simp only at hm
  split at hm
  · rename_i n
    split at hm
    · rename_i hn
      split at hm
      · rename_i ds hc
        split at hm
        · rename_i hb
          cases hm
          rw [Bool.and_eq_true] at hb
          refine s ρ C H E σ _ C1 _ R eo h1 fun ρ1 H1 v R1 s1 dv1 => ?_
          cases dv1 with | @cell _ P hP =>
            obtain ⟨t, et, ht⟩ := s1.pre
            subst et
            have Rc := R1.cut (by rw [R.len]; exact List.all_eq_true.mp hb.2)
            rw [R.len] at Rc
            have sc : Stp ρ H ρ H1 := ⟨⟨[], by simp, by simp⟩, s1.keep, s1.there, s1.tups, s1.frzs⟩
            obtain ⟨a, ha, vs, e1, e2⟩ := R1.ok n _ hc
            rw [hP] at ha
            cases ha
            have hPt : P ∈ t := by
              rw [List.getElem?_append_right (by rw [R.len]; exact hn)] at hP
              exact List.mem_of_getElem? hP
            have nP : P ∉ ρ := fun z => (List.nodup_append.mp R1.nd).2.2 _ z _ hPt rfl
            have dc : DVs F.K F.ft ρ H1 ds vs := e2.cut (by rw [R.len]; exact hb.1)
            refine .inl ⟨_, vs, e1, fun od => ?_⟩
            obtain ⟨R3, w3⟩ := Rc.other nP e1 (o := .frz od (.lst vs))
            have hPn := ht _ hPt
            have ne : ∀ b u, H b = some u → b ≠ P := fun b u e z => by rw [z, hPn] at e; cases e
            refine k ρ _ _ R3 ⟨⟨[], by simp, by simp⟩, fun b o e hb => ?_, fun b o e => ?_, fun b xs e => ?_, fun b o u e => ?_⟩ (.rol upd_same (DVs.monoW w3 dc))
            · rw [upd_ne (ne b o e)]; exact s1.keep b o e hb
            · rw [upd_ne (ne b o e)]; exact s1.there b o e
            · rw [upd_ne (ne b _ e)]; exact s1.tups b xs e
            · rw [upd_ne (ne b _ e)]; exact s1.frzs b o u e
        · cases hm
      · cases hm
    · exact cutCase hm
  · exact cutCase hm
theorem se_keepF {e : Expr} {m : ME} (h : SE F e m) : SE F e (mKeepF m) := let ⟨t, p, s⟩ := h; ⟨tFrz t, fun X i => pe_frz (p X i), evE_keepF s⟩
/-! ## names that are done with -/
theorem EnvOk.forget {K : PySem.W.Frag} {ft : Cfg} {ρ : List Addr} {H : Hp} {E : Ev} {σ : L2.St} (h : EnvOk K ft ρ H E σ) : ∀ vs : List Nat, EnvOk K ft ρ H (wipeE E vs) σ
  | [] => h
  | v :: vs => by
    have z := EnvOk.forget h vs
    refine ⟨by simp only [wipeE, List.length_set]; exact z.len, fun i d e => ?_⟩
    unfold wipeE at e
    by_cases hv : v = i
    · subst hv
      by_cases hl : v < (wipeE E vs).length
      · rw [List.getElem?_set_self hl] at e; cases e
      · rw [List.getElem?_eq_none (by simp only [List.length_set]; omega)] at e; cases e
    · rw [List.getElem?_set_ne hv] at e
      exact z.at_ i d e
def wipeO (vs : List Nat) : Out → Out
  | .nx E C => .nx (wipeE E vs) C
  | .ct E C => .ct (wipeE E vs) C
  | .bk E C => .bk (wipeE E vs) C
  | o => o
def mWipe (vs : List Nat) (m : MS) : MS := fun E C => (m E C).map (wipeO vs)
theorem evS_wipe {t : TS} {m : MS} (vs : List Nat) (s : EvS F t m) : EvS F t (mWipe vs m) := fun ρ C H E σ o Z R eo hm k => by
  obtain ⟨o1, h1, e⟩ := omap hm
  subst e
  refine s ρ C H E σ o1 Z R eo h1 ?_
  cases o1 with
  | nx E1 C1 => exact fun ρ' H' σ' R' s' eo' => k ρ' H' σ' R' s' (eo'.forget vs)
  | ct E1 C1 => exact fun ρ' H' σ' R' s' eo' => k ρ' H' σ' R' s' (eo'.forget vs)
  | bk E1 C1 => exact fun ρ' H' σ' R' s' eo' => k ρ' H' σ' R' s' (eo'.forget vs)
  | rt d C1 => exact k
theorem sb_wipe {sts : List Stmt} {m : MS} (vs : List Nat) (h : SB F sts m) : SB F sts (mWipe vs m) := let ⟨t, p, s⟩ := h; ⟨t, p, evS_wipe vs s⟩
theorem ss_wipe {st : Stmt} {m : MS} (vs : List Nat) (h : SS F st m) : SS F st (mWipe vs m) := let ⟨t, p, s⟩ := h; ⟨t, p, evS_wipe vs s⟩
/-- a name's list is locked from here on -/
def frzE (i : Nat) (E : Ev) (C : Hm) : Option Out := match E[i]? with
  | some (some (.cell n)) => (match C[n]? with
    | some (.lst ds) => if bnds n ds && (C.take n).all (·.bnd n) && (E.set i none).all (fun o => match o with | some d => d.bnd n | none => true) then some (.nx (E.set i (some (.rol ds))) (C.take n)) else none
    | _ => none)
  | _ => none
end
end Mi
set_option Elab.async false
set_option linter.all false
set_option maxRecDepth 100000
set_option maxHeartbeats 4000000
namespace Mi
open PySem PySem.Spec PyProof.Rows L2
section
variable {F : Fm} {tg iter elt : Expr} {ifs : List Expr} {scope : Scope} {own : List (Str × Nat)} {src : MI} {g : MG} {mt : MT} {me : ME} {slots : List Nat} {pos : Pos}
/-- a list comprehension, its list locked at once -/
def mLcV (src : MI) (tg : MG) (tt : MT) (elt : ME) (vs : List Nat) : ME := fun E C => (src E C).bind fun p => (lcLoop p.1 tg tt elt (wipeE E vs) (p.2.1 + 1) 0 [] p.2.2).bind fun q => some (.rol q.1, q.2)
theorem evl_lcV {wi : TI} {gg : TG} {tt : TT} {te : TE} (si : ∀ ρ C H E σ it n C' R, RelF F ρ H C → EnvF F ρ H E σ → src E C = some (it, n, C') → (∀ ρ' H' J, RelF F ρ' H' C' → Stp ρ H ρ' H' → ItOk F ρ' H' it J → R J H') → wi σ H R)
    (sg : EvG F gg slots g) (st : EvT F tt mt) (se : EvE F te me) (vs : List Nat) (hsl : ∀ i ∈ slots, i ∈ vs) : EvE F (tFrz (tLc wi gg tt te vs)) (mLcV src g mt me vs) := by
  intro ρ C H E σ d C' Q R eo hm k
  obtain ⟨⟨it, n, C1⟩, h1, hm⟩ := obind hm
  obtain ⟨⟨accF, CF⟩, h2, hm⟩ := obind hm
  cases hm
  simp only at h2
  refine si ρ C H E σ it n C1 _ R eo h1 fun ρ0 H0 J R0 s0 ok => ?_
  intro P hP
  have outP : ∀ {ρ1 Hc}, Stp ρ0 H0 ρ1 Hc → P ∉ ρ1 → ∀ {o}, Stp ρ0 H0 ρ1 (upd Hc P o) := fun {ρ1 Hc} s hp {o} => by
    have ne : ∀ b u, H0 b = some u → b ≠ P := fun b u e z => by rw [z, hP] at e; cases e
    exact ⟨s.pre, fun b u e hb => by rw [upd_ne (ne b u e)]; exact s.keep b u e hb, fun b u e => by rw [upd_ne (ne b u e)]; exact s.there b u e, fun b u e => by rw [upd_ne (ne _ _ e)]; exact s.tups b u e, fun b u w e => by rw [upd_ne (ne _ _ e)]; exact s.frzs b u w e⟩
  refine ⟨fun i m Hc => ∃ ρ1 Cc accD accV, RelF F ρ1 Hc Cc ∧ P ∉ ρ1 ∧ Stp ρ0 H0 ρ1 Hc ∧ Hc P = some (.lst accV) ∧ DVsF F ρ1 Hc accD accV ∧ lcLoop it g mt me (wipeE E vs) m i accD Cc = some (accF, CF),
    ⟨n + 1, ρ0, C1, [], [], R0.fresh hP, R0.out hP, Stp.fresh hP, upd_same, .nil, h2⟩, ?_⟩
  rintro i m Hc ⟨ρ1, Cc, accD, accV, R1, nP, s1, eP, dA, hf⟩
  cases m with
  | zero => cases hf
  | succ fuel =>
    unfold lcLoop at hf
    obtain ⟨r, e1, hf⟩ := obind hf
    have oki := ok ρ1 Hc Cc R1 s1.wk i r e1
    cases r with
    | none =>
      cases hf
      refine .inl ⟨oki, .inl ⟨P, accV, eP, fun od => k ρ1 (upd Hc P (.frz od (.lst accV))) (.ref P) (R1.other nP eP).1 (s0.trans (outP s1 nP)) (.rol upd_same (DVs.monoW (R1.other nP eP).2 dA))⟩⟩
    | some x =>
      refine .inr ⟨oki.1, fun H2 => ∃ ρ2 C2 accD accV, RelF F ρ2 H2 C2 ∧ P ∉ ρ2 ∧ Stp ρ0 H0 ρ2 H2 ∧ H2 P = some (.lst accV) ∧ DVsF F ρ2 H2 accD accV ∧ lcLoop it g mt me (wipeE E vs) fuel (i + 1) accD C2 = some (accF, CF), fun H2 z => ⟨fuel, Nat.lt_succ_self _, z⟩, fun v H' hy => ?_⟩
      obtain ⟨R2, s2, dv⟩ := oki.2 v H' hy
      obtain ⟨E2, e2, hf⟩ := obind hf
      obtain ⟨⟨b, C3⟩, e3, hf⟩ := obind hf
      have eo2 : EnvF F ρ1 H' (wipeE E vs) (L2.wipe σ vs) := (eo.wipe vs).mono ((s0.trans s1).trans s2)
      have keepP : ∀ {ρa Ha ρb Hb accV}, Stp ρa Ha ρb Hb → P ∉ ρa → Ha P = some (.lst accV) → P ∉ ρb ∧ Hb P = some (.lst accV) := fun {ρa Ha ρb Hb accV} s hn e => by
        refine ⟨fun z => ?_, s.keep _ _ e hn⟩
        obtain ⟨t, et, ht⟩ := s.pre
        rw [et] at z
        rcases List.mem_append.mp z with z | z
        · exact hn z
        · rw [ht _ z] at e; cases e
      obtain ⟨nP2, eP2⟩ := keepP s2 nP eP
      refine sg ρ1 Cc H' (wipeE E vs) (L2.wipe σ vs) x v E2 _ R2 eo2 dv e2 fun σ3 eo3 w3 => ?_
      refine ⟨by rw [w3 vs hsl, wipe_idem], ?_⟩
      refine st ρ1 Cc H' E2 σ3 b C3 _ R2 eo3 e3 fun ρ3 H3 R3 s3 => ?_
      obtain ⟨nP3, eP3⟩ := keepP s3 nP2 eP2
      cases b with
      | false =>
        exact ⟨ρ3, C3, accD, accV, R3, nP3, (s1.trans s2).trans s3, eP3, (dA.mono s2).mono s3, hf⟩
      | true =>
        obtain ⟨⟨y, C4⟩, e4, hf⟩ := obind (show (me E2 C3).bind _ = some (accF, CF) from hf)
        simp only at hf
        split at hf
        · rename_i hlen
          refine se ρ3 C3 H3 E2 σ3 y C4 _ R3 (eo3.mono s3) e4 fun ρ4 H4 v4 R4 s4 d4 => ?_
          obtain ⟨nP4, eP4⟩ := keepP s4 nP3 eP3
          have dA4 : DVsF F ρ4 H4 accD accV := ((dA.mono s2).mono s3).mono s4
          refine ⟨accV, eP4, by rw [← dA4.length]; exact hlen, ?_⟩
          obtain ⟨R5, w5⟩ := R4.other nP4 eP4 (o := .lst (accV ++ [v4]))
          exact ⟨ρ4, C4, accD ++ [y], accV ++ [v4], R5, nP4, outP (((s1.trans s2).trans s3).trans s4) nP4, upd_same, DVs.monoW w5 (dA4.append (.cons d4 .nil)), hf⟩
        · cases hf
theorem se_lcV (own : List (Str × Nat)) (hi : SI F tg iter src) (ok : BlkOk F.N F.sc scope own) (hg : SG (F.blk scope) tg slots g) (ht : SPT (F.blk scope) ifs mt) (he : SE (F.blk scope) elt me) (hsl : ∀ i ∈ slots, i ∈ own.map (·.2) := by decide)
    (hs : ∀ (env : Env) x, foldedSetIterable iter env x = pure x := by intro _ _; rfl) : SE F (.ListComp elt [⟨tg, iter, ifs, 0⟩] scope pos) (mLcV src g mt me (own.map (·.2))) := by
  obtain ⟨wi, pi, si⟩ := hi
  obtain ⟨gg, pg, sg⟩ := hg
  obtain ⟨tt, pt, st⟩ := ht
  obtain ⟨te, pe, se⟩ := he
  refine ⟨_, fun X h => pe_frz ?_, evl_lcV si sg st se _ hsl⟩
  exact pe_lc h.calm h.nd (pi X h) (by rw [h.N, h.sc]; exact ok) (fun _ _ _ _ _ => pg _ h.blk) (fun _ _ _ _ _ => pt _ h.blk) (fun _ _ _ _ _ => pe _ h.blk) (hs _)
theorem ss_setLcV {x : Str} {py spos : Pos} (i : Nat) (own : List (Str × Nat)) (hsw : ∀ env : Env, env.scope = F.sc → swapsWith (.ListComp elt [⟨tg, iter, ifs, 0⟩] scope pos) (some (.Name x py)) spos.line env = pure true)
    (hi : SI F tg iter src) (ok : BlkOk F.N F.sc scope own) (hg : SG (F.blk scope) tg slots g) (ht : SPT (F.blk scope) ifs mt) (he : SE (F.blk scope) elt me) (hN : F.N[i]? = some x := by rfl) (hl : F.sc.names.lookup x = some .local := by rfl) (hsl : ∀ i ∈ slots, i ∈ own.map (·.2) := by decide)
    (hs : ∀ (env : Env) x, foldedSetIterable iter env x = pure x := by intro _ _; rfl) : SS F (.Assign [.Name x py] (.ListComp elt [⟨tg, iter, ifs, 0⟩] scope pos) spos) (mAsg (mLcV src g mt me (own.map (·.2))) (gN i)) := by
  obtain ⟨wi, pi, si⟩ := hi
  obtain ⟨gg, pg, sg⟩ := hg
  obtain ⟨tt, pt, st⟩ := ht
  obtain ⟨te, pe, se⟩ := he
  refine ⟨tFrzS (tAsg (tLc wi gg tt te (own.map (·.2))) (gName i)), fun X h => ps_frz ?_, fun ρ C H E σ o Z R eo hm k => ?_⟩
  · exact ps_setLc h.calm h.nd (by rw [h.N]; exact hN) (by rw [h.sc]; exact hl) (hsw _ h.sc) (pi X h) (by rw [h.N, h.sc]; exact ok) (fun _ _ _ _ _ => pg _ h.blk) (fun _ _ _ _ _ => pt _ h.blk) (fun _ _ _ _ _ => pe _ h.blk) (hs _)
  · obtain ⟨⟨x, C1⟩, h1, hm⟩ := obind hm
    cases hm
    exact evl_lcV si sg st se _ hsl ρ C H E σ x C1 (fun v H1 => Z.nx (σ.set i (some v)) H1) R eo h1 fun ρ1 H1 v1 R1 s1 d1 => k ρ1 H1 _ R1 s1 ((eo.mono s1).set d1)
end
end Mi
set_option Elab.async false
set_option linter.all false
set_option maxRecDepth 100000
set_option maxHeartbeats 4000000
namespace G
open PySem PySem.Spec PyProof.Rows L2 Mi
def top (i : Nat) : Stmt := PySem.Challenge.pw_sealshelf_k32_lyings_told.main.body.getD i (.Pass ⟨0, 0, 0, 0⟩)
structure Txt (P : Program) (w : World) (mg : Str → Option Value) (ft : Cfg) : Prop where
  hsh : ft.hash = MD.MK.hash P w
  b_bool : mg "bool" = none
  b_enumerate : mg "enumerate" = none
  b_int : mg "int" = none
  b_isinstance : mg "isinstance" = none
  b_len : mg "len" = none
  b_list : mg "list" = none
  b_range : mg "range" = none
  b_repr : mg "repr" = none
  b_set : mg "set" = none
  b_sorted : mg "sorted" = none
  b_tuple : mg "tuple" = none
abbrev S_law_said : Stmt := top 33
def g_1_0 {α : Type} : List α → List α
  | [a0, a1] => [a1, a0]
  | l => l
theorem g_1_0_vals {zs : List V} {ws : List Value} (hl : zs.length = 2) (r : Vals zs ws) : Vals (g_1_0 zs) (g_1_0 ws) := match zs, ws, r with
  | [a0, a1], _, .cons r0 (.cons r1 (.nil)) => .cons r1 (.cons r0 (.nil))
theorem g_1_0_dvs {K : PySem.W.Frag} {ft : Cfg} {ρ : List Addr} {H : Hp} {ds : List D} {zs : List V} (hl : ds.length = 2) (r : DVs K ft ρ H ds zs) : DVs K ft ρ H (g_1_0 ds) (g_1_0 zs) := match ds, zs, r with
  | [a0, a1], _, .cons r0 (.cons r1 (.nil)) => .cons r1 (.cons r0 (.nil))
theorem g_1_0_len {α : Type} {ds : List α} (hl : ds.length = 2) : (g_1_0 ds).length = 2 := match ds, hl with
  | [a0, a1], _ => rfl
def g_2_1_0 {α : Type} : List α → List α
  | [a0, a1, a2] => [a2, a1, a0]
  | l => l
theorem g_2_1_0_vals {zs : List V} {ws : List Value} (hl : zs.length = 3) (r : Vals zs ws) : Vals (g_2_1_0 zs) (g_2_1_0 ws) := match zs, ws, r with
  | [a0, a1, a2], _, .cons r0 (.cons r1 (.cons r2 (.nil))) => .cons r2 (.cons r1 (.cons r0 (.nil)))
theorem g_2_1_0_dvs {K : PySem.W.Frag} {ft : Cfg} {ρ : List Addr} {H : Hp} {ds : List D} {zs : List V} (hl : ds.length = 3) (r : DVs K ft ρ H ds zs) : DVs K ft ρ H (g_2_1_0 ds) (g_2_1_0 zs) := match ds, zs, r with
  | [a0, a1, a2], _, .cons r0 (.cons r1 (.cons r2 (.nil))) => .cons r2 (.cons r1 (.cons r0 (.nil)))
theorem g_2_1_0_len {α : Type} {ds : List α} (hl : ds.length = 3) : (g_2_1_0 ds).length = 3 := match ds, hl with
  | [a0, a1, a2], _ => rfl
/-! is_number -/
abbrev S_is_number : Stmt := top 8
abbrev N_is_number : List Str := ["thing"]
abbrev P_is_number : List Str := ["thing"]
theorem scope_is_number : FnScope N_is_number P_is_number (defScope S_is_number) := ⟨rfl, rfl, rfl, by decide +kernel, rfl, by decide +kernel, by decide +kernel⟩
def B_is_number : MS :=
    (mRet (mAnd (mCallB isiD (mCons (mVar 0) (mCons (mC (.ty .int)) mNil))) (mAnd (mNot (mCallB isiD (mCons (mVar 0) (mCons (mC (.ty .bl)) mNil)))) (mBin dGe (mVar 0) (mC (.int 0))))))
def M_is_number : MF := mFn 1 1 (B_is_number)
theorem sb_is_number {P : Program} {w : World} {K : PySem.W.Frag} {mg : Str → Option Value} {base : Heap} {ft : Cfg} (T : Txt P w mg ft)  : SB (fmOf P w K mg base ft S_is_number N_is_number 0) (defBody S_is_number) B_is_number :=
    (sb_one (ss_ret (se_and (se_callB sc_isi T.b_isinstance (by decide +kernel) (sa_cons (se_var 0) (sa_cons (se_ty .int T.b_int (by decide +kernel)) sa_nil))) (se_and (se_not (se_callB sc_isi T.b_isinstance (by decide +kernel) (sa_cons (se_var 0) (sa_cons (se_ty .bl T.b_bool (by decide +kernel)) sa_nil)))) (se_one (se_cmp so_ge (se_var 0) se_int))))))
/-! check_known -/
abbrev S_check_known : Stmt := top 10
abbrev N_check_known : List Str := ["names", "group", "k", "value"]
abbrev P_check_known : List Str := ["names", "group"]
theorem scope_check_known : FnScope N_check_known P_check_known (defScope S_check_known) := ⟨rfl, rfl, rfl, by decide +kernel, rfl, by decide +kernel, by decide +kernel⟩
def B_check_known : MS :=
    (mFor (mIEnum (mCons (mVar 1) mNil)) (gT 2 (gsCons (gN 2) (gsCons (gN 3) gsNil))) (mWipe [2, 3] (mIfS (tOrM (mTest (mBin (inD true) (mVar 3) (mVar 0))) (mTest (mBin (inD false) (mVar 3) (mSl slD (mVar 1) oNone (oSome (mVar 2)))))) mStop mNext)))
def M_check_known : MF := mFn 2 4 (B_check_known)
theorem sb_check_known {P : Program} {w : World} {K : PySem.W.Frag} {mg : Str → Option Value} {base : Heap} {ft : Cfg} (T : Txt P w mg ft)  : SB (fmOf P w K mg base ft S_check_known N_check_known 0) (defBody S_check_known) B_check_known :=
    (sb_one (ss_for (si_enum T.b_enumerate (sa_cons (se_var 1) sa_nil)) (sg_tup (sgs_cons (sg_name 2) (sgs_cons (sg_name 3) sgs_nil))) (sb_wipe [2, 3] (sb_one (ss_if (st_w (sw_or (st_cmp so_notIn (se_var 3) (se_var 0)) (sw_or1 (st_cmp so_in (se_var 3) (se_slice ssl (se_var 1) so_none (so_some (se_var 2))))))) (sb_one ss_raise) sb_nil)))))
def BX_check_known : MSX :=
    (mForX (mIEnum (mCons (mVar 1) mNil)) (gT 2 (gsCons (gN 2) (gsCons (gN 3) gsNil))) (mIfX (tOrM (mTest (mBin (inD true) (mVar 3) (mVar 0))) (mTest (mBin (inD false) (mVar 3) (mSl slD (mVar 1) oNone (oSome (mVar 2)))))) (mRaise 0 (mVar 3)) (liftX mNext)))
def X_check_known : MFX := mFnX 2 4 BX_check_known
theorem sbx_check_known {P : Program} {w : World} {K : PySem.W.Frag} {mg : Str → Option Value} {base : Heap} {ft : Cfg} (T : Txt P w mg ft) {f_uho : Addr} (T_uho : PySem.UhoX.UhoTxt K mg (ft.exc 0).1 f_uho) (rfl_uho : (ft.exc 0).2 = ("holder" : Str)) {f_imo : Addr} (T_imo : PySem.ImoX.ImoTxt K mg (ft.exc 1).1 f_imo) (rfl_imo : (ft.exc 1).2 = ("moment" : Str))  : SBX (fmOf P w K mg base ft S_check_known N_check_known 0) (defBody S_check_known) BX_check_known :=
    (sbx_one (ssx_for (si_enum T.b_enumerate (sa_cons (se_var 1) sa_nil)) (sg_tup (sgs_cons (sg_name 2) (sgs_cons (sg_name 3) sgs_nil))) (sbx_one (ssx_if (st_w (sw_or (st_cmp so_notIn (se_var 3) (se_var 0)) (sw_or1 (st_cmp so_in (se_var 3) (se_slice ssl (se_var 1) so_none (so_some (se_var 2))))))) (sbx_one (ssx_uho (n := 0) T_uho rfl_uho (se_var 3))) (sbx_of sb_nil)))))
/-! boxes_put -/
abbrev S_boxes_put : Stmt := top 12
abbrev N_boxes_put : List Str := ["history", "deed"]
abbrev P_boxes_put : List Str := ["history"]
theorem scope_boxes_put : FnScope N_boxes_put P_boxes_put (defScope S_boxes_put) := ⟨rfl, rfl, rfl, by decide +kernel, rfl, by decide +kernel, by decide +kernel⟩
def B_boxes_put : MS :=
    (mRet (mCallB tupleD (mCons (mLcV (mIAny (mVar 0)) (gN 1) (mTest (mBin dEq (mBin ixD (mVar 1) (mC (.int 0))) (mC (.str (Str.ofString "put"))))) (mBin ixD (mVar 1) (mC (.int 1))) [1]) mNil)))
def M_boxes_put : MF := mFn 1 2 (B_boxes_put)
theorem sb_boxes_put {P : Program} {w : World} {K : PySem.W.Frag} {mg : Str → Option Value} {base : Heap} {ft : Cfg} (T : Txt P w mg ft)  : SB (fmOf P w K mg base ft S_boxes_put N_boxes_put 0) (defBody S_boxes_put) B_boxes_put :=
    (sb_one (ss_ret (se_callTy sc_tuple T.b_tuple (by decide +kernel) (sa_cons (se_lcV [((Str.ofString "deed"), 1)] (si_any (se_var 0)) (blkOk_by (by dsimp only [fmOf, fmOfT, Fm.blk]; decide +kernel)) (sg_name 1) (spt_one (st_cmp so_eq (se_ix six (se_var 1) se_int) se_str)) (se_ix six (se_var 1) se_int)) sa_nil))))
/-! check_moment -/
abbrev S_check_moment : Stmt := top 17
abbrev N_check_moment : List Str := ["history", "moment"]
abbrev P_check_moment : List Str := ["history", "moment"]
theorem scope_check_moment : FnScope N_check_moment P_check_moment (defScope S_check_moment) := ⟨rfl, rfl, rfl, by decide +kernel, rfl, by decide +kernel, by decide +kernel⟩
def B_check_moment : MS :=
    (mIfS (tOrM (tNotM (mTru (mKeepF (mCall M_is_number (mCons (mVar 1) mNil))))) (mTest (mBin dGt (mVar 1) (mCallB lenD (mCons (mVar 0) mNil))))) mStop mNext)
def M_check_moment : MF := mFn 2 2 (B_check_moment)
theorem sb_check_moment {P : Program} {w : World} {K : PySem.W.Frag} {mg : Str → Option Value} {base : Heap} {ft : Cfg} (T : Txt P w mg ft) (c_is_number : Callee P w K mg base ft "is_number" 1 M_is_number 1) : SB (fmOf P w K mg base ft S_check_moment N_check_moment 1) (defBody S_check_moment) B_check_moment :=
    (sb_one (ss_if (st_w (sw_or (st_not (st_tru (se_keepF (se_call _ c_is_number (sa_cons (se_var 1) sa_nil) (mCons_len len0))))) (sw_or1 (st_cmp so_gt (se_var 1) (se_callB sc_len T.b_len (by decide +kernel) (sa_cons (se_var 0) sa_nil)))))) (sb_one ss_raise) sb_nil))
def BX_check_moment : MSX :=
    (mIfX (tOrM (tNotM (mTru (mKeepF (mCall M_is_number (mCons (mVar 1) mNil))))) (mTest (mBin dGt (mVar 1) (mCallB lenD (mCons (mVar 0) mNil))))) (mRaise 1 (mVar 1)) (liftX mNext))
def X_check_moment : MFX := mFnX 2 2 BX_check_moment
theorem sbx_check_moment {P : Program} {w : World} {K : PySem.W.Frag} {mg : Str → Option Value} {base : Heap} {ft : Cfg} (T : Txt P w mg ft) {f_uho : Addr} (T_uho : PySem.UhoX.UhoTxt K mg (ft.exc 0).1 f_uho) (rfl_uho : (ft.exc 0).2 = ("holder" : Str)) {f_imo : Addr} (T_imo : PySem.ImoX.ImoTxt K mg (ft.exc 1).1 f_imo) (rfl_imo : (ft.exc 1).2 = ("moment" : Str)) (c_is_number : Callee P w K mg base ft "is_number" 1 M_is_number 1) : SBX (fmOf P w K mg base ft S_check_moment N_check_moment 1) (defBody S_check_moment) BX_check_moment :=
    (sbx_one (ssx_if (st_w (sw_or (st_not (st_tru (se_keepF (se_call _ c_is_number (sa_cons (se_var 1) sa_nil) (mCons_len len0))))) (sw_or1 (st_cmp so_gt (se_var 1) (se_callB sc_len T.b_len (by decide +kernel) (sa_cons (se_var 0) sa_nil)))))) (sbx_one (ssx_imo (n := 1) T_imo rfl_imo (se_var 1))) (sbx_of sb_nil)))
/-! lying -/
abbrev S_lying : Stmt := top 13
abbrev N_lying : List Str := ["history", "moment", "deeds", "taken", "deed", "b"]
abbrev P_lying : List Str := ["history", "moment"]
theorem scope_lying : FnScope N_lying P_lying (defScope S_lying) := ⟨rfl, rfl, rfl, by decide +kernel, rfl, by decide +kernel, by decide +kernel⟩
def B_lying : MS :=
    (mSeq (mDrop (mKeepF (mCall M_check_moment (mCons (mVar 0) (mCons (mVar 1) mNil)))))
    (mSeq (mAsg (mSl slD (mVar 0) oNone (oSome (mVar 1))) (gN 2))
    (mSeq (mAsg (mDc (mIAny (mVar 2)) (gN 4) (mTest (mBin dEq (mBin ixD (mVar 4) (mC (.int 0))) (mC (.str (Str.ofString "take"))))) (mBin ixD (mVar 4) (mC (.int 1))) (mC (.bl true)) [4]) (gN 3))
    (mRet (mCallB tupleD (mCons (mLcV (mIRng1 (mCons (mCallB lenD (mCons (mKeepF (mCall M_boxes_put (mCons (mVar 2) mNil))) mNil)) mNil)) (gN 5) (mTest (mBin (inX true) (mVar 5) (mVar 3))) (mVar 5) [5]) mNil))))))
def M_lying : MF := mFn 2 6 (B_lying)
theorem sb_lying {P : Program} {w : World} {K : PySem.W.Frag} {mg : Str → Option Value} {base : Heap} {ft : Cfg} (T : Txt P w mg ft) (c_boxes_put : Callee P w K mg base ft "boxes_put" 1 M_boxes_put 1) (c_check_moment : Callee P w K mg base ft "check_moment" 2 M_check_moment 2) : SB (fmOf P w K mg base ft S_lying N_lying 2) (defBody S_lying) B_lying :=
    (sb_cons (ss_expr (se_keepF (se_call _ c_check_moment (sa_cons (se_var 0) (sa_cons (se_var 1) sa_nil)) (mCons_len (mCons_len len0)))))
    (sb_cons (ss_set 2 (se_slice ssl (se_var 0) so_none (so_some (se_var 1))))
    (sb_cons (ss_setS 3 (se_dc [((Str.ofString "deed"), 4)] T.hsh (si_any (se_var 2)) (blkOk_by (by dsimp only [fmOf, fmOfT, Fm.blk]; decide +kernel)) (sg_name 4) (spt_one (st_cmp so_eq (se_ix six (se_var 4) se_int) se_str)) (se_ix six (se_var 4) se_int) se_bl) (fun env h => sw_cellD (by rw [h]; rfl)))
    (sb_one (ss_ret (se_callTy sc_tuple T.b_tuple (by decide +kernel) (sa_cons (se_lcV [((Str.ofString "b"), 5)] (si_range1 T.b_range (sa_cons (se_callB sc_len T.b_len (by decide +kernel) (sa_cons (se_keepF (se_call _ c_boxes_put (sa_cons (se_var 2) sa_nil) (mCons_len len0))) sa_nil)) sa_nil)) (blkOk_by (by dsimp only [fmOf, fmOfT, Fm.blk]; decide +kernel)) (sg_name 5) (spt_one (st_cmp (so_notInX T.hsh) (se_var 5) (se_var 3))) (se_var 5)) sa_nil)))))))
def BX_lying : MSX :=
    (mSeqX (mDropX (mKeepX (mCallX X_check_moment (mCons (mVar 0) (mCons (mVar 1) mNil)))))
    (mSeqX (liftX (mAsg (mSl slD (mVar 0) oNone (oSome (mVar 1))) (gN 2)))
    (mSeqX (liftX (mAsg (mDc (mIAny (mVar 2)) (gN 4) (mTest (mBin dEq (mBin ixD (mVar 4) (mC (.int 0))) (mC (.str (Str.ofString "take"))))) (mBin ixD (mVar 4) (mC (.int 1))) (mC (.bl true)) [4]) (gN 3)))
    (liftX (mRet (mCallB tupleD (mCons (mLcV (mIRng1 (mCons (mCallB lenD (mCons (mKeepF (mCall M_boxes_put (mCons (mVar 2) mNil))) mNil)) mNil)) (gN 5) (mTest (mBin (inX true) (mVar 5) (mVar 3))) (mVar 5) [5]) mNil)))))))
def X_lying : MFX := mFnX 2 6 BX_lying
theorem sbx_lying {P : Program} {w : World} {K : PySem.W.Frag} {mg : Str → Option Value} {base : Heap} {ft : Cfg} (T : Txt P w mg ft) {f_uho : Addr} (T_uho : PySem.UhoX.UhoTxt K mg (ft.exc 0).1 f_uho) (rfl_uho : (ft.exc 0).2 = ("holder" : Str)) {f_imo : Addr} (T_imo : PySem.ImoX.ImoTxt K mg (ft.exc 1).1 f_imo) (rfl_imo : (ft.exc 1).2 = ("moment" : Str)) (c_boxes_put : Callee P w K mg base ft "boxes_put" 1 M_boxes_put 1) (xc_check_moment : CalleeX P w K mg base ft "check_moment" 2 X_check_moment 2) : SBX (fmOf P w K mg base ft S_lying N_lying 2) (defBody S_lying) BX_lying :=
    (sbx_cons (ssx_expr (sex_keep (sex_call _ xc_check_moment (sa_cons (se_var 0) (sa_cons (se_var 1) sa_nil)) (mCons_len (mCons_len len0)))))
    (sbx_cons (ssx_of (ss_set 2 (se_slice ssl (se_var 0) so_none (so_some (se_var 1)))))
    (sbx_cons (ssx_of (ss_setS 3 (se_dc [((Str.ofString "deed"), 4)] T.hsh (si_any (se_var 2)) (blkOk_by (by dsimp only [fmOf, fmOfT, Fm.blk]; decide +kernel)) (sg_name 4) (spt_one (st_cmp so_eq (se_ix six (se_var 4) se_int) se_str)) (se_ix six (se_var 4) se_int) se_bl) (fun env h => sw_cellD (by rw [h]; rfl))))
    (sbx_one (ssx_of (ss_ret (se_callTy sc_tuple T.b_tuple (by decide +kernel) (sa_cons (se_lcV [((Str.ofString "b"), 5)] (si_range1 T.b_range (sa_cons (se_callB sc_len T.b_len (by decide +kernel) (sa_cons (se_keepF (se_call _ c_boxes_put (sa_cons (se_var 2) sa_nil) (mCons_len len0))) sa_nil)) sa_nil)) (blkOk_by (by dsimp only [fmOf, fmOfT, Fm.blk]; decide +kernel)) (sg_name 5) (spt_one (st_cmp (so_notInX T.hsh) (se_var 5) (se_var 3))) (se_var 5)) sa_nil))))))))
/-! holders_of -/
abbrev S_holders_of : Stmt := top 15
abbrev N_holders_of : List Str := ["history", "deed"]
abbrev P_holders_of : List Str := ["history"]
theorem scope_holders_of : FnScope N_holders_of P_holders_of (defScope S_holders_of) := ⟨rfl, rfl, rfl, by decide +kernel, rfl, by decide +kernel, by decide +kernel⟩
def B_holders_of : MS :=
    (mRet (mCallB tupleD (mCons (mFrz (mSrtSc1 (mIAny (mVar 0)) (gN 1) (mTest (mBin dEq (mBin ixD (mVar 1) (mC (.int 0))) (mC (.str (Str.ofString "hand"))))) (mBin ixD (mVar 1) (mC (.int 1))) [1])) mNil)))
def M_holders_of : MF := mFn 1 2 (B_holders_of)
theorem sb_holders_of {P : Program} {w : World} {K : PySem.W.Frag} {mg : Str → Option Value} {base : Heap} {ft : Cfg} (T : Txt P w mg ft)  : SB (fmOf P w K mg base ft S_holders_of N_holders_of 0) (defBody S_holders_of) B_holders_of :=
    (sb_one (ss_ret (se_callTy sc_tuple T.b_tuple (by decide +kernel) (sa_cons (se_frz (se_srtSc1 [((Str.ofString "deed"), 1)] T.b_sorted (si_any (se_var 0)) (blkOk_by (by dsimp only [fmOf, fmOfT, Fm.blk]; decide +kernel)) (sg_name 1) (spt_one (st_cmp so_eq (se_ix six (se_var 1) se_int) se_str)) (se_ix six (se_var 1) se_int))) sa_nil))))
/-! check_members -/
abbrev S_check_members : Stmt := top 16
abbrev N_check_members : List Str := ["history", "group"]
abbrev P_check_members : List Str := ["history", "group"]
theorem scope_check_members : FnScope N_check_members P_check_members (defScope S_check_members) := ⟨rfl, rfl, rfl, by decide +kernel, rfl, by decide +kernel, by decide +kernel⟩
def B_check_members : MS :=
    (mDrop (mKeepF (mCall M_check_known (mCons (mBin addD (mKeepF (mCall M_holders_of (mCons (mVar 0) mNil))) (mTup (mCons (mC (.str (Str.ofString "world"))) mNil))) (mCons (mVar 1) mNil)))))
def M_check_members : MF := mFn 2 2 (B_check_members)
theorem sb_check_members {P : Program} {w : World} {K : PySem.W.Frag} {mg : Str → Option Value} {base : Heap} {ft : Cfg} (T : Txt P w mg ft) (c_check_known : Callee P w K mg base ft "check_known" 2 M_check_known 1) (c_holders_of : Callee P w K mg base ft "holders_of" 1 M_holders_of 1) : SB (fmOf P w K mg base ft S_check_members N_check_members 1) (defBody S_check_members) B_check_members :=
    (sb_one (ss_expr (se_keepF (se_call _ c_check_known (sa_cons (se_op so_add (se_keepF (se_call _ c_holders_of (sa_cons (se_var 0) sa_nil) (mCons_len len0))) (se_tup (sa_cons se_str sa_nil))) (sa_cons (se_var 1) sa_nil)) (mCons_len (mCons_len len0))))))
def BX_check_members : MSX :=
    (mDropX (mKeepX (mCallX X_check_known (mCons (mBin addD (mKeepF (mCall M_holders_of (mCons (mVar 0) mNil))) (mTup (mCons (mC (.str (Str.ofString "world"))) mNil))) (mCons (mVar 1) mNil)))))
def X_check_members : MFX := mFnX 2 2 BX_check_members
theorem sbx_check_members {P : Program} {w : World} {K : PySem.W.Frag} {mg : Str → Option Value} {base : Heap} {ft : Cfg} (T : Txt P w mg ft) {f_uho : Addr} (T_uho : PySem.UhoX.UhoTxt K mg (ft.exc 0).1 f_uho) (rfl_uho : (ft.exc 0).2 = ("holder" : Str)) {f_imo : Addr} (T_imo : PySem.ImoX.ImoTxt K mg (ft.exc 1).1 f_imo) (rfl_imo : (ft.exc 1).2 = ("moment" : Str)) (c_holders_of : Callee P w K mg base ft "holders_of" 1 M_holders_of 1) (xc_check_known : CalleeX P w K mg base ft "check_known" 2 X_check_known 1) : SBX (fmOf P w K mg base ft S_check_members N_check_members 1) (defBody S_check_members) BX_check_members :=
    (sbx_one (ssx_expr (sex_keep (sex_call _ xc_check_known (sa_cons (se_op so_add (se_keepF (se_call _ c_holders_of (sa_cons (se_var 0) sa_nil) (mCons_len len0))) (se_tup (sa_cons se_str sa_nil))) (sa_cons (se_var 1) sa_nil)) (mCons_len (mCons_len len0))))))
/-! hand_at -/
abbrev S_hand_at : Stmt := top 14
abbrev N_hand_at : List Str := ["history", "group", "moment", "deeds", "handed", "deed", "leaked"]
abbrev P_hand_at : List Str := ["history", "group", "moment"]
theorem scope_hand_at : FnScope N_hand_at P_hand_at (defScope S_hand_at) := ⟨rfl, rfl, rfl, by decide +kernel, rfl, by decide +kernel, by decide +kernel⟩
def B_hand_at : MS :=
    (mSeq (mDrop (mKeepF (mCall M_check_members (mCons (mVar 0) (mCons (mVar 1) mNil)))))
    (mSeq (mDrop (mKeepF (mCall M_check_moment (mCons (mVar 0) (mCons (mVar 2) mNil)))))
    (mSeq (mAsg (mSl slD (mVar 0) oNone (oSome (mVar 2))) (gN 3))
    (mSeq (mAsg (mLcV (mIAny (mVar 3)) (gN 5) (tAndM (mTest (mBin dEq (mBin ixD (mVar 5) (mC (.int 0))) (mC (.str (Str.ofString "hand"))))) (mTest (mBin (inD false) (mBin ixD (mVar 5) (mC (.int 1))) (mVar 1)))) (mBin ixD (mVar 5) (mC (.int 2))) [5]) (gN 4))
    (mSeq (mAsg (mLcV (mIAny (mVar 3)) (gN 5) (tAndM (mTest (mBin dEq (mBin ixD (mVar 5) (mC (.int 0))) (mC (.str (Str.ofString "leak"))))) (mTest (mBin (inD false) (mC (.str (Str.ofString "world"))) (mVar 1)))) (mBin ixD (mVar 5) (mC (.int 1))) [5]) (gN 6))
    (mRet (mCallB tupleD (mCons (mFrz (mSrtSet (mFrz (mBin addD (mVar 4) (mVar 6))))) mNil))))))))
def M_hand_at : MF := mFn 3 7 (B_hand_at)
theorem sb_hand_at {P : Program} {w : World} {K : PySem.W.Frag} {mg : Str → Option Value} {base : Heap} {ft : Cfg} (T : Txt P w mg ft) (c_check_moment : Callee P w K mg base ft "check_moment" 2 M_check_moment 2) (c_check_members : Callee P w K mg base ft "check_members" 2 M_check_members 2) : SB (fmOf P w K mg base ft S_hand_at N_hand_at 2) (defBody S_hand_at) B_hand_at :=
    (sb_cons (ss_expr (se_keepF (se_call _ c_check_members (sa_cons (se_var 0) (sa_cons (se_var 1) sa_nil)) (mCons_len (mCons_len len0)))))
    (sb_cons (ss_expr (se_keepF (se_call _ c_check_moment (sa_cons (se_var 0) (sa_cons (se_var 2) sa_nil)) (mCons_len (mCons_len len0)))))
    (sb_cons (ss_set 3 (se_slice ssl (se_var 0) so_none (so_some (se_var 2))))
    (sb_cons (ss_setLcV 4 [((Str.ofString "deed"), 5)] (fun env h => sw_true (by rw [h]; rfl) (by rw [h]; rfl) rfl (by decide +kernel)) (si_any (se_var 3)) (blkOk_by (by dsimp only [fmOf, fmOfT, Fm.blk]; decide +kernel)) (sg_name 5) (spt_one (st_w (sw_and (st_cmp so_eq (se_ix six (se_var 5) se_int) se_str) (sw_and1 (st_cmp so_in (se_ix six (se_var 5) se_int) (se_var 1)))))) (se_ix six (se_var 5) se_int))
    (sb_cons (ss_setLcV 6 [((Str.ofString "deed"), 5)] (fun env h => sw_true (by rw [h]; rfl) (by rw [h]; rfl) rfl (by decide +kernel)) (si_any (se_var 3)) (blkOk_by (by dsimp only [fmOf, fmOfT, Fm.blk]; decide +kernel)) (sg_name 5) (spt_one (st_w (sw_and (st_cmp so_eq (se_ix six (se_var 5) se_int) se_str) (sw_and1 (st_cmp so_in se_str (se_var 1)))))) (se_ix six (se_var 5) se_int))
    (sb_one (ss_ret (se_callTy sc_tuple T.b_tuple (by decide +kernel) (sa_cons (se_frz (se_srtSetX T.b_sorted T.b_set (se_frz (se_op so_add (se_var 4) (se_var 6))))) sa_nil)))))))))
def BX_hand_at : MSX :=
    (mSeqX (mDropX (mKeepX (mCallX X_check_members (mCons (mVar 0) (mCons (mVar 1) mNil)))))
    (mSeqX (mDropX (mKeepX (mCallX X_check_moment (mCons (mVar 0) (mCons (mVar 2) mNil)))))
    (mSeqX (liftX (mAsg (mSl slD (mVar 0) oNone (oSome (mVar 2))) (gN 3)))
    (mSeqX (liftX (mAsg (mLcV (mIAny (mVar 3)) (gN 5) (tAndM (mTest (mBin dEq (mBin ixD (mVar 5) (mC (.int 0))) (mC (.str (Str.ofString "hand"))))) (mTest (mBin (inD false) (mBin ixD (mVar 5) (mC (.int 1))) (mVar 1)))) (mBin ixD (mVar 5) (mC (.int 2))) [5]) (gN 4)))
    (mSeqX (liftX (mAsg (mLcV (mIAny (mVar 3)) (gN 5) (tAndM (mTest (mBin dEq (mBin ixD (mVar 5) (mC (.int 0))) (mC (.str (Str.ofString "leak"))))) (mTest (mBin (inD false) (mC (.str (Str.ofString "world"))) (mVar 1)))) (mBin ixD (mVar 5) (mC (.int 1))) [5]) (gN 6)))
    (liftX (mRet (mCallB tupleD (mCons (mFrz (mSrtSet (mFrz (mBin addD (mVar 4) (mVar 6))))) mNil)))))))))
def X_hand_at : MFX := mFnX 3 7 BX_hand_at
theorem sbx_hand_at {P : Program} {w : World} {K : PySem.W.Frag} {mg : Str → Option Value} {base : Heap} {ft : Cfg} (T : Txt P w mg ft) {f_uho : Addr} (T_uho : PySem.UhoX.UhoTxt K mg (ft.exc 0).1 f_uho) (rfl_uho : (ft.exc 0).2 = ("holder" : Str)) {f_imo : Addr} (T_imo : PySem.ImoX.ImoTxt K mg (ft.exc 1).1 f_imo) (rfl_imo : (ft.exc 1).2 = ("moment" : Str)) (xc_check_moment : CalleeX P w K mg base ft "check_moment" 2 X_check_moment 2) (xc_check_members : CalleeX P w K mg base ft "check_members" 2 X_check_members 2) : SBX (fmOf P w K mg base ft S_hand_at N_hand_at 2) (defBody S_hand_at) BX_hand_at :=
    (sbx_cons (ssx_expr (sex_keep (sex_call _ xc_check_members (sa_cons (se_var 0) (sa_cons (se_var 1) sa_nil)) (mCons_len (mCons_len len0)))))
    (sbx_cons (ssx_expr (sex_keep (sex_call _ xc_check_moment (sa_cons (se_var 0) (sa_cons (se_var 2) sa_nil)) (mCons_len (mCons_len len0)))))
    (sbx_cons (ssx_of (ss_set 3 (se_slice ssl (se_var 0) so_none (so_some (se_var 2)))))
    (sbx_cons (ssx_of (ss_setLcV 4 [((Str.ofString "deed"), 5)] (fun env h => sw_true (by rw [h]; rfl) (by rw [h]; rfl) rfl (by decide +kernel)) (si_any (se_var 3)) (blkOk_by (by dsimp only [fmOf, fmOfT, Fm.blk]; decide +kernel)) (sg_name 5) (spt_one (st_w (sw_and (st_cmp so_eq (se_ix six (se_var 5) se_int) se_str) (sw_and1 (st_cmp so_in (se_ix six (se_var 5) se_int) (se_var 1)))))) (se_ix six (se_var 5) se_int)))
    (sbx_cons (ssx_of (ss_setLcV 6 [((Str.ofString "deed"), 5)] (fun env h => sw_true (by rw [h]; rfl) (by rw [h]; rfl) rfl (by decide +kernel)) (si_any (se_var 3)) (blkOk_by (by dsimp only [fmOf, fmOfT, Fm.blk]; decide +kernel)) (sg_name 5) (spt_one (st_w (sw_and (st_cmp so_eq (se_ix six (se_var 5) se_int) se_str) (sw_and1 (st_cmp so_in se_str (se_var 1)))))) (se_ix six (se_var 5) se_int)))
    (sbx_one (ssx_of (ss_ret (se_callTy sc_tuple T.b_tuple (by decide +kernel) (sa_cons (se_frz (se_srtSetX T.b_sorted T.b_set (se_frz (se_op so_add (se_var 4) (se_var 6))))) sa_nil))))))))))
/-! _law_feed -/
abbrev S_law_feed : Stmt := top 19
abbrev N_law_feed : List Str := ["_law_script"]
abbrev P_law_feed : List Str := ["_law_script"]
theorem scope_law_feed : FnScope N_law_feed P_law_feed (defScope S_law_feed) := ⟨rfl, rfl, rfl, by decide +kernel, rfl, by decide +kernel, by decide +kernel⟩
def B_law_feed : MS :=
    (mRet (mDisp [(Str.ofString "cells"), (Str.ofString "at"), (Str.ofString "left"), (Str.ofString "count")] (mCons (mFrz (mCallB listD (mCons (mFrz (mSl slD (mVar 0) oNone (oSome (mC (.int 63))))) mNil))) (mCons (mC (.int 0)) (mCons (mC (.int 0)) (mCons (mC (.int 0)) mNil))))))
def M_law_feed : MF := mFn 1 1 (B_law_feed)
theorem sb_law_feed {P : Program} {w : World} {K : PySem.W.Frag} {mg : Str → Option Value} {base : Heap} {ft : Cfg} (T : Txt P w mg ft)  : SB (fmOf P w K mg base ft S_law_feed N_law_feed 0) (defBody S_law_feed) B_law_feed :=
    (sb_one (ss_ret (se_disp (sds_cons (se_frz (se_callTy sc_list T.b_list (by decide +kernel) (sa_cons (se_frz (se_slice ssl (se_var 0) so_none (so_some se_int))) sa_nil))) (sds_cons se_int (sds_cons se_int (sds_cons se_int sds_nil)))) rfl rfl (by simp) (by decide) (by decide +kernel) (by decide))))
/-! _law_draw -/
abbrev S_law_draw : Stmt := top 20
abbrev N_law_draw : List Str := ["_law_feed_here", "_law_many", "_law_figure", "_law_at", "_law_cell_now", "_law_mixed"]
abbrev P_law_draw : List Str := ["_law_feed_here", "_law_many"]
theorem scope_law_draw : FnScope N_law_draw P_law_draw (defScope S_law_draw) := ⟨rfl, rfl, rfl, by decide +kernel, rfl, by decide +kernel, by decide +kernel⟩
def B_law_draw : MS :=
    (mSeq (mDPut (mBin addD (mBin dgetD (mVar 0) (mC (.str (Str.ofString "count")))) (mC (.int 1))) (mVar 0) (mC (.str (Str.ofString "count"))))
    (mSeq (mIfS (mTest (mBin dGt (mBin dgetD (mVar 0) (mC (.str (Str.ofString "left")))) (mC (.int 0)))) (mSeq (mAsg (mBin modD (mCallB intC (mCons (mBin dgetD (mVar 0) (mC (.str (Str.ofString "left")))) mNil)) (mVar 1)) (gN 2))
    (mSeq (mDPut (mBin fdivD (mBin dgetD (mVar 0) (mC (.str (Str.ofString "left")))) (mVar 1)) (mVar 0) (mC (.str (Str.ofString "left"))))
    (mRet (mVar 2)))) mNext)
    (mSeq (mAsg (mBin dgetD (mVar 0) (mC (.str (Str.ofString "at")))) (gN 3))
    (mSeq (mDPut (mBin addD (mVar 3) (mC (.int 1))) (mVar 0) (mC (.str (Str.ofString "at"))))
    (mSeq (mAsg (mIf (mTest (mBin dNe (mBin dgetD (mVar 0) (mC (.str (Str.ofString "cells")))) (mFrz (mLst mNil)))) (mBin ixD (mBin dgetD (mVar 0) (mC (.str (Str.ofString "cells")))) (mBin modD (mCallB intC (mCons (mVar 3) mNil)) (mCallB lenD (mCons (mBin dgetD (mVar 0) (mC (.str (Str.ofString "cells")))) mNil)))) (mC (.int 32295))) (gN 4))
    (mSeq (mIfS (tAndM (mTest (mBin dGe (mVar 4) (mBin powD (mC (.int 10)) (mC (.int 18))))) (mTest (mBin dLt (mVar 3) (mCallB lenD (mCons (mBin dgetD (mVar 0) (mC (.str (Str.ofString "cells")))) mNil))))) (mSeq (mDPut (mBin fdivD (mVar 4) (mVar 1)) (mVar 0) (mC (.str (Str.ofString "left"))))
    (mRet (mBin modD (mCallB intC (mCons (mVar 4) mNil)) (mVar 1)))) mNext)
    (mSeq (mAsg (mBin modD (mCallB intC (mCons (mBin addD (mBin addD (mBin modD (mCallB intC (mCons (mVar 4) mNil)) (mC (.int 1000022577))) (mBin mulD (mC (.int 154883)) (mBin dgetD (mVar 0) (mC (.str (Str.ofString "count")))))) (mC (.int 115))) mNil)) (mC (.int 2147483579))) (gN 5))
    (mSeq (mAsg (mBin modD (mCallB intC (mCons (mBin addD (mBin addD (mBin mulD (mVar 5) (mVar 5)) (mBin mulD (mC (.int 8422977)) (mBin dgetD (mVar 0) (mC (.str (Str.ofString "count")))))) (mC (.int 85))) mNil)) (mC (.int 2147483549))) (gN 5))
    (mRet (mBin modD (mCallB intC (mCons (mBin fdivD (mBin modD (mCallB intC (mCons (mBin addD (mBin mulD (mVar 5) (mVar 5)) (mBin mulD (mC (.int 159)) (mVar 5))) mNil)) (mC (.int 2147483543))) (mC (.int 16))) mNil)) (mVar 1)))))))))))
def M_law_draw : MF := mFn 2 6 (B_law_draw)
theorem sb_law_draw {P : Program} {w : World} {K : PySem.W.Frag} {mg : Str → Option Value} {base : Heap} {ft : Cfg} (T : Txt P w mg ft)  : SB (fmOf P w K mg base ft S_law_draw N_law_draw 0) (defBody S_law_draw) B_law_draw :=
    (sb_cons (ss_dput (se_var 0) se_str (se_op so_add (se_dget (se_var 0) se_str) se_int))
    (sb_cons (ss_if (st_cmp so_gt (se_dget (se_var 0) se_str) se_int) (sb_cons (ss_set 2 (se_op so_mod (se_callTy sc_int T.b_int (by decide +kernel) (sa_cons (se_dget (se_var 0) se_str) sa_nil)) (se_var 1)))
    (sb_cons (ss_dput (se_var 0) se_str (se_op so_fdiv (se_dget (se_var 0) se_str) (se_var 1)))
    (sb_one (ss_ret (se_var 2))))) sb_nil)
    (sb_cons (ss_set 3 (se_dget (se_var 0) se_str))
    (sb_cons (ss_dput (se_var 0) se_str (se_op so_add (se_var 3) se_int))
    (sb_cons (ss_set 4 (se_if (st_cmp so_ne (se_dget (se_var 0) se_str) (se_frz (se_lst sa_nil))) (se_ix six (se_dget (se_var 0) se_str) (se_op so_mod (se_callTy sc_int T.b_int (by decide +kernel) (sa_cons (se_var 3) sa_nil)) (se_callB sc_len T.b_len (by decide +kernel) (sa_cons (se_dget (se_var 0) se_str) sa_nil)))) se_int))
    (sb_cons (ss_if (st_w (sw_and (st_cmp so_ge (se_var 4) (se_op so_pow se_int se_int)) (sw_and1 (st_cmp so_lt (se_var 3) (se_callB sc_len T.b_len (by decide +kernel) (sa_cons (se_dget (se_var 0) se_str) sa_nil)))))) (sb_cons (ss_dput (se_var 0) se_str (se_op so_fdiv (se_var 4) (se_var 1)))
    (sb_one (ss_ret (se_op so_mod (se_callTy sc_int T.b_int (by decide +kernel) (sa_cons (se_var 4) sa_nil)) (se_var 1))))) sb_nil)
    (sb_cons (ss_set 5 (se_op so_mod (se_callTy sc_int T.b_int (by decide +kernel) (sa_cons (se_op so_add (se_op so_add (se_op so_mod (se_callTy sc_int T.b_int (by decide +kernel) (sa_cons (se_var 4) sa_nil)) se_int) (se_op so_mul se_int (se_dget (se_var 0) se_str))) se_int) sa_nil)) se_int))
    (sb_cons (ss_set 5 (se_op so_mod (se_callTy sc_int T.b_int (by decide +kernel) (sa_cons (se_op so_add (se_op so_add (se_op so_mul (se_var 5) (se_var 5)) (se_op so_mul se_int (se_dget (se_var 0) se_str))) se_int) sa_nil)) se_int))
    (sb_one (ss_ret (se_op so_mod (se_callTy sc_int T.b_int (by decide +kernel) (sa_cons (se_op so_fdiv (se_op so_mod (se_callTy sc_int T.b_int (by decide +kernel) (sa_cons (se_op so_add (se_op so_mul (se_var 5) (se_var 5)) (se_op so_mul se_int (se_var 5))) sa_nil)) se_int) se_int) sa_nil)) (se_var 1))))))))))))
/-! _law_any -/
abbrev S_law_any : Stmt := top 21
abbrev N_law_any : List Str := ["_law_feed_here", "_law_some"]
abbrev P_law_any : List Str := ["_law_feed_here", "_law_some"]
theorem scope_law_any : FnScope N_law_any P_law_any (defScope S_law_any) := ⟨rfl, rfl, rfl, by decide +kernel, rfl, by decide +kernel, by decide +kernel⟩
def B_law_any : MS :=
    (mRet (mBin ixD (mVar 1) (mKeepF (mCall M_law_draw (mCons (mVar 0) (mCons (mCallB lenD (mCons (mVar 1) mNil)) mNil))))))
def M_law_any : MF := mFn 2 2 (B_law_any)
theorem sb_law_any {P : Program} {w : World} {K : PySem.W.Frag} {mg : Str → Option Value} {base : Heap} {ft : Cfg} (T : Txt P w mg ft) (c_law_draw : Callee P w K mg base ft "_law_draw" 2 M_law_draw 1) : SB (fmOf P w K mg base ft S_law_any N_law_any 1) (defBody S_law_any) B_law_any :=
    (sb_one (ss_ret (se_ix six (se_var 1) (se_keepF (se_call _ c_law_draw (sa_cons (se_var 0) (sa_cons (se_callB sc_len T.b_len (by decide +kernel) (sa_cons (se_var 1) sa_nil)) sa_nil)) (mCons_len (mCons_len len0)))))))
/-! _law_opened -/
abbrev S_law_opened : Stmt := top 22
abbrev N_law_opened : List Str := ["_law_things", "_law_boxes", "_law_found", "_law_is_new", "_law_thing_now", "_law_locks", "_law_key_now"]
abbrev P_law_opened : List Str := ["_law_things", "_law_boxes"]
theorem scope_law_opened : FnScope N_law_opened P_law_opened (defScope S_law_opened) := ⟨rfl, rfl, rfl, by decide +kernel, rfl, by decide +kernel, by decide +kernel⟩
def B_law_opened : MS :=
    (mSeq (mAsg (mTup (mCons (mCallB listD (mCons (mVar 0) mNil)) (mCons (mC (.bl true)) mNil))) (gT 2 (gsCons (gN 2) (gsCons (gN 3) gsNil))))
    (mSeq (whLoop (mTru (mVar 3)) (mWipe [4, 5] (mSeq (mAsg (mC (.bl false)) (gN 3))
    (mFor (mIAny (mVar 1)) (gT 2 (gsCons (gN 4) (gsCons (gN 5) gsNil))) (mWipe [4, 5] (mIfS (tAndM (mTest (mBin (inD true) (mVar 4) (mVar 2))) (mTest (mBin dEq (mLcV (mIAny (mVar 5)) (gN 6) (mTest (mBin (inD true) (mVar 6) (mVar 2))) (mVar 6) [6]) (mFrz (mLst mNil))))) (mSeq (mDrop (mMeth "list" appendD (mVar 2) (mCons (mVar 4) mNil)))
    (mAsg (mC (.bl true)) (gN 3))) mNext))))) fuel)
    (mRet (mVar 2))))
def M_law_opened : MF := mFn 2 7 (B_law_opened)
theorem sb_law_opened {P : Program} {w : World} {K : PySem.W.Frag} {mg : Str → Option Value} {base : Heap} {ft : Cfg} (T : Txt P w mg ft)  : SB (fmOf P w K mg base ft S_law_opened N_law_opened 0) (defBody S_law_opened) B_law_opened :=
    (sb_cons (ss_asgS (se_tup (sa_cons (se_callTy sc_list T.b_list (by decide +kernel) (sa_cons (se_var 0) sa_nil)) (sa_cons se_bl sa_nil))) (sg_tup (sgs_cons (sg_name 2) (sgs_cons (sg_name 3) sgs_nil))) (fun env h => by cases env; cases h; rfl))
    (sb_cons (ss_while fuel (st_tru (se_var 3)) (sb_wipe [4, 5] (sb_cons (ss_set 3 se_bl)
    (sb_one (ss_for (si_any (se_var 1)) (sg_tup (sgs_cons (sg_name 4) (sgs_cons (sg_name 5) sgs_nil))) (sb_wipe [4, 5] (sb_one (ss_if (st_w (sw_and (st_cmp so_notIn (se_var 4) (se_var 2)) (sw_and1 (st_cmp so_eq (se_lcV [((Str.ofString "_law_key_now"), 6)] (si_any (se_var 5)) (blkOk_by (by dsimp only [fmOf, fmOfT, Fm.blk]; decide +kernel)) (sg_name 6) (spt_one (st_cmp so_notIn (se_var 6) (se_var 2))) (se_var 6)) (se_frz (se_lst sa_nil)))))) (sb_cons (ss_expr (se_bm PySem.F.plainAttrs_list PySem.F.slot_list_append PySem.F.type_list_append sm_append (se_var 2) (sa_cons (se_var 4) sa_nil)))
    (sb_one (ss_set 3 se_bl))) sb_nil))))))))
    (sb_one (ss_ret (se_var 2)))))
/-! _law_pair -/
abbrev S_law_pair : Stmt := top 23
abbrev N_law_pair : List Str := ["_law_things", "_law_numbers", "_law_one"]
abbrev P_law_pair : List Str := ["_law_things"]
theorem scope_law_pair : FnScope N_law_pair P_law_pair (defScope S_law_pair) := ⟨rfl, rfl, rfl, by decide +kernel, rfl, by decide +kernel, by decide +kernel⟩
def B_law_pair : MS :=
    (mSeq (mAsg (mFrz (mSrtSet (mLcV (mIAny (mVar 0)) (gN 2) (mTru (mCallB isiD (mCons (mVar 2) (mCons (mC (.ty .int)) mNil)))) (mVar 2) [2]))) (gN 1))
    (mRet (mTup (mCons (mCallB tupleD (mCons (mVar 1) mNil)) (mCons (mCallB tupleD (mCons (mFrz (mSrtSet (mLcV (mIAny (mVar 0)) (gN 2) (tNotM (mTru (mCallB isiD (mCons (mVar 2) (mCons (mC (.ty .int)) mNil))))) (mVar 2) [2]))) mNil)) mNil)))))
def M_law_pair : MF := mFn 1 3 (B_law_pair)
theorem sb_law_pair {P : Program} {w : World} {K : PySem.W.Frag} {mg : Str → Option Value} {base : Heap} {ft : Cfg} (T : Txt P w mg ft)  : SB (fmOf P w K mg base ft S_law_pair N_law_pair 0) (defBody S_law_pair) B_law_pair :=
    (sb_cons (ss_set 1 (se_frz (se_srtSetX T.b_sorted T.b_set (se_lcV [((Str.ofString "_law_one"), 2)] (si_any (se_var 0)) (blkOk_by (by dsimp only [fmOf, fmOfT, Fm.blk]; decide +kernel)) (sg_name 2) (spt_one (st_tru (se_callB sc_isi T.b_isinstance (by decide +kernel) (sa_cons (se_var 2) (sa_cons (se_ty .int T.b_int (by decide +kernel)) sa_nil))))) (se_var 2)))))
    (sb_one (ss_ret (se_tup (sa_cons (se_callTy sc_tuple T.b_tuple (by decide +kernel) (sa_cons (se_var 1) sa_nil)) (sa_cons (se_callTy sc_tuple T.b_tuple (by decide +kernel) (sa_cons (se_frz (se_srtSetX T.b_sorted T.b_set (se_lcV [((Str.ofString "_law_one"), 2)] (si_any (se_var 0)) (blkOk_by (by dsimp only [fmOf, fmOfT, Fm.blk]; decide +kernel)) (sg_name 2) (spt_one (st_not (st_tru (se_callB sc_isi T.b_isinstance (by decide +kernel) (sa_cons (se_var 2) (sa_cons (se_ty .int T.b_int (by decide +kernel)) sa_nil)))))) (se_var 2)))) sa_nil)) sa_nil))))))
/-! _law_puts -/
abbrev S_law_puts : Stmt := top 24
abbrev N_law_puts : List Str := ["_law_days_here", "_law_act"]
abbrev P_law_puts : List Str := ["_law_days_here"]
theorem scope_law_puts : FnScope N_law_puts P_law_puts (defScope S_law_puts) := ⟨rfl, rfl, rfl, by decide +kernel, rfl, by decide +kernel, by decide +kernel⟩
def B_law_puts : MS :=
    (mRet (mLcV (mIAny (mVar 0)) (gN 1) (mTest (mBin dEq (mBin ixD (mVar 1) (mC (.int 0))) (mC (.str (Str.ofString "put"))))) (mBin ixD (mVar 1) (mC (.int 1))) [1]))
def M_law_puts : MF := mFn 1 2 (B_law_puts)
theorem sb_law_puts {P : Program} {w : World} {K : PySem.W.Frag} {mg : Str → Option Value} {base : Heap} {ft : Cfg} (T : Txt P w mg ft)  : SB (fmOf P w K mg base ft S_law_puts N_law_puts 0) (defBody S_law_puts) B_law_puts :=
    (sb_one (ss_ret (se_lcV [((Str.ofString "_law_act"), 1)] (si_any (se_var 0)) (blkOk_by (by dsimp only [fmOf, fmOfT, Fm.blk]; decide +kernel)) (sg_name 1) (spt_one (st_cmp so_eq (se_ix six (se_var 1) se_int) se_str)) (se_ix six (se_var 1) se_int))))
/-! _law_there -/
abbrev S_law_there : Stmt := top 25
abbrev N_law_there : List Str := ["_law_days_here", "_law_t", "_law_found", "_law_many", "_law_act"]
abbrev P_law_there : List Str := ["_law_days_here", "_law_t"]
theorem scope_law_there : FnScope N_law_there P_law_there (defScope S_law_there) := ⟨rfl, rfl, rfl, by decide +kernel, rfl, by decide +kernel, by decide +kernel⟩
def B_law_there : MS :=
    (mSeq (mPar 2 3 (mCons (mLst mNil) (mCons (mC (.int 0)) mNil)))
    (mSeq (mFor (mIAny (mSl slD (mVar 0) oNone (oSome (mVar 1)))) (gN 4) (mWipe [4] (mSeq (mIfS (mTest (mBin dEq (mBin ixD (mVar 4) (mC (.int 0))) (mC (.str (Str.ofString "put"))))) (mSeq (mDrop (mMeth "list" appendD (mVar 2) (mCons (mVar 3) mNil)))
    (mAsg (mBin addD (mVar 3) (mC (.int 1))) (gN 3))) mNext)
    (mIfS (mTest (mBin dEq (mBin ixD (mVar 4) (mC (.int 0))) (mC (.str (Str.ofString "take"))))) (mDrop (mRem (mVar 2) (mBin ixD (mVar 4) (mC (.int 1))))) mNext))))
    (mRet (mVar 2))))
def M_law_there : MF := mFn 2 5 (B_law_there)
theorem sb_law_there {P : Program} {w : World} {K : PySem.W.Frag} {mg : Str → Option Value} {base : Heap} {ft : Cfg} (T : Txt P w mg ft)  : SB (fmOf P w K mg base ft S_law_there N_law_there 0) (defBody S_law_there) B_law_there :=
    (sb_cons (ss_par 2 3 (sa_cons (se_lst sa_nil) (sa_cons se_int sa_nil)) (by decide) (hw := fun env h => by cases env; cases h; rfl))
    (sb_cons (ss_for (si_any (se_slice ssl (se_var 0) so_none (so_some (se_var 1)))) (sg_name 4) (sb_wipe [4] (sb_cons (ss_if (st_cmp so_eq (se_ix six (se_var 4) se_int) se_str) (sb_cons (ss_expr (se_bm PySem.F.plainAttrs_list PySem.F.slot_list_append PySem.F.type_list_append sm_append (se_var 2) (sa_cons (se_var 3) sa_nil)))
    (sb_one (ss_set 3 (se_op so_add (se_var 3) se_int)))) sb_nil)
    (sb_one (ss_if (st_cmp so_eq (se_ix six (se_var 4) se_int) se_str) (sb_one (ss_expr (se_remove (se_var 2) (se_ix six (se_var 4) se_int)))) sb_nil)))))
    (sb_one (ss_ret (se_var 2)))))
/-! _law_hand -/
abbrev S_law_hand : Stmt := top 26
abbrev N_law_hand : List Str := ["_law_days_here", "_law_crew", "_law_t", "_law_found", "_law_act"]
abbrev P_law_hand : List Str := ["_law_days_here", "_law_crew", "_law_t"]
theorem scope_law_hand : FnScope N_law_hand P_law_hand (defScope S_law_hand) := ⟨rfl, rfl, rfl, by decide +kernel, rfl, by decide +kernel, by decide +kernel⟩
def B_law_hand : MS :=
    (mSeq (mAsg (mLcV (mIAny (mSl slD (mVar 0) oNone (oSome (mVar 2)))) (gN 4) (tAndM (mTest (mBin dEq (mBin ixD (mVar 4) (mC (.int 0))) (mC (.str (Str.ofString "hand"))))) (mTest (mBin (inD false) (mBin ixD (mVar 4) (mC (.int 1))) (mVar 1)))) (mBin ixD (mVar 4) (mC (.int 2))) [4]) (gN 3))
    (mRet (mFrz (mBin addD (mVar 3) (mLcV (mIAny (mSl slD (mVar 0) oNone (oSome (mVar 2)))) (gN 4) (tAndM (mTest (mBin dEq (mBin ixD (mVar 4) (mC (.int 0))) (mC (.str (Str.ofString "leak"))))) (mTest (mBin (inD false) (mC (.str (Str.ofString "world"))) (mVar 1)))) (mBin ixD (mVar 4) (mC (.int 1))) [4])))))
def M_law_hand : MF := mFn 3 5 (B_law_hand)
theorem sb_law_hand {P : Program} {w : World} {K : PySem.W.Frag} {mg : Str → Option Value} {base : Heap} {ft : Cfg} (T : Txt P w mg ft)  : SB (fmOf P w K mg base ft S_law_hand N_law_hand 0) (defBody S_law_hand) B_law_hand :=
    (sb_cons (ss_setLcV 3 [((Str.ofString "_law_act"), 4)] (fun env h => sw_true (by rw [h]; rfl) (by rw [h]; rfl) rfl (by decide +kernel)) (si_any (se_slice ssl (se_var 0) so_none (so_some (se_var 2)))) (blkOk_by (by dsimp only [fmOf, fmOfT, Fm.blk]; decide +kernel)) (sg_name 4) (spt_one (st_w (sw_and (st_cmp so_eq (se_ix six (se_var 4) se_int) se_str) (sw_and1 (st_cmp so_in (se_ix six (se_var 4) se_int) (se_var 1)))))) (se_ix six (se_var 4) se_int))
    (sb_one (ss_ret (se_frz (se_op so_add (se_var 3) (se_lcV [((Str.ofString "_law_act"), 4)] (si_any (se_slice ssl (se_var 0) so_none (so_some (se_var 2)))) (blkOk_by (by dsimp only [fmOf, fmOfT, Fm.blk]; decide +kernel)) (sg_name 4) (spt_one (st_w (sw_and (st_cmp so_eq (se_ix six (se_var 4) se_int) se_str) (sw_and1 (st_cmp so_in se_str (se_var 1)))))) (se_ix six (se_var 4) se_int)))))))
/-! _law_kept -/
abbrev S_law_kept : Stmt := top 27
abbrev N_law_kept : List Str := ["_law_days_here", "_law_crew", "_law_t", "_law_found", "_law_boxes", "_law_m", "_law_some", "_law_slot"]
abbrev P_law_kept : List Str := ["_law_days_here", "_law_crew", "_law_t"]
theorem scope_law_kept : FnScope N_law_kept P_law_kept (defScope S_law_kept) := ⟨rfl, rfl, rfl, by decide +kernel, rfl, by decide +kernel, by decide +kernel⟩
def B_law_kept : MS :=
    (mSeq (mAsg (mTup (mCons (mFrz (mLst mNil)) (mCons (mKeepF (mCall M_law_puts (mCons (mVar 0) mNil))) mNil))) (gT 2 (gsCons (gN 3) (gsCons (gN 4) gsNil))))
    (mSeq (mFor (mIRng2 (mCons (mC (.int 1)) (mCons (mBin addD (mVar 2) (mC (.int 1))) mNil))) (gN 5) (mWipe [5, 6] (mSeq (mAsg (mLcV (mIAny (mKeepF (mCall M_law_there (mCons (mVar 0) (mCons (mVar 5) mNil))))) (gN 7) mYes (mBin ixD (mVar 4) (mVar 7)) [7]) (gN 6))
    (mAsg (mKeepF (mCall M_law_opened (mCons (mFrz (mBin addD (mVar 3) (mKeepF (mCall M_law_hand (mCons (mVar 0) (mCons (mVar 1) (mCons (mVar 5) mNil))))))) (mCons (mVar 6) mNil)))) (gN 3)))))
    (mRet (mVar 3))))
def M_law_kept : MF := mFn 3 8 (B_law_kept)
theorem sb_law_kept {P : Program} {w : World} {K : PySem.W.Frag} {mg : Str → Option Value} {base : Heap} {ft : Cfg} (T : Txt P w mg ft) (c_law_opened : Callee P w K mg base ft "_law_opened" 2 M_law_opened 1) (c_law_hand : Callee P w K mg base ft "_law_hand" 3 M_law_hand 1) (c_law_there : Callee P w K mg base ft "_law_there" 2 M_law_there 1) (c_law_puts : Callee P w K mg base ft "_law_puts" 1 M_law_puts 1) : SB (fmOf P w K mg base ft S_law_kept N_law_kept 1) (defBody S_law_kept) B_law_kept :=
    (sb_cons (ss_asgS (se_tup (sa_cons (se_frz (se_lst sa_nil)) (sa_cons (se_keepF (se_call _ c_law_puts (sa_cons (se_var 0) sa_nil) (mCons_len len0))) sa_nil))) (sg_tup (sgs_cons (sg_name 3) (sgs_cons (sg_name 4) sgs_nil))) (fun env h => by cases env; cases h; rfl))
    (sb_cons (ss_for (si_range2 T.b_range (sa_cons se_int (sa_cons (se_op so_add (se_var 2) se_int) sa_nil))) (sg_name 5) (sb_wipe [5, 6] (sb_cons (ss_setLcV 6 [((Str.ofString "_law_slot"), 7)] (fun env h => sw_true (by rw [h]; rfl) (by rw [h]; rfl) rfl (by decide +kernel)) (si_any (se_keepF (se_call _ c_law_there (sa_cons (se_var 0) (sa_cons (se_var 5) sa_nil)) (mCons_len (mCons_len len0))))) (blkOk_by (by dsimp only [fmOf, fmOfT, Fm.blk]; decide +kernel)) (sg_name 7) spt_nil (se_ix six (se_var 4) (se_var 7)))
    (sb_one (ss_set 3 (se_keepF (se_call _ c_law_opened (sa_cons (se_frz (se_op so_add (se_var 3) (se_keepF (se_call _ c_law_hand (sa_cons (se_var 0) (sa_cons (se_var 1) (sa_cons (se_var 5) sa_nil))) (mCons_len (mCons_len (mCons_len len0))))))) (sa_cons (se_var 6) sa_nil)) (mCons_len (mCons_len len0)))))))))
    (sb_one (ss_ret (se_var 3)))))
/-! _law_box -/
abbrev S_law_box : Stmt := top 28
abbrev N_law_box : List Str := ["_law_feed_here", "_law_thing_now", "_law_locks", "_law_key_now", "_law_spare"]
abbrev P_law_box : List Str := ["_law_feed_here"]
theorem scope_law_box : FnScope N_law_box P_law_box (defScope S_law_box) := ⟨rfl, rfl, rfl, by decide +kernel, rfl, by decide +kernel, by decide +kernel⟩
def B_law_box : MS :=
    (mSeq (mAsg (mKeepF (mCall M_law_draw (mCons (mVar 0) (mCons (mC (.int 6)) mNil)))) (gN 1))
    (mSeq (mIfS (mTest (mBin dEq (mKeepF (mCall M_law_draw (mCons (mVar 0) (mCons (mC (.int 3)) mNil)))) (mC (.int 0)))) (mAsg (mTup (mCons (mKeepF (mCall M_law_any (mCons (mVar 0) (mCons (mFrz (mLst (mCons (mC (.str (Str.ofString "memo"))) (mCons (mC (.str (Str.ofString "log"))) mNil)))) mNil)))) (mCons (mKeepF (mCall M_law_draw (mCons (mVar 0) (mCons (mC (.int 2)) mNil)))) mNil))) (gN 1)) mNext)
    (mSeq (mAsg (mLcV (mIRng1 (mCons (mC (.int 6)) mNil)) (gN 3) (tAndM (mTest (mBin dNe (mVar 3) (mVar 1))) (mTest (mBin dEq (mKeepF (mCall M_law_draw (mCons (mVar 0) (mCons (mC (.int 5)) mNil)))) (mC (.int 0))))) (mVar 3) [3]) (gN 2))
    (mSeq (mAsg (mLcV (mIRng1 (mCons (mC (.int 6)) mNil)) (gN 3) (mTest (mBin dNe (mVar 3) (mVar 1))) (mVar 3) [3]) (gN 4))
    (mRet (mTup (mCons (mVar 1) (mCons (mIf (mTest (mBin dNe (mVar 2) (mFrz (mLst mNil)))) (mCallB tupleD (mCons (mFrz (mSl slD (mVar 2) oNone (oSome (mC (.int 2))))) mNil)) (mTup (mCons (mKeepF (mCall M_law_any (mCons (mVar 0) (mCons (mVar 4) mNil)))) mNil))) mNil))))))))
def M_law_box : MF := mFn 1 5 (B_law_box)
theorem sb_law_box {P : Program} {w : World} {K : PySem.W.Frag} {mg : Str → Option Value} {base : Heap} {ft : Cfg} (T : Txt P w mg ft) (c_law_any : Callee P w K mg base ft "_law_any" 2 M_law_any 2) (c_law_draw : Callee P w K mg base ft "_law_draw" 2 M_law_draw 1) : SB (fmOf P w K mg base ft S_law_box N_law_box 2) (defBody S_law_box) B_law_box :=
    (sb_cons (ss_set 1 (se_keepF (se_call _ c_law_draw (sa_cons (se_var 0) (sa_cons se_int sa_nil)) (mCons_len (mCons_len len0)))))
    (sb_cons (ss_if (st_cmp so_eq (se_keepF (se_call _ c_law_draw (sa_cons (se_var 0) (sa_cons se_int sa_nil)) (mCons_len (mCons_len len0)))) se_int) (sb_one (ss_set 1 (se_tup (sa_cons (se_keepF (se_call _ c_law_any (sa_cons (se_var 0) (sa_cons (se_frz (se_lst (sa_cons se_str (sa_cons se_str sa_nil)))) sa_nil)) (mCons_len (mCons_len len0)))) (sa_cons (se_keepF (se_call _ c_law_draw (sa_cons (se_var 0) (sa_cons se_int sa_nil)) (mCons_len (mCons_len len0)))) sa_nil))))) sb_nil)
    (sb_cons (ss_setLcV 2 [((Str.ofString "_law_key_now"), 3)] (fun env h => sw_true (by rw [h]; rfl) (by rw [h]; rfl) rfl (by decide +kernel)) (si_range1 T.b_range (sa_cons se_int sa_nil)) (blkOk_by (by dsimp only [fmOf, fmOfT, Fm.blk]; decide +kernel)) (sg_name 3) (spt_one (st_w (sw_and (st_cmp so_ne (se_var 3) (se_var 1)) (sw_and1 (st_cmp so_eq (se_keepF (se_call _ c_law_draw (sa_cons (se_var 0) (sa_cons se_int sa_nil)) (mCons_len (mCons_len len0)))) se_int))))) (se_var 3))
    (sb_cons (ss_setLcV 4 [((Str.ofString "_law_key_now"), 3)] (fun env h => sw_true (by rw [h]; rfl) (by rw [h]; rfl) rfl (by decide +kernel)) (si_range1 T.b_range (sa_cons se_int sa_nil)) (blkOk_by (by dsimp only [fmOf, fmOfT, Fm.blk]; decide +kernel)) (sg_name 3) (spt_one (st_cmp so_ne (se_var 3) (se_var 1))) (se_var 3))
    (sb_one (ss_ret (se_tup (sa_cons (se_var 1) (sa_cons (se_if (st_cmp so_ne (se_var 2) (se_frz (se_lst sa_nil))) (se_callTy sc_tuple T.b_tuple (by decide +kernel) (sa_cons (se_frz (se_slice ssl (se_var 2) so_none (so_some se_int))) sa_nil)) (se_tup (sa_cons (se_keepF (se_call _ c_law_any (sa_cons (se_var 0) (sa_cons (se_var 4) sa_nil)) (mCons_len (mCons_len len0)))) sa_nil))) sa_nil)))))))))
/-! _law_opens_of -/
abbrev S_law_opens_of : Stmt := top 29
abbrev N_law_opens_of : List Str := ["_law_days_here", "_law_folk_here", "_law_found", "_law_boxes", "_law_who", "_law_kept_now", "_law_slot", "_law_key_now"]
abbrev P_law_opens_of : List Str := ["_law_days_here", "_law_folk_here"]
theorem scope_law_opens_of : FnScope N_law_opens_of P_law_opens_of (defScope S_law_opens_of) := ⟨rfl, rfl, rfl, by decide +kernel, rfl, by decide +kernel, by decide +kernel⟩
def B_law_opens_of : MS :=
    (mSeq (mPar 2 3 (mCons (mLst mNil) (mCons (mKeepF (mCall M_law_puts (mCons (mVar 0) mNil))) mNil)))
    (mSeq (mFor (mIAny (mVar 1)) (gN 4) (mWipe [4, 5, 6] (mSeq (mAsg (mKeepF (mCall M_law_kept (mCons (mVar 0) (mCons (mTup (mCons (mVar 4) mNil)) (mCons (mCallB lenD (mCons (mVar 0) mNil)) mNil))))) (gN 5))
    (mFor (mIAny (mKeepF (mCall M_law_there (mCons (mVar 0) (mCons (mCallB lenD (mCons (mVar 0) mNil)) mNil))))) (gN 6) (mWipe [6] (mIfS (mTest (mBin dEq (mLcV (mIAny (mBin ixD (mBin ixD (mVar 3) (mVar 6)) (mC (.int 1)))) (gN 7) (mTest (mBin (inD true) (mVar 7) (mVar 5))) (mVar 7) [7]) (mFrz (mLst mNil)))) (mDrop (mMeth "list" appendD (mVar 2) (mCons (mTup (mCons (mC (.str (Str.ofString "open"))) (mCons (mVar 4) (mCons (mVar 6) mNil)))) mNil))) mNext))))))
    (mRet (mVar 2))))
def M_law_opens_of : MF := mFn 2 8 (B_law_opens_of)
theorem sb_law_opens_of {P : Program} {w : World} {K : PySem.W.Frag} {mg : Str → Option Value} {base : Heap} {ft : Cfg} (T : Txt P w mg ft) (c_law_there : Callee P w K mg base ft "_law_there" 2 M_law_there 1) (c_law_kept : Callee P w K mg base ft "_law_kept" 3 M_law_kept 2) (c_law_puts : Callee P w K mg base ft "_law_puts" 1 M_law_puts 1) : SB (fmOf P w K mg base ft S_law_opens_of N_law_opens_of 2) (defBody S_law_opens_of) B_law_opens_of :=
    (sb_cons (ss_par 2 3 (sa_cons (se_lst sa_nil) (sa_cons (se_keepF (se_call _ c_law_puts (sa_cons (se_var 0) sa_nil) (mCons_len len0))) sa_nil)) (by decide) (hw := fun env h => by cases env; cases h; rfl))
    (sb_cons (ss_for (si_any (se_var 1)) (sg_name 4) (sb_wipe [4, 5, 6] (sb_cons (ss_set 5 (se_keepF (se_call _ c_law_kept (sa_cons (se_var 0) (sa_cons (se_tup (sa_cons (se_var 4) sa_nil)) (sa_cons (se_callB sc_len T.b_len (by decide +kernel) (sa_cons (se_var 0) sa_nil)) sa_nil))) (mCons_len (mCons_len (mCons_len len0))))))
    (sb_one (ss_for (si_any (se_keepF (se_call _ c_law_there (sa_cons (se_var 0) (sa_cons (se_callB sc_len T.b_len (by decide +kernel) (sa_cons (se_var 0) sa_nil)) sa_nil)) (mCons_len (mCons_len len0))))) (sg_name 6) (sb_wipe [6] (sb_one (ss_if (st_cmp so_eq (se_lcV [((Str.ofString "_law_key_now"), 7)] (si_any (se_ix six (se_ix six (se_var 3) (se_var 6)) se_int)) (blkOk_by (by dsimp only [fmOf, fmOfT, Fm.blk]; decide +kernel)) (sg_name 7) (spt_one (st_cmp so_notIn (se_var 7) (se_var 5))) (se_var 7)) (se_frz (se_lst sa_nil))) (sb_one (ss_expr (se_bm PySem.F.plainAttrs_list PySem.F.slot_list_append PySem.F.type_list_append sm_append (se_var 2) (sa_cons (se_tup (sa_cons se_str (sa_cons (se_var 4) (sa_cons (se_var 6) sa_nil)))) sa_nil)))) sb_nil))))))))
    (sb_one (ss_ret (se_var 2)))))
/-! _law_days -/
abbrev S_law_days : Stmt := top 30
abbrev N_law_days : List Str := ["_law_feed_here", "_law_many", "_law_folk_here", "_law_days_here", "_law_k", "_law_way", "_law_there_now", "_law_act"]
abbrev P_law_days : List Str := ["_law_feed_here", "_law_many"]
theorem scope_law_days : FnScope N_law_days P_law_days (defScope S_law_days) := ⟨rfl, rfl, rfl, by decide +kernel, rfl, by decide +kernel, by decide +kernel⟩
def B_law_days : MS :=
    (mSeq (mPar 2 3 (mCons (mSl slD (mTup (mCons (mC (.str (Str.ofString "ann"))) (mCons (mC (.str (Str.ofString "bob"))) (mCons (mC (.str (Str.ofString "cy"))) mNil)))) oNone (oSome (mBin addD (mC (.int 1)) (mKeepF (mCall M_law_draw (mCons (mVar 0) (mCons (mC (.int 3)) mNil))))))) (mCons (mTup mNil) mNil)))
    (mSeq (mFor (mIRng1 (mCons (mVar 1) mNil)) (gN 4) (mWipe [4, 5, 6, 7] (mSeq (mPar 5 6 (mCons (mKeepF (mCall M_law_draw (mCons (mVar 0) (mCons (mC (.int 10)) mNil)))) (mCons (mKeepF (mCall M_law_there (mCons (mVar 3) (mCons (mCallB lenD (mCons (mVar 3) mNil)) mNil)))) mNil)))
    (mSeq (mAsg (mTup (mCons (mC (.str (Str.ofString "hand"))) (mCons (mKeepF (mCall M_law_any (mCons (mVar 0) (mCons (mVar 2) mNil)))) (mCons (mKeepF (mCall M_law_draw (mCons (mVar 0) (mCons (mC (.int 6)) mNil)))) mNil)))) (gN 7))
    (mSeq (mIfS (mTest (mBin (inD false) (mVar 5) (mTup (mCons (mC (.int 3)) (mCons (mC (.int 4)) (mCons (mC (.int 5)) (mCons (mC (.int 6)) mNil))))))) (mAsg (mTup (mCons (mC (.str (Str.ofString "put"))) (mCons (mKeepF (mCall M_law_box (mCons (mVar 0) mNil))) mNil))) (gN 7)) mNext)
    (mSeq (mIfS (tAndM (mTest (mBin dEq (mVar 5) (mC (.int 7)))) (mTest (mBin dNe (mVar 6) (mFrz (mLst mNil))))) (mAsg (mTup (mCons (mC (.str (Str.ofString "take"))) (mCons (mKeepF (mCall M_law_any (mCons (mVar 0) (mCons (mVar 6) mNil)))) mNil))) (gN 7)) mNext)
    (mSeq (mIfS (mTest (mBin dEq (mVar 5) (mC (.int 8)))) (mAsg (mKeepF (mCall M_law_any (mCons (mVar 0) (mCons (mFrz (mBin addD (mKeepF (mCall M_law_opens_of (mCons (mVar 3) (mCons (mVar 2) mNil)))) (mFrz (mLst (mCons (mVar 7) mNil))))) mNil)))) (gN 7)) mNext)
    (mSeq (mIfS (mTest (mBin dEq (mVar 5) (mC (.int 9)))) (mAsg (mTup (mCons (mC (.str (Str.ofString "leak"))) (mCons (mKeepF (mCall M_law_draw (mCons (mVar 0) (mCons (mC (.int 6)) mNil)))) mNil))) (gN 7)) mNext)
    (mAsg (mBin addD (mVar 3) (mTup (mCons (mVar 7) mNil))) (gN 3))))))))))
    (mRet (mVar 3))))
def M_law_days : MF := mFn 2 8 (B_law_days)
theorem sb_law_days {P : Program} {w : World} {K : PySem.W.Frag} {mg : Str → Option Value} {base : Heap} {ft : Cfg} (T : Txt P w mg ft) (c_law_draw : Callee P w K mg base ft "_law_draw" 2 M_law_draw 1) (c_law_any : Callee P w K mg base ft "_law_any" 2 M_law_any 2) (c_law_opens_of : Callee P w K mg base ft "_law_opens_of" 2 M_law_opens_of 3) (c_law_box : Callee P w K mg base ft "_law_box" 1 M_law_box 3) (c_law_there : Callee P w K mg base ft "_law_there" 2 M_law_there 1) : SB (fmOf P w K mg base ft S_law_days N_law_days 3) (defBody S_law_days) B_law_days :=
    (sb_cons (ss_par 2 3 (sa_cons (se_slice ssl (se_tup (sa_cons se_str (sa_cons se_str (sa_cons se_str sa_nil)))) so_none (so_some (se_op so_add se_int (se_keepF (se_call _ c_law_draw (sa_cons (se_var 0) (sa_cons se_int sa_nil)) (mCons_len (mCons_len len0))))))) (sa_cons (se_tup sa_nil) sa_nil)) (by decide) (hw := fun env h => by cases env; cases h; rfl))
    (sb_cons (ss_for (si_range1 T.b_range (sa_cons (se_var 1) sa_nil)) (sg_name 4) (sb_wipe [4, 5, 6, 7] (sb_cons (ss_par 5 6 (sa_cons (se_keepF (se_call _ c_law_draw (sa_cons (se_var 0) (sa_cons se_int sa_nil)) (mCons_len (mCons_len len0)))) (sa_cons (se_keepF (se_call _ c_law_there (sa_cons (se_var 3) (sa_cons (se_callB sc_len T.b_len (by decide +kernel) (sa_cons (se_var 3) sa_nil)) sa_nil)) (mCons_len (mCons_len len0)))) sa_nil)) (by decide) (hw := fun env h => by cases env; cases h; rfl))
    (sb_cons (ss_set 7 (se_tup (sa_cons se_str (sa_cons (se_keepF (se_call _ c_law_any (sa_cons (se_var 0) (sa_cons (se_var 2) sa_nil)) (mCons_len (mCons_len len0)))) (sa_cons (se_keepF (se_call _ c_law_draw (sa_cons (se_var 0) (sa_cons se_int sa_nil)) (mCons_len (mCons_len len0)))) sa_nil)))))
    (sb_cons (ss_if (st_cmp so_in (se_var 5) (se_tup (sa_cons se_int (sa_cons se_int (sa_cons se_int (sa_cons se_int sa_nil)))))) (sb_one (ss_set 7 (se_tup (sa_cons se_str (sa_cons (se_keepF (se_call _ c_law_box (sa_cons (se_var 0) sa_nil) (mCons_len len0))) sa_nil))))) sb_nil)
    (sb_cons (ss_if (st_w (sw_and (st_cmp so_eq (se_var 5) se_int) (sw_and1 (st_cmp so_ne (se_var 6) (se_frz (se_lst sa_nil)))))) (sb_one (ss_set 7 (se_tup (sa_cons se_str (sa_cons (se_keepF (se_call _ c_law_any (sa_cons (se_var 0) (sa_cons (se_var 6) sa_nil)) (mCons_len (mCons_len len0)))) sa_nil))))) sb_nil)
    (sb_cons (ss_if (st_cmp so_eq (se_var 5) se_int) (sb_one (ss_set 7 (se_keepF (se_call _ c_law_any (sa_cons (se_var 0) (sa_cons (se_frz (se_op so_add (se_keepF (se_call _ c_law_opens_of (sa_cons (se_var 3) (sa_cons (se_var 2) sa_nil)) (mCons_len (mCons_len len0)))) (se_frz (se_lst (sa_cons (se_var 7) sa_nil))))) sa_nil)) (mCons_len (mCons_len len0)))))) sb_nil)
    (sb_cons (ss_if (st_cmp so_eq (se_var 5) se_int) (sb_one (ss_set 7 (se_tup (sa_cons se_str (sa_cons (se_keepF (se_call _ c_law_draw (sa_cons (se_var 0) (sa_cons se_int sa_nil)) (mCons_len (mCons_len len0)))) sa_nil))))) sb_nil)
    (sb_one (ss_set 3 (se_op so_add (se_var 3) (se_tup (sa_cons (se_var 7) sa_nil)))))))))))))
    (sb_one (ss_ret (se_var 3)))))
/-! _law_folk -/
abbrev S_law_folk : Stmt := top 31
abbrev N_law_folk : List Str := ["_law_days_here", "_law_act"]
abbrev P_law_folk : List Str := ["_law_days_here"]
theorem scope_law_folk : FnScope N_law_folk P_law_folk (defScope S_law_folk) := ⟨rfl, rfl, rfl, by decide +kernel, rfl, by decide +kernel, by decide +kernel⟩
def B_law_folk : MS :=
    (mRet (mFrz (mSrtSetA (mLcV (mIAny (mVar 0)) (gN 1) (mTest (mBin dEq (mBin ixD (mVar 1) (mC (.int 0))) (mC (.str (Str.ofString "hand"))))) (mBin ixD (mVar 1) (mC (.int 1))) [1]))))
def M_law_folk : MF := mFn 1 2 (B_law_folk)
theorem sb_law_folk {P : Program} {w : World} {K : PySem.W.Frag} {mg : Str → Option Value} {base : Heap} {ft : Cfg} (T : Txt P w mg ft)  : SB (fmOf P w K mg base ft S_law_folk N_law_folk 0) (defBody S_law_folk) B_law_folk :=
    (sb_one (ss_ret (se_frz (se_srtSetA T.b_sorted T.b_set (se_lcV [((Str.ofString "_law_act"), 1)] (si_any (se_var 0)) (blkOk_by (by dsimp only [fmOf, fmOfT, Fm.blk]; decide +kernel)) (sg_name 1) (spt_one (st_cmp so_eq (se_ix six (se_var 1) se_int) se_str)) (se_ix six (se_var 1) se_int))))))
/-! _law_crews -/
abbrev S_law_crews : Stmt := top 32
abbrev N_law_crews : List Str := ["_law_days_here", "_law_found", "_law_who", "_law_crew"]
abbrev P_law_crews : List Str := ["_law_days_here"]
theorem scope_law_crews : FnScope N_law_crews P_law_crews (defScope S_law_crews) := ⟨rfl, rfl, rfl, by decide +kernel, rfl, by decide +kernel, by decide +kernel⟩
def B_law_crews : MS :=
    (mSeq (mAsg (mFrz (mLst (mCons (mTup mNil) mNil))) (gN 1))
    (mSeq (mFor (mIAny (mFrz (mCallB sortedDT (mCons (mFrz (mBin addD (mKeepF (mCall M_law_folk (mCons (mVar 0) mNil))) (mFrz (mLst (mCons (mC (.str (Str.ofString "world"))) mNil))))) mNil)))) (gN 2) (mWipe [2] (mAsg (mFrz (mBin addD (mVar 1) (mLcV (mIAny (mVar 1)) (gN 3) mYes (mBin addD (mVar 3) (mTup (mCons (mVar 2) mNil))) [3]))) (gN 1))))
    (mRet (mVar 1))))
def M_law_crews : MF := mFn 1 4 (B_law_crews)
theorem sb_law_crews {P : Program} {w : World} {K : PySem.W.Frag} {mg : Str → Option Value} {base : Heap} {ft : Cfg} (T : Txt P w mg ft) (c_law_folk : Callee P w K mg base ft "_law_folk" 1 M_law_folk 1) : SB (fmOf P w K mg base ft S_law_crews N_law_crews 1) (defBody S_law_crews) B_law_crews :=
    (sb_cons (ss_set 1 (se_frz (se_lst (sa_cons (se_tup sa_nil) sa_nil))))
    (sb_cons (ss_for (si_any (se_frz (se_callB sc_sortedT T.b_sorted (by decide +kernel) (sa_cons (se_frz (se_op so_add (se_keepF (se_call _ c_law_folk (sa_cons (se_var 0) sa_nil) (mCons_len len0))) (se_frz (se_lst (sa_cons se_str sa_nil))))) sa_nil)))) (sg_name 2) (sb_wipe [2] (sb_one (ss_set 1 (se_frz (se_op so_add (se_var 1) (se_lcV [((Str.ofString "_law_crew"), 3)] (si_any (se_var 1)) (blkOk_by (by dsimp only [fmOf, fmOfT, Fm.blk]; decide +kernel)) (sg_name 3) spt_nil (se_op so_add (se_var 3) (se_tup (sa_cons (se_var 2) sa_nil))))))))))
    (sb_one (ss_ret (se_var 1)))))
/-! _law_moments -/
abbrev S_law_moments : Stmt := top 34
abbrev N_law_moments : List Str := ["_law_days_here"]
abbrev P_law_moments : List Str := ["_law_days_here"]
theorem scope_law_moments : FnScope N_law_moments P_law_moments (defScope S_law_moments) := ⟨rfl, rfl, rfl, by decide +kernel, rfl, by decide +kernel, by decide +kernel⟩
def B_law_moments : MS :=
    (mRet (mFrz (mLst (mCons (mC .non) (mCons (mC (.bl true)) (mCons (mUn negD (mC (.int 1))) (mCons (mBin addD (mCallB lenD (mCons (mVar 0) mNil)) (mC (.int 1))) (mCons (mC (.str (Str.ofString "0"))) (mCons (mTup (mCons (mC (.int 0)) mNil)) (mCons (mFrz (mLst (mCons (mC (.int 0)) mNil))) mNil))))))))))
def M_law_moments : MF := mFn 1 1 (B_law_moments)
theorem sb_law_moments {P : Program} {w : World} {K : PySem.W.Frag} {mg : Str → Option Value} {base : Heap} {ft : Cfg} (T : Txt P w mg ft)  : SB (fmOf P w K mg base ft S_law_moments N_law_moments 0) (defBody S_law_moments) B_law_moments :=
    (sb_one (ss_ret (se_frz (se_lst (sa_cons se_non (sa_cons se_bl (sa_cons (se_un su_neg se_int) (sa_cons (se_op so_add (se_callB sc_len T.b_len (by decide +kernel) (sa_cons (se_var 0) sa_nil)) se_int) (sa_cons se_str (sa_cons (se_tup (sa_cons se_int sa_nil)) (sa_cons (se_frz (se_lst (sa_cons se_int sa_nil))) sa_nil)))))))))))
/-! _law_are_refused -/
abbrev S_law_are_refused : Stmt := top 35
abbrev N_law_are_refused : List Str := ["_law_days_here", "_law_folk_here", "_law_strange", "_law_found"]
abbrev P_law_are_refused : List Str := ["_law_days_here"]
theorem scope_law_are_refused : FnScope N_law_are_refused P_law_are_refused (defScope S_law_are_refused) := ⟨rfl, rfl, rfl, by decide +kernel, rfl, by decide +kernel, by decide +kernel⟩
def B_law_are_refused : MS :=
    (mSeq (mAsg (mCallB tupleD (mCons (mKeepF (mCall M_law_folk (mCons (mVar 0) mNil))) mNil)) (gN 1))
    (mSeq (mFor (mIAny (mKeepF (mCall M_law_moments (mCons (mVar 0) mNil)))) (gN 2) (mSeq (mIfS (mTest (mBin dNe (mCallB reprD (mCons (mKeep (mLam 0 0 outs (mKeepX (mCallX X_lying (mCons (mVar 0) (mCons (mVar 2) mNil)))))) mNil)) (mCallB reprD (mCons (mTup (mCons (mC (.str (Str.ofString "moment"))) (mCons (mVar 2) mNil))) mNil)))) (mRet (mC (.bl false))) mNext)
    (mIfS (mTest (mBin dNe (mCallB reprD (mCons (mKeep (mLam 0 0 outs (mKeepX (mCallX X_hand_at (mCons (mVar 0) (mCons (mVar 1) (mCons (mVar 2) mNil))))))) mNil)) (mCallB reprD (mCons (mTup (mCons (mC (.str (Str.ofString "moment"))) (mCons (mVar 2) mNil))) mNil)))) (mRet (mC (.bl false))) mNext)))
    (mSeq (mFor (mIAny (mTup (mCons (mC (.str (Str.ofString "dan"))) (mCons (mC (.int 1)) (mCons (mC .non) (mCons (mTup (mCons (mC (.str (Str.ofString "ann"))) mNil)) (mCons (mFrz (mLst (mCons (mC (.str (Str.ofString "ann"))) mNil))) mNil))))))) (gN 2) (mWipe [3] (mSeq (mAsg (mLst (mCons (mKeep (mLam 0 0 outs (mKeepX (mCallX X_hand_at (mCons (mVar 0) (mCons (mBin addD (mSl slD (mVar 1) oNone (oSome (mC (.int 1)))) (mTup (mCons (mVar 2) (mCons (mC (.str (Str.ofString "eve"))) mNil)))) (mCons (mUn negD (mC (.int 1))) mNil))))))) mNil)) (gN 3))
    (mSeq (mDrop (mMeth "list" appendD (mVar 3) (mCons (mKeep (mLam 0 0 outs (mKeepX (mCallX X_hand_at (mCons (mVar 0) (mCons (mTup (mCons (mVar 2) mNil)) (mCons (mC (.int 0)) mNil))))))) mNil)))
    (mIfS (mTest (mBin dNe (mCallB reprD (mCons (mVar 3) mNil)) (mCallB reprD (mCons (mFrz (mBin mulD (mFrz (mLst (mCons (mTup (mCons (mC (.str (Str.ofString "holder"))) (mCons (mVar 2) mNil))) mNil))) (mC (.int 2)))) mNil)))) (mRet (mC (.bl false))) mNext)))))
    (mRet (mOr (mBin dEq (mVar 1) (mTup mNil)) (mBin dEq (mKeep (mLam 0 0 outs (mKeepX (mCallX X_hand_at (mCons (mVar 0) (mCons (mBin mulD (mSl slD (mVar 1) oNone (oSome (mC (.int 1)))) (mC (.int 2))) (mCons (mC (.int 0)) mNil))))))) (mTup (mCons (mC (.str (Str.ofString "holder"))) (mCons (mBin ixD (mVar 1) (mC (.int 0))) mNil)))))))))
def M_law_are_refused : MF := mFn 1 4 (B_law_are_refused)
theorem sb_law_are_refused {P : Program} {w : World} {K : PySem.W.Frag} {mg : Str → Option Value} {base : Heap} {ft : Cfg} (T : Txt P w mg ft) (c_law_moments : Callee P w K mg base ft "_law_moments" 1 M_law_moments 1) (c_law_folk : Callee P w K mg base ft "_law_folk" 1 M_law_folk 1) {T_law_said : GiverT K mg "_law_said"} (G_law_said : Giver (fmOfT P w K mg base ft S_law_are_refused N_law_are_refused 5 0) T_law_said 3 outs) (xc_hand_at : CalleeX P w K mg base ft "hand_at" 3 X_hand_at 3) (xc_lying : CalleeX P w K mg base ft "lying" 2 X_lying 3) : SB (fmOfT P w K mg base ft S_law_are_refused N_law_are_refused 5 0) (defBody S_law_are_refused) B_law_are_refused :=
    (sb_cons (ss_set 1 (se_callTy sc_tuple T.b_tuple (by decide +kernel) (sa_cons (se_keepF (se_call _ c_law_folk (sa_cons (se_var 0) sa_nil) (mCons_len len0))) sa_nil)))
    (sb_cons (ss_for (si_any (se_keepF (se_call _ c_law_moments (sa_cons (se_var 0) sa_nil) (mCons_len len0)))) (sg_name 2) (sb_cons (ss_if (st_cmp so_ne (se_callB sc_repr T.b_repr (by decide +kernel) (sa_cons (se_keep (se_lam (j := 0) G_law_said rfl (sex_keep (sex_call _ xc_lying (sa_cons (se_var 0) (sa_cons (se_var 2) sa_nil)) (mCons_len (mCons_len len0)))) (Nat.le_of_ble_eq_true rfl) (by rfl) (by dsimp only [fmOfT]; decide +kernel) (fun _ => rfl) (fun _ _ _ _ _ => rfl) (by decide))) sa_nil)) (se_callB sc_repr T.b_repr (by decide +kernel) (sa_cons (se_tup (sa_cons se_str (sa_cons (se_var 2) sa_nil))) sa_nil))) (sb_one (ss_ret se_bl)) sb_nil)
    (sb_one (ss_if (st_cmp so_ne (se_callB sc_repr T.b_repr (by decide +kernel) (sa_cons (se_keep (se_lam (j := 0) G_law_said rfl (sex_keep (sex_call _ xc_hand_at (sa_cons (se_var 0) (sa_cons (se_var 1) (sa_cons (se_var 2) sa_nil))) (mCons_len (mCons_len (mCons_len len0))))) (Nat.le_of_ble_eq_true rfl) (by rfl) (by dsimp only [fmOfT]; decide +kernel) (fun _ => rfl) (fun _ _ _ _ _ => rfl) (by decide))) sa_nil)) (se_callB sc_repr T.b_repr (by decide +kernel) (sa_cons (se_tup (sa_cons se_str (sa_cons (se_var 2) sa_nil))) sa_nil))) (sb_one (ss_ret se_bl)) sb_nil))))
    (sb_cons (ss_for (si_any (se_tup (sa_cons se_str (sa_cons se_int (sa_cons se_non (sa_cons (se_tup (sa_cons se_str sa_nil)) (sa_cons (se_frz (se_lst (sa_cons se_str sa_nil))) sa_nil))))))) (sg_name 2) (sb_wipe [3] (sb_cons (ss_set 3 (se_lst (sa_cons (se_keep (se_lam (j := 0) G_law_said rfl (sex_keep (sex_call _ xc_hand_at (sa_cons (se_var 0) (sa_cons (se_op so_add (se_slice ssl (se_var 1) so_none (so_some se_int)) (se_tup (sa_cons (se_var 2) (sa_cons se_str sa_nil)))) (sa_cons (se_un su_neg se_int) sa_nil))) (mCons_len (mCons_len (mCons_len len0))))) (Nat.le_of_ble_eq_true rfl) (by rfl) (by dsimp only [fmOfT]; decide +kernel) (fun _ => rfl) (fun _ _ _ _ _ => rfl) (by decide))) sa_nil)))
    (sb_cons (ss_expr (se_bm PySem.F.plainAttrs_list PySem.F.slot_list_append PySem.F.type_list_append sm_append (se_var 3) (sa_cons (se_keep (se_lam (j := 0) G_law_said rfl (sex_keep (sex_call _ xc_hand_at (sa_cons (se_var 0) (sa_cons (se_tup (sa_cons (se_var 2) sa_nil)) (sa_cons se_int sa_nil))) (mCons_len (mCons_len (mCons_len len0))))) (Nat.le_of_ble_eq_true rfl) (by rfl) (by dsimp only [fmOfT]; decide +kernel) (fun _ => rfl) (fun _ _ _ _ _ => rfl) (by decide))) sa_nil)))
    (sb_one (ss_if (st_cmp so_ne (se_callB sc_repr T.b_repr (by decide +kernel) (sa_cons (se_var 3) sa_nil)) (se_callB sc_repr T.b_repr (by decide +kernel) (sa_cons (se_frz (se_op so_mul (se_frz (se_lst (sa_cons (se_tup (sa_cons se_str (sa_cons (se_var 2) sa_nil))) sa_nil))) se_int)) sa_nil))) (sb_one (ss_ret se_bl)) sb_nil))))))
    (sb_one (ss_ret (se_or (se_cmp so_eq (se_var 1) (se_tup sa_nil)) (se_one (se_cmp so_eq (se_keep (se_lam (j := 0) G_law_said rfl (sex_keep (sex_call _ xc_hand_at (sa_cons (se_var 0) (sa_cons (se_op so_mul (se_slice ssl (se_var 1) so_none (so_some se_int)) se_int) (sa_cons se_int sa_nil))) (mCons_len (mCons_len (mCons_len len0))))) (Nat.le_of_ble_eq_true rfl) (by rfl) (by dsimp only [fmOfT]; decide +kernel) (fun _ => rfl) (fun _ _ _ _ _ => rfl) (by decide))) (se_tup (sa_cons se_str (sa_cons (se_ix six (se_var 1) se_int) sa_nil)))))))))))
/-! law -/
abbrev S_law : Stmt := top 36
abbrev N_law : List Str := ["_law_script", "_law_feed_here", "_law_lap", "_law_days_here", "_law_kept_here", "_law_boxes", "_law_folk_here", "_law_t", "_law_due", "_law_crew"]
abbrev P_law : List Str := ["_law_script"]
theorem scope_law : FnScope N_law P_law (defScope S_law) := ⟨rfl, rfl, rfl, by decide +kernel, rfl, by decide +kernel, by decide +kernel⟩
def B_law : MS :=
    (mSeq (mAsg (mCall M_law_feed (mCons (mVar 0) mNil)) (gN 1))
    (mSeq (mFor (mIRng1 (mCons (mC (.int 4)) mNil)) (gN 2) (mWipe [2, 3, 4, 5, 6, 7] (mSeq (mAsg (mKeepF (mCall M_law_days (mCons (mVar 1) (mCons (mBin addD (mC (.int 6)) (mKeepF (mCall M_law_draw (mCons (mVar 1) (mCons (mC (.int 13)) mNil))))) mNil)))) (gN 3))
    (mSeq (mPar 4 5 (mCons (mCallB reprD (mCons (mVar 3) mNil)) (mCons (mCallB tupleD (mCons (mKeepF (mCall M_law_puts (mCons (mVar 3) mNil))) mNil)) mNil)))
    (mSeq (mIfS (mTest (mBin dNe (mCallB reprD (mCons (mFrz (mLst (mCons (mKeepF (mCall M_boxes_put (mCons (mVar 3) mNil))) (mCons (mKeepF (mCallK gId M_boxes_put (mCons (mVar 3) mNil))) mNil)))) mNil)) (mCallB reprD (mCons (mFrz (mLst (mCons (mVar 5) (mCons (mVar 5) mNil)))) mNil)))) (mRet (mC (.bl false))) mNext)
    (mSeq (mAsg (mCallB tupleD (mCons (mKeepF (mCall M_law_folk (mCons (mVar 3) mNil))) mNil)) (gN 6))
    (mSeq (mIfS (mTest (mBin dNe (mCallB reprD (mCons (mFrz (mLst (mCons (mKeepF (mCall M_holders_of (mCons (mVar 3) mNil))) (mCons (mKeepF (mCallK gId M_holders_of (mCons (mVar 3) mNil))) mNil)))) mNil)) (mCallB reprD (mCons (mFrz (mLst (mCons (mVar 6) (mCons (mVar 6) mNil)))) mNil)))) (mRet (mC (.bl false))) mNext)
    (mSeq (mFor (mIRng1 (mCons (mBin addD (mCallB lenD (mCons (mVar 3) mNil)) (mC (.int 1))) mNil)) (gN 7) (mWipe [7, 8, 9] (mSeq (mAsg (mCallB tupleD (mCons (mKeepF (mCall M_law_there (mCons (mVar 3) (mCons (mVar 7) mNil)))) mNil)) (gN 8))
    (mSeq (mIfS (mTest (mBin dNe (mCallB reprD (mCons (mFrz (mLst (mCons (mKeepF (mCall M_lying (mCons (mVar 3) (mCons (mVar 7) mNil)))) (mCons (mKeepF (mCallK g_1_0 M_lying (mCons (mVar 7) (mCons (mVar 3) mNil)))) mNil)))) mNil)) (mCallB reprD (mCons (mFrz (mLst (mCons (mVar 8) (mCons (mVar 8) mNil)))) mNil)))) (mRet (mC (.bl false))) mNext)
    (mFor (mIAny (mKeepF (mCall M_law_crews (mCons (mVar 3) mNil)))) (gN 9) (mWipe [9] (mSeq (mAsg (mBin ixD (mKeepF (mCall M_law_pair (mCons (mKeepF (mCall M_law_hand (mCons (mVar 3) (mCons (mVar 9) (mCons (mVar 7) mNil))))) mNil))) (mC (.int 0))) (gN 8))
    (mIfS (mTest (mBin dNe (mCallB reprD (mCons (mFrz (mLst (mCons (mKeepF (mCall M_hand_at (mCons (mVar 3) (mCons (mVar 9) (mCons (mVar 7) mNil))))) (mCons (mKeepF (mCallK g_2_1_0 M_hand_at (mCons (mVar 7) (mCons (mVar 9) (mCons (mVar 3) mNil))))) mNil)))) mNil)) (mCallB reprD (mCons (mFrz (mLst (mCons (mVar 8) (mCons (mVar 8) mNil)))) mNil)))) (mRet (mC (.bl false))) mNext))))))))
    (mIfS (tOrM (tNotM (mTru (mKeepF (mCall M_law_are_refused (mCons (mVar 3) mNil))))) (mTest (mBin dNe (mCallB reprD (mCons (mVar 3) mNil)) (mVar 4)))) (mRet (mC (.bl false))) mNext)))))))))
    (mRet (mC (.bl true)))))
def M_law : MF := mFn 1 10 (B_law)
theorem sb_law {P : Program} {w : World} {K : PySem.W.Frag} {mg : Str → Option Value} {base : Heap} {ft : Cfg} (T : Txt P w mg ft) (c_law_are_refused : Callee P w K mg base ft "_law_are_refused" 1 M_law_are_refused 6) (c_law_crews : Callee P w K mg base ft "_law_crews" 1 M_law_crews 2) (k_hand_at_moment_group_history : CalleeK P w K mg base ft "hand_at" ["moment", "group", "history"] g_2_1_0 M_hand_at 3) (c_hand_at : Callee P w K mg base ft "hand_at" 3 M_hand_at 3) (c_law_pair : Callee P w K mg base ft "_law_pair" 1 M_law_pair 1) (c_law_hand : Callee P w K mg base ft "_law_hand" 3 M_law_hand 1) (k_lying_moment_history : CalleeK P w K mg base ft "lying" ["moment", "history"] g_1_0 M_lying 3) (c_lying : Callee P w K mg base ft "lying" 2 M_lying 3) (c_law_there : Callee P w K mg base ft "_law_there" 2 M_law_there 1) (k_holders_of_history : CalleeK P w K mg base ft "holders_of" ["history"] gId M_holders_of 1) (c_holders_of : Callee P w K mg base ft "holders_of" 1 M_holders_of 1) (c_law_folk : Callee P w K mg base ft "_law_folk" 1 M_law_folk 1) (k_boxes_put_history : CalleeK P w K mg base ft "boxes_put" ["history"] gId M_boxes_put 1) (c_boxes_put : Callee P w K mg base ft "boxes_put" 1 M_boxes_put 1) (c_law_puts : Callee P w K mg base ft "_law_puts" 1 M_law_puts 1) (c_law_days : Callee P w K mg base ft "_law_days" 2 M_law_days 4) (c_law_draw : Callee P w K mg base ft "_law_draw" 2 M_law_draw 1) (c_law_feed : Callee P w K mg base ft "_law_feed" 1 M_law_feed 1) : SB (fmOf P w K mg base ft S_law N_law 6) (defBody S_law) B_law :=
    (sb_cons (ss_set 1 (se_call _ c_law_feed (sa_cons (se_var 0) sa_nil) (mCons_len len0)))
    (sb_cons (ss_for (si_range1 T.b_range (sa_cons se_int sa_nil)) (sg_name 2) (sb_wipe [2, 3, 4, 5, 6, 7] (sb_cons (ss_set 3 (se_keepF (se_call _ c_law_days (sa_cons (se_var 1) (sa_cons (se_op so_add se_int (se_keepF (se_call _ c_law_draw (sa_cons (se_var 1) (sa_cons se_int sa_nil)) (mCons_len (mCons_len len0))))) sa_nil)) (mCons_len (mCons_len len0)))))
    (sb_cons (ss_par 4 5 (sa_cons (se_callB sc_repr T.b_repr (by decide +kernel) (sa_cons (se_var 3) sa_nil)) (sa_cons (se_callTy sc_tuple T.b_tuple (by decide +kernel) (sa_cons (se_keepF (se_call _ c_law_puts (sa_cons (se_var 3) sa_nil) (mCons_len len0))) sa_nil)) sa_nil)) (by decide) (hw := fun env h => by cases env; cases h; rfl))
    (sb_cons (ss_if (st_cmp so_ne (se_callB sc_repr T.b_repr (by decide +kernel) (sa_cons (se_frz (se_lst (sa_cons (se_keepF (se_call _ c_boxes_put (sa_cons (se_var 3) sa_nil) (mCons_len len0))) (sa_cons (se_keepF (se_callK0 _ k_boxes_put_history (sk_cons (se_var 3) sk_nil) (mCons_len len0))) sa_nil)))) sa_nil)) (se_callB sc_repr T.b_repr (by decide +kernel) (sa_cons (se_frz (se_lst (sa_cons (se_var 5) (sa_cons (se_var 5) sa_nil)))) sa_nil))) (sb_one (ss_ret se_bl)) sb_nil)
    (sb_cons (ss_set 6 (se_callTy sc_tuple T.b_tuple (by decide +kernel) (sa_cons (se_keepF (se_call _ c_law_folk (sa_cons (se_var 3) sa_nil) (mCons_len len0))) sa_nil)))
    (sb_cons (ss_if (st_cmp so_ne (se_callB sc_repr T.b_repr (by decide +kernel) (sa_cons (se_frz (se_lst (sa_cons (se_keepF (se_call _ c_holders_of (sa_cons (se_var 3) sa_nil) (mCons_len len0))) (sa_cons (se_keepF (se_callK0 _ k_holders_of_history (sk_cons (se_var 3) sk_nil) (mCons_len len0))) sa_nil)))) sa_nil)) (se_callB sc_repr T.b_repr (by decide +kernel) (sa_cons (se_frz (se_lst (sa_cons (se_var 6) (sa_cons (se_var 6) sa_nil)))) sa_nil))) (sb_one (ss_ret se_bl)) sb_nil)
    (sb_cons (ss_for (si_range1 T.b_range (sa_cons (se_op so_add (se_callB sc_len T.b_len (by decide +kernel) (sa_cons (se_var 3) sa_nil)) se_int) sa_nil)) (sg_name 7) (sb_wipe [7, 8, 9] (sb_cons (ss_set 8 (se_callTy sc_tuple T.b_tuple (by decide +kernel) (sa_cons (se_keepF (se_call _ c_law_there (sa_cons (se_var 3) (sa_cons (se_var 7) sa_nil)) (mCons_len (mCons_len len0)))) sa_nil)))
    (sb_cons (ss_if (st_cmp so_ne (se_callB sc_repr T.b_repr (by decide +kernel) (sa_cons (se_frz (se_lst (sa_cons (se_keepF (se_call _ c_lying (sa_cons (se_var 3) (sa_cons (se_var 7) sa_nil)) (mCons_len (mCons_len len0)))) (sa_cons (se_keepF (se_callK0 _ k_lying_moment_history (sk_cons (se_var 7) (sk_cons (se_var 3) sk_nil)) (mCons_len (mCons_len len0)))) sa_nil)))) sa_nil)) (se_callB sc_repr T.b_repr (by decide +kernel) (sa_cons (se_frz (se_lst (sa_cons (se_var 8) (sa_cons (se_var 8) sa_nil)))) sa_nil))) (sb_one (ss_ret se_bl)) sb_nil)
    (sb_one (ss_for (si_any (se_keepF (se_call _ c_law_crews (sa_cons (se_var 3) sa_nil) (mCons_len len0)))) (sg_name 9) (sb_wipe [9] (sb_cons (ss_set 8 (se_ix six (se_keepF (se_call _ c_law_pair (sa_cons (se_keepF (se_call _ c_law_hand (sa_cons (se_var 3) (sa_cons (se_var 9) (sa_cons (se_var 7) sa_nil))) (mCons_len (mCons_len (mCons_len len0))))) sa_nil) (mCons_len len0))) se_int))
    (sb_one (ss_if (st_cmp so_ne (se_callB sc_repr T.b_repr (by decide +kernel) (sa_cons (se_frz (se_lst (sa_cons (se_keepF (se_call _ c_hand_at (sa_cons (se_var 3) (sa_cons (se_var 9) (sa_cons (se_var 7) sa_nil))) (mCons_len (mCons_len (mCons_len len0))))) (sa_cons (se_keepF (se_callK0 _ k_hand_at_moment_group_history (sk_cons (se_var 7) (sk_cons (se_var 9) (sk_cons (se_var 3) sk_nil))) (mCons_len (mCons_len (mCons_len len0))))) sa_nil)))) sa_nil)) (se_callB sc_repr T.b_repr (by decide +kernel) (sa_cons (se_frz (se_lst (sa_cons (se_var 8) (sa_cons (se_var 8) sa_nil)))) sa_nil))) (sb_one (ss_ret se_bl)) sb_nil))))))))))
    (sb_one (ss_if (st_w (sw_or (st_not (st_tru (se_keepF (se_call _ c_law_are_refused (sa_cons (se_var 3) sa_nil) (mCons_len len0))))) (sw_or1 (st_cmp so_ne (se_callB sc_repr T.b_repr (by decide +kernel) (sa_cons (se_var 3) sa_nil)) (se_var 4))))) (sb_one (ss_ret se_bl)) sb_nil))))))))))
    (sb_one (ss_ret se_bl))))
end G
set_option Elab.async false
set_option linter.all false
set_option maxRecDepth 100000
set_option maxHeartbeats 1000000
namespace Au
open PySem L2 Mi
/-! ## data without cells, bools, defs -/
def gd : Nat → D → Bool
  | 0, _ => false
  | n + 1, d => match d with
    | .non => true
    | .int _ => true
    | .str x => PyData.strOk x
    | .tup ds => ds.all (gd n)
    | .rol ds => ds.all (gd n)
    | _ => false
mutual
def pyF : D → PyData
  | .non => .none
  | .bl b => .bool b
  | .int i => .int i
  | .str x => .str x
  | .tup ds => .tuple (pyFs ds)
  | .rol ds => .list (pyFs ds)
  | _ => .none
def pyFs : List D → List PyData
  | [] => []
  | d :: ds => pyF d :: pyFs ds
end
theorem pyFs_map : ∀ ds : List D, pyFs ds = ds.map pyF
  | [] => rfl
  | d :: ds => by rw [pyFs, pyFs_map ds]; rfl
@[simp] theorem gd_int {n : Nat} {i : Int} : gd (n + 1) (.int i) = true := rfl
@[simp] theorem gd_non {n : Nat} : gd (n + 1) .non = true := rfl
@[simp] theorem gd_str {n : Nat} {x : Str} : gd (n + 1) (.str x) = PyData.strOk x := rfl
@[simp] theorem gd_tup {n : Nat} {ds : List D} : gd (n + 1) (.tup ds) = ds.all (gd n) := rfl
@[simp] theorem gd_rol {n : Nat} {ds : List D} : gd (n + 1) (.rol ds) = ds.all (gd n) := rfl
theorem gd_up : ∀ {n : Nat} {d : D}, gd n d = true → gd (n + 1) d = true
  | n + 1, .non, _ | n + 1, .int _, _ => rfl
  | n + 1, .str x, h => h
  | n + 1, .tup ds, h => by
    rw [gd_tup, List.all_eq_true] at h ⊢
    exact fun d hd => gd_up (h d hd)
  | n + 1, .rol ds, h => by
    rw [gd_rol, List.all_eq_true] at h ⊢
    exact fun d hd => gd_up (h d hd)
theorem gd_le {n m : Nat} {d : D} (h : gd n d = true) (hm : n ≤ m) : gd m d = true := by
  induction hm with
  | refl => exact h
  | step _ ih => exact gd_up ih
theorem mapM_all {α β : Type} {f : α → Option β} {g : α → β} : ∀ {l : List α}, (∀ a ∈ l, f a = some (g a)) → l.mapM f = some (l.map g)
  | [], _ => rfl
  | a :: l, h => by
    rw [List.mapM_cons, h a (by simp), mapM_all fun b hb => h b (by simp [hb])]; rfl
theorem py_gd {C : Hm} : ∀ {n m : Nat} {d : D}, gd n d = true → n ≤ m → py C m d = some (pyF d)
  | n + 1, m + 1, .non, _, _ | n + 1, m + 1, .int _, _, _ | n + 1, m + 1, .str _, _, _ => rfl
  | n + 1, m + 1, .tup ds, h, hm => by
    rw [gd_tup, List.all_eq_true] at h
    show (ds.mapM (py C m)).map PyData.tuple = _
    rw [mapM_all fun d hd => py_gd (h d hd) (by omega), pyF, pyFs_map]; rfl
  | n + 1, m + 1, .rol ds, h, hm => by
    rw [gd_rol, List.all_eq_true] at h
    show (ds.mapM (py C m)).map PyData.list = _
    rw [mapM_all fun d hd => py_gd (h d hd) (by omega), pyF, pyFs_map]; rfl
theorem lay_gd : ∀ {n : Nat} {d : D}, gd n d = true → (pyF d).canLay0 = true ∧ (pyF d).depth ≤ n
  | n + 1, .non, _ | n + 1, .int _, _ => ⟨rfl, by simp [pyF, PyData.depth]⟩
  | n + 1, .str x, h => ⟨by simpa [pyF, PyData.canLay0] using h, by simp [pyF, PyData.depth]⟩
  | n + 1, .tup ds, h => by
    rw [gd_tup, List.all_eq_true] at h
    have key : ∀ l : List D, (∀ d ∈ l, gd n d = true) → PyData.canLayAll0 (pyFs l) = true ∧ PyData.depthAll (pyFs l) ≤ n := by
      intro l
      induction l with
      | nil => intro _; exact ⟨rfl, by simp [pyFs, PyData.depthAll]⟩
      | cons d l ih =>
        intro hl
        obtain ⟨a, b⟩ := lay_gd (hl d (by simp))
        obtain ⟨c, e⟩ := ih fun x hx => hl x (by simp [hx])
        exact ⟨by simp [pyFs, PyData.canLayAll0, a, c], by simp only [pyFs, PyData.depthAll]; omega⟩
    obtain ⟨a, b⟩ := key ds h
    exact ⟨by simpa [pyF, PyData.canLay0] using a, by simp only [pyF, PyData.depth]; omega⟩
  | n + 1, .rol ds, h => by
    rw [gd_rol, List.all_eq_true] at h
    have key : ∀ l : List D, (∀ d ∈ l, gd n d = true) → PyData.canLayAll0 (pyFs l) = true ∧ PyData.depthAll (pyFs l) ≤ n := by
      intro l
      induction l with
      | nil => intro _; exact ⟨rfl, by simp [pyFs, PyData.depthAll]⟩
      | cons d l ih =>
        intro hl
        obtain ⟨a, b⟩ := lay_gd (hl d (by simp))
        obtain ⟨c, e⟩ := ih fun x hx => hl x (by simp [hx])
        exact ⟨by simp [pyFs, PyData.canLayAll0, a, c], by simp only [pyFs, PyData.depthAll]; omega⟩
    obtain ⟨a, b⟩ := key ds h
    exact ⟨by simpa [pyF, PyData.canLay0] using a, by simp only [pyF, PyData.depth]; omega⟩
theorem shaped_gd {d : D} (h : gd 60 d = true) : SeqAt.shaped (pyF d) = true := by
  obtain ⟨a, b⟩ := lay_gd h
  simp only [SeqAt.shaped, a, Bool.true_and, decide_eq_true_eq]; omega
def eqD (x y : D) : Bool := PyData.eqv (pyF x) (pyF y)
theorem eqD_iff : ∀ {n m : Nat} {x y : D}, gd n x = true → gd m y = true → (eqD x y = true ↔ x = y)
  | n + 1, m + 1, x, y, hx, hy => by
    have all : ∀ a b : List D, (∀ d ∈ a, gd n d = true) → (∀ d ∈ b, gd m d = true) → (PyData.eqvAll (pyFs a) (pyFs b) = true ↔ a = b) := by
      intro a
      induction a with
      | nil => intro b _ _; cases b <;> simp [pyFs, PyData.eqvAll]
      | cons d a ih =>
        intro b h1 h2
        cases b with
        | nil => simp [pyFs, PyData.eqvAll]
        | cons e b =>
          have z := eqD_iff (h1 d (by simp)) (h2 e (by simp))
          unfold eqD at z
          simp only [pyFs, PyData.eqvAll, Bool.and_eq_true, z, ih b (fun x hx => h1 x (by simp [hx])) fun x hx => h2 x (by simp [hx]), List.cons.injEq]
    cases x <;> cases y <;> simp only [gd, Bool.false_eq_true, List.all_eq_true] at hx hy <;> simp [eqD, pyF, PyData.eqv, all, hx, hy]
    case tup.tup a b => exact all a b hx hy
    case rol.rol a b => exact all a b hx hy
theorem eqD_dec {n m : Nat} {x y : D} [Decidable (x = y)] (hx : gd n x = true) (hy : gd m y = true) : eqD x y = decide (x = y) := by
  rw [Bool.eq_iff_iff, eqD_iff hx hy, decide_eq_true_iff]
theorem eqD_refl {n : Nat} {x : D} (hx : gd n x = true) : eqD x x = true := (eqD_iff hx hx).mpr rfl
theorem cmpS_gd {x y : D} {C : Hm} {f : PyData → PyData → Bool} {neg : Bool} (hf : ∀ i j : Str, f (.str i) (.str j) = if neg = true then !(i == j) else i == j) (hx : gd 60 x = true) (hy : gd 60 y = true) : cmpS neg f x y C = some (.bl (f (pyF x) (pyF y)), C) := by
  have key : cmpD f x y C = some (.bl (f (pyF x) (pyF y)), C) := by
    unfold cmpD
    rw [py_gd hx (by omega), py_gd hy (by omega)]
    exact if_pos ⟨shaped_gd hx, shaped_gd hy⟩
  unfold cmpS
  split
  · rw [show f (pyF (D.str _)) (pyF (D.str _)) = _ from hf _ _]
  · exact key
theorem dEq_gd {x y : D} {C : Hm} (hx : gd 60 x = true) (hy : gd 60 y = true) : dEq x y C = some (.bl (eqD x y), C) := cmpS_gd (fun i j => by simp [PyData.eqv]) hx hy
theorem dNe_gd {x y : D} {C : Hm} (hx : gd 60 x = true) (hy : gd 60 y = true) : dNe x y C = some (.bl (!eqD x y), C) := cmpS_gd (fun i j => by simp [PyData.eqv]) hx hy
def memD (x : D) (l : List D) : Bool := l.any fun z => eqD z x
theorem memD_iff {n m : Nat} {x : D} {l : List D} (hx : gd n x = true) (hl : ∀ d ∈ l, gd m d = true) : memD x l = true ↔ x ∈ l := by
  unfold memD
  rw [List.any_eq_true]
  exact ⟨fun ⟨z, hz, e⟩ => (eqD_iff (hl z hz) hx).mp e ▸ hz, fun h => ⟨x, h, eqD_refl hx⟩⟩
theorem memD_map {α : Type} {enc : α → D} {n m : Nat} {a : α} {l : List α} [Decidable (a ∈ l)] (inj : ∀ a b, enc a = enc b → a = b) (ha : gd n (enc a) = true) (hl : ∀ b ∈ l, gd m (enc b) = true) : memD (enc a) (l.map enc) = decide (a ∈ l) := by
  rw [Bool.eq_iff_iff, memD_iff ha (fun d hd => by obtain ⟨b, hb, rfl⟩ := List.mem_map.mp hd; exact hl b hb), decide_eq_true_iff]
  exact ⟨fun h => by obtain ⟨b, hb, e⟩ := List.mem_map.mp h; rw [← inj _ _ e]; exact hb, fun h => List.mem_map.mpr ⟨a, h, rfl⟩⟩
theorem inD_ls {neg : Bool} {x : D} {l : List D} {C : Hm} (hx : gd 60 x = true) (hl : ∀ d ∈ l, gd 59 d = true) (y : D) (hy : py C 70 y = some (.list (pyFs l)) ∨ py C 70 y = some (.tuple (pyFs l))) : inD neg x y C = some (.bl (if neg then !memD x l else memD x l), C) := by
  have e : (py C 70 y).bind itemsP = some (pyFs l) := by rcases hy with h | h <;> rw [h] <;> rfl
  unfold inD
  rw [py_gd hx (by omega), e]
  have z := shaped_gd (d := .rol l) (by rw [gd_rol, List.all_eq_true]; exact hl)
  simp only [pyF] at z
  simp only
  rw [if_pos ⟨shaped_gd hx, z⟩, pyFs_map, List.any_map]
  rfl
theorem inD_rol {neg : Bool} {x : D} {l : List D} {C : Hm} (hx : gd 60 x = true) (hl : ∀ d ∈ l, gd 59 d = true) : inD neg x (.rol l) C = some (.bl (if neg then !memD x l else memD x l), C) :=
  inD_ls hx hl _ (.inl (by rw [py_gd (n := 60) (by rw [gd_rol, List.all_eq_true]; exact hl) (by omega)]; rfl))
theorem inD_tup {neg : Bool} {x : D} {l : List D} {C : Hm} (hx : gd 60 x = true) (hl : ∀ d ∈ l, gd 59 d = true) : inD neg x (.tup l) C = some (.bl (if neg then !memD x l else memD x l), C) :=
  inD_ls hx hl _ (.inr (by rw [py_gd (n := 60) (by rw [gd_tup, List.all_eq_true]; exact hl) (by omega)]; rfl))
theorem inD_cell {neg : Bool} {x : D} {l : List D} {C : Hm} {n : Nat} (hc : C[n]? = some (.lst l)) (hx : gd 60 x = true) (hl : ∀ d ∈ l, gd 59 d = true) : inD neg x (.cell n) C = some (.bl (if neg then !memD x l else memD x l), C) :=
  inD_ls hx hl _ (.inl (by
    unfold py
    simp only [hc]
    rw [mapM_all fun d hd => py_gd (hl d hd) (by omega), pyFs_map]; rfl))
/-! ## cells apart -/
theorem bnd_gd {k : Nat} : ∀ {n : Nat} {d : D}, gd n d = true → d.bnd k = true
  | n + 1, .non, _ | n + 1, .int _, _ | n + 1, .str _, _ => rfl
  | n + 1, .tup ds, h => by
    rw [gd_tup, List.all_eq_true] at h
    have key : ∀ l : List D, (∀ d ∈ l, gd n d = true) → bnds k l = true := by
      intro l
      induction l with
      | nil => intro _; rfl
      | cons d l ih => intro hl; simp only [bnds, Bool.and_eq_true]; exact ⟨bnd_gd (hl d (by simp)), ih fun x hx => hl x (by simp [hx])⟩
    simpa [D.bnd] using key ds h
  | n + 1, .rol ds, h => by
    rw [gd_rol, List.all_eq_true] at h
    have key : ∀ l : List D, (∀ d ∈ l, gd n d = true) → bnds k l = true := by
      intro l
      induction l with
      | nil => intro _; rfl
      | cons d l ih => intro hl; simp only [bnds, Bool.and_eq_true]; exact ⟨bnd_gd (hl d (by simp)), ih fun x hx => hl x (by simp [hx])⟩
    simpa [D.bnd] using key ds h
theorem bnds_of {k : Nat} : ∀ {l : List D}, (∀ d ∈ l, d.bnd k = true) → bnds k l = true
  | [], _ => rfl
  | d :: l, h => by simp only [bnds, Bool.and_eq_true]; exact ⟨h d (by simp), bnds_of fun x hx => h x (by simp [hx])⟩
theorem bnds_gd {k n : Nat} {l : List D} (h : ∀ d ∈ l, gd n d = true) : bnds k l = true := bnds_of fun d hd => bnd_gd (h d hd)
/-- a heap whose cells know only cells of it -/
def WB (C : Hm) : Prop := ∀ c ∈ C, c.bnd C.length = true
theorem Cell.bnd_le {k n : Nat} (h : k ≤ n) {c : Cell} (e : c.bnd k = true) : c.bnd n = true := by
  cases c with
  | lst ds => exact bnds_le h ds e
  | dic kvs => simp only [Cell.bnd, List.all_eq_true] at e ⊢; exact fun p hp => D.bnd_le h _ (e p hp)
  | dix kvs => simp only [Cell.bnd, List.all_eq_true] at e ⊢; exact fun p hp => D.bnd_le h _ (e p hp)
  | dxl kvs => simp only [Cell.bnd, List.all_eq_true] at e ⊢; exact fun p hp => D.bnd_le h _ (e p hp)
  | tab n => rfl
theorem WB.push {C : Hm} {c : Cell} (W : WB C) (h : c.bnd (C.length + 1) = true) : WB (C ++ [c]) := fun x hx => by
  rw [List.length_append, List.length_singleton]
  rcases List.mem_append.mp hx with z | z
  · exact Cell.bnd_le (Nat.le_succ _) (W x z)
  · rw [List.mem_singleton.mp z]; exact h
theorem WB.all {C : Hm} (W : WB C) {t : Hm} : ((C ++ t).take C.length).all (·.bnd C.length) = true := by
  rw [List.take_left, List.all_eq_true]; exact W
theorem frz_new {m : ME} {E : Ev} {C : Hm} {ds : List D} (W : WB C) (h : m E C = some (.cell C.length, C ++ [.lst ds])) (b : bnds C.length ds = true) : mFrz m E C = some (.rol ds, C) := by
  unfold mFrz
  rw [h]
  simp only [Option.bind_some, frzR]
  rw [if_pos (Nat.le_refl _)]
  have e : (C ++ [Cell.lst ds])[C.length]? = some (.lst ds) := by simp
  simp only [e, b, Bool.true_and, W.all, if_true]
  rw [List.take_left]
theorem frz_id {m : ME} {E : Ev} {C C' : Hm} {d : D} (h : m E C = some (d, C')) (nc : ∀ n, d ≠ .cell n) : mFrz m E C = some (d, C') := by
  unfold mFrz
  rw [h]
  cases d <;> first | rfl | exact absurd rfl (nc _)
/-- a call that leaves things as they were -/
theorem keep_val {m : ME} {E : Ev} {C t : Hm} {d : D} (W : WB C) (h : m E C = some (d, C ++ t)) (b : d.bnd C.length = true) : mKeepF m E C = some (d, C) := by
  have key : cutC C.length (d, C ++ t) = some (d, C) := by
    unfold cutC
    simp only [b, W.all, and_self, if_true]
    rw [List.take_left]
  unfold mKeepF
  rw [h]
  simp only [Option.bind_some, keepR]
  split
  · rename_i n
    split
    · rename_i hn
      simp only [D.bnd, decide_eq_true_eq] at b
      omega
    · exact key
  · exact key
theorem keep_pure {m : ME} {E : Ev} {C : Hm} {d : D} (W : WB C) (h : m E C = some (d, C)) (b : d.bnd C.length = true) : mKeepF m E C = some (d, C) := keep_val (t := []) W (by rw [List.append_nil]; exact h) b
theorem keep_lst {m : ME} {E : Ev} {C t : Hm} {n : Nat} {ds : List D} (W : WB C) (h : m E C = some (.cell n, C ++ t)) (hn : C.length ≤ n) (hc : (C ++ t)[n]? = some (.lst ds)) (b : bnds C.length ds = true) : mKeepF m E C = some (.rol ds, C) := by
  unfold mKeepF
  rw [h]
  simp only [Option.bind_some, keepR]
  rw [if_pos hn]
  simp only [hc, b, Bool.true_and, W.all, if_true]
  rw [List.take_left]
/-! ## steps -/
theorem fn_ret {n N : Nat} {body : MS} {ds : List D} {C C' : Hm} {d : D} (hl : ds.length = n) (h : body (ds.map some ++ List.replicate (N - n) none) C = some (.rt d C')) : mFn n N body ds C = some (d, C') := by
  unfold mFn
  rw [if_pos hl, h]
  rfl
theorem fn_nx {n N : Nat} {body : MS} {ds : List D} {C C' : Hm} {E' : Ev} (hl : ds.length = n) (h : body (ds.map some ++ List.replicate (N - n) none) C = some (.nx E' C')) : mFn n N body ds C = some (.non, C') := by
  unfold mFn
  rw [if_pos hl, h]
  rfl
theorem seq_nx {m n : MS} {E E' : Ev} {C C' : Hm} (h : m E C = some (.nx E' C')) : mSeq m n E C = n E' C' := by unfold mSeq; rw [h]; rfl
theorem seq_rt {m n : MS} {E : Ev} {C C' : Hm} {d : D} (h : m E C = some (.rt d C')) : mSeq m n E C = some (.rt d C') := by unfold mSeq; rw [h]; rfl
theorem ret_eq {m : ME} {E : Ev} {C C' : Hm} {d : D} (h : m E C = some (d, C')) : mRet m E C = some (.rt d C') := by unfold mRet; rw [h]; rfl
theorem drop_eq {m : ME} {E : Ev} {C C' : Hm} {d : D} (h : m E C = some (d, C')) : mDrop m E C = some (.nx E C') := by unfold mDrop; rw [h]; rfl
theorem asg_eq {m : ME} {E : Ev} {C C' : Hm} {d : D} {i : Nat} (h : m E C = some (d, C')) : mAsg m (gN i) E C = some (.nx (E.set i (some d)) C') := by unfold mAsg; rw [h]; rfl
theorem if_eq {mt : MT} {m n : MS} {E : Ev} {C C' : Hm} {b : Bool} (h : mt E C = some (b, C')) : mIfS mt m n E C = if b = true then m E C' else n E C' := by unfold mIfS; rw [h]; rfl
theorem wipe_eq {vs : List Nat} {m : MS} {E : Ev} {C : Hm} {o : Out} (h : m E C = some o) : mWipe vs m E C = some (wipeO vs o) := by unfold mWipe; rw [h]; rfl
theorem tst_eq {m : ME} {E : Ev} {C C' : Hm} {b : Bool} (h : m E C = some (.bl b, C')) : mTest m E C = some (b, C') := by unfold mTest; rw [h]; rfl
theorem nil_eq {E : Ev} {C : Hm} : mNil E C = some ([], C) := rfl
theorem cons_eq {me : ME} {ml : MA} {E : Ev} {C C1 C2 : Hm} {d : D} {ds : List D} (h : me E C = some (d, C1)) (h2 : ml E C1 = some (ds, C2)) : mCons me ml E C = some (d :: ds, C2) := by unfold mCons; rw [h]; simp only [Option.bind_some]; rw [h2]; rfl
theorem call_eq {M : MF} {ml : MA} {E : Ev} {C C1 : Hm} {ds : List D} (h : ml E C = some (ds, C1)) : mCall M ml E C = M ds C1 := by unfold mCall; rw [h]; rfl
theorem callB_eq {op : ODL} {ml : MA} {E : Ev} {C C1 : Hm} {ds : List D} (h : ml E C = some (ds, C1)) : mCallB op ml E C = op ds C1 := by unfold mCallB; rw [h]; rfl
theorem bin_eq {op : OD2} {ma mb : ME} {E : Ev} {C C1 C2 : Hm} {x y : D} (h : ma E C = some (x, C1)) (h2 : mb E C1 = some (y, C2)) : mBin op ma mb E C = op x y C2 := by unfold mBin; rw [h]; simp only [Option.bind_some]; rw [h2]; rfl
theorem var_eq {i : Nat} {E : Ev} {C : Hm} {d : D} (h : E[i]? = some (some d)) : mVar i E C = some (d, C) := by unfold mVar; rw [h]
theorem tup_eq {ml : MA} {E : Ev} {C C1 : Hm} {ds : List D} (h : ml E C = some (ds, C1)) (hl : ds.length ≤ sizeLine := by first | decide | (simp; decide)) : mTup ml E C = some (.tup ds, C1) := by unfold mTup; rw [h]; exact if_pos hl
end Au
set_option Elab.async false
set_option linter.all false
set_option maxRecDepth 100000
set_option maxHeartbeats 1000000
namespace Au
open PySem L2 Mi
/-- what is walked, in this heap -/
def ItC (it : Itm) (C : Hm) (ds : List D) : Prop := ∀ i, it.at C i = some ds[i]?
theorem itSeq {C : Hm} {ds : List D} : ItC (.seq ds) C ds := fun _ => rfl
theorem itLive {C : Hm} {n : Nat} {ds : List D} (h : C[n]? = some (.lst ds)) : ItC (.live n) C ds := fun i => by simp [Itm.at, h]
/-! ## comprehensions -/
theorem lc_loop {it : Itm} {tg : MG} {tt : MT} {elt : ME} {E : Ev} {C : Hm} {ds : List D} {p : D → Bool} {g : D → D} (hi : ItC it C ds)
    (hb : ∀ d ∈ ds, ∃ E1, tg d E = some E1 ∧ tt E1 C = some (p d, C) ∧ (p d = true → elt E1 C = some (g d, C))) :
    ∀ (n i : Nat) (acc : List D), i + n = ds.length → acc.length + n ≤ sizeLine → lcLoop it tg tt elt E (n + 1) i acc C = some (acc ++ ((ds.drop i).filter p).map g, C)
  | 0, i, acc, e, _ => by
    unfold lcLoop
    rw [hi, List.getElem?_eq_none (by omega)]
    simp only [Option.bind_some]
    rw [List.drop_eq_nil_of_le (by omega)]
    simp
  | n + 1, i, acc, e, hl => by
    have h : i < ds.length := by omega
    obtain ⟨E1, e1, e2, e3⟩ := hb ds[i] (List.getElem_mem h)
    unfold lcLoop
    rw [hi, List.getElem?_eq_getElem h]
    simp only [Option.bind_some]
    rw [e1]
    simp only [Option.bind_some]
    rw [e2]
    simp only [Option.bind_some]
    rw [List.drop_eq_getElem_cons h, List.filter_cons]
    cases q : p ds[i] with
    | true =>
      simp only [if_true]
      rw [e3 q]
      simp only [Option.bind_some]
      rw [if_pos (by omega), lc_loop hi hb n (i + 1) _ (by omega) (by simp; omega)]
      simp
    | false =>
      simp only [Bool.false_eq_true, if_false]
      exact lc_loop hi hb n (i + 1) acc (by omega) (by omega)
theorem lcV_eq {src : MI} {it : Itm} {tg : MG} {tt : MT} {elt : ME} {vs : List Nat} {E : Ev} {C : Hm} {ds : List D} (p : D → Bool) (g : D → D) (hs : src E C = some (it, ds.length, C)) (hi : ItC it C ds) (hl : ds.length ≤ sizeLine)
    (hb : ∀ d ∈ ds, ∃ E1, tg d (wipeE E vs) = some E1 ∧ tt E1 C = some (p d, C) ∧ (p d = true → elt E1 C = some (g d, C))) : mLcV src tg tt elt vs E C = some (.rol ((ds.filter p).map g), C) := by
  unfold mLcV
  rw [hs]
  simp only [Option.bind_some]
  rw [lc_loop hi hb ds.length 0 [] (by omega) (by simpa using hl)]
  simp
/-- over encoded items -/
theorem lcE {α : Type} {enc : α → D} {src : MI} {tg : MG} {tt : MT} {elt : ME} {vs : List Nat} {E : Ev} {C : Hm} {xs : List α} (p : α → Bool) (g : α → D) (hs : src E C = some (.seq (xs.map enc), xs.length, C)) (hl : xs.length ≤ sizeLine)
    (hb : ∀ x ∈ xs, ∃ E1, tg (enc x) (wipeE E vs) = some E1 ∧ tt E1 C = some (p x, C) ∧ (p x = true → elt E1 C = some (g x, C))) : mLcV src tg tt elt vs E C = some (.rol ((xs.filter p).map g), C) := by
  have key : ∀ (n i : Nat) (acc : List D), i + n = xs.length → acc.length + n ≤ sizeLine → lcLoop (.seq (xs.map enc)) tg tt elt (wipeE E vs) (n + 1) i acc C = some (acc ++ ((xs.drop i).filter p).map g, C) := by
    intro n
    induction n with
    | zero =>
      intro i acc e _
      unfold lcLoop
      rw [show Itm.at (.seq (xs.map enc)) C i = some none from by simp only [Itm.at]; rw [List.getElem?_eq_none (by simp; omega)]]
      simp only [Option.bind_some]
      rw [List.drop_eq_nil_of_le (by omega)]
      simp
    | succ n ih =>
      intro i acc e hl2
      have h : i < xs.length := by omega
      obtain ⟨E1, e1, e2, e3⟩ := hb xs[i] (List.getElem_mem h)
      unfold lcLoop
      rw [show Itm.at (.seq (xs.map enc)) C i = some (some (enc xs[i])) from by simp only [Itm.at]; rw [List.getElem?_map, List.getElem?_eq_getElem h]; rfl]
      simp only [Option.bind_some]
      rw [e1]
      simp only [Option.bind_some]
      rw [e2]
      simp only [Option.bind_some]
      rw [List.drop_eq_getElem_cons h, List.filter_cons]
      cases q : p xs[i] with
      | true =>
        simp only [if_true]
        rw [e3 q]
        simp only [Option.bind_some]
        rw [if_pos (by omega), ih (i + 1) _ (by omega) (by simp; omega)]
        simp
      | false =>
        simp only [Bool.false_eq_true, if_false]
        exact ih (i + 1) acc (by omega) (by omega)
  unfold mLcV
  rw [hs]
  simp only [Option.bind_some]
  rw [key xs.length 0 [] (by omega) (by simpa using hl)]
  simp
/-! ## loops -/
/-- how a statement ends: it goes on so, or hands back so -/
def Wo (o : Option Out) (N : Ev → Hm → Prop) (R : D → Hm → Prop) : Prop := match o with
  | some (.nx E C) => N E C
  | some (.rt d C) => R d C
  | _ => False
def We (o : Option (D × Hm)) (Q : D → Hm → Prop) : Prop := match o with
  | some (d, C) => Q d C
  | none => False
variable {N : Ev → Hm → Prop} {R : D → Hm → Prop} {E E' : Ev} {C C' : Hm} {m n : MS} {me : ME} {mt : MT} {Q : D → Hm → Prop}
theorem Wo.nx (h : m E C = some (.nx E' C')) (k : N E' C') : Wo (m E C) N R := by rw [h]; exact k
theorem Wo.rt {d : D} (h : m E C = some (.rt d C')) (k : R d C') : Wo (m E C) N R := by rw [h]; exact k
theorem We.of {d : D} (h : me E C = some (d, C')) (k : Q d C') : We (me E C) Q := by rw [h]; exact k
theorem We.ex {o : Option (D × Hm)} (h : We o Q) : ∃ d C', o = some (d, C') ∧ Q d C' := by
  cases o with
  | none => exact h.elim
  | some p => exact ⟨p.1, p.2, rfl, h⟩
theorem We.imp {o : Option (D × Hm)} {Q' : D → Hm → Prop} (h : We o Q) (k : ∀ d C', Q d C' → Q' d C') : We o Q' := by
  cases o with
  | none => exact h.elim
  | some p => exact k _ _ h
theorem Wo.imp {o : Option Out} {N' : Ev → Hm → Prop} {R' : D → Hm → Prop} (h : Wo o N R) (k : ∀ E C, N E C → N' E C) (k2 : ∀ d C, R d C → R' d C) : Wo o N' R' := by
  cases o with
  | none => exact h.elim
  | some o =>
    cases o with
    | nx E C => exact k _ _ h
    | rt d C => exact k2 _ _ h
    | bk E C => exact h.elim
    | ct E C => exact h.elim
theorem wo_seq (h : Wo (m E C) (fun E1 C1 => Wo (n E1 C1) N R) R) : Wo (mSeq m n E C) N R := by
  unfold mSeq
  cases q : m E C with
  | none => rw [q] at h; exact h.elim
  | some o =>
    rw [q] at h
    cases o with
    | nx E1 C1 => exact h
    | rt d C1 => exact h
    | bk E1 C1 => exact h.elim
    | ct E1 C1 => exact h.elim
theorem wo_asg {i : Nat} (h : We (me E C) fun d C1 => N (E.set i (some d)) C1) : Wo (mAsg me (gN i) E C) N R := by
  obtain ⟨d, C1, e, k⟩ := h.ex
  rw [asg_eq e]; exact k
theorem wo_drop (h : We (me E C) fun _ C1 => N E C1) : Wo (mDrop me E C) N R := by
  obtain ⟨d, C1, e, k⟩ := h.ex
  rw [drop_eq e]; exact k
theorem wo_ret (h : We (me E C) R) : Wo (mRet me E C) N R := by
  obtain ⟨d, C1, e, k⟩ := h.ex
  rw [ret_eq e]; exact k
theorem wo_if {b : Bool} (h : mt E C = some (b, C')) (h1 : b = true → Wo (m E C') N R) (h2 : b = false → Wo (n E C') N R) : Wo (mIfS mt m n E C) N R := by
  rw [if_eq h]
  cases b with
  | true => exact h1 rfl
  | false => exact h2 rfl
theorem wo_wipe {vs : List Nat} (h : Wo (m E C) (fun E1 C1 => N (wipeE E1 vs) C1) R) : Wo (mWipe vs m E C) N R := by
  unfold mWipe
  cases q : m E C with
  | none => rw [q] at h; exact h.elim
  | some o =>
    rw [q] at h
    cases o with
    | nx E1 C1 => exact h
    | rt d C1 => exact h
    | bk E1 C1 => exact h.elim
    | ct E1 C1 => exact h.elim
theorem wo_next (h : N E C) : Wo (mNext E C) N R := h
theorem wo_for {src : MI} {it : Itm} {tg : MG} {ds : List D} (I : Nat → Ev → Hm → Prop) (hs : src E C = some (it, ds.length, C')) (h0 : I 0 E C') (hi : ∀ i E C, I i E C → it.at C i = some ds[i]?)
    (hb : ∀ (i : Nat) (d : D) (E : Ev) (C : Hm), ds[i]? = some d → I i E C → ∃ E1, tg d E = some E1 ∧ Wo (m E1 C) (I (i + 1)) R) (hN : ∀ E C, I ds.length E C → N E C) : Wo (mFor src tg m E C) N R := by
  unfold mFor
  rw [hs]
  simp only [Option.bind_some]
  have key : ∀ (n i : Nat) (E : Ev) (C : Hm), i + n = ds.length → I i E C → Wo (forLoop it tg m (n + 1) i E C) N R := by
    intro n
    induction n with
    | zero =>
      intro i E C e h
      unfold forLoop
      rw [hi i E C h, List.getElem?_eq_none (by omega)]
      have : i = ds.length := by omega
      subst this
      exact hN E C h
    | succ n ih =>
      intro i E C e h
      have hlt : i < ds.length := by omega
      unfold forLoop
      rw [hi i E C h, List.getElem?_eq_getElem hlt]
      simp only [Option.bind_some]
      obtain ⟨E1, e1, w⟩ := hb i _ E C (List.getElem?_eq_getElem hlt) h
      rw [e1]
      simp only [Option.bind_some]
      cases q : m E1 C with
      | none => rw [q] at w; exact w.elim
      | some o =>
        rw [q] at w
        cases o with
        | nx E2 C2 => exact ih (i + 1) E2 C2 (by omega) w
        | rt d C2 => exact w
        | bk E2 C2 => exact w.elim
        | ct E2 C2 => exact w.elim
  exact key ds.length 0 E C' (by omega) h0
theorem fn_wo {n N : Nat} {body : MS} {ds : List D} {C : Hm} {Q : D → Hm → Prop} (hl : ds.length = n) (h : Wo (body (ds.map some ++ List.replicate (N - n) none) C) (fun _ C' => Q .non C') Q) : We (mFn n N body ds C) Q := by
  unfold mFn
  rw [if_pos hl]
  cases q : body (ds.map some ++ List.replicate (N - n) none) C with
  | none => rw [q] at h; exact h.elim
  | some o =>
    rw [q] at h
    cases o with
    | nx E1 C1 => exact h
    | rt d C1 => exact h
    | bk E1 C1 => exact h.elim
    | ct E1 C1 => exact h.elim
end Au
set_option Elab.async false
set_option linter.all false
set_option maxRecDepth 100000
set_option maxHeartbeats 1000000
namespace Au
open PySem L2 Mi
/-! ## data without cells, also bools -/
def pl : Nat → D → Bool
  | 0, _ => false
  | n + 1, d => match d with
    | .non => true
    | .bl _ => true
    | .int i => decide (i.natAbs.log2 < 1920)
    | .str x => PyData.strOk x
    | .tup ds => ds.all (pl n)
    | .rol ds => ds.all (pl n)
    | _ => false
@[simp] theorem pl_tup {n : Nat} {ds : List D} : pl (n + 1) (.tup ds) = ds.all (pl n) := rfl
@[simp] theorem pl_rol {n : Nat} {ds : List D} : pl (n + 1) (.rol ds) = ds.all (pl n) := rfl
theorem py_pl {C : Hm} : ∀ {n m : Nat} {d : D}, pl n d = true → n ≤ m → py C m d = some (pyF d)
  | n + 1, m + 1, .non, _, _ | n + 1, m + 1, .int _, _, _ | n + 1, m + 1, .str _, _, _ | n + 1, m + 1, .bl _, _, _ => rfl
  | n + 1, m + 1, .tup ds, h, hm => by
    rw [pl_tup, List.all_eq_true] at h
    show (ds.mapM (py C m)).map PyData.tuple = _
    rw [mapM_all fun d hd => py_pl (h d hd) (by omega), pyF, pyFs_map]; rfl
  | n + 1, m + 1, .rol ds, h, hm => by
    rw [pl_rol, List.all_eq_true] at h
    show (ds.mapM (py C m)).map PyData.list = _
    rw [mapM_all fun d hd => py_pl (h d hd) (by omega), pyF, pyFs_map]; rfl
mutual
/-- how long the text is at most -/
def sz : D → Nat
  | .str x => 10 * x.length + 2
  | .tup ds => 3 + szs ds
  | .rol ds => 2 + szs ds
  | _ => 1921
def szs : List D → Nat
  | [] => 0
  | d :: ds => sz d + 2 + szs ds
end
theorem szs_le {n : Nat} : ∀ {ds : List D}, (∀ d ∈ ds, sz d ≤ n) → szs ds ≤ ds.length * (n + 2)
  | [], _ => by simp [szs]
  | d :: ds, h => by
    have := szs_le (ds := ds) fun x hx => h x (by simp [hx])
    have h1 := h d (by simp)
    simp only [szs, List.length_cons]
    have : (ds.length + 1) * (n + 2) = ds.length * (n + 2) + (n + 2) := by rw [Nat.add_mul ds.length 1, Nat.one_mul]
    omega
theorem joinA : ∀ (ds : List D), (∀ d ∈ ds, (pyF d).shown.length ≤ sz d) → (Str.join (", " : Str) (ds.map fun d => (pyF d).shown)).length ≤ szs ds
  | [], _ => by show (0 : Nat) ≤ _; omega
  | [x], h => by
    have := h x (by simp)
    show (pyF x).shown.length ≤ _
    simp only [szs]; omega
  | x :: y :: r, h => by
    have ih := joinA (y :: r) fun t ht => h t (by simp at ht ⊢; exact .inr ht)
    have hx := h x (by simp)
    show ((pyF x).shown ++ (", " : Str) ++ Str.join (", " : Str) ((y :: r).map fun d => (pyF d).shown)).length ≤ _
    rw [strLen_append, strLen_append]
    have e : (", " : Str).length = 2 := by decide
    rw [e, szs]
    omega
theorem fromA : ∀ (ds : List D) (k : Nat) (acc : Str), (∀ d ∈ ds, (pyF d).shown.length ≤ sz d) → (textFrom k acc (ds.map fun d => (pyF d).shown)).length ≤ acc.length + szs ds
  | [], k, acc, _ => by show acc.length ≤ _; omega
  | t :: r, k, acc, h => by
    have ih := fromA r (k + 1) (acc ++ (if k > 0 then ", " else "" : String) ++ (pyF t).shown) fun t' ht => h t' (by simp [ht])
    have hx := h t (by simp)
    show (textFrom (k + 1) (acc ++ (if k > 0 then ", " else "" : String) ++ (pyF t).shown) (r.map fun d => (pyF d).shown)).length ≤ _
    rw [strLen_append, strLen_append] at ih
    have e : (PySem.Str.ofString (if k > 0 then ", " else "" : String)).length ≤ 2 := by split <;> decide
    rw [szs]
    omega
theorem shownA : ∀ ds : List D, PyData.shownAll (pyFs ds) = ds.map fun d => (pyF d).shown
  | [] => rfl
  | p :: r => by simp only [pyFs, PyData.shownAll, List.map_cons, shownA r]
theorem rp_pl : ∀ {n : Nat} {d : D}, pl n d = true → (pyF d).showable = true ∧ (pyF d).depth ≤ n ∧ (pyF d).shown.length ≤ sz d
  | n + 1, .non, _ => ⟨rfl, by simp [pyF, PyData.depth], by simp only [pyF, sz]; decide⟩
  | n + 1, .bl b, _ => ⟨rfl, by simp [pyF, PyData.depth], by cases b <;> simp only [pyF, sz] <;> decide⟩
  | n + 1, .int i, h => by
    have h : i.natAbs.log2 < 1920 := of_decide_eq_true h
    refine ⟨by simpa [pyF, PyData.showable] using h, by simp [pyF, PyData.depth], ?_⟩
    have e : (pyF (.int i)).shown = PySem.Str.ofString (toString i) := by simp only [pyF, PyData.shown]
    rw [e]
    exact PyProof.Rows.int_text_len_1921 h
  | n + 1, .str x, h => by
    refine ⟨rfl, by simp [pyF, PyData.depth], ?_⟩
    have e : (pyF (.str x)).shown = reprText x := by simp only [pyF, PyData.shown]
    rw [e]
    have := PySem.StrLaws.reprText_len x (fun c hc => by
      have h : PyData.strOk x = true := h
      simp only [PyData.strOk, Array.all_eq_true'] at h
      have := h c (by simpa using hc)
      have : c < 0x110000 := by simpa using this
      omega)
    simp only [sz]
    omega
  | n + 1, .tup ds, h => by
    rw [pl_tup, List.all_eq_true] at h
    have hs : ∀ d ∈ ds, (pyF d).showable = true ∧ (pyF d).depth ≤ n ∧ (pyF d).shown.length ≤ sz d := fun d hd => rp_pl (h d hd)
    have a : ∀ l : List D, (∀ d ∈ l, (pyF d).showable = true ∧ (pyF d).depth ≤ n ∧ (pyF d).shown.length ≤ sz d) → PyData.showableAll (pyFs l) = true ∧ PyData.depthAll (pyFs l) ≤ n := by
      intro l
      induction l with
      | nil => intro _; exact ⟨rfl, by simp [pyFs, PyData.depthAll]⟩
      | cons d l ih =>
        intro hl
        obtain ⟨a, b⟩ := ih fun x hx => hl x (by simp [hx])
        obtain ⟨c, e, _⟩ := hl d (by simp)
        exact ⟨by simp only [pyFs, PyData.showableAll, c, a, Bool.and_self], by simp only [pyFs, PyData.depthAll]; omega⟩
    obtain ⟨a1, a2⟩ := a ds hs
    refine ⟨by simpa only [pyF, PyData.showable] using a1, by simp only [pyF, PyData.depth]; omega, ?_⟩
    have e : (pyF (.tup ds)).shown = tupleText (PyData.shownAll (pyFs ds)) := by simp only [pyF, PyData.shown]
    rw [e, shownA]
    unfold tupleText
    rw [strLen_append, strLen_append]
    have j := joinA ds fun d hd => (hs d hd).2.2
    have e1 : ("(" : Str).length = 1 := by decide
    have e2 : (PySem.Str.ofString (if (ds.map fun d => (pyF d).shown).length == 1 then ",)" else ")" : String)).length ≤ 2 := by split <;> decide
    simp only [sz]
    omega
  | n + 1, .rol ds, h => by
    rw [pl_rol, List.all_eq_true] at h
    have hs : ∀ d ∈ ds, (pyF d).showable = true ∧ (pyF d).depth ≤ n ∧ (pyF d).shown.length ≤ sz d := fun d hd => rp_pl (h d hd)
    have a : ∀ l : List D, (∀ d ∈ l, (pyF d).showable = true ∧ (pyF d).depth ≤ n ∧ (pyF d).shown.length ≤ sz d) → PyData.showableAll (pyFs l) = true ∧ PyData.depthAll (pyFs l) ≤ n := by
      intro l
      induction l with
      | nil => intro _; exact ⟨rfl, by simp [pyFs, PyData.depthAll]⟩
      | cons d l ih =>
        intro hl
        obtain ⟨a, b⟩ := ih fun x hx => hl x (by simp [hx])
        obtain ⟨c, e, _⟩ := hl d (by simp)
        exact ⟨by simp only [pyFs, PyData.showableAll, c, a, Bool.and_self], by simp only [pyFs, PyData.depthAll]; omega⟩
    obtain ⟨a1, a2⟩ := a ds hs
    refine ⟨by simpa only [pyF, PyData.showable] using a1, by simp only [pyF, PyData.depth]; omega, ?_⟩
    have e : (pyF (.rol ds)).shown = listText (PyData.shownAll (pyFs ds)) := by simp only [pyF, PyData.shown]
    rw [e, shownA]
    unfold listText
    rw [strLen_append]
    have j := fromA ds 0 "[" fun d hd => (hs d hd).2.2
    have e1 : ("[" : Str).length = 1 := by decide
    have e2 : ("]" : Str).length = 1 := by decide
    simp only [sz]
    omega
/-- data that repr tells -/
structure Sh (d : D) : Prop where
  pl : pl 60 d = true
  sz : sz d ≤ 8000000
theorem repr_at {ma : ME} {E : Ev} {C C1 : Hm} {x : D} (h : ma E C = some (x, C1)) (s : Sh x) : mCallB reprD (mCons ma mNil) E C = some (.str (pyF x).shown, C1) := by
  rw [callB_eq (cons_eq h nil_eq)]
  unfold reprD
  obtain ⟨a, b, c⟩ := rp_pl s.pl
  have := s.sz
  have hz : (8000000 : Nat) ≤ sizeLine := by decide
  simp only [py_pl s.pl (show 60 ≤ 70 by omega)]
  rw [if_pos ⟨a, by omega, by omega⟩]
theorem ne_self {s : Str} {C : Hm} : dNe (.str s) (.str s) C = some (.bl false, C) := by
  show some (D.bl (!(s == s)), C) = _
  rw [beq_self_eq_true]; rfl
theorem eq_self {s : Str} {C : Hm} : dEq (.str s) (.str s) C = some (.bl true, C) := by
  show some (D.bl (s == s), C) = _
  rw [beq_self_eq_true]
theorem repr_ne {ma mb : ME} {E : Ev} {C : Hm} {x : D} (h : ma E C = some (x, C)) (h2 : mb E C = some (x, C)) (s : Sh x) : mTest (mBin dNe (mCallB reprD (mCons ma mNil)) (mCallB reprD (mCons mb mNil))) E C = some (false, C) := by
  unfold mTest
  rw [bin_eq (repr_at h s) (repr_at h2 s)]
  rw [ne_self]; rfl
theorem sh_pair {x : D} (p : pl 59 x = true) (h : sz x ≤ 3000000) : Sh (.rol [x, x]) := ⟨by simp [p], by simp only [sz, szs]; omega⟩
end Au
set_option Elab.async false
set_option linter.all false
set_option maxRecDepth 100000
set_option maxHeartbeats 1000000
namespace Au
open PySem L2 Mi
/-- a comprehension whose parts may change the heap -/
theorem lcH {src : MI} {it : Itm} {tg : MG} {tt : MT} {elt : ME} {vs : List Nat} {E : Ev} {C C0 : Hm} {ds : List D} (I : Hm → Prop) (P : D → Prop) (hs : src E C = some (it, ds.length, C0)) (h0 : I C0) (hi : ∀ C, I C → ItC it C ds) (hl : ds.length ≤ sizeLine)
    (hb : ∀ d ∈ ds, ∀ C, I C → ∃ E1 b C1, tg d (wipeE E vs) = some E1 ∧ tt E1 C = some (b, C1) ∧ I C1 ∧ (b = true → We (elt E1 C1) fun x C2 => P x ∧ I C2)) : We (mLcV src tg tt elt vs E C) fun d C' => ∃ l, d = .rol l ∧ (∀ x ∈ l, P x) ∧ l.length ≤ ds.length ∧ I C' := by
  have key : ∀ (n i : Nat) (acc : List D) (C : Hm), i + n = ds.length → acc.length + n ≤ ds.length → (∀ x ∈ acc, P x) → I C → ∃ l C', lcLoop it tg tt elt (wipeE E vs) (n + 1) i acc C = some (l, C') ∧ (∀ x ∈ l, P x) ∧ l.length ≤ ds.length ∧ I C' := by
    intro n
    induction n with
    | zero =>
      intro i acc C e ha hp h
      refine ⟨acc, C, ?_, hp, by omega, h⟩
      unfold lcLoop
      rw [hi C h, List.getElem?_eq_none (by omega)]
      rfl
    | succ n ih =>
      intro i acc C e ha hp h
      have hlt : i < ds.length := by omega
      obtain ⟨E1, b, C1, e1, e2, i1, e3⟩ := hb ds[i] (List.getElem_mem hlt) C h
      unfold lcLoop
      rw [hi C h, List.getElem?_eq_getElem hlt]
      simp only [Option.bind_some]
      rw [e1]
      simp only [Option.bind_some]
      rw [e2]
      simp only [Option.bind_some]
      cases b with
      | true =>
        simp only [if_true]
        obtain ⟨x, C2, e4, px, i2⟩ := (e3 rfl).ex
        rw [e4]
        simp only [Option.bind_some]
        rw [if_pos (by omega)]
        refine ih (i + 1) (acc ++ [x]) C2 (by omega) (by simp; omega) (fun y hy => ?_) i2
        rcases List.mem_append.mp hy with z | z
        · exact hp y z
        · rw [List.mem_singleton.mp z]; exact px
      | false =>
        simp only [Bool.false_eq_true, if_false]
        exact ih (i + 1) acc C1 (by omega) (by omega) hp i1
  obtain ⟨l, C', e, h1, h2, h3⟩ := key ds.length 0 [] C0 (by omega) (by simp) (by simp) h0
  unfold mLcV
  rw [hs]
  simp only [Option.bind_some]
  rw [e]
  exact ⟨l, rfl, h1, h2, h3⟩
/-- while, by a measure -/
theorem wo_while {c : MT} {m : MS} {N : Ev → Hm → Prop} {R : D → Hm → Prop} (I : Nat → Ev → Hm → Prop)
    (hb : ∀ k E C, I k E C → ∃ b C1, c E C = some (b, C1) ∧ (b = true → Wo (m E C1) (fun E2 C2 => ∃ j, j < k ∧ I j E2 C2) R) ∧ (b = false → N E C1)) :
    ∀ (n k : Nat) (E : Ev) (C : Hm), k < n → I k E C → Wo (whLoop c m n E C) N R := by
  intro n
  induction n with
  | zero => intro k E C h; omega
  | succ n ih =>
    intro k E C hk h
    obtain ⟨b, C1, e, h1, h2⟩ := hb k E C h
    unfold whLoop
    rw [e]
    simp only [Option.bind_some]
    cases b with
    | false => exact h2 rfl
    | true =>
      simp only [if_true]
      have w := h1 rfl
      cases q : m E C1 with
      | none => rw [q] at w; exact w.elim
      | some o =>
        rw [q] at w
        cases o with
        | nx E2 C2 =>
          obtain ⟨j, hj, ij⟩ := w
          exact ih j E2 C2 (by omega) ij
        | rt d C2 => exact w
        | bk E2 C2 => exact w.elim
        | ct E2 C2 => exact w.elim
theorem We.bin {op : OD2} {ma mb : ME} {E : Ev} {C : Hm} {Q : D → Hm → Prop} (h : We (ma E C) fun x C1 => We (mb E C1) fun y C2 => We (op x y C2) Q) : We (mBin op ma mb E C) Q := by
  obtain ⟨x, C1, e1, h⟩ := h.ex
  obtain ⟨y, C2, e2, h⟩ := h.ex
  rw [bin_eq e1 e2]; exact h
/-- lists of values -/
def Wa (o : Option (List D × Hm)) (Q : List D → Hm → Prop) : Prop := match o with
  | some (ds, C) => Q ds C
  | none => False
theorem Wa.ex {o : Option (List D × Hm)} {Q : List D → Hm → Prop} (h : Wa o Q) : ∃ d C', o = some (d, C') ∧ Q d C' := by
  cases o with
  | none => exact h.elim
  | some p => exact ⟨p.1, p.2, rfl, h⟩
theorem Wa.nil {E : Ev} {C : Hm} {Q : List D → Hm → Prop} (h : Q [] C) : Wa (mNil E C) Q := h
theorem Wa.cons {me : ME} {ml : MA} {E : Ev} {C : Hm} {Q : List D → Hm → Prop} (h : We (me E C) fun d C1 => Wa (ml E C1) fun ds C2 => Q (d :: ds) C2) : Wa (mCons me ml E C) Q := by
  obtain ⟨d, C1, e1, h⟩ := h.ex
  obtain ⟨ds, C2, e2, h⟩ := h.ex
  rw [cons_eq e1 e2]; exact h
theorem We.tup {ml : MA} {E : Ev} {C : Hm} {Q : D → Hm → Prop} (h : Wa (ml E C) fun ds C1 => ds.length ≤ 1000 ∧ Q (.tup ds) C1) : We (mTup ml E C) Q := by
  obtain ⟨ds, C1, e1, hl, h⟩ := h.ex
  have : (1000 : Nat) ≤ sizeLine := by decide
  rw [tup_eq e1 (by omega)]; exact h
theorem We.callB {op : ODL} {ml : MA} {E : Ev} {C : Hm} {Q : D → Hm → Prop} (h : Wa (ml E C) fun ds C1 => We (op ds C1) Q) : We (mCallB op ml E C) Q := by
  obtain ⟨ds, C1, e1, h⟩ := h.ex
  rw [callB_eq e1]; exact h
theorem We.keep {M : MF} {ml : MA} {E : Ev} {C : Hm} {Q : D → Hm → Prop} (h : Wa (ml E C) fun ds C1 => We (mKeepF (fun _ C => M ds C) E C) fun _ _ => True) : True := trivial
/-- a list of values met -/
theorem src_rol {E : Ev} {C : Hm} {i : Nat} {ds : List D} (h : E[i]? = some (some (.rol ds))) : mIAny (mVar i) E C = some (.seq ds, ds.length, C) := by
  unfold mIAny
  rw [var_eq h]; rfl
theorem src_any {me : ME} {E : Ev} {C C' : Hm} {ds : List D} {d : D} (h : me E C = some (d, C')) (hd : d = .rol ds ∨ d = .tup ds) : mIAny me E C = some (.seq ds, ds.length, C') := by
  unfold mIAny
  rw [h]
  rcases hd with rfl | rfl <;> rfl
theorem rng1 {n : Nat} {C : Hm} (hn : n ≤ 1000000) : iRng1D [.int (n : Int)] C = some (.seq (rngD 0 n), n, C) := by
  have p62 : (1000000 : Int) < 2 ^ 62 := by decide +kernel
  have m62 : -(2 ^ 62 : Int) ≤ 0 := by decide +kernel
  have c1 : -(2 ^ 62 : Int) ≤ (n : Int) := Int.le_trans m62 (Int.natCast_nonneg n)
  have c2 : (n : Int) < 2 ^ 62 := Int.lt_of_le_of_lt (by omega) p62
  unfold iRng1D
  exact (if_pos ⟨c1, c2⟩).trans (by rw [Int.toNat_natCast])
theorem src_rng {ml : MA} {E : Ev} {C C' : Hm} {n : Nat} (h : ml E C = some ([.int (n : Int)], C')) (hn : n ≤ 1000000) : mIRng1 ml E C = some (.seq (rngD 0 n), n, C') := by
  unfold mIRng1
  rw [h, Option.bind_some, rng1 hn]
theorem rngD_len {lo : Int} {n : Nat} : (rngD lo n).length = n := by simp [rngD]
theorem lst_eq {ml : MA} {E : Ev} {C C1 : Hm} {ds : List D} (h : ml E C = some (ds, C1)) (hl : ds.length ≤ sizeLine := by first | decide | (simp; decide)) : mLst ml E C = some (.cell C1.length, C1 ++ [.lst ds]) := by unfold mLst; rw [h]; exact if_pos hl
/-- a displayed list, locked -/
theorem lstF {ml : MA} {E : Ev} {C : Hm} {ds : List D} (W : WB C) (h : ml E C = some (ds, C)) (b : ∀ d ∈ ds, d.bnd C.length = true) (hl : ds.length ≤ sizeLine := by first | decide | (simp; decide)) : mFrz (mLst ml) E C = some (.rol ds, C) := frz_new W (lst_eq h hl) (bnds_of b)
theorem nilF {E : Ev} {C : Hm} (W : WB C) : mFrz (mLst mNil) E C = some (.rol [], C) := lstF W nil_eq (by simp)
/-- over numbers -/
theorem wo_rng1 {N : Ev → Hm → Prop} {R : D → Hm → Prop} {ml : MA} {it : Itm} {tg : MG} {ds : List D} {m : MS} {E : Ev} {C C' : Hm} (I : Nat → Ev → Hm → Prop) (hs : mIRng1 ml E C = some (it, ds.length, C')) (h0 : I 0 E C') (hi : ∀ i E C, I i E C → it.at C i = some ds[i]?)
    (hb : ∀ (i : Nat) (d : D) (E : Ev) (C : Hm), ds[i]? = some d → I i E C → ∃ E1, tg d E = some E1 ∧ Wo (m E1 C) (I (i + 1)) R) (hN : ∀ E C, I ds.length E C → N E C) : Wo (mFor (mIRng1 ml) tg m E C) N R := wo_for I hs h0 hi hb hN
theorem wo_rng2 {N : Ev → Hm → Prop} {R : D → Hm → Prop} {ml : MA} {it : Itm} {tg : MG} {ds : List D} {m : MS} {E : Ev} {C C' : Hm} (I : Nat → Ev → Hm → Prop) (hs : mIRng2 ml E C = some (it, ds.length, C')) (h0 : I 0 E C') (hi : ∀ i E C, I i E C → it.at C i = some ds[i]?)
    (hb : ∀ (i : Nat) (d : D) (E : Ev) (C : Hm), ds[i]? = some d → I i E C → ∃ E1, tg d E = some E1 ∧ Wo (m E1 C) (I (i + 1)) R) (hN : ∀ E C, I ds.length E C → N E C) : Wo (mFor (mIRng2 ml) tg m E C) N R := wo_for I hs h0 hi hb hN
end Au
set_option Elab.async false
set_option linter.all false
set_option maxRecDepth 100000
set_option maxHeartbeats 1000000
namespace Au
open PySem L2 Mi
/-! ## {int: True for ..} -/
theorem putD_mem {kvs : List (Key × D)} {k : Key} {v : D} {q : Key × D} (h : q ∈ putD kvs k v) : q = (k, v) ∨ q ∈ kvs ∨ ∃ z ∈ kvs, z.1 = k ∧ q = (z.1, v) := by
  unfold putD at h
  split at h
  · obtain ⟨z, hz, rfl⟩ := List.mem_map.mp h
    by_cases e : z.1 = k
    · rw [if_pos e]; exact .inr (.inr ⟨z, hz, e, rfl⟩)
    · rw [if_neg e]; exact .inr (.inl hz)
  · rcases List.mem_append.mp h with z | z
    · exact .inr (.inl z)
    · exact .inl (List.mem_singleton.mp z)
theorem putD_has {kvs : List (Key × D)} {k j : Key} {v : D} : (∃ q ∈ putD kvs k v, q.1 = j) ↔ (j = k ∨ ∃ q ∈ kvs, q.1 = j) := by
  unfold putD
  split
  · rename_i hs
    have hk : ∃ q ∈ kvs, q.1 = k := by
      unfold valD at hs
      rw [Option.isSome_map, List.find?_isSome] at hs
      obtain ⟨q, h1, h2⟩ := hs
      exact ⟨q, h1, of_decide_eq_true h2⟩
    constructor
    · rintro ⟨q, hq, rfl⟩
      obtain ⟨z, hz, rfl⟩ := List.mem_map.mp hq
      by_cases e : z.1 = k
      · rw [if_pos e]; exact .inr ⟨z, hz, rfl⟩
      · rw [if_neg e]; exact .inr ⟨z, hz, rfl⟩
    · have key : (∃ q ∈ kvs, q.1 = j) → ∃ q ∈ kvs.map (fun kv => if kv.1 = k then (kv.1, v) else kv), q.1 = j := fun ⟨q, hq, e⟩ => by
        refine ⟨_, List.mem_map.mpr ⟨q, hq, rfl⟩, ?_⟩
        by_cases z : q.1 = k
        · rw [if_pos z]; exact e
        · rw [if_neg z]; exact e
      rintro (rfl | h)
      · exact key hk
      · exact key h
  · constructor
    · rintro ⟨q, hq, rfl⟩
      rcases List.mem_append.mp hq with z | z
      · exact .inr ⟨q, z, rfl⟩
      · rw [List.mem_singleton.mp z]; exact .inl rfl
    · rintro (rfl | ⟨q, hq, e⟩)
      · exact ⟨(j, v), by simp, rfl⟩
      · exact ⟨q, List.mem_append_left _ hq, e⟩
theorem putD_len {kvs : List (Key × D)} {k : Key} {v : D} : (putD kvs k v).length ≤ kvs.length + 1 := by
  unfold putD
  split <;> simp
theorem dc_ints {α : Type} {enc : α → D} {src : MI} {tg : MG} {tt : MT} {mk mv : ME} {vs : List Nat} {E : Ev} {C : Hm} {xs : List α} (p : α → Bool) (kf : α → Int) (hs : src E C = some (.seq (xs.map enc), xs.length, C)) (hl : xs.length ≤ sizeLine)
    (hb : ∀ x ∈ xs, ∃ E1, tg (enc x) (wipeE E vs) = some E1 ∧ tt E1 C = some (p x, C) ∧ (p x = true → mk E1 C = some (.int (kf x), C) ∧ mv E1 C = some (.bl true, C))) :
    ∃ kvs : List (MD.MK × D), mDc src tg tt mk mv vs E C = some (.cell C.length, C ++ [.dix kvs]) ∧ (∀ k : Int, hasM kvs (.i k) = decide (k ∈ (xs.filter p).map kf)) ∧ ∀ q ∈ kvs, q.2 = .bl true := by
  have key : ∀ (n i : Nat) (acc : List (Key × D)), i + n = xs.length → acc.length + n ≤ sizeLine → (∀ q ∈ acc, isI q.1 = true ∧ q.2 = .bl true) →
      ∃ r, dcLoop (.seq (xs.map enc)) tg tt mk mv (wipeE E vs) (n + 1) i acc C = some (r, C) ∧ (∀ q ∈ r, isI q.1 = true ∧ q.2 = .bl true) ∧ ∀ k : Int, (∃ q ∈ r, q.1 = .inl k) ↔ ((∃ q ∈ acc, q.1 = .inl k) ∨ k ∈ ((xs.drop i).filter p).map kf) := by
    intro n
    induction n with
    | zero =>
      intro i acc e _ ha
      refine ⟨acc, ?_, ha, fun k => ?_⟩
      · unfold dcLoop
        rw [show Itm.at (.seq (xs.map enc)) C i = some none from by simp only [Itm.at]; rw [List.getElem?_eq_none (by simp; omega)]]
        rfl
      · rw [List.drop_eq_nil_of_le (by omega)]; simp
    | succ n ih =>
      intro i acc e hl2 ha
      have h : i < xs.length := by omega
      obtain ⟨E1, e1, e2, e3⟩ := hb xs[i] (List.getElem_mem h)
      unfold dcLoop
      rw [show Itm.at (.seq (xs.map enc)) C i = some (some (enc xs[i])) from by simp only [Itm.at]; rw [List.getElem?_map, List.getElem?_eq_getElem h]; rfl]
      simp only [Option.bind_some]
      rw [e1]
      simp only [Option.bind_some]
      rw [e2]
      simp only [Option.bind_some]
      rw [List.drop_eq_getElem_cons h, List.filter_cons]
      cases q : p xs[i] with
      | true =>
        obtain ⟨m1, m2⟩ := e3 q
        simp only [if_true]
        rw [m1]
        simp only [Option.bind_some, keyD]
        rw [m2]
        simp only [Option.bind_some]
        rw [if_pos (by omega)]
        have pl := @putD_len acc (.inl (kf xs[i])) (.bl true)
        obtain ⟨r, r1, r2, r3⟩ := ih (i + 1) (putD acc (.inl (kf xs[i])) (.bl true)) (by omega) (by omega) (fun z hz => by
          rcases putD_mem hz with rfl | hz | ⟨y, hy, e, rfl⟩
          · exact ⟨rfl, rfl⟩
          · exact ha z hz
          · exact ⟨(ha y hy).1, rfl⟩)
        refine ⟨r, r1, r2, fun k => ?_⟩
        rw [r3 k, putD_has]
        simp only [List.map_cons, List.mem_cons]
        constructor
        · rintro ((h | h) | h)
          · cases h; exact .inr (.inl rfl)
          · exact .inl h
          · exact .inr (.inr h)
        · rintro (h | h | h)
          · exact .inl (.inr h)
          · exact .inl (.inl (by rw [h]))
          · exact .inr h
      | false =>
        simp only [Bool.false_eq_true, if_false]
        exact ih (i + 1) acc (by omega) (by omega) ha
  obtain ⟨r, r1, r2, r3⟩ := key xs.length 0 [] (by omega) (by simpa using hl) (by simp)
  refine ⟨r.map fun q => (mkI q.1, q.2), ?_, fun k => ?_, fun q hq => ?_⟩
  · unfold mDc
    rw [hs]
    simp only [Option.bind_some]
    rw [r1]
    simp only [Option.bind_some]
    rw [if_pos (List.all_eq_true.mpr fun q hq => (r2 q hq).1)]
  · rw [Bool.eq_iff_iff, decide_eq_true_iff]
    unfold hasM
    rw [List.any_map, List.any_eq_true]
    have z := r3 k
    rw [List.drop_zero] at z
    simp only [List.not_mem_nil, false_and, exists_false, false_or] at z
    rw [← z]
    constructor
    · rintro ⟨q, hq, e⟩
      refine ⟨q, hq, ?_⟩
      have e := of_decide_eq_true e
      have i1 := (r2 q hq).1
      cases hh : q.1 with
      | inl j =>
        simp only [hh, mkI] at e
        cases e; rfl
      | inr s => rw [hh] at i1; cases i1
    · rintro ⟨q, hq, e⟩
      exact ⟨q, hq, by simp [e, mkI]⟩
  · obtain ⟨z, hz, rfl⟩ := List.mem_map.mp hq
    exact (r2 z hz).2
theorem in_dix {neg : Bool} {C : Hm} {n : Nat} {kvs : List (MD.MK × D)} {k : Int} (h : C[n]? = some (.dix kvs)) : inX neg (.int k) (.cell n) C = some (.bl (if neg = true then !hasM kvs (.i k) else hasM kvs (.i k)), C) := by
  unfold inX mixOf
  simp only [h]
  rfl
/-! ## sorted({text for ..}) -/
theorem sc1_eq {α : Type} {enc : α → D} {src : MI} {tg : MG} {tt : MT} {elt : ME} {vs : List Nat} {E : Ev} {C : Hm} {xs : List α} (p : α → Bool) (g : α → Str) (hs : src E C = some (.seq (xs.map enc), xs.length, C)) (hl : xs.length ≤ 60)
    (hb : ∀ x ∈ xs, ∃ E1, tg (enc x) (wipeE E vs) = some E1 ∧ tt E1 C = some (p x, C) ∧ (p x = true → elt E1 C = some (.str (g x), C))) : mSrtSc1 src tg tt elt vs E C = some (.cell C.length, C ++ [.lst ((setS ((xs.filter p).map g)).map D.str)]) := by
  have key : ∀ (n i : Nat) (acc : List Str), i + n = xs.length → acc.length + n ≤ 60 → scT (.seq (xs.map enc)) tg tt elt (wipeE E vs) (n + 1) i acc C = some (acc ++ ((xs.drop i).filter p).map g, C) := by
    intro n
    induction n with
    | zero =>
      intro i acc e _
      unfold scT
      rw [show Itm.at (.seq (xs.map enc)) C i = some none from by simp only [Itm.at]; rw [List.getElem?_eq_none (by simp; omega)]]
      simp only [Option.bind_some]
      rw [List.drop_eq_nil_of_le (by omega)]
      simp
    | succ n ih =>
      intro i acc e hl2
      have h : i < xs.length := by omega
      obtain ⟨E1, e1, e2, e3⟩ := hb xs[i] (List.getElem_mem h)
      unfold scT
      rw [show Itm.at (.seq (xs.map enc)) C i = some (some (enc xs[i])) from by simp only [Itm.at]; rw [List.getElem?_map, List.getElem?_eq_getElem h]; rfl]
      simp only [Option.bind_some]
      rw [e1]
      simp only [Option.bind_some]
      rw [e2]
      simp only [Option.bind_some]
      rw [List.drop_eq_getElem_cons h, List.filter_cons]
      cases q : p xs[i] with
      | true =>
        simp only [if_true]
        rw [e3 q]
        simp only [Option.bind_some]
        rw [if_pos (by omega), ih (i + 1) _ (by omega) (by simp; omega)]
        simp
      | false =>
        simp only [Bool.false_eq_true, if_false]
        exact ih (i + 1) acc (by omega) (by omega)
  unfold mSrtSc1
  rw [hs]
  simp only [Option.bind_some]
  rw [key xs.length 0 [] (by omega) (by simpa using hl)]
  simp only [Option.bind_some, List.nil_append, List.drop_zero]
  have : ((xs.filter p).map g).length ≤ xs.length := by rw [List.length_map]; exact List.length_filter_le _ _
  rw [if_pos (by omega)]
theorem intsOf_ints (l : List Int) : intsOf (l.map D.int) = some l := by
  induction l with
  | nil => rfl
  | cons a l ih =>
    show (intsOf (l.map D.int)).map (a :: ·) = _
    rw [ih]; rfl
theorem strsOf_strs (l : List Str) : strsOf (l.map D.str) = some l := by
  induction l with
  | nil => rfl
  | cons a l ih =>
    show (strsOf (l.map D.str)).map (a :: ·) = _
    rw [ih]; rfl
theorem ints_b {k : Nat} (l : List Int) : bnds k (l.map D.int) = true := bnds_of fun d hd => by obtain ⟨i, _, rfl⟩ := List.mem_map.mp hd; rfl
theorem strs_b {k : Nat} (l : List Str) : bnds k (l.map D.str) = true := bnds_of fun d hd => by obtain ⟨i, _, rfl⟩ := List.mem_map.mp hd; rfl
/-- sorted(set(a list of ints)) -/
theorem srtSetF {me : ME} {E : Ev} {C : Hm} {l : List Int} (W : WB C) (h : me E C = some (.rol (l.map .int), C)) (hl : l.length < 63) : mFrz (mSrtSet me) E C = some (.rol ((dedup (sortI l)).map .int), C) := by
  refine frz_new W ?_ (ints_b _)
  unfold mSrtSet
  rw [h]
  simp only [Option.bind_some, seqOf, intsOf_ints]
  rw [if_pos hl]
/-- sorted(set(a list of texts)) -/
theorem srtSetT {me : ME} {E : Ev} {C : Hm} {l : List Str} (W : WB C) (h : me E C = some (.rol (l.map .str), C)) (hl : l.length < 63) : mFrz (mSrtSetA me) E C = some (.rol ((setS l).map .str), C) := by
  refine frz_new W ?_ (strs_b _)
  unfold mSrtSetA
  rw [h]
  simp only [Option.bind_some, lstOf]
  cases l with
  | nil =>
    have e1 : sortI [] = [] := (sortI_perm []).eq_nil
    have e2 : setS [] = [] := (srtS_perm []).eq_nil
    rw [show intsOf (List.map D.str []) = some [] from rfl, e2]
    simp only [List.length_nil]
    rw [if_pos (by decide), e1]
    rfl
  | cons a l =>
    rw [show intsOf ((a :: l).map D.str) = none from rfl]
    simp only [strsOf_strs, Option.bind_some]
    rw [if_pos hl]
/-- sorted(a list of texts) -/
theorem srtF {ml : MA} {E : Ev} {C : Hm} {l : List Str} (W : WB C) (h : ml E C = some ([.rol (l.map .str)], C)) : mFrz (mCallB sortedDT ml) E C = some (.rol ((srtS l).map .str), C) := by
  refine frz_new W ?_ (strs_b _)
  rw [callB_eq h]
  unfold sortedDT
  simp only [lstOf, strsOf_strs]
/-- list + list -/
theorem addF {ma mb : ME} {E : Ev} {C : Hm} {a b : List D} (W : WB C) (h1 : ma E C = some (.rol a, C)) (h2 : mb E C = some (.rol b, C)) (ba : bnds C.length a = true) (bb : bnds C.length b = true) (hl : a.length + b.length ≤ sizeLine) : mFrz (mBin addD ma mb) E C = some (.rol (a ++ b), C) := by
  refine frz_new W ?_ (bnds_of fun d hd => ?_)
  · rw [bin_eq h1 h2]
    unfold addD
    simp only [lstOf]
    rw [if_pos hl]
  · have key : ∀ l : List D, bnds C.length l = true → ∀ d ∈ l, d.bnd C.length = true := by
      intro l
      induction l with
      | nil => intro _ d hd; cases hd
      | cons x l ih =>
        intro h d hd
        simp only [bnds, Bool.and_eq_true] at h
        rcases List.mem_cons.mp hd with rfl | hd
        · exact h.1
        · exact ih h.2 d hd
    rcases List.mem_append.mp hd with z | z
    · exact key a ba d z
    · exact key b bb d z
end Au
set_option Elab.async false
set_option linter.all false
set_option maxRecDepth 100000
set_option maxHeartbeats 1000000
namespace Au
open PySem L2 Mi
/-! ## what may raise -/
def Wx (o : Option OX) (N : Ev → Hm → Prop) (X : Nat → D → Hm → Prop) : Prop := match o with
  | some (.o (.nx E C)) => N E C
  | some (.ex c d C) => X c d C
  | _ => False
theorem wx_for {src : MI} {it : Itm} {tg : MG} {ds : List D} {m : MSX} {E : Ev} {C C' : Hm} {N : Ev → Hm → Prop} {X : Nat → D → Hm → Prop} (I : Nat → Ev → Hm → Prop) (hs : src E C = some (it, ds.length, C')) (h0 : I 0 E C') (hi : ∀ i E C, I i E C → it.at C i = some ds[i]?)
    (hb : ∀ (i : Nat) (d : D) (E : Ev) (C : Hm), ds[i]? = some d → I i E C → ∃ E1, tg d E = some E1 ∧ Wx (m E1 C) (I (i + 1)) X) (hN : ∀ E C, I ds.length E C → N E C) : Wx (mForX src tg m E C) N X := by
  unfold mForX
  rw [hs]
  simp only [Option.bind_some]
  have key : ∀ (n i : Nat) (E : Ev) (C : Hm), i + n = ds.length → I i E C → Wx (forLoopX it tg m (n + 1) i E C) N X := by
    intro n
    induction n with
    | zero =>
      intro i E C e h
      unfold forLoopX
      rw [hi i E C h, List.getElem?_eq_none (by omega)]
      have : i = ds.length := by omega
      subst this
      exact hN E C h
    | succ n ih =>
      intro i E C e h
      have hlt : i < ds.length := by omega
      unfold forLoopX
      rw [hi i E C h, List.getElem?_eq_getElem hlt]
      simp only [Option.bind_some]
      obtain ⟨E1, e1, w⟩ := hb i _ E C (List.getElem?_eq_getElem hlt) h
      rw [e1]
      simp only [Option.bind_some]
      cases q : m E1 C with
      | none => rw [q] at w; exact w.elim
      | some o =>
        rw [q] at w
        cases o with
        | ex c d C2 => exact w
        | o x =>
          cases x with
          | nx E2 C2 => exact ih (i + 1) E2 C2 (by omega) w
          | rt d C2 => exact w.elim
          | bk E2 C2 => exact w.elim
          | ct E2 C2 => exact w.elim
  exact key ds.length 0 E C' (by omega) h0
theorem ifX_eq {mt : MT} {m n : MSX} {E : Ev} {C C' : Hm} {b : Bool} (h : mt E C = some (b, C')) : mIfX mt m n E C = if b = true then m E C' else n E C' := by unfold mIfX; rw [h]; rfl
theorem wx_if {mt : MT} {m n : MSX} {E : Ev} {C C' : Hm} {b : Bool} {N : Ev → Hm → Prop} {X : Nat → D → Hm → Prop} (h : mt E C = some (b, C')) (h1 : b = true → Wx (m E C') N X) (h2 : b = false → Wx (n E C') N X) : Wx (mIfX mt m n E C) N X := by
  rw [ifX_eq h]
  cases b with
  | true => exact h1 rfl
  | false => exact h2 rfl
theorem raise_eq {c : Nat} {m : ME} {E : Ev} {C C' : Hm} {d : D} (h : m E C = some (d, C')) : mRaise c m E C = some (.ex c d C') := by unfold mRaise; rw [h]; rfl
theorem fnx_ex {n N c : Nat} {body : MSX} {ds : List D} {C C' : Hm} {d : D} (hl : ds.length = n) (h : body (ds.map some ++ List.replicate (N - n) none) C = some (.ex c d C')) : mFnX n N body ds C = some (.ex c d C') := by
  unfold mFnX
  rw [if_pos hl, h]; rfl
theorem fnx_nx {n N : Nat} {body : MSX} {ds : List D} {C C' : Hm} {E' : Ev} (hl : ds.length = n) (h : body (ds.map some ++ List.replicate (N - n) none) C = some (.o (.nx E' C'))) : mFnX n N body ds C = some (.ok .non C') := by
  unfold mFnX
  rw [if_pos hl, h]; rfl
theorem seqx_ex {m n : MSX} {E : Ev} {C C' : Hm} {c : Nat} {d : D} (h : m E C = some (.ex c d C')) : mSeqX m n E C = some (.ex c d C') := by unfold mSeqX; rw [h]; rfl
theorem seqx_nx {m n : MSX} {E E' : Ev} {C C' : Hm} (h : m E C = some (.o (.nx E' C'))) : mSeqX m n E C = n E' C' := by unfold mSeqX; rw [h]; rfl
theorem dropx_ex {m : MEX} {E : Ev} {C C' : Hm} {c : Nat} {d : D} (h : m E C = some (.ex c d C')) : mDropX m E C = some (.ex c d C') := by unfold mDropX; rw [h]; rfl
theorem dropx_ok {m : MEX} {E : Ev} {C C' : Hm} {d : D} (h : m E C = some (.ok d C')) : mDropX m E C = some (.o (.nx E C')) := by unfold mDropX; rw [h]; rfl
theorem cut_id {C : Hm} {d : D} (W : WB C) (b : d.bnd C.length = true) : cutC C.length (d, C) = some (d, C) := by
  unfold cutC
  rw [List.take_length, if_pos ⟨b, List.all_eq_true.mpr W⟩]
theorem keepX_ex {X : MFX} {ml : MA} {E : Ev} {C : Hm} {c : Nat} {d : D} {ds : List D} (W : WB C) (he : ml E C = some (ds, C)) (h : X ds C = some (.ex c d C)) (b : d.bnd C.length = true) : mKeepX (mCallX X ml) E C = some (.ex c d C) := by
  unfold mKeepX mCallX
  rw [he]
  simp only [Option.bind_some]
  rw [h]
  simp only [Option.bind_some, cutX, cut_id W b]; rfl
theorem keepX_ok {X : MFX} {ml : MA} {E : Ev} {C : Hm} {d : D} {ds : List D} (W : WB C) (he : ml E C = some (ds, C)) (h : X ds C = some (.ok d C)) (b : d.bnd C.length = true) : mKeepX (mCallX X ml) E C = some (.ok d C) := by
  unfold mKeepX mCallX
  rw [he]
  simp only [Option.bind_some]
  rw [h]
  simp only [Option.bind_some, cutX, cut_id W b]; rfl
/-- a lambda's outcome, kept apart -/
theorem lam_eq {m : MEX} {E : Ev} {C : Hm} {r : RX} {d : D} {out : RO} (W : WB C) (hT : C[0]? = some (.tab 0)) (h : m E C = some r) (ho : out r = some (d, C)) (b : d.bnd C.length = true) : mKeep (mLam 0 0 out m) E C = some (d, C) := by
  have e : mLam 0 0 out m E C = some (d, C) := by
    unfold mLam
    simp only [hT, if_true]
    rw [h]
    exact ho
  unfold mKeep
  rw [e]
  simp only [Option.bind_some, cut_id W b]
/-- repr of a list that is being made -/
theorem repr_cell {ma : ME} {E : Ev} {C C1 : Hm} {n : Nat} {ds : List D} (h : ma E C = some (.cell n, C1)) (hc : C1[n]? = some (.lst ds)) (s : Sh (.rol ds)) : mCallB reprD (mCons ma mNil) E C = some (.str (pyF (.rol ds)).shown, C1) := by
  rw [callB_eq (cons_eq h nil_eq)]
  obtain ⟨a, b, c⟩ := rp_pl s.pl
  have := s.sz
  have hz : (8000000 : Nat) ≤ sizeLine := by decide
  have p : py C1 70 (.cell n) = some (pyF (.rol ds)) := by
    have z := s.pl
    rw [pl_rol, List.all_eq_true] at z
    unfold py
    simp only [hc]
    rw [mapM_all fun d hd => py_pl (z d hd) (by omega), pyF, pyFs_map]; rfl
  unfold reprD
  simp only [p]
  rw [if_pos ⟨a, by omega, by omega⟩]
end Au
set_option Elab.async false
set_option linter.all false
set_option maxRecDepth 100000
set_option maxHeartbeats 4000000
namespace G
open PySem PySem.Spec PyProof.Rows L2 Mi
/-! ## _law_said -/
abbrev N_sd : List Str := ["_law_ask", "_law_found", "e", "_law_kinds"]
theorem scope_sd : FnScope N_sd ["_law_ask"] (defScope S_law_said) := ⟨rfl, rfl, rfl, by decide +kernel, rfl, by decide +kernel, by decide +kernel⟩
def gSd {K : PySem.W.Frag} {mg : Str → Option Value} {g : Addr} {oc kV doc pm cd ct : Value} {od an : Option Addr} {osl : Array (Option Value)} (hm : mg "_law_said" = some (.ref g)) (hk : PySem.W.keepIn K (.ref g) = true)
    (lk : K.lookup g = some ⟨oc, od, .func (PySem.W.fnOf "_law_said" "_law_said" (defArgs S_law_said) (defBody S_law_said) (defScope S_law_said) .none kV doc pm an cd ct), osl⟩) (hc : PySem.W.codeIn K cd "_law_said" = true)
    (hb : L2.Binds K (PySem.W.fnOf "_law_said" "_law_said" (defArgs S_law_said) (defBody S_law_said) (defScope S_law_said) .none kV doc pm an cd ct) ["_law_ask"] []) : GiverT K mg "_law_said" :=
  { g := g, pg := _, bg := defBody S_law_said, sg := defScope S_law_said, a := "_law_ask", Ng := N_sd, oc := oc, kV := kV, doc := doc, pm := pm, cd := cd, ct := ct, od := od, an := an, osl := osl, hm := hm, hk := hk, lk := lk, hc := hc, hb := hb, S := scope_sd, hN := rfl, hv := Or.inl rfl, hd := by decide, hcd := by decide }
/-- what is known of the classes: an error C with the field f -/
structure ErC (K : PySem.W.Frag) (cS cPE cDE cTE cI cU C : Addr) (f : Str) (bI bU : Bool) : Prop where
  L : Held K C
  no : PySem.W.findIn K (.ref C) f = some none
  ex : PySem.W.exmOne K (.ref C) (.ref cS) = some true
  kPE : PySem.W.kitOne K (.ref C) (.ref cPE) = some false
  kDE : PySem.W.kitOne K (.ref C) (.ref cDE) = some true
  kTE : PySem.W.kitOne K (.ref C) (.ref cTE) = some false
  kI : PySem.W.kitOne K (.ref C) (.ref cI) = some bI
  kU : PySem.W.kitOne K (.ref C) (.ref cU) = some bU
structure SdC (K : PySem.W.Frag) (mg : Str → Option Value) (ft : Cfg) where
  cS : Addr
  cPE : Addr
  cDE : Addr
  cTE : Addr
  cI : Addr
  cU : Addr
  gS : mg "ShelfError" = some (.ref cS)
  gPE : mg "PaperError" = some (.ref cPE)
  gDE : mg "DeedError" = some (.ref cDE)
  gTE : mg "TextError" = some (.ref cTE)
  gI : mg "InvalidMoment" = some (.ref cI)
  gU : mg "UnknownHolder" = some (.ref cU)
  zi : mg "isinstance" = none
  hU : ft.exc 0 = (cU, ("holder" : Str))
  hI : ft.exc 1 = (cI, ("moment" : Str))
  eU : ErC K cS cPE cDE cTE cI cU cU "holder" false true
  eI : ErC K cS cPE cDE cTE cI cU cI "moment" true false
theorem bls {K : PySem.W.Frag} {H : Hp} {p : Addr} {l : List Bool} (h : H p = some (.lst (l.map V.bl))) : Dp K H (.ref p) (.list (l.map PyData.bool)) := by
  have all : ∀ l : List Bool, DpAll K H (l.map V.bl) (l.map PyData.bool) := fun l => by
    induction l with
    | nil => exact .nil
    | cons b l ih => exact .cons (.bl b) ih
  exact .lst (SqL.of h) (all l)
/-! the suite's reading -/
abbrev iE (K : PySem.W.Frag) (cU cI a : Addr) (cls : Value) (d : Option Addr) (te : TE) : TE := tCB (fun xs H Q => (cls = .ref cU ∧ (∀ dd, d = some dd → ∃ fs, H dd = some (.xd fs)) ∧ rHeld K cU a xs H Q) ∨ (cls = .ref cI ∧ (∀ dd, d = some dd → ∃ fs, H dd = some (.xd fs)) ∧ rHeld K cI a xs H Q)) (tCons (tVar 2) (tCons te tNil))
abbrev l3 (t u v : TE) : TE := tLst (tCons t (tCons u (tCons v tNil)))
abbrev b3 (x y z : Bool) : TE := l3 (tC (.bl x)) (tC (.bl y)) (tC (.bl z))
abbrev isK (K : PySem.W.Frag) (cU cI a : Addr) (cls : Value) (d : Option Addr) (c : Addr) : TT := tAnd (tTest (tOp (rEqD K) (tVar 3) (b3 false true false))) (tB (iE K cU cI a cls d (tC (.ref c))))
abbrev tsSd (K : PySem.W.Frag) (cPE cDE cTE cI cU : Addr) (a : Addr) (cls : Value) (d : Option Addr) : TS :=
  let I := fun c => iE K cU cI a cls d (tC (.ref c))
  tSeq (tAsg (l3 (I cPE) (I cDE) (I cTE)) (gName 3))
  (tSeq (tIfS (isK K cU cI a cls d cI) (tAsg (tTup (tCons (tC (.str "moment")) (tCons (tXf a cls d cI "moment" (tVar 2)) tNil))) (gName 1)) tNext)
  (tIfS (isK K cU cI a cls d cU) (tAsg (tTup (tCons (tC (.str "holder")) (tCons (tXf a cls d cU "holder" (tVar 2)) tNil))) (gName 1)) tNext))
/-! how the heap grows beside the cells -/
def Gr (H H2 : Hp) : Prop := (∀ b o, H b = some o → H2 b = some o) ∧ ∀ (K : PySem.W.Frag) (ft : Cfg) (ρ : List Addr) (C : Hm), Rel K ft ρ H C → Rel K ft ρ H2 C ∧ Stp ρ H ρ H2
theorem Gr.refl {H : Hp} : Gr H H := ⟨fun _ _ h => h, fun _ _ _ _ R => ⟨R, .refl⟩⟩
theorem Gr.fresh {H H2 : Hp} (g : Gr H H2) {p : Addr} {o : HO} (hp : H2 p = none) : Gr H (upd H2 p o) :=
  ⟨fun b u h => by rw [upd_ne (ne_of_none (g.1 b u h) hp)]; exact g.1 b u h, fun K ft ρ C R => let ⟨R2, s2⟩ := g.2 K ft ρ C R; ⟨R2.fresh hp, s2.trans (Stp.fresh hp)⟩⟩
section
variable {K : PySem.W.Frag} {cU cI C a dd : Addr} {σ : L2.St} {H H0 : Hp} {Q : VK} {v : V} {f : Str}
theorem iE_run {b : Bool} {cv : V} {u : Value} (hC : C = cU ∨ C = cI) (h2 : σ[2]? = some (some (.ref a))) (hd : H dd = some (.xd [(f, v)])) (k : PySem.W.kitOne K (.ref C) u = some b) (cl : ClsV cv u) (q : Q (.bl b) H) : iE K cU cI a (.ref C) (some dd) (tC cv) σ H Q := by
  refine ⟨_, h2, ?_⟩
  rcases hC with rfl | rfl
  · exact .inl ⟨rfl, fun e z => by cases z; exact ⟨_, hd⟩, .inl ⟨_, _, b, rfl, cl, k, q⟩⟩
  · exact .inr ⟨rfl, fun e z => by cases z; exact ⟨_, hd⟩, .inl ⟨_, _, b, rfl, cl, k, q⟩⟩
theorem l3_run {b1 b2 b3 : Bool} {c1 c2 c3 : Addr} (hC : C = cU ∨ C = cI) (h2 : σ[2]? = some (some (.ref a))) (hd : H dd = some (.xd [(f, v)])) (k1 : PySem.W.kitOne K (.ref C) (.ref c1) = some b1) (k2 : PySem.W.kitOne K (.ref C) (.ref c2) = some b2) (k3 : PySem.W.kitOne K (.ref C) (.ref c3) = some b3)
    (q : ∀ p, H p = none → Q (.ref p) (upd H p (.lst ([b1, b2, b3].map V.bl)))) : l3 (iE K cU cI a (.ref C) (some dd) (tC (.ref c1))) (iE K cU cI a (.ref C) (some dd) (tC (.ref c2))) (iE K cU cI a (.ref C) (some dd) (tC (.ref c3))) σ H Q := by
  show iE K cU cI a (.ref C) (some dd) (tC (.ref c1)) σ H _
  refine iE_run hC h2 hd k1 (.own _) ?_
  show iE K cU cI a (.ref C) (some dd) (tC (.ref c2)) σ H _
  refine iE_run hC h2 hd k2 (.own _) ?_
  show iE K cU cI a (.ref C) (some dd) (tC (.ref c3)) σ H _
  refine iE_run hC h2 hd k3 (.own _) ?_
  exact ⟨by show 3 ≤ sizeLine; rw [sizeLine_eq]; decide, q⟩
theorem sh3 (x y z : Bool) : SeqAt.shaped (.list ([x, y, z].map PyData.bool)) = true := by cases x <;> cases y <;> cases z <;> decide
theorem is1_run {x y z : Bool} {l : List Bool} {i : Nat} {p3 : Addr} (hl : SeqAt.shaped (.list (l.map PyData.bool)) = true) {Q : Bool → Hp → Prop} (h3 : σ[i]? = some (some (.ref p3))) (e3 : H p3 = some (.lst (l.map V.bl))) {b : Bool}
    (hb : PyData.eqv (.list (l.map PyData.bool)) (.list ([x, y, z].map PyData.bool)) = b) (q : ∀ p, H p = none → Q b (upd H p (.lst ([x, y, z].map V.bl)))) : tTest (tOp (rEqD K) (tVar i) (b3 x y z)) σ H Q := by
  refine ⟨_, h3, by show 3 ≤ sizeLine; rw [sizeLine_eq]; decide, fun p hp => ?_⟩
  refine ⟨_, _, bls (l := l) (by rw [upd_ne (ne_of_none e3 hp)]; exact e3), bls (l := [x, y, z]) upd_same, hl, sh3 _ _ _, b, by rw [hb], q p hp⟩
theorem isK_run {b : Bool} {c p3 : Addr} (hC : C = cU ∨ C = cI) {Q : Bool → Hp → Prop} (h2 : σ[2]? = some (some (.ref a))) (hd : H dd = some (.xd [(f, v)])) (h3 : σ[3]? = some (some (.ref p3))) (e3 : H p3 = some (.lst ([false, true, false].map V.bl))) (k : PySem.W.kitOne K (.ref C) (.ref c) = some b)
    (q : ∀ H2, Gr H H2 → Q b H2) : isK K cU cI a (.ref C) (some dd) c σ H Q := by
  show tTest _ σ H _
  refine is1_run (l := [false, true, false]) (sh3 _ _ _) h3 e3 (b := true) (by decide) fun p hp => ?_
  show if true = true then _ else _
  rw [if_pos rfl]
  exact iE_run hC h2 (by rw [upd_ne (ne_of_none hd hp)]; exact hd) k (.own _) ⟨b, rfl, q _ (Gr.refl.fresh hp)⟩
end
theorem ifs_tt {c : TT} {t u : TS} {D : Ends} {σ : L2.St} {H : Hp} (h : ∀ Q : Bool → Hp → Prop, (∀ H2, Gr H H2 → Q true H2) → c σ H Q) (k : ∀ H2, Gr H H2 → t D σ H2) : tIfS c t u D σ H := h _ fun H2 g => by
  show if true = true then _ else _
  rw [if_pos rfl]
  exact k H2 g
theorem ifs_ff {c : TT} {t u : TS} {D : Ends} {σ : L2.St} {H : Hp} (h : ∀ Q : Bool → Hp → Prop, (∀ H2, Gr H H2 → Q false H2) → c σ H Q) (k : ∀ H2, Gr H H2 → u D σ H2) : tIfS c t u D σ H := h _ fun H2 g => by
  show if false = true then _ else _
  rw [if_neg Bool.false_ne_true]
  exact k H2 g
theorem Gr.tr {H H1 H2 : Hp} (g : Gr H H1) (k : Gr H1 H2) : Gr H H2 := ⟨fun b o h => k.1 b o (g.1 b o h), fun K ft ρ C R => let ⟨R1, s1⟩ := g.2 K ft ρ C R; let ⟨R2, s2⟩ := k.2 K ft ρ C R1; ⟨R2, s1.trans s2⟩⟩
theorem seq_run {t u : TS} {D : Ends} {σ : L2.St} {H : Hp} (h : t { D with nx := u D } σ H) : tSeq t u D σ H := h
theorem asg_run {te : TE} {g : TG} {D : Ends} {σ : L2.St} {H : Hp} (h : te σ H fun x H1 => g x σ H1 D.nx) : tAsg te g D σ H := h
theorem suite_run {K : PySem.W.Frag} {cS cPE cDE cTE cI cU C : Addr} {f : Str} {bI bU : Bool} (c : ErC K cS cPE cDE cTE cI cU C f bI bU) (hC : C = cU ∧ f = ("holder" : Str) ∧ bI = false ∧ bU = true ∨ C = cI ∧ f = ("moment" : Str) ∧ bI = true ∧ bU = false) {a dd : Addr} {x0 x1 x3 : Option V} {H : Hp} {D : Ends} {v : V} (hd : H dd = some (.xd [(f, v)]))
    (k : ∀ (H2 : Hp) (p : Addr) (y3 : Option V), Gr H H2 → H2 p = some (.tup [.str f, v]) → D.nx [x0, some (.ref p), some (.ref a), y3] H2) :
    tsSd K cPE cDE cTE cI cU a (.ref C) (some dd) D [x0, x1, some (.ref a), x3] H := by
  have hC2 : C = cU ∨ C = cI := hC.imp (·.1) (·.1)
  refine seq_run (asg_run (l3_run hC2 rfl hd c.kPE c.kDE c.kTE fun p3 n3 => ?_))
  have g3 := Gr.refl.fresh (o := .lst ([false, true, false].map V.bl)) n3
  have d3 := g3.1 _ _ hd
  have e3 : upd H p3 (.lst ([false, true, false].map V.bl)) p3 = some (.lst ([false, true, false].map V.bl)) := upd_same
  generalize upd H p3 (.lst ([false, true, false].map V.bl)) = H3 at *
  dsimp only [gName, List.set]
  rcases hC with ⟨rfl, rfl, rfl, rfl⟩ | ⟨rfl, rfl, rfl, rfl⟩
  · refine seq_run (ifs_ff (fun Q q => isK_run hC2 rfl d3 rfl e3 c.kI q) fun H5 g5 => ?_)
    dsimp only [tNext, gName]
    have d5 := g5.1 _ _ d3
    refine ifs_tt (fun Q q => isK_run hC2 rfl d5 rfl (g5.1 _ _ e3) c.kU q) fun H7 g7 => ?_
    have d7 := g7.1 _ _ d5
    refine ⟨_, rfl, rfl, rfl, dd, _, v, rfl, d7, by simp [List.lookup], ?_⟩
    refine ⟨by show 2 ≤ sizeLine; rw [sizeLine_eq]; decide, fun p hp => ?_⟩
    dsimp only [gName, List.set]
    exact k _ p _ ((g3.tr (g5.tr g7)).fresh hp) upd_same
  · refine seq_run (ifs_tt (fun Q q => isK_run hC2 rfl d3 rfl e3 c.kI q) fun H5 g5 => ?_)
    have d5 := g5.1 _ _ d3
    refine ⟨_, rfl, rfl, rfl, dd, _, v, rfl, d5, by simp [List.lookup], ?_⟩
    refine ⟨by show 2 ≤ sizeLine; rw [sizeLine_eq]; decide, fun p hp => ?_⟩
    dsimp only [gName, List.set]
    have g6 := (g3.tr g5).fresh (o := .tup [.str "moment", v]) hp
    have g56 := g5.fresh (o := .tup [.str "moment", v]) hp
    refine ifs_ff (fun Q q => isK_run hC2 rfl (g56.1 _ _ d3) rfl (g56.1 _ _ e3) c.kU q) fun H9 g9 => ?_
    exact k H9 p _ (g6.tr g9) (g9.1 _ _ upd_same)
section
variable {F : Fm} {g : Addr} {oc kV doc pm cd ct : Value} {od an : Option Addr} {osl : Array (Option Value)}
theorem said_ok (c : SdC F.K F.mg F.ft) (hm : F.mg "_law_said" = some (.ref g)) (hk : PySem.W.keepIn F.K (.ref g) = true)
    (lk : F.K.lookup g = some ⟨oc, od, .func (PySem.W.fnOf "_law_said" "_law_said" (defArgs S_law_said) (defBody S_law_said) (defScope S_law_said) .none kV doc pm an cd ct), osl⟩) (hc : PySem.W.codeIn F.K cd "_law_said" = true)
    (hb : L2.Binds F.K (PySem.W.fnOf "_law_said" "_law_said" (defArgs S_law_said) (defBody S_law_said) (defScope S_law_said) .none kV doc pm an cd ct) ["_law_ask"] []) (lv : Nat) : Giver F (gSd hm hk lk hc hb) lv outs := by
  intro X s H f cc tl q Q h hr act hco hw
  obtain ⟨ρ, C, r, d, C', R, call, ho, post⟩ := hw
  let Z := (cxG X N_sd "_law_said" (defScope S_law_said) g cd s H).nox
  have nd : Z.N.Nodup := scope_sd.nd
  have u64 : Z.A.units + 64 < cLine := Room.u64b hr
  have gS : X.mg "ShelfError" = some (.ref c.cS) := by rw [h.mg]; exact c.gS
  have gPE : X.mg "PaperError" = some (.ref c.cPE) := by rw [h.mg]; exact c.gPE
  have gDE : X.mg "DeedError" = some (.ref c.cDE) := by rw [h.mg]; exact c.gDE
  have gTE : X.mg "TextError" = some (.ref c.cTE) := by rw [h.mg]; exact c.gTE
  have gI : X.mg "InvalidMoment" = some (.ref c.cI) := by rw [h.mg]; exact c.gI
  have gU : X.mg "UnknownHolder" = some (.ref c.cU) := by rw [h.mg]; exact c.gU
  have zi : X.mg "isinstance" = none := by rw [h.mg]; exact c.zi
  have LU : Held X.K c.cU := by rw [h.K]; exact c.eU.L
  have LI : Held X.K c.cI := by rw [h.K]; exact c.eI.L
  have noU : PySem.W.findIn X.K (.ref c.cU) "holder" = some none := by rw [h.K]; exact c.eU.no
  have noI : PySem.W.findIn X.K (.ref c.cI) "moment" = some none := by rw [h.K]; exact c.eI.no
  have suite : ∀ (a : Addr) (oe : Obj) (cls : Value) (d : Option Addr) (pn : List (Addr × Obj)), Zc cls d oe → (∃ vs, oe.data = .fields vs) → PSs (Z.suite a ((a, oe) :: pn)) (match defBody S_law_said with | _ :: .Try _ (.ExceptHandler _ _ b _ :: _) _ _ _ :: _ => b | _ => []) (tsSd X.K c.cPE c.cDE c.cTE c.cI c.cU a cls d) := by
    intro a oe cls d pn hz hf
    have eqR : OpR (Z.suite a ((a, oe) :: pn)) (compareOp .Eq) (rEqD X.K) := op_eqD u64
    have ch := (call_held (X := Z) (a := a) (pn := pn) LU hz hf).or (call_held (X := Z) (a := a) (pn := pn) LI hz hf)
    exact pss_cons (ps_set (i := 3) nd rfl (Or.inl rfl) (by exact pe_lst (pa_cons (pe_callB ch rfl zi (by decide +kernel) (pa_cons (pv 2) (pa_cons (pe_glob rfl gPE rfl) pa_nil))) (pa_cons (pe_callB ch rfl zi (by decide +kernel) (pa_cons (pv 2) (pa_cons (pe_glob rfl gDE rfl) pa_nil))) (pa_cons (pe_callB ch rfl zi (by decide +kernel) (pa_cons (pv 2) (pa_cons (pe_glob rfl gTE rfl) pa_nil))) pa_nil))))) (
      pss_cons (ps_if (by exact PW.pt (pw_and (pt_cmpR eqR (pv 3) (by exact pe_lst (pa_cons pe_bl (pa_cons pe_bl (pa_cons pe_bl pa_nil)))) rfl) (pw_and1 (pt_val (pe_callB ch rfl zi (by decide +kernel) (pa_cons (pv 2) (pa_cons (pe_glob rfl gI rfl) pa_nil))))))) (pss_one (ps_set (i := 1) nd rfl (Or.inl rfl) (by exact pe_tup (pa_cons pe_str (pa_cons (pe_xf LI.xf noI hz hf (pv 2)) pa_nil))))) pss_nil) (
      pss_one (ps_if (by exact PW.pt (pw_and (pt_cmpR eqR (pv 3) (by exact pe_lst (pa_cons pe_bl (pa_cons pe_bl (pa_cons pe_bl pa_nil)))) rfl) (pw_and1 (pt_val (pe_callB ch rfl zi (by decide +kernel) (pa_cons (pv 2) (pa_cons (pe_glob rfl gU rfl) pa_nil))))))) (pss_one (ps_set (i := 1) nd rfl (Or.inl rfl) (by exact pe_tup (pa_cons pe_str (pa_cons (pe_xf LU.xf noU hz hf (pv 2)) pa_nil))))) pss_nil)))
  refine ⟨_, pss_cons (ps_set (i := 1) nd rfl (Or.inl rfl) (by exact pe_tup (pa_cons pe_str pa_nil))) (pss_cons (ps_try_as (X := Z) (i := 2) (c := .ref c.cS) (ts := tsSd X.K c.cPE c.cDE c.cTE c.cI c.cU) (Wout := fun _ _ _ _ => False) rfl rfl nd rfl rfl ⟨rfl, by decide, .inl gS⟩ takes0
      (fun W pn xe tk _ => pss_one (ps_set (i := 1) nd rfl (Or.inl rfl) (by exact pe_tup (pa_cons pe_str (pa_cons (act W pn xe _ _ tk) pa_nil)))))
      suite) (pss_one (ps_ret (pv 1)))), ?_⟩
  refine ⟨by show 1 ≤ sizeLine; rw [sizeLine_eq]; decide, fun p0 hp0 => ?_⟩
  have g0 := Gr.refl.fresh (o := .tup [.str "odd"]) hp0
  obtain ⟨R0, s0⟩ := g0.2 _ _ _ _ R
  show _ ∧ _ ∧ _
  cases r with
  | ok dv C1 =>
    have ho : mkTup [.str (Str.ofString "told"), dv] C1 = some (d, C') := ho
    unfold mkTup at ho
    split at ho
    · cases ho
      refine ⟨rfl, by rw [upd_ne (ne_of_none hco hp0)]; exact hco, call ρ _ _ _ R0 s0 fun ρ' H' v R' s' dv' => ?_⟩
      refine ⟨by show 2 ≤ sizeLine; rw [sizeLine_eq]; decide, fun p hp => ?_⟩
      refine ⟨_, rfl, ?_⟩
      exact post ρ' _ _ (R'.fresh hp) ((s0.trans s').trans (Stp.fresh hp)) (.tup (.inl (.inl upd_same)) (.cons (.str _) (.cons (dv'.mono (Stp.fresh hp)) .nil)))
    · cases ho
  | ex n x C1 =>
    match n, call, ho with
    | 0, call, ho =>
      have ho : mkTup [.str (Str.ofString "holder"), x] C1 = some (d, C') := ho
      unfold mkTup at ho
      split at ho
      · cases ho
        refine ⟨rfl, by rw [upd_ne (ne_of_none hco hp0)]; exact hco, call ρ _ _ _ R0 s0 fun ρ' H' v dd R' s' dv' hdd => ?_⟩
        have e1 : (F.ft.exc 0).1 = c.cU := by rw [c.hU]
        have e2 : (F.ft.exc 0).2 = ("holder" : Str) := by rw [c.hU]
        rw [e2] at hdd
        rw [e1]
        refine ⟨true, by show PySem.W.exmOne X.K _ _ = _; rw [h.K]; exact c.eU.ex, fun _ a ha => ?_, fun z => nomatch z⟩
        show tsSd X.K _ _ _ _ _ a (.ref c.cU) (some dd) _ _ _
        rw [h.K]
        refine suite_run c.eU (.inl ⟨rfl, rfl, rfl, rfl⟩) hdd fun H2 p y3 gr hp => ?_
        obtain ⟨R2, s2⟩ := gr.2 _ _ _ _ R'
        refine ⟨_, rfl, ?_⟩
        exact post ρ' _ _ R2 ((s0.trans s').trans s2) (.tup (.inl (.inl hp)) (.cons (.str _) (.cons (dv'.mono s2) .nil)))
      · cases ho
    | 1, call, ho =>
      have ho : mkTup [.str (Str.ofString "moment"), x] C1 = some (d, C') := ho
      unfold mkTup at ho
      split at ho
      · cases ho
        refine ⟨rfl, by rw [upd_ne (ne_of_none hco hp0)]; exact hco, call ρ _ _ _ R0 s0 fun ρ' H' v dd R' s' dv' hdd => ?_⟩
        have e1 : (F.ft.exc 1).1 = c.cI := by rw [c.hI]
        have e2 : (F.ft.exc 1).2 = ("moment" : Str) := by rw [c.hI]
        rw [e2] at hdd
        rw [e1]
        refine ⟨true, by show PySem.W.exmOne X.K _ _ = _; rw [h.K]; exact c.eI.ex, fun _ a ha => ?_, fun z => nomatch z⟩
        show tsSd X.K _ _ _ _ _ a (.ref c.cI) (some dd) _ _ _
        rw [h.K]
        refine suite_run c.eI (.inr ⟨rfl, rfl, rfl, rfl⟩) hdd fun H2 p y3 gr hp => ?_
        obtain ⟨R2, s2⟩ := gr.2 _ _ _ _ R'
        refine ⟨_, rfl, ?_⟩
        exact post ρ' _ _ R2 ((s0.trans s').trans s2) (.tup (.inl (.inl hp)) (.cons (.str _) (.cons (dv'.mono s2) .nil)))
      · cases ho
    | n + 2, call, ho => cases ho
end
end G
set_option Elab.async false
set_option linter.all false
set_option maxRecDepth 100000
set_option maxHeartbeats 4000000
namespace G
open PySem PySem.Spec PyProof.Rows L2 Mi
theorem law_endT (law_true : ∀ ns : List Int, ns.length ≤ 63 → ∃ C', M_law [.scr ns] [.tab 0] = some (.bl true, C')) {K : PySem.W.Frag} {cs : List (Addr × Addr)} {H : Hp} {a : Addr} {ns : List Int} (hT : ∀ p ∈ cs, H p.2 = some (.tbl #[])) (hl : ns.length ≤ 63) (sq : SqR K H a (ns.map V.int)) {ft : Cfg} (hp : ∀ p ∈ cs, (ft.tab 0).1 = p.2) (hc : cs ≠ []) :
    spM K ft 1 M_law [.ref a] H fun v _ => v = .bl true := by
  cases cs with
  | nil => exact absurd rfl hc
  | cons p r => exact spM_lawT (hp p (by simp)) law_true K H a ns (hT p (by simp)) hl sq
end G
set_option Elab.async false
set_option linter.all false
set_option maxRecDepth 100000
set_option maxHeartbeats 1000000
namespace G
open PySem L2 Mi Au
inductive Th where
  | k (n : Int) | t (r : Str) (n : Int)
  deriving DecidableEq
def thD : Th → D
  | .k n => .int n
  | .t r n => .tup [.str r, .int n]
abbrev Box := Th × List Int
def boxD (b : Box) : D := .tup [thD b.1, .tup (b.2.map .int)]
inductive Deed where
  | hand (w : Str) (k : Int) | put (b : Box) | take (n : Nat) | opn (w : Str) (n : Nat) | leak (k : Int)
  deriving DecidableEq
abbrev sHand : Str := Str.ofString "hand"
abbrev sPut : Str := Str.ofString "put"
abbrev sTake : Str := Str.ofString "take"
abbrev sOpen : Str := Str.ofString "open"
abbrev sLeak : Str := Str.ofString "leak"
abbrev sWorld : Str := Str.ofString "world"
def Deed.w : Deed → Str
  | .hand _ _ => sHand | .put _ => sPut | .take _ => sTake | .opn _ _ => sOpen | .leak _ => sLeak
def Deed.one : Deed → D
  | .hand w _ => .str w | .put b => boxD b | .take n => .int n | .opn w _ => .str w | .leak k => .int k
def Deed.more : Deed → List D
  | .hand _ k => [.int k] | .opn _ n => [.int n] | _ => []
def deedD (d : Deed) : D := .tup (.str d.w :: d.one :: d.more)
abbrev Hist := List Deed
def histD (h : Hist) : D := .tup (h.map deedD)
theorem w_dec : ∀ (s : Str), s ∈ [sHand, sPut, sTake, sOpen, sLeak, sWorld] → PyData.strOk s = true := by decide +kernel
theorem w_ne : [sHand, sPut, sTake, sOpen, sLeak].Nodup := by decide +kernel
def Deed.isPut : Deed → Bool
  | .put _ => true | _ => false
def Deed.isTake : Deed → Bool
  | .take _ => true | _ => false
def Deed.isHand : Deed → Bool
  | .hand _ _ => true | _ => false
def Deed.isLeak : Deed → Bool
  | .leak _ => true | _ => false
theorem w_ok (d : Deed) : PyData.strOk d.w = true := w_dec _ (by cases d <;> simp [Deed.w])
theorem eq_w {C : Hm} (d : Deed) (s : Str) : dEq (.str d.w) (.str s) C = some (.bl (d.w == s), C) := rfl
theorem w_put (d : Deed) : (d.w == sPut) = d.isPut := by cases d <;> first | rfl | decide +kernel
theorem w_take (d : Deed) : (d.w == sTake) = d.isTake := by cases d <;> first | rfl | decide +kernel
theorem w_hand (d : Deed) : (d.w == sHand) = d.isHand := by cases d <;> first | rfl | decide +kernel
theorem w_leak (d : Deed) : (d.w == sLeak) = d.isLeak := by cases d <;> first | rfl | decide +kernel
theorem at0 {C : Hm} {d : Deed} : ixD (deedD d) (.int 0) C = some (.str d.w, C) := by cases d <;> rfl
theorem at1 {C : Hm} {d : Deed} : ixD (deedD d) (.int 1) C = some (d.one, C) := by cases d <;> rfl
theorem mem_le {h : Hist} (hl : h.length ≤ 1000) : h.length ≤ sizeLine := by have : (1000 : Nat) ≤ sizeLine := by decide
                                                                             omega
/-- deed[0] == s, for the name in slot i -/
theorem tst_w {C : Hm} {E : Ev} {i : Nat} {d : Deed} (s : Str) (h : E[i]? = some (some (deedD d))) : mTest (mBin dEq (mBin ixD (mVar i) (mC (.int 0))) (mC (.str s))) E C = some (d.w == s, C) := by
  unfold mTest
  rw [bin_eq (bin_eq (var_eq h) (show mC (.int 0) E C = some (.int 0, C) from rfl) |>.trans at0) (show mC (.str s) E C = some (.str s, C) from rfl)]
  rfl
theorem ix1 {C : Hm} {E : Ev} {i : Nat} {d : Deed} (h : E[i]? = some (some (deedD d))) : mBin ixD (mVar i) (mC (.int 1)) E C = some (d.one, C) := (bin_eq (var_eq h) (show mC (.int 1) E C = some (.int 1, C) from rfl)).trans at1
theorem src_tup {α : Type} {enc : α → D} {xs : List α} {E : Ev} {C : Hm} {i : Nat} (h : E[i]? = some (some (.tup (xs.map enc)))) : mIAny (mVar i) E C = some (.seq (xs.map enc), xs.length, C) := by
  unfold mIAny
  rw [var_eq h]
  simp [iAnyD]
def puts (h : Hist) : List Deed := h.filter Deed.isPut
theorem boxes_put_ok {C : Hm} {h : Hist} (hl : h.length ≤ 1000) : M_boxes_put [histD h] C = some (.tup ((puts h).map Deed.one), C) := by
  refine fn_ret rfl (ret_eq ((callB_eq (cons_eq (lcE (enc := deedD) (xs := h) Deed.isPut Deed.one (src_tup rfl) (mem_le hl) fun d hd => ⟨_, rfl, ?_, fun _ => ?_⟩) nil_eq)).trans ?_))
  · rw [tst_w (d := d) sPut rfl, w_put]
  · exact ix1 rfl
  · rfl
end G
set_option Elab.async false
set_option linter.all false
set_option maxRecDepth 100000
set_option maxHeartbeats 4000000
namespace G
open PySem L2 Mi Au
theorem ne1 : (Str.ofString "cells" = Str.ofString "at") = False := by simp; decide +kernel
theorem ne2 : (Str.ofString "cells" = Str.ofString "left") = False := by simp; decide +kernel
theorem ne3 : (Str.ofString "cells" = Str.ofString "count") = False := by simp; decide +kernel
theorem ne4 : (Str.ofString "at" = Str.ofString "left") = False := by simp; decide +kernel
theorem ne5 : (Str.ofString "at" = Str.ofString "count") = False := by simp; decide +kernel
theorem ne6 : (Str.ofString "left" = Str.ofString "count") = False := by simp; decide +kernel
theorem oe1 : (Str.ofString "at" = Str.ofString "cells") = False := by simp; decide +kernel
theorem oe2 : (Str.ofString "left" = Str.ofString "cells") = False := by simp; decide +kernel
theorem oe3 : (Str.ofString "count" = Str.ofString "cells") = False := by simp; decide +kernel
theorem oe4 : (Str.ofString "left" = Str.ofString "at") = False := by simp; decide +kernel
theorem oe5 : (Str.ofString "count" = Str.ofString "at") = False := by simp; decide +kernel
theorem oe6 : (Str.ofString "count" = Str.ofString "left") = False := by simp; decide +kernel
theorem sz4 : ((4 : Nat) < sizeLine) = True := by simp; decide
theorem sz0 : ((0 : Nat) ≤ sizeLine) = True := by simp
/-- the feed: a script's ints, the place, what is left of a great one, the count -/
def fdC (xs : List Int) (a l c : Int) : Cell := .dic [(.inr (Str.ofString "cells"), .rol (xs.map .int)), (.inr (Str.ofString "at"), .int a), (.inr (Str.ofString "left"), .int l), (.inr (Str.ofString "count"), .int c)]
def feedH (xs : List Int) (a l c : Int) (rest : Hm) : Hm := .tab 0 :: fdC xs a l c :: rest
theorem atI_mod {α : Type} {xs : List α} (h : xs ≠ []) (a : Int) : ∃ x, atI xs (a.fmod (xs.length : Int)) = some x ∧ x ∈ xs := by
  have hp : (0 : Int) < xs.length := by
    have : xs.length ≠ 0 := fun e => h (List.length_eq_zero_iff.mp e)
    omega
  have h0 := Int.fmod_nonneg_of_pos a hp
  have h1 := Int.fmod_lt_of_pos a hp
  unfold atI ixN
  rw [if_pos h0, if_pos h1]
  have hl : (a.fmod (xs.length : Int)).toNat < xs.length := by omega
  exact ⟨xs[(a.fmod (xs.length : Int)).toNat], by simp [hl], List.getElem_mem hl⟩
theorem atI_map {α β : Type} {xs : List α} {i : Int} {x : α} (f : α → β) (h : atI xs i = some x) : atI (xs.map f) i = some (f x) := by
  unfold atI at h ⊢
  rw [List.length_map]
  cases q : ixN xs.length i with
  | none => rw [q] at h; cases h
  | some j =>
    rw [q] at h
    have h : xs[j]? = some x := h
    show (xs.map f)[j]? = _
    rw [List.getElem?_map, h]; rfl
def mix1 (cell c : Int) : Int := (cell.fmod 1000022577 + 154883 * c + 115).fmod 2147483579
def mix2 (cell c : Int) : Int := (mix1 cell c * mix1 cell c + 8422977 * c + 85).fmod 2147483549
def mix (cell c n : Int) : Int := (((mix2 cell c * mix2 cell c + 159 * mix2 cell c).fmod 2147483543).fdiv 16).fmod n
theorem fq1 (x : Int) : ((-18446744073709551616 : Int) < x.fmod 2147483579) = True := by
  have h1 := Int.fmod_nonneg_of_pos x (show (0 : Int) < 2147483579 by decide)
  simp; omega
theorem fq1b (x : Int) : (x.fmod 2147483579 < (18446744073709551616 : Int)) = True := by
  have h2 := Int.fmod_lt_of_pos x (show (0 : Int) < 2147483579 by decide)
  simp; omega
theorem fq2 (x : Int) : ((-18446744073709551616 : Int) < x.fmod 2147483549) = True := by
  have h1 := Int.fmod_nonneg_of_pos x (show (0 : Int) < 2147483549 by decide)
  simp; omega
theorem fq2b (x : Int) : (x.fmod 2147483549 < (18446744073709551616 : Int)) = True := by
  have h2 := Int.fmod_lt_of_pos x (show (0 : Int) < 2147483549 by decide)
  simp; omega
theorem ne_rol {l : List D} {C : Hm} (h : ∀ d ∈ l, gd 59 d = true) : dNe (.rol l) (.rol []) C = some (.bl (!l.isEmpty), C) := by
  rw [dNe_gd (by rw [gd_rol, List.all_eq_true]; exact h) rfl]
  cases l with
  | nil => rfl
  | cons d l => rfl
theorem eq_rol {l : List D} {C : Hm} (h : ∀ d ∈ l, gd 59 d = true) : dEq (.rol l) (.rol []) C = some (.bl l.isEmpty, C) := by
  rw [dEq_gd (by rw [gd_rol, List.all_eq_true]; exact h) rfl]
  cases l with
  | nil => rfl
  | cons d l => rfl
theorem wbF {xs a l c rest} (h : WB (feedH xs a l c rest)) : ∀ E : Ev, mFrz (mLst mNil) E (feedH xs a l c rest) = some (.rol [], feedH xs a l c rest) := fun E => nilF h
theorem ints_bnds {k : Nat} (xs : List Int) : bnds k (xs.map D.int) = true := bnds_of fun d hd => by obtain ⟨i, _, rfl⟩ := List.mem_map.mp hd; rfl
/-- the heap of the law: the feed is the second cell -/
def Fd (C : Hm) : Prop := WB C ∧ ∃ xs a l c rest, C = feedH xs a l c rest
theorem Fd.other {xs a l c rest a' l' c'} (h : WB (feedH xs a l c rest)) : WB (feedH xs a' l' c' rest) := by
  intro x hx
  have hl : (feedH xs a' l' c' rest).length = (feedH xs a l c rest).length := rfl
  rw [hl]
  simp only [feedH, List.mem_cons] at hx
  rcases hx with rfl | rfl | hx
  · rfl
  · simp [fdC, Cell.bnd, D.bnd, ints_bnds]
  · exact h x (by simp [feedH, hx])
theorem draw_spec {xs a l c rest n} (W : ∀ a l c, WB (feedH xs a l c rest)) (hn : 0 < n) (hn2 : n < 1000000) : ∃ r a' l' c', 0 ≤ r ∧ r < n ∧ M_law_draw [.cell 1, .int n] (feedH xs a l c rest) = some (.int r, feedH xs a' l' c' rest) := by
  have e1 : n ≠ 0 := by omega
  have e2 : n.natAbs < 1073741824 := by omega
  have gi : ∀ d ∈ xs.map D.int, gd 59 d = true := fun d hd => by obtain ⟨i, _, rfl⟩ := List.mem_map.mp hd; rfl
  have fz := fun a l c E => wbF (E := E) (W a l c)
  have fn : ∀ C, dNe (.rol (xs.map .int)) (.rol []) C = some (.bl (!xs.isEmpty), C) := fun C => by rw [ne_rol gi]; simp
  simp only [feedH, fdC] at fz
  by_cases hl : 0 < l
  · refine ⟨l.fmod n, a, l.fdiv n, c + 1, Int.fmod_nonneg_of_pos _ hn, Int.fmod_lt_of_pos _ hn, ?_⟩
    simp [M_law_draw, B_law_draw, feedH, fdC, mFn, mSeq, mNext, mDPut, mBin, mVar, mC, dgetD, addD, subD, mulD, mulOk, keyD, valD, putD, mIfS, mTest, asB, dGt, dLt, dGe, dLe, ordD, mAsg, mCallB, mCons, mNil, intC, modD, powD, intD, gN, fdivD, mRet, mIf, lenD, ixD, tAndM, tNotM, mDrop, e1, e2, ne1, ne2, ne3, ne4, ne5, ne6, oe1, oe2, oe3, oe4, oe5, oe6, sz4, sz0, hl]
  by_cases hx : xs = []
  · subst hx
    refine ⟨mix 32295 (c + 1) n, a + 1, l, c + 1, Int.fmod_nonneg_of_pos _ hn, Int.fmod_lt_of_pos _ hn, ?_⟩
    simp at fn fz
    simp [M_law_draw, B_law_draw, feedH, fdC, mFn, mSeq, mNext, mDPut, mBin, mVar, mC, dgetD, addD, subD, mulD, mulOk, keyD, valD, putD, mIfS, mTest, asB, dGt, dLt, dGe, dLe, ordD, mAsg, mCallB, mCons, mNil, intC, modD, powD, intD, gN, fdivD, mRet, mIf, lenD, ixD, tAndM, tNotM, mDrop, e1, e2, ne1, ne2, ne3, ne4, ne5, ne6, oe1, oe2, oe3, oe4, oe5, oe6, sz4, sz0, hl, fz, fn, fq1, fq1b, fq2, fq2b, mix, mix1, mix2]
  · have hxb : xs.isEmpty = false := by cases xs <;> simp_all
    simp [hxb] at fn
    obtain ⟨x, hx1, hx2⟩ := atI_mod hx a
    have hx3 := atI_map D.int hx1
    have hlen : ¬ ((xs.length : Int) = 0) := fun e => hx (List.length_eq_zero_iff.mp (by omega))
    by_cases hb : 1000000000000000000 ≤ x ∧ a < (xs.length : Int)
    · refine ⟨x.fmod n, a + 1, x.fdiv n, c + 1, Int.fmod_nonneg_of_pos _ hn, Int.fmod_lt_of_pos _ hn, ?_⟩
      simp [M_law_draw, B_law_draw, feedH, fdC, mFn, mSeq, mNext, mDPut, mBin, mVar, mC, dgetD, addD, subD, mulD, mulOk, keyD, valD, putD, mIfS, mTest, asB, dGt, dLt, dGe, dLe, ordD, mAsg, mCallB, mCons, mNil, intC, modD, powD, intD, gN, fdivD, mRet, mIf, lenD, ixD, tAndM, tNotM, mDrop, e1, e2, ne1, ne2, ne3, ne4, ne5, ne6, oe1, oe2, oe3, oe4, oe5, oe6, sz4, sz0, hl, fz, fn, hx, hx3, hlen, hb.1, hb.2]
    · refine ⟨mix x (c + 1) n, a + 1, l, c + 1, Int.fmod_nonneg_of_pos _ hn, Int.fmod_lt_of_pos _ hn, ?_⟩
      by_cases hb1 : 1000000000000000000 ≤ x
      · have hb2 : ¬ a < (xs.length : Int) := fun z => hb ⟨hb1, z⟩
        simp [M_law_draw, B_law_draw, feedH, fdC, mFn, mSeq, mNext, mDPut, mBin, mVar, mC, dgetD, addD, subD, mulD, mulOk, keyD, valD, putD, mIfS, mTest, asB, dGt, dLt, dGe, dLe, ordD, mAsg, mCallB, mCons, mNil, intC, modD, powD, intD, gN, fdivD, mRet, mIf, lenD, ixD, tAndM, tNotM, mDrop, e1, e2, ne1, ne2, ne3, ne4, ne5, ne6, oe1, oe2, oe3, oe4, oe5, oe6, sz4, sz0, hl, fz, fn, hx, hx3, hlen, hb1, hb2, fq1, fq1b, fq2, fq2b, mix, mix1, mix2]
      · simp [M_law_draw, B_law_draw, feedH, fdC, mFn, mSeq, mNext, mDPut, mBin, mVar, mC, dgetD, addD, subD, mulD, mulOk, keyD, valD, putD, mIfS, mTest, asB, dGt, dLt, dGe, dLe, ordD, mAsg, mCallB, mCons, mNil, intC, modD, powD, intD, gN, fdivD, mRet, mIf, lenD, ixD, tAndM, tNotM, mDrop, e1, e2, ne1, ne2, ne3, ne4, ne5, ne6, oe1, oe2, oe3, oe4, oe5, oe6, sz4, sz0, hl, fz, fn, hx, hx3, hlen, hb1, fq1, fq1b, fq2, fq2b, mix, mix1, mix2]
/-- what a draw does to the heap -/
structure Up (C C' : Hm) : Prop where
  fd : Fd C'
  len : C'.length = C.length
  old : ∀ k, k ≠ 1 → C'[k]? = C[k]?
theorem Up.trans {A B C : Hm} (h : Up A B) (k : Up B C) : Up A C := ⟨k.fd, k.len.trans h.len, fun i hi => (k.old i hi).trans (h.old i hi)⟩
theorem Fd.refl {C : Hm} (F : Fd C) : Up C C := ⟨F, rfl, fun _ _ => rfl⟩
theorem draw_ok {C : Hm} (F : Fd C) {n : Int} (hn : 0 < n) (hn2 : n < 1000000) : We (M_law_draw [.cell 1, .int n] C) fun d C' => (∃ r, d = .int r ∧ 0 ≤ r ∧ r < n) ∧ Up C C' := by
  obtain ⟨W, xs, a, l, c, rest, rfl⟩ := F
  obtain ⟨r, a', l', c', h1, h2, h3⟩ := draw_spec (a := a) (l := l) (c := c) (fun a l c => Fd.other W) hn hn2
  rw [h3]
  exact ⟨⟨r, rfl, h1, h2⟩, ⟨Fd.other W, xs, a', l', c', rest, rfl⟩, rfl, fun k hk => by
    cases k with
    | zero => rfl
    | succ k => cases k with
      | zero => exact absurd rfl hk
      | succ k => rfl⟩
/-- a call that draws -/
theorem keep_up {M : MF} {ml : MA} {E : Ev} {C : Hm} {ds : List D} {P : D → Prop} (he : ml E C = some (ds, C)) (h : We (M ds C) fun d C' => P d ∧ Up C C') (hp : ∀ d, P d → ∀ k, d.bnd k = true) : We (mKeepF (mCall M ml) E C) fun d C' => P d ∧ Up C C' := by
  obtain ⟨d, C', e, p, u⟩ := h.ex
  have b := hp d p C.length
  have wb : C'.all (·.bnd C'.length) = true := List.all_eq_true.mpr u.fd.1
  have key : cutC C.length (d, C') = some (d, C') := by
    unfold cutC
    rw [← u.len, List.take_length, if_pos ⟨by rw [u.len]; exact b, wb⟩]
  have : mKeepF (mCall M ml) E C = some (d, C') := by
    unfold mKeepF
    rw [call_eq he, e]
    simp only [Option.bind_some, keepR]
    split
    · rename_i n
      have := b
      simp only [D.bnd, decide_eq_true_eq] at this
      rw [if_neg (by omega)]
      exact key
    · exact key
  rw [this]
  exact ⟨p, u⟩
theorem wDraw {ml : MA} {E : Ev} {C : Hm} (F : Fd C) {n : Int} (he : ml E C = some ([.cell 1, .int n], C)) (hn : 0 < n := by decide) (hn2 : n < 1000000 := by decide) : We (mKeepF (mCall M_law_draw ml) E C) fun d C' => (∃ r, d = .int r ∧ 0 ≤ r ∧ r < n) ∧ Up C C' :=
  keep_up he (draw_ok F hn hn2) fun d ⟨r, e, _⟩ k => by rw [e]; rfl
end G
set_option Elab.async false
set_option linter.all false
set_option maxRecDepth 100000
set_option maxHeartbeats 1000000
namespace G
open PySem L2 Mi Au
theorem lo_take {ds : List D} {k : Nat} : cutD ds none (some (k : Int)) = ds.take k := by
  unfold cutD
  rw [HT.sIx_none, HT.sIx_nat]
  simp
theorem sl_hist {E : Ev} {C : Hm} {h : Hist} {i j k : Nat} (h1 : E[i]? = some (some (histD h))) (h2 : E[j]? = some (some (.int (k : Int)))) : mSl slD (mVar i) oNone (oSome (mVar j)) E C = some (histD (h.take k), C) := by
  unfold mSl
  rw [var_eq h1]
  simp only [Option.bind_some, oNone, oSome, var_eq h2]
  show some (D.tup (cutD (h.map deedD) none (some (k : Int))), C) = _
  rw [lo_take, histD, List.map_take]
theorem src_hist {E : Ev} {C : Hm} {h : Hist} {i : Nat} (h1 : E[i]? = some (some (histD h))) : mIAny (mVar i) E C = some (.seq (h.map deedD), h.length, C) := src_tup h1
theorem src_cut {E : Ev} {C : Hm} {h : Hist} {i j k : Nat} (h1 : E[i]? = some (some (histD h))) (h2 : E[j]? = some (some (.int (k : Int)))) : mIAny (mSl slD (mVar i) oNone (oSome (mVar j))) E C = some (.seq ((h.take k).map deedD), (h.take k).length, C) := by
  rw [src_any (sl_hist h1 h2) (.inr rfl), List.length_map]
/-! ## what lies there -/
def stepT (s : List Nat × Nat) : Deed → List Nat × Nat
  | .put _ => (s.1 ++ [s.2], s.2 + 1)
  | .take n => (s.1.erase n, s.2)
  | _ => s
def thereS (h : Hist) : List Nat × Nat := h.foldl stepT ([], 0)
abbrev thereF (h : Hist) : List Nat := (thereS h).1
def natsD (l : List Nat) : List D := l.map fun n : Nat => .int (n : Int)
theorem thereS_snoc (h : Hist) (d : Deed) : thereS (h ++ [d]) = stepT (thereS h) d := by simp [thereS]
/-- what is taken lies there -/
def Vld (h : Hist) : Prop := ∀ k n, h[k]? = some (.take n) → n ∈ thereF (h.take k)
theorem Vld.take {h : Hist} (v : Vld h) (m : Nat) : Vld (h.take m) := fun k n e => by
  have hk : k < m := by
    have := (List.getElem?_eq_some_iff.mp e).1
    simp at this; omega
  rw [List.getElem?_take_of_lt hk] at e
  rw [List.take_take, Nat.min_eq_left (by omega)]
  exact v k n e
theorem Vld.snoc {h : Hist} {d : Deed} (v : Vld h) (hd : ∀ n, d = .take n → n ∈ thereF h) : Vld (h ++ [d]) := fun k n e => by
  by_cases hk : k < h.length
  · rw [List.getElem?_append_left hk] at e
    rw [List.take_append_of_le_length (by omega)]
    exact v k n e
  · rw [List.getElem?_append_right (by omega)] at e
    have hk2 : k - h.length = 0 := by
      have := (List.getElem?_eq_some_iff.mp e).1
      simp at this; omega
    rw [hk2] at e
    simp at e
    rw [show k = h.length by omega, List.take_left]
    exact hd n e
theorem Vld.init {h : Hist} {d : Deed} (v : Vld (h ++ [d])) : Vld h := by
  have := v.take h.length
  rwa [List.take_left] at this
theorem Vld.last {h : Hist} {n : Nat} (v : Vld (h ++ [.take n])) : n ∈ thereF h := by
  have := v h.length n (by simp)
  rwa [List.take_left] at this
theorem intsOf_nats (l : List Nat) : intsOf (natsD l) = some (l.map fun n : Nat => (n : Int)) := by
  induction l with
  | nil => rfl
  | cons a l ih =>
    show (intsOf (natsD l)).map ((a : Int) :: ·) = _
    rw [ih]; rfl
theorem erase_nats (l : List Nat) (n : Nat) : (l.map fun n : Nat => (n : Int)).erase (n : Int) = (l.erase n).map fun n : Nat => (n : Int) := by
  induction l with
  | nil => rfl
  | cons a l ih =>
    simp only [List.map_cons, List.erase_cons]
    by_cases h : a = n
    · subst h; simp
    · have : ((a : Int) == (n : Int)) = false := by simp; omega
      have h2 : (a == n) = false := by simp [h]
      rw [this, h2]
      simp only [Bool.false_eq_true, if_false, List.map_cons, ih]
theorem last_get {C : Hm} {c : Cell} : (C ++ [c])[C.length]? = some c := by simp
theorem last_set {C : Hm} {c d : Cell} : (C ++ [c]).set C.length d = C ++ [d] := by simp
theorem app_eq {C : Hm} {ds : List D} {d : D} {mo : ME} {ml : MA} {E : Ev} (h1 : mo E (C ++ [.lst ds]) = some (.cell C.length, C ++ [.lst ds])) (h2 : ml E (C ++ [.lst ds]) = some ([d], C ++ [.lst ds])) (hl : ds.length < sizeLine) : mMeth "list" appendD mo ml E (C ++ [.lst ds]) = some (.non, C ++ [.lst (ds ++ [d])]) := by
  unfold mMeth
  rw [h1]
  simp only [Option.bind_some]
  rw [if_pos (by unfold tyD; simp only [last_get]; rfl), h2]
  simp only [Option.bind_some, appendD, last_get]
  rw [if_pos hl, last_set]
theorem rem_eq {C : Hm} {l : List Nat} {n : Nat} {mo me : ME} {E : Ev} (h1 : mo E (C ++ [.lst (natsD l)]) = some (.cell C.length, C ++ [.lst (natsD l)])) (h2 : me E (C ++ [.lst (natsD l)]) = some (.int (n : Int), C ++ [.lst (natsD l)])) (hn : n ∈ l) : mRem mo me E (C ++ [.lst (natsD l)]) = some (.non, C ++ [.lst (natsD (l.erase n))]) := by
  unfold mRem
  rw [h1]
  simp only [Option.bind_some]
  rw [if_pos (by unfold tyD; simp only [last_get]; rfl), h2]
  simp only [Option.bind_some, last_get, intsOf_nats]
  rw [if_pos (List.mem_map.mpr ⟨n, hn, rfl⟩), last_set, erase_nats, List.map_map]
  rfl
theorem len_there : ∀ h : Hist, (thereS h).1.length ≤ h.length ∧ (thereS h).2 ≤ h.length := fun h => by
  have key : ∀ (h : Hist) (s : List Nat × Nat), (h.foldl stepT s).1.length ≤ s.1.length + h.length ∧ (h.foldl stepT s).2 ≤ s.2 + h.length := by
    intro h
    induction h with
    | nil => intro s; simp
    | cons d h ih =>
      intro s
      obtain ⟨a, b⟩ := ih (stepT s d)
      have c : (stepT s d).1.length ≤ s.1.length + 1 ∧ (stepT s d).2 ≤ s.2 + 1 := by
        cases d with
        | take n => exact ⟨Nat.le_trans (List.length_erase_le) (by omega), by simp [stepT]⟩
        | _ => simp [stepT]
      simp only [List.foldl_cons, List.length_cons]
      omega
  have := key h ([], 0)
  simpa [thereS] using this
theorem there_ok {C : Hm} {h : Hist} {t : Nat} (hl : h.length ≤ 1000) (v : Vld h) : M_law_there [histD h, .int (t : Int)] C = some (.cell C.length, C ++ [.lst (natsD (thereF (h.take t)))]) := by
  have hz : (1000 : Nat) < sizeLine := by decide
  have w : We (M_law_there [histD h, .int (t : Int)] C) fun d C' => d = .cell C.length ∧ C' = C ++ [.lst (natsD (thereF (h.take t)))] := by
    refine fn_wo rfl (wo_seq (Wo.nx (E' := [some (histD h), some (.int (t : Int)), some (.cell C.length), some (.int 0), none]) (C' := C ++ [.lst []]) ?_ ?_))
    · unfold mPar
      rw [cons_eq (lst_eq nil_eq) (cons_eq (show mC (.int 0) _ _ = some (.int 0, _) from rfl) nil_eq)]
      rfl
    · refine wo_seq (wo_for (ds := (h.take t).map deedD) (it := .seq ((h.take t).map deedD)) (fun i E C' => ∃ s, s = thereS ((h.take t).take i) ∧ E = [some (histD h), some (.int (t : Int)), some (.cell C.length), some (.int (s.2 : Int)), none] ∧ C' = C ++ [.lst (natsD s.1)]) (by rw [src_cut rfl rfl, List.length_map]; rfl) ⟨_, rfl, rfl, rfl⟩ (fun _ _ _ _ => rfl) ?_ ?_)
      · rintro i d E C' hd ⟨s, hs, rfl, rfl⟩
        rw [List.getElem?_map] at hd
        obtain ⟨dd, hd2, rfl⟩ := omap hd
        clear hd
        have hd := hd2
        refine ⟨_, rfl, wo_wipe ?_⟩
        have hi : i < (h.take t).length := (List.getElem?_eq_some_iff.mp hd).1
        have es : thereS ((h.take t).take (i + 1)) = stepT s dd := by
          rw [List.take_succ, hd, Option.toList_some, thereS_snoc, hs]
        have hsl : s.1.length ≤ h.length ∧ s.2 ≤ h.length := by
          have := len_there ((h.take t).take i)
          have e2 : ((h.take t).take i).length ≤ h.length := by simp; omega
          rw [hs]; exact ⟨by omega, by omega⟩
        refine wo_seq (wo_if (tst_w (d := dd) sPut rfl) (fun e => ?_) fun e => ?_)
        · rw [w_put] at e
          cases dd with
          | put b =>
            refine wo_seq (Wo.nx (drop_eq (app_eq (d := .int (s.2 : Int)) rfl (cons_eq rfl nil_eq) (by simp [natsD]; omega))) (wo_asg (We.of (d := .int ((s.2 : Int) + 1)) rfl ?_)))
            refine wo_if (tst_w (d := .put b) sTake rfl) (fun e2 => ?_) fun _ => ?_
            · rw [w_take] at e2; cases e2
            · refine wo_next ⟨_, es.symm, ?_, ?_⟩
              · simp [wipeE, stepT]
              · simp [natsD, stepT]
          | _ => cases e
        · rw [w_put] at e
          refine wo_next (wo_if (tst_w (d := dd) sTake rfl) (fun e2 => ?_) fun e2 => ?_)
          · rw [w_take] at e2
            cases dd with
            | take n =>
              have hn : n ∈ s.1 := by
                have := v i n (by rw [List.getElem?_take] at hd; split at hd; exact hd; cases hd)
                rw [hs, List.take_take, Nat.min_eq_left (by simp at hi; omega)]
                exact this
              exact Wo.nx (drop_eq (rem_eq rfl (ix1 (d := .take n) rfl) hn)) ⟨_, es.symm, by simp [wipeE, stepT], by simp [stepT]⟩
            | _ => cases e2
          · rw [w_take] at e2
            have e3 : stepT s dd = s := by cases dd <;> simp_all [stepT, Deed.isPut, Deed.isTake]
            exact wo_next ⟨_, es.symm, by rw [e3]; rfl, by rw [e3]⟩
      · rintro E C' ⟨s, hs, rfl, rfl⟩
        refine wo_ret (We.of (var_eq rfl) ⟨rfl, ?_⟩)
        rw [hs, List.length_map, List.take_length]
  obtain ⟨d, C', e, rfl, rfl⟩ := w.ex
  exact e
theorem nats_bnds {k : Nat} (l : List Nat) : bnds k (natsD l) = true := bnds_of fun d hd => by obtain ⟨i, _, rfl⟩ := List.mem_map.mp hd; rfl
theorem k_there {C : Hm} (W : WB C) {h : Hist} {t : Nat} (hl : h.length ≤ 1000) (v : Vld h) {ml : MA} {E : Ev} (he : ml E C = some ([histD h, .int (t : Int)], C)) : mKeepF (mCall M_law_there ml) E C = some (.rol (natsD (thereF (h.take t))), C) :=
  keep_lst W ((call_eq he).trans (there_ok hl v)) (Nat.le_refl _) last_get (nats_bnds _)
/-! ## lying -/
def takesF (h : Hist) : List Nat := h.filterMap fun d => match d with | .take n => some n | _ => none
def lyF (h : Hist) : List Nat := (List.range (puts h).length).filter fun b => !(takesF h).contains b
theorem snoc_ind {α : Type} {P : List α → Prop} (h0 : P []) (h1 : ∀ l a, P l → P (l ++ [a])) (l : List α) : P l := by
  have key : ∀ l : List α, P l.reverse := by
    intro l
    induction l with
    | nil => exact h0
    | cons a l ih => rw [List.reverse_cons]; exact h1 _ _ ih
  have := key l.reverse
  rwa [List.reverse_reverse] at this
theorem there_ly : ∀ h : Hist, Vld h → thereF h = lyF h ∧ (thereS h).2 = (puts h).length ∧ (∀ n ∈ takesF h, n < (puts h).length) := by
  intro h
  induction h using snoc_ind with
  | h0 => intro _; exact ⟨rfl, rfl, by simp [takesF]⟩
  | h1 h d ih =>
    intro v
    obtain ⟨a, b, c⟩ := ih v.init
    unfold thereF at a ⊢
    rw [thereS_snoc]
    have nd : (thereS h).1.Nodup := by rw [a]; exact (List.nodup_range).filter _
    cases d with
    | put bx =>
      have e1 : (puts (h ++ [Deed.put bx])).length = (puts h).length + 1 := by simp [puts, List.filter_cons, Deed.isPut]
      refine ⟨?_, by rw [e1]; simp [stepT, b], fun n hn => ?_⟩
      ·
        have e2 : takesF (h ++ [Deed.put bx]) = takesF h := by simp [takesF]
        unfold lyF at a ⊢
        rw [e1, e2, List.range_succ, List.filter_append, ← a]
        simp only [stepT, b]
        congr 1
        have : (takesF h).contains (puts h).length = false := by
          rw [← Bool.not_eq_true, List.contains_iff_mem]
          exact fun z => Nat.lt_irrefl _ (c _ z)
        rw [List.filter_cons, this]
        simp
      · have e2 : takesF (h ++ [Deed.put bx]) = takesF h := by simp [takesF]
        rw [e2] at hn
        have := c n hn
        omega
    | take n =>
      have hn := v.last
      have e1 : puts (h ++ [Deed.take n]) = puts h := by simp [puts, Deed.isPut]
      have e2 : takesF (h ++ [Deed.take n]) = takesF h ++ [n] := by simp [takesF]
      have ln : n < (puts h).length := by
        rw [show thereF h = (thereS h).1 from rfl, a] at hn
        have := (List.mem_filter.mp hn).1
        simpa using this
      refine ⟨?_, by simp [stepT, b, e1], fun m hm => ?_⟩
      · unfold lyF at a ⊢
        rw [e1, e2]
        simp only [stepT]
        rw [List.Nodup.erase_eq_filter nd, a, List.filter_filter]
        congr 1
        funext m
        by_cases hm : m = n
        · subst hm; simp
        · simp [hm, List.contains_eq_mem]
      · rw [e2] at hm
        rw [e1]
        rcases List.mem_append.mp hm with z | z
        · exact c m z
        · rw [List.mem_singleton.mp z]; exact ln
    | hand w k => exact ⟨by simpa [stepT, lyF, puts, takesF, Deed.isPut] using a, by simp [stepT, b, puts, Deed.isPut], by simpa [takesF, puts, Deed.isPut] using c⟩
    | opn w k => exact ⟨by simpa [stepT, lyF, puts, takesF, Deed.isPut] using a, by simp [stepT, b, puts, Deed.isPut], by simpa [takesF, puts, Deed.isPut] using c⟩
    | leak k => exact ⟨by simpa [stepT, lyF, puts, takesF, Deed.isPut] using a, by simp [stepT, b, puts, Deed.isPut], by simpa [takesF, puts, Deed.isPut] using c⟩
end G
set_option Elab.async false
set_option linter.all false
set_option maxRecDepth 100000
set_option maxHeartbeats 1000000
namespace G
open PySem L2 Mi Au
theorem is_number_int {C : Hm} {i : Int} : M_is_number [.int i] C = some (.bl (decide (0 ≤ i)), C) := rfl
theorem k_number {C : Hm} (W : WB C) {ml : MA} {E : Ev} {d : D} {b : Bool} (he : ml E C = some ([d], C)) (h : M_is_number [d] C = some (.bl b, C)) : mKeepF (mCall M_is_number ml) E C = some (.bl b, C) := keep_pure W ((call_eq he).trans h) rfl
theorem check_moment_ok {C : Hm} (W : WB C) {h : Hist} {t : Nat} (ht : t ≤ h.length) : M_check_moment [histD h, .int (t : Int)] C = some (.non, C) := by
  refine fn_nx (E' := [some (histD h), some (.int (t : Int))]) rfl ?_
  show B_check_moment [some (histD h), some (.int (t : Int))] C = _
  unfold B_check_moment
  have k := k_number W (ml := mCons (mVar 1) mNil) (E := [some (histD h), some (.int (t : Int))]) rfl is_number_int
  have c : (tOrM (tNotM (mTru (mKeepF (mCall M_is_number (mCons (mVar 1) mNil))))) (mTest (mBin dGt (mVar 1) (mCallB lenD (mCons (mVar 0) mNil))))) [some (histD h), some (.int (t : Int))] C = some (false, C) := by
    unfold tOrM tNotM mTru
    rw [k]
    have : mTest (mBin dGt (mVar 1) (mCallB lenD (mCons (mVar 0) mNil))) [some (histD h), some (.int (t : Int))] C = some (decide (((h.map deedD).length : Int) < (t : Int)), C) := rfl
    simp only [Option.bind_some, truD, Option.map_some, this, Int.natCast_nonneg, decide_true, Bool.not_true, Bool.false_eq_true, if_false]
    rw [List.length_map, decide_eq_false (by omega)]
  rw [if_eq c]
  rfl
theorem k_moment {C : Hm} (W : WB C) {h : Hist} {t : Nat} (ht : t ≤ h.length) {ml : MA} {E : Ev} (he : ml E C = some ([histD h, .int (t : Int)], C)) : mKeepF (mCall M_check_moment ml) E C = some (.non, C) := keep_pure W ((call_eq he).trans (check_moment_ok W ht)) rfl
def okTh : Th → Bool
  | .k _ => true | .t r _ => PyData.strOk r
def okDeed : Deed → Bool
  | .hand w _ => PyData.strOk w | .opn w _ => PyData.strOk w | .put b => okTh b.1 | _ => true
theorem gd_th {n : Nat} {x : Th} (h : okTh x = true) : gd (n + 2) (thD x) = true := by
  cases x with
  | k i => rfl
  | t r i => simpa [thD, gd, okTh] using h
theorem gd_box {n : Nat} {b : Box} (h : okTh b.1 = true) : gd (n + 3) (boxD b) = true := by
  simp [boxD, gd_th h]
theorem gd_one {n : Nat} {d : Deed} (h : okDeed d = true) : gd (n + 3) d.one = true := by
  cases d with
  | hand w k => exact h
  | put b => exact gd_box h
  | take n => rfl
  | opn w k => exact h
  | leak k => rfl
theorem gd_deed {n : Nat} {d : Deed} (h : okDeed d = true) : gd (n + 4) (deedD d) = true := by
  have h1 := gd_one (n := n) h
  have h2 := w_ok d
  simp only [deedD, gd_tup, List.all_cons, gd_str, h1, h2, Bool.true_and]
  cases d <;> rfl
def OkH (h : Hist) : Prop := ∀ d ∈ h, okDeed d = true
theorem OkH.take {h : Hist} (o : OkH h) (t : Nat) : OkH (h.take t) := fun d hd => o d (List.mem_of_mem_take hd)
theorem gd_hist {n : Nat} {h : Hist} (o : OkH h) : gd (n + 5) (histD h) = true := by
  simp only [histD, gd_tup, List.all_eq_true]
  intro d hd
  obtain ⟨x, hx, rfl⟩ := List.mem_map.mp hd
  exact gd_deed (o x hx)
theorem puts_gd {h : Hist} (o : OkH h) : ∀ d ∈ (puts h).map Deed.one, gd 40 d = true := fun d hd => by
  obtain ⟨x, hx, rfl⟩ := List.mem_map.mp hd
  exact gd_one (o x (List.mem_filter.mp hx).1)
theorem k_boxes {C : Hm} (W : WB C) {h : Hist} (o : OkH h) (hl : h.length ≤ 1000) {ml : MA} {E : Ev} (he : ml E C = some ([histD h], C)) : mKeepF (mCall M_boxes_put ml) E C = some (.tup ((puts h).map Deed.one), C) :=
  keep_pure W ((call_eq he).trans (boxes_put_ok hl)) (by simp only [D.bnd]; exact bnds_gd (puts_gd o))
def Deed.n : Deed → Int
  | .take n => (n : Int) | _ => 0
theorem take_one {d : Deed} (h : d.isTake = true) : d.one = .int d.n := by cases d <;> first | rfl | cases h
theorem nats_rng (n : Nat) : rngD 0 n = natsD (List.range n) := by
  unfold rngD natsD
  refine List.map_congr_left fun a _ => ?_
  simp
theorem lying_ok {C : Hm} (W : WB C) {h : Hist} {t : Nat} (o : OkH h) (hl : h.length ≤ 1000) (ht : t ≤ h.length) : ∃ g, M_lying [histD h, .int (t : Int)] C = some (.tup (natsD (lyF (h.take t))), C ++ g) := by
  have hz : (1000 : Nat) ≤ sizeLine := by decide
  have tl : (h.take t).length ≤ 1000 := by simp; omega
  have m1 := k_moment W ht (ml := mCons (mVar 0) (mCons (mVar 1) mNil)) (E := [some (histD h), some (.int (t : Int)), none, none, none, none]) rfl
  obtain ⟨kvs, d1, d2, d3⟩ := dc_ints (C := C) (src := mIAny (mVar 2)) (tg := gN 4) (tt := mTest (mBin dEq (mBin ixD (mVar 4) (mC (.int 0))) (mC (.str (Str.ofString "take"))))) (mk := mBin ixD (mVar 4) (mC (.int 1))) (mv := mC (.bl true)) (vs := [4]) (E := [some (histD h), some (.int (t : Int)), some (histD (h.take t)), none, none, none]) (enc := deedD) (xs := h.take t) Deed.isTake Deed.n (src_hist rfl) (by omega) (fun d hd => ⟨_, rfl, by rw [tst_w (d := d) sTake rfl, w_take], fun e => ⟨by rw [ix1 (d := d) rfl, take_one e], rfl⟩⟩)
  have W2 : WB (C ++ [.dix kvs]) := W.push (by
    simp only [Cell.bnd, List.all_eq_true]
    intro q hq
    rw [d3 q hq]; rfl)
  have tk : ∀ b : Nat, hasM kvs (.i (b : Int)) = (takesF (h.take t)).contains b := fun b => by
    rw [d2, Bool.eq_iff_iff, decide_eq_true_iff, List.contains_iff_mem]
    simp only [takesF, List.mem_map, List.mem_filter, List.mem_filterMap]
    constructor
    · rintro ⟨d, ⟨h1, h2⟩, h3⟩
      refine ⟨d, h1, ?_⟩
      cases d with
      | take n => simp only [Deed.n] at h3; rw [show n = b by omega]
      | _ => cases h2
    · rintro ⟨d, h1, h2⟩
      refine ⟨d, ?_⟩
      cases d <;> simp at h2
      subst h2
      exact ⟨⟨h1, rfl⟩, rfl⟩
  have b1 := k_boxes W2 (o.take t) tl (ml := mCons (mVar 2) mNil) (E := [some (histD h), some (.int (t : Int)), some (histD (h.take t)), some (.cell C.length), none, none]) rfl
  have src : mIRng1 (mCons (mCallB lenD (mCons (mKeepF (mCall M_boxes_put (mCons (mVar 2) mNil))) mNil)) mNil) [some (histD h), some (.int (t : Int)), some (histD (h.take t)), some (.cell C.length), none, none] (C ++ [.dix kvs]) = some (.seq (natsD (List.range (puts (h.take t)).length)), (List.range (puts (h.take t)).length).length, C ++ [.dix kvs]) := by
    have pl : (puts (h.take t)).length ≤ 1000 := Nat.le_trans (List.length_filter_le _ _) tl
    rw [src_rng (n := (puts (h.take t)).length) (cons_eq (d := .int ((puts (h.take t)).length : Int)) ((callB_eq (cons_eq b1 nil_eq)).trans (show lenD [.tup ((puts (h.take t)).map Deed.one)] (C ++ [.dix kvs]) = some (.int ((puts (h.take t)).length : Int), C ++ [.dix kvs]) by simp [lenD])) nil_eq) (by omega), nats_rng, List.length_range]
  have lc := lcE (enc := fun n : Nat => D.int (n : Int)) (xs := List.range (puts (h.take t)).length) (tg := gN 5) (tt := mTest (mBin (inX true) (mVar 5) (mVar 3))) (elt := mVar 5) (vs := [5]) (fun b => !(takesF (h.take t)).contains b) (fun b => .int (b : Int)) src (by rw [List.length_range]; exact Nat.le_trans (Nat.le_trans (List.length_filter_le _ _) tl) hz) (fun b hb => ⟨_, rfl, by
    unfold mTest
    rw [bin_eq (x := .int (b : Int)) (y := .cell C.length) rfl rfl, in_dix last_get, tk]; rfl, fun _ => rfl⟩)
  refine ⟨[.dix kvs], fn_ret rfl ?_⟩
  show B_lying [some (histD h), some (.int (t : Int)), none, none, none, none] C = _
  unfold B_lying
  refine (seq_nx (drop_eq m1)).trans ((seq_nx (asg_eq (sl_hist (h := h) (k := t) rfl rfl))).trans ((seq_nx (asg_eq d1)).trans ?_))
  refine ret_eq ((callB_eq (cons_eq lc nil_eq)).trans ?_)
  rfl
theorem k_lying {C : Hm} (W : WB C) {h : Hist} {t : Nat} (o : OkH h) (hl : h.length ≤ 1000) (ht : t ≤ h.length) {ml : MA} {E : Ev} (he : ml E C = some ([histD h, .int (t : Int)], C)) : mKeepF (mCall M_lying ml) E C = some (.tup (natsD (lyF (h.take t))), C) := by
  obtain ⟨g, e⟩ := lying_ok W o hl ht
  exact keep_val W ((call_eq he).trans e) (by simp only [D.bnd]; exact nats_bnds _)
end G
set_option Elab.async false
set_option linter.all false
set_option maxRecDepth 100000
set_option maxHeartbeats 1000000
namespace G
open PySem L2 Mi Au
def Deed.who : Deed → Str
  | .hand w _ => w | _ => sWorld
def Deed.key : Deed → Int
  | .hand _ k => k | .leak k => k | _ => 0
def inHand (crew : List Str) (d : Deed) : Bool := d.isHand && decide (d.who ∈ crew)
def inLeak (crew : List Str) (d : Deed) : Bool := d.isLeak && decide (sWorld ∈ crew)
def handF (h : Hist) (crew : List Str) : List Int := (h.filter (inHand crew)).map Deed.key ++ (h.filter (inLeak crew)).map Deed.key
abbrev strsD (l : List Str) : D := .tup (l.map .str)
def StrsOk (l : List Str) : Prop := ∀ s ∈ l, PyData.strOk s = true
theorem StrsOk.gd {l : List Str} (h : StrsOk l) {n : Nat} : ∀ d ∈ l.map D.str, gd (n + 1) d = true := fun d hd => by
  obtain ⟨s, hs, rfl⟩ := List.mem_map.mp hd
  exact h s hs
theorem str_inj : ∀ a b : Str, D.str a = D.str b → a = b := fun a b h => by cases h; rfl
theorem in_strs {neg : Bool} {s : Str} {l : List Str} {C : Hm} (hs : PyData.strOk s = true) (h : StrsOk l) : inD neg (.str s) (strsD l) C = some (.bl (if neg then !decide (s ∈ l) else decide (s ∈ l)), C) := by
  rw [inD_tup (show gd 60 (.str s) = true from hs) h.gd, memD_map (n := 60) (m := 60) str_inj hs fun b hb => h b hb]
theorem tst_w2 {C : Hm} {E : Ev} {i : Nat} {d : Deed} (s : Str) (h : E[i]? = some (some (deedD d))) : mTest (mBin dEq (mBin ixD (mVar i) (mC (.int 0))) (mC (.str s))) E C = some (d.w == s, C) := tst_w s h
theorem ix2 {C : Hm} {E : Ev} {i : Nat} {d : Deed} (h : E[i]? = some (some (deedD d))) (hd : d.isHand = true) : mBin ixD (mVar i) (mC (.int 2)) E C = some (.int d.key, C) := by
  refine (bin_eq (var_eq h) (show mC (.int 2) E C = some (.int 2, C) from rfl)).trans ?_
  cases d <;> first | rfl | cases hd
theorem leak_one {d : Deed} (h : d.isLeak = true) : d.one = .int d.key := by cases d <;> first | rfl | cases h
theorem hand_one {d : Deed} (h : d.isHand = true) : d.one = .str d.who := by cases d <;> first | rfl | cases h
theorem ok_who {d : Deed} (o : okDeed d = true) (h : d.isHand = true) : PyData.strOk d.who = true := by cases d <;> first | exact o | cases h
theorem and_eq {m n : MT} {E : Ev} {C : Hm} {a b : Bool} (h1 : m E C = some (a, C)) (h2 : a = true → n E C = some (b, C)) : (tAndM m n) E C = some (a && b, C) := by
  unfold tAndM
  rw [h1]
  cases a with
  | false => rfl
  | true => exact h2 rfl
/-- the comprehension over who was handed a key -/
theorem lc_hand {C : Hm} {E : Ev} {h : Hist} {crew : List Str} {src : MI} {i j : Nat} (hi : i < E.length) (hj : E[j]? = some (some (strsD crew))) (hij : j ≠ i) (o : OkH h) (k : StrsOk crew) (hl : h.length ≤ 1000) (hs : src E C = some (.seq (h.map deedD), h.length, C)) :
    mLcV src (gN i) (tAndM (mTest (mBin dEq (mBin ixD (mVar i) (mC (.int 0))) (mC (.str (Str.ofString "hand"))))) (mTest (mBin (inD false) (mBin ixD (mVar i) (mC (.int 1))) (mVar j)))) (mBin ixD (mVar i) (mC (.int 2))) [i] E C = some (.rol (((h.filter (inHand crew)).map Deed.key).map .int), C) := by
  have hi2 : i < (wipeE E [i]).length := by simp [wipeE, hi]
  rw [lcE (enc := deedD) (xs := h) (inHand crew) (fun d => .int d.key) hs (mem_le hl) fun d hd => ⟨(wipeE E [i]).set i (some (deedD d)), rfl, ?_, fun e => ?_⟩]
  · rw [List.map_map]; rfl
  · refine and_eq (a := d.isHand) (b := decide (d.who ∈ crew)) ?_ fun e => ?_
    · rw [tst_w (d := d) sHand (List.getElem?_set_self hi2), w_hand]
    · unfold mTest
      rw [bin_eq (x := .str d.who) (y := strsD crew) ((ix1 (d := d) (List.getElem?_set_self hi2)).trans (by rw [hand_one e])) (var_eq (by rw [List.getElem?_set_ne (Ne.symm hij)]; simp only [wipeE]; rw [List.getElem?_set_ne (Ne.symm hij)]; exact hj)), in_strs (ok_who (o d hd) e) k]
      rfl
  · have e : (d.isHand && decide (d.who ∈ crew)) = true := e
    rw [Bool.and_eq_true] at e
    exact ix2 (List.getElem?_set_self hi2) e.1
theorem lc_leak {C : Hm} {E : Ev} {h : Hist} {crew : List Str} {src : MI} {i j : Nat} (hi : i < E.length) (hj : E[j]? = some (some (strsD crew))) (hij : j ≠ i) (k : StrsOk crew) (hl : h.length ≤ 1000) (hs : src E C = some (.seq (h.map deedD), h.length, C)) :
    mLcV src (gN i) (tAndM (mTest (mBin dEq (mBin ixD (mVar i) (mC (.int 0))) (mC (.str (Str.ofString "leak"))))) (mTest (mBin (inD false) (mC (.str (Str.ofString "world"))) (mVar j)))) (mBin ixD (mVar i) (mC (.int 1))) [i] E C = some (.rol (((h.filter (inLeak crew)).map Deed.key).map .int), C) := by
  have hi2 : i < (wipeE E [i]).length := by simp [wipeE, hi]
  rw [lcE (enc := deedD) (xs := h) (inLeak crew) (fun d => .int d.key) hs (mem_le hl) fun d hd => ⟨(wipeE E [i]).set i (some (deedD d)), rfl, ?_, fun e => ?_⟩]
  · rw [List.map_map]; rfl
  · refine and_eq (a := d.isLeak) (b := decide (sWorld ∈ crew)) ?_ fun e => ?_
    · rw [tst_w (d := d) sLeak (List.getElem?_set_self hi2), w_leak]
    · unfold mTest
      rw [bin_eq (x := .str sWorld) (y := strsD crew) rfl (var_eq (by rw [List.getElem?_set_ne (Ne.symm hij)]; simp only [wipeE]; rw [List.getElem?_set_ne (Ne.symm hij)]; exact hj)), in_strs (w_dec _ (by simp)) k]
      rfl
  · have e : (d.isLeak && decide (sWorld ∈ crew)) = true := e
    rw [Bool.and_eq_true] at e
    rw [ix1 (d := d) (List.getElem?_set_self hi2), leak_one e.1]
theorem hand_len (h : Hist) (crew : List Str) : (handF h crew).length ≤ h.length := by
  unfold handF
  rw [List.length_append, List.length_map, List.length_map]
  induction h with
  | nil => simp
  | cons d h ih =>
    simp only [List.filter_cons, List.length_cons]
    have : ¬ (inHand crew d = true ∧ inLeak crew d = true) := by
      simp only [inHand, inLeak, Bool.and_eq_true]
      cases d <;> simp [Deed.isHand, Deed.isLeak]
    split <;> split <;> simp_all <;> omega
theorem law_hand_ok {C : Hm} (W : WB C) {h : Hist} {crew : List Str} {t : Nat} (o : OkH h) (k : StrsOk crew) (hl : h.length ≤ 1000) : M_law_hand [histD h, strsD crew, .int (t : Int)] C = some (.rol ((handF (h.take t) crew).map .int), C) := by
  have hz : (2000 : Nat) ≤ sizeLine := by decide
  have tl : (h.take t).length ≤ 1000 := by simp; omega
  have s1 : mIAny (mSl slD (mVar 0) oNone (oSome (mVar 2))) [some (histD h), some (strsD crew), some (.int (t : Int)), none, none] C = _ := src_cut (h := h) (k := t) rfl rfl
  have l1 := lc_hand (i := 4) (j := 1) (by simp) rfl (by decide) (o.take t) k tl s1
  have s2 : mIAny (mSl slD (mVar 0) oNone (oSome (mVar 2))) [some (histD h), some (strsD crew), some (.int (t : Int)), some (.rol ((((h.take t).filter (inHand crew)).map Deed.key).map .int)), none] C = _ := src_cut (h := h) (k := t) rfl rfl
  have l2 := lc_leak (i := 4) (j := 1) (by simp) rfl (by decide) k tl s2
  refine fn_ret rfl ?_
  show B_law_hand [some (histD h), some (strsD crew), some (.int (t : Int)), none, none] C = _
  unfold B_law_hand
  refine (seq_nx (asg_eq l1)).trans (ret_eq ?_)
  refine (addF W (var_eq rfl) l2 (ints_b _) (ints_b _) ?_).trans (by rw [handF, List.map_append])
  have := hand_len (h.take t) crew
  unfold handF at this
  simp only [List.length_append, List.length_map] at this ⊢
  omega
theorem k_law_hand {C : Hm} (W : WB C) {h : Hist} {crew : List Str} {t : Nat} (o : OkH h) (k : StrsOk crew) (hl : h.length ≤ 1000) {ml : MA} {E : Ev} (he : ml E C = some ([histD h, strsD crew, .int (t : Int)], C)) : mKeepF (mCall M_law_hand ml) E C = some (.rol ((handF (h.take t) crew).map .int), C) :=
  keep_pure W ((call_eq he).trans (law_hand_ok W o k hl)) (by simp only [D.bnd]; exact ints_b _)
/-! ## _law_pair of ints -/
theorem filter_all {α : Type} (l : List α) : l.filter (fun _ => true) = l := by simp
theorem pair_ok {C : Hm} (W : WB C) {l : List Int} (hl : l.length ≤ 60) : M_law_pair [.rol (l.map .int)] C = some (.tup [.tup ((dedup (sortI l)).map .int), .tup []], C) := by
  have hz : (60 : Nat) ≤ sizeLine := by decide
  have l1 : mLcV (mIAny (mVar 0)) (gN 2) (mTru (mCallB isiD (mCons (mVar 2) (mCons (mC (.ty .int)) mNil)))) (mVar 2) [2] [some (.rol (l.map .int)), none, none] C = some (.rol (l.map .int), C) := by
    rw [lcE (enc := D.int) (xs := l) (fun _ => true) D.int (by rw [src_rol rfl, List.length_map]) (by omega) fun i hi => ⟨_, rfl, rfl, fun _ => rfl⟩, filter_all]
  have l2 : mLcV (mIAny (mVar 0)) (gN 2) (tNotM (mTru (mCallB isiD (mCons (mVar 2) (mCons (mC (.ty .int)) mNil))))) (mVar 2) [2] [some (.rol (l.map .int)), some (.rol ((dedup (sortI l)).map .int)), none] C = some (.rol (([] : List Int).map .int), C) := by
    rw [lcE (enc := D.int) (xs := l) (fun _ => false) D.int (by rw [src_rol rfl, List.length_map]) (by omega) fun i hi => ⟨_, rfl, rfl, fun e => by cases e⟩]
    simp
  refine fn_ret rfl ?_
  show B_law_pair [some (.rol (l.map .int)), none, none] C = _
  unfold B_law_pair
  have e1 : dedup (sortI []) = [] := by rw [(sortI_perm []).eq_nil]; rfl
  refine (seq_nx (asg_eq (srtSetF W l1 (by omega)))).trans (ret_eq (tup_eq (cons_eq (d := .tup ((dedup (sortI l)).map .int)) (C1 := C) ?_ (cons_eq (d := .tup []) (C1 := C) ?_ nil_eq)) (show 2 ≤ sizeLine by decide)))
  · exact (callB_eq (cons_eq (var_eq rfl) nil_eq)).trans rfl
  · refine (callB_eq (cons_eq (srtSetF W l2 (by simp)) nil_eq)).trans ?_
    rw [e1]; rfl
theorem k_pair0 {C : Hm} (W : WB C) {l : List Int} (hl : l.length ≤ 60) {ml : MA} {E : Ev} (he : ml E C = some ([.rol (l.map .int)], C)) : mBin ixD (mKeepF (mCall M_law_pair ml)) (mC (.int 0)) E C = some (.tup ((dedup (sortI l)).map .int), C) := by
  refine (bin_eq (keep_pure W ((call_eq he).trans (pair_ok W hl)) ?_) (show mC (.int 0) E C = some (.int 0, C) from rfl)).trans rfl
  simp [D.bnd, bnds, ints_b]
/-! ## who was handed a key -/
def namesF (h : Hist) : List Str := (h.filter Deed.isHand).map Deed.who
def folkF (h : Hist) : List Str := setS (namesF h)
theorem names_ok {h : Hist} (o : OkH h) : StrsOk (namesF h) := fun s hs => by
  obtain ⟨d, hd, rfl⟩ := List.mem_map.mp hs
  obtain ⟨h1, h2⟩ := List.mem_filter.mp hd
  exact ok_who (o d h1) h2
theorem folk_ok {h : Hist} (o : OkH h) : StrsOk (folkF h) := fun s hs => names_ok o s (setS_mem.mp hs)
theorem names_len (h : Hist) : (namesF h).length ≤ h.length := by
  unfold namesF
  rw [List.length_map]
  exact List.length_filter_le _ _
theorem nub_len : ∀ l : List Str, (nub l).length ≤ l.length
  | [] => by simp [nub]
  | a :: l => by
    have := nub_len l
    unfold nub
    split <;> simp <;> omega
theorem folk_len (h : Hist) : (folkF h).length ≤ h.length := by
  unfold folkF setS
  rw [(srtS_perm _).length_eq]
  exact Nat.le_trans (nub_len _) (names_len h)
theorem k_holders {C : Hm} (W : WB C) {h : Hist} (hl : h.length ≤ 60) {ml : MA} {E : Ev} (he : ml E C = some ([histD h], C)) : mKeepF (mCall M_holders_of ml) E C = some (strsD (folkF h), C) := by
  refine keep_pure W ((call_eq he).trans (fn_ret rfl (ret_eq ((callB_eq (cons_eq (frz_new W (sc1_eq (enc := deedD) (xs := h) Deed.isHand Deed.who (src_hist rfl) hl fun d hd => ⟨_, rfl, ?_, fun e => ?_⟩) (strs_b _)) nil_eq)).trans rfl)))) ?_
  · rw [tst_w (d := d) sHand rfl, w_hand]
  · rw [ix1 (d := d) rfl, hand_one e]
  · simp only [D.bnd]; exact strs_b _
theorem k_folk {C : Hm} (W : WB C) {h : Hist} (hl : h.length ≤ 60) {ml : MA} {E : Ev} (he : ml E C = some ([histD h], C)) : mKeepF (mCall M_law_folk ml) E C = some (.rol ((folkF h).map .str), C) := by
  have nl := names_len h
  refine keep_pure W ((call_eq he).trans (fn_ret rfl (ret_eq (srtSetT W (l := namesF h) ?_ (by omega))))) ?_
  · rw [lcE (enc := deedD) (xs := h) Deed.isHand (fun d => .str d.who) (src_hist rfl) (mem_le (by omega)) fun d hd => ⟨_, rfl, by rw [tst_w (d := d) sHand rfl, w_hand], fun e => by rw [ix1 (d := d) rfl, hand_one e]⟩]
    rw [namesF, List.map_map]; rfl
  · simp only [D.bnd]; exact strs_b _
end G
set_option Elab.async false
set_option linter.all false
set_option maxRecDepth 100000
set_option maxHeartbeats 1000000
namespace G
open PySem L2 Mi Au
theorem src_enum {E : Ev} {C : Hm} {i : Nat} {ds : List D} (h : E[i]? = some (some (.tup ds))) : mIEnum (mCons (mVar i) mNil) E C = some (.seq (enD 0 ds), ds.length, C) := by
  unfold mIEnum
  rw [cons_eq (var_eq h) nil_eq]; rfl
theorem enD_len : ∀ (k : Int) (ds : List D), (enD k ds).length = ds.length
  | _, [] => rfl
  | k, d :: ds => by simp [enD, enD_len (k + 1) ds]
theorem or_eq {m n : MT} {E : Ev} {C : Hm} {a b : Bool} (h1 : m E C = some (a, C)) (h2 : a = false → n E C = some (b, C)) : (tOrM m n) E C = some (a || b, C) := by
  unfold tOrM
  rw [h1]
  cases a with
  | true => rfl
  | false => exact h2 rfl
theorem mem_gd {x : D} {l : List D} (hx : gd 59 x = true) (hl : ∀ d ∈ l, gd 59 d = true) : memD x l = true ↔ x ∈ l := memD_iff hx hl
/-- the test of check_known at place i -/
theorem known_tst {C : Hm} {names ds : List D} {i : Nat} {x : D} (hn : ∀ d ∈ names, gd 58 d = true) (hd : ∀ d ∈ ds, gd 58 d = true) (hx : gd 58 x = true) : (tOrM (mTest (mBin (inD true) (mVar 3) (mVar 0))) (mTest (mBin (inD false) (mVar 3) (mSl slD (mVar 1) oNone (oSome (mVar 2)))))) [some (.tup names), some (.tup ds), some (.int (i : Int)), some x] C = some (!memD x names || memD x (ds.take i), C) := by
  have up : ∀ {l : List D}, (∀ d ∈ l, gd 58 d = true) → ∀ d ∈ l, gd 59 d = true := fun h d hd => gd_up (h d hd)
  have x60 : gd 60 x = true := gd_up (gd_up hx)
  refine or_eq (a := !memD x names) (b := memD x (ds.take i)) ?_ fun _ => ?_
  · unfold mTest
    rw [bin_eq (x := x) (y := .tup names) rfl rfl, inD_tup x60 (up hn)]; rfl
  · unfold mTest
    have : mSl slD (mVar 1) oNone (oSome (mVar 2)) [some (.tup names), some (.tup ds), some (.int (i : Int)), some x] C = some (.tup (ds.take i), C) := by
      show some (D.tup (cutD ds none (some (i : Int))), C) = _
      rw [lo_take]
    rw [bin_eq (x := x) rfl this, inD_tup x60 (up fun d h => hd d (List.mem_of_mem_take h))]; rfl
/-- a group whose values are all known, each once -/
structure Known (names ds : List D) : Prop where
  n : ∀ d ∈ names, gd 58 d = true
  d : ∀ d ∈ ds, gd 58 d = true
  sub : ∀ d ∈ ds, d ∈ names
  nd : ds.Nodup
theorem known_ok {C : Hm} {names ds : List D} (k : Known names ds) : M_check_known [.tup names, .tup ds] C = some (.non, C) := by
  have w : We (M_check_known [.tup names, .tup ds] C) fun d C' => d = .non ∧ C' = C := by
    refine fn_wo rfl (wo_for (ds := enD 0 ds) (it := .seq (enD 0 ds)) (fun _ E C' => E = [some (.tup names), some (.tup ds), none, none] ∧ C' = C) (by rw [src_enum rfl, enD_len]) ⟨rfl, rfl⟩ (fun _ _ _ _ => rfl) ?_ fun E C' h => ⟨rfl, h.2⟩)
    rintro i d E C' hd ⟨rfl, rfl⟩
    rw [enD_at] at hd
    obtain ⟨x, hx, rfl⟩ := omap hd
    have xm : x ∈ ds := List.mem_of_getElem? hx
    refine ⟨_, rfl, wo_wipe (wo_if (by rw [Int.zero_add]; exact known_tst (i := i) k.n k.d (k.d x xm)) (fun e => ?_) fun e => wo_next ⟨rfl, rfl⟩)⟩
    exfalso
    have g59 : gd 59 x = true := gd_up (k.d x xm)
    rw [Bool.or_eq_true, Bool.not_eq_true', ← Bool.not_eq_true, mem_gd g59 (fun d h => gd_up (k.n d h)), mem_gd g59 (fun d h => gd_up (k.d d (List.mem_of_mem_take h)))] at e
    rcases e with e | e
    · exact e (k.sub x xm)
    · obtain ⟨j, hj, ej⟩ := List.getElem_of_mem e
      have hji : j < i := by simp at hj; omega
      have h2 : ds[j]? = some x := by rw [← ej, List.getElem_take]; exact List.getElem?_eq_getElem _
      obtain ⟨a1, a2⟩ := List.getElem?_eq_some_iff.mp hx
      obtain ⟨b1, b2⟩ := List.getElem?_eq_some_iff.mp h2
      have := (List.getElem_inj k.nd).mp (b2.trans a2.symm)
      omega
  obtain ⟨d, C', e, rfl, rfl⟩ := w.ex
  exact e
/-- the names of a history's holders and the world -/
def allF (h : Hist) : List Str := folkF h ++ [sWorld]
theorem all_ok {h : Hist} (o : OkH h) : StrsOk (allF h) := fun s hs => by
  rcases List.mem_append.mp hs with z | z
  · exact folk_ok o s z
  · rw [List.mem_singleton.mp z]; exact w_dec _ (by simp)
theorem add_tups {a b : List D} {C : Hm} (h : a.length + b.length ≤ sizeLine) : addD (.tup a) (.tup b) C = some (.tup (a ++ b), C) := if_pos h
theorem names_eq {C : Hm} (W : WB C) {h : Hist} (hl : h.length ≤ 60) {ml : MA} {E : Ev} (he : ml E C = some ([histD h], C)) : mBin addD (mKeepF (mCall M_holders_of ml)) (mTup (mCons (mC (.str (Str.ofString "world"))) mNil)) E C = some (strsD (allF h), C) := by
  have hz : (100 : Nat) ≤ sizeLine := by decide
  have := folk_len h
  refine (bin_eq (k_holders W hl he) (tup_eq (ds := [.str sWorld]) (C1 := C) rfl)).trans ((add_tups (by simp; omega)).trans ?_)
  simp [allF]
structure Crew (h : Hist) (g : List Str) : Prop where
  ok : StrsOk g
  sub : ∀ s ∈ g, s ∈ allF h
  nd : g.Nodup
theorem nodup_map {α β : Type} {f : α → β} (inj : ∀ a b, f a = f b → a = b) : ∀ {l : List α}, l.Nodup → (l.map f).Nodup
  | [], _ => by simp
  | a :: l, h => by
    rw [List.nodup_cons] at h
    rw [List.map_cons, List.nodup_cons]
    exact ⟨fun z => by obtain ⟨b, hb, e⟩ := List.mem_map.mp z; rw [inj _ _ e] at hb; exact h.1 hb, nodup_map inj h.2⟩
theorem Crew.known {h : Hist} {g : List Str} (o : OkH h) (c : Crew h g) : Known ((allF h).map .str) (g.map .str) :=
  ⟨(all_ok o).gd, c.ok.gd, fun d hd => by obtain ⟨s, hs, rfl⟩ := List.mem_map.mp hd; exact List.mem_map.mpr ⟨s, c.sub s hs, rfl⟩, nodup_map str_inj c.nd⟩
theorem members_ok {C : Hm} (W : WB C) {h : Hist} {g : List Str} (o : OkH h) (hl : h.length ≤ 60) (c : Crew h g) : M_check_members [histD h, strsD g] C = some (.non, C) := by
  have a := names_eq W hl (ml := mCons (mVar 0) mNil) (E := [some (histD h), some (strsD g)]) rfl
  have k := keep_pure W ((call_eq (M := M_check_known) (cons_eq a (cons_eq (var_eq (i := 1) (d := strsD g) rfl) nil_eq))).trans (known_ok (c.known o))) rfl
  refine fn_nx (E' := [some (histD h), some (strsD g)]) rfl ?_
  exact drop_eq k
theorem k_members {C : Hm} (W : WB C) {h : Hist} {g : List Str} (o : OkH h) (hl : h.length ≤ 60) (c : Crew h g) {ml : MA} {E : Ev} (he : ml E C = some ([histD h, strsD g], C)) : mKeepF (mCall M_check_members ml) E C = some (.non, C) := keep_pure W ((call_eq he).trans (members_ok W o hl c)) rfl
theorem hand_at_ok {C : Hm} (W : WB C) {h : Hist} {g : List Str} {t : Nat} (o : OkH h) (hl : h.length ≤ 60) (c : Crew h g) (ht : t ≤ h.length) : M_hand_at [histD h, strsD g, .int (t : Int)] C = some (.tup ((dedup (sortI (handF (h.take t) g))).map .int), C) := by
  have hz : (2000 : Nat) ≤ sizeLine := by decide
  have tl : (h.take t).length ≤ 1000 := by simp; omega
  let E0 : Ev := [some (histD h), some (strsD g), some (.int (t : Int)), none, none, none, none]
  have m1 := k_members W o hl c (ml := mCons (mVar 0) (mCons (mVar 1) mNil)) (E := E0) rfl
  have m2 := k_moment W ht (ml := mCons (mVar 0) (mCons (mVar 2) mNil)) (E := E0) rfl
  have l1 := lc_hand (C := C) (E := [some (histD h), some (strsD g), some (.int (t : Int)), some (histD (h.take t)), none, none, none]) (i := 5) (j := 1) (by simp) rfl (by decide) (o.take t) c.ok tl (src_hist (i := 3) rfl)
  have l2 := lc_leak (C := C) (E := [some (histD h), some (strsD g), some (.int (t : Int)), some (histD (h.take t)), some (.rol ((((h.take t).filter (inHand g)).map Deed.key).map .int)), none, none]) (i := 5) (j := 1) (by simp) rfl (by decide) c.ok tl (src_hist (i := 3) rfl)
  have nl := hand_len (h.take t) g
  have tl2 : (h.take t).length ≤ 60 := by simp; omega
  refine fn_ret rfl ?_
  show B_hand_at E0 C = _
  unfold B_hand_at
  refine (seq_nx (drop_eq m1)).trans ((seq_nx (drop_eq m2)).trans ((seq_nx (asg_eq (sl_hist (h := h) (k := t) rfl rfl))).trans ((seq_nx (asg_eq l1)).trans ((seq_nx (asg_eq l2)).trans (ret_eq ?_)))))
  refine (callB_eq (cons_eq (srtSetF W (l := handF (h.take t) g) ?_ (by omega)) nil_eq)).trans rfl
  refine (addF W (var_eq rfl) (var_eq rfl) (ints_b _) (ints_b _) ?_).trans (by rw [handF, List.map_append])
  unfold handF at nl
  simp only [List.length_append, List.length_map] at nl ⊢
  omega
theorem k_hand_at {C : Hm} (W : WB C) {h : Hist} {g : List Str} {t : Nat} (o : OkH h) (hl : h.length ≤ 60) (c : Crew h g) (ht : t ≤ h.length) {ml : MA} {E : Ev} (he : ml E C = some ([histD h, strsD g, .int (t : Int)], C)) : mKeepF (mCall M_hand_at ml) E C = some (.tup ((dedup (sortI (handF (h.take t) g))).map .int), C) :=
  keep_pure W ((call_eq he).trans (hand_at_ok W o hl c ht)) (by simp only [D.bnd]; exact ints_b _)
end G
set_option Elab.async false
set_option linter.all false
set_option maxRecDepth 100000
set_option maxHeartbeats 1000000
namespace G
open PySem L2 Mi Au
theorem known_pass {C : Hm} {names ds : List D} (k : Known names ds) : X_check_known [.tup names, .tup ds] C = some (.ok .non C) := by
  have w : Wx (BX_check_known [some (.tup names), some (.tup ds), none, none] C) (fun _ C' => C' = C) (fun _ _ _ => False) := by
    refine wx_for (ds := enD 0 ds) (it := .seq (enD 0 ds)) (fun _ E C' => (∃ a b, E = [some (.tup names), some (.tup ds), a, b]) ∧ C' = C) (by rw [src_enum rfl, enD_len]) ⟨⟨_, _, rfl⟩, rfl⟩ (fun _ _ _ _ => rfl) ?_ fun E C' h => h.2
    rintro i d E C' hd ⟨⟨a, b, rfl⟩, rfl⟩
    rw [enD_at] at hd
    obtain ⟨x, hx, rfl⟩ := omap hd
    have xm : x ∈ ds := List.mem_of_getElem? hx
    refine ⟨_, rfl, ?_⟩
    have e : (!memD x names || memD x (ds.take i)) = false := by
      have g59 : gd 59 x = true := gd_up (k.d x xm)
      rw [Bool.or_eq_false_iff, Bool.not_eq_false']
      refine ⟨(mem_gd g59 fun d h => gd_up (k.n d h)).mpr (k.sub x xm), ?_⟩
      rw [← Bool.not_eq_true, mem_gd g59 (fun d h => gd_up (k.d d (List.mem_of_mem_take h)))]
      intro e
      obtain ⟨j, hj, ej⟩ := List.getElem_of_mem e
      have hji : j < i := by simp at hj; omega
      have h2 : ds[j]? = some x := by rw [← ej, List.getElem_take]; exact List.getElem?_eq_getElem _
      obtain ⟨a1, a2⟩ := List.getElem?_eq_some_iff.mp hx
      obtain ⟨b1, b2⟩ := List.getElem?_eq_some_iff.mp h2
      have := (List.getElem_inj k.nd).mp (b2.trans a2.symm)
      omega
    rw [Int.zero_add]
    exact wx_if (known_tst (i := i) k.n k.d (k.d x xm)) (fun z => by rw [e] at z; cases z) fun _ => ⟨⟨_, _, rfl⟩, rfl⟩
  cases q : BX_check_known [some (.tup names), some (.tup ds), none, none] C with
  | none => rw [q] at w; exact w.elim
  | some o =>
    rw [q] at w
    cases o with
    | ex c d C2 => exact w.elim
    | o x =>
      cases x with
      | nx E2 C2 => rw [show C = C2 from w.symm] at q ⊢; exact fnx_nx rfl q
      | rt d C2 => exact w.elim
      | bk E2 C2 => exact w.elim
      | ct E2 C2 => exact w.elim
theorem known_raise {C : Hm} {names ds : List D} (hn : ∀ d ∈ names, gd 58 d = true) (hd : ∀ d ∈ ds, gd 58 d = true) {j : Nat} {x : D} (hj : ds[j]? = some x) (good : ∀ i y, i < j → ds[i]? = some y → (!memD y names || memD y (ds.take i)) = false) (bad : (!memD x names || memD x (ds.take j)) = true) : X_check_known [.tup names, .tup ds] C = some (.ex 0 x C) := by
  have w : Wx (BX_check_known [some (.tup names), some (.tup ds), none, none] C) (fun _ C' => False) (fun c d C' => c = 0 ∧ d = x ∧ C' = C) := by
    refine wx_for (ds := enD 0 ds) (it := .seq (enD 0 ds)) (fun i E C' => i ≤ j ∧ (∃ a b, E = [some (.tup names), some (.tup ds), a, b]) ∧ C' = C) (by rw [src_enum rfl, enD_len]) ⟨by omega, ⟨_, _, rfl⟩, rfl⟩ (fun _ _ _ _ => rfl) ?_ fun E C' h => ?_
    · rintro i d E C' hd0 ⟨hij, ⟨a, b, rfl⟩, rfl⟩
      rw [enD_at] at hd0
      obtain ⟨y, hy, rfl⟩ := omap hd0
      have ym : y ∈ ds := List.mem_of_getElem? hy
      refine ⟨_, rfl, ?_⟩
      rw [Int.zero_add]
      refine wx_if (known_tst (i := i) hn hd (hd y ym)) (fun z => ?_) fun z => ?_
      · have : i = j := by
          by_cases hlt : i < j
          · rw [good i y hlt hy] at z; cases z
          · omega
        subst this
        rw [hj] at hy
        cases hy
        exact ⟨rfl, rfl, rfl⟩
      · refine ⟨?_, ⟨_, _, rfl⟩, rfl⟩
        by_cases hlt : i < j
        · omega
        · have : i = j := by omega
          subst this
          rw [hj] at hy
          cases hy
          rw [bad] at z; cases z
    · have := (List.getElem?_eq_some_iff.mp hj).1
      rw [enD_len] at h
      omega
  cases q : BX_check_known [some (.tup names), some (.tup ds), none, none] C with
  | none => rw [q] at w; exact w.elim
  | some o =>
    rw [q] at w
    cases o with
    | ex c d C2 => obtain ⟨rfl, rfl, rfl⟩ := w; exact fnx_ex rfl q
    | o x =>
      cases x with
      | nx E2 C2 => exact w.elim
      | rt d C2 => exact w.elim
      | bk E2 C2 => exact w.elim
      | ct E2 C2 => exact w.elim
/-- a value that is no moment -/
def OddM (h : Hist) (d : D) : Prop := (∀ C, M_is_number [d] C = some (.bl false, C)) ∨ d = .int ((h.length : Int) + 1)
theorem moment_raise {C : Hm} (W : WB C) {h : Hist} {d : D} (o : OddM h d) : X_check_moment [histD h, d] C = some (.ex 1 d C) := by
  refine fnx_ex rfl ?_
  show BX_check_moment [some (histD h), some d] C = _
  have c : (tOrM (tNotM (mTru (mKeepF (mCall M_is_number (mCons (mVar 1) mNil))))) (mTest (mBin dGt (mVar 1) (mCallB lenD (mCons (mVar 0) mNil))))) [some (histD h), some d] C = some (true, C) := by
    rcases o with o | rfl
    · have k := k_number W (ml := mCons (mVar 1) mNil) (E := [some (histD h), some d]) rfl (o C)
      unfold tOrM tNotM mTru
      rw [k]; rfl
    · have k := k_number W (ml := mCons (mVar 1) mNil) (E := [some (histD h), some (.int ((h.length : Int) + 1))]) rfl is_number_int
      have t : mTest (mBin dGt (mVar 1) (mCallB lenD (mCons (mVar 0) mNil))) [some (histD h), some (.int ((h.length : Int) + 1))] C = some (decide (((h.map deedD).length : Int) < (h.length : Int) + 1), C) := rfl
      unfold tOrM tNotM mTru
      rw [k]
      simp only [Option.bind_some, truD, Option.map_some, t, decide_eq_true (show (0 : Int) ≤ (h.length : Int) + 1 by omega), Bool.not_true, Bool.false_eq_true, if_false]
      rw [List.length_map, decide_eq_true (by omega)]
  unfold BX_check_moment
  rw [ifX_eq c]
  exact raise_eq (var_eq rfl)
theorem lying_raise {C : Hm} (W : WB C) {h : Hist} {d : D} (o : OddM h d) (b : ∀ k, d.bnd k = true) : X_lying [histD h, d] C = some (.ex 1 d C) := by
  refine fnx_ex rfl ?_
  exact seqx_ex (dropx_ex (keepX_ex W (ds := [histD h, d]) rfl (moment_raise W o) (b _)))
theorem members_pass {C : Hm} (W : WB C) {h : Hist} {g : List Str} (o : OkH h) (hl : h.length ≤ 60) (c : Crew h g) : X_check_members [histD h, strsD g] C = some (.ok .non C) := by
  have a := names_eq W hl (ml := mCons (mVar 0) mNil) (E := [some (histD h), some (strsD g)]) rfl
  exact fnx_nx (E' := [some (histD h), some (strsD g)]) rfl (dropx_ok (keepX_ok W (cons_eq a (cons_eq (var_eq (i := 1) (d := strsD g) rfl) nil_eq)) (known_pass (c.known o)) rfl))
theorem hand_raiseM {C : Hm} (W : WB C) {h : Hist} {g : List Str} {d : D} (o : OkH h) (hl : h.length ≤ 60) (c : Crew h g) (od : OddM h d) (b : ∀ k, d.bnd k = true) : X_hand_at [histD h, strsD g, d] C = some (.ex 1 d C) := by
  refine fnx_ex rfl ?_
  refine (seqx_nx (dropx_ok (keepX_ok W (ds := [histD h, strsD g]) rfl (members_pass W o hl c) rfl))).trans ?_
  exact seqx_ex (dropx_ex (keepX_ex W (ds := [histD h, d]) rfl (moment_raise W od) (b _)))
/-- a group with a wrong value at place j -/
structure Wrong (h : Hist) (ds : List D) (j : Nat) (x : D) : Prop where
  d : ∀ d ∈ ds, gd 58 d = true
  hj : ds[j]? = some x
  good : ∀ i y, i < j → ds[i]? = some y → (!memD y ((allF h).map .str) || memD y (ds.take i)) = false
  bad : (!memD x ((allF h).map .str) || memD x (ds.take j)) = true
theorem hand_raiseU {C : Hm} (W : WB C) {h : Hist} {ds : List D} {j : Nat} {x m : D} (o : OkH h) (hl : h.length ≤ 60) (w : Wrong h ds j x) : X_hand_at [histD h, .tup ds, m] C = some (.ex 0 x C) := by
  have gx : gd 58 x = true := w.d x (List.mem_of_getElem? w.hj)
  have a := names_eq W hl (ml := mCons (mVar 0) mNil) (E := [some (histD h), some (.tup ds)]) rfl
  have mr : X_check_members [histD h, .tup ds] C = some (.ex 0 x C) := fnx_ex rfl (dropx_ex (keepX_ex W (cons_eq a (cons_eq (var_eq (i := 1) (d := .tup ds) rfl) nil_eq)) (known_raise (all_ok o).gd w.d w.hj w.good w.bad) (bnd_gd gx)))
  exact fnx_ex rfl (seqx_ex (dropx_ex (keepX_ex W (ds := [histD h, .tup ds]) rfl mr (bnd_gd gx))))
end G
set_option Elab.async false
set_option linter.all false
set_option maxRecDepth 100000
set_option maxHeartbeats 1000000
namespace G
open PySem L2 Mi Au
abbrev sDan : Str := Str.ofString "dan"
abbrev sEve : Str := Str.ofString "eve"
abbrev sAnn : Str := Str.ofString "ann"
abbrev sBob : Str := Str.ofString "bob"
abbrev sCy : Str := Str.ofString "cy"
abbrev sMom : Str := Str.ofString "moment"
abbrev sHol : Str := Str.ofString "holder"
abbrev s0 : Str := Str.ofString "0"
theorem more_ok : ∀ s ∈ [sDan, sEve, sAnn, sBob, sCy, sMom, sHol, s0], PyData.strOk s = true ∧ s.length ≤ 10 := by decide +kernel
theorem dan_no : sDan ∉ [sAnn, sBob, sCy, sWorld] := by decide +kernel
def Who (h : Hist) : Prop := ∀ s ∈ namesF h, s ∈ [sAnn, sBob, sCy]
def oddL (h : Hist) : List D := [.non, .bl true, .int (-1), .int ((h.length : Int) + 1), .str s0, .tup [.int 0], .rol [.int 0]]
theorem odd_is {h : Hist} {d : D} (hd : d ∈ oddL h) : OddM h d := by
  simp only [oddL, List.mem_cons, List.not_mem_nil, or_false] at hd
  rcases hd with rfl | rfl | rfl | rfl | rfl | rfl | rfl
  · exact .inl fun _ => rfl
  · exact .inl fun _ => rfl
  · exact .inl fun _ => rfl
  · exact .inr rfl
  · exact .inl fun _ => rfl
  · exact .inl fun _ => rfl
  · exact .inl fun _ => rfl
theorem log_small {i : Int} (h : i.natAbs ≤ 2000000) : i.natAbs.log2 < 1920 := by
  have : i.natAbs.log2 ≤ i.natAbs.log2 := Nat.le_refl _
  by_cases h0 : i.natAbs = 0
  · rw [h0]; decide
  · have h2 : (2000000 : Nat) < 2 ^ 30 := by decide
    have h1 := (Nat.log2_lt h0 (k := 30)).mpr (Nat.lt_of_le_of_lt h h2)
    omega
theorem odd_sh {h : Hist} (hl : h.length ≤ 60) {d : D} (hd : d ∈ oddL h) : pl 50 d = true ∧ sz d ≤ 4000 ∧ ∀ k, d.bnd k = true := by
  simp only [oddL, List.mem_cons, List.not_mem_nil, or_false] at hd
  rcases hd with rfl | rfl | rfl | rfl | rfl | rfl | rfl
  · exact ⟨rfl, by decide, fun _ => rfl⟩
  · exact ⟨rfl, by decide, fun _ => rfl⟩
  · exact ⟨by decide, by decide, fun _ => rfl⟩
  · exact ⟨decide_eq_true (log_small (by omega)), by simp [sz], fun _ => rfl⟩
  · exact ⟨by decide +kernel, by decide +kernel, fun _ => rfl⟩
  · exact ⟨by decide, by decide, fun _ => rfl⟩
  · exact ⟨by decide, by decide, fun _ => rfl⟩
theorem sh_two {s : Str} {d : D} (hs : PyData.strOk s = true ∧ s.length ≤ 10) (h : pl 57 d = true) (hz : sz d ≤ 100000) : pl 58 (.tup [.str s, d]) = true ∧ sz (.tup [.str s, d]) ≤ 100200 := by
  refine ⟨?_, ?_⟩
  · simp only [pl_tup, List.all_cons, List.all_nil, Bool.and_true, h]
    exact hs.1
  · have := hs.2
    simp only [sz, szs]; omega
theorem pl_up : ∀ {n : Nat} {d : D}, pl n d = true → pl (n + 1) d = true
  | n + 1, .non, _ | n + 1, .bl _, _ => rfl
  | n + 1, .int i, h => h
  | n + 1, .str x, h => h
  | n + 1, .tup ds, h => by
    rw [pl_tup, List.all_eq_true] at h ⊢
    exact fun d hd => pl_up (h d hd)
  | n + 1, .rol ds, h => by
    rw [pl_rol, List.all_eq_true] at h ⊢
    exact fun d hd => pl_up (h d hd)
theorem pl_le {n m : Nat} {d : D} (h : pl n d = true) (hm : n ≤ m) : pl m d = true := by
  induction hm with
  | refl => exact h
  | step _ ih => exact pl_up ih
theorem k_moments {C : Hm} (W : WB C) {h : Hist} {ml : MA} {E : Ev} (he : ml E C = some ([histD h], C)) : mKeepF (mCall M_law_moments ml) E C = some (.rol (oddL h), C) := by
  have l0 : mFrz (mLst (mCons (mC (.int 0)) mNil)) [some (histD h)] C = some (.rol [.int 0], C) := lstF W rfl (by simp [D.bnd])
  have ln : mBin addD (mCallB lenD (mCons (mVar 0) mNil)) (mC (.int 1)) [some (histD h)] C = some (.int ((h.length : Int) + 1), C) := by
    rw [bin_eq (x := .int ((h.map deedD).length : Int)) (y := .int 1) rfl rfl, List.length_map]; rfl
  have l := lstF W (ds := oddL h) (ml := mCons (mC .non) (mCons (mC (.bl true)) (mCons (mUn negD (mC (.int 1))) (mCons (mBin addD (mCallB lenD (mCons (mVar 0) mNil)) (mC (.int 1))) (mCons (mC (.str (Str.ofString "0"))) (mCons (mTup (mCons (mC (.int 0)) mNil)) (mCons (mFrz (mLst (mCons (mC (.int 0)) mNil))) mNil)))))))
    (E := [some (histD h)]) (cons_eq rfl (cons_eq rfl (cons_eq rfl (cons_eq ln (cons_eq rfl (cons_eq (tup_eq (ds := [.int 0]) rfl) (cons_eq l0 nil_eq))))))) (by simp [oddL, D.bnd, bnds]) (by simp [oddL]; decide)
  exact keep_pure W ((call_eq he).trans (fn_ret rfl (ret_eq l))) (by simp [oddL, D.bnd, bnds])
theorem out1 {d : D} {C : Hm} : outs (.ex 1 d C) = some (.tup [.str sMom, d], C) := by
  unfold outs
  exact if_pos (show 2 ≤ sizeLine by decide)
theorem out0 {d : D} {C : Hm} : outs (.ex 0 d C) = some (.tup [.str sHol, d], C) := by
  unfold outs
  exact if_pos (show 2 ≤ sizeLine by decide)
theorem two_bnd {s : Str} {d : D} {k : Nat} (b : d.bnd k = true) : (D.tup [.str s, d]).bnd k = true := by simp [D.bnd, bnds, b]
def strL : List D := [.str sDan, .int 1, .non, .tup [.str sAnn], .rol [.str sAnn]]
theorem str_gd {d : D} (hd : d ∈ strL) : gd 50 d = true ∧ pl 50 d = true ∧ sz d ≤ 4000 := by
  simp only [strL, List.mem_cons, List.not_mem_nil, or_false] at hd
  rcases hd with rfl | rfl | rfl | rfl | rfl <;> exact ⟨by decide +kernel, by decide +kernel, by decide +kernel⟩
theorem allF_sub {h : Hist} (w : Who h) : ∀ s ∈ allF h, s ∈ [sAnn, sBob, sCy, sWorld] := fun s hs => by
  rcases List.mem_append.mp hs with z | z
  · have := w s (setS_mem.mp z)
    simp at this ⊢; rcases this with e | e | e <;> simp [e]
  · rw [List.mem_singleton.mp z]; simp
theorem str_no {h : Hist} (w : Who h) {d : D} (hd : d ∈ strL) : d ∉ (allF h).map D.str := by
  intro z
  obtain ⟨s, hs, e⟩ := List.mem_map.mp z
  simp only [strL, List.mem_cons, List.not_mem_nil, or_false] at hd
  rcases hd with rfl | rfl | rfl | rfl | rfl <;> cases e
  exact dan_no (allF_sub w _ hs)
theorem mem_no {h : Hist} (o : OkH h) (w : Who h) {d : D} (hd : d ∈ strL) : memD d ((allF h).map .str) = false := by
  rw [← Bool.not_eq_true, memD_iff (n := 50) (m := 60) (str_gd hd).1 (all_ok o).gd]
  exact str_no w hd
theorem folk_nd (h : Hist) : (folkF h).Nodup := by
  unfold folkF
  refine (setS_up (namesF h)).imp fun {a b} e z => ?_
  rw [z, sLt_irr] at e
  cases e
theorem folk_crew {h : Hist} (o : OkH h) : Crew h (folkF h) := ⟨folk_ok o, fun s hs => List.mem_append_left _ hs, folk_nd h⟩
theorem wrong1 {h : Hist} (o : OkH h) (w : Who h) {d : D} (hd : d ∈ strL) : Wrong h (((folkF h).map D.str).take 1 ++ [d, .str sEve]) (((folkF h).map D.str).take 1).length d where
  d := fun x hx => by
    rcases List.mem_append.mp hx with z | z
    · exact gd_le ((folk_ok o).gd (n := 50) x (List.mem_of_mem_take z)) (by omega)
    · simp at z
      rcases z with rfl | rfl
      · exact gd_le (str_gd hd).1 (by omega)
      · exact (more_ok sEve (by simp)).1
  hj := by simp
  good := fun i y hi hy => by
    rw [List.getElem?_append_left hi] at hy
    have h0 : i = 0 := by simp at hi; omega
    subst h0
    have ym : y ∈ (folkF h).map D.str := List.mem_of_mem_take (List.mem_of_getElem? hy)
    rw [Bool.or_eq_false_iff, Bool.not_eq_false']
    refine ⟨(memD_iff (n := 51) (m := 60) ((folk_ok o).gd y ym) (all_ok o).gd).mpr ?_, by simp [memD]⟩
    obtain ⟨s, hs, rfl⟩ := List.mem_map.mp ym
    exact List.mem_map.mpr ⟨s, List.mem_append_left _ hs, rfl⟩
  bad := by rw [mem_no o w hd]; rfl
theorem wrong2 {h : Hist} (o : OkH h) (w : Who h) {d : D} (hd : d ∈ strL) : Wrong h [d] 0 d where
  d := fun x hx => by rw [List.mem_singleton.mp hx]; exact gd_le (str_gd hd).1 (by omega)
  hj := rfl
  good := fun i y hi => by omega
  bad := by rw [mem_no o w hd]; rfl
theorem wrong3 {h : Hist} (o : OkH h) {f : Str} (hf : f ∈ folkF h) : Wrong h [.str f, .str f] 1 (.str f) where
  d := fun x hx => by simp at hx; rw [hx]; exact folk_ok o f hf
  hj := rfl
  good := fun i y hi hy => by
    have h0 : i = 0 := by omega
    subst h0
    cases hy
    have fo := folk_ok o f hf
    rw [Bool.or_eq_false_iff, Bool.not_eq_false']
    exact ⟨(memD_iff (n := 60) (m := 60) (show gd 60 (.str f) = true from fo) (all_ok o).gd).mpr (List.mem_map.mpr ⟨f, List.mem_append_left _ hf, rfl⟩), by simp [memD]⟩
  bad := by
    have : memD (.str f) ([D.str f, D.str f].take 1) = true := by simp [memD, eqD_refl (n := 60) (x := .str f) (folk_ok o f hf)]
    rw [this, Bool.or_true]
end G
set_option Elab.async false
set_option linter.all false
set_option maxRecDepth 100000
set_option maxHeartbeats 1000000
namespace G
open PySem L2 Mi Au
theorem sh_two' {s : Str} {d : D} (hs : PyData.strOk s = true ∧ s.length ≤ 10) (h : pl 50 d = true) (hz : sz d ≤ 4000) : Sh (.tup [.str s, d]) := by
  obtain ⟨a, b⟩ := sh_two hs (pl_le h (by omega)) (by omega)
  exact ⟨pl_le a (by omega), by omega⟩
theorem mul_tup {C : Hm} {a : List D} (h1 : a ≠ []) (h2 : a.length ≤ 1000) : mulD (.tup a) (.int 2) C = some (.tup (a ++ a), C) := by
  show (if a ≠ [] ∧ (2 : Int) ≤ 2 ∧ (2 : Int) ≤ 1000 ∧ a.length ≤ 1000 then some (D.tup (List.replicate (2 : Int).toNat a).flatten, C) else none) = _
  rw [if_pos ⟨h1, by decide, by decide, h2⟩]
  simp [List.replicate]
theorem mul_rol {C : Hm} {x : D} : mulD (.rol [x]) (.int 2) C = some (.cell C.length, C ++ [Cell.lst [x, x]]) := rfl
theorem sl1 {E : Ev} {C : Hm} {i : Nat} {ds : List D} (h : E[i]? = some (some (.tup ds))) : mSl slD (mVar i) oNone (oSome (mC (.int 1))) E C = some (.tup (ds.take 1), C) := by
  unfold mSl
  rw [var_eq h]
  show some (D.tup (cutD ds none (some ((1 : Nat) : Int))), C) = _
  rw [lo_take]
theorem ix_hd {C : Hm} {x : D} {l : List D} : ixD (.tup (x :: l)) (.int 0) C = some (x, C) := by
  simp [ixD, atI, ixN]
/-- what lambdas tell of -/
theorem lamM {C : Hm} (W : WB C) (hT : C[0]? = some (.tab 0)) {X : MFX} {ml : MA} {E : Ev} {ds : List D} {d : D} (he : ml E C = some (ds, C)) (h : X ds C = some (.ex 1 d C)) (b : ∀ k, d.bnd k = true) : mKeep (mLam 0 0 outs (mKeepX (mCallX X ml))) E C = some (.tup [.str sMom, d], C) :=
  lam_eq W hT (keepX_ex W he h (b _)) out1 (two_bnd (b _))
theorem lamU {C : Hm} (W : WB C) (hT : C[0]? = some (.tab 0)) {X : MFX} {ml : MA} {E : Ev} {ds : List D} {d : D} (he : ml E C = some (ds, C)) (h : X ds C = some (.ex 0 d C)) (b : ∀ k, d.bnd k = true) : mKeep (mLam 0 0 outs (mKeepX (mCallX X ml))) E C = some (.tup [.str sHol, d], C) :=
  lam_eq W hT (keepX_ex W he h (b _)) out0 (two_bnd (b _))
theorem front {C : Hm} {k : Nat} {c : Cell} (h : C[k]? = some c) (t : Hm) : (C ++ t)[k]? = some c := by
  rw [List.getElem?_append_left (List.getElem?_eq_some_iff.mp h).1]; exact h
theorem refused_ok {C : Hm} (W : WB C) (hT : C[0]? = some (.tab 0)) {h : Hist} (o : OkH h) (w : Who h) (hl : h.length ≤ 60) : We (M_law_are_refused [histD h] C) fun d C' => d = .bl true ∧ ∃ t, C' = C ++ t := by
  refine fn_wo rfl ?_
  show Wo (B_law_are_refused [some (histD h), none, none, none] C) _ _
  have st : mCallB tupleD (mCons (mKeepF (mCall M_law_folk (mCons (mVar 0) mNil))) mNil) [some (histD h), none, none, none] C = some (strsD (folkF h), C) := by
    rw [callB_eq (cons_eq (k_folk W hl rfl) nil_eq)]; rfl
  refine wo_seq (wo_asg (We.of st ?_))
  refine wo_seq (wo_for (ds := oddL h) (it := .seq (oddL h)) (fun _ E C' => (∃ a, E = [some (histD h), some (strsD (folkF h)), a, none]) ∧ C' = C) (src_any (k_moments W rfl) (.inl rfl)) ⟨⟨_, rfl⟩, rfl⟩ (fun _ _ _ _ => rfl) ?_ ?_)
  · rintro i d E C' hd ⟨⟨a, rfl⟩, rfl⟩
    have dm := List.mem_of_getElem? hd
    obtain ⟨p1, p2, p3⟩ := odd_sh hl dm
    have s := sh_two' (more_ok sMom (by simp)) p1 p2
    refine ⟨_, rfl, ?_⟩
    have tp : ∀ E : Ev, E[2]? = some (some d) → mTup (mCons (mC (.str sMom)) (mCons (mVar 2) mNil)) E C' = some (.tup [.str sMom, d], C') := fun E he => tup_eq (cons_eq rfl (cons_eq (var_eq he) nil_eq)) (by simp; decide)
    refine wo_seq (wo_if (b := false) (C' := C') ?_ (fun e => by cases e) fun _ => ?_)
    · exact repr_ne (lamM W hT (ds := [histD h, d]) rfl (lying_raise W (odd_is dm) p3) p3) (tp _ rfl) s
    · refine wo_next (wo_if (b := false) ?_ (fun e => by cases e) fun _ => wo_next ⟨⟨_, rfl⟩, rfl⟩)
      exact repr_ne (lamM W hT (ds := [histD h, strsD (folkF h), d]) rfl (hand_raiseM W o hl (folk_crew o) (odd_is dm) p3) p3) (tp _ rfl) s
  rintro E C' ⟨⟨a, rfl⟩, rfl⟩
  have sl : ∀ {E : Ev} {C : Hm}, WB C → mTup (mCons (mC (.str sDan)) (mCons (mC (.int 1)) (mCons (mC .non) (mCons (mTup (mCons (mC (.str sAnn)) mNil)) (mCons (mFrz (mLst (mCons (mC (.str sAnn)) mNil))) mNil))))) E C = some (.tup strL, C) := fun W => by
    have l := lstF (E := ‹Ev›) W (ml := mCons (mC (.str sAnn)) mNil) (ds := [.str sAnn]) rfl (by simp [D.bnd])
    exact tup_eq (cons_eq rfl (cons_eq rfl (cons_eq rfl (cons_eq (tup_eq (ds := [.str sAnn]) rfl) (cons_eq l nil_eq))))) (by decide)
  refine wo_seq (wo_for (ds := strL) (it := .seq strL) (fun _ E C1 => (∃ a, E = [some (histD h), some (strsD (folkF h)), a, none]) ∧ WB C1 ∧ ∃ t, C1 = C' ++ t) (src_any (sl W) (.inr rfl)) ⟨⟨_, rfl⟩, W, [], by simp⟩ (fun _ _ _ _ => rfl) ?_ ?_)
  · rintro i d E C1 hd ⟨⟨a, rfl⟩, W1, t, rfl⟩
    have dm := List.mem_of_getElem? hd
    obtain ⟨g1, p1, p2⟩ := str_gd dm
    have s := sh_two' (more_ok sHol (by simp)) p1 p2
    have s2 : Sh (.rol [.tup [.str sHol, d], .tup [.str sHol, d]]) := by
      obtain ⟨a, b⟩ := sh_two (more_ok sHol (by simp)) (pl_le p1 (show 50 ≤ 57 by omega)) (by omega)
      exact sh_pair (pl_le a (by omega)) (by omega)
    have p3 : ∀ k, d.bnd k = true := fun k => bnd_gd g1
    have hT1 : (C' ++ t)[0]? = some (.tab 0) := front hT t
    refine ⟨_, rfl, wo_wipe ?_⟩
    generalize hx : D.tup [.str sHol, d] = x at s s2
    have b1 : x.bnd (C' ++ t).length = true := by rw [← hx]; exact two_bnd (p3 _)
    have W2 : ∀ l : List D, (∀ y ∈ l, y = x) → WB (C' ++ t ++ [.lst l]) := fun l hx2 => W1.push (by
      refine bnds_of fun y hy => ?_
      rw [hx2 y hy, ← hx]; exact two_bnd (p3 _))
    -- the first
    have fl := folk_len h
    have e1 : mKeep (mLam 0 0 outs (mKeepX (mCallX X_hand_at (mCons (mVar 0) (mCons (mBin addD (mSl slD (mVar 1) oNone (oSome (mC (.int 1)))) (mTup (mCons (mVar 2) (mCons (mC (.str sEve)) mNil)))) (mCons (mUn negD (mC (.int 1))) mNil)))))) [some (histD h), some (strsD (folkF h)), some d, none] (C' ++ t) = some (x, C' ++ t) := by
      rw [← hx]
      refine lamU W1 hT1 (ds := [histD h, .tup (((folkF h).map D.str).take 1 ++ [d, .str sEve]), .int (-1)]) ?_ (hand_raiseU W1 o hl (wrong1 o w dm)) p3
      have ad : mBin addD (mSl slD (mVar 1) oNone (oSome (mC (.int 1)))) (mTup (mCons (mVar 2) (mCons (mC (.str sEve)) mNil))) [some (histD h), some (strsD (folkF h)), some d, none] (C' ++ t) = some (.tup (((folkF h).map D.str).take 1 ++ [d, .str sEve]), C' ++ t) := by
        rw [bin_eq (sl1 rfl) (tup_eq (ds := [d, .str sEve]) (cons_eq (var_eq rfl) (cons_eq rfl nil_eq)) (by simp; decide))]
        exact add_tups (by have : (1000 : Nat) ≤ sizeLine := by decide
                           simp; omega)
      exact cons_eq rfl (cons_eq ad (cons_eq rfl nil_eq))
    refine wo_seq (wo_asg (We.of (lst_eq (cons_eq e1 nil_eq) (by simp; decide)) ?_))
    have hT2 := front hT1 [Cell.lst [x]]
    have e2 : mKeep (mLam 0 0 outs (mKeepX (mCallX X_hand_at (mCons (mVar 0) (mCons (mTup (mCons (mVar 2) mNil)) (mCons (mC (.int 0)) mNil)))))) [some (histD h), some (strsD (folkF h)), some d, some (.cell (C' ++ t).length)] (C' ++ t ++ [Cell.lst [x]]) = some (x, C' ++ t ++ [Cell.lst [x]]) := by
      rw [← hx]
      have W3 := W2 [x] (by simp)
      rw [← hx] at hT2 W3
      refine lamU W3 hT2 (ds := [histD h, .tup [d], .int 0]) ?_ (hand_raiseU W3 o hl (wrong2 o w dm)) p3
      exact cons_eq rfl (cons_eq (tup_eq (ds := [d]) (cons_eq (var_eq rfl) nil_eq) (by simp; decide)) (cons_eq rfl nil_eq))
    refine wo_seq (wo_drop (We.of (app_eq rfl (cons_eq e2 nil_eq) (by simp; decide)) ?_))
    have W4 := W2 [x, x] (by simp)
    refine wo_if (b := false) (C' := C' ++ t ++ [Cell.lst [x, x]]) ?_ (fun e => by cases e) fun _ => wo_next ⟨⟨_, rfl⟩, W4, t ++ [Cell.lst [x, x]], by simp⟩
    have r1 := repr_cell (E := [some (histD h), some (strsD (folkF h)), some d, some (.cell (C' ++ t).length)]) (ma := mVar 3) (C := C' ++ t ++ [Cell.lst [x, x]]) (C1 := C' ++ t ++ [Cell.lst [x, x]]) rfl last_get s2
    have bx : x.bnd (C' ++ t ++ [Cell.lst [x, x]]).length = true := by rw [← hx]; exact two_bnd (p3 _)
    have m1 : mFrz (mLst (mCons (mTup (mCons (mC (.str sHol)) (mCons (mVar 2) mNil))) mNil)) [some (histD h), some (strsD (folkF h)), some d, some (.cell (C' ++ t).length)] (C' ++ t ++ [Cell.lst [x, x]]) = some (.rol [x], C' ++ t ++ [Cell.lst [x, x]]) := by
      refine lstF W4 (cons_eq ?_ nil_eq) (by simpa using bx) (by simp; decide)
      rw [← hx]
      exact tup_eq (cons_eq rfl (cons_eq (var_eq rfl) nil_eq)) (by simp; decide)
    have m2 : mFrz (mBin mulD (mFrz (mLst (mCons (mTup (mCons (mC (.str sHol)) (mCons (mVar 2) mNil))) mNil))) (mC (.int 2))) [some (histD h), some (strsD (folkF h)), some d, some (.cell (C' ++ t).length)] (C' ++ t ++ [Cell.lst [x, x]]) = some (.rol [x, x], C' ++ t ++ [Cell.lst [x, x]]) := by
      refine frz_new W4 ?_ (by simp [bnds]; simpa using bx)
      rw [bin_eq m1 rfl]
      exact mul_rol
    have r2 := repr_at m2 s2
    show mTest (mBin dNe (mCallB reprD (mCons (mVar 3) mNil)) _) [some (histD h), some (strsD (folkF h)), some d, some (.cell (C' ++ t).length)] (C' ++ t ++ [Cell.lst [x, x]]) = _
    unfold mTest
    rw [bin_eq r1 r2, ne_self]; rfl
  rintro E C1 ⟨⟨a, rfl⟩, W1, t, rfl⟩
  refine wo_ret ?_
  have q : mBin dEq (mVar 1) (mTup mNil) [some (histD h), some (strsD (folkF h)), a, none] (C' ++ t) = some (.bl (decide (folkF h = [])), C' ++ t) := by
    rw [bin_eq (x := strsD (folkF h)) (y := .tup []) rfl rfl, dEq_gd (x := strsD (folkF h)) (y := .tup []) (by rw [gd_tup, List.all_eq_true]; exact (folk_ok o).gd) rfl]
    cases folkF h with
    | nil => rfl
    | cons a b => rfl
  cases hf : folkF h with
  | nil =>
    rw [hf] at q
    refine We.of (d := .bl true) (C' := C' ++ t) ?_ ⟨rfl, t, rfl⟩
    unfold mOr
    rw [q]; rfl
  | cons f r =>
    rw [hf] at q
    refine We.of (d := .bl true) (C' := C' ++ t) ?_ ⟨rfl, t, rfl⟩
    unfold mOr
    rw [q]
    have fm : f ∈ folkF h := by rw [hf]; simp
    have hT1 : (C' ++ t)[0]? = some (.tab 0) := front hT t
    have e1 : mKeep (mLam 0 0 outs (mKeepX (mCallX X_hand_at (mCons (mVar 0) (mCons (mBin mulD (mSl slD (mVar 1) oNone (oSome (mC (.int 1)))) (mC (.int 2))) (mCons (mC (.int 0)) mNil)))))) [some (histD h), some (strsD (f :: r)), a, none] (C' ++ t) = some (.tup [.str sHol, .str f], C' ++ t) := by
      refine lamU W1 hT1 (ds := [histD h, .tup [.str f, .str f], .int 0]) ?_ (hand_raiseU W1 o hl (wrong3 o fm)) (fun _ => rfl)
      refine cons_eq rfl (cons_eq ?_ (cons_eq rfl nil_eq))
      rw [bin_eq (sl1 (ds := (f :: r).map D.str) rfl) rfl]
      exact mul_tup (a := [.str f]) (by simp) (by simp)
    have e2 : mTup (mCons (mC (.str sHol)) (mCons (mBin ixD (mVar 1) (mC (.int 0))) mNil)) [some (histD h), some (strsD (f :: r)), a, none] (C' ++ t) = some (.tup [.str sHol, .str f], C' ++ t) := by
      refine tup_eq (cons_eq rfl (cons_eq ?_ nil_eq)) (by simp; decide)
      rw [bin_eq (x := .tup (.str f :: r.map D.str)) (y := .int 0) rfl rfl]
      exact ix_hd
    have fo := folk_ok o f fm
    have e3 : gd 60 (.tup [.str sHol, .str f]) = true := by
      rw [gd_tup]
      simp only [List.all_cons, List.all_nil, Bool.and_true]
      rw [show gd 59 (.str f) = true from fo]; decide +kernel
    show mBin dEq _ _ _ _ = _
    rw [bin_eq e1 e2, dEq_gd e3 e3, eqD_refl e3]
end G
set_option Elab.async false
set_option linter.all false
set_option maxRecDepth 100000
set_option maxHeartbeats 1000000
namespace G
open PySem L2 Mi Au
variable {N : Ev → Hm → Prop} {R : D → Hm → Prop}
theorem wo_asgT {tg : MG} {me : ME} {E E1 : Ev} {C C1 : Hm} {d : D} (h : me E C = some (d, C1)) (ht : tg d E = some E1) (k : N E1 C1) : Wo (mAsg me tg E C) N R := by
  unfold mAsg
  rw [h]
  simp only [Option.bind_some]
  rw [ht]; exact k
theorem wo_par {i j : Nat} {ml : MA} {E : Ev} {C C1 : Hm} {d e : D} (h : ml E C = some ([d, e], C1)) (k : N ((E.set i (some d)).set j (some e)) C1) : Wo (mPar i j ml E C) N R := by
  unfold mPar
  rw [h]; exact k
theorem filt_le {α : Type} {p q : α → Bool} (h : ∀ a, q a = true → p a = true) : ∀ l : List α, (l.filter q).length ≤ (l.filter p).length
  | [] => by simp
  | a :: l => by
    have := filt_le h l
    simp only [List.filter_cons]
    cases hq : q a with
    | true => simp [h a hq, this]
    | false => cases p a <;> simp <;> omega
theorem filt_lt {α : Type} {p q : α → Bool} (h : ∀ a, q a = true → p a = true) {x : α} (hp : p x = true) (hq : q x = false) : ∀ {l : List α}, x ∈ l → (l.filter q).length < (l.filter p).length
  | a :: l, hx => by
    have le := filt_le h l
    simp only [List.filter_cons]
    rcases List.mem_cons.mp hx with rfl | hx
    · simp [hp, hq]; omega
    · have := filt_lt h hp hq hx
      cases hq2 : q a with
      | true => simp [h a hq2]; omega
      | false => cases p a <;> simp <;> omega
/-! ## what opens -/
def mu (bs : List Box) (l : List D) : Nat := (bs.filter fun b => !memD (thD b.1) l).length
theorem memD_snoc {x y : D} {l : List D} : memD x (l ++ [y]) = (memD x l || eqD y x) := by simp [memD]
theorem mu_lt {bs : List Box} {l : List D} {b : Box} (hb : b ∈ bs) (g : okTh b.1 = true) (h : memD (thD b.1) l = false) : mu bs (l ++ [thD b.1]) < mu bs l := by
  refine filt_lt (fun a ha => ?_) (x := b) ?_ ?_ hb
  · rw [Bool.not_eq_true', memD_snoc, Bool.or_eq_false_iff] at ha
    rw [ha.1]; rfl
  · rw [h]; rfl
  · rw [memD_snoc, eqD_refl (gd_th (n := 40) g)]; simp
/-- the locks that are wanting -/
theorem lc_want {src : MI} {C : Hm} {E : Ev} {l : List D} {y : D} {ks : List Int} {j z : Nat} (hi : z < E.length) (hj : E[j]? = some (some y)) (hs : src E C = some (.seq (ks.map .int), ks.length, C)) (hjz : j ≠ z) (hy : ∀ k : Int, inD true (.int k) y C = some (.bl (!memD (.int k) l), C)) (hl : ks.length ≤ 1000) :
    mLcV src (gN z) (mTest (mBin (inD true) (mVar z) (mVar j))) (mVar z) [z] E C = some (.rol ((ks.filter fun k => !memD (.int k) l).map .int), C) := by
  have hz : (1000 : Nat) < sizeLine := by decide
  have hi2 : z < (wipeE E [z]).length := by simp [wipeE, hi]
  rw [lcE (enc := D.int) (xs := ks) (fun k => !memD (.int k) l) D.int hs (by omega) fun d hd => ⟨(wipeE E [z]).set z (some (.int d)), rfl, ?_, fun e => ?_⟩]
  · refine tst_eq ?_
    rw [bin_eq (x := .int d) (y := y) (var_eq (List.getElem?_set_self hi2)) (var_eq (by rw [List.getElem?_set_ne (Ne.symm hjz)]; simp only [wipeE]; rw [List.getElem?_set_ne (Ne.symm hjz)]; exact hj)), hy]
  · exact var_eq (List.getElem?_set_self hi2)
theorem opened_ok {C : Hm} (W : WB C) {ks : List D} {bs : List Box} (hk : ∀ d ∈ ks, gd 50 d = true) (hb : ∀ b ∈ bs, okTh b.1 = true ∧ b.2.length ≤ 1000) (hl : ks.length + bs.length ≤ 1000) : ∃ l, M_law_opened [.rol ks, .rol (bs.map boxD)] C = some (.cell C.length, C ++ [.lst l]) ∧ l.length ≤ ks.length + bs.length ∧ ∀ d ∈ l, gd 50 d = true := by
  have hz : (1000 : Nat) < sizeLine := by decide
  have w : We (M_law_opened [.rol ks, .rol (bs.map boxD)] C) fun d C' => d = .cell C.length ∧ ∃ l, C' = C ++ [.lst l] ∧ l.length ≤ ks.length + bs.length ∧ ∀ d ∈ l, gd 50 d = true := by
    refine fn_wo rfl ?_
    show Wo (B_law_opened [some (.rol ks), some (.rol (bs.map boxD)), none, none, none, none, none] C) _ _
    refine wo_seq (wo_asgT (d := .tup [.cell C.length, .bl true]) (C1 := C ++ [.lst ks]) (E1 := [some (.rol ks), some (.rol (bs.map boxD)), some (.cell C.length), some (.bl true), none, none, none]) ?_ rfl ?_)
    · refine tup_eq (cons_eq ?_ (cons_eq rfl nil_eq))
      rw [callB_eq (cons_eq (var_eq rfl) nil_eq)]
      rfl
    refine wo_seq (wo_while (fun k E C' => ∃ l g, E = [some (.rol ks), some (.rol (bs.map boxD)), some (.cell C.length), some (.bl g), none, none, none] ∧ C' = C ++ [.lst l] ∧ (∀ d ∈ l, gd 50 d = true) ∧ l.length + mu bs l ≤ ks.length + bs.length ∧ k = mu bs l + g.toNat) ?_ _ (mu bs ks + 1) _ _ ?_ ⟨ks, true, rfl, rfl, hk, by have := List.length_filter_le (fun b : Box => !memD (thD b.1) ks) bs
                                                                                                                                                                                                                                                                                                                                       unfold mu; omega, rfl⟩)
    · rintro k E C' ⟨l, g, rfl, rfl, gl, hm, rfl⟩
      refine ⟨g, _, rfl, fun hg => ?_, fun hg => ?_⟩
      · subst hg
        refine wo_wipe (wo_seq (wo_asg (We.of (d := .bl false) rfl ?_)))
        refine wo_for (ds := bs.map boxD) (it := .seq (bs.map boxD)) (fun i E C' => ∃ l' g', E = [some (.rol ks), some (.rol (bs.map boxD)), some (.cell C.length), some (.bl g'), none, none, none] ∧ C' = C ++ [.lst l'] ∧ (∀ d ∈ l', gd 50 d = true) ∧ l'.length + mu bs l' ≤ ks.length + bs.length ∧ mu bs l' + g'.toNat ≤ mu bs l) (src_rol rfl) ⟨l, false, rfl, rfl, gl, hm, Nat.le_refl _⟩ (fun _ _ _ _ => rfl) ?_ ?_
        · rintro i d E C' hd ⟨l', g', rfl, rfl, gl', hm', hlt⟩
          rw [List.getElem?_map] at hd
          obtain ⟨b, hb2, rfl⟩ := omap hd
          have bm : b ∈ bs := List.mem_of_getElem? hb2
          obtain ⟨b1, b2⟩ := hb b bm
          have g1 : gd 60 (thD b.1) = true := gd_th (n := 58) b1
          refine ⟨[some (.rol ks), some (.rol (bs.map boxD)), some (.cell C.length), some (.bl g'), some (thD b.1), some (.tup (b.2.map .int)), none], rfl, wo_wipe ?_⟩
          have W2 : WB (C ++ [Cell.lst l']) := W.push (bnds_of fun d hd => bnd_gd (gl' d hd))
          refine wo_if (b := !memD (thD b.1) l' && (b.2.filter fun k => !memD (.int k) l').isEmpty) (C' := C ++ [Cell.lst l']) (and_eq ?_ fun _ => ?_) (fun e => ?_) fun _ => wo_next ⟨l', g', rfl, rfl, gl', hm', hlt⟩
          · unfold mTest
            rw [bin_eq (x := thD b.1) (y := .cell C.length) (var_eq rfl) (var_eq rfl), inD_cell last_get g1 (fun d hd => gd_le (gl' d hd) (by omega))]; rfl
          · refine tst_eq ?_
            rw [bin_eq (lc_want (j := 2) (z := 6) (ks := b.2) (y := .cell C.length) (l := l') (by simp) rfl (src_tup rfl) (by omega) (fun k => inD_cell last_get rfl fun d hd => gd_le (gl' d hd) (by omega)) b2) (nilF W2), eq_rol (fun d hd => by obtain ⟨k, _, rfl⟩ := List.mem_map.mp hd; rfl)]
            simp
          · rw [Bool.and_eq_true, Bool.not_eq_true'] at e
            have lt := mu_lt bm b1 e.1
            refine wo_seq (wo_drop (We.of (app_eq (d := thD b.1) rfl rfl (by omega)) (wo_asg (We.of (d := .bl true) rfl ⟨l' ++ [thD b.1], true, rfl, rfl, fun d hd => ?_, ?_, ?_⟩))))
            · rcases List.mem_append.mp hd with z | z
              · exact gl' d z
              · rw [List.mem_singleton.mp z]; exact gd_th (n := 48) b1
            · simp; omega
            · simp; omega
        · rintro E C' ⟨l', g', rfl, rfl, gl', hm', hlt⟩
          exact ⟨mu bs l' + g'.toNat, by simp; omega, l', g', rfl, rfl, gl', hm', rfl⟩
      · refine wo_ret (We.of (var_eq rfl) ⟨rfl, l, rfl, by omega, gl⟩)
    · have := List.length_filter_le (fun b : Box => !memD (thD b.1) ks) bs
      have : (1002 : Nat) ≤ fuel := by decide
      unfold mu; omega
  obtain ⟨d, C', e, rfl, l, rfl, h1, h2⟩ := w.ex
  exact ⟨l, e, h1, h2⟩
end G
set_option Elab.async false
set_option linter.all false
set_option maxRecDepth 100000
set_option maxHeartbeats 1000000
namespace G
open PySem L2 Mi Au
abbrev sMemo : Str := Str.ofString "memo"
abbrev sLog : Str := Str.ofString "log"
abbrev three : List Str := [sAnn, sBob, sCy]
def smI (k : Int) : Prop := 0 ≤ k ∧ k < 6
def smTh : Th → Prop
  | .k n => smI n
  | .t r n => r ∈ [sMemo, sLog] ∧ smI n
def smB (b : Box) : Prop := smTh b.1 ∧ b.2.length ≤ 2 ∧ ∀ k ∈ b.2, smI k
/-- the deeds that the law draws -/
def smD : Deed → Prop
  | .hand w k => w ∈ three ∧ smI k
  | .put b => smB b
  | .take n => n ≤ 60
  | .opn w n => w ∈ three ∧ n ≤ 60
  | .leak k => smI k
def Sm (h : Hist) : Prop := ∀ d ∈ h, smD d
theorem memo_ok : ∀ s ∈ [sMemo, sLog], PyData.strOk s = true ∧ s.length ≤ 10 := by decide +kernel
theorem three_ok : ∀ s ∈ three, PyData.strOk s = true ∧ s.length ≤ 10 := by decide +kernel
theorem smTh_ok {x : Th} (h : smTh x) : okTh x = true := by
  cases x with
  | k n => rfl
  | t r n => exact (memo_ok r h.1).1
theorem smD_ok {d : Deed} (h : smD d) : okDeed d = true := by
  cases d with
  | hand w k => exact (three_ok w h.1).1
  | put b => exact smTh_ok h.1
  | take n => rfl
  | opn w n => exact (three_ok w h.1).1
  | leak k => rfl
theorem Sm.ok {h : Hist} (s : Sm h) : OkH h := fun d hd => smD_ok (s d hd)
theorem Sm.who {h : Hist} (s : Sm h) : Who h := fun x hx => by
  obtain ⟨d, hd, rfl⟩ := List.mem_map.mp hx
  obtain ⟨a, b⟩ := List.mem_filter.mp hd
  have := s d a
  cases d with
  | hand w k => exact this.1
  | _ => cases b
def boxesF (h : Hist) : List Box := h.filterMap fun d => match d with | .put b => some b | _ => none
theorem puts_boxes : ∀ h : Hist, (puts h).map Deed.one = (boxesF h).map boxD
  | [] => rfl
  | d :: h => by
    have := puts_boxes h
    unfold puts boxesF at *
    cases d <;> simp_all [List.filter_cons, Deed.isPut, Deed.one]
theorem puts_blen (h : Hist) : (puts h).length = (boxesF h).length := by
  have := congrArg List.length (puts_boxes h)
  simpa using this
theorem box_mem {h : Hist} (s : Sm h) : ∀ b ∈ boxesF h, smB b := fun b hb => by
  obtain ⟨d, hd, e⟩ := List.mem_filterMap.mp hb
  have := s d hd
  cases d with
  | put c => simp at e; subst e; exact this
  | _ => cases e
theorem gd_boxes {h : Hist} (s : Sm h) : ∀ d ∈ (boxesF h).map boxD, gd 40 d = true := fun d hd => by
  obtain ⟨b, hb, rfl⟩ := List.mem_map.mp hd
  exact gd_box (n := 37) (smTh_ok (box_mem s b hb).1)
theorem k_puts {C : Hm} (W : WB C) {h : Hist} (s : Sm h) (hl : h.length ≤ 1000) {ml : MA} {E : Ev} (he : ml E C = some ([histD h], C)) : mKeepF (mCall M_law_puts ml) E C = some (.rol ((boxesF h).map boxD), C) := by
  refine keep_pure W ((call_eq he).trans ?_) (by simp only [D.bnd]; exact bnds_gd (gd_boxes s))
  rw [← puts_boxes]
  refine fn_ret rfl (ret_eq ((lcE (enc := deedD) (xs := h) Deed.isPut Deed.one (src_tup rfl) (mem_le hl) fun d hd => ⟨_, rfl, ?_, fun _ => ?_⟩).trans ?_))
  · rw [tst_w (d := d) sPut rfl, w_put]
  · exact ix1 rfl
  · rfl
theorem k_opened {C : Hm} (W : WB C) {ks : List D} {bs : List Box} {ml : MA} {E : Ev} (he : ml E C = some ([.rol ks, .rol (bs.map boxD)], C)) (hk : ∀ d ∈ ks, gd 50 d = true) (hb : ∀ b ∈ bs, okTh b.1 = true ∧ b.2.length ≤ 1000) (hl : ks.length + bs.length ≤ 1000) : ∃ l, mKeepF (mCall M_law_opened ml) E C = some (.rol l, C) ∧ l.length ≤ ks.length + bs.length ∧ ∀ d ∈ l, gd 50 d = true := by
  obtain ⟨l, e, h1, h2⟩ := opened_ok W hk hb hl
  exact ⟨l, keep_lst W ((call_eq he).trans e) (Nat.le_refl _) last_get (bnds_gd h2), h1, h2⟩
theorem src_rng2 {ml : MA} {E : Ev} {C C' : Hm} {t : Nat} (h : ml E C = some ([.int 1, .int ((t : Int) + 1)], C')) (hn : t ≤ 1000) : mIRng2 ml E C = some (.seq (rngD 1 t), t, C') := by
  have p62 : (1002 : Int) < 2 ^ 62 := by decide +kernel
  have m62 : -(2 ^ 62 : Int) ≤ 0 := by decide +kernel
  have c1 : -(2 ^ 62 : Int) ≤ (1 : Int) := Int.le_trans m62 (by omega)
  have c2 : (1 : Int) < 2 ^ 62 := Int.lt_of_le_of_lt (by omega) p62
  have c3 : -(2 ^ 62 : Int) ≤ (t : Int) + 1 := Int.le_trans m62 (by omega)
  have c4 : (t : Int) + 1 < 2 ^ 62 := Int.lt_of_le_of_lt (by omega) p62
  unfold mIRng2
  rw [h, Option.bind_some]
  unfold iRng2D
  exact (if_pos ⟨c1, c2, c3, c4⟩).trans (by rw [show ((t : Int) + 1 - 1).toNat = t by omega])
/-- a value of a list -/
theorem ix_at {C : Hm} {l : List D} {n : Nat} {d : D} (h : l[n]? = some d) : ixD (.rol l) (.int (n : Int)) C = some (d, C) := by
  have hn := (List.getElem?_eq_some_iff.mp h).1
  have : atI l (n : Int) = some d := by
    unfold atI ixN
    rw [if_pos (by omega), if_pos (by omega)]
    simpa using h
  show (atI l (n : Int)).map _ = _
  rw [this]; rfl
theorem there_lt {h : Hist} (v : Vld h) (t : Nat) : ∀ n ∈ thereF (h.take t), n < (boxesF h).length := fun n hn => by
  rw [(there_ly _ (v.take t)).1] at hn
  have := List.mem_range.mp (List.mem_filter.mp hn).1
  rw [puts_blen] at this
  have e : boxesF h = boxesF (h.take t) ++ boxesF (h.drop t) := by
    unfold boxesF
    rw [← List.filterMap_append, List.take_append_drop]
  rw [e, List.length_append]; omega
def boxAt (h : Hist) (n : Nat) : Box := (boxesF h).getD n (.k 0, [])
theorem boxAt_mem {h : Hist} {n : Nat} (hn : n < (boxesF h).length) : boxAt h n ∈ boxesF h ∧ ((boxesF h).map boxD)[n]? = some (boxD (boxAt h n)) := by
  have e : (boxesF h)[n]? = some (boxAt h n) := by
    unfold boxAt
    rw [List.getD_eq_getElem?_getD, List.getElem?_eq_getElem hn]; rfl
  exact ⟨List.mem_of_getElem? e, by rw [List.getElem?_map, e]; rfl⟩
theorem kept_ok {C : Hm} (W : WB C) {h : Hist} {crew : List Str} {t : Nat} (s : Sm h) (v : Vld h) (k : StrsOk crew) (hl : h.length ≤ 18) (ht : t ≤ 18) {ml : MA} {E : Ev} (he : ml E C = some ([histD h, strsD crew, .int (t : Int)], C)) : ∃ l, mKeepF (mCall M_law_kept ml) E C = some (.rol l, C) ∧ ∀ d ∈ l, gd 50 d = true := by
  have hz : (1000 : Nat) < sizeLine := by decide
  have w : We (M_law_kept [histD h, strsD crew, .int (t : Int)] C) fun d C' => C' = C ∧ ∃ l, d = .rol l ∧ ∀ d ∈ l, gd 50 d = true := by
    refine fn_wo rfl ?_
    show Wo (B_law_kept [some (histD h), some (strsD crew), some (.int (t : Int)), none, none, none, none, none] C) _ _
    refine wo_seq (wo_asgT (d := .tup [.rol [], .rol ((boxesF h).map boxD)]) (C1 := C) (E1 := [some (histD h), some (strsD crew), some (.int (t : Int)), some (.rol []), some (.rol ((boxesF h).map boxD)), none, none, none]) (tup_eq (cons_eq (nilF W) (cons_eq (k_puts W s (by omega) rfl) nil_eq))) rfl ?_)
    have src : mIRng2 (mCons (mC (.int 1)) (mCons (mBin addD (mVar 2) (mC (.int 1))) mNil)) [some (histD h), some (strsD crew), some (.int (t : Int)), some (.rol []), some (.rol ((boxesF h).map boxD)), none, none, none] C = some (.seq (rngD 1 t), (rngD 1 t).length, C) := by
      have a : mCons (mC (.int 1)) (mCons (mBin addD (mVar 2) (mC (.int 1))) mNil) [some (histD h), some (strsD crew), some (.int (t : Int)), some (.rol []), some (.rol ((boxesF h).map boxD)), none, none, none] C = some ([.int 1, .int ((t : Int) + 1)], C) := cons_eq rfl (cons_eq (bin_eq (x := .int (t : Int)) (y := .int 1) rfl rfl) nil_eq)
      have b : t ≤ 1000 := by omega
      rw [rngD_len]
      exact src_rng2 a b
    generalize hr : rngD 1 t = ds at src
    refine wo_seq ?_
    with_reducible refine wo_rng2 (ds := ds) (it := .seq ds) (fun i E C' => ∃ l, E = [some (histD h), some (strsD crew), some (.int (t : Int)), some (.rol l), some (.rol ((boxesF h).map boxD)), none, none, none] ∧ C' = C ∧ l.length ≤ 36 * i ∧ ∀ d ∈ l, gd 50 d = true) src ?h0 (fun _ _ _ _ => rfl) ?_ ?_
    case h0 => exact ⟨[], rfl, rfl, by simp, by simp⟩
    · rintro i d E C' hd ⟨l, rfl, rfl, hll, gl⟩
      subst hr
      obtain ⟨hi, e⟩ := List.getElem?_eq_some_iff.mp hd
      have hi : i < t := by rwa [rngD_len] at hi
      have e : d = .int ((i + 1 : Nat) : Int) := by
        rw [← e]; simp [rngD]; omega
      subst e
      refine ⟨_, rfl, wo_wipe ?_⟩
      have tl := len_there (h.take (i + 1))
      have tl2 : (h.take (i + 1)).length ≤ 18 := by simp; omega
      let bs := (thereF (h.take (i + 1))).map (boxAt h)
      have lc : mLcV (mIAny (mKeepF (mCall M_law_there (mCons (mVar 0) (mCons (mVar 5) mNil))))) (gN 7) mYes (mBin ixD (mVar 4) (mVar 7)) [7] [some (histD h), some (strsD crew), some (.int (t : Int)), some (.rol l), some (.rol ((boxesF h).map boxD)), some (.int ((i + 1 : Nat) : Int)), none, none] C' = some (.rol (bs.map boxD), C') := by
        rw [lcE (enc := fun n : Nat => .int (n : Int)) (xs := thereF (h.take (i + 1))) (fun _ => true) (fun n => boxD (boxAt h n)) ?_ (by unfold thereF; omega) fun n hn => ⟨_, rfl, rfl, fun _ => ?_⟩]
        · rw [List.filter_eq_self.mpr (fun _ _ => rfl), List.map_map]; rfl
        · rw [src_any (k_there W (h := h) (t := i + 1) (by omega) v rfl) (.inl rfl), natsD, List.length_map]
        · rw [bin_eq (x := .rol ((boxesF h).map boxD)) (y := .int (n : Int)) rfl rfl]
          exact ix_at (boxAt_mem (there_lt v _ n hn)).2
      refine wo_seq (wo_asg (We.of lc ?_))
      have hn := hand_len (h.take (i + 1)) crew
      have ad := addF (ma := mVar 3) (mb := mKeepF (mCall M_law_hand (mCons (mVar 0) (mCons (mVar 1) (mCons (mVar 5) mNil))))) (E := [some (histD h), some (strsD crew), some (.int (t : Int)), some (.rol l), some (.rol ((boxesF h).map boxD)), some (.int ((i + 1 : Nat) : Int)), some (.rol (bs.map boxD)), none]) W (a := l) rfl (k_law_hand W s.ok k (by omega) rfl) (bnds_gd gl) (ints_b _) (by simp only [List.length_map]; omega)
      have bsl : bs.length ≤ 18 := by
        show ((thereF (h.take (i + 1))).map (boxAt h)).length ≤ 18
        rw [List.length_map]; unfold thereF; omega
      obtain ⟨l2, e2, h1, h2⟩ := k_opened W (ks := l ++ (handF (h.take (i + 1)) crew).map D.int) (bs := bs) (cons_eq ad (cons_eq (var_eq (i := 6) rfl) nil_eq)) (fun d hd => by
        rcases List.mem_append.mp hd with z | z
        · exact gl d z
        · obtain ⟨q, _, rfl⟩ := List.mem_map.mp z; rfl) (fun b hb => by
        obtain ⟨n, hn, rfl⟩ := List.mem_map.mp hb
        have := box_mem s _ (boxAt_mem (there_lt v _ n hn)).1
        exact ⟨smTh_ok this.1, by have := this.2.1; omega⟩) (by simp only [List.length_append, List.length_map]; omega)
      refine wo_asg (We.of e2 ⟨l2, rfl, rfl, ?_, h2⟩)
      simp only [List.length_append, List.length_map] at h1
      omega
    · rintro E C' ⟨l, rfl, rfl, _, gl⟩
      exact wo_ret (We.of (var_eq rfl) ⟨rfl, l, rfl, gl⟩)
  obtain ⟨d, C', e, rfl, l, rfl, h1⟩ := w.ex
  exact ⟨l, keep_pure W ((call_eq he).trans e) (by simp only [D.bnd]; exact bnds_gd h1), h1⟩
end G
set_option Elab.async false
set_option linter.all false
set_option maxRecDepth 100000
set_option maxHeartbeats 1000000
namespace G
open PySem L2 Mi Au
theorem eqF {m : ME} {E : Ev} {C : Hm} {l : List D} (W : WB C) (h : m E C = some (.rol l, C)) (gl : ∀ d ∈ l, gd 59 d = true) : mTest (mBin dEq m (mFrz (mLst mNil))) E C = some (l.isEmpty, C) :=
  tst_eq (by rw [bin_eq h (nilF W), eq_rol gl])
theorem neF {m : ME} {E : Ev} {C : Hm} {l : List D} (W : WB C) (h : m E C = some (.rol l, C)) (gl : ∀ d ∈ l, gd 59 d = true) : mTest (mBin dNe m (mFrz (mLst mNil))) E C = some (!l.isEmpty, C) :=
  tst_eq (by rw [bin_eq h (nilF W), ne_rol gl])
theorem ints_g {n : Nat} (l : List Int) : ∀ d ∈ l.map D.int, gd (n + 1) d = true := fun d hd => by obtain ⟨q, _, rfl⟩ := List.mem_map.mp hd; rfl
/-- the openings that may be drawn -/
def Opens (h : Hist) (who : List Str) (os : Hist) : Prop := ∀ d ∈ os, ∃ w n, d = .opn w n ∧ w ∈ who ∧ n ≤ h.length
theorem opens_ok {C : Hm} (W : WB C) {h : Hist} {who : List Str} (s : Sm h) (v : Vld h) (k : ∀ x ∈ who, PyData.strOk x = true) (hl : h.length ≤ 18) (hw : who.length ≤ 3) {ml : MA} {E : Ev} (he : ml E C = some ([histD h, strsD who], C)) : ∃ os, mKeepF (mCall M_law_opens_of ml) E C = some (.rol (os.map deedD), C) ∧ Opens h who os ∧ os.length ≤ 54 := by
  have hz : (1000 : Nat) < sizeLine := by decide
  have tl := len_there h
  have w : We (M_law_opens_of [histD h, strsD who] C) fun d C' => d = .cell C.length ∧ ∃ os, C' = C ++ [.lst (os.map deedD)] ∧ Opens h who os ∧ os.length ≤ 54 := by
    refine fn_wo rfl ?_
    show Wo (B_law_opens_of [some (histD h), some (strsD who), none, none, none, none, none, none] C) _ _
    have W1 : WB (C ++ [Cell.lst []]) := W.push rfl
    refine wo_seq (wo_par (d := .cell C.length) (e := .rol ((boxesF h).map boxD)) (C1 := C ++ [Cell.lst []]) (cons_eq (lst_eq nil_eq) (cons_eq (k_puts W1 s (by omega) rfl) nil_eq)) ?_)
    refine wo_seq (wo_for (ds := who.map D.str) (it := .seq (who.map D.str)) (fun i E C' => ∃ os, E = [some (histD h), some (strsD who), some (.cell C.length), some (.rol ((boxesF h).map boxD)), none, none, none, none] ∧ C' = C ++ [.lst (os.map deedD)] ∧ Opens h who os ∧ os.length ≤ 18 * i) (by rw [List.length_map]; exact src_tup rfl) ⟨[], rfl, rfl, fun d hd => (List.not_mem_nil hd).elim, by simp⟩ (fun _ _ _ _ => rfl) ?_ ?_)
    · rintro i d E C' hd ⟨os, rfl, rfl, ho, hos⟩
      rw [List.getElem?_map] at hd
      obtain ⟨p, hp, rfl⟩ := omap hd
      have hi := (List.getElem?_eq_some_iff.mp hp).1
      have pm : p ∈ who := List.mem_of_getElem? hp
      have wb : ∀ os : Hist, Opens h who os → WB (C ++ [Cell.lst (os.map deedD)]) := fun os ho => W.push (bnds_of fun d hd => by
        obtain ⟨x, hx, rfl⟩ := List.mem_map.mp hd
        obtain ⟨a, b, rfl, _⟩ := ho x hx
        rfl)
      refine ⟨_, rfl, wo_wipe ?_⟩
      obtain ⟨l, e1, gl⟩ := kept_ok (wb os ho) (crew := [p]) (t := h.length) (E := [some (histD h), some (strsD who), some (.cell C.length), some (.rol ((boxesF h).map boxD)), some (.str p), none, none, none]) (ml := mCons (mVar 0) (mCons (mTup (mCons (mVar 4) mNil)) (mCons (mCallB lenD (mCons (mVar 0) mNil)) mNil))) s v (fun x hx => by rw [List.mem_singleton.mp hx]; exact k p pm) hl hl (cons_eq rfl (cons_eq (tup_eq (ds := [.str p]) rfl) (cons_eq (by rw [callB_eq (cons_eq (var_eq rfl) nil_eq), show (h.length : Nat) = (h.map deedD).length by simp]; rfl) nil_eq)))
      refine wo_seq (wo_asg (We.of e1 ?_))
      have src : mIAny (mKeepF (mCall M_law_there (mCons (mVar 0) (mCons (mCallB lenD (mCons (mVar 0) mNil)) mNil)))) [some (histD h), some (strsD who), some (.cell C.length), some (.rol ((boxesF h).map boxD)), some (.str p), some (.rol l), none, none] (C ++ [Cell.lst (os.map deedD)]) = some (.seq (natsD (thereF h)), (natsD (thereF h)).length, C ++ [Cell.lst (os.map deedD)]) := by
        refine src_any ?_ (.inl rfl)
        have := k_there (wb os ho) (h := h) (t := h.length) (by omega) v (ml := mCons (mVar 0) (mCons (mCallB lenD (mCons (mVar 0) mNil)) mNil)) (E := [some (histD h), some (strsD who), some (.cell C.length), some (.rol ((boxesF h).map boxD)), some (.str p), some (.rol l), none, none]) (cons_eq rfl (cons_eq (by rw [callB_eq (cons_eq (var_eq rfl) nil_eq), show (h.length : Nat) = (h.map deedD).length by simp]; rfl) nil_eq))
        rwa [List.take_length] at this
      refine wo_for (ds := natsD (thereF h)) (it := .seq (natsD (thereF h))) (fun j E C' => ∃ os', E = [some (histD h), some (strsD who), some (.cell C.length), some (.rol ((boxesF h).map boxD)), some (.str p), some (.rol l), none, none] ∧ C' = C ++ [.lst (os'.map deedD)] ∧ Opens h who os' ∧ os'.length ≤ 18 * i + j) src ⟨os, rfl, rfl, ho, by omega⟩ (fun _ _ _ _ => rfl) ?_ ?_
      · rintro j d E C' hd ⟨os', rfl, rfl, ho', hos'⟩
        rw [natsD, List.getElem?_map] at hd
        obtain ⟨n, hn, rfl⟩ := omap hd
        have hj := (List.getElem?_eq_some_iff.mp hn).1
        have nm : n ∈ thereF h := List.mem_of_getElem? hn
        have nlt : n < (boxesF h).length := there_lt v h.length n (by rw [List.take_length]; exact nm)
        have nle : n ≤ h.length := by
          have : (boxesF h).length ≤ h.length := by unfold boxesF; exact List.length_filterMap_le _ _
          omega
        obtain ⟨bm, bx⟩ := boxAt_mem nlt
        have sb := box_mem s _ bm
        refine ⟨_, rfl, wo_wipe ?_⟩
        have ls : mBin ixD (mBin ixD (mVar 3) (mVar 6)) (mC (.int 1)) [some (histD h), some (strsD who), some (.cell C.length), some (.rol ((boxesF h).map boxD)), some (.str p), some (.rol l), some (.int (n : Int)), none] (C ++ [Cell.lst (os'.map deedD)]) = some (.tup ((boxAt h n).2.map .int), C ++ [Cell.lst (os'.map deedD)]) := by
          rw [bin_eq (bin_eq (x := .rol ((boxesF h).map boxD)) (y := .int (n : Int)) rfl rfl |>.trans (ix_at bx)) rfl]; rfl
        refine wo_if (eqF (wb os' ho') (lc_want (y := .rol l) (l := l) (j := 5) (z := 7) (ks := (boxAt h n).2) (by simp) rfl ((src_any ls (.inr rfl)).trans (by rw [List.length_map])) (by omega) (fun k => inD_rol rfl fun d hd => gd_le (gl d hd) (by omega)) (by have := sb.2.1; omega)) (ints_g _)) (fun _ => ?_) fun _ => wo_next ⟨os', rfl, rfl, ho', by omega⟩
        refine wo_drop (We.of (app_eq (d := deedD (.opn p n)) rfl (cons_eq (tup_eq (ds := [.str sOpen, .str p, .int (n : Int)]) rfl (by simp; decide)) nil_eq) (by simp; have := hj; unfold thereF at this; omega)) ⟨os' ++ [.opn p n], rfl, by simp, fun d hd => ?_, by simp; omega⟩)
        rcases List.mem_append.mp hd with z | z
        · exact ho' d z
        · rw [List.mem_singleton.mp z]; exact ⟨p, n, rfl, pm, nle⟩
      · rintro E C' ⟨os', rfl, rfl, ho', hos'⟩
        refine ⟨os', rfl, rfl, ho', ?_⟩
        simp only [natsD, List.length_map] at hos'
        unfold thereF at hos'
        omega
    · rintro E C' ⟨os, rfl, rfl, ho, hos⟩
      rw [List.length_map] at hos
      exact wo_ret (We.of (var_eq rfl) ⟨rfl, os, rfl, ho, by omega⟩)
  obtain ⟨d, C', e, rfl, os, rfl, h1, h2⟩ := w.ex
  refine ⟨os, keep_lst W ((call_eq he).trans e) (Nat.le_refl _) last_get (bnds_of fun d hd => ?_), h1, h2⟩
  obtain ⟨x, hx, rfl⟩ := List.mem_map.mp hd
  obtain ⟨a, b, rfl, _⟩ := h1 x hx
  rfl
/-! ## draws -/
theorem lenI {C : Hm} {d : D} {l : List D} (h : d = .rol l ∨ d = .tup l) : lenD [d] C = some (.int (l.length : Int), C) := by rcases h with rfl | rfl <;> rfl
theorem ix_in {C : Hm} {d : D} {l : List D} (h : d = .rol l ∨ d = .tup l) {r : Int} (h0 : 0 ≤ r) (h1 : r < l.length) : ∃ x, ixD d (.int r) C = some (x, C) ∧ x ∈ l := by
  have hn : r.toNat < l.length := by omega
  have e : l[r.toNat]? = some l[r.toNat] := List.getElem?_eq_getElem hn
  have a : atI l r = some l[r.toNat] := by
    unfold atI ixN
    rw [if_pos h0, if_pos h1]
    simpa using e
  refine ⟨l[r.toNat], ?_, List.getElem_mem hn⟩
  rcases h with rfl | rfl
  · show (atI l r).map _ = _
    rw [a]; rfl
  · show (atI l r).map _ = _
    rw [a]; rfl
theorem any_ok {C : Hm} (F : Fd C) {d : D} {l : List D} (h : d = .rol l ∨ d = .tup l) (h0 : l ≠ []) (h1 : l.length < 1000000) : We (M_law_any [.cell 1, d] C) fun x C' => x ∈ l ∧ Up C C' := by
  refine fn_wo rfl (wo_ret ?_)
  refine We.bin (We.of (var_eq (i := 1) (d := d) rfl) ?_)
  have hp : 0 < l.length := List.length_pos_iff.mpr h0
  have lw : mCons (mVar 0) (mCons (mCallB lenD (mCons (mVar 1) mNil)) mNil) [some (.cell 1), some d] C = some ([.cell 1, .int (l.length : Int)], C) := cons_eq rfl (cons_eq ((callB_eq (cons_eq (var_eq rfl) nil_eq)).trans (lenI h)) nil_eq)
  refine (wDraw F lw (by omega) (by omega)).imp ?_
  rintro x C' ⟨⟨r, rfl, r0, r1⟩, u⟩
  obtain ⟨x, e, m⟩ := ix_in (C := C') h r0 r1
  show We (ixD d (.int r) C') _
  rw [e]; exact ⟨m, u⟩
theorem k_any {C : Hm} (F : Fd C) {ml : MA} {E : Ev} {d : D} {l : List D} (he : ml E C = some ([.cell 1, d], C)) (h : d = .rol l ∨ d = .tup l) (h0 : l ≠ []) (h1 : l.length < 1000000) (hb : ∀ x ∈ l, ∀ k, x.bnd k = true) : We (mKeepF (mCall M_law_any ml) E C) fun x C' => x ∈ l ∧ Up C C' :=
  keep_up he (any_ok F h h0 h1) hb
end G
set_option Elab.async false
set_option linter.all false
set_option maxRecDepth 100000
set_option maxHeartbeats 1000000
namespace G
open PySem L2 Mi Au
theorem Up.fd' {C C' : Hm} (u : Up C C') : WB C' := u.fd.1
theorem wT {m : ME} {E : Ev} {C : Hm} {n : MS} {N : Ev → Hm → Prop} {R : D → Hm → Prop} {p : MS} (h : We (m E C) fun d C' => ∃ b, d = .bl b ∧ Wo ((if b = true then n else p) E C') N R) : Wo (mIfS (mTest m) n p E C) N R := by
  obtain ⟨d, C', e, b, rfl, w⟩ := h.ex
  refine wo_if (tst_eq e) (fun e => ?_) fun e => ?_
  · subst e; exact w
  · subst e; exact w
theorem int_eq {i j : Int} {C : Hm} : dEq (.int i) (.int j) C = some (.bl (i == j), C) := rfl
/-- six places: those that are other than the thing, and that may be drawn -/
theorem six_ne {n : Int} {x : Th} (h : okTh x = true) {C : Hm} : dNe (.int n) (thD x) C = some (.bl (!eqD (.int n) (thD x)), C) := dNe_gd rfl (gd_th (n := 58) h)
theorem rng6 : rngD 0 6 = [0, 1, 2, 3, 4, 5].map D.int := rfl
def locks6 : List Int := [0, 1, 2, 3, 4, 5]
theorem box_ok {C : Hm} (F : Fd C) : We (M_law_box [.cell 1] C) fun d C' => (∃ b, d = boxD b ∧ smB b) ∧ Up C C' := by
  refine fn_wo rfl ?_
  show Wo (B_law_box [some (.cell 1), none, none, none, none] C) _ _
  have mid : Wo (mSeq (mAsg (mKeepF (mCall M_law_draw (mCons (mVar 0) (mCons (mC (.int 6)) mNil)))) (gN 1)) (mIfS (mTest (mBin dEq (mKeepF (mCall M_law_draw (mCons (mVar 0) (mCons (mC (.int 3)) mNil)))) (mC (.int 0)))) (mAsg (mTup (mCons (mKeepF (mCall M_law_any (mCons (mVar 0) (mCons (mFrz (mLst (mCons (mC (.str sMemo)) (mCons (mC (.str sLog)) mNil)))) mNil)))) (mCons (mKeepF (mCall M_law_draw (mCons (mVar 0) (mCons (mC (.int 2)) mNil)))) mNil))) (gN 1)) mNext) [some (.cell 1), none, none, none, none] C) (fun E1 C1 => (∃ x, smTh x ∧ E1 = [some (.cell 1), some (thD x), none, none, none]) ∧ Up C C1) (fun d C' => (∃ b, d = boxD b ∧ smB b) ∧ Up C C') := by
    refine wo_seq (wo_asg ((wDraw F (n := 6) rfl).imp ?_))
    rintro d C1 ⟨⟨r, rfl, r0, r1⟩, u1⟩
    refine wT (We.bin ((wDraw u1.fd (n := 3) rfl).imp ?_))
    rintro d C2 ⟨⟨q, rfl, q0, q1⟩, u2⟩
    refine We.of (show mC (.int 0) _ _ = some (.int 0, _) from rfl) ⟨q == 0, rfl, ?_⟩
    split
    · refine wo_asg (We.tup (Wa.cons ((k_any u2.fd (l := [.str sMemo, .str sLog]) (cons_eq rfl (cons_eq (lstF (ds := [.str sMemo, .str sLog]) u2.fd' rfl (by simp [D.bnd])) nil_eq)) (.inl rfl) (by simp) (by simp) (by simp [D.bnd])).imp ?_)))
      rintro x C3 ⟨xm, u3⟩
      refine Wa.cons ((wDraw u3.fd (n := 2) rfl).imp ?_)
      rintro y C4 ⟨⟨p, rfl, p0, p1⟩, u4⟩
      refine Wa.nil ⟨by simp, ?_, (u1.trans u2).trans (u3.trans u4)⟩
      simp at xm
      rcases xm with rfl | rfl
      · exact ⟨.t sMemo p, ⟨by simp, p0, by omega⟩, rfl⟩
      · exact ⟨.t sLog p, ⟨by simp, p0, by omega⟩, rfl⟩
    · exact wo_next ⟨⟨.k r, ⟨r0, r1⟩, rfl⟩, u1.trans u2⟩
  -- regroup
  have cut : ∀ {a b c : MS} {E : Ev} {C : Hm} {N : Ev → Hm → Prop} {R : D → Hm → Prop}, Wo (mSeq a b E C) (fun E1 C1 => Wo (c E1 C1) N R) R → Wo (mSeq a (mSeq b c) E C) N R := by
    intro a b c E C N R h
    refine wo_seq ?_
    unfold mSeq at h
    cases q : a E C with
    | none => rw [q] at h; exact h.elim
    | some o =>
      rw [q] at h
      cases o with
      | nx E1 C1 => exact wo_seq h
      | rt d C1 => exact h
      | bk E1 C1 => exact h.elim
      | ct E1 C1 => exact h.elim
  refine cut (mid.imp ?_ fun _ _ h => h)
  rintro E1 C1 ⟨⟨x, sx, rfl⟩, u1⟩
  have ox := smTh_ok sx
  -- the locks
  have W1 := u1.fd'
  have src : ∀ (E : Ev) (C : Hm), mIRng1 (mCons (mC (.int 6)) mNil) E C = some (.seq (locks6.map .int), (locks6.map D.int).length, C) := fun E C => by
    rw [src_rng (n := 6) rfl (by omega), rng6]; rfl
  refine wo_seq (wo_asg ((lcH (ds := locks6.map .int) (Up C) (fun d => ∃ k, d = .int k ∧ smI k) (src _ _) u1 (fun _ _ _ => rfl) (by simp [locks6]; decide) ?_).imp ?_))
  · intro d hd C2 u2
    obtain ⟨n, hn, rfl⟩ := List.mem_map.mp hd
    have sn : smI n := by
      simp [locks6] at hn
      unfold smI; omega
    have t1 : mTest (mBin dNe (mVar 3) (mVar 1)) [some (.cell 1), some (thD x), none, some (.int n), none] C2 = some (!eqD (.int n) (thD x), C2) := tst_eq (by rw [bin_eq (x := .int n) (y := thD x) rfl rfl]; exact six_ne ox)
    cases hq : eqD (.int n) (thD x) with
    | true =>
      rw [hq] at t1
      refine ⟨[some (.cell 1), some (thD x), none, some (.int n), none], false, C2, rfl, ?_, u2, fun e => by cases e⟩
      unfold tAndM
      rw [t1]; rfl
    | false =>
      rw [hq] at t1
      obtain ⟨d, C3, e, ⟨r, rfl, _, _⟩, u3⟩ := (wDraw u2.fd (ml := mCons (mVar 0) (mCons (mC (.int 5)) mNil)) (E := [some (.cell 1), some (thD x), none, some (.int n), none]) (n := 5) rfl).ex
      refine ⟨[some (.cell 1), some (thD x), none, some (.int n), none], r == 0, C3, rfl, ?_, u2.trans u3, fun _ => We.of (var_eq rfl) ⟨⟨n, rfl, sn⟩, u2.trans u3⟩⟩
      unfold tAndM
      rw [t1]
      simp only [Option.bind_some, Bool.not_false, if_true]
      exact tst_eq (by rw [bin_eq e rfl]; exact int_eq)
  rintro d C2 ⟨l, rfl, pl, ll, u2⟩
  -- the others
  have lc : mLcV (mIRng1 (mCons (mC (.int 6)) mNil)) (gN 3) (mTest (mBin dNe (mVar 3) (mVar 1))) (mVar 3) [3] [some (.cell 1), some (thD x), some (.rol l), none, none] C2 = some (.rol ((locks6.filter fun n => !eqD (.int n) (thD x)).map .int), C2) := by
    rw [lcE (enc := D.int) (xs := locks6) (fun n => !eqD (.int n) (thD x)) D.int ((src _ _).trans (by rw [List.length_map])) (by simp [locks6]; decide) fun n hn => ⟨_, rfl, ?_, fun _ => rfl⟩]
    exact tst_eq (by rw [bin_eq (x := .int n) (y := thD x) rfl rfl]; exact six_ne ox)
  refine wo_seq (wo_asg (We.of lc ?_))
  refine wo_ret ?_
  have gl : ∀ d ∈ l, gd 59 d = true := fun d hd => by obtain ⟨k, rfl, _⟩ := pl d hd; rfl
  have t3 : mTest (mBin dNe (mVar 2) (mFrz (mLst mNil))) [some (.cell 1), some (thD x), some (.rol l), none, some (.rol ((locks6.filter fun n => !eqD (.int n) (thD x)).map .int))] C2 = some (!l.isEmpty, C2) := neF u2.fd' rfl gl
  refine We.tup (Wa.cons (We.of (var_eq (d := thD x) rfl) (Wa.cons ?_)))
  show We (mIf _ _ _ [some (.cell 1), some (thD x), some (.rol l), none, some (.rol ((locks6.filter fun n => !eqD (.int n) (thD x)).map .int))] C2) _
  unfold mIf
  rw [t3]
  simp only [Option.bind_some]
  cases hl : l.isEmpty with
  | false =>
    simp only [Bool.not_false, if_true]
    have sl : mFrz (mSl slD (mVar 2) oNone (oSome (mC (.int 2)))) [some (.cell 1), some (thD x), some (.rol l), none, some (.rol ((locks6.filter fun n => !eqD (.int n) (thD x)).map .int))] C2 = some (.rol (l.take 2), C2) := by
      refine frz_new u2.fd' ?_ (bnds_of fun d hd => bnd_gd (gl d (List.mem_of_mem_take hd)))
      show some (D.cell C2.length, C2 ++ [Cell.lst (cutD l none (some ((2 : Nat) : Int)))]) = _
      rw [lo_take]
    refine We.of (d := .tup (l.take 2)) (C' := C2) (by rw [callB_eq (cons_eq sl nil_eq)]; rfl) (Wa.nil ⟨by simp, ?_, u2⟩)
    have ex : ∀ l : List D, (∀ d ∈ l, ∃ k, d = .int k ∧ smI k) → ∃ ks : List Int, l = ks.map .int ∧ ∀ k ∈ ks, smI k := by
      intro l
      induction l with
      | nil => intro _; exact ⟨[], rfl, by simp⟩
      | cons d l ih =>
        intro h
        obtain ⟨k, rfl, sk⟩ := h d (by simp)
        obtain ⟨ks, rfl, h2⟩ := ih fun d hd => h d (by simp [hd])
        exact ⟨k :: ks, rfl, by simpa using ⟨sk, h2⟩⟩
    obtain ⟨ks, rfl, sk⟩ := ex l pl
    exact ⟨(x, ks.take 2), by simp [boxD], sx, by simp; omega, fun k hk => sk k (List.mem_of_mem_take hk)⟩
  | true =>
    simp only [Bool.not_true, Bool.false_eq_true, if_false]
    have ne : (locks6.filter fun n => !eqD (.int n) (thD x)).map D.int ≠ [] := by
      intro e
      have a0 : ∀ n ∈ locks6, eqD (.int n) (thD x) = true := fun n hn => by
        cases hq : eqD (.int n) (thD x) with
        | true => rfl
        | false =>
          have : D.int n ∈ (locks6.filter fun n => !eqD (.int n) (thD x)).map D.int := List.mem_map.mpr ⟨n, List.mem_filter.mpr ⟨hn, by rw [hq]; rfl⟩, rfl⟩
          rw [e] at this; cases this
      have q0 := (eqD_iff (n := 60) (m := 60) (x := .int 0) (y := thD x) rfl (gd_th (n := 58) ox)).mp (a0 0 (by simp [locks6]))
      have q1 := (eqD_iff (n := 60) (m := 60) (x := .int 1) (y := thD x) rfl (gd_th (n := 58) ox)).mp (a0 1 (by simp [locks6]))
      rw [← q0] at q1
      cases q1
    refine We.tup (Wa.cons ((k_any u2.fd (l := (locks6.filter fun n => !eqD (.int n) (thD x)).map D.int) (cons_eq rfl (cons_eq (var_eq rfl) nil_eq)) (.inl rfl) ne (by rw [List.length_map]; have := List.length_filter_le (fun n => !eqD (.int n) (thD x)) locks6; simp [locks6] at this ⊢; omega) (fun d hd k => by obtain ⟨q, _, rfl⟩ := List.mem_map.mp hd; rfl)).imp ?_))
    rintro d C3 ⟨dm, u3⟩
    obtain ⟨n, hn, rfl⟩ := List.mem_map.mp dm
    have hn2 := (List.mem_filter.mp hn).1
    simp [locks6] at hn2
    refine Wa.nil ⟨by simp, Wa.nil ⟨by simp, ⟨(x, [n]), rfl, sx, by simp, fun k hk => ?_⟩, u2.trans u3⟩⟩
    simp at hk
    subst hk
    unfold smI; show 0 ≤ k ∧ k < 6; omega
theorem smB_gd {b : Box} (s : smB b) : ∀ k, (boxD b).bnd k = true := fun k => bnd_gd (gd_box (n := 30) (smTh_ok s.1))
theorem k_box {C : Hm} (F : Fd C) {ml : MA} {E : Ev} (he : ml E C = some ([.cell 1], C)) : We (mKeepF (mCall M_law_box ml) E C) fun d C' => (∃ b, d = boxD b ∧ smB b) ∧ Up C C' :=
  keep_up he (box_ok F) fun d ⟨b, e, s⟩ k => by rw [e]; exact smB_gd s k
end G
set_option Elab.async false
set_option linter.all false
set_option maxRecDepth 100000
set_option maxHeartbeats 1000000
namespace G
open PySem L2 Mi Au
theorem wo_mid {m n : MS} {E : Ev} {C : Hm} {N : Ev → Hm → Prop} {R : D → Hm → Prop} (J : Ev → Hm → Prop) (h1 : Wo (m E C) J R) (h2 : ∀ E C, J E C → Wo (n E C) N R) : Wo (mSeq m n E C) N R :=
  wo_seq (h1.imp h2 fun _ _ h => h)
def Step (h : Hist) (d : Deed) : Prop := smD d ∧ ∀ n, d = .take n → n ∈ thereF h
theorem sm_bnd {d : Deed} (s : smD d) (k : Nat) : (deedD d).bnd k = true := bnd_gd (gd_deed (n := 30) (smD_ok s))
theorem mem_three {k : Nat} {s : Str} (h : s ∈ three.take k) : s ∈ three := List.mem_of_mem_take h
theorem there_le {h : Hist} (v : Vld h) {n : Nat} (hn : n ∈ thereF h) : n < h.length := by
  have a := there_lt v h.length n (by rw [List.take_length]; exact hn)
  have : (boxesF h).length ≤ h.length := by unfold boxesF; exact List.length_filterMap_le _ _
  omega
theorem days_ok {C : Hm} (F : Fd C) {m : Nat} (hm : m ≤ 18) : We (M_law_days [.cell 1, .int (m : Int)] C) fun d C' => (∃ h, d = histD h ∧ h.length = m ∧ Sm h ∧ Vld h) ∧ Up C C' := by
  have hz : (1000 : Nat) < sizeLine := by decide
  refine fn_wo rfl ?_
  show Wo (B_law_days [some (.cell 1), some (.int (m : Int)), none, none, none, none, none, none] C) _ _
  obtain ⟨d, C1, e, ⟨r, rfl, r0, r1⟩, u1⟩ := (wDraw F (ml := mCons (mVar 0) (mCons (mC (.int 3)) mNil)) (E := [some (.cell 1), some (.int (m : Int)), none, none, none, none, none, none]) (n := 3) rfl).ex
  obtain ⟨g, hg, g0, g1, g2⟩ : ∃ g : List Str, D.tup (cutD (three.map D.str) none (some (1 + r))) = strsD g ∧ g ≠ [] ∧ g.length ≤ 3 ∧ ∀ s ∈ g, s ∈ three := by
    refine ⟨three.take (1 + r).toNat, ?_, ?_, ?_, fun s hs => mem_three hs⟩
    · rw [show (1 + r : Int) = (((1 + r).toNat : Nat) : Int) by omega, lo_take, ← List.map_take]; rfl
    · rw [show (1 + r).toNat = r.toNat + 1 by omega]; simp
    · rw [List.length_take]; simp; omega
  have gk : ∀ x ∈ g, PyData.strOk x = true := fun x hx => (three_ok x (g2 x hx)).1
  have gb : ∀ x ∈ g.map D.str, ∀ k, x.bnd k = true := fun x hx k => by obtain ⟨s, _, rfl⟩ := List.mem_map.mp hx; rfl
  have sl : mSl slD (mTup (mCons (mC (.str sAnn)) (mCons (mC (.str sBob)) (mCons (mC (.str sCy)) mNil)))) oNone (oSome (mBin addD (mC (.int 1)) (mKeepF (mCall M_law_draw (mCons (mVar 0) (mCons (mC (.int 3)) mNil)))))) [some (.cell 1), some (.int (m : Int)), none, none, none, none, none, none] C = some (strsD g, C1) := by
    have t : mTup (mCons (mC (.str sAnn)) (mCons (mC (.str sBob)) (mCons (mC (.str sCy)) mNil))) [some (.cell 1), some (.int (m : Int)), none, none, none, none, none, none] C = some (.tup (three.map D.str), C) := tup_eq rfl
    have a : mBin addD (mC (.int 1)) (mKeepF (mCall M_law_draw (mCons (mVar 0) (mCons (mC (.int 3)) mNil)))) [some (.cell 1), some (.int (m : Int)), none, none, none, none, none, none] C = some (.int (1 + r), C1) := by
      rw [bin_eq (C1 := C) (x := .int 1) rfl e]; rfl
    unfold mSl oNone oSome
    rw [t]
    simp only [Option.bind_some]
    rw [a]
    simp only [Option.bind_some, Option.map_some]
    show some (D.tup (cutD (three.map D.str) none (some (1 + r))), C1) = _
    rw [hg]
  refine wo_seq (wo_par (d := strsD g) (e := .tup []) (C1 := C1) (cons_eq sl (cons_eq rfl nil_eq)) ?_)
  have src : mIRng1 (mCons (mVar 1) mNil) [some (.cell 1), some (.int (m : Int)), some (strsD g), some (.tup []), none, none, none, none] C1 = some (.seq (rngD 0 m), (rngD 0 m).length, C1) := by
    rw [src_rng (n := m) rfl (by omega), rngD_len]
  simp only [List.set_cons_succ, List.set_cons_zero]
  refine wo_seq ?_
  with_reducible refine wo_rng1 (ds := rngD 0 m) (it := .seq (rngD 0 m)) (fun i E C' => ∃ h, E = [some (.cell 1), some (.int (m : Int)), some (strsD g), some (histD h), none, none, none, none] ∧ h.length = i ∧ Sm h ∧ Vld h ∧ Up C C') src ?h0 (fun _ _ _ _ => rfl) ?_ ?_
  case h0 => exact ⟨[], rfl, rfl, (fun d hd => (List.not_mem_nil hd).elim), (fun k n e => by simp at e), u1⟩
  · rintro i d E C2 hd ⟨h, rfl, rfl, s, v, u2⟩
    have hi : h.length < m := by have := (List.getElem?_eq_some_iff.mp hd).1; rwa [rngD_len] at this
    refine ⟨_, rfl, wo_wipe ?_⟩
    show Wo (mSeq _ _ [some (.cell 1), some (.int (m : Int)), some (strsD g), some (histD h), some d, none, none, none] C2) _ _
    obtain ⟨x, C3, e3, ⟨q, rfl, q0, q1⟩, u3⟩ := (wDraw u2.fd (ml := mCons (mVar 0) (mCons (mC (.int 10)) mNil)) (E := [some (.cell 1), some (.int (m : Int)), some (strsD g), some (histD h), some d, none, none, none]) (n := 10) rfl).ex
    have th : mKeepF (mCall M_law_there (mCons (mVar 3) (mCons (mCallB lenD (mCons (mVar 3) mNil)) mNil))) [some (.cell 1), some (.int (m : Int)), some (strsD g), some (histD h), some d, none, none, none] C3 = some (.rol (natsD (thereF h)), C3) := by
      have := k_there u3.fd' (h := h) (t := h.length) (by omega) v (ml := mCons (mVar 3) (mCons (mCallB lenD (mCons (mVar 3) mNil)) mNil)) (E := [some (.cell 1), some (.int (m : Int)), some (strsD g), some (histD h), some d, none, none, none]) (cons_eq rfl (cons_eq (by rw [callB_eq (cons_eq (var_eq rfl) nil_eq), show (h.length : Nat) = (h.map deedD).length by simp]; rfl) nil_eq))
      rwa [List.take_length] at this
    refine wo_seq (wo_par (cons_eq e3 (cons_eq th nil_eq)) ?_)
    -- the deed
    refine wo_mid (fun E C' => ∃ dd, E = [some (.cell 1), some (.int (m : Int)), some (strsD g), some (histD h), some d, some (.int q), some (.rol (natsD (thereF h))), some (deedD dd)] ∧ Step h dd ∧ Up C C') (wo_asg (We.tup (Wa.cons (We.of rfl (Wa.cons ((k_any u3.fd (l := g.map D.str) (cons_eq rfl (cons_eq (var_eq rfl) nil_eq)) (.inr rfl) (by simpa using g0) (by simp; omega) gb).imp ?_)))))) ?_
    · rintro y C4 ⟨ym, u4⟩
      obtain ⟨w, wm, rfl⟩ := List.mem_map.mp ym
      refine Wa.cons ((wDraw u4.fd (n := 6) rfl).imp ?_)
      rintro y C5 ⟨⟨p, rfl, p0, p1⟩, u5⟩
      exact Wa.nil ⟨by simp, .hand w p, rfl, ⟨⟨g2 w wm, p0, p1⟩, fun n e => by cases e⟩, ((u2.trans u3).trans u4).trans u5⟩
    rintro E C4 ⟨dd, rfl, st, u4⟩
    refine wo_mid (fun E C' => ∃ dd, E = [some (.cell 1), some (.int (m : Int)), some (strsD g), some (histD h), some d, some (.int q), some (.rol (natsD (thereF h))), some (deedD dd)] ∧ Step h dd ∧ Up C C') (wo_if (C' := C4) (b := memD (.int q) [.int 3, .int 4, .int 5, .int 6]) (tst_eq ?_) (fun _ => wo_asg (We.tup (Wa.cons (We.of rfl (Wa.cons ((k_box u4.fd rfl).imp ?_)))))) fun _ => wo_next ⟨dd, rfl, st, u4⟩) ?_
    · rw [bin_eq (x := .int q) (y := .tup [.int 3, .int 4, .int 5, .int 6]) rfl (tup_eq rfl), inD_tup rfl (by simp)]; rfl
    · rintro y C5 ⟨⟨b, rfl, sb⟩, u5⟩
      exact Wa.nil ⟨by simp, .put b, rfl, ⟨sb, fun n e => by cases e⟩, u4.trans u5⟩
    clear st u4 dd
    rintro E C4 ⟨dd, rfl, st, u4⟩
    refine wo_mid (fun E C' => ∃ dd, E = [some (.cell 1), some (.int (m : Int)), some (strsD g), some (histD h), some d, some (.int q), some (.rol (natsD (thereF h))), some (deedD dd)] ∧ Step h dd ∧ Up C C') (wo_if (C' := C4) (and_eq (a := q == 7) (b := !(natsD (thereF h)).isEmpty) (tst_eq (by rw [bin_eq (x := .int q) (y := .int 7) rfl rfl]; rfl)) (fun _ => neF u4.fd' rfl fun d hd => by obtain ⟨k, _, rfl⟩ := List.mem_map.mp hd; rfl)) (fun e => ?_) fun _ => wo_next ⟨dd, rfl, st, u4⟩) ?_
    · rw [Bool.and_eq_true, Bool.not_eq_true', List.isEmpty_eq_false_iff] at e
      have tl := len_there h
      refine wo_asg (We.tup (Wa.cons (We.of rfl (Wa.cons ((k_any u4.fd (l := natsD (thereF h)) (cons_eq rfl (cons_eq (var_eq rfl) nil_eq)) (.inl rfl) e.2 (by simp [natsD]; unfold thereF; omega) fun x hx k => by obtain ⟨n, _, rfl⟩ := List.mem_map.mp hx; rfl).imp ?_)))))
      rintro y C5 ⟨ym, u5⟩
      obtain ⟨n, nm, rfl⟩ := List.mem_map.mp ym
      exact Wa.nil ⟨by simp, .take n, rfl, ⟨by have := there_le v nm; show n ≤ 60; omega, fun n' e => by cases e; exact nm⟩, u4.trans u5⟩
    clear st u4 dd
    rintro E C4 ⟨dd, rfl, st, u4⟩
    refine wo_mid (fun E C' => ∃ dd, E = [some (.cell 1), some (.int (m : Int)), some (strsD g), some (histD h), some d, some (.int q), some (.rol (natsD (thereF h))), some (deedD dd)] ∧ Step h dd ∧ Up C C') (wo_if (C' := C4) (b := q == 8) (tst_eq (by rw [bin_eq (x := .int q) (y := .int 8) rfl rfl]; rfl)) (fun _ => wo_asg ?_) fun _ => wo_next ⟨dd, rfl, st, u4⟩) ?_
    · obtain ⟨os, eo, ho, hos⟩ := opens_ok u4.fd' (E := [some (.cell 1), some (.int (m : Int)), some (strsD g), some (histD h), some d, some (.int q), some (.rol (natsD (thereF h))), some (deedD dd)]) (ml := mCons (mVar 3) (mCons (mVar 2) mNil)) s v gk (by omega) g1 rfl
      have so : ∀ o ∈ os, smD o := fun o om => by
        obtain ⟨w, n, rfl, wm, hn⟩ := ho o om
        exact ⟨g2 w wm, by omega⟩
      have sb : ∀ x ∈ os.map deedD ++ [deedD dd], ∀ k, x.bnd k = true := fun x hx k => by
        rcases List.mem_append.mp hx with z | z
        · obtain ⟨o, om, rfl⟩ := List.mem_map.mp z
          exact sm_bnd (so o om) k
        · rw [List.mem_singleton.mp z]; exact sm_bnd st.1 k
      have ad := addF (a := os.map deedD) (b := [deedD dd]) u4.fd' eo (lstF (ml := mCons (mVar 7) mNil) (ds := [deedD dd]) u4.fd' rfl (by simp [sm_bnd st.1]) (by simp; decide)) (bnds_of fun x hx => sb x (by simp only [List.mem_append]; exact .inl hx) _) (bnds_of fun x hx => sb x (by simp only [List.mem_append]; exact .inr hx) _) (by simp; omega)
      refine (k_any u4.fd (cons_eq rfl (cons_eq ad nil_eq)) (.inl rfl) (by simp) (by simp; omega) sb).imp ?_
      rintro y C5 ⟨ym, u5⟩
      rcases List.mem_append.mp ym with z | z
      · obtain ⟨o, om, rfl⟩ := List.mem_map.mp z
        refine ⟨o, rfl, ⟨so o om, fun n e => ?_⟩, u4.trans u5⟩
        obtain ⟨w, n', rfl, _⟩ := ho o om
        cases e
      · rw [List.mem_singleton.mp z]
        exact ⟨dd, rfl, st, u4.trans u5⟩
    clear st u4 dd
    rintro E C4 ⟨dd, rfl, st, u4⟩
    refine wo_mid (fun E C' => ∃ dd, E = [some (.cell 1), some (.int (m : Int)), some (strsD g), some (histD h), some d, some (.int q), some (.rol (natsD (thereF h))), some (deedD dd)] ∧ Step h dd ∧ Up C C') (wo_if (C' := C4) (b := q == 9) (tst_eq (by rw [bin_eq (x := .int q) (y := .int 9) rfl rfl]; rfl)) (fun _ => wo_asg (We.tup (Wa.cons (We.of rfl (Wa.cons ((wDraw u4.fd (n := 6) rfl).imp ?_)))))) fun _ => wo_next ⟨dd, rfl, st, u4⟩) ?_
    · rintro y C5 ⟨⟨p, rfl, p0, p1⟩, u5⟩
      exact Wa.nil ⟨by simp, .leak p, rfl, ⟨⟨p0, p1⟩, fun n e => by cases e⟩, u4.trans u5⟩
    clear st u4 dd
    rintro E C4 ⟨dd, rfl, st, u4⟩
    have ad : mBin addD (mVar 3) (mTup (mCons (mVar 7) mNil)) [some (.cell 1), some (.int (m : Int)), some (strsD g), some (histD h), some d, some (.int q), some (.rol (natsD (thereF h))), some (deedD dd)] C4 = some (histD (h ++ [dd]), C4) := by
      rw [bin_eq (x := histD h) (y := .tup [deedD dd]) rfl (tup_eq rfl (by simp; decide))]
      rw [histD, add_tups (by simp; omega), histD, List.map_append]; rfl
    refine wo_asg (We.of ad ⟨h ++ [dd], rfl, by simp, fun x hx => ?_, v.snoc st.2, u4⟩)
    rcases List.mem_append.mp hx with z | z
    · exact s x z
    · rw [List.mem_singleton.mp z]; exact st.1
  · rintro E C2 ⟨h, rfl, hl, s, v, u2⟩
    rw [rngD_len] at hl
    exact wo_ret (We.of (var_eq rfl) ⟨⟨h, rfl, hl, s, v⟩, u2⟩)
theorem k_days {C : Hm} (F : Fd C) {m : Nat} (hm : m ≤ 18) {ml : MA} {E : Ev} (he : ml E C = some ([.cell 1, .int (m : Int)], C)) : We (mKeepF (mCall M_law_days ml) E C) fun d C' => (∃ h, d = histD h ∧ h.length = m ∧ Sm h ∧ Vld h) ∧ Up C C' :=
  keep_up he (days_ok F hm) fun d ⟨h, e, _, s, _⟩ k => by rw [e]; exact bnd_gd (gd_hist (n := 30) s.ok)
end G
set_option Elab.async false
set_option linter.all false
set_option maxRecDepth 100000
set_option maxHeartbeats 1000000
namespace G
open PySem L2 Mi Au
/-! ## sizes -/
theorem smI_pl {n : Nat} {k : Int} (h : smI k) : pl (n + 1) (.int k) = true := decide_eq_true (log_small (by obtain ⟨a, b⟩ := h; omega))
theorem nat_pl {n k : Nat} (h : k ≤ 1000) : pl (n + 1) (.int (k : Int)) = true := decide_eq_true (log_small (by omega))
theorem str_len {s : Str} {l : List Str} (h : ∀ s ∈ l, PyData.strOk s = true ∧ s.length ≤ 10) (m : s ∈ l) : sz (.str s) ≤ 102 := by
  have := (h s m).2
  simp only [sz]; omega
theorem all_words : ∀ s ∈ [sHand, sPut, sTake, sOpen, sLeak, sWorld], PyData.strOk s = true ∧ s.length ≤ 10 := by decide +kernel
theorem smTh_sz {n : Nat} {x : Th} (h : smTh x) : pl (n + 2) (thD x) = true ∧ sz (thD x) ≤ 2100 := by
  cases x with
  | k i => exact ⟨smI_pl h, by simp [thD, sz]⟩
  | t r i =>
    have a := memo_ok r h.1
    refine ⟨?_, ?_⟩
    · simp only [thD, pl_tup, List.all_cons, List.all_nil, Bool.and_true, smI_pl h.2]
      exact a.1
    · have := str_len memo_ok h.1
      simp only [thD, sz, szs] at *
      omega
theorem smB_sz {n : Nat} {b : Box} (h : smB b) : pl (n + 4) (boxD b) = true ∧ sz (boxD b) ≤ 6100 := by
  obtain ⟨h1, h2, h3⟩ := h
  obtain ⟨a1, a2⟩ := smTh_sz (n := n + 1) h1
  have ks : szs (b.2.map .int) ≤ (b.2.map D.int).length * (1921 + 2) := szs_le fun d hd => by obtain ⟨k, _, rfl⟩ := List.mem_map.mp hd; simp [sz]
  rw [List.length_map] at ks
  refine ⟨?_, ?_⟩
  · simp only [boxD, pl_tup, List.all_cons, List.all_nil, Bool.and_true, a1, Bool.true_and]
    rw [List.all_eq_true]
    intro d hd
    obtain ⟨k, hk, rfl⟩ := List.mem_map.mp hd
    exact smI_pl (h3 k hk)
  · have : b.2.length * (1921 + 2) ≤ 2 * 1923 := Nat.mul_le_mul h2 (Nat.le_refl _)
    simp only [boxD, sz, szs]; omega
theorem smD_sz {n : Nat} {d : Deed} (h : smD d) : pl (n + 5) (deedD d) = true ∧ sz (deedD d) ≤ 9000 := by
  have w : d.w ∈ [sHand, sPut, sTake, sOpen, sLeak, sWorld] := by cases d <;> simp [Deed.w]
  have w1 := all_words _ w
  have w2 := str_len all_words w
  have w3 : ∀ n, pl (n + 1) (.str d.w) = true := fun n => w1.1
  have key : (pl (n + 4) d.one = true ∧ sz d.one ≤ 6100) ∧ (d.more.all (pl (n + 4)) = true ∧ szs d.more ≤ 1923) := by
    cases d with
    | hand w k => exact ⟨⟨(three_ok _ h.1).1, by have := str_len three_ok h.1; simp only [Deed.one]; omega⟩, by simp [Deed.more, smI_pl h.2], by simp [Deed.more, szs, sz]⟩
    | put b => exact ⟨smB_sz h, by simp [Deed.more], by simp [Deed.more, szs]⟩
    | take n => exact ⟨⟨nat_pl (by have : n ≤ 60 := h; omega), by simp [Deed.one, sz]⟩, by simp [Deed.more], by simp [Deed.more, szs]⟩
    | opn w n => exact ⟨⟨(three_ok _ h.1).1, by have := str_len three_ok h.1; simp only [Deed.one]; omega⟩, by simp [Deed.more, nat_pl (show n ≤ 1000 by have := h.2; omega)], by simp [Deed.more, szs, sz]⟩
    | leak k => exact ⟨⟨smI_pl h, by simp [Deed.one, sz]⟩, by simp [Deed.more], by simp [Deed.more, szs]⟩
  obtain ⟨⟨k1, k2⟩, k3, k4⟩ := key
  refine ⟨?_, ?_⟩
  · simp only [deedD, pl_tup, List.all_cons, w3, k1, k3, Bool.and_self]
  · simp only [deedD, sz, szs] at *
    omega
theorem sh_tup {l : List D} (p : ∀ d ∈ l, pl 50 d = true) (z : ∀ d ∈ l, sz d ≤ 9000) (hl : l.length ≤ 60) : pl 51 (.tup l) = true ∧ sz (.tup l) ≤ 600000 := by
  refine ⟨by rw [pl_tup, List.all_eq_true]; exact p, ?_⟩
  have := szs_le (n := 9000) z
  have : l.length * (9000 + 2) ≤ 60 * 9002 := Nat.mul_le_mul hl (Nat.le_refl _)
  simp only [sz]; omega
theorem sh_twice {l : List D} (p : ∀ d ∈ l, pl 50 d = true) (z : ∀ d ∈ l, sz d ≤ 9000) (hl : l.length ≤ 60) : Sh (.rol [.tup l, .tup l]) := by
  obtain ⟨a, b⟩ := sh_tup p z hl
  exact sh_pair (pl_le a (by omega)) (by omega)
theorem sh_hist {h : Hist} (s : Sm h) (hl : h.length ≤ 18) : Sh (histD h) := by
  obtain ⟨a, b⟩ := sh_tup (l := h.map deedD) (fun d hd => by obtain ⟨x, hx, rfl⟩ := List.mem_map.mp hd; exact (smD_sz (n := 45) (s x hx)).1) (fun d hd => by obtain ⟨x, hx, rfl⟩ := List.mem_map.mp hd; exact (smD_sz (n := 45) (s x hx)).2) (by simp; omega)
  exact ⟨pl_le a (by omega), by unfold histD; omega⟩
theorem sh_boxes {h : Hist} (s : Sm h) (hl : h.length ≤ 18) : Sh (.rol [.tup ((boxesF h).map boxD), .tup ((boxesF h).map boxD)]) := by
  have : (boxesF h).length ≤ h.length := by unfold boxesF; exact List.length_filterMap_le _ _
  refine sh_twice (fun d hd => ?_) (fun d hd => ?_) (by simp; omega)
  · obtain ⟨x, hx, rfl⟩ := List.mem_map.mp hd
    exact (smB_sz (n := 46) (box_mem s x hx)).1
  · obtain ⟨x, hx, rfl⟩ := List.mem_map.mp hd
    have := (smB_sz (n := 46) (box_mem s x hx)).2
    omega
theorem folk_three {h : Hist} (s : Sm h) : ∀ x ∈ folkF h, x ∈ three := fun x hx => s.who x (setS_mem.mp hx)
theorem sh_folk {h : Hist} (s : Sm h) (hl : h.length ≤ 18) : Sh (.rol [strsD (folkF h), strsD (folkF h)]) := by
  have := folk_len h
  refine sh_twice (fun d hd => ?_) (fun d hd => ?_) (by simp; omega)
  · obtain ⟨x, hx, rfl⟩ := List.mem_map.mp hd
    exact (three_ok x (folk_three s x hx)).1
  · obtain ⟨x, hx, rfl⟩ := List.mem_map.mp hd
    have := str_len three_ok (folk_three s x hx)
    omega
theorem sh_nats {l : List Nat} (h : ∀ n ∈ l, n ≤ 1000) (hl : l.length ≤ 60) : Sh (.rol [.tup (natsD l), .tup (natsD l)]) := by
  refine sh_twice (fun d hd => ?_) (fun d hd => ?_) (by simp [natsD]; omega)
  · obtain ⟨x, hx, rfl⟩ := List.mem_map.mp hd
    exact nat_pl (h x hx)
  · obtain ⟨x, hx, rfl⟩ := List.mem_map.mp hd
    simp [sz]
theorem sh_keys {l : List Int} (h : ∀ n ∈ l, smI n) (hl : l.length ≤ 60) : Sh (.rol [.tup (l.map .int), .tup (l.map .int)]) := by
  refine sh_twice (fun d hd => ?_) (fun d hd => ?_) (by simp; omega)
  · obtain ⟨x, hx, rfl⟩ := List.mem_map.mp hd
    exact smI_pl (h x hx)
  · obtain ⟨x, hx, rfl⟩ := List.mem_map.mp hd
    simp [sz]
theorem dedup_len : ∀ l : List Int, (dedup l).length ≤ l.length
  | [] => by simp [dedup]
  | [a] => by simp [dedup]
  | a :: b :: r => by
    have := dedup_len (b :: r)
    unfold dedup
    split <;> simp at * <;> omega
theorem hand_keys {h : Hist} (s : Sm h) (hl : h.length ≤ 18) (t : Nat) (g : List Str) : (∀ n ∈ dedup (sortI (handF (h.take t) g)), smI n) ∧ (dedup (sortI (handF (h.take t) g))).length ≤ 18 := by
  refine ⟨fun n hn => ?_, ?_⟩
  · rw [dedup_mem, (sortI_perm _).mem_iff] at hn
    unfold handF at hn
    rcases List.mem_append.mp hn with z | z
    · obtain ⟨d, hd, rfl⟩ := List.mem_map.mp z
      obtain ⟨a, b⟩ := List.mem_filter.mp hd
      have := s d (List.mem_of_mem_take a)
      unfold inHand at b
      cases d with
      | hand w k => exact this.2
      | _ => simp [Deed.isHand] at b
    · obtain ⟨d, hd, rfl⟩ := List.mem_map.mp z
      obtain ⟨a, b⟩ := List.mem_filter.mp hd
      have := s d (List.mem_of_mem_take a)
      unfold inLeak at b
      cases d with
      | leak k => exact this
      | _ => simp [Deed.isLeak] at b
  · have := dedup_len (sortI (handF (h.take t) g))
    have := (sortI_perm (handF (h.take t) g)).length_eq
    have := hand_len (h.take t) g
    simp at this
    omega
/-! ## crews -/
theorem crews_ok {C : Hm} (W : WB C) {h : Hist} (s : Sm h) (hl : h.length ≤ 18) {ml : MA} {E : Ev} (he : ml E C = some ([histD h], C)) : ∃ cs : List (List Str), mKeepF (mCall M_law_crews ml) E C = some (.rol (cs.map strsD), C) ∧ ∀ c ∈ cs, Crew h c := by
  have fl := folk_len h
  have nd : (folkF h ++ [sWorld]).Nodup := by
    rw [List.nodup_append]
    refine ⟨folk_nd h, by simp, fun a ha b hb => ?_⟩
    simp at hb
    subst hb
    intro e
    subst e
    exact absurd (folk_three s _ ha) (by decide +kernel)
  have pb := srtS_perm (folkF h ++ [sWorld])
  have ndb := pb.nodup_iff.mpr nd
  have bl : (srtS (folkF h ++ [sWorld])).length ≤ 19 := by rw [pb.length_eq]; simp; omega
  have w : We (M_law_crews [histD h] C) fun d C' => C' = C ∧ ∃ cs : List (List Str), d = .rol (cs.map strsD) ∧ ∀ c ∈ cs, Crew h c := by
    refine fn_wo rfl ?_
    show Wo (B_law_crews [some (histD h), none, none, none] C) _ _
    refine wo_seq (wo_asg (We.of (lstF (ml := mCons (mTup mNil) mNil) (ds := [.tup []]) W rfl (by simp [D.bnd, bnds])) ?_))
    have src : mIAny (mFrz (mCallB sortedDT (mCons (mFrz (mBin addD (mKeepF (mCall M_law_folk (mCons (mVar 0) mNil))) (mFrz (mLst (mCons (mC (.str sWorld)) mNil))))) mNil))) [some (histD h), some (.rol [.tup []]), none, none] C = some (.seq ((srtS (folkF h ++ [sWorld])).map D.str), ((srtS (folkF h ++ [sWorld])).map D.str).length, C) := by
      refine src_any (srtF W (cons_eq ?_ nil_eq)) (.inl rfl)
      rw [List.map_append]
      have hz : (1000 : Nat) < sizeLine := by decide
      exact addF W (k_folk W (by omega) rfl) (lstF W (ds := [.str sWorld]) rfl (by simp [D.bnd])) (strs_b _) (by simp [bnds, D.bnd]) (by simp; omega)
    generalize srtS (folkF h ++ [sWorld]) = b at *
    refine wo_seq (wo_for (ds := b.map D.str) (it := .seq (b.map D.str)) (fun i E C' => ∃ cs : List (List Str), E = [some (histD h), some (.rol (cs.map strsD)), none, none] ∧ C' = C ∧ cs.length = 2 ^ i ∧ ∀ c ∈ cs, (∀ x ∈ c, x ∈ b.take i) ∧ c.Nodup) src ⟨[[]], rfl, rfl, rfl, fun c hc => by simp at hc; subst hc; simp⟩ (fun _ _ _ _ => rfl) ?_ ?_)
    · rintro i d E C' hd ⟨cs, rfl, rfl, cl, hc⟩
      rw [List.getElem?_map] at hd
      obtain ⟨x, hx, rfl⟩ := omap hd
      have hi := (List.getElem?_eq_some_iff.mp hx).1
      have p18 : (2 : Nat) ^ i ≤ 2 ^ 19 := Nat.pow_le_pow_right (by omega) (by omega)
      have q19 : (2 : Nat) ^ 19 + 2 ^ 19 ≤ sizeLine := by decide
      have xn : x ∉ b.take i := by
        intro hm
        obtain ⟨j, hj, ej⟩ := List.getElem_of_mem hm
        have hji : j < i := by simp at hj; omega
        have h2 : b[j]? = some x := by rw [← ej, List.getElem_take]; exact List.getElem?_eq_getElem _
        obtain ⟨a1, a2⟩ := List.getElem?_eq_some_iff.mp hx
        obtain ⟨b1, b2⟩ := List.getElem?_eq_some_iff.mp h2
        have := (List.getElem_inj ndb).mp (b2.trans a2.symm)
        omega
      have ts : b.take (i + 1) = b.take i ++ [x] := by rw [List.take_succ, hx]; rfl
      refine ⟨_, rfl, wo_wipe ?_⟩
      have cll : ∀ c ∈ cs, c.length ≤ 19 := fun c hcm => by
        have h1 := List.Nodup.length_le_of_subset (hc c hcm).2 (l₂ := b) fun y hy => List.mem_of_mem_take ((hc c hcm).1 y hy)
        omega
      have lc : mLcV (mIAny (mVar 1)) (gN 3) mYes (mBin addD (mVar 3) (mTup (mCons (mVar 2) mNil))) [3] [some (histD h), some (.rol (cs.map strsD)), some (.str x), none] C' = some (.rol ((cs.map (· ++ [x])).map strsD), C') := by
        rw [lcE (enc := strsD) (xs := cs) (fun _ => true) (fun c => strsD (c ++ [x])) ((src_any (var_eq rfl) (.inl rfl)).trans (by rw [List.length_map])) (by omega) fun c hcm => ⟨[some (histD h), some (.rol (cs.map strsD)), some (.str x), some (strsD c)], rfl, rfl, fun _ => ?_⟩]
        · rw [List.filter_eq_self.mpr (fun _ _ => rfl), List.map_map]; rfl
        · rw [bin_eq (x := strsD c) (y := .tup [.str x]) rfl (tup_eq rfl (by simp; decide))]
          have := cll c hcm
          have hz : (1000 : Nat) < sizeLine := by decide
          rw [add_tups (by simp; omega), strsD, List.map_append]; rfl
      have cb : ∀ cs : List (List Str), bnds C'.length (cs.map strsD) = true := fun cs => bnds_of fun d hd => by
        obtain ⟨c, _, rfl⟩ := List.mem_map.mp hd
        simp only [D.bnd]; exact strs_b _
      have ad := addF W (E := [some (histD h), some (.rol (cs.map strsD)), some (.str x), none]) (ma := mVar 1) (a := cs.map strsD) rfl lc (cb _) (cb _) (by simp; omega)
      refine wo_asg (We.of ad ⟨cs ++ cs.map (· ++ [x]), by simp [wipeE], rfl, by simp [Nat.pow_succ]; omega, fun c hcm => ?_⟩)
      rcases List.mem_append.mp hcm with z | z
      · obtain ⟨h1, h2⟩ := hc c z
        exact ⟨fun y hy => by rw [ts]; exact List.mem_append_left _ (h1 y hy), h2⟩
      · obtain ⟨c0, hc0, rfl⟩ := List.mem_map.mp z
        obtain ⟨h1, h2⟩ := hc c0 hc0
        refine ⟨fun y hy => ?_, ?_⟩
        · rw [ts]
          rcases List.mem_append.mp hy with y1 | y1
          · exact List.mem_append_left _ (h1 y y1)
          · exact List.mem_append_right _ y1
        · rw [List.nodup_append]
          refine ⟨h2, by simp, fun a ha b' hb' => ?_⟩
          simp at hb'
          subst hb'
          intro e; subst e
          exact xn (h1 _ ha)
    · rintro E C' ⟨cs, rfl, rfl, _, hc⟩
      refine wo_ret (We.of (var_eq rfl) ⟨rfl, cs, rfl, fun c hcm => ?_⟩)
      obtain ⟨h1, h2⟩ := hc c hcm
      have sub : ∀ x ∈ c, x ∈ allF h := fun x hx => pb.mem_iff.mp (List.mem_of_mem_take (h1 x hx))
      exact ⟨fun x hx => all_ok s.ok x (sub x hx), sub, h2⟩
  obtain ⟨d, C', e, rfl, cs, rfl, h1⟩ := w.ex
  refine ⟨cs, keep_pure W ((call_eq he).trans e) ?_, h1⟩
  simp only [D.bnd]
  refine bnds_of fun d hd => ?_
  obtain ⟨c, _, rfl⟩ := List.mem_map.mp hd
  simp only [D.bnd]; exact strs_b _
end G
set_option Elab.async false
set_option linter.all false
set_option maxRecDepth 100000
set_option maxHeartbeats 1000000
namespace G
open PySem L2 Mi Au
theorem keepK {g : {α : Type} → List α → List α} {M : MF} {ml : MA} {E : Ev} {C C1 : Hm} {ds : List D} {r : D × Hm} (he : ml E C = some (ds, C1)) (h : ∀ ml' : MA, ml' E C = some (g ds, C1) → mKeepF (mCall M ml') E C = some r) : mKeepF (mCallK g M ml) E C = some r := by
  have := h (fun _ _ => some (g ds, C1)) rfl
  rw [← this]
  unfold mKeepF
  have e : mCallK g M ml E C = mCall M (fun _ _ => some (g ds, C1)) E C := by
    unfold mCallK mCall
    rw [he]; rfl
  rw [e]
theorem pair_ne {ma mb mv : ME} {E : Ev} {C : Hm} {x : D} (W : WB C) (ha : ma E C = some (x, C)) (hb : mb E C = some (x, C)) (hv : mv E C = some (x, C)) (s : Sh (.rol [x, x])) (b : ∀ k, x.bnd k = true) : mTest (mBin dNe (mCallB reprD (mCons (mFrz (mLst (mCons ma (mCons mb mNil)))) mNil)) (mCallB reprD (mCons (mFrz (mLst (mCons mv (mCons mv mNil)))) mNil))) E C = some (false, C) := by
  have bb : ∀ d ∈ [x, x], d.bnd C.length = true := fun d hd => by
    simp at hd; subst hd; exact b _
  exact repr_ne (lstF W (cons_eq ha (cons_eq hb nil_eq)) bb (by simp; decide)) (lstF W (cons_eq hv (cons_eq hv nil_eq)) bb (by simp; decide)) s
theorem tupR {me : ME} {E : Ev} {C : Hm} {l : List D} (h : me E C = some (.rol l, C)) : mCallB tupleD (mCons me mNil) E C = some (.tup l, C) := by
  rw [callB_eq (cons_eq h nil_eq)]; rfl
def Fed (C : Hm) : Prop := Fd C ∧ C[0]? = some (.tab 0)
theorem Up.fed {C C' : Hm} (h : Fed C) (u : Up C C') : Fed C' := ⟨u.fd, (u.old 0 (by omega)).trans h.2⟩
theorem feed_ok {ns : List Int} (h : ns.length ≤ 1000) : M_law_feed [.scr ns] [.tab 0] = some (.cell 1, feedH (ns.take 63) 0 0 0 []) := by
  have W0 : WB [Cell.tab 0] := fun c hc => by simp at hc; subst hc; rfl
  have e1 : mFrz (mSl slD (mVar 0) oNone (oSome (mC (.int 63)))) [some (.scr ns)] [.tab 0] = some (.rol ((ns.take 63).map .int), [.tab 0]) := by
    refine frz_new W0 ?_ (ints_b _)
    show some (D.cell 1, [Cell.tab 0] ++ [Cell.lst (cutD (ns.map D.int) none (some ((63 : Nat) : Int)))]) = _
    rw [lo_take, List.map_take]; rfl
  have e2 : mFrz (mCallB listD (mCons (mFrz (mSl slD (mVar 0) oNone (oSome (mC (.int 63))))) mNil)) [some (.scr ns)] [.tab 0] = some (.rol ((ns.take 63).map .int), [.tab 0]) := by
    refine frz_new W0 ?_ (ints_b _)
    rw [callB_eq (cons_eq e1 nil_eq)]; rfl
  refine fn_ret rfl (ret_eq ?_)
  show mDisp _ _ [some (.scr ns)] [.tab 0] = _
  unfold mDisp
  rw [cons_eq e2 (cons_eq (show mC (.int 0) _ _ = some (.int 0, _) from rfl) (cons_eq (show mC (.int 0) _ _ = some (.int 0, _) from rfl) (cons_eq (show mC (.int 0) _ _ = some (.int 0, _) from rfl) nil_eq)))]
  rfl
theorem fed0 (xs : List Int) : Fed (feedH xs 0 0 0 []) := by
  refine ⟨⟨fun c hc => ?_, xs, 0, 0, 0, [], rfl⟩, rfl⟩
  simp only [feedH, List.mem_cons, List.not_mem_nil, or_false] at hc
  rcases hc with rfl | rfl
  · rfl
  · simp [fdC, Cell.bnd, D.bnd, ints_bnds]
theorem nats_b {k : Nat} (l : List Nat) : (D.tup (natsD l)).bnd k = true := by simp only [D.bnd]; exact nats_bnds l
/-- a turn of the law -/
theorem law_ok {ns : List Int} (hn : ns.length ≤ 1000) : ∃ C', M_law [.scr ns] [.tab 0] = some (.bl true, C') := by
  have w : We (M_law [.scr ns] [.tab 0]) fun d _ => d = .bl true := by
    refine fn_wo rfl ?_
    show Wo (B_law [some (.scr ns), none, none, none, none, none, none, none, none, none] [.tab 0]) _ _
    have f0 : mCall M_law_feed (mCons (mVar 0) mNil) [some (.scr ns), none, none, none, none, none, none, none, none, none] [.tab 0] = some (.cell 1, feedH (ns.take 63) 0 0 0 []) := by
      rw [call_eq (cons_eq (var_eq rfl) nil_eq), feed_ok hn]
    refine wo_seq (wo_asg (We.of f0 ?_))
    have src : mIRng1 (mCons (mC (.int 4)) mNil) [some (.scr ns), some (.cell 1), none, none, none, none, none, none, none, none] (feedH (ns.take 63) 0 0 0 []) = some (.seq (rngD 0 4), (rngD 0 4).length, feedH (ns.take 63) 0 0 0 []) := by
      rw [src_rng (n := 4) rfl (by omega), rngD_len]
    simp only [List.set_cons_succ, List.set_cons_zero]
    refine wo_seq ?_
    with_reducible refine wo_rng1 (ds := rngD 0 4) (it := .seq (rngD 0 4)) (fun i E C' => E = [some (.scr ns), some (.cell 1), none, none, none, none, none, none, none, none] ∧ Fed C') src ?h0 (fun _ _ _ _ => rfl) ?_ ?hN
    case h0 => exact ⟨rfl, fed0 _⟩
    case hN => exact fun E C' _ => wo_ret (We.of (d := .bl true) (C' := C') rfl rfl)
    rintro i d E C hd ⟨rfl, F⟩
    clear hd src f0
    refine ⟨_, rfl, wo_wipe ?_⟩
    show Wo (mSeq _ _ [some (.scr ns), some (.cell 1), some d, none, none, none, none, none, none, none] C) _ _
    obtain ⟨x, C1, e1, ⟨r, rfl, r0, r1⟩, u1⟩ := (wDraw F.1 (ml := mCons (mVar 1) (mCons (mC (.int 13)) mNil)) (E := [some (.scr ns), some (.cell 1), some d, none, none, none, none, none, none, none]) (n := 13) rfl).ex
    have F1 := u1.fed F
    have ma : mBin addD (mC (.int 6)) (mKeepF (mCall M_law_draw (mCons (mVar 1) (mCons (mC (.int 13)) mNil)))) [some (.scr ns), some (.cell 1), some d, none, none, none, none, none, none, none] C = some (.int ((6 + r.toNat : Nat) : Int), C1) := by
      rw [bin_eq (C1 := C) (x := .int 6) rfl e1, show ((6 + r.toNat : Nat) : Int) = 6 + r by omega]; rfl
    have m18 : 6 + r.toNat ≤ 18 := by omega
    have lenH : ∀ {h : Hist} {E : Ev} {C : Hm}, E[3]? = some (some (histD h)) → mCallB lenD (mCons (mVar 3) mNil) E C = some (.int (h.length : Int), C) := fun {h E C} he => by
      rw [callB_eq (cons_eq (var_eq he) nil_eq), show h.length = (h.map deedD).length by simp]; rfl
    have dy : We (mKeepF (mCall M_law_days (mCons (mVar 1) (mCons (mBin addD (mC (.int 6)) (mKeepF (mCall M_law_draw (mCons (mVar 1) (mCons (mC (.int 13)) mNil))))) mNil))) [some (.scr ns), some (.cell 1), some d, none, none, none, none, none, none, none] C) fun d C' => (∃ h, d = histD h ∧ h.length ≤ 18 ∧ Sm h ∧ Vld h) ∧ Fed C' := by
      have q := k_days F1.1 (m := 6 + r.toNat) m18 (ml := fun _ _ => some ([.cell 1, .int ((6 + r.toNat : Nat) : Int)], C1)) (E := [some (.scr ns), some (.cell 1), some d, none, none, none, none, none, none, none]) rfl
      obtain ⟨x, C2, e2, ⟨h, rfl, hl, s, v⟩, u2⟩ := q.ex
      have e3 : mKeepF (mCall M_law_days (mCons (mVar 1) (mCons (mBin addD (mC (.int 6)) (mKeepF (mCall M_law_draw (mCons (mVar 1) (mCons (mC (.int 13)) mNil))))) mNil))) [some (.scr ns), some (.cell 1), some d, none, none, none, none, none, none, none] C = some (histD h, C2) := by
        rw [← e2]
        have ue : ∀ m E C, mKeepF m E C = (m E C).bind fun r => keepR C.length r := fun _ _ _ => rfl
        refine (ue _ _ _).trans (Eq.trans ?_ (ue _ _ _).symm)
        rw [call_eq (cons_eq (var_eq rfl) (cons_eq ma nil_eq)), call_eq (C := C1) (C1 := C1) (ml := fun _ _ => some ([.cell 1, .int ((6 + r.toNat : Nat) : Int)], C1)) rfl, u1.len]
      rw [e3]
      exact ⟨⟨h, rfl, by omega, s, v⟩, u2.fed F1⟩
    refine wo_seq (wo_asg (dy.imp ?_))
    rintro y C2 ⟨⟨h, rfl, hl, s, v⟩, F2⟩
    clear dy e1 ma
    have W := F2.1.1
    have o := s.ok
    have hl6 : h.length ≤ 60 := by omega
    have tlen : (thereF h).length ≤ 18 := by
      have := len_there h
      unfold thereF; omega
    show Wo (mSeq _ _ [some (.scr ns), some (.cell 1), some d, some (histD h), none, none, none, none, none, none] C2) _ _
    have pp : mCallB tupleD (mCons (mKeepF (mCall M_law_puts (mCons (mVar 3) mNil))) mNil) [some (.scr ns), some (.cell 1), some d, some (histD h), none, none, none, none, none, none] C2 = some (.tup ((boxesF h).map boxD), C2) := tupR (k_puts W s (by omega) rfl)
    have rp : mCallB reprD (mCons (mVar 3) mNil) [some (.scr ns), some (.cell 1), some d, some (histD h), none, none, none, none, none, none] C2 = some (.str (pyF (histD h)).shown, C2) := repr_at rfl (sh_hist s hl)
    refine wo_seq (wo_par (cons_eq rp (cons_eq pp nil_eq)) ?_)
    generalize hrp : (pyF (histD h)).shown = rs
    show Wo (mSeq _ _ [some (.scr ns), some (.cell 1), some d, some (histD h), some (.str rs), some (.tup ((boxesF h).map boxD)), none, none, none, none] C2) _ _
    have bB : ∀ k, (D.tup ((boxesF h).map boxD)).bnd k = true := fun k => by simp only [D.bnd]; exact bnds_gd (gd_boxes s)
    have kb : ∀ {ml : MA} {E : Ev}, ml E C2 = some ([histD h], C2) → mKeepF (mCall M_boxes_put ml) E C2 = some (.tup ((boxesF h).map boxD), C2) := fun he => by rw [← puts_boxes]; exact k_boxes W o (by omega) he
    refine wo_seq (wo_if (b := false) (C' := C2) (pair_ne W (kb rfl) (keepK (g := gId) (ds := [histD h]) rfl fun ml' h' => kb h') rfl (sh_boxes s hl) bB) (fun e => by cases e) fun _ => wo_next ?_)
    have fk : mCallB tupleD (mCons (mKeepF (mCall M_law_folk (mCons (mVar 3) mNil))) mNil) [some (.scr ns), some (.cell 1), some d, some (histD h), some (.str rs), some (.tup ((boxesF h).map boxD)), none, none, none, none] C2 = some (strsD (folkF h), C2) := tupR (k_folk W hl6 rfl)
    refine wo_seq (wo_asg (We.of fk ?_))
    show Wo (mSeq _ _ [some (.scr ns), some (.cell 1), some d, some (histD h), some (.str rs), some (.tup ((boxesF h).map boxD)), some (strsD (folkF h)), none, none, none] C2) _ _
    refine wo_seq (wo_if (b := false) (C' := C2) (pair_ne W (k_holders W hl6 rfl) (keepK (g := gId) (ds := [histD h]) rfl fun ml' h' => k_holders W hl6 h') rfl (sh_folk s hl) (fun k => by simp only [D.bnd]; exact strs_b _)) (fun e => by cases e) fun _ => ?_)
    with_reducible refine wo_next ?_
    -- the moments
    have src : mIRng1 (mCons (mBin addD (mCallB lenD (mCons (mVar 3) mNil)) (mC (.int 1))) mNil) [some (.scr ns), some (.cell 1), some d, some (histD h), some (.str rs), some (.tup ((boxesF h).map boxD)), some (strsD (folkF h)), none, none, none] C2 = some (.seq (rngD 0 (h.length + 1)), (rngD 0 (h.length + 1)).length, C2) := by
      rw [src_rng (n := h.length + 1) (C' := C2) (cons_eq (by rw [bin_eq (lenH (h := h) rfl) rfl]; rfl) nil_eq) (by omega), rngD_len]
    refine wo_seq ?_
    with_reducible refine wo_rng1 (ds := rngD 0 (h.length + 1)) (it := .seq (rngD 0 (h.length + 1))) (fun i E C' => E = [some (.scr ns), some (.cell 1), some d, some (histD h), some (.str rs), some (.tup ((boxesF h).map boxD)), some (strsD (folkF h)), none, none, none] ∧ C' = C2) src ?h0 (fun _ _ _ _ => rfl) ?_ ?_
    case h0 => exact ⟨rfl, rfl⟩
    · rintro t dt E C' hd ⟨rfl, rfl⟩
      obtain ⟨ht, e⟩ := List.getElem?_eq_some_iff.mp hd
      have ht : t ≤ h.length := by rw [rngD_len] at ht; omega
      have e : dt = .int (t : Int) := by
        rw [← e]; simp [rngD]
      subst e
      clear hd src
      refine ⟨_, rfl, wo_wipe ?_⟩
      show Wo (mSeq _ _ [some (.scr ns), some (.cell 1), some d, some (histD h), some (.str rs), some (.tup ((boxesF h).map boxD)), some (strsD (folkF h)), some (.int (t : Int)), none, none] C') _ _
      have tt : mCallB tupleD (mCons (mKeepF (mCall M_law_there (mCons (mVar 3) (mCons (mVar 7) mNil)))) mNil) [some (.scr ns), some (.cell 1), some d, some (histD h), some (.str rs), some (.tup ((boxesF h).map boxD)), some (strsD (folkF h)), some (.int (t : Int)), none, none] C' = some (.tup (natsD (thereF (h.take t))), C') := tupR (k_there W (by omega) v rfl)
      refine wo_seq (wo_asg (We.of tt ?_))
      show Wo (mSeq _ _ [some (.scr ns), some (.cell 1), some d, some (histD h), some (.str rs), some (.tup ((boxesF h).map boxD)), some (strsD (folkF h)), some (.int (t : Int)), some (.tup (natsD (thereF (h.take t)))), none] C') _ _
      have ly := (there_ly _ (v.take t)).1
      have tl := len_there (h.take t)
      have tl2 : (h.take t).length ≤ 18 := by simp; omega
      have ntl : (thereF (h.take t)).length ≤ 60 := by unfold thereF; omega
      have nts : ∀ n ∈ thereF (h.take t), n ≤ 1000 := fun n hn => by
        have a := there_lt v t n hn
        have : (boxesF h).length ≤ h.length := by unfold boxesF; exact List.length_filterMap_le _ _
        omega
      have kl : ∀ {ml : MA} {E : Ev}, ml E C' = some ([histD h, .int (t : Int)], C') → mKeepF (mCall M_lying ml) E C' = some (.tup (natsD (thereF (h.take t))), C') := fun he => by rw [ly]; exact k_lying W o (by omega) ht he
      refine wo_seq (wo_if (b := false) (C' := C') (pair_ne W (kl rfl) (keepK (g := g_1_0) (ds := [.int (t : Int), histD h]) rfl fun ml' h' => kl h') rfl (sh_nats nts ntl) (fun k => nats_b _)) (fun e => by cases e) fun _ => wo_next ?_)
      obtain ⟨cs, ce, cc⟩ := crews_ok W s hl (E := [some (.scr ns), some (.cell 1), some d, some (histD h), some (.str rs), some (.tup ((boxesF h).map boxD)), some (strsD (folkF h)), some (.int (t : Int)), some (.tup (natsD (thereF (h.take t)))), none]) (ml := mCons (mVar 3) mNil) rfl
      refine wo_for (ds := cs.map strsD) (it := .seq (cs.map strsD)) (fun j E C'' => (∃ z, E = [some (.scr ns), some (.cell 1), some d, some (histD h), some (.str rs), some (.tup ((boxesF h).map boxD)), some (strsD (folkF h)), some (.int (t : Int)), z, none]) ∧ C'' = C') (src_any ce (.inl rfl)) ⟨⟨_, rfl⟩, rfl⟩ (fun _ _ _ _ => rfl) ?_ ?_
      · rintro j dc E C'' hd ⟨⟨z, rfl⟩, rfl⟩
        rw [List.getElem?_map] at hd
        obtain ⟨c, hc, rfl⟩ := omap hd
        have cr := cc c (List.mem_of_getElem? hc)
        refine ⟨_, rfl, wo_wipe ?_⟩
        show Wo (mSeq _ _ [some (.scr ns), some (.cell 1), some d, some (histD h), some (.str rs), some (.tup ((boxesF h).map boxD)), some (strsD (folkF h)), some (.int (t : Int)), z, some (strsD c)] C'') _ _
        have hk := hand_keys s hl t c
        have hle := hand_len (h.take t) c
        have p0 := k_pair0 W (l := handF (h.take t) c) (by omega) (E := [some (.scr ns), some (.cell 1), some d, some (histD h), some (.str rs), some (.tup ((boxesF h).map boxD)), some (strsD (folkF h)), some (.int (t : Int)), z, some (strsD c)]) (cons_eq (k_law_hand W o cr.ok (by omega) (t := t) (ml := mCons (mVar 3) (mCons (mVar 9) (mCons (mVar 7) mNil))) rfl) nil_eq)
        refine wo_seq (wo_asg (We.of p0 ?_))
        show Wo (mIfS _ _ _ [some (.scr ns), some (.cell 1), some d, some (histD h), some (.str rs), some (.tup ((boxesF h).map boxD)), some (strsD (folkF h)), some (.int (t : Int)), some (.tup ((dedup (sortI (handF (h.take t) c))).map .int)), some (strsD c)] C'') _ _
        refine wo_if (b := false) (C' := C'') (pair_ne W (k_hand_at W o hl6 cr ht rfl) (keepK (g := g_2_1_0) (ds := [.int (t : Int), strsD c, histD h]) rfl fun ml' h' => k_hand_at W o hl6 cr ht h') rfl (sh_keys hk.1 (by omega)) (fun k => by simp only [D.bnd]; exact ints_b _)) (fun e => by cases e) fun _ => wo_next ⟨⟨_, rfl⟩, rfl⟩
      · rintro E C'' ⟨⟨z, rfl⟩, rfl⟩
        exact ⟨rfl, rfl⟩
    · rintro E C' ⟨rfl, rfl⟩
      have rk : mKeepF (mCall M_law_are_refused (mCons (mVar 3) mNil)) [some (.scr ns), some (.cell 1), some d, some (histD h), some (.str rs), some (.tup ((boxesF h).map boxD)), some (strsD (folkF h)), none, none, none] C' = some (.bl true, C') := by
        obtain ⟨x, C3, e, rfl, t, rfl⟩ := (refused_ok W F2.2 o s.who hl6).ex
        exact keep_val W ((call_eq rfl).trans e) rfl
      refine wo_if (b := false) (C' := C') (or_eq (a := false) (b := false) ?_ fun _ => ?_) (fun e => by cases e) fun _ => wo_next ⟨rfl, F2⟩
      · unfold tNotM mTru
        rw [rk]; rfl
      · refine tst_eq ?_
        rw [bin_eq (repr_at (x := histD h) rfl (sh_hist s hl)) (var_eq (d := .str rs) rfl), hrp, ne_self]
  obtain ⟨d, C', e, rfl⟩ := w.ex
  exact ⟨C', e⟩
end G
namespace G
open PySem L2 Mi Au
theorem law_true (ns : List Int) (h : ns.length ≤ 63) : ∃ C', M_law [.scr ns] [.tab 0] = some (.bl true, C') := law_ok (by omega)
end G
set_option Elab.async false
set_option linter.all false
set_option maxRecDepth 100000
set_option maxHeartbeats 4000000
namespace G
open PySem PySem.Spec PyProof.Rows L2 Mi
theorem all_mk {l : PySem.W.OpenLaw} {w : World} {K : PySem.W.Frag} {h : Heap} {mg : Str → Option Value} {fa : Addr} {tC tP : Addr} (X : K.In h) (G : h.Ns mainGlobals mg) (hfa : mg "law" = some (.ref fa)) (tb : PySem.W.CodeHd h tC tP ∧ h.get? tP = some emptyT)
    {od_is_number an_is_number : Option Addr} {sl_is_number : Array (Option Value)} {oc_is_number kV_is_number dc_is_number pm_is_number cd_is_number ct_is_number : Value} {a_is_number : Addr}
    (n_is_number : PySem.W.nsIn K mainGlobals "is_number" = some (some (.ref a_is_number))) (l_is_number : K.lookup a_is_number = some ⟨oc_is_number, od_is_number, .func (PySem.W.fnOf "is_number" "is_number" (defArgs S_is_number) (defBody S_is_number) (defScope S_is_number) .none kV_is_number dc_is_number pm_is_number an_is_number cd_is_number ct_is_number), sl_is_number⟩) (c_is_number : PySem.W.codeIn K cd_is_number "is_number" = true) (p_is_number : PySem.W.keepIn K (.ref a_is_number) = true)
    {od_check_known an_check_known : Option Addr} {sl_check_known : Array (Option Value)} {oc_check_known kV_check_known dc_check_known pm_check_known cd_check_known ct_check_known : Value} {a_check_known : Addr}
    (n_check_known : PySem.W.nsIn K mainGlobals "check_known" = some (some (.ref a_check_known))) (l_check_known : K.lookup a_check_known = some ⟨oc_check_known, od_check_known, .func (PySem.W.fnOf "check_known" "check_known" (defArgs S_check_known) (defBody S_check_known) (defScope S_check_known) .none kV_check_known dc_check_known pm_check_known an_check_known cd_check_known ct_check_known), sl_check_known⟩) (c_check_known : PySem.W.codeIn K cd_check_known "check_known" = true) (p_check_known : PySem.W.keepIn K (.ref a_check_known) = true)
    {od_boxes_put an_boxes_put : Option Addr} {sl_boxes_put : Array (Option Value)} {oc_boxes_put kV_boxes_put dc_boxes_put pm_boxes_put cd_boxes_put ct_boxes_put : Value} {a_boxes_put : Addr}
    (n_boxes_put : PySem.W.nsIn K mainGlobals "boxes_put" = some (some (.ref a_boxes_put))) (l_boxes_put : K.lookup a_boxes_put = some ⟨oc_boxes_put, od_boxes_put, .func (PySem.W.fnOf "boxes_put" "boxes_put" (defArgs S_boxes_put) (defBody S_boxes_put) (defScope S_boxes_put) .none kV_boxes_put dc_boxes_put pm_boxes_put an_boxes_put cd_boxes_put ct_boxes_put), sl_boxes_put⟩) (c_boxes_put : PySem.W.codeIn K cd_boxes_put "boxes_put" = true) (p_boxes_put : PySem.W.keepIn K (.ref a_boxes_put) = true)
    {od_check_moment an_check_moment : Option Addr} {sl_check_moment : Array (Option Value)} {oc_check_moment kV_check_moment dc_check_moment pm_check_moment cd_check_moment ct_check_moment : Value} {a_check_moment : Addr}
    (n_check_moment : PySem.W.nsIn K mainGlobals "check_moment" = some (some (.ref a_check_moment))) (l_check_moment : K.lookup a_check_moment = some ⟨oc_check_moment, od_check_moment, .func (PySem.W.fnOf "check_moment" "check_moment" (defArgs S_check_moment) (defBody S_check_moment) (defScope S_check_moment) .none kV_check_moment dc_check_moment pm_check_moment an_check_moment cd_check_moment ct_check_moment), sl_check_moment⟩) (c_check_moment : PySem.W.codeIn K cd_check_moment "check_moment" = true) (p_check_moment : PySem.W.keepIn K (.ref a_check_moment) = true)
    {od_lying an_lying : Option Addr} {sl_lying : Array (Option Value)} {oc_lying kV_lying dc_lying pm_lying cd_lying ct_lying : Value} {a_lying : Addr}
    (n_lying : PySem.W.nsIn K mainGlobals "lying" = some (some (.ref a_lying))) (l_lying : K.lookup a_lying = some ⟨oc_lying, od_lying, .func (PySem.W.fnOf "lying" "lying" (defArgs S_lying) (defBody S_lying) (defScope S_lying) .none kV_lying dc_lying pm_lying an_lying cd_lying ct_lying), sl_lying⟩) (c_lying : PySem.W.codeIn K cd_lying "lying" = true) (p_lying : PySem.W.keepIn K (.ref a_lying) = true)
    {od_holders_of an_holders_of : Option Addr} {sl_holders_of : Array (Option Value)} {oc_holders_of kV_holders_of dc_holders_of pm_holders_of cd_holders_of ct_holders_of : Value} {a_holders_of : Addr}
    (n_holders_of : PySem.W.nsIn K mainGlobals "holders_of" = some (some (.ref a_holders_of))) (l_holders_of : K.lookup a_holders_of = some ⟨oc_holders_of, od_holders_of, .func (PySem.W.fnOf "holders_of" "holders_of" (defArgs S_holders_of) (defBody S_holders_of) (defScope S_holders_of) .none kV_holders_of dc_holders_of pm_holders_of an_holders_of cd_holders_of ct_holders_of), sl_holders_of⟩) (c_holders_of : PySem.W.codeIn K cd_holders_of "holders_of" = true) (p_holders_of : PySem.W.keepIn K (.ref a_holders_of) = true)
    {od_check_members an_check_members : Option Addr} {sl_check_members : Array (Option Value)} {oc_check_members kV_check_members dc_check_members pm_check_members cd_check_members ct_check_members : Value} {a_check_members : Addr}
    (n_check_members : PySem.W.nsIn K mainGlobals "check_members" = some (some (.ref a_check_members))) (l_check_members : K.lookup a_check_members = some ⟨oc_check_members, od_check_members, .func (PySem.W.fnOf "check_members" "check_members" (defArgs S_check_members) (defBody S_check_members) (defScope S_check_members) .none kV_check_members dc_check_members pm_check_members an_check_members cd_check_members ct_check_members), sl_check_members⟩) (c_check_members : PySem.W.codeIn K cd_check_members "check_members" = true) (p_check_members : PySem.W.keepIn K (.ref a_check_members) = true)
    {od_hand_at an_hand_at : Option Addr} {sl_hand_at : Array (Option Value)} {oc_hand_at kV_hand_at dc_hand_at pm_hand_at cd_hand_at ct_hand_at : Value} {a_hand_at : Addr}
    (n_hand_at : PySem.W.nsIn K mainGlobals "hand_at" = some (some (.ref a_hand_at))) (l_hand_at : K.lookup a_hand_at = some ⟨oc_hand_at, od_hand_at, .func (PySem.W.fnOf "hand_at" "hand_at" (defArgs S_hand_at) (defBody S_hand_at) (defScope S_hand_at) .none kV_hand_at dc_hand_at pm_hand_at an_hand_at cd_hand_at ct_hand_at), sl_hand_at⟩) (c_hand_at : PySem.W.codeIn K cd_hand_at "hand_at" = true) (p_hand_at : PySem.W.keepIn K (.ref a_hand_at) = true)
    {od_law_feed an_law_feed : Option Addr} {sl_law_feed : Array (Option Value)} {oc_law_feed kV_law_feed dc_law_feed pm_law_feed cd_law_feed ct_law_feed : Value} {a_law_feed : Addr}
    (n_law_feed : PySem.W.nsIn K mainGlobals "_law_feed" = some (some (.ref a_law_feed))) (l_law_feed : K.lookup a_law_feed = some ⟨oc_law_feed, od_law_feed, .func (PySem.W.fnOf "_law_feed" "_law_feed" (defArgs S_law_feed) (defBody S_law_feed) (defScope S_law_feed) .none kV_law_feed dc_law_feed pm_law_feed an_law_feed cd_law_feed ct_law_feed), sl_law_feed⟩) (c_law_feed : PySem.W.codeIn K cd_law_feed "_law_feed" = true) (p_law_feed : PySem.W.keepIn K (.ref a_law_feed) = true)
    {od_law_draw an_law_draw : Option Addr} {sl_law_draw : Array (Option Value)} {oc_law_draw kV_law_draw dc_law_draw pm_law_draw cd_law_draw ct_law_draw : Value} {a_law_draw : Addr}
    (n_law_draw : PySem.W.nsIn K mainGlobals "_law_draw" = some (some (.ref a_law_draw))) (l_law_draw : K.lookup a_law_draw = some ⟨oc_law_draw, od_law_draw, .func (PySem.W.fnOf "_law_draw" "_law_draw" (defArgs S_law_draw) (defBody S_law_draw) (defScope S_law_draw) .none kV_law_draw dc_law_draw pm_law_draw an_law_draw cd_law_draw ct_law_draw), sl_law_draw⟩) (c_law_draw : PySem.W.codeIn K cd_law_draw "_law_draw" = true) (p_law_draw : PySem.W.keepIn K (.ref a_law_draw) = true)
    {od_law_any an_law_any : Option Addr} {sl_law_any : Array (Option Value)} {oc_law_any kV_law_any dc_law_any pm_law_any cd_law_any ct_law_any : Value} {a_law_any : Addr}
    (n_law_any : PySem.W.nsIn K mainGlobals "_law_any" = some (some (.ref a_law_any))) (l_law_any : K.lookup a_law_any = some ⟨oc_law_any, od_law_any, .func (PySem.W.fnOf "_law_any" "_law_any" (defArgs S_law_any) (defBody S_law_any) (defScope S_law_any) .none kV_law_any dc_law_any pm_law_any an_law_any cd_law_any ct_law_any), sl_law_any⟩) (c_law_any : PySem.W.codeIn K cd_law_any "_law_any" = true) (p_law_any : PySem.W.keepIn K (.ref a_law_any) = true)
    {od_law_opened an_law_opened : Option Addr} {sl_law_opened : Array (Option Value)} {oc_law_opened kV_law_opened dc_law_opened pm_law_opened cd_law_opened ct_law_opened : Value} {a_law_opened : Addr}
    (n_law_opened : PySem.W.nsIn K mainGlobals "_law_opened" = some (some (.ref a_law_opened))) (l_law_opened : K.lookup a_law_opened = some ⟨oc_law_opened, od_law_opened, .func (PySem.W.fnOf "_law_opened" "_law_opened" (defArgs S_law_opened) (defBody S_law_opened) (defScope S_law_opened) .none kV_law_opened dc_law_opened pm_law_opened an_law_opened cd_law_opened ct_law_opened), sl_law_opened⟩) (c_law_opened : PySem.W.codeIn K cd_law_opened "_law_opened" = true) (p_law_opened : PySem.W.keepIn K (.ref a_law_opened) = true)
    {od_law_pair an_law_pair : Option Addr} {sl_law_pair : Array (Option Value)} {oc_law_pair kV_law_pair dc_law_pair pm_law_pair cd_law_pair ct_law_pair : Value} {a_law_pair : Addr}
    (n_law_pair : PySem.W.nsIn K mainGlobals "_law_pair" = some (some (.ref a_law_pair))) (l_law_pair : K.lookup a_law_pair = some ⟨oc_law_pair, od_law_pair, .func (PySem.W.fnOf "_law_pair" "_law_pair" (defArgs S_law_pair) (defBody S_law_pair) (defScope S_law_pair) .none kV_law_pair dc_law_pair pm_law_pair an_law_pair cd_law_pair ct_law_pair), sl_law_pair⟩) (c_law_pair : PySem.W.codeIn K cd_law_pair "_law_pair" = true) (p_law_pair : PySem.W.keepIn K (.ref a_law_pair) = true)
    {od_law_puts an_law_puts : Option Addr} {sl_law_puts : Array (Option Value)} {oc_law_puts kV_law_puts dc_law_puts pm_law_puts cd_law_puts ct_law_puts : Value} {a_law_puts : Addr}
    (n_law_puts : PySem.W.nsIn K mainGlobals "_law_puts" = some (some (.ref a_law_puts))) (l_law_puts : K.lookup a_law_puts = some ⟨oc_law_puts, od_law_puts, .func (PySem.W.fnOf "_law_puts" "_law_puts" (defArgs S_law_puts) (defBody S_law_puts) (defScope S_law_puts) .none kV_law_puts dc_law_puts pm_law_puts an_law_puts cd_law_puts ct_law_puts), sl_law_puts⟩) (c_law_puts : PySem.W.codeIn K cd_law_puts "_law_puts" = true) (p_law_puts : PySem.W.keepIn K (.ref a_law_puts) = true)
    {od_law_there an_law_there : Option Addr} {sl_law_there : Array (Option Value)} {oc_law_there kV_law_there dc_law_there pm_law_there cd_law_there ct_law_there : Value} {a_law_there : Addr}
    (n_law_there : PySem.W.nsIn K mainGlobals "_law_there" = some (some (.ref a_law_there))) (l_law_there : K.lookup a_law_there = some ⟨oc_law_there, od_law_there, .func (PySem.W.fnOf "_law_there" "_law_there" (defArgs S_law_there) (defBody S_law_there) (defScope S_law_there) .none kV_law_there dc_law_there pm_law_there an_law_there cd_law_there ct_law_there), sl_law_there⟩) (c_law_there : PySem.W.codeIn K cd_law_there "_law_there" = true) (p_law_there : PySem.W.keepIn K (.ref a_law_there) = true)
    {od_law_hand an_law_hand : Option Addr} {sl_law_hand : Array (Option Value)} {oc_law_hand kV_law_hand dc_law_hand pm_law_hand cd_law_hand ct_law_hand : Value} {a_law_hand : Addr}
    (n_law_hand : PySem.W.nsIn K mainGlobals "_law_hand" = some (some (.ref a_law_hand))) (l_law_hand : K.lookup a_law_hand = some ⟨oc_law_hand, od_law_hand, .func (PySem.W.fnOf "_law_hand" "_law_hand" (defArgs S_law_hand) (defBody S_law_hand) (defScope S_law_hand) .none kV_law_hand dc_law_hand pm_law_hand an_law_hand cd_law_hand ct_law_hand), sl_law_hand⟩) (c_law_hand : PySem.W.codeIn K cd_law_hand "_law_hand" = true) (p_law_hand : PySem.W.keepIn K (.ref a_law_hand) = true)
    {od_law_kept an_law_kept : Option Addr} {sl_law_kept : Array (Option Value)} {oc_law_kept kV_law_kept dc_law_kept pm_law_kept cd_law_kept ct_law_kept : Value} {a_law_kept : Addr}
    (n_law_kept : PySem.W.nsIn K mainGlobals "_law_kept" = some (some (.ref a_law_kept))) (l_law_kept : K.lookup a_law_kept = some ⟨oc_law_kept, od_law_kept, .func (PySem.W.fnOf "_law_kept" "_law_kept" (defArgs S_law_kept) (defBody S_law_kept) (defScope S_law_kept) .none kV_law_kept dc_law_kept pm_law_kept an_law_kept cd_law_kept ct_law_kept), sl_law_kept⟩) (c_law_kept : PySem.W.codeIn K cd_law_kept "_law_kept" = true) (p_law_kept : PySem.W.keepIn K (.ref a_law_kept) = true)
    {od_law_box an_law_box : Option Addr} {sl_law_box : Array (Option Value)} {oc_law_box kV_law_box dc_law_box pm_law_box cd_law_box ct_law_box : Value} {a_law_box : Addr}
    (n_law_box : PySem.W.nsIn K mainGlobals "_law_box" = some (some (.ref a_law_box))) (l_law_box : K.lookup a_law_box = some ⟨oc_law_box, od_law_box, .func (PySem.W.fnOf "_law_box" "_law_box" (defArgs S_law_box) (defBody S_law_box) (defScope S_law_box) .none kV_law_box dc_law_box pm_law_box an_law_box cd_law_box ct_law_box), sl_law_box⟩) (c_law_box : PySem.W.codeIn K cd_law_box "_law_box" = true) (p_law_box : PySem.W.keepIn K (.ref a_law_box) = true)
    {od_law_opens_of an_law_opens_of : Option Addr} {sl_law_opens_of : Array (Option Value)} {oc_law_opens_of kV_law_opens_of dc_law_opens_of pm_law_opens_of cd_law_opens_of ct_law_opens_of : Value} {a_law_opens_of : Addr}
    (n_law_opens_of : PySem.W.nsIn K mainGlobals "_law_opens_of" = some (some (.ref a_law_opens_of))) (l_law_opens_of : K.lookup a_law_opens_of = some ⟨oc_law_opens_of, od_law_opens_of, .func (PySem.W.fnOf "_law_opens_of" "_law_opens_of" (defArgs S_law_opens_of) (defBody S_law_opens_of) (defScope S_law_opens_of) .none kV_law_opens_of dc_law_opens_of pm_law_opens_of an_law_opens_of cd_law_opens_of ct_law_opens_of), sl_law_opens_of⟩) (c_law_opens_of : PySem.W.codeIn K cd_law_opens_of "_law_opens_of" = true) (p_law_opens_of : PySem.W.keepIn K (.ref a_law_opens_of) = true)
    {od_law_days an_law_days : Option Addr} {sl_law_days : Array (Option Value)} {oc_law_days kV_law_days dc_law_days pm_law_days cd_law_days ct_law_days : Value} {a_law_days : Addr}
    (n_law_days : PySem.W.nsIn K mainGlobals "_law_days" = some (some (.ref a_law_days))) (l_law_days : K.lookup a_law_days = some ⟨oc_law_days, od_law_days, .func (PySem.W.fnOf "_law_days" "_law_days" (defArgs S_law_days) (defBody S_law_days) (defScope S_law_days) .none kV_law_days dc_law_days pm_law_days an_law_days cd_law_days ct_law_days), sl_law_days⟩) (c_law_days : PySem.W.codeIn K cd_law_days "_law_days" = true) (p_law_days : PySem.W.keepIn K (.ref a_law_days) = true)
    {od_law_folk an_law_folk : Option Addr} {sl_law_folk : Array (Option Value)} {oc_law_folk kV_law_folk dc_law_folk pm_law_folk cd_law_folk ct_law_folk : Value} {a_law_folk : Addr}
    (n_law_folk : PySem.W.nsIn K mainGlobals "_law_folk" = some (some (.ref a_law_folk))) (l_law_folk : K.lookup a_law_folk = some ⟨oc_law_folk, od_law_folk, .func (PySem.W.fnOf "_law_folk" "_law_folk" (defArgs S_law_folk) (defBody S_law_folk) (defScope S_law_folk) .none kV_law_folk dc_law_folk pm_law_folk an_law_folk cd_law_folk ct_law_folk), sl_law_folk⟩) (c_law_folk : PySem.W.codeIn K cd_law_folk "_law_folk" = true) (p_law_folk : PySem.W.keepIn K (.ref a_law_folk) = true)
    {od_law_crews an_law_crews : Option Addr} {sl_law_crews : Array (Option Value)} {oc_law_crews kV_law_crews dc_law_crews pm_law_crews cd_law_crews ct_law_crews : Value} {a_law_crews : Addr}
    (n_law_crews : PySem.W.nsIn K mainGlobals "_law_crews" = some (some (.ref a_law_crews))) (l_law_crews : K.lookup a_law_crews = some ⟨oc_law_crews, od_law_crews, .func (PySem.W.fnOf "_law_crews" "_law_crews" (defArgs S_law_crews) (defBody S_law_crews) (defScope S_law_crews) .none kV_law_crews dc_law_crews pm_law_crews an_law_crews cd_law_crews ct_law_crews), sl_law_crews⟩) (c_law_crews : PySem.W.codeIn K cd_law_crews "_law_crews" = true) (p_law_crews : PySem.W.keepIn K (.ref a_law_crews) = true)
    {od_law_moments an_law_moments : Option Addr} {sl_law_moments : Array (Option Value)} {oc_law_moments kV_law_moments dc_law_moments pm_law_moments cd_law_moments ct_law_moments : Value} {a_law_moments : Addr}
    (n_law_moments : PySem.W.nsIn K mainGlobals "_law_moments" = some (some (.ref a_law_moments))) (l_law_moments : K.lookup a_law_moments = some ⟨oc_law_moments, od_law_moments, .func (PySem.W.fnOf "_law_moments" "_law_moments" (defArgs S_law_moments) (defBody S_law_moments) (defScope S_law_moments) .none kV_law_moments dc_law_moments pm_law_moments an_law_moments cd_law_moments ct_law_moments), sl_law_moments⟩) (c_law_moments : PySem.W.codeIn K cd_law_moments "_law_moments" = true) (p_law_moments : PySem.W.keepIn K (.ref a_law_moments) = true)
    {od_law_are_refused an_law_are_refused : Option Addr} {sl_law_are_refused : Array (Option Value)} {oc_law_are_refused kV_law_are_refused dc_law_are_refused pm_law_are_refused ct_law_are_refused : Value} {a_law_are_refused : Addr}
    (n_law_are_refused : PySem.W.nsIn K mainGlobals "_law_are_refused" = some (some (.ref a_law_are_refused))) (l_law_are_refused : K.lookup a_law_are_refused = some ⟨oc_law_are_refused, od_law_are_refused, .func (PySem.W.fnOf "_law_are_refused" "_law_are_refused" (defArgs S_law_are_refused) (defBody S_law_are_refused) (defScope S_law_are_refused) .none kV_law_are_refused dc_law_are_refused pm_law_are_refused an_law_are_refused (.ref tC) ct_law_are_refused), sl_law_are_refused⟩) (c_law_are_refused : PySem.W.codeIn K (.ref tC) "_law_are_refused" = true) (p_law_are_refused : PySem.W.keepIn K (.ref a_law_are_refused) = true)
    {od_law an_law : Option Addr} {sl_law : Array (Option Value)} {oc_law kV_law dc_law pm_law cd_law ct_law : Value} {a_law : Addr}
    (n_law : PySem.W.nsIn K mainGlobals "law" = some (some (.ref a_law))) (l_law : K.lookup a_law = some ⟨oc_law, od_law, .func (PySem.W.fnOf "law" "law" (defArgs S_law) (defBody S_law) (defScope S_law) .none kV_law dc_law pm_law an_law cd_law ct_law), sl_law⟩) (c_law : PySem.W.codeIn K cd_law "law" = true) (p_law : PySem.W.keepIn K (.ref a_law) = true)
    {od_law_said an_law_said : Option Addr} {sl_law_said : Array (Option Value)} {oc_law_said kV_law_said dc_law_said pm_law_said cd_law_said ct_law_said : Value} {a_law_said : Addr}
    (n_law_said : PySem.W.nsIn K mainGlobals "_law_said" = some (some (.ref a_law_said))) (l_law_said : K.lookup a_law_said = some ⟨oc_law_said, od_law_said, .func (PySem.W.fnOf "_law_said" "_law_said" (defArgs S_law_said) (defBody S_law_said) (defScope S_law_said) .none kV_law_said dc_law_said pm_law_said an_law_said cd_law_said ct_law_said), sl_law_said⟩) (c_law_said : PySem.W.codeIn K cd_law_said "_law_said" = true) (p_law_said : PySem.W.keepIn K (.ref a_law_said) = true)
    {a_ShelfError : Addr} (n_ShelfError : PySem.W.nsIn K mainGlobals "ShelfError" = some (some (.ref a_ShelfError)))
    {a_PaperError : Addr} (n_PaperError : PySem.W.nsIn K mainGlobals "PaperError" = some (some (.ref a_PaperError)))
    {a_DeedError : Addr} (n_DeedError : PySem.W.nsIn K mainGlobals "DeedError" = some (some (.ref a_DeedError)))
    {a_TextError : Addr} (n_TextError : PySem.W.nsIn K mainGlobals "TextError" = some (some (.ref a_TextError)))
    {a_UnknownHolder : Addr} (n_UnknownHolder : PySem.W.nsIn K mainGlobals "UnknownHolder" = some (some (.ref a_UnknownHolder)))
    {a_InvalidMoment : Addr} (n_InvalidMoment : PySem.W.nsIn K mainGlobals "InvalidMoment" = some (some (.ref a_InvalidMoment)))
    {u_nm u_q : Str} {u_N : Addr} {u_bs : List Value} {u_sn : List Str} {u_sub : List Value} {u_ab : Bool} {u_col : Option Bool} {u_dd : Option Addr} {u_0 u_1 u_2 u_3 u_5 : Option Value} {u_f : Addr} {u_od u_an : Option Addr} {u_sl : Array (Option Value)} {u_oc u_dc u_pm u_cd u_ct : Value} {u_p1 u_p2 u_q1 u_q2 u_q3 u_q4 : Pos}
    (u_x : K.lookup a_UnknownHolder = some (PySem.excClassObj u_nm u_q a_UnknownHolder u_N u_bs [.ref a_DeedError, .ref a_ShelfError, .type "ValueError", .type "Exception", .type "BaseException", .type "object"] true u_sn u_sub u_ab u_col u_dd u_0 u_1 u_2 u_3 u_5 "ValueError.__new__"))
    (u_sa : PySem.W.findIn K (.ref a_UnknownHolder) "__setattr__" = some (some (.builtin "object.__setattr__")))
    (u_ga : PySem.W.findIn K (.ref a_UnknownHolder) "__getattribute__" = some (some (.builtin "BaseException.__getattribute__")))
    (u_gg : PySem.W.findIn K (.ref a_UnknownHolder) "__getattr__" = some none)
    (u_nb : PySem.W.findIn K (.ref a_UnknownHolder) "holder" = some none)
    (u_i : PySem.W.findIn K (.ref a_UnknownHolder) "__init__" = some (some (.ref u_f)))
    (u_t : PySem.W.typeIn K (.ref u_f) = some (.type "function"))
    (u_l : K.lookup u_f = some ⟨u_oc, u_od, .func (PySem.W.fnOf "__init__" "UnknownHolder.__init__" (PySem.UhoX.iA u_p1 u_p2) (PySem.UhoX.iB u_q1 u_q2 u_q3 u_q4) PySem.UhoX.iS .none .none u_dc u_pm u_an u_cd u_ct), u_sl⟩)
    (u_c : PySem.W.codeIn K u_cd "UnknownHolder.__init__" = true)
    (u_k : PySem.W.keepIn K (.ref a_UnknownHolder) = true)
    (u_e : PySem.W.subIn K (.ref a_UnknownHolder) (.type "BaseException") = some true)
    (u_ty : PySem.W.typeIn K (.ref a_UnknownHolder) = some (.type "type"))
    (u_h : PySem.W.hasDictIn K a_UnknownHolder = true)
    (u_is : PySem.W.isClsIn K a_UnknownHolder = true)
    (u_ss : PySem.W.subIn K (.ref a_UnknownHolder) (.ref a_UnknownHolder) = some true)
    (u_cl : PySem.W.findIn K (.ref a_UnknownHolder) "__class__" = some (some (.builtin "object.__class__")))
    (u_sp : PySem.W.specialIn K (.builtin "object.__class__") "__get__" = some (some (.builtin "getset_descriptor.__get__")))
    (u_tk : PySem.W.takesIn K (.builtin "object.__class__") = some true)
    (u_mr : PySem.W.mroIn K a_UnknownHolder (.type "object") = some true)
    (u_s : PySem.W.subIn K (.ref a_UnknownHolder) (.ref a_ShelfError) = some true)
    (uk_PE : PySem.W.kitOne K (.ref a_UnknownHolder) (.ref a_PaperError) = some false)
    (uk_DE : PySem.W.kitOne K (.ref a_UnknownHolder) (.ref a_DeedError) = some true)
    (uk_TE : PySem.W.kitOne K (.ref a_UnknownHolder) (.ref a_TextError) = some false)
    (uk_I : PySem.W.kitOne K (.ref a_UnknownHolder) (.ref a_InvalidMoment) = some false)
    (uk_U : PySem.W.kitOne K (.ref a_UnknownHolder) (.ref a_UnknownHolder) = some true)
    {v_nm v_q : Str} {v_N : Addr} {v_bs : List Value} {v_sn : List Str} {v_sub : List Value} {v_ab : Bool} {v_col : Option Bool} {v_dd : Option Addr} {v_0 v_1 v_2 v_3 v_5 : Option Value} {v_f : Addr} {v_od v_an : Option Addr} {v_sl : Array (Option Value)} {v_oc v_dc v_pm v_cd v_ct : Value} {v_p1 v_p2 v_q1 v_q2 v_q3 v_q4 : Pos}
    (v_x : K.lookup a_InvalidMoment = some (PySem.excClassObj v_nm v_q a_InvalidMoment v_N v_bs [.ref a_DeedError, .ref a_ShelfError, .type "ValueError", .type "Exception", .type "BaseException", .type "object"] true v_sn v_sub v_ab v_col v_dd v_0 v_1 v_2 v_3 v_5 "ValueError.__new__"))
    (v_sa : PySem.W.findIn K (.ref a_InvalidMoment) "__setattr__" = some (some (.builtin "object.__setattr__")))
    (v_ga : PySem.W.findIn K (.ref a_InvalidMoment) "__getattribute__" = some (some (.builtin "BaseException.__getattribute__")))
    (v_gg : PySem.W.findIn K (.ref a_InvalidMoment) "__getattr__" = some none)
    (v_nb : PySem.W.findIn K (.ref a_InvalidMoment) "moment" = some none)
    (v_i : PySem.W.findIn K (.ref a_InvalidMoment) "__init__" = some (some (.ref v_f)))
    (v_t : PySem.W.typeIn K (.ref v_f) = some (.type "function"))
    (v_l : K.lookup v_f = some ⟨v_oc, v_od, .func (PySem.W.fnOf "__init__" "InvalidMoment.__init__" (PySem.ImoX.iA v_p1 v_p2) (PySem.ImoX.iB v_q1 v_q2 v_q3 v_q4) PySem.ImoX.iS .none .none v_dc v_pm v_an v_cd v_ct), v_sl⟩)
    (v_c : PySem.W.codeIn K v_cd "InvalidMoment.__init__" = true)
    (v_k : PySem.W.keepIn K (.ref a_InvalidMoment) = true)
    (v_e : PySem.W.subIn K (.ref a_InvalidMoment) (.type "BaseException") = some true)
    (v_ty : PySem.W.typeIn K (.ref a_InvalidMoment) = some (.type "type"))
    (v_h : PySem.W.hasDictIn K a_InvalidMoment = true)
    (v_is : PySem.W.isClsIn K a_InvalidMoment = true)
    (v_ss : PySem.W.subIn K (.ref a_InvalidMoment) (.ref a_InvalidMoment) = some true)
    (v_cl : PySem.W.findIn K (.ref a_InvalidMoment) "__class__" = some (some (.builtin "object.__class__")))
    (v_sp : PySem.W.specialIn K (.builtin "object.__class__") "__get__" = some (some (.builtin "getset_descriptor.__get__")))
    (v_tk : PySem.W.takesIn K (.builtin "object.__class__") = some true)
    (v_mr : PySem.W.mroIn K a_InvalidMoment (.type "object") = some true)
    (v_s : PySem.W.subIn K (.ref a_InvalidMoment) (.ref a_ShelfError) = some true)
    (vk_PE : PySem.W.kitOne K (.ref a_InvalidMoment) (.ref a_PaperError) = some false)
    (vk_DE : PySem.W.kitOne K (.ref a_InvalidMoment) (.ref a_DeedError) = some true)
    (vk_TE : PySem.W.kitOne K (.ref a_InvalidMoment) (.ref a_TextError) = some false)
    (vk_I : PySem.W.kitOne K (.ref a_InvalidMoment) (.ref a_InvalidMoment) = some true)
    (vk_U : PySem.W.kitOne K (.ref a_InvalidMoment) (.ref a_UnknownHolder) = some false)
    (s_e : PySem.W.subIn K (.ref a_ShelfError) (.type "BaseException") = some true)
    (s_h : PySem.W.hasDictIn K a_ShelfError = true)
    (s_t : PySem.W.typeIn K (.ref a_ShelfError) = some (.type "type"))
    (t_P : K.lookup tP = none)
    (z_bool : PySem.W.nsIn K mainGlobals "bool" = some none)
    (z_enumerate : PySem.W.nsIn K mainGlobals "enumerate" = some none)
    (z_int : PySem.W.nsIn K mainGlobals "int" = some none)
    (z_isinstance : PySem.W.nsIn K mainGlobals "isinstance" = some none)
    (z_len : PySem.W.nsIn K mainGlobals "len" = some none)
    (z_list : PySem.W.nsIn K mainGlobals "list" = some none)
    (z_range : PySem.W.nsIn K mainGlobals "range" = some none)
    (z_repr : PySem.W.nsIn K mainGlobals "repr" = some none)
    (z_set : PySem.W.nsIn K mainGlobals "set" = some none)
    (z_sorted : PySem.W.nsIn K mainGlobals "sorted" = some none)
    (z_tuple : PySem.W.nsIn K mainGlobals "tuple" = some none)
    : ∃ (fd : FuncData) (cs : List (Addr × Addr)), (∀ (s : Shared) (v : Value), BindsTo s fd ⟨[v], []⟩ [("_law_script", v)]) ∧ (∀ p ∈ cs, h.get? p.2 = some emptyT ∧ K.lookup p.2 = none ∧ PySem.W.CodeHd h p.1 p.2) ∧ ∀ base : Heap, K.In base → base.Ns mainGlobals mg → (∀ p ∈ cs, LamX.TabB base mg p.1 p.2) → FnG l.prog w K mg base 7 fa fd ["_law_script"] (fun vs H Q => ∀ ft : Cfg, (∀ p ∈ cs, (ft.tab 0).1 = p.2) → cs ≠ [] → spM K ft 1 M_law vs H Q) := by
  have e := hfa.symm.trans (PySem.W.mg_of X G n_law)
  cases e
  let ft : Cfg := ⟨fun _ => 0, MD.MK.hash l.prog w, fun _ => (tP, (envOfC "_law_are_refused" (defScope S_law_are_refused) 0 0 (.ref tC)).qual ++ ("<lambda>" : Str)), fun n => match n with | 0 => (a_UnknownHolder, ("holder" : Str)) | _ => (a_InvalidMoment, ("moment" : Str))⟩
  have T : Txt l.prog w mg ft := ⟨rfl, PySem.W.mg_none_of X G z_bool, PySem.W.mg_none_of X G z_enumerate, PySem.W.mg_none_of X G z_int, PySem.W.mg_none_of X G z_isinstance, PySem.W.mg_none_of X G z_len, PySem.W.mg_none_of X G z_list, PySem.W.mg_none_of X G z_range, PySem.W.mg_none_of X G z_repr, PySem.W.mg_none_of X G z_set, PySem.W.mg_none_of X G z_sorted, PySem.W.mg_none_of X G z_tuple⟩
  have F_is_number := fun_mk (st := S_is_number) l_is_number c_is_number p_is_number
  have b_is_number := F_is_number.binds (ps := ["thing"]) fun _ _ _ _ _ _ us hl => match us, hl with | [_], _ => rfl
  have F_check_known := fun_mk (st := S_check_known) l_check_known c_check_known p_check_known
  have b_check_known := F_check_known.binds (ps := ["names", "group"]) fun _ _ _ _ _ _ us hl => match us, hl with | [_, _], _ => rfl
  have F_boxes_put := fun_mk (st := S_boxes_put) l_boxes_put c_boxes_put p_boxes_put
  have b_boxes_put := F_boxes_put.binds (ps := ["history"]) fun _ _ _ _ _ _ us hl => match us, hl with | [_], _ => rfl
  have F_check_moment := fun_mk (st := S_check_moment) l_check_moment c_check_moment p_check_moment
  have b_check_moment := F_check_moment.binds (ps := ["history", "moment"]) fun _ _ _ _ _ _ us hl => match us, hl with | [_, _], _ => rfl
  have F_lying := fun_mk (st := S_lying) l_lying c_lying p_lying
  have b_lying := F_lying.binds (ps := ["history", "moment"]) fun _ _ _ _ _ _ us hl => match us, hl with | [_, _], _ => rfl
  have F_holders_of := fun_mk (st := S_holders_of) l_holders_of c_holders_of p_holders_of
  have b_holders_of := F_holders_of.binds (ps := ["history"]) fun _ _ _ _ _ _ us hl => match us, hl with | [_], _ => rfl
  have F_check_members := fun_mk (st := S_check_members) l_check_members c_check_members p_check_members
  have b_check_members := F_check_members.binds (ps := ["history", "group"]) fun _ _ _ _ _ _ us hl => match us, hl with | [_, _], _ => rfl
  have F_hand_at := fun_mk (st := S_hand_at) l_hand_at c_hand_at p_hand_at
  have b_hand_at := F_hand_at.binds (ps := ["history", "group", "moment"]) fun _ _ _ _ _ _ us hl => match us, hl with | [_, _, _], _ => rfl
  have F_law_feed := fun_mk (st := S_law_feed) l_law_feed c_law_feed p_law_feed
  have b_law_feed := F_law_feed.binds (ps := ["_law_script"]) fun _ _ _ _ _ _ us hl => match us, hl with | [_], _ => rfl
  have F_law_draw := fun_mk (st := S_law_draw) l_law_draw c_law_draw p_law_draw
  have b_law_draw := F_law_draw.binds (ps := ["_law_feed_here", "_law_many"]) fun _ _ _ _ _ _ us hl => match us, hl with | [_, _], _ => rfl
  have F_law_any := fun_mk (st := S_law_any) l_law_any c_law_any p_law_any
  have b_law_any := F_law_any.binds (ps := ["_law_feed_here", "_law_some"]) fun _ _ _ _ _ _ us hl => match us, hl with | [_, _], _ => rfl
  have F_law_opened := fun_mk (st := S_law_opened) l_law_opened c_law_opened p_law_opened
  have b_law_opened := F_law_opened.binds (ps := ["_law_things", "_law_boxes"]) fun _ _ _ _ _ _ us hl => match us, hl with | [_, _], _ => rfl
  have F_law_pair := fun_mk (st := S_law_pair) l_law_pair c_law_pair p_law_pair
  have b_law_pair := F_law_pair.binds (ps := ["_law_things"]) fun _ _ _ _ _ _ us hl => match us, hl with | [_], _ => rfl
  have F_law_puts := fun_mk (st := S_law_puts) l_law_puts c_law_puts p_law_puts
  have b_law_puts := F_law_puts.binds (ps := ["_law_days_here"]) fun _ _ _ _ _ _ us hl => match us, hl with | [_], _ => rfl
  have F_law_there := fun_mk (st := S_law_there) l_law_there c_law_there p_law_there
  have b_law_there := F_law_there.binds (ps := ["_law_days_here", "_law_t"]) fun _ _ _ _ _ _ us hl => match us, hl with | [_, _], _ => rfl
  have F_law_hand := fun_mk (st := S_law_hand) l_law_hand c_law_hand p_law_hand
  have b_law_hand := F_law_hand.binds (ps := ["_law_days_here", "_law_crew", "_law_t"]) fun _ _ _ _ _ _ us hl => match us, hl with | [_, _, _], _ => rfl
  have F_law_kept := fun_mk (st := S_law_kept) l_law_kept c_law_kept p_law_kept
  have b_law_kept := F_law_kept.binds (ps := ["_law_days_here", "_law_crew", "_law_t"]) fun _ _ _ _ _ _ us hl => match us, hl with | [_, _, _], _ => rfl
  have F_law_box := fun_mk (st := S_law_box) l_law_box c_law_box p_law_box
  have b_law_box := F_law_box.binds (ps := ["_law_feed_here"]) fun _ _ _ _ _ _ us hl => match us, hl with | [_], _ => rfl
  have F_law_opens_of := fun_mk (st := S_law_opens_of) l_law_opens_of c_law_opens_of p_law_opens_of
  have b_law_opens_of := F_law_opens_of.binds (ps := ["_law_days_here", "_law_folk_here"]) fun _ _ _ _ _ _ us hl => match us, hl with | [_, _], _ => rfl
  have F_law_days := fun_mk (st := S_law_days) l_law_days c_law_days p_law_days
  have b_law_days := F_law_days.binds (ps := ["_law_feed_here", "_law_many"]) fun _ _ _ _ _ _ us hl => match us, hl with | [_, _], _ => rfl
  have F_law_folk := fun_mk (st := S_law_folk) l_law_folk c_law_folk p_law_folk
  have b_law_folk := F_law_folk.binds (ps := ["_law_days_here"]) fun _ _ _ _ _ _ us hl => match us, hl with | [_], _ => rfl
  have F_law_crews := fun_mk (st := S_law_crews) l_law_crews c_law_crews p_law_crews
  have b_law_crews := F_law_crews.binds (ps := ["_law_days_here"]) fun _ _ _ _ _ _ us hl => match us, hl with | [_], _ => rfl
  have F_law_moments := fun_mk (st := S_law_moments) l_law_moments c_law_moments p_law_moments
  have b_law_moments := F_law_moments.binds (ps := ["_law_days_here"]) fun _ _ _ _ _ _ us hl => match us, hl with | [_], _ => rfl
  have F_law_are_refused := fun_mk (st := S_law_are_refused) l_law_are_refused c_law_are_refused p_law_are_refused
  have b_law_are_refused := F_law_are_refused.binds (ps := ["_law_days_here"]) fun _ _ _ _ _ _ us hl => match us, hl with | [_], _ => rfl
  have F_law := fun_mk (st := S_law) l_law c_law p_law
  have b_law := F_law.binds (ps := ["_law_script"]) fun _ _ _ _ _ _ us hl => match us, hl with | [_], _ => rfl
  refine ⟨PySem.W.fnOf "law" "law" (defArgs S_law) (defBody S_law) (defScope S_law) .none kV_law dc_law pm_law an_law cd_law ct_law, [(tC, tP)], fun s v => .of_eq rfl, fun p hp => by simp at hp; subst hp; exact ⟨tb.2, t_P, tb.1⟩, fun base _ _ hTB => ?_⟩
  have TB := hTB (tC, tP) (by simp)
  have g_uho : PySem.W.exmOne K (.ref a_UnknownHolder) (.ref a_UnknownHolder) = some true := PySem.W.exm_ref u_e u_h u_ty u_ss
  have T_uho : PySem.UhoX.UhoTxt K mg (ft.exc 0).1 u_f := { gC := PySem.W.mg_of X G n_UnknownHolder, cls := ⟨u_nm, u_q, u_N, u_bs, _, u_sn, u_sub, u_ab, u_col, u_dd, u_0, u_1, u_2, u_3, u_5, u_x, by first | rfl | decide +kernel⟩, sa := u_sa, ga := u_ga, gg := u_gg, noN := u_nb, iC := u_i, tC := u_t, kC := u_k, exC := u_e, tyC := u_ty, hdC := u_h, te := g_uho, fn := ⟨_, _, _, _, _, _, _, _, _, _, _, _, _, _, u_l, u_c⟩ }
  have rfl_uho : (ft.exc 0).2 = ("holder" : Str) := rfl
  have g_imo : PySem.W.exmOne K (.ref a_InvalidMoment) (.ref a_InvalidMoment) = some true := PySem.W.exm_ref v_e v_h v_ty v_ss
  have T_imo : PySem.ImoX.ImoTxt K mg (ft.exc 1).1 v_f := { gC := PySem.W.mg_of X G n_InvalidMoment, cls := ⟨v_nm, v_q, v_N, v_bs, _, v_sn, v_sub, v_ab, v_col, v_dd, v_0, v_1, v_2, v_3, v_5, v_x, by first | rfl | decide +kernel⟩, sa := v_sa, ga := v_ga, gg := v_gg, noN := v_nb, iC := v_i, tC := v_t, kC := v_k, exC := v_e, tyC := v_ty, hdC := v_h, te := g_imo, fn := ⟨_, _, _, _, _, _, _, _, _, _, _, _, _, _, v_l, v_c⟩ }
  have rfl_imo : (ft.exc 1).2 = ("moment" : Str) := rfl
  have occ : SdC K mg ft := { cS := a_ShelfError, cPE := a_PaperError, cDE := a_DeedError, cTE := a_TextError, cI := a_InvalidMoment, cU := a_UnknownHolder, gS := PySem.W.mg_of X G n_ShelfError, gPE := PySem.W.mg_of X G n_PaperError, gDE := PySem.W.mg_of X G n_DeedError, gTE := PySem.W.mg_of X G n_TextError, gI := PySem.W.mg_of X G n_InvalidMoment, gU := PySem.W.mg_of X G n_UnknownHolder, zi := PySem.W.mg_none_of X G z_isinstance, hU := rfl, hI := rfl, eU := ⟨⟨u_is, u_ga, u_gg, u_e, u_cl, u_sp, u_tk, u_mr, u_h⟩, u_nb, PySem.W.exm_ref s_e s_h s_t u_s, uk_PE, uk_DE, uk_TE, uk_I, uk_U⟩, eI := ⟨⟨v_is, v_ga, v_gg, v_e, v_cl, v_sp, v_tk, v_mr, v_h⟩, v_nb, PySem.W.exm_ref s_e s_h s_t v_s, vk_PE, vk_DE, vk_TE, vk_I, vk_U⟩ }
  have F_law_said := fun_mk (st := S_law_said) l_law_said c_law_said p_law_said
  have b_law_said := F_law_said.binds (ps := ["_law_ask"]) fun _ _ _ _ _ _ us hl => match us, hl with | [_], _ => rfl
  have g_law_moments : FnG l.prog w K mg base 1 a_law_moments _ ["_law_days_here"] (spM K ft 1 M_law_moments) := fnG_of F_law_moments scope_law_moments (sb_law_moments T)
  have cc_law_moments : Callee l.prog w K mg base ft "_law_moments" 1 M_law_moments 1 := calleeOf F_law_moments (PySem.W.mg_of X G n_law_moments) b_law_moments g_law_moments
  have g_law_folk : FnG l.prog w K mg base 1 a_law_folk _ ["_law_days_here"] (spM K ft 1 M_law_folk) := fnG_of F_law_folk scope_law_folk (sb_law_folk T)
  have cc_law_folk : Callee l.prog w K mg base ft "_law_folk" 1 M_law_folk 1 := calleeOf F_law_folk (PySem.W.mg_of X G n_law_folk) b_law_folk g_law_folk
  have g_is_number : FnG l.prog w K mg base 1 a_is_number _ ["thing"] (spM K ft 1 M_is_number) := fnG_of F_is_number scope_is_number (sb_is_number T)
  have cc_is_number : Callee l.prog w K mg base ft "is_number" 1 M_is_number 1 := calleeOf F_is_number (PySem.W.mg_of X G n_is_number) b_is_number g_is_number
  have gx_check_moment : FnX l.prog w K mg base 2 a_check_moment _ ["history", "moment"] (spX K ft 2 X_check_moment) := fnX_of F_check_moment scope_check_moment (sbx_check_moment T T_uho rfl_uho T_imo rfl_imo cc_is_number)
  have xc_check_moment : CalleeX l.prog w K mg base ft "check_moment" 2 X_check_moment 2 := ⟨a_check_moment, _, _, PySem.W.mg_of X G n_check_moment, p_check_moment, b_check_moment, gx_check_moment, rfl⟩
  have g_holders_of : FnG l.prog w K mg base 1 a_holders_of _ ["history"] (spM K ft 1 M_holders_of) := fnG_of F_holders_of scope_holders_of (sb_holders_of T)
  have cc_holders_of : Callee l.prog w K mg base ft "holders_of" 1 M_holders_of 1 := calleeOf F_holders_of (PySem.W.mg_of X G n_holders_of) b_holders_of g_holders_of
  have gx_check_known : FnX l.prog w K mg base 1 a_check_known _ ["names", "group"] (spX K ft 2 X_check_known) := fnX_of F_check_known scope_check_known (sbx_check_known T T_uho rfl_uho T_imo rfl_imo)
  have xc_check_known : CalleeX l.prog w K mg base ft "check_known" 2 X_check_known 1 := ⟨a_check_known, _, _, PySem.W.mg_of X G n_check_known, p_check_known, b_check_known, gx_check_known, rfl⟩
  have gx_check_members : FnX l.prog w K mg base 2 a_check_members _ ["history", "group"] (spX K ft 2 X_check_members) := fnX_of F_check_members scope_check_members (sbx_check_members T T_uho rfl_uho T_imo rfl_imo cc_holders_of xc_check_known)
  have xc_check_members : CalleeX l.prog w K mg base ft "check_members" 2 X_check_members 2 := ⟨a_check_members, _, _, PySem.W.mg_of X G n_check_members, p_check_members, b_check_members, gx_check_members, rfl⟩
  have gx_hand_at : FnX l.prog w K mg base 3 a_hand_at _ ["history", "group", "moment"] (spX K ft 3 X_hand_at) := fnX_of F_hand_at scope_hand_at (sbx_hand_at T T_uho rfl_uho T_imo rfl_imo xc_check_moment xc_check_members)
  have xc_hand_at : CalleeX l.prog w K mg base ft "hand_at" 3 X_hand_at 3 := ⟨a_hand_at, _, _, PySem.W.mg_of X G n_hand_at, p_hand_at, b_hand_at, gx_hand_at, rfl⟩
  have g_boxes_put : FnG l.prog w K mg base 1 a_boxes_put _ ["history"] (spM K ft 1 M_boxes_put) := fnG_of F_boxes_put scope_boxes_put (sb_boxes_put T)
  have cc_boxes_put : Callee l.prog w K mg base ft "boxes_put" 1 M_boxes_put 1 := calleeOf F_boxes_put (PySem.W.mg_of X G n_boxes_put) b_boxes_put g_boxes_put
  have gx_lying : FnX l.prog w K mg base 3 a_lying _ ["history", "moment"] (spX K ft 2 X_lying) := fnX_of F_lying scope_lying (sbx_lying T T_uho rfl_uho T_imo rfl_imo cc_boxes_put xc_check_moment)
  have xc_lying : CalleeX l.prog w K mg base ft "lying" 2 X_lying 3 := ⟨a_lying, _, _, PySem.W.mg_of X G n_lying, p_lying, b_lying, gx_lying, rfl⟩
  have g_law_are_refused : FnG l.prog w K mg base 6 a_law_are_refused _ ["_law_days_here"] (spM K ft 1 M_law_are_refused) := fnG_ofT l_law_are_refused c_law_are_refused scope_law_are_refused TB rfl (sb_law_are_refused T cc_law_moments cc_law_folk (said_ok (F := fmOfT l.prog w K mg base ft S_law_are_refused N_law_are_refused 5 0) occ (PySem.W.mg_of X G n_law_said) p_law_said l_law_said c_law_said b_law_said 3) xc_hand_at xc_lying)
  have cc_law_are_refused : Callee l.prog w K mg base ft "_law_are_refused" 1 M_law_are_refused 6 := calleeOf F_law_are_refused (PySem.W.mg_of X G n_law_are_refused) b_law_are_refused g_law_are_refused
  have g_law_crews : FnG l.prog w K mg base 2 a_law_crews _ ["_law_days_here"] (spM K ft 1 M_law_crews) := fnG_of F_law_crews scope_law_crews (sb_law_crews T cc_law_folk)
  have cc_law_crews : Callee l.prog w K mg base ft "_law_crews" 1 M_law_crews 2 := calleeOf F_law_crews (PySem.W.mg_of X G n_law_crews) b_law_crews g_law_crews
  have g_check_moment : FnG l.prog w K mg base 2 a_check_moment _ ["history", "moment"] (spM K ft 2 M_check_moment) := fnG_of F_check_moment scope_check_moment (sb_check_moment T cc_is_number)
  have cc_check_moment : Callee l.prog w K mg base ft "check_moment" 2 M_check_moment 2 := calleeOf F_check_moment (PySem.W.mg_of X G n_check_moment) b_check_moment g_check_moment
  have g_check_known : FnG l.prog w K mg base 1 a_check_known _ ["names", "group"] (spM K ft 2 M_check_known) := fnG_of F_check_known scope_check_known (sb_check_known T)
  have cc_check_known : Callee l.prog w K mg base ft "check_known" 2 M_check_known 1 := calleeOf F_check_known (PySem.W.mg_of X G n_check_known) b_check_known g_check_known
  have g_check_members : FnG l.prog w K mg base 2 a_check_members _ ["history", "group"] (spM K ft 2 M_check_members) := fnG_of F_check_members scope_check_members (sb_check_members T cc_check_known cc_holders_of)
  have cc_check_members : Callee l.prog w K mg base ft "check_members" 2 M_check_members 2 := calleeOf F_check_members (PySem.W.mg_of X G n_check_members) b_check_members g_check_members
  have g_hand_at : FnG l.prog w K mg base 3 a_hand_at _ ["history", "group", "moment"] (spM K ft 3 M_hand_at) := fnG_of F_hand_at scope_hand_at (sb_hand_at T cc_check_moment cc_check_members)
  have ck_hand_at_moment_group_history : CalleeK l.prog w K mg base ft "hand_at" ["moment", "group", "history"] g_2_1_0 M_hand_at 3 := calleeK_of F_hand_at (PySem.W.mg_of X G n_hand_at) ⟨fun s ws _ hl => match ws, hl with | [_, _, _], _ => .of_eq rfl, g_2_1_0_vals, g_2_1_0_dvs, g_2_1_0_len⟩ g_hand_at
  have cc_hand_at : Callee l.prog w K mg base ft "hand_at" 3 M_hand_at 3 := calleeOf F_hand_at (PySem.W.mg_of X G n_hand_at) b_hand_at g_hand_at
  have g_law_pair : FnG l.prog w K mg base 1 a_law_pair _ ["_law_things"] (spM K ft 1 M_law_pair) := fnG_of F_law_pair scope_law_pair (sb_law_pair T)
  have cc_law_pair : Callee l.prog w K mg base ft "_law_pair" 1 M_law_pair 1 := calleeOf F_law_pair (PySem.W.mg_of X G n_law_pair) b_law_pair g_law_pair
  have g_law_hand : FnG l.prog w K mg base 1 a_law_hand _ ["_law_days_here", "_law_crew", "_law_t"] (spM K ft 3 M_law_hand) := fnG_of F_law_hand scope_law_hand (sb_law_hand T)
  have cc_law_hand : Callee l.prog w K mg base ft "_law_hand" 3 M_law_hand 1 := calleeOf F_law_hand (PySem.W.mg_of X G n_law_hand) b_law_hand g_law_hand
  have g_lying : FnG l.prog w K mg base 3 a_lying _ ["history", "moment"] (spM K ft 2 M_lying) := fnG_of F_lying scope_lying (sb_lying T cc_boxes_put cc_check_moment)
  have ck_lying_moment_history : CalleeK l.prog w K mg base ft "lying" ["moment", "history"] g_1_0 M_lying 3 := calleeK_of F_lying (PySem.W.mg_of X G n_lying) ⟨fun s ws _ hl => match ws, hl with | [_, _], _ => .of_eq rfl, g_1_0_vals, g_1_0_dvs, g_1_0_len⟩ g_lying
  have cc_lying : Callee l.prog w K mg base ft "lying" 2 M_lying 3 := calleeOf F_lying (PySem.W.mg_of X G n_lying) b_lying g_lying
  have g_law_there : FnG l.prog w K mg base 1 a_law_there _ ["_law_days_here", "_law_t"] (spM K ft 2 M_law_there) := fnG_of F_law_there scope_law_there (sb_law_there T)
  have cc_law_there : Callee l.prog w K mg base ft "_law_there" 2 M_law_there 1 := calleeOf F_law_there (PySem.W.mg_of X G n_law_there) b_law_there g_law_there
  have ck_holders_of_history : CalleeK l.prog w K mg base ft "holders_of" ["history"] gId M_holders_of 1 := calleeK_of F_holders_of (PySem.W.mg_of X G n_holders_of) ⟨fun s ws _ hl => match ws, hl with | [_], _ => .of_eq rfl, fun hl r => r, fun hl r => r, fun hl => hl⟩ g_holders_of
  have ck_boxes_put_history : CalleeK l.prog w K mg base ft "boxes_put" ["history"] gId M_boxes_put 1 := calleeK_of F_boxes_put (PySem.W.mg_of X G n_boxes_put) ⟨fun s ws _ hl => match ws, hl with | [_], _ => .of_eq rfl, fun hl r => r, fun hl r => r, fun hl => hl⟩ g_boxes_put
  have g_law_puts : FnG l.prog w K mg base 1 a_law_puts _ ["_law_days_here"] (spM K ft 1 M_law_puts) := fnG_of F_law_puts scope_law_puts (sb_law_puts T)
  have cc_law_puts : Callee l.prog w K mg base ft "_law_puts" 1 M_law_puts 1 := calleeOf F_law_puts (PySem.W.mg_of X G n_law_puts) b_law_puts g_law_puts
  have g_law_draw : FnG l.prog w K mg base 1 a_law_draw _ ["_law_feed_here", "_law_many"] (spM K ft 2 M_law_draw) := fnG_of F_law_draw scope_law_draw (sb_law_draw T)
  have cc_law_draw : Callee l.prog w K mg base ft "_law_draw" 2 M_law_draw 1 := calleeOf F_law_draw (PySem.W.mg_of X G n_law_draw) b_law_draw g_law_draw
  have g_law_any : FnG l.prog w K mg base 2 a_law_any _ ["_law_feed_here", "_law_some"] (spM K ft 2 M_law_any) := fnG_of F_law_any scope_law_any (sb_law_any T cc_law_draw)
  have cc_law_any : Callee l.prog w K mg base ft "_law_any" 2 M_law_any 2 := calleeOf F_law_any (PySem.W.mg_of X G n_law_any) b_law_any g_law_any
  have g_law_opened : FnG l.prog w K mg base 1 a_law_opened _ ["_law_things", "_law_boxes"] (spM K ft 2 M_law_opened) := fnG_of F_law_opened scope_law_opened (sb_law_opened T)
  have cc_law_opened : Callee l.prog w K mg base ft "_law_opened" 2 M_law_opened 1 := calleeOf F_law_opened (PySem.W.mg_of X G n_law_opened) b_law_opened g_law_opened
  have g_law_kept : FnG l.prog w K mg base 2 a_law_kept _ ["_law_days_here", "_law_crew", "_law_t"] (spM K ft 3 M_law_kept) := fnG_of F_law_kept scope_law_kept (sb_law_kept T cc_law_opened cc_law_hand cc_law_there cc_law_puts)
  have cc_law_kept : Callee l.prog w K mg base ft "_law_kept" 3 M_law_kept 2 := calleeOf F_law_kept (PySem.W.mg_of X G n_law_kept) b_law_kept g_law_kept
  have g_law_opens_of : FnG l.prog w K mg base 3 a_law_opens_of _ ["_law_days_here", "_law_folk_here"] (spM K ft 2 M_law_opens_of) := fnG_of F_law_opens_of scope_law_opens_of (sb_law_opens_of T cc_law_there cc_law_kept cc_law_puts)
  have cc_law_opens_of : Callee l.prog w K mg base ft "_law_opens_of" 2 M_law_opens_of 3 := calleeOf F_law_opens_of (PySem.W.mg_of X G n_law_opens_of) b_law_opens_of g_law_opens_of
  have g_law_box : FnG l.prog w K mg base 3 a_law_box _ ["_law_feed_here"] (spM K ft 1 M_law_box) := fnG_of F_law_box scope_law_box (sb_law_box T cc_law_any cc_law_draw)
  have cc_law_box : Callee l.prog w K mg base ft "_law_box" 1 M_law_box 3 := calleeOf F_law_box (PySem.W.mg_of X G n_law_box) b_law_box g_law_box
  have g_law_days : FnG l.prog w K mg base 4 a_law_days _ ["_law_feed_here", "_law_many"] (spM K ft 2 M_law_days) := fnG_of F_law_days scope_law_days (sb_law_days T cc_law_draw cc_law_any cc_law_opens_of cc_law_box cc_law_there)
  have cc_law_days : Callee l.prog w K mg base ft "_law_days" 2 M_law_days 4 := calleeOf F_law_days (PySem.W.mg_of X G n_law_days) b_law_days g_law_days
  have g_law_feed : FnG l.prog w K mg base 1 a_law_feed _ ["_law_script"] (spM K ft 1 M_law_feed) := fnG_of F_law_feed scope_law_feed (sb_law_feed T)
  have cc_law_feed : Callee l.prog w K mg base ft "_law_feed" 1 M_law_feed 1 := calleeOf F_law_feed (PySem.W.mg_of X G n_law_feed) b_law_feed g_law_feed
  have g_law : FnG l.prog w K mg base 7 fa _ ["_law_script"] (spM K ft 1 M_law) := fnG_of F_law scope_law (sb_law T cc_law_are_refused cc_law_crews ck_hand_at_moment_group_history cc_hand_at cc_law_pair cc_law_hand ck_lying_moment_history cc_lying cc_law_there ck_holders_of_history cc_holders_of cc_law_folk ck_boxes_put_history cc_boxes_put cc_law_puts cc_law_days cc_law_draw cc_law_feed)
  exact g_law.imp fun vs H Q q => q ft (fun p hp => by simp at hp; subst hp; rfl) (by simp)
end G
open PySem PySem.W PyProof.Rows in
set_option maxRecDepth 100000 in
set_option maxHeartbeats 0 in
theorem PySem.Challenge.cw_sealshelf_k32_lyings_told_holds : PySem.Challenge.rw_sealshelf_k32_lyings_told.Holds := by
  w_on; o_law; k_head; (case hw => w_witness2)
  k_fill
  refine Mi.walkT (l := PySem.Challenge.rw_sealshelf_k32_lyings_told) (n := 63) (k := 7) (x := "_law_script") (sp := fun K cs vs H Q => ∀ ft : Mi.Cfg, (∀ p ∈ cs, (ft.tab 0).1 = p.2) → cs ≠ [] → Mi.spM K ft 1 G.M_law vs H Q) rfl (by decide) rfl ⟨rfl, by decide, by decide⟩ (fun w h Y => PySem.W.km_in_of Y) ?F fun K cs H a ns hT hl sq ft hp hc => G.law_endT G.law_true hT hl sq hp hc
  case F =>
    intro w mg fa h YY KX GX hmg
    refine' G.all_mk KX GX hmg ⟨PySem.W.codeHd_of_K KX ?tb, PySem.W.km_tabs_of YY _ ?tm⟩ ?n_is_number ?l_is_number ?c_is_number ?p_is_number ?n_check_known ?l_check_known ?c_check_known ?p_check_known ?n_boxes_put ?l_boxes_put ?c_boxes_put ?p_boxes_put ?n_check_moment ?l_check_moment ?c_check_moment ?p_check_moment ?n_lying ?l_lying ?c_lying ?p_lying ?n_holders_of ?l_holders_of ?c_holders_of ?p_holders_of ?n_check_members ?l_check_members ?c_check_members ?p_check_members ?n_hand_at ?l_hand_at ?c_hand_at ?p_hand_at ?n_law_feed ?l_law_feed ?c_law_feed ?p_law_feed ?n_law_draw ?l_law_draw ?c_law_draw ?p_law_draw ?n_law_any ?l_law_any ?c_law_any ?p_law_any ?n_law_opened ?l_law_opened ?c_law_opened ?p_law_opened ?n_law_pair ?l_law_pair ?c_law_pair ?p_law_pair ?n_law_puts ?l_law_puts ?c_law_puts ?p_law_puts ?n_law_there ?l_law_there ?c_law_there ?p_law_there ?n_law_hand ?l_law_hand ?c_law_hand ?p_law_hand ?n_law_kept ?l_law_kept ?c_law_kept ?p_law_kept ?n_law_box ?l_law_box ?c_law_box ?p_law_box ?n_law_opens_of ?l_law_opens_of ?c_law_opens_of ?p_law_opens_of ?n_law_days ?l_law_days ?c_law_days ?p_law_days ?n_law_folk ?l_law_folk ?c_law_folk ?p_law_folk ?n_law_crews ?l_law_crews ?c_law_crews ?p_law_crews ?n_law_moments ?l_law_moments ?c_law_moments ?p_law_moments ?n_law_are_refused ?l_law_are_refused ?c_law_are_refused ?p_law_are_refused ?n_law ?l_law ?c_law ?p_law ?n_law_said ?l_law_said ?c_law_said ?p_law_said ?n_ShelfError ?n_PaperError ?n_DeedError ?n_TextError ?n_UnknownHolder ?n_InvalidMoment ?u_x ?u_sa ?u_ga ?u_gg ?u_nb ?u_i ?u_t ?u_l ?u_c ?u_k ?u_e ?u_ty ?u_h ?u_is ?u_ss ?u_cl ?u_sp ?u_tk ?u_mr ?u_s ?uk_PE ?uk_DE ?uk_TE ?uk_I ?uk_U ?v_x ?v_sa ?v_ga ?v_gg ?v_nb ?v_i ?v_t ?v_l ?v_c ?v_k ?v_e ?v_ty ?v_h ?v_is ?v_ss ?v_cl ?v_sp ?v_tk ?v_mr ?v_s ?vk_PE ?vk_DE ?vk_TE ?vk_I ?vk_U ?s_e ?s_h ?s_t ?t_P ?z_bool ?z_enumerate ?z_int ?z_isinstance ?z_len ?z_list ?z_range ?z_repr ?z_set ?z_sorted ?z_tuple
    (case tm => exact List.mem_cons_self)
    (case n_is_number => first | k_is | rfl | kernel_rfl)
    (case l_is_number => first | k_is | rfl | kernel_rfl)
    (case c_is_number => first | k_is | rfl | kernel_rfl)
    (case p_is_number => first | k_is | rfl | kernel_rfl)
    (case n_check_known => first | k_is | rfl | kernel_rfl)
    (case l_check_known => first | k_is | rfl | kernel_rfl)
    (case c_check_known => first | k_is | rfl | kernel_rfl)
    (case p_check_known => first | k_is | rfl | kernel_rfl)
    (case n_boxes_put => first | k_is | rfl | kernel_rfl)
    (case l_boxes_put => first | k_is | rfl | kernel_rfl)
    (case c_boxes_put => first | k_is | rfl | kernel_rfl)
    (case p_boxes_put => first | k_is | rfl | kernel_rfl)
    (case n_check_moment => first | k_is | rfl | kernel_rfl)
    (case l_check_moment => first | k_is | rfl | kernel_rfl)
    (case c_check_moment => first | k_is | rfl | kernel_rfl)
    (case p_check_moment => first | k_is | rfl | kernel_rfl)
    (case n_lying => first | k_is | rfl | kernel_rfl)
    (case l_lying => first | k_is | rfl | kernel_rfl)
    (case c_lying => first | k_is | rfl | kernel_rfl)
    (case p_lying => first | k_is | rfl | kernel_rfl)
    (case n_holders_of => first | k_is | rfl | kernel_rfl)
    (case l_holders_of => first | k_is | rfl | kernel_rfl)
    (case c_holders_of => first | k_is | rfl | kernel_rfl)
    (case p_holders_of => first | k_is | rfl | kernel_rfl)
    (case n_check_members => first | k_is | rfl | kernel_rfl)
    (case l_check_members => first | k_is | rfl | kernel_rfl)
    (case c_check_members => first | k_is | rfl | kernel_rfl)
    (case p_check_members => first | k_is | rfl | kernel_rfl)
    (case n_hand_at => first | k_is | rfl | kernel_rfl)
    (case l_hand_at => first | k_is | rfl | kernel_rfl)
    (case c_hand_at => first | k_is | rfl | kernel_rfl)
    (case p_hand_at => first | k_is | rfl | kernel_rfl)
    (case n_law_feed => first | k_is | rfl | kernel_rfl)
    (case l_law_feed => first | k_is | rfl | kernel_rfl)
    (case c_law_feed => first | k_is | rfl | kernel_rfl)
    (case p_law_feed => first | k_is | rfl | kernel_rfl)
    (case n_law_draw => first | k_is | rfl | kernel_rfl)
    (case l_law_draw => first | k_is | rfl | kernel_rfl)
    (case c_law_draw => first | k_is | rfl | kernel_rfl)
    (case p_law_draw => first | k_is | rfl | kernel_rfl)
    (case n_law_any => first | k_is | rfl | kernel_rfl)
    (case l_law_any => first | k_is | rfl | kernel_rfl)
    (case c_law_any => first | k_is | rfl | kernel_rfl)
    (case p_law_any => first | k_is | rfl | kernel_rfl)
    (case n_law_opened => first | k_is | rfl | kernel_rfl)
    (case l_law_opened => first | k_is | rfl | kernel_rfl)
    (case c_law_opened => first | k_is | rfl | kernel_rfl)
    (case p_law_opened => first | k_is | rfl | kernel_rfl)
    (case n_law_pair => first | k_is | rfl | kernel_rfl)
    (case l_law_pair => first | k_is | rfl | kernel_rfl)
    (case c_law_pair => first | k_is | rfl | kernel_rfl)
    (case p_law_pair => first | k_is | rfl | kernel_rfl)
    (case n_law_puts => first | k_is | rfl | kernel_rfl)
    (case l_law_puts => first | k_is | rfl | kernel_rfl)
    (case c_law_puts => first | k_is | rfl | kernel_rfl)
    (case p_law_puts => first | k_is | rfl | kernel_rfl)
    (case n_law_there => first | k_is | rfl | kernel_rfl)
    (case l_law_there => first | k_is | rfl | kernel_rfl)
    (case c_law_there => first | k_is | rfl | kernel_rfl)
    (case p_law_there => first | k_is | rfl | kernel_rfl)
    (case n_law_hand => first | k_is | rfl | kernel_rfl)
    (case l_law_hand => first | k_is | rfl | kernel_rfl)
    (case c_law_hand => first | k_is | rfl | kernel_rfl)
    (case p_law_hand => first | k_is | rfl | kernel_rfl)
    (case n_law_kept => first | k_is | rfl | kernel_rfl)
    (case l_law_kept => first | k_is | rfl | kernel_rfl)
    (case c_law_kept => first | k_is | rfl | kernel_rfl)
    (case p_law_kept => first | k_is | rfl | kernel_rfl)
    (case n_law_box => first | k_is | rfl | kernel_rfl)
    (case l_law_box => first | k_is | rfl | kernel_rfl)
    (case c_law_box => first | k_is | rfl | kernel_rfl)
    (case p_law_box => first | k_is | rfl | kernel_rfl)
    (case n_law_opens_of => first | k_is | rfl | kernel_rfl)
    (case l_law_opens_of => first | k_is | rfl | kernel_rfl)
    (case c_law_opens_of => first | k_is | rfl | kernel_rfl)
    (case p_law_opens_of => first | k_is | rfl | kernel_rfl)
    (case n_law_days => first | k_is | rfl | kernel_rfl)
    (case l_law_days => first | k_is | rfl | kernel_rfl)
    (case c_law_days => first | k_is | rfl | kernel_rfl)
    (case p_law_days => first | k_is | rfl | kernel_rfl)
    (case n_law_folk => first | k_is | rfl | kernel_rfl)
    (case l_law_folk => first | k_is | rfl | kernel_rfl)
    (case c_law_folk => first | k_is | rfl | kernel_rfl)
    (case p_law_folk => first | k_is | rfl | kernel_rfl)
    (case n_law_crews => first | k_is | rfl | kernel_rfl)
    (case l_law_crews => first | k_is | rfl | kernel_rfl)
    (case c_law_crews => first | k_is | rfl | kernel_rfl)
    (case p_law_crews => first | k_is | rfl | kernel_rfl)
    (case n_law_moments => first | k_is | rfl | kernel_rfl)
    (case l_law_moments => first | k_is | rfl | kernel_rfl)
    (case c_law_moments => first | k_is | rfl | kernel_rfl)
    (case p_law_moments => first | k_is | rfl | kernel_rfl)
    (case n_law_are_refused => first | k_is | rfl | kernel_rfl)
    (case l_law_are_refused => first | k_is | rfl | kernel_rfl)
    (case c_law_are_refused => first | k_is | rfl | kernel_rfl)
    (case p_law_are_refused => first | k_is | rfl | kernel_rfl)
    (case n_law => first | k_is | rfl | kernel_rfl)
    (case l_law => first | k_is | rfl | kernel_rfl)
    (case c_law => first | k_is | rfl | kernel_rfl)
    (case p_law => first | k_is | rfl | kernel_rfl)
    (case n_law_said => first | k_is | rfl | kernel_rfl)
    (case l_law_said => first | k_is | rfl | kernel_rfl)
    (case c_law_said => first | k_is | rfl | kernel_rfl)
    (case p_law_said => first | k_is | rfl | kernel_rfl)
    (case n_ShelfError => first | k_is | rfl | kernel_rfl)
    (case n_PaperError => first | k_is | rfl | kernel_rfl)
    (case n_DeedError => first | k_is | rfl | kernel_rfl)
    (case n_TextError => first | k_is | rfl | kernel_rfl)
    (case n_UnknownHolder => first | k_is | rfl | kernel_rfl)
    (case n_InvalidMoment => first | k_is | rfl | kernel_rfl)
    (case u_x => first | k_is | rfl | kernel_rfl)
    (case u_sa => first | k_is | rfl | kernel_rfl)
    (case u_ga => first | k_is | rfl | kernel_rfl)
    (case u_gg => first | k_is | rfl | kernel_rfl)
    (case u_nb => first | k_is | rfl | kernel_rfl)
    (case u_i => first | k_is | rfl | kernel_rfl)
    (case u_t => first | k_is | rfl | kernel_rfl)
    (case u_l => first | k_is | rfl | kernel_rfl)
    (case u_c => first | k_is | rfl | kernel_rfl)
    (case u_k => first | k_is | rfl | kernel_rfl)
    (case u_e => first | k_is | rfl | kernel_rfl)
    (case u_ty => first | k_is | rfl | kernel_rfl)
    (case u_h => first | k_is | rfl | kernel_rfl)
    (case u_is => first | k_is | rfl | kernel_rfl)
    (case u_ss => first | k_is | rfl | kernel_rfl)
    (case u_cl => first | k_is | rfl | kernel_rfl)
    (case u_sp => first | k_is | rfl | kernel_rfl)
    (case u_tk => first | k_is | rfl | kernel_rfl)
    (case u_mr => first | k_is | rfl | kernel_rfl)
    (case u_s => first | k_is | rfl | kernel_rfl)
    (case uk_PE => first | k_is | rfl | kernel_rfl)
    (case uk_DE => first | k_is | rfl | kernel_rfl)
    (case uk_TE => first | k_is | rfl | kernel_rfl)
    (case uk_I => first | k_is | rfl | kernel_rfl)
    (case uk_U => first | k_is | rfl | kernel_rfl)
    (case v_x => first | k_is | rfl | kernel_rfl)
    (case v_sa => first | k_is | rfl | kernel_rfl)
    (case v_ga => first | k_is | rfl | kernel_rfl)
    (case v_gg => first | k_is | rfl | kernel_rfl)
    (case v_nb => first | k_is | rfl | kernel_rfl)
    (case v_i => first | k_is | rfl | kernel_rfl)
    (case v_t => first | k_is | rfl | kernel_rfl)
    (case v_l => first | k_is | rfl | kernel_rfl)
    (case v_c => first | k_is | rfl | kernel_rfl)
    (case v_k => first | k_is | rfl | kernel_rfl)
    (case v_e => first | k_is | rfl | kernel_rfl)
    (case v_ty => first | k_is | rfl | kernel_rfl)
    (case v_h => first | k_is | rfl | kernel_rfl)
    (case v_is => first | k_is | rfl | kernel_rfl)
    (case v_ss => first | k_is | rfl | kernel_rfl)
    (case v_cl => first | k_is | rfl | kernel_rfl)
    (case v_sp => first | k_is | rfl | kernel_rfl)
    (case v_tk => first | k_is | rfl | kernel_rfl)
    (case v_mr => first | k_is | rfl | kernel_rfl)
    (case v_s => first | k_is | rfl | kernel_rfl)
    (case vk_PE => first | k_is | rfl | kernel_rfl)
    (case vk_DE => first | k_is | rfl | kernel_rfl)
    (case vk_TE => first | k_is | rfl | kernel_rfl)
    (case vk_I => first | k_is | rfl | kernel_rfl)
    (case vk_U => first | k_is | rfl | kernel_rfl)
    (case s_e => first | k_is | rfl | kernel_rfl)
    (case s_h => first | k_is | rfl | kernel_rfl)
    (case s_t => first | k_is | rfl | kernel_rfl)
    (case t_P => first | k_is | rfl | kernel_rfl)
    (case z_bool => first | k_is | rfl | kernel_rfl)
    (case z_enumerate => first | k_is | rfl | kernel_rfl)
    (case z_int => first | k_is | rfl | kernel_rfl)
    (case z_isinstance => first | k_is | rfl | kernel_rfl)
    (case z_len => first | k_is | rfl | kernel_rfl)
    (case z_list => first | k_is | rfl | kernel_rfl)
    (case z_range => first | k_is | rfl | kernel_rfl)
    (case z_repr => first | k_is | rfl | kernel_rfl)
    (case z_set => first | k_is | rfl | kernel_rfl)
    (case z_sorted => first | k_is | rfl | kernel_rfl)
    (case z_tuple => first | k_is | rfl | kernel_rfl)
    (case tb => kernel_rfl)