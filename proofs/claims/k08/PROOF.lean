import PyProof.Rows.All
import Wide.All
import OpenK.AllK
import Wide.FinOn
import HandS.ForMost
import HandS.IsInst
import HandS.Deep
import HandS.Conv
import PyProof.P3Eq
import PyProof.ReprRoads
import HandS.TupAny
import PyProof.Rows.IntBool
import HandS.TupMul
import HandS.SortInts
import HandS.Remove
import HandS.Style
import HandS.Text
import HandS.Codes
import KE.SortData
import KE.KSortedM
import HandS.RaiseMore
import HandS.WordsExc
import KE.KRevSl
import HandS.Small
import HandS.DictComp
import HandS.SetFor
import HandS.Strs
import KE.GoesEnum
import KE.DatumOrd
import HandS.SetBool
import KE.SortKeyHeap
import PySem.Challenge.RW_sealshelf_k08_whole_opening
set_option Elab.async false
set_option linter.all false
set_option maxRecDepth 100000
set_option maxHeartbeats 4000000
namespace MD
open PySem PySem.Spec PyProof.Rows L2
/-! ## dicts whose keys are ints and tuples of ints and texts -/
inductive MK where
  | i (n : Int) | t (ks : List Key)
deriving DecidableEq
def partOk : Key → Bool
  | .inl _ => true
  | .inr x => PyData.strOk x
section
variable (P : Program) (w : World)
def MK.is (h : Heap) : MK → Value → Prop
  | .i n, v => ∃ tk, v = .int n tk
  | .t ks, v => ks.all partOk = true ∧ ∃ a, v = .ref a ∧ IsTupleKey (mixKind P w) h ks a
def MK.hash : MK → Int
  | .i n => hashInt n
  | .t ks => tupleKeyHash (mixKind P w) ks
def MK.draws : MK → Nat
  | .i _ => 1
  | .t ks => ks.length + 1
end
variable {P : Program} {w : World} {A : Around} {E : Value → Shared → Prop} {s : Shared}
theorem is_inj {h : Heap} {x y : MK} {v : Value} (hx : MK.is P w h x v) (hy : MK.is P w h y v) : x = y := by
  cases x with
  | i n =>
    obtain ⟨t, rfl⟩ := hx
    cases y with
    | i m => obtain ⟨u, e⟩ := hy; cases e; rfl
    | t ks => obtain ⟨_, a, e, _⟩ := hy; cases e
  | t ks =>
    obtain ⟨_, a, rfl, q⟩ := hx
    cases y with
    | i m => obtain ⟨u, e⟩ := hy; cases e
    | t js => obtain ⟨_, b, e, r⟩ := hy; cases e; rw [q.inj r]
theorem is_hash {k : MK} {v : Value} {Q : Int → Shared → Prop} (hu : A.units < cLine) (hk : MK.is P w s.heap k v) (q : Q (MK.hash P w k) { s with toks := s.toks + k.draws }) : wpAny (model P w) A (pyHash v) Q E s := by
  cases k with
  | i n =>
    obtain ⟨t, rfl⟩ := hk
    exact (mixKind P w).pyHash (k := .inl n) (keyIs_int n t) q
  | t ks =>
    obtain ⟨_, a, rfl, r⟩ := hk
    exact (tupleKind (mixKind P w)).pyHash (k := ks) hu r q
theorem is_quiet {k : MK} {v : Value} {Q : Bool → Shared → Prop} (hk : MK.is P w s.heap k v) (q : Q true s) : wpAny (model P w) A (eqIsQuiet 8 v) Q E s := by
  cases k with
  | i n =>
    obtain ⟨t, rfl⟩ := hk
    exact wpAny_pure q
  | t ks =>
    obtain ⟨_, a, rfl, r⟩ := hk
    exact (tupleKind (mixKind P w)).quiet r q
def kData : Key → PyData
  | .inl n => .int n
  | .inr x => .str x
theorem reads_part {h : Heap} {k : Key} {v : Value} (e : keyIs k v = true) : Reads h v (kData k) [] := by
  rcases keyIs_shape e with ⟨i, t, rfl, rfl⟩ | ⟨x, t, rfl, rfl⟩
  · exact .int i t
  · exact .str x t
theorem reads_parts {h : Heap} : ∀ {ks : List Key} {vs : List Value}, ItemsAre (mixKind P w) ks vs → ReadsAll h vs (ks.map kData) []
  | _, _, .nil => .nil
  | _, _, .cons e r => .cons (reads_part e) (reads_parts r)
theorem lay_parts : ∀ {ks : List Key}, ks.all partOk = true → PyData.canLayAll0 (ks.map kData) = true
  | [], _ => by simp [PyData.canLayAll0]
  | k :: ks, e => by
    simp only [List.all_cons, Bool.and_eq_true] at e
    have := lay_parts e.2
    cases k with
    | inl n => simpa [PyData.canLayAll0, PyData.canLay0, kData] using this
    | inr x => simpa [PyData.canLayAll0, PyData.canLay0, kData] using ⟨e.1, this⟩
theorem is_eq {x y : MK} {u v : Value} {Q : Bool → Shared → Prop} (hu : A.units + 2 < cLine) (hx : MK.is P w s.heap x u) (hy : MK.is P w s.heap y v) (q : Q (decide (x = y)) s) : wpAny (model P w) A (eqBool u v) Q E s := by
  cases x with
  | i n =>
    obtain ⟨t, rfl⟩ := hx
    cases y with
    | i m =>
      obtain ⟨t', rfl⟩ := hy
      refine (mixKind P w).eqBool (a := .inl n) (b := .inl m) (keyIs_int n t) (keyIs_int m t') ?_
      have e : decide ((Sum.inl n : Key) = Sum.inl m) = decide (MK.i n = MK.i m) := by simp
      rw [e]; exact q
    | t ks =>
      obtain ⟨ok, a, rfl, o, items, z, h1, h2, h3, h4⟩ := hy
      refine SeqAt.eqBoolOverData P w A E s _ _ (.int n) (.tuple (ks.map kData)) [] [] Q (.int n t) (.tuple h1 h2 h3 (reads_parts h4)) (by simp [PyData.canLay0]) (by simpa [PyData.canLay0] using lay_parts ok) (by simp [PyData.depth]; omega) ?_
      have e : PyData.eqv (.int n) (.tuple (ks.map kData)) = decide (MK.i n = MK.t ks) := by simp [PyData.eqv]
      rw [e]; exact q
  | t ks =>
    obtain ⟨ok, a, rfl, o, items, z, h1, h2, h3, h4⟩ := hx
    cases y with
    | i m =>
      obtain ⟨t', rfl⟩ := hy
      refine SeqAt.eqBoolOverData P w A E s _ _ (.tuple (ks.map kData)) (.int m) [] [] Q (.tuple h1 h2 h3 (reads_parts h4)) (.int m t') (by simpa [PyData.canLay0] using lay_parts ok) (by simp [PyData.canLay0]) (by simp [PyData.depth]; omega) ?_
      have e : PyData.eqv (.tuple (ks.map kData)) (.int m) = decide (MK.t ks = MK.i m) := by simp [PyData.eqv]
      rw [e]; exact q
    | t js =>
      obtain ⟨_, b, rfl, r⟩ := hy
      refine (tupleKind (mixKind P w)).eqBool (x := ks) (y := js) (show A.units < cLine by omega) ⟨o, items, z, h1, h2, h3, h4⟩ r ?_
      have e : decide (ks = js) = decide (MK.t ks = MK.t js) := by simp
      rw [e]; exact q
end MD
set_option Elab.async false
set_option linter.all false
set_option maxRecDepth 100000
set_option maxHeartbeats 4000000
namespace MD
open PySem PySem.Spec PyProof.Rows L2
section
variable {P : Program} {w : World} {A : Around} {E : Value → Shared → Prop} {s : Shared}
/-- an entry: its key, the key as a value, the value -/
abbrev Ent := MK × Value × Value
def ent (P : Program) (w : World) (x : Ent) : DictEntry := ⟨MK.hash P w x.1, x.2.1, x.2.2⟩
theorem quietly {key : Value} {k : MK} {stored : List Value} {Q : Bool → Shared → Prop} (hk : MK.is P w s.heap k key) (hs : ∀ v ∈ stored, ∃ j, MK.is P w s.heap j v) (q : Q false s) : wpAny (model P w) A (tableMayTell key stored) Q E s := by
  unfold tableMayTell
  by_cases he : stored.isEmpty = true
  · rw [if_pos he]; exact wpAny_pure q
  rw [if_neg he]
  refine wpAny_bind (is_quiet hk ?_)
  rw [if_neg (by simp)]
  refine wpAny_bind ?_
  refine wpAny_forIn_list _ (fun rest r s' => s' = s ∧ r = (none, ()) ∧ ∀ v ∈ rest, v ∈ stored) _ ?_ ?_ _ _ ⟨rfl, rfl, fun v hv => hv⟩
  · rintro x rest r s' ⟨rfl, rfl, hr⟩
    obtain ⟨j, hj⟩ := hs x (hr x (by simp))
    refine wpAny_bind (is_quiet hj ?_)
    rw [if_neg (by simp)]
    exact wpAny_pure ⟨rfl, rfl, fun v hv => hr v (by simp [hv])⟩
  · rintro r s' ⟨rfl, rfl, _⟩
    exact wpAny_pure q
theorem ent_at {es : Array DictEntry} {xs : List Ent} (he : es.toList = xs.map (ent P w)) (i : Nat) : es[i]? = xs[i]?.map (ent P w) := by
  rw [← Array.getElem?_toList, he, List.getElem?_map]
theorem same_place {xs : List Ent} (hn : (xs.map (·.1)).Nodup) {i j : Nat} {x y : Ent} (hi : xs[i]? = some x) (hj : xs[j]? = some y) (e : x.1 = y.1) : i = j := by
  have a : (xs.map (·.1))[i]? = some x.1 := by rw [List.getElem?_map, hi]; rfl
  have b : (xs.map (·.1))[j]? = some x.1 := by rw [List.getElem?_map, hj, e]; rfl
  exact (List.getElem?_inj (List.getElem?_eq_some_iff.mp a).1 hn).mp (a.trans b.symm)
/-- what the search knows: the places still to see -/
def Seen (P : Program) (w : World) (xs : List Ent) (k : MK) (rest : List Nat) : Prop :=
  rest.Nodup ∧ (∀ i ∈ rest, ∃ x, xs[i]? = some x ∧ MK.hash P w x.1 = MK.hash P w k)
theorem seen_start {es : Array DictEntry} {xs : List Ent} (he : es.toList = xs.map (ent P w)) (k : MK) : Seen P w xs k (placesWithHash es.size (fun i => es[i]?.map (·.hash)) (MK.hash P w k)) ∧ ∀ (j : Nat) (x : Ent), xs[j]? = some x → x.1 = k → j ∈ placesWithHash es.size (fun i => es[i]?.map (·.hash)) (MK.hash P w k) := by
  have hz : es.size = xs.length := by rw [← Array.length_toList, he, List.length_map]
  unfold placesWithHash
  refine ⟨⟨List.nodup_range.filter _, fun i hi => ?_⟩, fun j x hj e => ?_⟩
  · obtain ⟨h1, h2⟩ := List.mem_filter.mp hi
    have hlt : i < xs.length := by rw [← hz]; exact List.mem_range.mp h1
    refine ⟨xs[i], List.getElem?_eq_getElem hlt, ?_⟩
    have h3 : (es[i]?.map (·.hash) == some (MK.hash P w k)) = true := h2
    rw [ent_at he, List.getElem?_eq_getElem hlt] at h3
    simpa [ent] using h3
  · have hlt := (List.getElem?_eq_some_iff.mp hj).1
    refine List.mem_filter.mpr ⟨List.mem_range.mpr (by omega), ?_⟩
    show (es[j]?.map (·.hash) == some (MK.hash P w k)) = true
    rw [ent_at he, hj]
    simp [ent, e]
theorem find_mk {d : Addr} {key : Value} {o : Obj} {es : Array DictEntry} {ep : Nat} {xs : List Ent} {k : MK} {Q : Option Nat → Shared → Prop} (hu : A.units + 2 < cLine) (hkey : MK.is P w s.heap k key)
    (ho : s.heap.get? d = some o) (hd : o.data = .dict es ep) (he : es.toList = xs.map (ent P w)) (his : ∀ x ∈ xs, MK.is P w s.heap x.1 x.2.1) (hn : (xs.map (·.1)).Nodup)
    (hnone : (∀ (j : Nat) (x : Ent), xs[j]? = some x → x.1 ≠ k) → Q none s) (hsome : ∀ (j : Nat) (x : Ent), xs[j]? = some x → x.1 = k → Q (some j) s) : wpAny (model P w) A (dictFind d key (MK.hash P w k)) Q E s := by
  obtain ⟨hs0, hall⟩ := seen_start he k
  generalize hpl : placesWithHash es.size (fun i => es[i]?.map (·.hash)) (MK.hash P w k) = places at hs0 hall
  -- the keys that are stored under this hash
  have hst : ∀ v ∈ places.filterMap (fun i => es[i]?.map (·.key)), ∃ j, MK.is P w s.heap j v := by
    intro v hv
    obtain ⟨i, hi, e⟩ := List.mem_filterMap.mp hv
    obtain ⟨x, hx, _⟩ := hs0.2 i hi
    rw [ent_at he, hx] at e
    simp only [ent, Option.map_some, Option.some.injEq] at e
    subst e
    exact ⟨_, his x (List.mem_of_getElem? hx)⟩
  have key_cases : (∃ n t, key = .int n t) ∨ ∃ a, key = .ref a := by
    cases k with
    | i n => obtain ⟨t, e⟩ := hkey; exact .inl ⟨n, t, e⟩
    | t ks => obtain ⟨_, a, e, _⟩ := hkey; exact .inr ⟨a, e⟩
  -- what holds along the walk
  let I : List Nat → Option (Option Nat) × Option Nat → Shared → Prop := fun rest b s' => s' = s ∧ b.1 = none ∧ (∀ i ∈ rest, i ∈ places) ∧ rest.Nodup ∧
    ((b.2 = none ∧ ∀ (j : Nat) (x : Ent), xs[j]? = some x → x.1 = k → j ∈ rest) ∨ ∃ (j : Nat) (x : Ent), b.2 = some j ∧ xs[j]? = some x ∧ x.1 = k ∧ j ∉ rest)
  have I0 : I places (none, none) s := ⟨rfl, rfl, fun i hi => hi, hs0.1, .inl ⟨rfl, hall⟩⟩
  have fin : ∀ (b : Option (Option Nat) × Option Nat) (s' : Shared), I [] b s' → b.1 = none ∧ Q b.2 s' := by
    rintro ⟨b1, b2⟩ s' ⟨rfl, e1, _, _, h⟩
    refine ⟨e1, ?_⟩
    rcases h with ⟨e2, h⟩ | ⟨j, x, e2, hj, hx, _⟩
    · simp only at e2
      subst e2
      exact hnone fun j x hj hx => by cases h j x hj hx
    · simp only at e2
      subst e2
      exact hsome j x hj hx
  have step : ∀ (i : Nat) (rest : List Nat) (b : Option (Option Nat) × Option Nat) (s' : Shared), I (i :: rest) b s' → s' = s ∧ b.1 = none ∧ ∃ x : Ent, xs[i]? = some x ∧ es[i]? = some ⟨MK.hash P w k, x.2.1, x.2.2⟩ ∧ MK.is P w s.heap x.1 x.2.1 ∧
      (x.1 ≠ k → I rest (none, b.2) s) ∧ (x.1 = k → b.2 = none ∧ I rest (none, some i) s) := by
    rintro i rest ⟨b1, b2⟩ s' ⟨rfl, e1, hin, hnd, h⟩
    simp only at e1
    subst e1
    obtain ⟨x, hx, hh⟩ := hs0.2 i (hin i (by simp))
    have hnd' := List.nodup_cons.mp hnd
    refine ⟨rfl, rfl, x, hx, by rw [ent_at he, hx]; simp [ent, hh], his x (List.mem_of_getElem? hx), fun hne => ?_, fun hk => ?_⟩
    · refine ⟨rfl, rfl, fun j hj => hin j (by simp [hj]), hnd'.2, ?_⟩
      rcases h with ⟨e2, h⟩ | ⟨j, y, e2, hj, hy, hnot⟩
      · refine .inl ⟨e2, fun j y hj hy => ?_⟩
        rcases List.mem_cons.mp (h j y hj hy) with rfl | hr
        · rw [hx] at hj; cases hj; exact absurd hy hne
        · exact hr
      · exact .inr ⟨j, y, e2, hj, hy, fun hr => hnot (by simp [hr])⟩
    · rcases h with ⟨e2, _⟩ | ⟨j, y, _, hj, hy, hnot⟩
      · exact ⟨e2, rfl, rfl, fun j hj => hin j (by simp [hj]), hnd'.2, .inr ⟨i, x, rfl, hx, hk, hnd'.1⟩⟩
      · have := same_place hn hj hx (hy.trans hk.symm)
        subst this
        exact absurd (by simp) hnot
  rcases key_cases with ⟨n, t, rfl⟩ | ⟨a, rfl⟩
  · unfold dictFind
    try with_reducible refine wpAny_holding ?_
    refine wpAny_bind (wpAny_dictEntries ho hd ?_)
    dsimp only
    rw [hpl]
    by_cases hcv : (Value.int n t :: List.filterMap (fun i => Option.map (fun x => x.key) es[i]?) places).all carriedByValue = true
    · rw [if_pos hcv]
      unfold dictWalkPlain
      refine wpAny_bind ?_
      refine wpAny_forIn_list _ (fun rest b s' => b.1 = none ∧ I rest (none, none) s') _ ?_ ?_ _ _ ⟨rfl, I0⟩
      · rintro i rest b s' ⟨eb, h⟩
        obtain ⟨rfl, _, x, hx, hex, hix, k1, k2⟩ := step i rest _ s' h
        rw [hex]
        dsimp only
        rw [if_pos (by simp)]
        refine wpAny_bind (wpAny_dictEpoch ho hd (wpAny_bind (is_eq hu hix hkey (wpAny_bind (wpAny_dictEpoch ho hd ?_)))))
        rw [if_neg (by simp)]
        by_cases hk : x.1 = k
        · rw [decide_eq_true hk, if_pos rfl]
          refine wpAny_bind (wpAny_rule ?_)
          exact wpAny_pure (wpAny_pure (hsome i x hx hk))
        · rw [decide_eq_false hk, if_neg (by simp)]
          refine wpAny_bind (wpAny_rule ?_)
          exact wpAny_pure ⟨rfl, k1 hk⟩
      · rintro ⟨b1, b2⟩ s' ⟨eb, h⟩
        simp only at eb
        subst eb
        exact wpAny_pure (fin (none, none) s' h).2
    · rw [if_neg hcv]
      by_cases hone : (List.filterMap (fun i => Option.map (fun x => x.key) es[i]?) places == [Value.int n t]) = true
      · rw [if_pos hone]
        refine wpAny_bind (wpAny_pure ?_)
        rw [if_neg (by simp)]
        refine wpAny_bind ?_
        refine wpAny_forIn_list _ I _ ?_ (fun b s' h => ?_) _ _ I0
        rotate_left
        · obtain ⟨e1, q⟩ := fin b s' h
          obtain ⟨b1, b2⟩ := b
          simp only at e1
          subst e1
          exact wpAny_pure q
        rintro i rest b s' h
        obtain ⟨rfl, eb, x, hx, hex, hix, k1, k2⟩ := step i rest b s' h
        rw [hex]
        dsimp only
        rw [if_pos (by simp)]
        refine wpAny_bind (wpAny_dictEpoch ho hd (wpAny_bind (is_eq hu hix hkey (wpAny_bind (wpAny_dictEpoch ho hd ?_)))))
        rw [if_neg (by simp)]
        by_cases hk : x.1 = k
        · rw [decide_eq_true hk, if_pos rfl, if_neg (by rw [(k2 hk).1]; simp)]
          refine wpAny_bind (wpAny_rule ?_)
          split
          · exact wpAny_pure (wpAny_pure (hsome i x hx hk))
          · exact wpAny_pure (k2 hk).2
        · rw [decide_eq_false hk, if_neg (by simp)]
          refine wpAny_bind (wpAny_rule ?_)
          rw [if_neg (by simp)]
          exact wpAny_pure (k1 hk)
      · rw [if_neg hone]
        refine wpAny_bind (quietly hkey hst ?_)
        rw [if_neg (by simp)]
        refine wpAny_bind ?_
        refine wpAny_forIn_list _ I _ ?_ (fun b s' h => ?_) _ _ I0
        rotate_left
        · obtain ⟨e1, q⟩ := fin b s' h
          obtain ⟨b1, b2⟩ := b
          simp only at e1
          subst e1
          exact wpAny_pure q
        rintro i rest b s' h
        obtain ⟨rfl, eb, x, hx, hex, hix, k1, k2⟩ := step i rest b s' h
        rw [hex]
        dsimp only
        rw [if_pos (by simp)]
        refine wpAny_bind (wpAny_dictEpoch ho hd (wpAny_bind (is_eq hu hix hkey (wpAny_bind (wpAny_dictEpoch ho hd ?_)))))
        rw [if_neg (by simp)]
        by_cases hk : x.1 = k
        · rw [decide_eq_true hk, if_pos rfl, if_neg (by rw [(k2 hk).1]; simp)]
          refine wpAny_bind (wpAny_rule ?_)
          split
          · exact wpAny_pure (wpAny_pure (hsome i x hx hk))
          · exact wpAny_pure (k2 hk).2
        · rw [decide_eq_false hk, if_neg (by simp)]
          refine wpAny_bind (wpAny_rule ?_)
          rw [if_neg (by simp)]
          exact wpAny_pure (k1 hk)
  · unfold dictFind
    try with_reducible refine wpAny_holding ?_
    refine wpAny_bind (wpAny_dictEntries ho hd ?_)
    dsimp only
    rw [hpl]
    rw [if_neg (show ¬ ((Value.ref a :: List.filterMap (fun i => Option.map (fun x => x.key) es[i]?) places).all carriedByValue = true) by simp [carriedByValue])]
    have noOld : ¬ ((es.any fun e => e.key == Value.ref a && e.hash != MK.hash P w k) = true) := by
      rw [← Array.any_toList, List.any_eq_true, he]
      rintro ⟨e, hin, hc⟩
      obtain ⟨x, hx, rfl⟩ := List.mem_map.mp hin
      simp only [ent, Bool.and_eq_true, beq_iff_eq, bne_iff_ne, ne_eq] at hc
      have h2 := his x hx
      rw [hc.1] at h2
      exact hc.2 (by rw [is_inj h2 hkey])
    rw [if_neg noOld]
    by_cases hone : (List.filterMap (fun i => Option.map (fun x => x.key) es[i]?) places == [Value.ref a]) = true
    · rw [if_pos hone]
      refine wpAny_bind (wpAny_pure ?_)
      rw [if_neg (by simp)]
      refine wpAny_bind ?_
      refine wpAny_forIn_list _ I _ ?_ (fun b s' h => ?_) _ _ I0
      rotate_left
      · obtain ⟨e1, q⟩ := fin b s' h
        obtain ⟨b1, b2⟩ := b
        simp only at e1
        subst e1
        exact wpAny_pure q
      rintro i rest b s' h
      obtain ⟨rfl, eb, x, hx, hex, hix, k1, k2⟩ := step i rest b s' h
      rw [hex]
      dsimp only
      rw [if_pos (by simp)]
      refine wpAny_bind (wpAny_dictEpoch ho hd (wpAny_bind (is_eq hu hix hkey (wpAny_bind (wpAny_dictEpoch ho hd ?_)))))
      rw [if_neg (by simp)]
      by_cases hk : x.1 = k
      · rw [decide_eq_true hk, if_pos rfl, if_neg (by rw [(k2 hk).1]; simp)]
        refine wpAny_bind (wpAny_rule ?_)
        split
        · exact wpAny_pure (wpAny_pure (hsome i x hx hk))
        · exact wpAny_pure (k2 hk).2
      · rw [decide_eq_false hk, if_neg (by simp)]
        refine wpAny_bind (wpAny_rule ?_)
        rw [if_neg (by simp)]
        exact wpAny_pure (k1 hk)
    · rw [if_neg hone]
      refine wpAny_bind (quietly hkey hst ?_)
      rw [if_neg (by simp)]
      refine wpAny_bind ?_
      refine wpAny_forIn_list _ I _ ?_ (fun b s' h => ?_) _ _ I0
      rotate_left
      · obtain ⟨e1, q⟩ := fin b s' h
        obtain ⟨b1, b2⟩ := b
        simp only at e1
        subst e1
        exact wpAny_pure q
      rintro i rest b s' h
      obtain ⟨rfl, eb, x, hx, hex, hix, k1, k2⟩ := step i rest b s' h
      rw [hex]
      dsimp only
      rw [if_pos (by simp)]
      refine wpAny_bind (wpAny_dictEpoch ho hd (wpAny_bind (is_eq hu hix hkey (wpAny_bind (wpAny_dictEpoch ho hd ?_)))))
      rw [if_neg (by simp)]
      by_cases hk : x.1 = k
      · rw [decide_eq_true hk, if_pos rfl, if_neg (by rw [(k2 hk).1]; simp)]
        refine wpAny_bind (wpAny_rule ?_)
        split
        · exact wpAny_pure (wpAny_pure (hsome i x hx hk))
        · exact wpAny_pure (k2 hk).2
      · rw [decide_eq_false hk, if_neg (by simp)]
        refine wpAny_bind (wpAny_rule ?_)
        rw [if_neg (by simp)]
        exact wpAny_pure (k1 hk)
end
end MD
set_option Elab.async false
set_option linter.all false
set_option maxRecDepth 100000
set_option maxHeartbeats 4000000
namespace MD
open PySem PySem.Spec PyProof.Rows L2
section
variable {P : Program} {w : World} {A : Around} {E : Value → Shared → Prop} {s : Shared} {d : Addr} {key v : Value} {k : MK} {xs : List Ent}
def MDict (P : Program) (w : World) (h : Heap) (d : Addr) (xs : List Ent) : Prop := ∃ o es ep, h.get? d = some o ∧ o.ExactDict ∧ o.data = .dict es ep ∧ es.toList = xs.map (ent P w)
def getM (xs : List Ent) (k : MK) : Option Value := (xs.find? fun x => decide (x.1 = k)).map (·.2.2)
def setM (xs : List Ent) (k : MK) (key v : Value) : List Ent := if (getM xs k).isSome = true then xs.map fun x => if x.1 = k then (x.1, x.2.1, v) else x else xs ++ [(k, key, v)]
theorem MDict.typeIs {xs : List Ent} (m : MDict P w s.heap d xs) : s.TypeIs (.ref d) "dict" := let ⟨o, _, _, h1, h2, _⟩ := m; ⟨o, h1, h2.1⟩
theorem getM_at (hn : (xs.map (·.1)).Nodup) {j : Nat} {x : Ent} (hj : xs[j]? = some x) (e : x.1 = k) : getM xs k = some x.2.2 := by
  unfold getM
  cases q : xs.find? fun x => decide (x.1 = k) with
  | none =>
    have := List.find?_eq_none.mp q x (List.mem_of_getElem? hj)
    simp [e] at this
  | some y =>
    have h1 := List.mem_of_find?_eq_some q
    have h2 : y.1 = k := by have := List.find?_some q; simpa using this
    obtain ⟨i, hi⟩ := List.mem_iff_getElem?.mp h1
    have := same_place hn hi hj (h2.trans e.symm)
    subst this
    rw [hi] at hj
    cases hj
    rfl
theorem getM_none (h : ∀ (j : Nat) (x : Ent), xs[j]? = some x → x.1 ≠ k) : getM xs k = none := by
  unfold getM
  rw [List.find?_eq_none.mpr fun x hx z => ?_]
  · rfl
  · obtain ⟨i, hi⟩ := List.mem_iff_getElem?.mp hx
    exact h i x hi (of_decide_eq_true z)
theorem get_mk {Q : Option Value → Shared → Prop} (hu : A.units + 2 < cLine) (hkey : MK.is P w s.heap k key) (m : MDict P w s.heap d xs) (his : ∀ x ∈ xs, MK.is P w s.heap x.1 x.2.1) (hn : (xs.map (·.1)).Nodup)
    (q : Q (getM xs k) { s with toks := s.toks + k.draws }) : wpAny (model P w) A (dictGet d key) Q E s := by
  obtain ⟨o, es, ep, ho, _, hd, he⟩ := m
  unfold dictGet
  try with_reducible refine wpAny_holding ?_
  refine wpAny_bind (is_hash (by omega) hkey (wpAny_bind (find_mk (s := { s with toks := s.toks + k.draws }) hu hkey ho hd he his hn ?_ ?_)))
  · intro hno
    rw [getM_none hno] at q
    exact wpAny_pure q
  · intro j x hj hx
    rw [getM_at hn hj hx] at q
    refine wpAny_bind (wpAny_dictEntries (s := { s with toks := s.toks + k.draws }) ho hd ?_)
    rw [ent_at he, hj]
    exact wpAny_pure q
theorem keys_setM : ((setM xs k key v).map (·.1)) = if (getM xs k).isSome = true then xs.map (·.1) else xs.map (·.1) ++ [k] := by
  unfold setM
  split
  · rw [List.map_map]
    apply List.map_congr_left
    intro x _
    simp only [Function.comp]
    split <;> rfl
  · simp
theorem nodup_setM (hn : (xs.map (·.1)).Nodup) : ((setM xs k key v).map (·.1)).Nodup := by
  rw [keys_setM]
  split
  · exact hn
  · rename_i h
    rw [List.nodup_append]
    refine ⟨hn, by simp, fun a ha b hb z => ?_⟩
    simp at hb
    subst hb; subst z
    obtain ⟨x, hx, e⟩ := List.mem_map.mp ha
    obtain ⟨i, hi⟩ := List.mem_iff_getElem?.mp hx
    exact h (by rw [getM_at hn hi e]; rfl)
theorem modify_setM (hn : (xs.map (·.1)).Nodup) {j : Nat} {x : Ent} (hj : xs[j]? = some x) (e : x.1 = k) : (xs.map (ent P w)).modify j (fun g => { g with val := v }) = (setM xs k key v).map (ent P w) := by
  have hs : setM xs k key v = xs.map fun x => if x.1 = k then (x.1, x.2.1, v) else x := by unfold setM; rw [getM_at hn hj e]; rfl
  rw [hs]
  apply List.ext_getElem?
  intro i
  rw [List.getElem?_modify, List.getElem?_map, List.getElem?_map, List.getElem?_map]
  cases q : xs[i]? with
  | none => simp
  | some y =>
    by_cases hij : j = i
    · subst hij
      rw [hj] at q
      cases q
      simp [ent, e]
    · have : ¬ y.1 = k := fun z => hij (same_place hn hj q (e.trans z.symm))
      simp [hij, this]
theorem is_same {k : MK} {key : Value} {h h' : Heap} {d : Addr} {o : Obj} {es : Array DictEntry} {ep : Nat} (hk : MK.is P w h k key) (ho : h.get? d = some o) (hd : o.data = .dict es ep) (hs : Heap.SameBut d h h') : MK.is P w h' k key := by
  cases k with
  | i n => exact hk
  | t ks => obtain ⟨ok, a, e, r⟩ := hk; exact ⟨ok, a, e, (tupleKind (mixKind P w)).keeps (k := ks) r ho hd hs⟩
theorem set_mk {Q : Unit → Shared → Prop} (hu : A.units + 2 < cLine) (hkey : MK.is P w s.heap k key) (m : MDict P w s.heap d xs) (his : ∀ x ∈ xs, MK.is P w s.heap x.1 x.2.1) (hn : (xs.map (·.1)).Nodup) (hz : xs.length ≤ sizeLine)
    (q : ∀ h', MDict P w h' d (setM xs k key v) → Heap.SameBut d s.heap h' → Q () { s with heap := h', toks := s.toks + k.draws }) : wpAny (model P w) A (dictSet d key v) Q E s := by
  obtain ⟨o, es, ep, ho, hc, hd, he⟩ := m
  have hsz : es.size = xs.length := by rw [← Array.length_toList, he, List.length_map]
  unfold dictSet
  try with_reducible refine wpAny_holding ?_
  refine wpAny_bind (is_hash (by omega) hkey ?_)
  unfold dictSetHashed
  try with_reducible refine wpAny_holding ?_
  refine wpAny_bind (find_mk (s := { s with toks := s.toks + k.draws }) hu hkey ho hd he his hn ?_ ?_)
  · intro hno
    refine wpAny_bind (wpAny_rule (wpAny_updateDictKeys (hz := by omega) (s := { s with toks := s.toks + k.draws }) ho hd (q _ ⟨_, _, ep + 1, Heap.get?_update_self _ ho (Obj.isFreed_of_dict (Obj.data_mapDictKeys hd _)), hc.mapDictKeys _, Obj.data_mapDictKeys hd _, ?_⟩ (Heap.SameBut.update ..))))
    unfold setM
    rw [getM_none hno]
    simp [he, ent]
  · intro j x hj hx
    refine wpAny_bind (wpAny_rule (wpAny_bind (wpAny_updateDict (s := { s with toks := s.toks + k.draws }) ho hd (wpAny_point (q _ ⟨_, _, ep, Heap.get?_update_self _ ho (Obj.isFreed_of_dict (Obj.data_mapDict hd _)), hc.mapDict _, Obj.data_mapDict hd _, ?_⟩ (Heap.SameBut.update ..))))))
    rw [← modify_setM hn hj hx, ← he]
    obtain ⟨l⟩ := es
    simp
end
end MD
set_option Elab.async false
set_option linter.all false
set_option maxRecDepth 100000
set_option maxHeartbeats 4000000
namespace MD
open PySem PySem.Spec PyProof.Rows L2
section
variable {P : Program} {w : World} {A : Around} {E : Value → Shared → Prop} {s : Shared} {d : Addr} {key v : Value} {k : MK} {xs : List Ent}
/-- a dict at d, its keys -/
structure MAt (P : Program) (w : World) (h : Heap) (d : Addr) (xs : List Ent) : Prop where
  sys : (d == sysModules) = false
  dict : MDict P w h d xs
  keys : ∀ x ∈ xs, MK.is P w h x.1 x.2.1
  nd : (xs.map (·.1)).Nodup
  len : xs.length ≤ sizeLine
theorem MAt.typeIs (m : MAt P w s.heap d xs) : s.TypeIs (.ref d) "dict" := m.dict.typeIs
theorem MAt.get {Q : Option Value → Shared → Prop} (hu : A.units + 2 < cLine) (hkey : MK.is P w s.heap k key) (m : MAt P w s.heap d xs) (q : Q (getM xs k) { s with toks := s.toks + k.draws }) : wpAny (model P w) A (dictGet d key) Q E s := get_mk hu hkey m.dict m.keys m.nd q
theorem told_in {Q : Value → Shared → Prop} (hu : A.in1.units + 2 < cLine) (hkey : MK.is P w s.heap k key) (m : MAt P w s.heap d xs) {f : Bool → Bool} {T : Bool → Sem Value} (hT : ∀ (b : Bool) (s' : Shared), Q (.bool (f b)) s' → wpAny (model P w) A (T b) Q E s')
    (q : Q (.bool (f (getM xs k).isSome)) { s with toks := s.toks + k.draws }) : wpAny (model P w) A (contains (.ref d) key >>= T) Q E s := by
  refine wpAny_bind ?_
  unfold contains; try with_reducible refine wpAny_holding ?_
  refine wpAny_bind (wpAny_specialOf m.typeIs PySem.F.slot_dict_contains.lookup ?_)
  rw [show (some (Value.builtin "dict.__contains__") == some Value.none) = false from beq_builtin_none _]
  show wpAny (model P w) _ (if false = true then _ else _) _ E s; rw [if_neg Bool.false_ne_true]
  refine wpAny_bind (wpAny_callSpecialUnlessNone?_slot (name := Str.ofString "__contains__") m.typeIs PySem.F.slot_dict_contains (wpAny_call_entry PySem.F.slot_dict_contains m.typeIs PySem.F.entry_dict_contains ?_ (PySem.args_dict_contains _ _)))
  show wpAny (model P w) _ (dictGet d key >>= _) _ _ s
  refine wpAny_bind (m.get hu hkey ?_)
  cases hf : getM xs k with
  | some p =>
    rw [hf] at q
    show wpAny (model P w) _ (ret (.bool true)) _ _ _
    exact wpAny_pure ⟨_, rfl, wpAny_truthy_bool (hT true _ q)⟩
  | none =>
    rw [hf] at q
    show wpAny (model P w) _ (Builtin.Dict.pendingKey? d key >>= _) _ _ _
    exact wpAny_bind (wpAny_pendingKey_other m.sys (wpAny_pure ⟨_, rfl, wpAny_truthy_bool (hT false _ q)⟩))
theorem in_mk {Q : Value → Shared → Prop} (hu : A.in1.units + 2 < cLine) (hkey : MK.is P w s.heap k key) (m : MAt P w s.heap d xs) (q : Q (.bool (getM xs k).isSome) { s with toks := s.toks + k.draws }) : wpAny (model P w) A (compareOp .In key (.ref d)) Q E s :=
  told_in (f := id) (T := fun b => pure (.bool b)) hu hkey m (fun b s' q => wpAny_pure q) q
theorem notIn_mk {Q : Value → Shared → Prop} (hu : A.in1.units + 2 < cLine) (hkey : MK.is P w s.heap k key) (m : MAt P w s.heap d xs) (q : Q (.bool (!(getM xs k).isSome)) { s with toks := s.toks + k.draws }) : wpAny (model P w) A (compareOp .NotIn key (.ref d)) Q E s :=
  told_in (f := not) (T := fun b => pure (.bool (!b))) hu hkey m (fun b s' q => wpAny_pure q) q
theorem getItem_mk {Q : Value → Shared → Prop} (hu : A.in1.units + 2 < cLine) (hkey : MK.is P w s.heap k key) (m : MAt P w s.heap d xs) (hv : getM xs k = some v) (q : Q v { s with toks := s.toks + k.draws }) : wpAny (model P w) A (getItem (.ref d) key) Q E s := by
  unfold getItem; try with_reducible refine wpAny_holding ?_
  refine wpAny_bind (wpAny_sequenceKey m.typeIs (by decide) (wpAny_bind (wpAny_callSpecial?_slot (name := Str.ofString "__getitem__") m.typeIs PySem.F.slot_dict_getitem (wpAny_call_entry PySem.F.slot_dict_getitem m.typeIs PySem.F.entry_dict_getitem ?_ (PySem.args_dict_getitem _ _)))))
  show wpAny (model P w) _ (dictGet d key >>= _) _ _ s
  refine wpAny_bind (m.get hu hkey ?_)
  rw [hv]; exact wpAny_pure ⟨v, rfl, wpAny_pure q⟩
theorem setItem_mk {Q : Unit → Shared → Prop} (hu : A.in1.units + 2 < cLine) (hkey : MK.is P w s.heap k key) (m : MAt P w s.heap d xs) (q : ∀ h', MDict P w h' d (setM xs k key v) → Heap.SameBut d s.heap h' → Q () { s with heap := h', toks := s.toks + k.draws }) : wpAny (model P w) A (setItem (.ref d) key v) Q E s := by
  unfold setItem; try with_reducible refine wpAny_holding ?_
  refine wpAny_bind (wpAny_sequenceKey m.typeIs (by decide) (wpAny_bind (wpAny_callSpecial?_slot (name := Str.ofString "__setitem__") m.typeIs PySem.F.slot_dict_setitem (wpAny_call_entry PySem.F.slot_dict_setitem m.typeIs PySem.F.entry_dict_setitem ?_ (PySem.args_dict_setitem _ _ _)))))
  show wpAny (model P w) _ (Builtin.Dict.notOrdered "__setitem__" ⟨[.ref d, key, v], []⟩ >>= _) _ _ s
  refine wpAny_bind (wpAny_notOrdered_dict m.typeIs ?_)
  show wpAny (model P w) _ (dictSet d key v >>= _) _ _ s
  exact wpAny_bind (set_mk hu hkey m.dict m.keys m.nd m.len fun h' m' hs => wpAny_pure ⟨.none, rfl, wpAny_pure (q h' m' hs)⟩)
/-- d.get(key, x) -/
theorem get2_meets {dflt : Value} (hd : (d == sysModules) = false) : MeetsIn P w (Builtin.«dict.get» ⟨[.ref d, key, dflt], []⟩) (fun A R s => A.in1.units + 2 < cLine ∧ ∃ k xs, MK.is P w s.heap k key ∧ MAt P w s.heap d xs ∧ R (.ok (.ret ((getM xs k).getD dflt))) { s with toks := s.toks + k.draws }) :=
  .of_wp fun A R s ⟨hu, k, xs, hkey, m, q⟩ => by
    show wpAny (model P w) _ (dictGet d key >>= _) _ _ s
    refine wpAny_bind (m.get hu hkey ?_)
    cases hf : getM xs k with
    | some p => rw [hf] at q; exact wpAny_pure ⟨p, rfl, q⟩
    | none =>
      rw [hf] at q
      show wpAny (model P w) _ (Builtin.Dict.missed d key >>= _) _ _ _
      exact wpAny_bind (wpAny_missed_other hd (wpAny_pure ⟨dflt, rfl, q⟩))
theorem get2_mk {dflt : Value} {Q : Value → Shared → Prop} (hu : A.in1.units + 2 < cLine) (hkey : MK.is P w s.heap k key) (m : MAt P w s.heap d xs) (q : Q ((getM xs k).getD dflt) { s with toks := s.toks + k.draws }) : wpAny (model P w) A (call (.builtin "dict.get") [.ref d, key, dflt]) Q E s :=
  call_meetsIn PySem.F.slot_dict_get m.typeIs PySem.F.entry_dict_get (PySem.F.args_dict_get_3 _ _ _) (get2_meets m.sys) ⟨hu, k, xs, hkey, m, q⟩
/-- d.setdefault(key, x) -/
theorem sdflt_mk {Q : Value → Shared → Prop} {dflt : Value} (hu : A.units + 2 < cLine) (hkey : MK.is P w s.heap k key) (m : MAt P w s.heap d xs) (q1 : ∀ p, getM xs k = some p → Q p { s with toks := s.toks + k.draws })
    (q2 : getM xs k = none → ∀ h', MDict P w h' d (setM xs k key dflt) → Heap.SameBut d s.heap h' → Q dflt { s with heap := h', toks := s.toks + k.draws }) : wpAny (model P w) A (dictSetDefault d key dflt) Q E s := by
  obtain ⟨o, es, ep, ho, hc, hd, he⟩ := m.dict
  have hsz : es.size = xs.length := by rw [← Array.length_toList, he, List.length_map]
  have hl := m.len
  unfold dictSetDefault; try with_reducible refine wpAny_holding ?_
  refine wpAny_bind (is_hash (by omega) hkey (wpAny_bind (find_mk (s := { s with toks := s.toks + k.draws }) hu hkey ho hd he m.keys m.nd ?_ ?_)))
  · intro hno
    refine wpAny_bind (wpAny_rule (wpAny_bind (wpAny_updateDictKeys (hz := by omega) (s := { s with toks := s.toks + k.draws }) ho hd (wpAny_pure (q2 (getM_none hno) _ ⟨_, _, ep + 1, Heap.get?_update_self _ ho (Obj.isFreed_of_dict (Obj.data_mapDictKeys hd _)), hc.mapDictKeys _, Obj.data_mapDictKeys hd _, ?_⟩ (Heap.SameBut.update ..))))))
    unfold setM; rw [getM_none hno]; simp [he, ent]
  · intro j x hj hx
    refine wpAny_bind (wpAny_dictEntries (s := { s with toks := s.toks + k.draws }) ho hd ?_)
    rw [ent_at he, hj]
    exact wpAny_bind (wpAny_rule (wpAny_pure (q1 _ (getM_at m.nd hj hx))))
end
end MD
set_option Elab.async false
set_option linter.all false
set_option maxRecDepth 100000
set_option maxHeartbeats 4000000
namespace Mi
open PySem PySem.Spec PyProof.Rows L2
/-! ## data, cells -/
/-- built-in types -/
inductive Ky where
  | non | bl | int | str | tup | lst | dic
def Ky.nm : Ky → String
  | .non => "NoneType" | .bl => "bool" | .int => "int" | .str => "str" | .tup => "tuple" | .lst => "list" | .dic => "dict"
inductive D where
  | non | bl (b : Bool) | int (i : Int) | str (x : Str) | tup (ds : List D) | cell (n : Nat) | fn (n : Nat) | rol (ns : List Int) | ty (t : Ky)
/-- a dict with ints and tuples as keys: `dix`; while it is walked: `dxl` -/
inductive Cell where
  | lst (ds : List D)
  | dic (kvs : List (Key × D))
  | dix (kvs : List (MD.MK × D))
  | dxl (kvs : List (MD.MK × D))
/-- the defs' places, the hash of a key -/
structure Cfg where
  fn : Nat → Addr
  hash : MD.MK → Int
instance : CoeFun Cfg (fun _ => Nat → Addr) := ⟨Cfg.fn⟩
abbrev Hm := List Cell
abbrev Ev := List (Option D)
/-- a list that nobody may change -/
def SqR (K : PySem.W.Frag) (H : Hp) (a : Addr) (xs : List V) : Prop :=
  SqL K H a xs ∧ ∀ H' : Hp, (∀ b o u, H b = some (.frz o u) → H' b = some (.frz o u)) → SqL K H' a xs
section
variable (K : PySem.W.Frag) (ft : Cfg) (ρ : List Addr) (H : Hp)
mutual
inductive DV : D → V → Prop
  | non : DV .non .non
  | bl (b : Bool) : DV (.bl b) (.bl b)
  | int (i : Int) : DV (.int i) (.int i)
  | str (x : Str) : DV (.str x) (.str x)
  | tup {ds : List D} {a : Addr} {vs : List V} : SqT K H a vs → DVs ds vs → DV (.tup ds) (.ref a)
  | cell {n : Nat} {a : Addr} : ρ[n]? = some a → DV (.cell n) (.ref a)
  | fn (n : Nat) : DV (.fn n) (.ref (ft n))
  | rol {ns : List Int} {a : Addr} : SqR K H a (ns.map V.int) → DV (.rol ns) (.ref a)
  | ty (t : Ky) : DV (.ty t) (.ty t.nm)
inductive DVs : List D → List V → Prop
  | nil : DVs [] []
  | cons {d : D} {ds : List D} {v : V} {vs : List V} : DV d v → DVs ds vs → DVs (d :: ds) (v :: vs)
end
/-- a key and its value -/
def KeyV : MD.MK → V → Prop
  | .i n, v => v = .int n
  | .t ks, v => ks.all MD.partOk = true ∧ ∃ b, v = .ref b ∧ SqT K H b (ks.map kV)
/-- what stands at a: a dict with these entries -/
abbrev EV := List (MD.MK × V × V)
def mixO (hash : MD.MK → Int) (a : Addr) (es : EV) : HO := .ext fun h => (a == sysModules) = false ∧ es.length ≤ sizeLine ∧ ∃ (o : Obj) (arr : Array DictEntry) (ep : Nat), h.get? a = some o ∧ o.ExactDict ∧ o.data = .dict arr ep ∧
  Paired (fun (e : MD.MK × V × V) (g : DictEntry) => g.hash = hash e.1 ∧ RelV e.2.1 g.key ∧ RelV e.2.2 g.val) es arr.toList
/-- the entries of a cell -/
def Mix (kvs : List (MD.MK × D)) (es : EV) : Prop := (es.map (·.1)).Nodup ∧ Paired (fun (p : MD.MK × D) (e : MD.MK × V × V) => p.1 = e.1 ∧ KeyV K H e.1 e.2.1 ∧ DV K ft ρ H p.2 e.2.2) kvs es
def COk (a : Addr) : Cell → Prop
  | .lst ds => ∃ vs, H a = some (.lst vs) ∧ DVs K ft ρ H ds vs
  | .dic kvs => ∃ ws, H a = some (.dK ws) ∧ Paired (fun (p : Key × D) (q : Key × V) => p.1 = q.1 ∧ DV K ft ρ H p.2 q.2) kvs ws
  | .dix kvs => ∃ es, H a = some (mixO ft.hash a es) ∧ Mix K ft ρ H kvs es
  | .dxl kvs => ∃ es o, H a = some (.frz o (mixO ft.hash a es)) ∧ Mix K ft ρ H kvs es
def Cell.locked : Cell → Bool
  | .dxl _ => true
  | _ => false
structure Rel (C : Hm) : Prop where
  len : ρ.length = C.length
  nd : ρ.Nodup
  ok : ∀ (n : Nat) (c : Cell), C[n]? = some c → ∃ a : Addr, ρ[n]? = some a ∧ COk K ft ρ H a c
structure EnvOk (E : Ev) (σ : L2.St) : Prop where
  len : E.length = σ.length
  at_ : ∀ (i : Nat) (d : D), E[i]? = some (some d) → ∃ v : V, σ[i]? = some (some v) ∧ DV K ft ρ H d v
end
structure Stp (ρ : List Addr) (H : Hp) (ρ' : List Addr) (H' : Hp) : Prop where
  pre : ∃ t, ρ' = ρ ++ t ∧ ∀ b ∈ t, H b = none
  keep : ∀ b o, H b = some o → b ∉ ρ → H' b = some o
  there : ∀ b o, H b = some o → ∃ o', H' b = some o'
  tups : ∀ b xs, H b = some (.tup xs) → H' b = some (.tup xs)
  frzs : ∀ b o u, H b = some (.frz o u) → H' b = some (.frz o u)
section
variable {K : PySem.W.Frag} {ft : Cfg} {ρ ρ' ρ1 ρ2 : List Addr} {H H' H1 H2 : Hp} {C C' : Hm}
theorem Stp.refl : Stp ρ H ρ H := ⟨⟨[], by simp, by simp⟩, fun _ _ h _ => h, fun _ o h => ⟨o, h⟩, fun _ _ h => h, fun _ _ _ h => h⟩
theorem Stp.get (s : Stp ρ H ρ' H') {n : Nat} {a : Addr} (h : ρ[n]? = some a) : ρ'[n]? = some a := by
  obtain ⟨t, rfl, _⟩ := s.pre
  have := (List.getElem?_eq_some_iff.mp h).1
  rw [List.getElem?_append_left this]; exact h
theorem Stp.trans (s : Stp ρ H ρ1 H1) (r : Stp ρ1 H1 ρ2 H2) : Stp ρ H ρ2 H2 := by
  obtain ⟨t, rfl, ht⟩ := s.pre
  obtain ⟨u, rfl, hu⟩ := r.pre
  have fresh : ∀ b o, H b = some o → b ∉ ρ → b ∉ ρ ++ t := fun b o e hb z => by
    rcases List.mem_append.mp z with z | z
    · exact hb z
    · rw [ht b z] at e; cases e
  refine ⟨⟨t ++ u, by rw [List.append_assoc], fun b hb => ?_⟩, fun b o e hb => r.keep b o (s.keep b o e hb) (fresh b o e hb), fun b o e => ?_, fun b xs e => r.tups b xs (s.tups b xs e), fun b o u e => r.frzs b o u (s.frzs b o u e)⟩
  · rcases List.mem_append.mp hb with z | z
    · exact ht b z
    · cases q : H b with
      | none => rfl
      | some o =>
        obtain ⟨o', q'⟩ := s.there b o q
        rw [hu b z] at q'; cases q'
  · obtain ⟨o', q'⟩ := s.there b o e
    exact r.there b o' q'
/-- what data lean on -/
structure Wk (ρ : List Addr) (H : Hp) (ρ' : List Addr) (H' : Hp) : Prop where
  get : ∀ {n : Nat} {a : Addr}, ρ[n]? = some a → ρ'[n]? = some a
  tups : ∀ b xs, H b = some (.tup xs) → H' b = some (.tup xs)
  frzs : ∀ b o u, H b = some (.frz o u) → H' b = some (.frz o u)
theorem Stp.wk (s : Stp ρ H ρ' H') : Wk ρ H ρ' H' := ⟨s.get, s.tups, s.frzs⟩
theorem Wk.sqT (s : Wk ρ H ρ' H') {a : Addr} {xs : List V} (h : SqT K H a xs) : SqT K H' a xs := by
  rcases h with (h | ⟨o, h⟩) | h
  · exact .inl (.inl (s.tups _ _ h))
  · exact .inl (.inr ⟨o, s.frzs _ _ _ h⟩)
  · exact .inr h
theorem Wk.sqR (s : Wk ρ H ρ' H') {a : Addr} {xs : List V} (h : SqR K H a xs) : SqR K H' a xs :=
  ⟨h.2 H' s.frzs, fun H2 k => h.2 H2 fun b o u e => k b o u (s.frzs b o u e)⟩
mutual
theorem DV.monoW (s : Wk ρ H ρ' H') : ∀ {d : D} {v : V}, DV K ft ρ H d v → DV K ft ρ' H' d v
  | _, _, .non => .non
  | _, _, .bl b => .bl b
  | _, _, .int i => .int i
  | _, _, .str x => .str x
  | _, _, .tup h r => .tup (s.sqT h) (DVs.monoW s r)
  | _, _, .cell h => .cell (s.get h)
  | _, _, .fn n => .fn n
  | _, _, .rol h => .rol (s.sqR h)
  | _, _, .ty t => .ty t
theorem DVs.monoW (s : Wk ρ H ρ' H') : ∀ {ds : List D} {vs : List V}, DVs K ft ρ H ds vs → DVs K ft ρ' H' ds vs
  | _, _, .nil => .nil
  | _, _, .cons h t => .cons (DV.monoW s h) (DVs.monoW s t)
end
theorem DV.mono {d : D} {v : V} (h : DV K ft ρ H d v) (s : Stp ρ H ρ' H') : DV K ft ρ' H' d v := DV.monoW s.wk h
theorem DVs.mono {d : List D} {v : List V} (h : DVs K ft ρ H d v) (s : Stp ρ H ρ' H') : DVs K ft ρ' H' d v := DVs.monoW s.wk h
theorem EnvOk.mono {E : Ev} {σ : L2.St} (h : EnvOk K ft ρ H E σ) (s : Stp ρ H ρ' H') : EnvOk K ft ρ' H' E σ :=
  ⟨h.len, fun i d e => let ⟨v, a, b⟩ := h.at_ i d e; ⟨v, a, b.mono s⟩⟩
theorem DVs.length : ∀ {ds : List D} {vs : List V}, DVs K ft ρ H ds vs → ds.length = vs.length
  | _, _, .nil => rfl
  | _, _, .cons _ t => by simp [DVs.length t]
theorem DVs.get : ∀ {ds : List D} {vs : List V} {i : Nat} {d : D}, DVs K ft ρ H ds vs → ds[i]? = some d → ∃ v, vs[i]? = some v ∧ DV K ft ρ H d v
  | _, _, _, _, .nil, e => by simp at e
  | _, _, 0, _, .cons h _, e => by simp at e; subst e; exact ⟨_, rfl, h⟩
  | _, _, i + 1, d, .cons _ t, e => by
    obtain ⟨v, h1, h2⟩ := DVs.get (i := i) (d := d) t (by simpa using e)
    exact ⟨v, by simpa using h1, h2⟩
theorem DVs.get' : ∀ {ds : List D} {vs : List V} {i : Nat} {v : V}, DVs K ft ρ H ds vs → vs[i]? = some v → ∃ d, ds[i]? = some d ∧ DV K ft ρ H d v
  | _, _, _, _, .nil, e => by simp at e
  | _, _, 0, _, .cons h _, e => by simp at e; subst e; exact ⟨_, rfl, h⟩
  | _, _, i + 1, d, .cons _ t, e => by
    obtain ⟨v, h1, h2⟩ := DVs.get' (i := i) t (by simpa using e)
    exact ⟨v, by simpa using h1, h2⟩
theorem DVs.append : ∀ {ds es : List D} {vs ws : List V}, DVs K ft ρ H ds vs → DVs K ft ρ H es ws → DVs K ft ρ H (ds ++ es) (vs ++ ws)
  | _, _, _, _, .nil, r => r
  | _, _, _, _, .cons h t, r => .cons h (DVs.append t r)
theorem DVs.set {d : D} {v : V} (h : DV K ft ρ H d v) : ∀ {ds : List D} {vs : List V} (i : Nat), DVs K ft ρ H ds vs → DVs K ft ρ H (ds.set i d) (vs.set i v)
  | _, _, _, .nil => .nil
  | _, _, 0, .cons _ t => .cons h t
  | _, _, i + 1, .cons q t => .cons q (DVs.set h i t)
theorem DVs.eraseIdx : ∀ {ds : List D} {vs : List V} (i : Nat), DVs K ft ρ H ds vs → DVs K ft ρ H (ds.eraseIdx i) (vs.eraseIdx i)
  | _, _, _, .nil => .nil
  | _, _, 0, .cons _ t => t
  | _, _, i + 1, .cons q t => .cons q (DVs.eraseIdx i t)
theorem DVs.take : ∀ {ds : List D} {vs : List V} (i : Nat), DVs K ft ρ H ds vs → DVs K ft ρ H (ds.take i) (vs.take i)
  | _, _, 0, _ => .nil
  | _, _, _ + 1, .nil => .nil
  | _, _, i + 1, .cons q t => .cons q (DVs.take i t)
theorem DVs.drop : ∀ {ds : List D} {vs : List V} (i : Nat), DVs K ft ρ H ds vs → DVs K ft ρ H (ds.drop i) (vs.drop i)
  | _, _, 0, h => h
  | _, _, _ + 1, .nil => .nil
  | _, _, i + 1, .cons _ t => DVs.drop i t
theorem DVs.reverse : ∀ {ds : List D} {vs : List V}, DVs K ft ρ H ds vs → DVs K ft ρ H ds.reverse vs.reverse
  | _, _, .nil => .nil
  | _, _, .cons h t => by simp only [List.reverse_cons]; exact DVs.append (DVs.reverse t) (.cons h .nil)
theorem DVs.ints : ∀ (ns : List Int), DVs K ft ρ H (ns.map D.int) (ns.map V.int)
  | [] => .nil
  | n :: ns => .cons (.int n) (DVs.ints ns)
/-! ## the heap's steps -/
theorem Rel.nil : Rel K ft [] H [] := ⟨rfl, List.nodup_nil, fun n c e => by simp at e⟩
theorem Rel.has (R : Rel K ft ρ H C) {b : Addr} (hb : b ∈ ρ) : ∃ o, H b = some o := by
  obtain ⟨n, hn, e⟩ := List.getElem_of_mem hb
  have hc : n < C.length := by rw [← R.len]; exact hn
  obtain ⟨a, ha, k⟩ := R.ok n C[n] (List.getElem?_eq_getElem hc)
  rw [List.getElem?_eq_getElem hn, e] at ha
  cases ha
  cases h : C[n] with
  | lst ds => rw [h] at k; obtain ⟨vs, q, _⟩ := k; exact ⟨_, q⟩
  | dic ks => rw [h] at k; obtain ⟨vs, q, _⟩ := k; exact ⟨_, q⟩
  | dix ks => rw [h] at k; obtain ⟨vs, q, _⟩ := k; exact ⟨_, q⟩
  | dxl ks => rw [h] at k; obtain ⟨vs, o, q, _⟩ := k; exact ⟨_, q⟩
theorem Rel.out (R : Rel K ft ρ H C) {p : Addr} (hp : H p = none) : p ∉ ρ := fun z => by
  obtain ⟨o, e⟩ := R.has z; rw [hp] at e; cases e
theorem KeyV.monoW {k : MD.MK} {v : V} (w : Wk ρ H ρ' H') (h : KeyV K H k v) : KeyV K H' k v := by
  cases k with
  | i n => exact h
  | t ks => obtain ⟨ok, b, e, q⟩ := h; exact ⟨ok, b, e, w.sqT q⟩
theorem Mix.monoW {kvs : List (MD.MK × D)} {es : EV} (w : Wk ρ H ρ' H') (h : Mix K ft ρ H kvs es) : Mix K ft ρ' H' kvs es := ⟨h.1, Paired.mapP h.2 fun p e z => ⟨z.1, z.2.1.monoW w, DV.monoW w z.2.2⟩⟩
theorem COk.mono {a : Addr} {c : Cell} (s : Stp ρ H ρ' H') (h : H' a = H a) (k : COk K ft ρ H a c) : COk K ft ρ' H' a c := by
  cases c with
  | lst ds => obtain ⟨vs, q, r⟩ := k; exact ⟨vs, h.trans q, r.mono s⟩
  | dic ks => obtain ⟨vs, q, r⟩ := k; exact ⟨vs, h.trans q, Paired.mapP r fun p q z => ⟨z.1, z.2.mono s⟩⟩
  | dix ks => obtain ⟨es, q, r⟩ := k; exact ⟨es, h.trans q, r.monoW s.wk⟩
  | dxl ks => obtain ⟨es, o, q, r⟩ := k; exact ⟨es, o, h.trans q, r.monoW s.wk⟩
/-- a fresh object, tracked by the abstract heap but by no cell -/
theorem Stp.fresh {p : Addr} {o : HO} (hp : H p = none) : Stp ρ H ρ (upd H p o) := by
  have ne : ∀ b u, H b = some u → b ≠ p := fun b u e z => by rw [z, hp] at e; cases e
  exact ⟨⟨[], by simp, by simp⟩, fun b u e _ => by rw [upd_ne (ne b u e)]; exact e, fun b u e => ⟨u, by rw [upd_ne (ne b u e)]; exact e⟩, fun b u e => by rw [upd_ne (ne _ _ e)]; exact e, fun b u v e => by rw [upd_ne (ne _ _ e)]; exact e⟩
theorem Rel.fresh (R : Rel K ft ρ H C) {p : Addr} {o : HO} (hp : H p = none) : Rel K ft ρ (upd H p o) C :=
  ⟨R.len, R.nd, fun n c e => by
    obtain ⟨a, ha, k⟩ := R.ok n c e
    refine ⟨a, ha, k.mono (Stp.fresh hp) (upd_ne fun z => ?_)⟩
    exact R.out hp (z ▸ List.mem_of_getElem? ha)⟩
/-- a tracked object becomes the newest cell -/
theorem Rel.push (R : Rel K ft ρ H C) {p : Addr} {c : Cell} (hp : p ∉ ρ) (k : COk K ft ρ H p c) : Rel K ft (ρ ++ [p]) H (C ++ [c]) := by
  have w : Wk ρ H (ρ ++ [p]) H := ⟨fun {n a} h => by rw [List.getElem?_append_left (List.getElem?_eq_some_iff.mp h).1]; exact h, fun _ _ h => h, fun _ _ _ h => h⟩
  have gc : ∀ {a c}, COk K ft ρ H a c → COk K ft (ρ ++ [p]) H a c := fun {a c} k => by
    cases c with
    | lst ds => obtain ⟨vs, q, r⟩ := k; exact ⟨vs, q, DVs.monoW w r⟩
    | dic ks => obtain ⟨vs, q, r⟩ := k; exact ⟨vs, q, Paired.mapP r fun p q z => ⟨z.1, DV.monoW w z.2⟩⟩
    | dix ks => obtain ⟨es, q, r⟩ := k; exact ⟨es, q, r.monoW w⟩
    | dxl ks => obtain ⟨es, o, q, r⟩ := k; exact ⟨es, o, q, r.monoW w⟩
  refine ⟨by simp [R.len], ?_, fun n c' e => ?_⟩
  · rw [List.nodup_append]
    exact ⟨R.nd, by simp, fun a ha b hb z => by simp at hb; subst hb; subst z; exact hp ha⟩
  · by_cases hn : n < C.length
    · rw [List.getElem?_append_left hn] at e
      obtain ⟨a, ha, k'⟩ := R.ok n c' e
      exact ⟨a, by rw [List.getElem?_append_left (by rw [R.len]; exact hn)]; exact ha, gc k'⟩
    · have e1 : n = C.length := by
        have := (List.getElem?_eq_some_iff.mp e).1
        simp at this; omega
      subst e1
      simp at e
      subst e
      exact ⟨p, by rw [← R.len]; simp, gc k⟩
theorem Stp.push {p : Addr} {o : HO} (hp : H p = none) : Stp ρ H (ρ ++ [p]) (upd H p o) :=
  let s := Stp.fresh (ρ := ρ) (o := o) hp
  ⟨⟨[p], rfl, fun b hb => by simp at hb; rw [hb]; exact hp⟩, s.keep, s.there, s.tups, s.frzs⟩
/-- a new list -/
theorem Rel.newL (R : Rel K ft ρ H C) {p : Addr} {ds : List D} {vs : List V} (hp : H p = none) (h : DVs K ft ρ H ds vs) : Rel K ft (ρ ++ [p]) (upd H p (.lst vs)) (C ++ [.lst ds]) :=
  (R.fresh hp).push (R.out hp) ⟨vs, upd_same, h.mono (Stp.fresh hp)⟩
theorem DV.new (R : Rel K ft ρ H C) {p : Addr} {H' : Hp} : DV K ft (ρ ++ [p]) H' (.cell C.length) (.ref p) := .cell (by rw [← R.len]; simp)
/-- a cell is written -/
theorem Stp.write (R : Rel K ft ρ H C) {n : Nat} {a : Addr} {o : HO} {c : Cell} (hn : ρ[n]? = some a) (hc : C[n]? = some c) (hu : c.locked = false := by rfl) : Stp ρ H ρ (upd H a o) := by
  obtain ⟨a', ha', k⟩ := R.ok n c hc
  rw [hn] at ha'; cases ha'
  have nt : ∀ xs, H a ≠ some (.tup xs) := fun xs e => by
    cases c with
    | lst ds => obtain ⟨vs, q, _⟩ := k; rw [e] at q; cases q
    | dic ks => obtain ⟨vs, q, _⟩ := k; rw [e] at q; cases q
    | dix ks => obtain ⟨vs, q, _⟩ := k; rw [e] at q; cases q
    | dxl ks => cases hu
  have nf : ∀ ob u, H a ≠ some (.frz ob u) := fun ob u e => by
    cases c with
    | lst ds => obtain ⟨vs, q, _⟩ := k; rw [e] at q; cases q
    | dic ks => obtain ⟨vs, q, _⟩ := k; rw [e] at q; cases q
    | dix ks => obtain ⟨vs, q, _⟩ := k; rw [e] at q; cases q
    | dxl ks => cases hu
  refine ⟨⟨[], by simp, by simp⟩, fun b u e hb => ?_, fun b u e => ?_, fun b xs e => ?_, fun b ob u e => ?_⟩
  · rw [upd_ne (show b ≠ a from fun z => hb (z ▸ List.mem_of_getElem? hn))]; exact e
  · by_cases hb : b = a
    · subst hb; exact ⟨o, upd_same⟩
    · exact ⟨u, by rw [upd_ne hb]; exact e⟩
  · rw [upd_ne (show b ≠ a from fun z => nt xs (z ▸ e))]; exact e
  · rw [upd_ne (show b ≠ a from fun z => nf ob u (z ▸ e))]; exact e
theorem nodup_at {l : List Addr} (h : l.Nodup) {i j : Nat} {x : Addr} (hi : l[i]? = some x) (hj : l[j]? = some x) : i = j := by
  obtain ⟨h1, e1⟩ := List.getElem?_eq_some_iff.mp hi
  obtain ⟨h2, e2⟩ := List.getElem?_eq_some_iff.mp hj
  exact (List.getElem_inj h).mp (e1.trans e2.symm)
theorem Rel.write (R : Rel K ft ρ H C) {n : Nat} {a : Addr} {o : HO} {c c' : Cell} (hn : ρ[n]? = some a) (hc : C[n]? = some c) (k : COk K ft ρ (upd H a o) a c') (hu : c.locked = false := by rfl) : Rel K ft ρ (upd H a o) (C.set n c') := by
  have s := Stp.write (o := o) R hn hc hu
  refine ⟨by simp [R.len], R.nd, fun m u e => ?_⟩
  by_cases hm : m = n
  · subst hm
    have : m < C.length := (List.getElem?_eq_some_iff.mp hc).1
    rw [List.getElem?_set_self this] at e
    cases e
    exact ⟨a, hn, k⟩
  · rw [List.getElem?_set_ne (Ne.symm hm)] at e
    obtain ⟨b, hb, q⟩ := R.ok m u e
    refine ⟨b, hb, q.mono s (upd_ne fun z => hm ?_)⟩
    subst z
    exact nodup_at R.nd hb hn
theorem Rel.writeL (R : Rel K ft ρ H C) {n : Nat} {a : Addr} {ds : List D} {vs : List V} {c : Cell} (hn : ρ[n]? = some a) (hc : C[n]? = some c) (h : DVs K ft ρ H ds vs) (hu : c.locked = false := by rfl) : Rel K ft ρ (upd H a (.lst vs)) (C.set n (.lst ds)) :=
  R.write hn hc ⟨vs, upd_same, h.mono (Stp.write R hn hc hu)⟩ hu
theorem Rel.lst (R : Rel K ft ρ H C) {n : Nat} {ds : List D} {v : V} (hc : C[n]? = some (.lst ds)) (h : DV K ft ρ H (.cell n) v) : ∃ a vs, v = .ref a ∧ ρ[n]? = some a ∧ H a = some (.lst vs) ∧ DVs K ft ρ H ds vs := by
  obtain ⟨a, ha, vs, q, r⟩ := R.ok n _ hc
  cases h with
  | cell h => rw [ha] at h; cases h; exact ⟨a, vs, rfl, ha, q, r⟩
theorem Rel.dic (R : Rel K ft ρ H C) {n : Nat} {kvs : List (Key × D)} {v : V} (hc : C[n]? = some (.dic kvs)) (h : DV K ft ρ H (.cell n) v) :
    ∃ a ws, v = .ref a ∧ ρ[n]? = some a ∧ H a = some (.dK ws) ∧ Paired (fun (p : Key × D) (q : Key × V) => p.1 = q.1 ∧ DV K ft ρ H p.2 q.2) kvs ws := by
  obtain ⟨a, ha, vs, q, r⟩ := R.ok n _ hc
  cases h with
  | cell h => rw [ha] at h; cases h; exact ⟨a, vs, rfl, ha, q, r⟩
theorem Rel.dix (R : Rel K ft ρ H C) {n : Nat} {kvs : List (MD.MK × D)} {v : V} (hc : C[n]? = some (.dix kvs)) (h : DV K ft ρ H (.cell n) v) :
    ∃ a es, v = .ref a ∧ ρ[n]? = some a ∧ H a = some (mixO ft.hash a es) ∧ Mix K ft ρ H kvs es := by
  obtain ⟨a, ha, es, q, r⟩ := R.ok n _ hc
  cases h with
  | cell h => rw [ha] at h; cases h; exact ⟨a, es, rfl, ha, q, r⟩
theorem Rel.dxl (R : Rel K ft ρ H C) {n : Nat} {kvs : List (MD.MK × D)} {v : V} (hc : C[n]? = some (.dxl kvs)) (h : DV K ft ρ H (.cell n) v) :
    ∃ a es o, v = .ref a ∧ ρ[n]? = some a ∧ H a = some (.frz o (mixO ft.hash a es)) ∧ Mix K ft ρ H kvs es := by
  obtain ⟨a, ha, es, o, q, r⟩ := R.ok n _ hc
  cases h with
  | cell h => rw [ha] at h; cases h; exact ⟨a, es, o, rfl, ha, q, r⟩
end
end Mi
set_option Elab.async false
set_option linter.all false
set_option maxRecDepth 100000
set_option maxHeartbeats 4000000
namespace Mi
open PySem PySem.Spec PyProof.Rows L2
/-! ## where a text runs -/
structure Fm where
  prog : Program
  w : World
  K : PySem.W.Frag
  mg : Str → Option Value
  base : Heap
  ft : Cfg
  sc : Scope
  N : List Str
  lv : Nat
  fn : Str → Bool
structure Fm.Is (F : Fm) (X : Cx) : Prop where
  prog : X.prog = F.prog
  w : X.w = F.w
  K : X.K = F.K
  mg : X.mg = F.mg
  base : X.base = F.base
  sc : X.env.scope = F.sc
  N : X.N = F.N
  fn : X.fn = F.fn
  nd : X.N.Nodup
  calm : X.calm = true
  gu : X.A.guards = some []
  rm : Room F.lv X.A
  xe : X.xe = fun _ _ => False
def Fm.blk (F : Fm) (scope : Scope) : Fm := { F with sc := relS scope F.sc, fn := fun x => scope.names.lookup x == some .cell }
theorem Fm.Is.blk {F : Fm} {X : Cx} (h : F.Is X) {scope : Scope} {s : Shared} {H : Hp} {C : Addr} {cl : List (Str × Addr)} {fp : List Addr} : (F.blk scope).Is (X.blk s H scope (compEnvC scope cl C X.env) fp) := by
  refine ⟨h.prog, h.w, h.K, h.mg, h.base, ?_, h.N, rfl, h.nd, h.calm, h.gu, h.rm, rfl⟩
  show relS scope X.env.scope = relS scope F.sc
  rw [h.sc]
abbrev ME := Ev → Hm → Option (D × Hm)
abbrev MT := Ev → Hm → Option (Bool × Hm)
abbrev MA := Ev → Hm → Option (List D × Hm)
inductive Out where
  | nx (E : Ev) (C : Hm) | rt (d : D) (C : Hm) | bk (E : Ev) (C : Hm) | ct (E : Ev) (C : Hm)
abbrev MS := Ev → Hm → Option Out
section
variable (F : Fm)
abbrev RelF (ρ : List Addr) (H : Hp) (C : Hm) : Prop := Rel F.K F.ft ρ H C
abbrev DVF (ρ : List Addr) (H : Hp) (d : D) (v : V) : Prop := DV F.K F.ft ρ H d v
abbrev DVsF (ρ : List Addr) (H : Hp) (d : List D) (v : List V) : Prop := DVs F.K F.ft ρ H d v
abbrev EnvF (ρ : List Addr) (H : Hp) (E : Ev) (σ : L2.St) : Prop := EnvOk F.K F.ft ρ H E σ
def Post (ρ : List Addr) (H : Hp) (d : D) (C' : Hm) (Q : VK) : Prop := ∀ ρ' H' v, RelF F ρ' H' C' → Stp ρ H ρ' H' → DVF F ρ' H' d v → Q v H'
def PostB (ρ : List Addr) (H : Hp) (b : Bool) (C' : Hm) (Q : Bool → Hp → Prop) : Prop := ∀ ρ' H', RelF F ρ' H' C' → Stp ρ H ρ' H' → Q b H'
def PostA (ρ : List Addr) (H : Hp) (ds : List D) (C' : Hm) (Q : List V → Hp → Prop) : Prop := ∀ ρ' H' vs, RelF F ρ' H' C' → Stp ρ H ρ' H' → DVsF F ρ' H' ds vs → Q vs H'
def PostS (ρ : List Addr) (H : Hp) (Z : Ends) : Out → Prop
  | .nx E' C' => ∀ ρ' H' σ', RelF F ρ' H' C' → Stp ρ H ρ' H' → EnvF F ρ' H' E' σ' → Z.nx σ' H'
  | .rt d C' => ∀ ρ' H' v, RelF F ρ' H' C' → Stp ρ H ρ' H' → DVF F ρ' H' d v → Z.rt v H'
  | .bk E' C' => ∀ ρ' H' σ', RelF F ρ' H' C' → Stp ρ H ρ' H' → EnvF F ρ' H' E' σ' → Z.bk σ' H'
  | .ct E' C' => ∀ ρ' H' σ', RelF F ρ' H' C' → Stp ρ H ρ' H' → EnvF F ρ' H' E' σ' → Z.ct σ' H'
def EvE (t : TE) (m : ME) : Prop := ∀ ρ C H E σ d C' Q, RelF F ρ H C → EnvF F ρ H E σ → m E C = some (d, C') → Post F ρ H d C' Q → t σ H Q
def EvT (t : TT) (m : MT) : Prop := ∀ ρ C H E σ b C' Q, RelF F ρ H C → EnvF F ρ H E σ → m E C = some (b, C') → PostB F ρ H b C' Q → t σ H Q
def EvA (t : TA) (m : MA) : Prop := ∀ ρ C H E σ ds C' Q, RelF F ρ H C → EnvF F ρ H E σ → m E C = some (ds, C') → PostA F ρ H ds C' Q → t σ H Q
def EvS (t : TS) (m : MS) : Prop := ∀ ρ C H E σ o Z, RelF F ρ H C → EnvF F ρ H E σ → m E C = some o → PostS F ρ H Z o → t Z σ H
def SE (e : Expr) (m : ME) : Prop := ∃ t, (∀ X, F.Is X → PE X e t) ∧ EvE F t m
def ST (e : Expr) (m : MT) : Prop := ∃ t, (∀ X, F.Is X → PT X e t) ∧ EvT F t m
def SW (e : Expr) (m : MT) : Prop := ∃ t, (∀ X, F.Is X → PW X e t) ∧ EvT F t m
def SA (es : List Expr) (m : MA) : Prop := ∃ t, (∀ X, F.Is X → PA X es t) ∧ EvA F t m
def SS (st : Stmt) (m : MS) : Prop := ∃ t, (∀ X, F.Is X → PS X st t) ∧ EvS F t m
def SB (sts : List Stmt) (m : MS) : Prop := ∃ t, (∀ X, F.Is X → PSs X sts t) ∧ EvS F t m
/-- an operator by values -/
abbrev OD2 := D → D → Hm → Option (D × Hm)
def SOp (f : Value → Value → Sem Value) (op : OD2) : Prop := ∃ r : R2, (∀ X, F.Is X → OpR X f r) ∧ ∀ ρ C H x y vx vy d C' Q, RelF F ρ H C → DVF F ρ H x vx → DVF F ρ H y vy → op x y C = some (d, C') → Post F ρ H d C' Q → r vx vy H Q
abbrev OD1 := D → Hm → Option (D × Hm)
def SUn (f : Value → Sem Value) (op : OD1) : Prop := ∃ r, (∀ X, F.Is X → UnR X f r) ∧ ∀ ρ C H x vx d C' Q, RelF F ρ H C → DVF F ρ H x vx → op x C = some (d, C') → Post F ρ H d C' Q → r vx H Q
abbrev ODL := List D → Hm → Option (D × Hm)
def SCall (f : Value) (op : ODL) : Prop := ∃ r, (∀ X, F.Is X → CallR X f r) ∧ ∀ ρ C H xs vs d C' Q, RelF F ρ H C → DVsF F ρ H xs vs → op xs C = some (d, C') → Post F ρ H d C' Q → r vs H Q
abbrev ODM := D → List D → Hm → Option (D × Hm)
/-- a method of a built-in type -/
def SMt (T id : String) (op : ODM) : Prop := ∃ r, (∀ X, F.Is X → MtR X id r) ∧
  (∀ ρ C H x xs vx vs d C' Q, RelF F ρ H C → DVF F ρ H x vx → DVsF F ρ H xs vs → op x xs C = some (d, C') → Post F ρ H d C' Q → r vx vs H Q)
end
section
variable {F : Fm} {X : Cx} {a b c e o : Expr} {es : List Expr} {pos p : Pos} {x : Str} {i : Nat} {ma mb mc me : ME} {mt mu : MT} {ml : MA}
theorem obind {α β : Type} {o : Option α} {f : α → Option β} {z : β} (h : o.bind f = some z) : ∃ y, o = some y ∧ f y = some z := by
  cases o with
  | none => simp at h
  | some y => exact ⟨y, rfl, h⟩
theorem Post.step {ρ ρ1 : List Addr} {H H1 : Hp} {d : D} {C' : Hm} {Q : VK} (k : Post F ρ H d C' Q) (s : Stp ρ H ρ1 H1) : Post F ρ1 H1 d C' Q := fun ρ' H' v R s' dv => k ρ' H' v R (s.trans s') dv
theorem PostB.step {ρ ρ1 : List Addr} {H H1 : Hp} {d : Bool} {C' : Hm} {Q} (k : PostB F ρ H d C' Q) (s : Stp ρ H ρ1 H1) : PostB F ρ1 H1 d C' Q := fun ρ' H' R s' => k ρ' H' R (s.trans s')
theorem PostA.step {ρ ρ1 : List Addr} {H H1 : Hp} {d : List D} {C' : Hm} {Q} (k : PostA F ρ H d C' Q) (s : Stp ρ H ρ1 H1) : PostA F ρ1 H1 d C' Q := fun ρ' H' v R s' dv => k ρ' H' v R (s.trans s') dv
theorem PostS.step {ρ ρ1 : List Addr} {H H1 : Hp} {o : Out} {Z : Ends} (k : PostS F ρ H Z o) (s : Stp ρ H ρ1 H1) : PostS F ρ1 H1 Z o := by
  cases o with
  | nx E C => exact fun ρ' H' v R s' dv => k ρ' H' v R (s.trans s') dv
  | rt E C => exact fun ρ' H' v R s' dv => k ρ' H' v R (s.trans s') dv
  | bk E C => exact fun ρ' H' v R s' dv => k ρ' H' v R (s.trans s') dv
  | ct E C => exact fun ρ' H' v R s' dv => k ρ' H' v R (s.trans s') dv
theorem Post.now {ρ : List Addr} {H : Hp} {d : D} {C : Hm} {Q : VK} {v : V} (k : Post F ρ H d C Q) (R : RelF F ρ H C) (h : DVF F ρ H d v) : Q v H := k ρ H v R .refl h
/-! ## names, constants -/
def mVar (i : Nat) : ME := fun E C => match E[i]? with | some (some d) => some (d, C) | _ => none
def mC (d : D) : ME := fun _ C => some (d, C)
theorem se_var (i : Nat) (hN : F.N[i]? = some x := by rfl) (hv : Vis F.sc x := by first | exact Or.inl rfl | exact Or.inr (Or.inl rfl) | exact Or.inr (Or.inr rfl)) (hd : (x == ("__debug__" : Str)) = false := by decide) (hcd : (x == ("__classdict__" : Str)) = false := by decide) : SE F (.Name x pos) (mVar i) := by
  refine ⟨tVar i, fun X h => pe_var (by rw [h.N]; exact hN) (by rw [h.sc]; exact hv) hd hcd, fun ρ C H E σ d C' Q R eo hm k => ?_⟩
  unfold mVar at hm
  split at hm
  · rename_i d' q
    cases hm
    obtain ⟨v, q1, q2⟩ := eo.at_ i _ q
    exact ⟨v, q1, k.now R q2⟩
  · cases hm
theorem se_int {i : Int} {j : Nat} : SE F (.Constant (.int i) j pos) (mC (.int i)) := ⟨_, fun _ _ => pe_int, fun ρ C H E σ d C' Q R eo hm k => by cases hm; exact k.now R (.int _)⟩
theorem se_bl {i : Bool} {j : Nat} : SE F (.Constant (.bool i) j pos) (mC (.bl i)) := ⟨_, fun _ _ => pe_bl, fun ρ C H E σ d C' Q R eo hm k => by cases hm; exact k.now R (.bl _)⟩
theorem se_non {j : Nat} : SE F (.Constant .none j pos) (mC .non) := ⟨_, fun _ _ => pe_non, fun ρ C H E σ d C' Q R eo hm k => by cases hm; exact k.now R .non⟩
theorem se_str {i : Str} {j : Nat} : SE F (.Constant (.str i) j pos) (mC (.str i)) := ⟨_, fun _ _ => pe_str, fun ρ C H E σ d C' Q R eo hm k => by cases hm; exact k.now R (.str _)⟩
/-- a def's name as a value -/
theorem se_fn (n : Nat) (hm : F.mg x = some (.ref (F.ft n))) (hg : F.sc.names.lookup x = some .globalImplicit := by rfl) (hd : (x == ("__debug__" : Str)) = false := by decide) : SE F (.Name x pos) (mC (.fn n)) :=
  ⟨tC (.ref (F.ft n)), fun X h => pe_glob (show X.env.scope.names.lookup x = some .globalImplicit by rw [h.sc]; exact hg) (by rw [h.mg]; exact hm) (show _ = _ from rfl) hd, fun ρ C H E σ d C' Q R eo hm k => by cases hm; exact k.now R (.fn _)⟩
/-! ## operators -/
def mBin (op : OD2) (ma mb : ME) : ME := fun E C => (ma E C).bind fun p => (mb E p.2).bind fun q => op p.1 q.1 q.2
theorem se_op {op : Operator} {f : OD2} (ho : SOp F (binaryOp op) f) (ha : SE F a ma) (hb : SE F b mb) : SE F (.BinOp a op b pos) (mBin f ma mb) := by
  obtain ⟨r, hr, sr⟩ := ho
  obtain ⟨ta, pa, sa⟩ := ha
  obtain ⟨tb, pb, sb⟩ := hb
  refine ⟨_, fun X h => pe_op (hr X h) (pa X h) (pb X h), fun ρ C H E σ d C' Q R eo hm k => ?_⟩
  obtain ⟨⟨x, C1⟩, h1, hm⟩ := obind hm
  obtain ⟨⟨y, C2⟩, h2, hm⟩ := obind hm
  refine sa ρ C H E σ x C1 _ R eo h1 fun ρ1 H1 v1 R1 s1 d1 => ?_
  refine sb ρ1 C1 H1 E σ y C2 _ R1 (eo.mono s1) h2 fun ρ2 H2 v2 R2 s2 d2 => ?_
  exact sr ρ2 C2 H2 x y v1 v2 d C' Q R2 (d1.mono s2) d2 hm (k.step (s1.trans s2))
def mUn (op : OD1) (ma : ME) : ME := fun E C => (ma E C).bind fun p => op p.1 p.2
theorem se_un {op : UnaryOp} {f : OD1} (ho : SUn F (unaryOp op) f) (ha : SE F a ma) : SE F (.UnaryOp op a pos) (mUn f ma) := by
  obtain ⟨r, hr, sr⟩ := ho
  obtain ⟨ta, pa, sa⟩ := ha
  refine ⟨_, fun X h => pe_un (hr X h) (pa X h), fun ρ C H E σ d C' Q R eo hm k => ?_⟩
  obtain ⟨⟨x, C1⟩, h1, hm⟩ := obind hm
  refine sa ρ C H E σ x C1 _ R eo h1 fun ρ1 H1 v1 R1 s1 d1 => ?_
  exact sr ρ1 C1 H1 x v1 d C' Q R1 d1 hm (k.step s1)
/-- a comparison as a value -/
theorem se_cmp {op : CmpOp} {f : OD2} (ho : SOp F (compareOp op) f) (ha : SE F a ma) (hb : SE F b mb) (hmk : behindInMarks op b = false := by first | exact nomark _ | rfl) : SE F (.Compare a [op] [b] pos) (mBin f ma mb) := by
  obtain ⟨r, hr, sr⟩ := ho
  obtain ⟨ta, pa, sa⟩ := ha
  obtain ⟨tb, pb, sb⟩ := hb
  refine ⟨_, fun X h => pe_cmpR (hr X h) (pa X h) (pb X h) hmk, fun ρ C H E σ d C' Q R eo hm k => ?_⟩
  obtain ⟨⟨x, C1⟩, h1, hm⟩ := obind hm
  obtain ⟨⟨y, C2⟩, h2, hm⟩ := obind hm
  refine sa ρ C H E σ x C1 _ R eo h1 fun ρ1 H1 v1 R1 s1 d1 => ?_
  refine sb ρ1 C1 H1 E σ y C2 _ R1 (eo.mono s1) h2 fun ρ2 H2 v2 R2 s2 d2 => ?_
  exact sr ρ2 C2 H2 x y v1 v2 d C' Q R2 (d1.mono s2) d2 hm (k.step (s1.trans s2))
/-- a value that is a bool, as a test -/
def asB : Option (D × Hm) → Option (Bool × Hm)
  | some (.bl b, C) => some (b, C)
  | _ => none
def mTest (m : ME) : MT := fun E C => asB (m E C)
theorem asB_some {o : Option (D × Hm)} {b : Bool} {C : Hm} (h : asB o = some (b, C)) : o = some (.bl b, C) := by
  unfold asB at h
  split at h
  · cases h; rfl
  · cases h
theorem st_cmp {op : CmpOp} {f : OD2} (ho : SOp F (compareOp op) f) (ha : SE F a ma) (hb : SE F b mb) (hmk : behindInMarks op b = false := by first | exact nomark _ | rfl) : ST F (.Compare a [op] [b] pos) (mTest (mBin f ma mb)) := by
  obtain ⟨r, hr, sr⟩ := ho
  obtain ⟨ta, pa, sa⟩ := ha
  obtain ⟨tb, pb, sb⟩ := hb
  refine ⟨_, fun X h => pt_cmpR (hr X h) (pa X h) (pb X h) hmk, fun ρ C H E σ d C' Q R eo hm k => ?_⟩
  have hm := asB_some hm
  obtain ⟨⟨x, C1⟩, h1, hm⟩ := obind hm
  obtain ⟨⟨y, C2⟩, h2, hm⟩ := obind hm
  refine sa ρ C H E σ x C1 _ R eo h1 fun ρ1 H1 v1 R1 s1 d1 => ?_
  refine sb ρ1 C1 H1 E σ y C2 _ R1 (eo.mono s1) h2 fun ρ2 H2 v2 R2 s2 d2 => ?_
  exact sr ρ2 C2 H2 x y v1 v2 _ C' _ R2 (d1.mono s2) d2 hm fun ρ3 H3 v R3 s3 dv => by
    cases dv
    exact ⟨d, rfl, k ρ3 H3 R3 ((s1.trans s2).trans s3)⟩
theorem st_val (he : SE F e me) (hw : ∀ (env : Env) whole, isTrue e env whole = (do let v ← whole; standAt e.pos; holding [v] (truthy v)) := by intro _ _; rfl) : ST F e (mTest me) := by
  obtain ⟨t, p, s⟩ := he
  refine ⟨_, fun X h => pt_val (p X h) (hw _), fun ρ C H E σ d C' Q R eo hm k => ?_⟩
  exact s ρ C H E σ _ C' _ R eo (asB_some hm) fun ρ3 H3 v R3 s3 dv => by
    cases dv
    exact ⟨d, rfl, k ρ3 H3 R3 s3⟩
/-! ## and, or, not, if else -/
def mAnd (ma mb : ME) : ME := fun E C => (asB (ma E C)).bind fun p => if p.1 = true then mb E p.2 else some (.bl false, p.2)
def mOr (ma mb : ME) : ME := fun E C => (asB (ma E C)).bind fun p => if p.1 = true then some (.bl true, p.2) else mb E p.2
def mNot (ma : ME) : ME := fun E C => (asB (ma E C)).bind fun p => some (.bl (!p.1), p.2)
theorem se_one {op : BoolOp} (ha : SE F a ma) : SE F (.BoolOp op [a] pos) ma := let ⟨t, p, s⟩ := ha; ⟨t, fun X h => pe_one (p X h), s⟩
theorem se_and {r : List Expr} (ha : SE F a ma) (hb : SE F (.BoolOp .And (b :: r) pos) mb) : SE F (.BoolOp .And (a :: b :: r) pos) (mAnd ma mb) := by
  obtain ⟨ta, pa, sa⟩ := ha
  obtain ⟨tb, pb, sb⟩ := hb
  refine ⟨_, fun X h => pe_and (pa X h) (pb X h), fun ρ C H E σ d C' Q R eo hm k => ?_⟩
  obtain ⟨⟨x, C1⟩, h1, hm⟩ := obind hm
  refine sa ρ C H E σ _ C1 _ R eo (asB_some h1) fun ρ1 H1 v1 R1 s1 d1 => ?_
  cases d1
  refine ⟨x, rfl, ?_⟩
  cases x with
  | true => exact sb ρ1 C1 H1 E σ d C' Q R1 (eo.mono s1) hm (k.step s1)
  | false => cases hm; exact (k.step s1).now R1 (.bl false)
theorem se_or {r : List Expr} (ha : SE F a ma) (hb : SE F (.BoolOp .Or (b :: r) pos) mb) : SE F (.BoolOp .Or (a :: b :: r) pos) (mOr ma mb) := by
  obtain ⟨ta, pa, sa⟩ := ha
  obtain ⟨tb, pb, sb⟩ := hb
  refine ⟨_, fun X h => pe_or (pa X h) (pb X h), fun ρ C H E σ d C' Q R eo hm k => ?_⟩
  obtain ⟨⟨x, C1⟩, h1, hm⟩ := obind hm
  refine sa ρ C H E σ _ C1 _ R eo (asB_some h1) fun ρ1 H1 v1 R1 s1 d1 => ?_
  cases d1
  refine ⟨x, rfl, ?_⟩
  cases x with
  | true => cases hm; exact (k.step s1).now R1 (.bl true)
  | false => exact sb ρ1 C1 H1 E σ d C' Q R1 (eo.mono s1) hm (k.step s1)
theorem se_not (ha : SE F a ma) : SE F (.UnaryOp .Not a pos) (mNot ma) := by
  obtain ⟨ta, pa, sa⟩ := ha
  refine ⟨_, fun X h => pe_not (pa X h), fun ρ C H E σ d C' Q R eo hm k => ?_⟩
  obtain ⟨⟨x, C1⟩, h1, hm⟩ := obind hm
  refine sa ρ C H E σ _ C1 _ R eo (asB_some h1) fun ρ1 H1 v1 R1 s1 d1 => ?_
  cases d1
  cases hm
  exact ⟨x, rfl, (k.step s1).now R1 (.bl _)⟩
def tAndM (mt mu : MT) : MT := fun E C => (mt E C).bind fun p => if p.1 = true then mu E p.2 else some (false, p.2)
def tOrM (mt mu : MT) : MT := fun E C => (mt E C).bind fun p => if p.1 = true then some (true, p.2) else mu E p.2
def tNotM (mt : MT) : MT := fun E C => (mt E C).bind fun p => some (!p.1, p.2)
theorem sw_and1 (h : ST F a mt) : SW F (.BoolOp .And [a] pos) mt := let ⟨t, p, s⟩ := h; ⟨t, fun X i => pw_and1 (p X i), s⟩
theorem sw_or1 (h : ST F a mt) : SW F (.BoolOp .Or [a] pos) mt := let ⟨t, p, s⟩ := h; ⟨t, fun X i => pw_or1 (p X i), s⟩
theorem evt_and {t u : TT} (sa : Mi.EvT F t mt) (sb : Mi.EvT F u mu) : Mi.EvT F (L2.tAnd t u) (tAndM mt mu) := fun ρ C H E σ d C' Q R eo hm k => by
  obtain ⟨⟨x, C1⟩, h1, hm⟩ := obind hm
  refine sa ρ C H E σ x C1 _ R eo h1 fun ρ1 H1 R1 s1 => ?_
  cases x with
  | true => exact sb ρ1 C1 H1 E σ d C' Q R1 (eo.mono s1) hm (k.step s1)
  | false => cases hm; exact k ρ1 H1 R1 s1
theorem evt_or {t u : TT} (sa : Mi.EvT F t mt) (sb : Mi.EvT F u mu) : Mi.EvT F (L2.tOr t u) (tOrM mt mu) := fun ρ C H E σ d C' Q R eo hm k => by
  obtain ⟨⟨x, C1⟩, h1, hm⟩ := obind hm
  refine sa ρ C H E σ x C1 _ R eo h1 fun ρ1 H1 R1 s1 => ?_
  cases x with
  | true => cases hm; exact k ρ1 H1 R1 s1
  | false => exact sb ρ1 C1 H1 E σ d C' Q R1 (eo.mono s1) hm (k.step s1)
theorem sw_and {r : List Expr} (ha : ST F a mt) (hb : SW F (.BoolOp .And (b :: r) pos) mu) : SW F (.BoolOp .And (a :: b :: r) pos) (tAndM mt mu) := by
  obtain ⟨ta, pa, sa⟩ := ha
  obtain ⟨tb, pb, sb⟩ := hb
  exact ⟨_, fun X h => pw_and (pa X h) (pb X h), evt_and sa sb⟩
theorem sw_or {r : List Expr} (ha : ST F a mt) (hb : SW F (.BoolOp .Or (b :: r) pos) mu) : SW F (.BoolOp .Or (a :: b :: r) pos) (tOrM mt mu) := by
  obtain ⟨ta, pa, sa⟩ := ha
  obtain ⟨tb, pb, sb⟩ := hb
  exact ⟨_, fun X h => pw_or (pa X h) (pb X h), evt_or sa sb⟩
theorem st_w (h : SW F e mt) : ST F e mt := let ⟨t, p, s⟩ := h; ⟨t, fun X i => (p X i).pt, s⟩
theorem st_not (ha : ST F a mt) : ST F (.UnaryOp .Not a pos) (tNotM mt) := by
  obtain ⟨ta, pa, sa⟩ := ha
  refine ⟨_, fun X h => pt_not (pa X h), fun ρ C H E σ d C' Q R eo hm k => ?_⟩
  obtain ⟨⟨x, C1⟩, h1, hm⟩ := obind hm
  cases hm
  exact sa ρ C H E σ x C1 _ R eo h1 fun ρ1 H1 R1 s1 => k ρ1 H1 R1 s1
def mIf (mt : MT) (ma mb : ME) : ME := fun E C => (mt E C).bind fun p => if p.1 = true then ma E p.2 else mb E p.2
theorem se_if (hc : ST F c mt) (ha : SE F a ma) (hb : SE F b mb) : SE F (.IfExp c a b pos) (mIf mt ma mb) := by
  obtain ⟨tc, pc, sc⟩ := hc
  obtain ⟨ta, pa, sa⟩ := ha
  obtain ⟨tb, pb, sb⟩ := hb
  refine ⟨_, fun X h => pe_ifExp (pc X h) (pa X h) (pb X h), fun ρ C H E σ d C' Q R eo hm k => ?_⟩
  obtain ⟨⟨x, C1⟩, h1, hm⟩ := obind hm
  refine sc ρ C H E σ x C1 _ R eo h1 fun ρ1 H1 R1 s1 => ?_
  cases x with
  | true => exact sa ρ1 C1 H1 E σ d C' Q R1 (eo.mono s1) hm (k.step s1)
  | false => exact sb ρ1 C1 H1 E σ d C' Q R1 (eo.mono s1) hm (k.step s1)
/-- a < b < c -/
def mChain (f g : OD2) (ma mb mc : ME) : ME := fun E C => (ma E C).bind fun p => (mb E p.2).bind fun q => (asB (f p.1 q.1 q.2)).bind fun z => if z.1 = true then (mc E z.2).bind fun r => g q.1 r.1 r.2 else some (.bl false, z.2)
/-! ## arguments, displays -/
def mNil : MA := fun _ C => some ([], C)
def mCons (ma : ME) (ml : MA) : MA := fun E C => (ma E C).bind fun p => (ml E p.2).bind fun q => some (p.1 :: q.1, q.2)
theorem sa_nil : SA F [] mNil := ⟨_, fun _ _ => pa_nil, fun ρ C H E σ d C' Q R eo hm k => by cases hm; exact k ρ H [] R .refl .nil⟩
theorem sa_cons (ha : SE F e me) (hl : SA F es ml) (hs : ∀ env : Env, starEach (e :: es) env = (false, eval e env) :: starEach es env := by intro _; rfl) : SA F (e :: es) (mCons me ml) := by
  obtain ⟨ta, pa, sa⟩ := ha
  obtain ⟨tl, pl, sl⟩ := hl
  refine ⟨_, fun X h => pa_cons (pa X h) (pl X h) (hs _), fun ρ C H E σ d C' Q R eo hm k => ?_⟩
  obtain ⟨⟨x, C1⟩, h1, hm⟩ := obind hm
  obtain ⟨⟨ys, C2⟩, h2, hm⟩ := obind hm
  cases hm
  refine sa ρ C H E σ x C1 _ R eo h1 fun ρ1 H1 v1 R1 s1 d1 => ?_
  refine sl ρ1 C1 H1 E σ ys C2 _ R1 (eo.mono s1) h2 fun ρ2 H2 v2 R2 s2 d2 => ?_
  exact k ρ2 H2 _ R2 (s1.trans s2) (.cons (d1.mono s2) d2)
/-- a length that a list may have -/
def okLen (n : Nat) : Bool := decide (n ≤ sizeLine)
def mkTup (ds : List D) (C : Hm) : Option (D × Hm) := if ds.length ≤ sizeLine then some (.tup ds, C) else none
def mkLst (ds : List D) (C : Hm) : Option (D × Hm) := if ds.length ≤ sizeLine then some (.cell C.length, C ++ [.lst ds]) else none
theorem mkTup_post {ρ : List Addr} {H : Hp} {C C' : Hm} {ds : List D} {vs : List V} {d : D} {Q : VK} (R : RelF F ρ H C) (h : DVsF F ρ H ds vs) (hm : mkTup ds C = some (d, C')) (k : Post F ρ H d C' Q) : vs.length ≤ sizeLine ∧ ∀ p, H p = none → Q (.ref p) (upd H p (.tup vs)) := by
  unfold mkTup at hm
  split at hm
  · rename_i hl
    cases hm
    refine ⟨h.length ▸ hl, fun p hp => ?_⟩
    exact k ρ _ _ (R.fresh hp) (Stp.fresh hp) (.tup (SqT.of upd_same) (h.mono (Stp.fresh hp)))
  · cases hm
theorem mkLst_post {ρ : List Addr} {H : Hp} {C C' : Hm} {ds : List D} {vs : List V} {d : D} {Q : VK} (R : RelF F ρ H C) (h : DVsF F ρ H ds vs) (hm : mkLst ds C = some (d, C')) (k : Post F ρ H d C' Q) : vs.length ≤ sizeLine ∧ ∀ p, H p = none → Q (.ref p) (upd H p (.lst vs)) := by
  unfold mkLst at hm
  split at hm
  · rename_i hl
    cases hm
    refine ⟨h.length ▸ hl, fun p hp => ?_⟩
    exact k _ _ _ (R.newL hp h) (Stp.push hp) (DV.new R)
  · cases hm
def mTup (ml : MA) : ME := fun E C => (ml E C).bind fun p => mkTup p.1 p.2
def mLst (ml : MA) : ME := fun E C => (ml E C).bind fun p => mkLst p.1 p.2
theorem se_tup {x1} (hl : SA F es ml) : SE F (.Tuple es x1 pos) (mTup ml) := by
  obtain ⟨tl, pl, sl⟩ := hl
  refine ⟨_, fun X h => pe_tup (pl X h), fun ρ C H E σ d C' Q R eo hm k => ?_⟩
  obtain ⟨⟨ds, C1⟩, h1, hm⟩ := obind hm
  exact sl ρ C H E σ ds C1 _ R eo h1 fun ρ1 H1 v1 R1 s1 d1 => mkTup_post R1 d1 hm (k.step s1)
theorem se_lst (hl : SA F es ml) : SE F (.List es pos) (mLst ml) := by
  obtain ⟨tl, pl, sl⟩ := hl
  refine ⟨_, fun X h => pe_lst (pl X h), fun ρ C H E σ d C' Q R eo hm k => ?_⟩
  obtain ⟨⟨ds, C1⟩, h1, hm⟩ := obind hm
  exact sl ρ C H E σ ds C1 _ R eo h1 fun ρ1 H1 v1 R1 s1 d1 => mkLst_post R1 d1 hm (k.step s1)
/-! ## calls of built-ins, methods, subscripts -/
def mCallB (op : ODL) (ml : MA) : ME := fun E C => (ml E C).bind fun p => op p.1 p.2
theorem Fm.Is.gl (h : F.Is X) (hg : F.sc.names.lookup x = some .globalImplicit) : Gl X x := show X.env.scope.names.lookup x = some .globalImplicit by rw [h.sc]; exact hg
theorem se_callB {id : String} {op : ODL} (hc : SCall F (.builtin id) op) (hm : F.mg x = none) (hv : bootBuiltins x = some (.builtin id)) (ha : SA F (e :: es) ml) (hg : F.sc.names.lookup x = some .globalImplicit := by rfl) (hn : x ≠ "__name__" := by decide) (hdb : (x == ("__debug__" : Str)) = false := by decide)
    (he : ∀ env : Env, starEach (e :: es) env = (false, eval e env) :: starEach es env := by intro _; rfl) (hpl : ∀ env : Env, (backTo pos (starEach es env)).any (·.1) = false := by intro _; rfl) : SE F (.Call (.Name x p) (e :: es) [] pos) (mCallB op ml) := by
  obtain ⟨r, hr, sr⟩ := hc
  obtain ⟨tl, pl, sl⟩ := ha
  refine ⟨_, fun X h => pe_callB (hr X h) (h.gl hg) (by rw [h.mg]; exact hm) hv (pl X h) hn hdb (he _) (hpl _), fun ρ C H E σ d C' Q R eo hm k => ?_⟩
  obtain ⟨⟨ds, C1⟩, h1, hm⟩ := obind hm
  exact sl ρ C H E σ ds C1 _ R eo h1 fun ρ1 H1 v1 R1 s1 d1 => sr ρ1 C1 H1 ds v1 d C' Q R1 d1 hm (k.step s1)
theorem se_callTy {T : String} {op : ODL} (hc : SCall F (.type T) op) (hm : F.mg x = none) (hv : bootBuiltins x = some (.type T)) (ha : SA F (e :: es) ml) (hg : F.sc.names.lookup x = some .globalImplicit := by rfl) (hn : x ≠ "__name__" := by decide) (hdb : (x == ("__debug__" : Str)) = false := by decide)
    (he : ∀ env : Env, starEach (e :: es) env = (false, eval e env) :: starEach es env := by intro _; rfl) (hpl : ∀ env : Env, (backTo pos (starEach es env)).any (·.1) = false := by intro _; rfl) : SE F (.Call (.Name x p) (e :: es) [] pos) (mCallB op ml) := by
  obtain ⟨r, hr, sr⟩ := hc
  obtain ⟨tl, pl, sl⟩ := ha
  refine ⟨_, fun X h => pe_callTy (hr X h) (h.gl hg) (by rw [h.mg]; exact hm) hv (pl X h) hn hdb (he _) (hpl _), fun ρ C H E σ d C' Q R eo hm k => ?_⟩
  obtain ⟨⟨ds, C1⟩, h1, hm⟩ := obind hm
  exact sl ρ C H E σ ds C1 _ R eo h1 fun ρ1 H1 v1 R1 s1 d1 => sr ρ1 C1 H1 ds v1 d C' Q R1 d1 hm (k.step s1)
/-- what kind a value is, for a method's look-up -/
def tyD (T : String) (d : D) (C : Hm) : Bool := match d with
  | .str _ => T == "str"
  | .cell n => match C[n]? with
    | some (.lst _) => T == "list"
    | some (.dic _) => T == "dict"
    | _ => false
  | _ => false
def mMeth (T : String) (op : ODM) (mo : ME) (ml : MA) : ME := fun E C => (mo E C).bind fun p => if tyD T p.1 p.2 = true then (ml E p.2).bind fun q => op p.1 q.1 q.2 else none
end
end Mi
set_option Elab.async false
set_option linter.all false
set_option maxRecDepth 100000
set_option maxHeartbeats 4000000
namespace Mi
open PySem PySem.Spec PyProof.Rows L2
section
variable {F : Fm} {X : Cx} {a b c e o : Expr} {es : List Expr} {pos p : Pos} {x : Str} {i : Nat} {ma mb mc me mo : ME} {mt mu : MT} {ml : MA}
/-! ## chains of comparisons -/
theorem se_chain {op op' : CmpOp} {f g : OD2} (ho : SOp F (compareOp op) f) (ho' : SOp F (compareOp op') g) (ha : SE F a ma) (hb : SE F b mb) (hc : SE F c mc) (hmk : lastMarks [op, op'] [b, c] = false := by with_unfolding_all rfl) :
    SE F (.Compare a [op, op'] [b, c] pos) (mChain f g ma mb mc) := by
  obtain ⟨r, hr, sr⟩ := ho
  obtain ⟨q, hq, sq⟩ := ho'
  obtain ⟨ta, pa, sa⟩ := ha
  obtain ⟨tb, pb, sb⟩ := hb
  obtain ⟨tc, pc, sc⟩ := hc
  refine ⟨_, fun X h => pe_chain (hr X h) (hq X h) (pa X h) (pb X h) (pc X h) hmk, fun ρ C H E σ d C' Q R eo hm k => ?_⟩
  obtain ⟨⟨x, C1⟩, h1, hm⟩ := obind hm
  obtain ⟨⟨y, C2⟩, h2, hm⟩ := obind hm
  obtain ⟨⟨z, C3⟩, h3, hm⟩ := obind hm
  refine sa ρ C H E σ x C1 _ R eo h1 fun ρ1 H1 v1 R1 s1 d1 => ?_
  refine sb ρ1 C1 H1 E σ y C2 _ R1 (eo.mono s1) h2 fun ρ2 H2 v2 R2 s2 d2 => ?_
  refine sr ρ2 C2 H2 x y v1 v2 _ C3 _ R2 (d1.mono s2) d2 (asB_some h3) fun ρ3 H3 v3 R3 s3 d3 => ?_
  cases d3
  refine ⟨z, rfl, ?_⟩
  have s := (s1.trans s2).trans s3
  cases z with
  | false => cases hm; exact (k.step s).now R3 (.bl false)
  | true =>
    obtain ⟨⟨w, C4⟩, h4, hm⟩ := obind hm
    refine sc ρ3 C3 H3 E σ w C4 _ R3 (eo.mono s) h4 fun ρ4 H4 v4 R4 s4 d4 => ?_
    exact sq ρ4 C4 H4 y w v2 v4 d C' Q R4 (d2.mono (s3.trans s4)) d4 hm (k.step (s.trans s4))
theorem st_chain {op op' : CmpOp} {f g : OD2} (ho : SOp F (compareOp op) f) (ho' : SOp F (compareOp op') g) (ha : SE F a ma) (hb : SE F b mb) (hc : SE F c mc) (hmk : lastMarks [op, op'] [b, c] = false := by with_unfolding_all rfl) :
    ST F (.Compare a [op, op'] [b, c] pos) (mTest (mChain f g ma mb mc)) := by
  obtain ⟨r, hr, sr⟩ := ho
  obtain ⟨q, hq, sq⟩ := ho'
  obtain ⟨ta, pa, sa⟩ := ha
  obtain ⟨tb, pb, sb⟩ := hb
  obtain ⟨tc, pc, sc⟩ := hc
  refine ⟨_, fun X h => pt_chain (hr X h) (hq X h) (pa X h) (pb X h) (pc X h) hmk, fun ρ C H E σ d C' Q R eo hm k => ?_⟩
  have hm := asB_some hm
  obtain ⟨⟨x, C1⟩, h1, hm⟩ := obind hm
  obtain ⟨⟨y, C2⟩, h2, hm⟩ := obind hm
  obtain ⟨⟨z, C3⟩, h3, hm⟩ := obind hm
  refine sa ρ C H E σ x C1 _ R eo h1 fun ρ1 H1 v1 R1 s1 d1 => ?_
  refine sb ρ1 C1 H1 E σ y C2 _ R1 (eo.mono s1) h2 fun ρ2 H2 v2 R2 s2 d2 => ?_
  refine sr ρ2 C2 H2 x y v1 v2 _ C3 _ R2 (d1.mono s2) d2 (asB_some h3) fun ρ3 H3 v3 R3 s3 d3 => ?_
  cases d3
  refine ⟨z, rfl, ?_⟩
  have s := (s1.trans s2).trans s3
  cases z with
  | false => cases hm; exact ⟨false, rfl, k ρ3 H3 R3 s⟩
  | true =>
    obtain ⟨⟨w, C4⟩, h4, hm⟩ := obind hm
    refine sc ρ3 C3 H3 E σ w C4 _ R3 (eo.mono s) h4 fun ρ4 H4 v4 R4 s4 d4 => ?_
    exact sq ρ4 C4 H4 y w v2 v4 _ C' _ R4 (d2.mono (s3.trans s4)) d4 hm fun ρ5 H5 v R5 s5 dv => by
      cases dv
      exact ⟨d, rfl, k ρ5 H5 R5 ((s.trans s4).trans s5)⟩
/-! ## truth of any value -/
def truD (d : D) (C : Hm) : Option Bool := match d with
  | .non => some false
  | .bl b => some b
  | .int i => some (i != 0)
  | .str y => if y.length ≤ sizeLine then some ((y.length : Int) != 0) else none
  | .tup ds => some (!ds.isEmpty)
  | .cell n => match C[n]? with
    | some (.lst ds) => some (!ds.isEmpty)
    | some (.dic ks) => some (!ks.isEmpty)
    | _ => none
  | .rol ns => some (!ns.isEmpty)
  | .fn _ => none
  | .ty _ => none
theorem DVs.isEmpty {K : PySem.W.Frag} {ft : Cfg} {ρ : List Addr} {H : Hp} {ds : List D} {vs : List V} (h : DVs K ft ρ H ds vs) : ds.isEmpty = vs.isEmpty := by cases h <;> rfl
theorem truD_ok {ρ : List Addr} {H : Hp} {C : Hm} {d : D} {v : V} {k : Bool} (R : RelF F ρ H C) (h : DVF F ρ H d v) (e : truD d C = some k) : TruV F.K v H k := by
  cases h with
  | non => cases e; rfl
  | bl b => cases e; rfl
  | int i => cases e; rfl
  | str y =>
    unfold truD at e
    simp only at e
    split at e
    · rename_i hl; cases e; exact ⟨hl, rfl⟩
    · cases e
  | tup h r => cases e; exact .inr (.inl ⟨_, h, by rw [r.isEmpty]⟩)
  | @cell n a h =>
    unfold truD at e
    simp only at e
    split at e
    · rename_i ds q
      cases e
      obtain ⟨a', vs, e1, e2, e3, e4⟩ := R.lst q (.cell h)
      cases e1
      exact .inl ⟨vs, SqL.of e3, by rw [e4.isEmpty]⟩
    · rename_i ks q
      cases e
      obtain ⟨a', vs, e1, e2, e3, e4⟩ := R.dic q (.cell h)
      cases e1
      refine .inr (.inr ⟨_, e3, ?_⟩)
      cases e4 <;> rfl
    · cases e
  | fn n => cases e
  | rol h => cases e; exact .inl ⟨_, h.1, by simp⟩
  | ty t => cases e
def mTru (m : ME) : MT := fun E C => (m E C).bind fun p => (truD p.1 p.2).map fun b => (b, p.2)
theorem st_tru (he : SE F e me) (hw : ∀ (env : Env) whole, isTrue e env whole = (do let v ← whole; standAt e.pos; holding [v] (truthy v)) := by intro _ _; rfl) : ST F e (mTru me) := by
  obtain ⟨t, p, s⟩ := he
  refine ⟨fun σ H Q => t σ H fun x H' => ∃ k, TruV F.K x H' k ∧ Q k H', fun X h => by have z := pt_truth (p X h) (hw X.env); rw [h.K] at z; exact z, fun ρ C H E σ d C' Q R eo hm k => ?_⟩
  obtain ⟨⟨x, C1⟩, h1, hm⟩ := obind hm
  cases q : truD x C1 with
  | none => simp only [q] at hm; cases hm
  | some b =>
    simp only [q] at hm
    cases hm
    exact s ρ C H E σ _ _ _ R eo h1 fun ρ3 H3 v R3 s3 dv => ⟨_, truD_ok R3 dv q, k ρ3 H3 R3 s3⟩
/-! ## methods, subscripts, slices -/
theorem tyD_ok {ρ : List Addr} {H : Hp} {C : Hm} {d : D} {v : V} {T : String} (R : RelF F ρ H C) (h : DVF F ρ H d v) (e : tyD T d C = true) : tyV F.K T v H := by
  cases h with
  | str y => exact eq_of_beq e
  | @cell n a h =>
    unfold tyD at e
    simp only at e
    split at e
    · rename_i ds q
      obtain ⟨a', vs, e1, e2, e3, e4⟩ := R.lst q (.cell h)
      cases e1
      exact .inl ⟨eq_of_beq e, vs, SqL.of e3⟩
    · rename_i ks q
      obtain ⟨a', vs, e1, e2, e3, e4⟩ := R.dic q (.cell h)
      cases e1
      exact .inr (.inr (.inl ⟨eq_of_beq e, .inl ⟨_, e3⟩⟩))
    · cases e
  | _ => cases e
theorem se_bm {T id : String} {name : Str} {apos : Pos} {op : ODM} (pa : PlainAttrs T) (slot : Slot T name id) (hty : typeOf (.builtin id) = pure (.type "method_descriptor")) (hmt : SMt F T id op) (ho : SE F o mo) (ha : SA F (e :: es) ml)
    (hbase : ∀ env : Env, attributeBase o name env (eval o env) = eval o env := by intro _; rfl)
    (hfew : ∀ env : Env, ((backTo pos (starEach (e :: es) env)).all (fun x => !x.1) && (backToKw pos (keywordEach [] env)).all (fun x => x.1.isSome)
      && decide ((e :: es).length + ([] : List Keyword).length + (if ([] : List Keyword).isEmpty then 0 else 1) < 30)) = true := by intro _; rfl)
    (hline : (apos.endLine == pos.line) = true := by rfl) (hs : ∀ env : Env, starEach (e :: es) env = (false, eval e env) :: starEach es env := by intro _; rfl) (hplain : ∀ env : Env, (backTo pos (starEach es env)).any (·.1) = false := by intro _; rfl) :
    SE F (.Call (.Attribute o name apos) (e :: es) [] pos) (mMeth T op mo ml) := by
  obtain ⟨r, hr, sr⟩ := hmt
  obtain ⟨to, po, so⟩ := ho
  obtain ⟨tl, pl, sl⟩ := ha
  refine ⟨tBM F.K T r to tl, fun X h => by have z := pe_bm pa slot hty (hr X h) (po X h) (pl X h) (hbase _) (hfew _) hline (hs _) (hplain _); rw [h.K] at z; exact z, fun ρ C H E σ d C' Q R eo hm k => ?_⟩
  obtain ⟨⟨x, C1⟩, h1, hm⟩ := obind hm
  simp only at hm
  split at hm
  · rename_i ty
    obtain ⟨⟨ys, C2⟩, h2, hm⟩ := obind hm
    refine so ρ C H E σ x C1 _ R eo h1 fun ρ1 H1 v1 R1 s1 d1 => ⟨tyD_ok R1 d1 ty, ?_⟩
    refine sl ρ1 C1 H1 E σ ys C2 _ R1 (eo.mono s1) h2 fun ρ2 H2 v2 R2 s2 d2 => ?_
    exact sr ρ2 C2 H2 x ys v1 v2 d C' Q R2 (d1.mono s2) d2 hm (k.step (s1.trans s2))
  · cases hm
theorem se_bm0 {T id : String} {name : Str} {apos : Pos} {op : ODM} (pa : PlainAttrs T) (slot : Slot T name id) (hty : typeOf (.builtin id) = pure (.type "method_descriptor")) (hmt : SMt F T id op) (ho : SE F o mo)
    (hbase : ∀ env : Env, attributeBase o name env (eval o env) = eval o env := by intro _; rfl) (hline : (apos.endLine == pos.line) = true := by rfl) : SE F (.Call (.Attribute o name apos) [] [] pos) (mMeth T op mo mNil) := by
  obtain ⟨r, hr, sr⟩ := hmt
  obtain ⟨to, po, so⟩ := ho
  refine ⟨tBM0 F.K T r to, fun X h => by have z := pe_bm0 pa slot hty (hr X h) (po X h) (hbase _) hline; rw [h.K] at z; exact z, fun ρ C H E σ d C' Q R eo hm k => ?_⟩
  obtain ⟨⟨x, C1⟩, h1, hm⟩ := obind hm
  simp only at hm
  split at hm
  · rename_i ty
    obtain ⟨⟨ys, C2⟩, h2, hm⟩ := obind hm
    cases h2
    refine so ρ C H E σ x C1 _ R eo h1 fun ρ1 H1 v1 R1 s1 d1 => ⟨tyD_ok R1 d1 ty, ?_⟩
    exact sr ρ1 C1 H1 x [] v1 [] d C' Q R1 d1 .nil hm (k.step s1)
  · cases hm
/-- o[i] by values -/
def SIx (F : Fm) (op : OD2) : Prop := ∃ r : R2, (∀ X, F.Is X → IxR X r) ∧ ∀ ρ C H x y vx vy d C' Q, RelF F ρ H C → DVF F ρ H x vx → DVF F ρ H y vy → op x y C = some (d, C') → Post F ρ H d C' Q → r vx vy H Q
theorem se_ix {f : OD2} (ho : SIx F f) (ha : SE F a ma) (hb : SE F b mb) (hs : PlainIx b := by intro _ _; rfl) : SE F (.Subscript a b pos) (mBin f ma mb) := by
  obtain ⟨r, hr, sr⟩ := ho
  obtain ⟨ta, pa, sa⟩ := ha
  obtain ⟨tb, pb, sb⟩ := hb
  refine ⟨_, fun X h => pe_ix (hr X h) (pa X h) (pb X h) hs, fun ρ C H E σ d C' Q R eo hm k => ?_⟩
  obtain ⟨⟨x, C1⟩, h1, hm⟩ := obind hm
  obtain ⟨⟨y, C2⟩, h2, hm⟩ := obind hm
  refine sa ρ C H E σ x C1 _ R eo h1 fun ρ1 H1 v1 R1 s1 d1 => ?_
  refine sb ρ1 C1 H1 E σ y C2 _ R1 (eo.mono s1) h2 fun ρ2 H2 v2 R2 s2 d2 => ?_
  exact sr ρ2 C2 H2 x y v1 v2 d C' Q R2 (d1.mono s2) d2 hm (k.step (s1.trans s2))
abbrev MO := Ev → Hm → Option (Option Int × Hm)
def SO (F : Fm) (e : Option Expr) (m : MO) : Prop := ∃ t : TO, (∀ X, F.Is X → PO X e t) ∧ ∀ ρ C H E σ z C' Q, RelF F ρ H C → EnvF F ρ H E σ → m E C = some (z, C') → (∀ ρ' H', RelF F ρ' H' C' → Stp ρ H ρ' H' → Q z H') → t σ H Q
def oNone : MO := fun _ C => some (none, C)
def oSome (m : ME) : MO := fun E C => match m E C with | some (.int i, C') => some (some i, C') | _ => none
theorem so_none : SO F none oNone := ⟨_, fun _ _ => po_none, fun ρ C H E σ z C' Q R eo hm k => by cases hm; exact k ρ H R .refl⟩
theorem so_some (h : SE F e me) : SO F (some e) (oSome me) := by
  obtain ⟨t, p, s⟩ := h
  refine ⟨_, fun X h => po_some (p X h), fun ρ C H E σ z C' Q R eo hm k => ?_⟩
  unfold oSome at hm
  split at hm
  · rename_i i C1 q
    cases hm
    exact s ρ C H E σ _ _ _ R eo q fun ρ1 H1 v R1 s1 d1 => by cases d1; exact ⟨i, rfl, k ρ1 H1 R1 s1⟩
  · cases hm
abbrev ODS := D → Option Int → Option Int → Hm → Option (D × Hm)
def SSl (F : Fm) (op : ODS) : Prop := ∃ r, (∀ X, F.Is X → SlR X r) ∧ ∀ ρ C H x lo hi vx d C' Q, RelF F ρ H C → DVF F ρ H x vx → op x lo hi C = some (d, C') → Post F ρ H d C' Q → r vx lo hi H Q
def mSl (op : ODS) (ma : ME) (ml mh : MO) : ME := fun E C => (ma E C).bind fun p => (ml E p.2).bind fun q => (mh E q.2).bind fun r => op p.1 q.1 r.1 r.2
theorem se_slice {op : ODS} {lo hi : Option Expr} {p2 : Pos} {ml mh : MO} (hr : SSl F op) (he : SE F e me) (hl : SO F lo ml) (hu : SO F hi mh) : SE F (.Subscript e (.Slice lo hi none p2) pos) (mSl op me ml mh) := by
  obtain ⟨r, hr, sr⟩ := hr
  obtain ⟨te, pe, se⟩ := he
  obtain ⟨tl, pl, sl⟩ := hl
  obtain ⟨th, ph, sh⟩ := hu
  refine ⟨_, fun X h => pe_slice (hr X h) (pe X h) (pl X h) (ph X h), fun ρ C H E σ d C' Q R eo hm k => ?_⟩
  obtain ⟨⟨x, C1⟩, h1, hm⟩ := obind hm
  obtain ⟨⟨y, C2⟩, h2, hm⟩ := obind hm
  obtain ⟨⟨z, C3⟩, h3, hm⟩ := obind hm
  refine se ρ C H E σ x C1 _ R eo h1 fun ρ1 H1 v1 R1 s1 d1 => ?_
  refine sl ρ1 C1 H1 E σ y C2 _ R1 (eo.mono s1) h2 fun ρ2 H2 R2 s2 => ?_
  refine sh ρ2 C2 H2 E σ z C3 _ R2 (eo.mono (s1.trans s2)) h3 fun ρ3 H3 R3 s3 => ?_
  exact sr ρ3 C3 H3 x y z v1 d C' Q R3 (d1.mono (s2.trans s3)) hm (k.step ((s1.trans s2).trans s3))
/-! ## statements -/
def mSeq (m n : MS) : MS := fun E C => (m E C).bind fun o => match o with | .nx E' C' => n E' C' | o => some o
def mNext : MS := fun E C => some (.nx E C)
def mDrop (m : ME) : MS := fun E C => (m E C).bind fun p => some (.nx E p.2)
def mRet (m : ME) : MS := fun E C => (m E C).bind fun p => some (.rt p.1 p.2)
def mRetN : MS := fun E C => some (.rt .non C)
def mBreak : MS := fun E C => some (.bk E C)
def mCont : MS := fun E C => some (.ct E C)
def mIfS (mt : MT) (m n : MS) : MS := fun E C => (mt E C).bind fun p => if p.1 = true then m E p.2 else n E p.2
variable {st : Stmt} {rest sts : List Stmt} {ms ns : MS}
theorem sb_nil : SB F [] mNext := ⟨_, fun _ _ => pss_nil, fun ρ C H E σ o Z R eo hm k => by cases hm; exact k ρ H σ R .refl eo⟩
theorem evs_seq {t u : TS} (s1 : EvS F t ms) (s2 : EvS F u ns) : EvS F (tSeq t u) (mSeq ms ns) := fun ρ C H E σ o Z R eo hm k => by
  obtain ⟨o1, h1, hm⟩ := obind hm
  refine s1 ρ C H E σ o1 _ R eo h1 ?_
  cases o1 with
  | nx E1 C1 => exact fun ρ' H' σ' R' s' eo' => s2 ρ' C1 H' E1 σ' o Z R' eo' hm (k.step s')
  | rt d C1 => cases hm; exact k
  | bk E1 C1 => cases hm; exact k
  | ct E1 C1 => cases hm; exact k
theorem sb_cons (h1 : SS F st ms) (h2 : SB F rest ns) : SB F (st :: rest) (mSeq ms ns) := by
  obtain ⟨t, p, s⟩ := h1
  obtain ⟨u, q, r⟩ := h2
  exact ⟨_, fun X h => pss_cons (p X h) (q X h), evs_seq s r⟩
theorem sb_one (h1 : SS F st ms) : SB F [st] ms := by
  obtain ⟨t, p, s⟩ := h1
  exact ⟨_, fun X h => pss_one (p X h), s⟩
theorem ss_pass : SS F (.Pass pos) mNext := ⟨_, fun _ _ => ps_pass, fun ρ C H E σ o Z R eo hm k => by cases hm; exact k ρ H σ R .refl eo⟩
theorem ss_break : SS F (.Break pos) mBreak := ⟨_, fun _ _ => ps_break, fun ρ C H E σ o Z R eo hm k => by cases hm; exact k ρ H σ R .refl eo⟩
theorem ss_continue : SS F (.Continue pos) mCont := ⟨_, fun _ _ => ps_continue, fun ρ C H E σ o Z R eo hm k => by cases hm; exact k ρ H σ R .refl eo⟩
theorem ss_expr (he : SE F e me) (hs : ∀ env : Env, swapsWith e none pos.line env = pure false := by intro _; rfl) : SS F (.Expr e pos) (mDrop me) := by
  obtain ⟨t, p, s⟩ := he
  refine ⟨_, fun X h => ps_expr (p X h) (hs _), fun ρ C H E σ o Z R eo hm k => ?_⟩
  obtain ⟨⟨x, C1⟩, h1, hm⟩ := obind hm
  cases hm
  exact s ρ C H E σ x C1 _ R eo h1 fun ρ1 H1 v1 R1 s1 d1 => k ρ1 H1 σ R1 s1 (eo.mono s1)
theorem ss_ret (he : SE F e me) : SS F (.Return (some e) pos) (mRet me) := by
  obtain ⟨t, p, s⟩ := he
  refine ⟨_, fun X h => ps_ret (p X h), fun ρ C H E σ o Z R eo hm k => ?_⟩
  obtain ⟨⟨x, C1⟩, h1, hm⟩ := obind hm
  cases hm
  exact s ρ C H E σ x C1 _ R eo h1 fun ρ1 H1 v1 R1 s1 d1 => k ρ1 H1 v1 R1 s1 d1
theorem ss_retN : SS F (.Return none pos) mRetN := ⟨_, fun _ _ => ps_retN, fun ρ C H E σ o Z R eo hm k => by cases hm; exact k ρ H .non R .refl .non⟩
theorem ss_if (hc : ST F c mt) (ha : SB F sts ms) (hb : SB F rest ns) : SS F (.If c sts rest pos) (mIfS mt ms ns) := by
  obtain ⟨tc, pc, sc⟩ := hc
  obtain ⟨ta, pa, sa⟩ := ha
  obtain ⟨tb, pb, sb⟩ := hb
  refine ⟨_, fun X h => ps_if (pc X h) (pa X h) (pb X h), fun ρ C H E σ o Z R eo hm k => ?_⟩
  obtain ⟨⟨x, C1⟩, h1, hm⟩ := obind hm
  refine sc ρ C H E σ x C1 _ R eo h1 fun ρ1 H1 R1 s1 => ?_
  cases x with
  | true => exact sa ρ1 C1 H1 E σ o Z R1 (eo.mono s1) hm (k.step s1)
  | false => exact sb ρ1 C1 H1 E σ o Z R1 (eo.mono s1) hm (k.step s1)
/-! ## targets -/
abbrev MG := D → Ev → Option Ev
def EvG (F : Fm) (g : TG) (slots : List Nat) (m : MG) : Prop := ∀ ρ C H E σ d v E' Q, RelF F ρ H C → EnvF F ρ H E σ → DVF F ρ H d v → m d E = some E' →
  (∀ σ', EnvF F ρ H E' σ' → (∀ vs : List Nat, (∀ i ∈ slots, i ∈ vs) → wipe σ' vs = wipe σ vs) → Q σ' H) → g v σ H Q
def EvGs (F : Fm) (g : TGs) (slots : List Nat) (m : List D → Ev → Option Ev) : Prop := ∀ ρ C H E σ ds vs E' Q, RelF F ρ H C → EnvF F ρ H E σ → DVsF F ρ H ds vs → m ds E = some E' →
  (∀ σ', EnvF F ρ H E' σ' → (∀ vs : List Nat, (∀ i ∈ slots, i ∈ vs) → wipe σ' vs = wipe σ vs) → Q σ' H) → g vs σ H Q
def SG (F : Fm) (e : Expr) (slots : List Nat) (m : MG) : Prop := ∃ g, (∀ X, F.Is X → PG X e g) ∧ EvG F g slots m
def SGs (F : Fm) (es : List Expr) (slots : List Nat) (m : List D → Ev → Option Ev) : Prop := ∃ g, (∀ X, F.Is X → PGs X es g) ∧ EvGs F g slots m
theorem wipe_set {σ : L2.St} {i : Nat} {z : Option V} : ∀ {vs : List Nat}, i ∈ vs → wipe (σ.set i z) vs = wipe σ vs
  | [], h => by simp at h
  | v :: vs, h => by
    by_cases hv : i ∈ vs
    · unfold wipe; rw [wipe_set hv]
    · have e : i = v := by
        rcases List.mem_cons.mp h with e | e
        · exact e
        · exact absurd e hv
      subst e
      have aux : ∀ {ws : List Nat}, i ∉ ws → wipe (σ.set i z) ws = (wipe σ ws).set i z := by
        intro ws
        induction ws with
        | nil => intro _; rfl
        | cons w ws ih =>
          intro hw
          simp only [List.mem_cons, not_or] at hw
          unfold wipe
          rw [ih hw.2, List.set_comm _ _ hw.1]
      unfold wipe
      rw [aux hv, List.set_set]
theorem EnvOk.set {K : PySem.W.Frag} {ft : Cfg} {ρ : List Addr} {H : Hp} {E : Ev} {σ : L2.St} {i : Nat} {d : D} {v : V} (h : EnvOk K ft ρ H E σ) (hd : DV K ft ρ H d v) : EnvOk K ft ρ H (E.set i (some d)) (σ.set i (some v)) := by
  refine ⟨by simp [h.len], fun j z e => ?_⟩
  by_cases hj : i = j
  · subst hj
    have hi : i < E.length := by
      have := (List.getElem?_eq_some_iff.mp e).1
      simpa using this
    rw [List.getElem?_set_self hi] at e
    cases e
    exact ⟨v, List.getElem?_set_self (by rw [← h.len]; exact hi), hd⟩
  · rw [List.getElem?_set_ne hj] at e
    obtain ⟨w, q1, q2⟩ := h.at_ j z e
    exact ⟨w, by rw [List.getElem?_set_ne hj]; exact q1, q2⟩
def gN (i : Nat) : MG := fun d E => some (E.set i (some d))
theorem sg_name (i : Nat) (hN : F.N[i]? = some x := by rfl) (hx : Loc F.sc x := by first | exact Or.inl rfl | exact Or.inr rfl) (hf : F.fn x = true ∨ F.sc.names.lookup x = some .local := by first | exact .inl rfl | exact .inr rfl) : SG F (.Name x pos) [i] (gN i) := by
  refine ⟨gName i, fun X h => pg_name h.nd (by rw [h.N]; exact hN) (by rw [h.sc]; exact hx) (by rw [h.sc, h.fn]; exact hf), fun ρ C H E σ d v E' Q R eo dv hm k => ?_⟩
  cases hm
  exact k _ (eo.set dv) fun vs hs => wipe_set (hs i (by simp))
def gsNil : List D → Ev → Option Ev := fun ds E => match ds with | [] => some E | _ => none
def gsCons (m : MG) (n : List D → Ev → Option Ev) : List D → Ev → Option Ev := fun ds E => match ds with | d :: r => (m d E).bind fun E' => n r E' | [] => none
theorem sgs_nil : SGs F [] [] gsNil := by
  refine ⟨gNil, fun _ _ => pgs_nil, fun ρ C H E σ ds vs E' Q R eo dv hm k => ?_⟩
  cases dv with
  | nil => cases hm; exact ⟨rfl, k σ eo fun _ _ => rfl⟩
  | cons _ _ => cases hm
theorem sgs_cons {s1 s2 : List Nat} {m : MG} {n : List D → Ev → Option Ev} (h1 : SG F e s1 m) (h2 : SGs F es s2 n) (hs : ∀ X, F.Is X → ∀ (g : TG) (u : TGs), PG X e g → PGs X es u → PGs X (e :: es) (gCons g u) := by intro X _ g u a b; exact pgs_cons a b) : SGs F (e :: es) (s1 ++ s2) (gsCons m n) := by
  obtain ⟨g, p, q⟩ := h1
  obtain ⟨u, p2, q2⟩ := h2
  refine ⟨gCons g u, fun X h => hs X h g u (p X h) (p2 X h), fun ρ C H E σ ds vs E' Q R eo dv hm k => ?_⟩
  cases dv with
  | nil => cases hm
  | @cons d ds v vs dh dt =>
    obtain ⟨E1, e1, hm⟩ := obind hm
    refine ⟨v, vs, rfl, q ρ C H E σ d v E1 _ R eo dh e1 fun σ1 eo1 w1 => ?_⟩
    refine q2 ρ C H E1 σ1 ds vs E' _ R eo1 dt hm fun σ2 eo2 w2 => ?_
    exact k σ2 eo2 fun ws hw => (w2 ws fun i hi => hw i (List.mem_append_right _ hi)).trans (w1 ws fun i hi => hw i (List.mem_append_left _ hi))
def gT (n : Nat) (m : List D → Ev → Option Ev) : MG := fun d E => match d with | .tup ds => if ds.length = n then m ds E else none | _ => none
end
end Mi
set_option Elab.async false
set_option linter.all false
set_option maxRecDepth 100000
set_option maxHeartbeats 4000000
namespace Mi
open PySem PySem.Spec PyProof.Rows L2
section
variable {F : Fm} {X : Cx} {a b c e o tg iter value : Expr} {es : List Expr} {pos pos' p : Pos} {x y : Str} {i j : Nat} {ma mb mc me mo mv : ME} {mt mu : MT} {ml : MA} {st : Stmt} {rest sts body : List Stmt} {ms ns : MS}
theorem sg_tup {k : Nat} {slots : List Nat} {n : Nat} {m : List D → Ev → Option Ev} (h : SGs F es slots m) (hn : ∀ env : Env, (assignEach es env).length = n := by intro _; rfl) (hst : ∀ env : Env, (assignEach es env).findIdx? (·.1) = none := by intro _; rfl) : SG F (.Tuple es k pos) slots (gT n m) := by
  obtain ⟨g, q, s⟩ := h
  refine ⟨gTup F.K n g, fun X h => by have z := pg_tup (pos := pos) (k := k) h.calm (q X h) (hn _) (hst _); rw [h.K] at z; exact z, fun ρ C H E σ d v E' Q R eo dv hm kk => ?_⟩
  unfold gT at hm
  split at hm
  · rename_i ds
    split at hm
    · rename_i hl
      cases dv with
      | tup hs hd => exact ⟨_, _, rfl, hs, by rw [← hd.length]; exact hl, s ρ C H E σ ds _ E' Q R eo hd hm kk⟩
    · cases hm
  · cases hm
/-! ## assignments -/
def mAsg (me : ME) (g : MG) : MS := fun E C => (me E C).bind fun p => (g p.1 E).bind fun E' => some (.nx E' p.2)
theorem ss_set (i : Nat) (he : SE F e me) (hN : F.N[i]? = some x := by rfl) (hx : Loc F.sc x := by first | exact Or.inl rfl | exact Or.inr rfl) (hf : F.fn x = true ∨ F.sc.names.lookup x = some .local := by first | exact .inl rfl | exact .inr rfl)
    (hs : ∀ env : Env, swapsWith e (some (.Name x pos')) pos.line env = pure false := by intro _; rfl) : SS F (.Assign [.Name x pos'] e pos) (mAsg me (gN i)) := by
  obtain ⟨t, q, s⟩ := he
  refine ⟨_, fun X h => ps_set h.nd (by rw [h.N]; exact hN) (by rw [h.sc]; exact hx) (q X h) (hs _) (by rw [h.sc, h.fn]; exact hf), fun ρ C H E σ o Z R eo hm k => ?_⟩
  obtain ⟨⟨x, C1⟩, h1, hm⟩ := obind hm
  cases hm
  exact s ρ C H E σ x C1 _ R eo h1 fun ρ1 H1 v1 R1 s1 d1 => k ρ1 H1 _ R1 s1 ((eo.mono s1).set d1)
theorem ss_asg {slots : List Nat} {g : MG} (he : SE F e me) (hg : SG F tg slots g) (hs : ∀ env : Env, swapsWithSole [tg] e pos.line env = pure false := by intro _; rfl) (hw : ∀ env : Env, swappedStores [tg] e env = pure none := by intro _; rfl)
    (h1 : ∀ env : Env, (assignEach [tg] env).map (·.2) = [assign tg env] := by intro _; rfl) : SS F (.Assign [tg] e pos) (mAsg me g) := by
  obtain ⟨t, q, s⟩ := he
  obtain ⟨u, q2, s2⟩ := hg
  refine ⟨_, fun X h => ps_asg (q X h) (q2 X h) (hs _) (hw _) (h1 _), fun ρ C H E σ o Z R eo hm k => ?_⟩
  obtain ⟨⟨x, C1⟩, e1, hm⟩ := obind hm
  obtain ⟨E1, e2, hm⟩ := obind hm
  cases hm
  exact s ρ C H E σ x C1 _ R eo e1 fun ρ1 H1 v1 R1 s1 d1 => s2 ρ1 C1 H1 E σ x v1 E1 _ R1 (eo.mono s1) d1 e2 fun σ' eo' _ => k ρ1 H1 σ' R1 s1 eo'
def mPar (i j : Nat) (ml : MA) : MS := fun E C => (ml E C).bind fun p => match p.1 with | [d, e] => some (.nx ((E.set i (some d)).set j (some e)) p.2) | _ => none
theorem ss_par {px py pt pt2 : Pos} {kt k2 : Nat} (i j : Nat) (ha : SA F [a, b] ml) (hij : i ≠ j) (hN : F.N[i]? = some x := by rfl) (hM : F.N[j]? = some y := by rfl)
    (hx : F.sc.names.lookup x = some .local := by rfl) (hy : F.sc.names.lookup y = some .local := by rfl)
    (hw : ∀ env : Env, env.scope = F.sc → swappedStores [.Tuple [.Name x px, .Name y py] kt pt] (.Tuple [a, b] k2 pt2) env = pure (some [x, y]))
    (hs : ∀ env : Env, swapsWithSole [.Tuple [.Name x px, .Name y py] kt pt] (.Tuple [a, b] k2 pt2) pos.line env = pure false := by intro _; rfl) :
    SS F (.Assign [.Tuple [.Name x px, .Name y py] kt pt] (.Tuple [a, b] k2 pt2) pos) (mPar i j ml) := by
  obtain ⟨t, q, s⟩ := ha
  refine ⟨_, fun X h => ps_par h.calm h.nd (by rw [h.N]; exact hN) (by rw [h.N]; exact hM) hij (by rw [h.sc]; exact hx) (by rw [h.sc]; exact hy) (q X h) (hw _ h.sc) (hs _), fun ρ C H E σ o Z R eo hm k => ?_⟩
  obtain ⟨⟨ds, C1⟩, h1, hm⟩ := obind hm
  refine s ρ C H E σ ds C1 _ R eo h1 fun ρ1 H1 v1 R1 s1 d1 => ?_
  simp only at hm
  split at hm
  · rename_i d e
    cases hm
    cases d1 with
    | cons dh dt => cases dt with
      | cons dh2 dt2 =>
        cases dt2
        exact ⟨_, _, rfl, k ρ1 H1 _ R1 s1 (((eo.mono s1).set dh).set dh2)⟩
  · cases hm
/-- x op= e -/
def SIp (F : Fm) (op : Operator) (f : OD2) : Prop := ∃ r : TIp, (∀ X, F.Is X → PIp X op r) ∧ ∀ ρ C H x y vx vy d C' Q, RelF F ρ H C → DVF F ρ H x vx → DVF F ρ H y vy → f x y C = some (d, C') → Post F ρ H d C' Q → r vx vy H Q
def mAug (i : Nat) (f : OD2) (me : ME) : MS := fun E C => match E[i]? with
  | some (some d) => (me E C).bind fun p => (f d p.1 p.2).bind fun q => some (.nx (E.set i (some q.1)) q.2)
  | _ => none
theorem ss_aug {op : Operator} {f : OD2} (i : Nat) (ho : SIp F op f) (he : SE F e me) (hN : F.N[i]? = some x := by rfl) (hx : Loc F.sc x := by first | exact Or.inl rfl | exact Or.inr rfl) (hf : F.fn x = true ∨ F.sc.names.lookup x = some .local := by first | exact .inl rfl | exact .inr rfl) : SS F (.AugAssign (.Name x pos') op e pos) (mAug i f me) := by
  obtain ⟨r, hr, sr⟩ := ho
  obtain ⟨t, q, s⟩ := he
  refine ⟨_, fun X h => ps_aug h.nd (by rw [h.N]; exact hN) (by rw [h.sc]; exact hx) (q X h) (hr X h) (by rw [h.sc, h.fn]; exact hf), fun ρ C H E σ o Z R eo hm k => ?_⟩
  unfold mAug at hm
  split at hm
  · rename_i d q
    obtain ⟨v, q1, q2⟩ := eo.at_ i _ q
    obtain ⟨⟨x, C1⟩, h1, hm⟩ := obind hm
    obtain ⟨⟨z, C2⟩, h2, hm⟩ := obind hm
    cases hm
    refine ⟨v, q1, s ρ C H E σ x C1 _ R eo h1 fun ρ1 H1 v1 R1 s1 d1 => ?_⟩
    exact sr ρ1 C1 H1 d x v v1 z C2 _ R1 (q2.mono s1) d1 h2 fun ρ2 H2 v2 R2 s2 d2 => k ρ2 H2 _ R2 (s1.trans s2) ((eo.mono (s1.trans s2)).set d2)
  · cases hm
/-! ## what is walked -/
inductive Itm where
  | seq (ds : List D) | live (n : Nat) | enl (n : Nat)
def Itm.at (it : Itm) (C : Hm) (i : Nat) : Option (Option D) := match it with
  | .seq ds => some ds[i]?
  | .live n => match C[n]? with | some (.lst ds) => some ds[i]? | _ => none
  | .enl n => match C[n]? with | some (.lst ds) => some (ds[i]?.map fun d => D.tup [.int (i : Nat), d]) | _ => none
abbrev MI := Ev → Hm → Option (Itm × Nat × Hm)
def ItAt (F : Fm) (ρ1 : List Addr) (H1 : Hp) (C1 : Hm) (J : It) (i : Nat) : Option D → Prop
  | none => J.stop i H1
  | some x => J.go i H1 ∧ ∀ v H', J.yld i H1 v H' → RelF F ρ1 H' C1 ∧ Stp ρ1 H1 ρ1 H' ∧ DVF F ρ1 H' x v
def ItOk (F : Fm) (ρ : List Addr) (H : Hp) (it : Itm) (J : It) : Prop := ∀ ρ1 H1 C1, RelF F ρ1 H1 C1 → Wk ρ H ρ1 H1 → ∀ i r, it.at C1 i = some r → ItAt F ρ1 H1 C1 J i r
def SI (F : Fm) (tg iter : Expr) (m : MI) : Prop := ∃ wi, (∀ X, F.Is X → PI X tg iter wi) ∧ ∀ ρ C H E σ it n C' R, RelF F ρ H C → EnvF F ρ H E σ → m E C = some (it, n, C') → (∀ ρ' H' J, RelF F ρ' H' C' → Stp ρ H ρ' H' → ItOk F ρ' H' it J → R J H') → wi σ H R
def iSeqD (d : D) (C : Hm) : Option (Itm × Nat × Hm) := match d with
  | .tup ds => some (.seq ds, ds.length, C)
  | _ => none
def iLstD (d : D) (C : Hm) : Option (Itm × Nat × Hm) := match d with
  | .cell n => match C[n]? with | some (.lst ds) => some (.live n, ds.length, C) | _ => none
  | .rol ns => some (.seq (ns.map D.int), ns.length, C)
  | _ => none
def mITup (m : ME) : MI := fun E C => (m E C).bind fun p => iSeqD p.1 p.2
def mILst (m : ME) : MI := fun E C => (m E C).bind fun p => iLstD p.1 p.2
theorem Wk.mono_dvs {ρ ρ1 : List Addr} {H H1 : Hp} {K : PySem.W.Frag} {ft : Cfg} {ds : List D} {vs : List V} (h : DVs K ft ρ H ds vs) (s : Wk ρ H ρ1 H1) : DVs K ft ρ1 H1 ds vs := DVs.monoW s h
theorem itOk_tup {ρ : List Addr} {H : Hp} {a : Addr} {ds : List D} {vs : List V} (hs : SqT F.K H a vs) (hd : DVsF F ρ H ds vs) (inj : ∀ H1 xs ys, SqT F.K H1 a xs → SqT F.K H1 a ys → True) : ItOk F ρ H (.seq ds) (Itt F.K a) := by
  intro ρ1 H1 C1 R1 s1 i r hr
  simp only [Itm.at, Option.some.injEq] at hr
  have hs1 := s1.sqT hs
  have hd1 := DVs.monoW s1 hd
  subst hr
  cases q : ds[i]? with
  | none =>
    refine ⟨vs, hs1, ?_⟩
    rw [← hd1.length]
    exact List.getElem?_eq_none_iff.mp q
  | some x =>
    obtain ⟨v, e1, e2⟩ := hd1.get q
    refine ⟨⟨vs, v, hs1, e1⟩, fun w H' hy => ?_⟩
    obtain ⟨rfl, hy⟩ := hy
    have := hy vs hs1
    rw [e1] at this
    cases this
    exact ⟨R1, .refl, e2⟩
theorem si_tup (hl : SE F iter me) : SI F tg iter (mITup me) := by
  obtain ⟨t, q, s⟩ := hl
  refine ⟨iTup F.K t, fun X h => by have z := pi_tup (tg := tg) (q X h); rw [h.K] at z; exact z, fun ρ C H E σ it n C' Q R eo hm k => ?_⟩
  obtain ⟨⟨x, C1⟩, h1, hm⟩ := obind hm
  refine s ρ C H E σ x C1 _ R eo h1 fun ρ1 H1 v1 R1 s1 d1 => ?_
  simp only at hm
  unfold iSeqD at hm
  split at hm
  · rename_i ds
    cases hm
    cases d1 with
    | tup hs hd => exact ⟨_, rfl, ⟨_, hs⟩, k ρ1 H1 _ R1 s1 (itOk_tup hs hd fun _ _ _ _ _ => trivial)⟩
  · cases hm
theorem si_lst (hl : SE F iter me) : SI F tg iter (mILst me) := by
  obtain ⟨t, q, s⟩ := hl
  refine ⟨iList F.K t, fun X h => by have z := pi_list (tg := tg) (q X h); rw [h.K] at z; exact z, fun ρ C H E σ it n C' Q R eo hm k => ?_⟩
  obtain ⟨⟨x, C1⟩, h1, hm⟩ := obind hm
  refine s ρ C H E σ x C1 _ R eo h1 fun ρ1 H1 v1 R1 s1 d1 => ?_
  simp only at hm
  unfold iLstD at hm
  split at hm
  · rename_i n1
    split at hm
    · rename_i ds qc
      cases hm
      obtain ⟨a, vs, rfl, ea, e3, e4⟩ := R1.lst qc d1
      refine ⟨a, rfl, ⟨vs, SqL.of e3⟩, k ρ1 H1 _ R1 s1 ?_⟩
      intro ρ2 H2 C2 R2 s2 i r hr
      simp only [Itm.at] at hr
      split at hr
      · rename_i ds2 qc2
        cases hr
        obtain ⟨a2, vs2, e5, ea2, e6, e7⟩ := R2.lst qc2 (DV.monoW s2 d1)
        cases e5
        cases qq : ds2[i]? with
        | none => exact ⟨vs2, SqL.of e6, by rw [← e7.length]; exact List.getElem?_eq_none_iff.mp qq⟩
        | some x =>
          obtain ⟨v, e8, e9⟩ := e7.get qq
          refine ⟨⟨vs2, v, SqL.of e6, e8⟩, fun w H' hy => ?_⟩
          obtain ⟨rfl, hy⟩ := hy
          have := hy vs2 (SqL.of e6)
          rw [e8] at this
          cases this
          exact ⟨R2, .refl, e9⟩
      · cases hr
    · cases hm
  · rename_i ns1
    cases hm
    cases d1 with
    | rol h =>
      refine ⟨_, rfl, ⟨_, h.1⟩, k ρ1 H1 _ R1 s1 ?_⟩
      intro ρ2 H2 C2 R2 s2 i r hr
      simp only [Itm.at, Option.some.injEq] at hr
      have h2 := (s2.sqR h).1
      subst hr
      have e7 : DVsF F ρ2 H2 (ns1.map D.int) (ns1.map V.int) := DVs.ints ns1
      cases qq : (ns1.map D.int)[i]? with
      | none => exact ⟨_, h2, by rw [← e7.length]; exact List.getElem?_eq_none_iff.mp qq⟩
      | some x =>
        obtain ⟨v, e8, e9⟩ := e7.get qq
        refine ⟨⟨_, v, h2, e8⟩, fun w H' hy => ?_⟩
        obtain ⟨rfl, hy⟩ := hy
        have := hy _ h2
        rw [e8] at this
        cases this
        exact ⟨R2, .refl, e9⟩
  · cases hm
def rngD (lo : Int) (n : Nat) : List D := (List.range n).map fun k => D.int (lo + (k : Nat))
theorem itOk_rng {ρ : List Addr} {H : Hp} {lo : Int} {n : Nat} : ItOk F ρ H (.seq (rngD lo n)) (Itr lo n) := by
  intro ρ1 H1 C1 R1 s1 i r hr
  simp only [Itm.at, Option.some.injEq] at hr
  subst hr
  by_cases hi : i < n
  · have : (rngD lo n)[i]? = some (.int (lo + (i : Nat))) := by simp [rngD, hi]
    rw [this]
    refine ⟨hi, fun w H' hy => ?_⟩
    obtain ⟨rfl, rfl⟩ := hy
    exact ⟨R1, .refl, .int _⟩
  · have : (rngD lo n)[i]? = none := by simp [rngD]; omega
    rw [this]
    exact Nat.le_of_not_lt hi
def iRng1D (ds : List D) (C : Hm) : Option (Itm × Nat × Hm) := match ds with
  | [.int j] => if -(2 ^ 62) ≤ j ∧ j < 2 ^ 62 then some (.seq (rngD 0 j.toNat), j.toNat, C) else none
  | _ => none
def iRng2D (ds : List D) (C : Hm) : Option (Itm × Nat × Hm) := match ds with
  | [.int i, .int j] => if -(2 ^ 62) ≤ i ∧ i < 2 ^ 62 ∧ -(2 ^ 62) ≤ j ∧ j < 2 ^ 62 then some (.seq (rngD i (j - i).toNat), (j - i).toNat, C) else none
  | _ => none
def mIRng1 (ml : MA) : MI := fun E C => (ml E C).bind fun p => iRng1D p.1 p.2
def mIRng2 (ml : MA) : MI := fun E C => (ml E C).bind fun p => iRng2D p.1 p.2
theorem si_range1 {p : Pos} (hm : F.mg "range" = none) (ha : SA F [a] ml) (hg : F.sc.names.lookup (Str.ofString "range") = some .globalImplicit := by rfl) (hs : ∀ env : Env, starEach [a] env = [(false, eval a env)] := by intro _; rfl) : SI F tg (.Call (.Name "range" p) [a] [] pos) (mIRng1 ml) := by
  obtain ⟨t, q, s⟩ := ha
  refine ⟨_, fun X h => pi_range1 (h.gl hg) (by rw [h.mg]; exact hm) (q X h) (hs _), fun ρ C H E σ it n C' Q R eo hm k => ?_⟩
  obtain ⟨⟨ds, C1⟩, h1, hm⟩ := obind hm
  refine s ρ C H E σ ds C1 _ R eo h1 fun ρ1 H1 v1 R1 s1 d1 => ?_
  simp only at hm
  unfold iRng1D at hm
  split at hm
  · rename_i jv
    split at hm
    · rename_i hj
      cases hm
      cases d1 with | cons dh dt => cases dh; cases dt; exact ⟨_, rfl, hj.1, hj.2, k ρ1 H1 _ R1 s1 itOk_rng⟩
    · cases hm
  · cases hm
theorem si_range2 {p : Pos} (hm : F.mg "range" = none) (ha : SA F [a, b] ml) (hg : F.sc.names.lookup (Str.ofString "range") = some .globalImplicit := by rfl) (hs : ∀ env : Env, starEach [a, b] env = [(false, eval a env), (false, eval b env)] := by intro _; rfl) (hs2 : ∀ env : Env, starEach [b] env = [(false, eval b env)] := by intro _; rfl) :
    SI F tg (.Call (.Name "range" p) [a, b] [] pos) (mIRng2 ml) := by
  obtain ⟨t, q, s⟩ := ha
  refine ⟨_, fun X h => pi_range2 (h.gl hg) (by rw [h.mg]; exact hm) (q X h) (hs _) (hs2 _), fun ρ C H E σ it n C' Q R eo hm k => ?_⟩
  obtain ⟨⟨ds, C1⟩, h1, hm⟩ := obind hm
  refine s ρ C H E σ ds C1 _ R eo h1 fun ρ1 H1 v1 R1 s1 d1 => ?_
  simp only at hm
  unfold iRng2D at hm
  split at hm
  · rename_i iv jv
    split at hm
    · rename_i hj
      cases hm
      cases d1 with | cons dh dt => cases dh; cases dt with | cons dh dt => cases dh; cases dt; exact ⟨_, _, rfl, hj, k ρ1 H1 _ R1 s1 itOk_rng⟩
    · cases hm
  · cases hm
def strD (x : Str) : List D := x.cps.toList.map fun c => D.str ⟨#[c]⟩
def iStrD (d : D) (C : Hm) : Option (Itm × Nat × Hm) := match d with
  | .str x => some (.seq (strD x), x.cps.size, C)
  | _ => none
def mIStr (m : ME) : MI := fun E C => (m E C).bind fun p => iStrD p.1 p.2
theorem itOk_str {ρ : List Addr} {H : Hp} {x : Str} : ItOk F ρ H (.seq (strD x)) (Its x) := by
  intro ρ1 H1 C1 R1 s1 i r hr
  simp only [Itm.at, Option.some.injEq] at hr
  subst hr
  by_cases hi : i < x.cps.size
  · have : (strD x)[i]? = some (.str ⟨#[x.cps[i]]⟩) := by simp [strD, hi]
    rw [this]
    refine ⟨hi, fun w H' hy => ?_⟩
    obtain ⟨rfl, c, hc, rfl⟩ := hy
    have : x.cps[i] = c := by simpa [hi] using hc
    rw [this]
    exact ⟨R1, .refl, .str _⟩
  · have : (strD x)[i]? = none := by simp [strD]; omega
    rw [this]
    exact Nat.le_of_not_lt hi
theorem si_str (hl : SE F iter me) : SI F tg iter (mIStr me) := by
  obtain ⟨t, q, s⟩ := hl
  refine ⟨iStr t, fun X h => pi_str (q X h), fun ρ C H E σ it n C' Q R eo hm k => ?_⟩
  obtain ⟨⟨x, C1⟩, h1, hm⟩ := obind hm
  refine s ρ C H E σ x C1 _ R eo h1 fun ρ1 H1 v1 R1 s1 d1 => ?_
  simp only at hm
  unfold iStrD at hm
  split at hm
  · cases hm
    cases d1
    exact ⟨_, rfl, k ρ1 H1 _ R1 s1 itOk_str⟩
  · cases hm
/-! ## any sequence -/
def iAnyD (d : D) (C : Hm) : Option (Itm × Nat × Hm) := match d with
  | .tup ds => some (.seq ds, ds.length, C)
  | .str x => some (.seq (strD x), x.cps.size, C)
  | .cell n => match C[n]? with | some (.lst ds) => some (.live n, ds.length, C) | _ => none
  | .rol ns => some (.seq (ns.map D.int), ns.length, C)
  | _ => none
def mIAny (m : ME) : MI := fun E C => (m E C).bind fun p => iAnyD p.1 p.2
def iAnyR (K : PySem.W.Frag) (tl : TE) : TI := fun σ H R => tl σ H fun x H1 => (∃ a, x = .ref a ∧ (∃ xs, SqT K H1 a xs) ∧ R (Itt K a) H1) ∨ (∃ a, x = .ref a ∧ (∃ xs, SqL K H1 a xs) ∧ R (Itl K a) H1) ∨ ∃ z, x = .str z ∧ R (Its z) H1
/-- a value that is walked, whatever its kind: by the three rules at a name that holds it -/
theorem pi_any {X : Cx} {l : Expr} {tl : TE} (hl : PE X l tl) : PI X tg l (iAnyR X.K tl) := by
  constructor
  intro pins s σ H R I h
  refine thn (hl.run pins s σ H _ I h) fun v s1 hv => ?_
  obtain ⟨x, H1, I1, r1, q1⟩ := hv
  have pushed : ∀ (o : Obj), Inv X pins σ H1 { s1 with heap := s1.heap.push o } := fun o => I1.kept (t' := s1.toks) fun b u e => Heap.get?_push_of_some _ e
  have own : ∀ b ∈ [s1.heap.objs.size], FpOk X pins H1 b := fun b hb => by
    obtain rfl : b = s1.heap.objs.size := by simpa using hb
    exact I1.fpOk (Nat.le_refl _) I1.fresh
  rcases q1 with ⟨a, rfl, ⟨xs, hq⟩, q⟩ | ⟨a, rfl, ⟨xs, hq⟩, q⟩ | ⟨z, rfl, q⟩
  · obtain rfl : v = Value.ref a := r1
    obtain ⟨its, rv, p, hz⟩ := I1.tuple hq
    exact wpAny_pyIter_tuple (show s1.heap.IsTuple a its.toArray from p) ⟨_, [s1.heap.objs.size], _, _, H1, rfl, pushed _, turn_tuple a _, ⟨_, Heap.get?_push_size _ rfl, rfl, rfl⟩, own, q⟩
  · obtain rfl : v = Value.ref a := r1
    obtain ⟨its, rv, p, hz⟩ := I1.list hq
    exact wpAny_pyIter_list p.isList ⟨_, [s1.heap.objs.size], _, _, H1, rfl, pushed _, turn_list a _, ⟨_, Heap.get?_push_size _ rfl, rfl, rfl⟩, own, q⟩
  · obtain ⟨t, rfl⟩ := (show ∃ t, v = Value.str z t from r1)
    by_cases small : z.cps.all (· < 128) = true
    · exact wpAny_pyIter_ascii small (pi_one (tk := s1.toks) I1 _ (turn_str _ z t _ (.inl rfl)) ⟨_, Heap.get?_push_size _ rfl, rfl, rfl⟩ q)
    · exact wpAny_pyIter_wide (by simpa using small) (pi_one (tk := s1.toks) I1 _ (turn_str _ z t _ (.inr rfl)) ⟨_, Heap.get?_push_size _ rfl, rfl, rfl⟩ q)
theorem itOk_live {ρ : List Addr} {H : Hp} {n : Nat} {a : Addr} (ha : ρ[n]? = some a) : ItOk F ρ H (.live n) (Itl F.K a) := by
  intro ρ2 H2 C2 R2 s2 i r hr
  simp only [Itm.at] at hr
  split at hr
  · rename_i ds2 qc2
    cases hr
    obtain ⟨a2, vs2, e5, ea2, e6, e7⟩ := R2.lst qc2 (.cell (s2.get ha))
    cases e5
    cases qq : ds2[i]? with
    | none => exact ⟨vs2, SqL.of e6, by rw [← e7.length]; exact List.getElem?_eq_none_iff.mp qq⟩
    | some x =>
      obtain ⟨v, e8, e9⟩ := e7.get qq
      refine ⟨⟨vs2, v, SqL.of e6, e8⟩, fun w H' hy => ?_⟩
      obtain ⟨rfl, hy⟩ := hy
      have := hy vs2 (SqL.of e6)
      rw [e8] at this
      cases this
      exact ⟨R2, .refl, e9⟩
  · cases hr
theorem itOk_rol {ρ : List Addr} {H : Hp} {ns : List Int} {a : Addr} (h : SqR F.K H a (ns.map V.int)) : ItOk F ρ H (.seq (ns.map D.int)) (Itl F.K a) := by
  intro ρ2 H2 C2 R2 s2 i r hr
  simp only [Itm.at, Option.some.injEq] at hr
  have h2 := (s2.sqR h).1
  subst hr
  have e7 : DVsF F ρ2 H2 (ns.map D.int) (ns.map V.int) := DVs.ints ns
  cases qq : (ns.map D.int)[i]? with
  | none => exact ⟨_, h2, by rw [← e7.length]; exact List.getElem?_eq_none_iff.mp qq⟩
  | some x =>
    obtain ⟨v, e8, e9⟩ := e7.get qq
    refine ⟨⟨_, v, h2, e8⟩, fun w H' hy => ?_⟩
    obtain ⟨rfl, hy⟩ := hy
    have := hy _ h2
    rw [e8] at this
    cases this
    exact ⟨R2, .refl, e9⟩
theorem si_any (hl : SE F iter me) : SI F tg iter (mIAny me) := by
  obtain ⟨t, q, s⟩ := hl
  refine ⟨iAnyR F.K t, fun X h => by have z := pi_any (tg := tg) (q X h); rw [h.K] at z; exact z, fun ρ C H E σ it n C' Q R eo hm k => ?_⟩
  obtain ⟨⟨x, C1⟩, h1, hm⟩ := obind hm
  refine s ρ C H E σ x C1 _ R eo h1 fun ρ1 H1 v1 R1 s1 d1 => ?_
  simp only at hm
  unfold iAnyD at hm
  split at hm
  · cases hm
    cases d1 with
    | tup hs hd => exact .inl ⟨_, rfl, ⟨_, hs⟩, k ρ1 H1 _ R1 s1 (itOk_tup hs hd fun _ _ _ _ _ => trivial)⟩
  · cases hm
    cases d1
    exact .inr (.inr ⟨_, rfl, k ρ1 H1 _ R1 s1 itOk_str⟩)
  · split at hm
    · rename_i ds qc
      cases hm
      obtain ⟨a, vs, rfl, ea, e3, e4⟩ := R1.lst qc d1
      exact .inr (.inl ⟨a, rfl, ⟨vs, SqL.of e3⟩, k ρ1 H1 _ R1 s1 (itOk_live ea)⟩)
    · cases hm
  · cases hm
    cases d1 with
    | rol h => exact .inr (.inl ⟨_, rfl, ⟨_, h.1⟩, k ρ1 H1 _ R1 s1 (itOk_rol h)⟩)
  · cases hm
/-! ## for, while -/
def forLoop (it : Itm) (tg : MG) (body : MS) : Nat → Nat → Ev → Hm → Option Out
  | 0, _, _, _ => none
  | fuel + 1, i, E, C => (it.at C i).bind fun r => match r with
    | none => some (.nx E C)
    | some x => (tg x E).bind fun E1 => (body E1 C).bind fun o => match o with
      | .nx E2 C2 => forLoop it tg body fuel (i + 1) E2 C2
      | .ct E2 C2 => forLoop it tg body fuel (i + 1) E2 C2
      | .bk E2 C2 => some (.nx E2 C2)
      | .rt d C2 => some (.rt d C2)
def mFor (src : MI) (tg : MG) (body : MS) : MS := fun E C => (src E C).bind fun p => forLoop p.1 tg body (p.2.1 + 1) 0 E p.2.2
theorem ss_for {src : MI} {g : MG} {slots : List Nat} (hi : SI F tg iter src) (hg : SG F tg slots g) (hb : SB F body ms) (hs : ∀ (env : Env) x, foldedSetIterable iter env x = pure x := by intro _ _; rfl) : SS F (.For tg iter body [] pos) (mFor src g ms) := by
  obtain ⟨wi, pi, si⟩ := hi
  obtain ⟨gg, pg, sg⟩ := hg
  obtain ⟨tb, pb, sb⟩ := hb
  refine ⟨tFor wi gg tb, fun X h => ps_for (by rw [h.xe]; exact PassesOwn.never) h.calm (pi X h) (pg X h) (pb X h) (hs _), fun ρ C H E σ o Z R eo hm k => ?_⟩
  obtain ⟨⟨it, n, C1⟩, h1, hm⟩ := obind hm
  refine si ρ C H E σ it n C1 _ R eo h1 fun ρ0 H0 J R0 s0 ok => ?_
  simp only at hm
  refine ⟨fun i m σ' Hc => ∃ ρ1 Cc E1, RelF F ρ1 Hc Cc ∧ Stp ρ0 H0 ρ1 Hc ∧ EnvF F ρ1 Hc E1 σ' ∧ forLoop it g ms m i E1 Cc = some o, ⟨_, ρ0, C1, E, R0, .refl, eo.mono s0, hm⟩, ?_⟩
  rintro i m σ' Hc ⟨ρ1, Cc, E1, R1, s1, eo1, hf⟩
  cases m with
  | zero => cases hf
  | succ fuel =>
    unfold forLoop at hf
    obtain ⟨r, e1, hf⟩ := obind hf
    have oki := ok ρ1 Hc Cc R1 s1.wk i r e1
    cases r with
    | none =>
      cases hf
      exact .inl ⟨oki, k ρ1 Hc σ' R1 (s0.trans s1) eo1⟩
    | some x =>
      refine .inr ⟨oki.1, fun σ2 H2 => ∃ ρ2 C2 E2, RelF F ρ2 H2 C2 ∧ Stp ρ0 H0 ρ2 H2 ∧ EnvF F ρ2 H2 E2 σ2 ∧ forLoop it g ms fuel (i + 1) E2 C2 = some o, fun σ2 H2 z => ⟨fuel, Nat.lt_succ_self _, z⟩, fun v H' hy => ?_⟩
      obtain ⟨R2, s2, dv⟩ := oki.2 v H' hy
      obtain ⟨E2, e2, hf⟩ := obind hf
      obtain ⟨o1, e3, hf⟩ := obind hf
      refine sg ρ1 Cc H' E1 σ' x v E2 _ R2 (eo1.mono s2) dv e2 fun σ3 eo3 _ => ?_
      refine sb ρ1 Cc H' E2 σ3 o1 _ R2 eo3 e3 ?_
      have s3 := s1.trans s2
      cases o1 with
      | nx E4 C4 => exact fun ρ4 H4 σ4 R4 s4 eo4 => ⟨ρ4, C4, E4, R4, s3.trans s4, eo4, hf⟩
      | ct E4 C4 => exact fun ρ4 H4 σ4 R4 s4 eo4 => ⟨ρ4, C4, E4, R4, s3.trans s4, eo4, hf⟩
      | bk E4 C4 => cases hf; exact fun ρ4 H4 σ4 R4 s4 eo4 => k ρ4 H4 σ4 R4 ((s0.trans s3).trans s4) eo4
      | rt d C4 => cases hf; exact fun ρ4 H4 v4 R4 s4 d4 => k ρ4 H4 v4 R4 ((s0.trans s3).trans s4) d4
def whLoop (c : MT) (body : MS) : Nat → Ev → Hm → Option Out
  | 0, _, _ => none
  | fuel + 1, E, C => (c E C).bind fun p => if p.1 = true then (body E p.2).bind fun o => match o with
      | .nx E2 C2 => whLoop c body fuel E2 C2
      | .ct E2 C2 => whLoop c body fuel E2 C2
      | .bk E2 C2 => some (.nx E2 C2)
      | .rt d C2 => some (.rt d C2)
    else some (.nx E p.2)
theorem ss_while (n : Nat) (hc : ST F c mt) (hb : SB F body ms) : SS F (.While c body [] pos) (whLoop mt ms n) := by
  obtain ⟨tc, pc, sc⟩ := hc
  obtain ⟨tb, pb, sb⟩ := hb
  refine ⟨tWhile tc tb, fun X h => ps_while (by rw [h.xe]; exact PassesOwn.never) (pc X h) (pb X h), fun ρ C H E σ o Z R eo hm k => ?_⟩
  refine ⟨fun m σ' Hc => ∃ ρ1 Cc E1, RelF F ρ1 Hc Cc ∧ Stp ρ H ρ1 Hc ∧ EnvF F ρ1 Hc E1 σ' ∧ whLoop mt ms m E1 Cc = some o, ⟨n, ρ, C, E, R, .refl, eo, hm⟩, ?_⟩
  rintro m σ' Hc ⟨ρ1, Cc, E1, R1, s1, eo1, hf⟩
  cases m with
  | zero => cases hf
  | succ fuel =>
    unfold whLoop at hf
    obtain ⟨⟨b, C2⟩, e1, hf⟩ := obind hf
    refine sc ρ1 Cc Hc E1 σ' b C2 _ R1 eo1 e1 fun ρ2 H2 R2 s2 => ?_
    cases b with
    | false => cases hf; exact k ρ2 H2 σ' R2 (s1.trans s2) (eo1.mono s2)
    | true =>
      refine ⟨fun σ2 H2 => ∃ ρ2 C2 E2, RelF F ρ2 H2 C2 ∧ Stp ρ H ρ2 H2 ∧ EnvF F ρ2 H2 E2 σ2 ∧ whLoop mt ms fuel E2 C2 = some o, fun σ2 H2 z => ⟨fuel, Nat.lt_succ_self _, z⟩, ?_⟩
      obtain ⟨o1, e3, hf⟩ := obind (show (ms E1 C2).bind _ = some o from hf)
      refine sb ρ2 C2 H2 E1 σ' o1 _ R2 (eo1.mono s2) e3 ?_
      have s3 := s1.trans s2
      cases o1 with
      | nx E4 C4 => exact fun ρ4 H4 σ4 R4 s4 eo4 => ⟨ρ4, C4, E4, R4, s3.trans s4, eo4, hf⟩
      | ct E4 C4 => exact fun ρ4 H4 σ4 R4 s4 eo4 => ⟨ρ4, C4, E4, R4, s3.trans s4, eo4, hf⟩
      | bk E4 C4 => cases hf; exact fun ρ4 H4 σ4 R4 s4 eo4 => k ρ4 H4 σ4 R4 (s3.trans s4) eo4
      | rt d C4 => cases hf; exact fun ρ4 H4 v4 R4 s4 d4 => k ρ4 H4 v4 R4 (s3.trans s4) d4
/-! ## list comprehensions -/
def wipeE (E : Ev) : List Nat → Ev
  | [] => E
  | v :: vs => (wipeE E vs).set v none
theorem EnvOk.wipe {K : PySem.W.Frag} {ft : Cfg} {ρ : List Addr} {H : Hp} {E : Ev} {σ : L2.St} (h : EnvOk K ft ρ H E σ) : ∀ vs, EnvOk K ft ρ H (wipeE E vs) (L2.wipe σ vs)
  | [] => h
  | v :: vs => by
    have ih := EnvOk.wipe h vs
    refine ⟨by simp [wipeE, L2.wipe, ih.len], fun j z e => ?_⟩
    unfold wipeE at e
    by_cases hj : v = j
    · subst hj
      have hl : v < (wipeE E vs).length := by
        have := (List.getElem?_eq_some_iff.mp e).1
        simpa using this
      rw [List.getElem?_set_self hl] at e
      cases e
    · rw [List.getElem?_set_ne hj] at e
      obtain ⟨w, q1, q2⟩ := ih.at_ j z e
      exact ⟨w, by unfold L2.wipe; rw [List.getElem?_set_ne hj]; exact q1, q2⟩
theorem wipe_idem (σ : L2.St) : ∀ vs : List Nat, L2.wipe (L2.wipe σ vs) vs = L2.wipe σ vs := by
  have key : ∀ (vs : List Nat) (τ : L2.St), (∀ i ∈ vs, i < τ.length → τ[i]? = some none) → L2.wipe τ vs = τ := by
    intro vs
    induction vs with
    | nil => intro τ _; rfl
    | cons v vs ih =>
      intro τ h
      unfold L2.wipe
      rw [ih τ fun i hi hl => h i (List.mem_cons_of_mem _ hi) hl]
      apply List.ext_getElem?
      intro j
      by_cases hj : v = j
      · subst hj
        by_cases hl : v < τ.length
        · rw [List.getElem?_set_self hl, h v List.mem_cons_self hl]
        · rw [List.getElem?_eq_none (by simp; omega), List.getElem?_eq_none (by omega)]
      · rw [List.getElem?_set_ne hj]
  have wn : ∀ (vs : List Nat) (i : Nat), i ∈ vs → i < σ.length → (L2.wipe σ vs)[i]? = some none := by
    intro vs
    induction vs with
    | nil => intro i h; simp at h
    | cons v vs ih =>
      intro i hi hl
      unfold L2.wipe
      by_cases hv : v = i
      · subst hv; rw [List.getElem?_set_self (by rw [wipe_length]; exact hl)]
      · rw [List.getElem?_set_ne hv]
        rcases List.mem_cons.mp hi with e | e
        · exact absurd e.symm hv
        · exact ih i e hl
  intro vs
  exact key vs _ fun i hi hl => wn vs i hi (by rw [wipe_length] at hl; exact hl)
def lcLoop (it : Itm) (tg : MG) (tt : MT) (elt : ME) (E : Ev) : Nat → Nat → List D → Hm → Option (List D × Hm)
  | 0, _, _, _ => none
  | fuel + 1, i, acc, C => (it.at C i).bind fun r => match r with
    | none => some (acc, C)
    | some x => (tg x E).bind fun E1 => (tt E1 C).bind fun p => if p.1 = true then (elt E1 p.2).bind fun q => if acc.length < sizeLine then lcLoop it tg tt elt E fuel (i + 1) (acc ++ [q.1]) q.2 else none
      else lcLoop it tg tt elt E fuel (i + 1) acc p.2
def mLc (src : MI) (tg : MG) (tt : MT) (elt : ME) (vs : List Nat) : ME := fun E C => (src E C).bind fun p => (lcLoop p.1 tg tt elt (wipeE E vs) (p.2.1 + 1) 0 [] p.2.2).bind fun q => some (.cell q.2.length, q.2 ++ [.lst q.1])
def SPT (F : Fm) (ifs : List Expr) (m : MT) : Prop := ∃ t, (∀ X, F.Is X → PTs X ifs t) ∧ EvT F t m
def mYes : MT := fun _ C => some (true, C)
theorem spt_nil : SPT F [] mYes := ⟨_, fun _ _ => pts_nil, fun ρ C H E σ b C' Q R eo hm k => by cases hm; exact k ρ H R .refl⟩
theorem spt_one (h : ST F c mt) : SPT F [c] mt := let ⟨t, p, s⟩ := h; ⟨_, fun X i => pts_one (p X i), s⟩
theorem Rel.other {K : PySem.W.Frag} {ft : Cfg} {ρ : List Addr} {H : Hp} {C : Hm} {P : Addr} {vs : List V} {o : HO} (R : Rel K ft ρ H C) (hP : P ∉ ρ) (e : H P = some (.lst vs)) : Rel K ft ρ (upd H P o) C ∧ Wk ρ H ρ (upd H P o) := by
  have w : Wk ρ H ρ (upd H P o) := ⟨fun h => h, fun b xs q => by rw [upd_ne (show b ≠ P from fun z => by rw [z, e] at q; cases q)]; exact q, fun b ob u q => by rw [upd_ne (show b ≠ P from fun z => by rw [z, e] at q; cases q)]; exact q⟩
  refine ⟨⟨R.len, R.nd, fun n c q => ?_⟩, w⟩
  obtain ⟨a, ha, k⟩ := R.ok n c q
  have ne : a ≠ P := fun z => hP (z ▸ List.mem_of_getElem? ha)
  refine ⟨a, ha, ?_⟩
  cases c with
  | lst ds => obtain ⟨ws, q, r⟩ := k; exact ⟨ws, (upd_ne ne).trans q, DVs.monoW w r⟩
  | dic ks => obtain ⟨ws, q, r⟩ := k; exact ⟨ws, (upd_ne ne).trans q, Paired.mapP r fun p q z => ⟨z.1, DV.monoW w z.2⟩⟩
  | dix ks => obtain ⟨es, q, r⟩ := k; exact ⟨es, (upd_ne ne).trans q, r.monoW w⟩
  | dxl ks => obtain ⟨es, o, q, r⟩ := k; exact ⟨es, o, (upd_ne ne).trans q, r.monoW w⟩
end
section
variable {F : Fm} {tg iter elt : Expr} {ifs : List Expr} {scope : Scope} {own : List (Str × Nat)} {src : MI} {g : MG} {mt : MT} {me : ME} {slots : List Nat} {pos : Pos}
theorem evl_lc {wi : TI} {gg : TG} {tt : TT} {te : TE} (si : ∀ ρ C H E σ it n C' R, RelF F ρ H C → EnvF F ρ H E σ → src E C = some (it, n, C') → (∀ ρ' H' J, RelF F ρ' H' C' → Stp ρ H ρ' H' → ItOk F ρ' H' it J → R J H') → wi σ H R)
    (sg : EvG F gg slots g) (st : EvT F tt mt) (se : EvE F te me) (vs : List Nat) (hsl : ∀ i ∈ slots, i ∈ vs) : EvE F (tLc wi gg tt te vs) (mLc src g mt me vs) := by
  intro ρ C H E σ d C' Q R eo hm k
  obtain ⟨⟨it, n, C1⟩, h1, hm⟩ := obind hm
  obtain ⟨⟨accF, CF⟩, h2, hm⟩ := obind hm
  cases hm
  simp only at h2
  refine si ρ C H E σ it n C1 _ R eo h1 fun ρ0 H0 J R0 s0 ok => ?_
  intro P hP
  have outP : ∀ {ρ1 Hc}, Stp ρ0 H0 ρ1 Hc → P ∉ ρ1 → ∀ {o}, Stp ρ0 H0 ρ1 (upd Hc P o) := fun {ρ1 Hc} s hp {o} => by
    have ne : ∀ b u, H0 b = some u → b ≠ P := fun b u e z => by rw [z, hP] at e; cases e
    exact ⟨s.pre, fun b u e hb => by rw [upd_ne (ne b u e)]; exact s.keep b u e hb, fun b u e => by rw [upd_ne (ne b u e)]; exact s.there b u e, fun b u e => by rw [upd_ne (ne _ _ e)]; exact s.tups b u e, fun b u w e => by rw [upd_ne (ne _ _ e)]; exact s.frzs b u w e⟩
  refine ⟨fun i m Hc => ∃ ρ1 Cc accD accV, RelF F ρ1 Hc Cc ∧ P ∉ ρ1 ∧ Stp ρ0 H0 ρ1 Hc ∧ Hc P = some (.lst accV) ∧ DVsF F ρ1 Hc accD accV ∧ lcLoop it g mt me (wipeE E vs) m i accD Cc = some (accF, CF),
    ⟨n + 1, ρ0, C1, [], [], R0.fresh hP, R0.out hP, Stp.fresh hP, upd_same, .nil, h2⟩, ?_⟩
  rintro i m Hc ⟨ρ1, Cc, accD, accV, R1, nP, s1, eP, dA, hf⟩
  cases m with
  | zero => cases hf
  | succ fuel =>
    unfold lcLoop at hf
    obtain ⟨r, e1, hf⟩ := obind hf
    have oki := ok ρ1 Hc Cc R1 s1.wk i r e1
    cases r with
    | none =>
      cases hf
      refine .inl ⟨oki, k (ρ1 ++ [P]) Hc (.ref P) (R1.push nP ⟨accV, eP, dA⟩) ?_ (DV.new R1)⟩
      have s := s0.trans s1
      obtain ⟨t, e, ht⟩ := s.pre
      refine ⟨⟨t ++ [P], by rw [e, List.append_assoc], fun b hb => ?_⟩, s.keep, s.there, s.tups, s.frzs⟩
      rcases List.mem_append.mp hb with z | z
      · exact ht b z
      · have z : b = P := by simpa using z
        subst z
        cases q : H b with
        | none => rfl
        | some u => obtain ⟨u', q'⟩ := s0.there b u q; rw [hP] at q'; cases q'
    | some x =>
      refine .inr ⟨oki.1, fun H2 => ∃ ρ2 C2 accD accV, RelF F ρ2 H2 C2 ∧ P ∉ ρ2 ∧ Stp ρ0 H0 ρ2 H2 ∧ H2 P = some (.lst accV) ∧ DVsF F ρ2 H2 accD accV ∧ lcLoop it g mt me (wipeE E vs) fuel (i + 1) accD C2 = some (accF, CF), fun H2 z => ⟨fuel, Nat.lt_succ_self _, z⟩, fun v H' hy => ?_⟩
      obtain ⟨R2, s2, dv⟩ := oki.2 v H' hy
      obtain ⟨E2, e2, hf⟩ := obind hf
      obtain ⟨⟨b, C3⟩, e3, hf⟩ := obind hf
      have eo2 : EnvF F ρ1 H' (wipeE E vs) (L2.wipe σ vs) := (eo.wipe vs).mono ((s0.trans s1).trans s2)
      have keepP : ∀ {ρa Ha ρb Hb accV}, Stp ρa Ha ρb Hb → P ∉ ρa → Ha P = some (.lst accV) → P ∉ ρb ∧ Hb P = some (.lst accV) := fun {ρa Ha ρb Hb accV} s hn e => by
        refine ⟨fun z => ?_, s.keep _ _ e hn⟩
        obtain ⟨t, et, ht⟩ := s.pre
        rw [et] at z
        rcases List.mem_append.mp z with z | z
        · exact hn z
        · rw [ht _ z] at e; cases e
      obtain ⟨nP2, eP2⟩ := keepP s2 nP eP
      refine sg ρ1 Cc H' (wipeE E vs) (L2.wipe σ vs) x v E2 _ R2 eo2 dv e2 fun σ3 eo3 w3 => ?_
      refine ⟨by rw [w3 vs hsl, wipe_idem], ?_⟩
      refine st ρ1 Cc H' E2 σ3 b C3 _ R2 eo3 e3 fun ρ3 H3 R3 s3 => ?_
      obtain ⟨nP3, eP3⟩ := keepP s3 nP2 eP2
      cases b with
      | false =>
        exact ⟨ρ3, C3, accD, accV, R3, nP3, (s1.trans s2).trans s3, eP3, (dA.mono s2).mono s3, hf⟩
      | true =>
        obtain ⟨⟨y, C4⟩, e4, hf⟩ := obind (show (me E2 C3).bind _ = some (accF, CF) from hf)
        simp only at hf
        split at hf
        · rename_i hlen
          refine se ρ3 C3 H3 E2 σ3 y C4 _ R3 (eo3.mono s3) e4 fun ρ4 H4 v4 R4 s4 d4 => ?_
          obtain ⟨nP4, eP4⟩ := keepP s4 nP3 eP3
          have dA4 : DVsF F ρ4 H4 accD accV := ((dA.mono s2).mono s3).mono s4
          refine ⟨accV, eP4, by rw [← dA4.length]; exact hlen, ?_⟩
          obtain ⟨R5, w5⟩ := R4.other nP4 eP4 (o := .lst (accV ++ [v4]))
          exact ⟨ρ4, C4, accD ++ [y], accV ++ [v4], R5, nP4, outP (((s1.trans s2).trans s3).trans s4) nP4, upd_same, DVs.monoW w5 (dA4.append (.cons d4 .nil)), hf⟩
        · cases hf
theorem se_lc (own : List (Str × Nat)) (hi : SI F tg iter src) (ok : BlkOk F.N F.sc scope own) (hg : SG (F.blk scope) tg slots g) (ht : SPT (F.blk scope) ifs mt) (he : SE (F.blk scope) elt me) (hsl : ∀ i ∈ slots, i ∈ own.map (·.2) := by decide)
    (hs : ∀ (env : Env) x, foldedSetIterable iter env x = pure x := by intro _ _; rfl) : SE F (.ListComp elt [⟨tg, iter, ifs, 0⟩] scope pos) (mLc src g mt me (own.map (·.2))) := by
  obtain ⟨wi, pi, si⟩ := hi
  obtain ⟨gg, pg, sg⟩ := hg
  obtain ⟨tt, pt, st⟩ := ht
  obtain ⟨te, pe, se⟩ := he
  refine ⟨tLc wi gg tt te (own.map (·.2)), fun X h => ?_, evl_lc si sg st se _ hsl⟩
  exact pe_lc h.calm h.nd (pi X h) (by rw [h.N, h.sc]; exact ok) (fun _ _ _ _ _ => pg _ h.blk) (fun _ _ _ _ _ => pt _ h.blk) (fun _ _ _ _ _ => pe _ h.blk) (hs _)
theorem ss_setLc {x : Str} {py spos : Pos} (i : Nat) (own : List (Str × Nat)) (hsw : ∀ env : Env, env.scope = F.sc → swapsWith (.ListComp elt [⟨tg, iter, ifs, 0⟩] scope pos) (some (.Name x py)) spos.line env = pure true)
    (hi : SI F tg iter src) (ok : BlkOk F.N F.sc scope own) (hg : SG (F.blk scope) tg slots g) (ht : SPT (F.blk scope) ifs mt) (he : SE (F.blk scope) elt me) (hN : F.N[i]? = some x := by rfl) (hl : F.sc.names.lookup x = some .local := by rfl) (hsl : ∀ i ∈ slots, i ∈ own.map (·.2) := by decide)
    (hs : ∀ (env : Env) x, foldedSetIterable iter env x = pure x := by intro _ _; rfl) : SS F (.Assign [.Name x py] (.ListComp elt [⟨tg, iter, ifs, 0⟩] scope pos) spos) (mAsg (mLc src g mt me (own.map (·.2))) (gN i)) := by
  obtain ⟨wi, pi, si⟩ := hi
  obtain ⟨gg, pg, sg⟩ := hg
  obtain ⟨tt, pt, st⟩ := ht
  obtain ⟨te, pe, se⟩ := he
  refine ⟨tAsg (tLc wi gg tt te (own.map (·.2))) (gName i), fun X h => ?_, fun ρ C H E σ o Z R eo hm k => ?_⟩
  · exact ps_setLc h.calm h.nd (by rw [h.N]; exact hN) (by rw [h.sc]; exact hl) (hsw _ h.sc) (pi X h) (by rw [h.N, h.sc]; exact ok) (fun _ _ _ _ _ => pg _ h.blk) (fun _ _ _ _ _ => pt _ h.blk) (fun _ _ _ _ _ => pe _ h.blk) (hs _)
  · obtain ⟨⟨x, C1⟩, h1, hm⟩ := obind hm
    cases hm
    exact evl_lc si sg st se _ hsl ρ C H E σ x C1 _ R eo h1 fun ρ1 H1 v1 R1 s1 d1 => k ρ1 H1 _ R1 s1 ((eo.mono s1).set d1)
end
end Mi
set_option Elab.async false
set_option linter.all false
set_option maxRecDepth 100000
set_option maxHeartbeats 4000000
namespace Mi
open PySem PySem.Spec PyProof.Rows L2
/-! ## a def that is called where nothing is under way -/
abbrev SpG := List V → Hp → VK → Prop
structure FnG (P : Program) (w : World) (K : PySem.W.Frag) (mg : Str → Option Value) (base : Heap) (k : Nat) (f : Addr) (fd : FuncData) (ps : List Str) (sp : SpG) : Prop where
  len : ∀ vs H Q, sp vs H Q → vs.length = ps.length
  run : ∀ (A : Around) (outer : List Env) (s : Shared) (H : Hp) (args : Args) (us : List Value) (vs : List V) (Q : VK), Room k A → A.guards = some [] → Env0 P w K mg base A outer s H → BindsTo s fd args (ps.zip us) → Vals vs us → sp vs H Q →
    codeAny (model P w) A (.call (.ref f) args) (CR CX0 outer P w H s Q E0) s
/-- a mirror: what a def makes of data -/
abbrev MF := List D → Hm → Option (D × Hm)
def spM (K : PySem.W.Frag) (ft : Cfg) (n : Nat) (m : MF) : SpG := fun vs H Q => ∃ ρ C ds d C', Rel K ft ρ H C ∧ DVs K ft ρ H ds vs ∧ ds.length = n ∧ m ds C = some (d, C') ∧ ∀ ρ' H' v, Rel K ft ρ' H' C' → Stp ρ H ρ' H' → DV K ft ρ' H' d v → Q v H'
def mFn (n N : Nat) (body : MS) : MF := fun ds C => if ds.length = n then (body (ds.map some ++ List.replicate (N - n) none) C).bind fun o => match o with
  | .rt d C' => some (d, C')
  | .nx _ C' => some (.non, C')
  | _ => none else none
section
variable {P : Program} {w : World} {K : PySem.W.Frag} {mg : Str → Option Value} {base : Heap} {ft : Cfg}
theorem envOk_start {ρ : List Addr} {H : Hp} : ∀ {ds : List D} {vs : List V} {N : Nat}, DVs K ft ρ H ds vs → EnvOk K ft ρ H (ds.map some ++ List.replicate N none) (vs.map some ++ List.replicate N none)
  | ds, vs, N, h => by
    refine ⟨by simp [h.length], fun i d e => ?_⟩
    by_cases hi : i < ds.length
    · rw [List.getElem?_append_left (by simpa using hi), List.getElem?_map] at e
      cases q : ds[i]? with
      | none => rw [q] at e; cases e
      | some z =>
        rw [q] at e
        cases e
        obtain ⟨v, q1, q2⟩ := h.get q
        refine ⟨v, ?_, q2⟩
        rw [List.getElem?_append_left (by simpa [← h.length] using hi), List.getElem?_map, q1]
        rfl
    · rw [List.getElem?_append_right (by simpa using hi)] at e
      have := List.mem_of_getElem? e
      simp at this
/-- where the body of a def runs -/
def fmOf (P : Program) (w : World) (K : PySem.W.Frag) (mg : Str → Option Value) (base : Heap) (ft : Cfg) (st : Stmt) (N : List Str) (lv : Nat) : Fm := ⟨P, w, K, mg, base, ft, defScope st, N, lv, fun _ => true⟩
theorem fnG_of {x qual : Str} {st : Stmt} {f : Addr} {fd : FuncData} {N ps : List Str} {k : Nat} {m : MS} (F : Fun K x qual st f fd) (S : FnScope N ps (defScope st)) (hb : SB (fmOf P w K mg base ft st N k) (defBody st) m) :
    FnG P w K mg base (k + 1) f fd ps (spM K ft ps.length (mFn ps.length N.length m)) := by
  obtain ⟨t, pt, ev⟩ := hb
  refine ⟨fun vs H Q h => ?_, fun A outer s H args us vs Q hr hg e0 hbd r h => ?_⟩
  · obtain ⟨ρ, C, ds, d, C', _, h2, h3, _⟩ := h
    rw [← h2.length, h3]
  obtain ⟨oc, od, kV, doc, pm, an, cdv, ct, osl, rfl, lk, hcd⟩ := F.ex
  obtain ⟨ρ, C, ds, d, C', hR, hD, hl, hm, kk⟩ := h
  have hlv : vs.length = ps.length := by rw [← hD.length, hl]
  have inH : K.In s.heap := e0.mod.kin.keeps fun b o e => (e0.bs b o e).1
  have free : s.heap.NoLimit := e0.mod.nolimit.keeps fun b o e => (e0.bs b o e).1
  refine codeAny_call_function hr.depth (inH _ _ lk) rfl S.co S.gen rfl (PySem.W.codeRec_of inH hcd) (hbd _ _ _ _ ?_)
  refine wpAny_newFunctionEnv_cells S.kind (fun y hy => (S.par y.1 (List.of_mem_zip hy).1).elim .inl fun q => .inr ⟨q, PySem.W.cellsFrom_some _ _ _ (.inl q)⟩) fun env he s1 z => ?_
  subst he
  refine ⟨free.keeps z.toInCall.keep, codeAny_func ?_⟩
  have I := inv_start (CX := CX0) (E := E0) S hr.hd e0 hlv r z
  have is : (fmOf P w K mg base ft st N k).Is (cxOf CX0 P w K mg base N qual (defScope st) f cdv A outer s H E0).nox := ⟨rfl, rfl, rfl, rfl, rfl, rfl, rfl, rfl, S.nd, rfl, hg, hr.deeper _, rfl⟩
  have env0 : EnvF (fmOf P w K mg base ft st N k) ρ H (ds.map some ++ List.replicate (N.length - ps.length) none) (L2.start N vs) := by
    unfold L2.start
    rw [hlv]
    exact envOk_start hD
  unfold mFn at hm
  rw [if_pos hl] at hm
  obtain ⟨o, ho, hm⟩ := obind hm
  have wish : t { nx := fun _ H' => Q .non H', rt := Q } (L2.start N vs) H := by
    refine ev ρ C H _ _ o _ hR env0 ho ?_
    cases o with
    | nx E2 C2 => cases hm; exact fun ρ' H' σ' R' s' _ => kk ρ' H' .non R' s' .non
    | rt d2 C2 => cases hm; exact fun ρ' H' v R' s' dv => kk ρ' H' v R' s' dv
    | bk E2 C2 => cases hm
    | ct E2 C2 => cases hm
  have run := (pt _ is).nox.run [] s1 (L2.start N vs) H _ I wish
  refine wpAny_mono run (fun fl s' hs => ?_) fun e s' hs => hs
  cases fl with
  | ret u => obtain ⟨v, σ', H', J, rv, q⟩ := hs; exact ⟨v, H', J.os, J.bare, J.base, J.hok, rv, q⟩
  | next => obtain ⟨σ', H', J, q⟩ := hs; exact ⟨.non, H', J.os, J.bare, J.base, J.hok, rfl, q⟩
  | brk => obtain ⟨_, _, _, q⟩ := hs; exact q.elim
  | cont => obtain ⟨_, _, _, q⟩ := hs; exact q.elim
theorem FnG.mono {j k : Nat} {f : Addr} {fd : FuncData} {ps : List Str} {sp : SpG} (F : FnG P w K mg base j f fd ps sp) (h : j ≤ k) : FnG P w K mg base k f fd ps sp := ⟨F.len, fun A outer s H args us vs Q hr => F.run A outer s H args us vs Q (hr.mono h)⟩
end
/-- the callee runs -/
theorem runG {X : Cx} {k : Nat} {f : Addr} {fd : FuncData} {ps : List Str} {sp : SpG} {ds : List Value} {dvs : List V} {pins : List (Addr × Obj)} {σ : L2.St} {H : Hp} {s : Shared} {Q : VK} {us : List Value} {vs : List V} (F : FnG X.prog X.w X.K X.mg X.base k f fd ps sp) (hr : Room k X.A) (hg : X.A.guards = some []) (hb : Binds X.K fd ps ds) (hd : Vals dvs ds)
    (I : Inv X pins σ H s) (r : Vals vs us) (h : sp (vs ++ dvs) H Q) : wpAny (model X.prog X.w) X.A (call (.ref f) us) (EP X pins σ Q) X.xe s := by
  have r2 := r.append hd
  have lenOk : (us ++ ds).length = ps.length := r2.length ▸ F.len _ _ _ h
  have go := F.run X.A X.stack s H ⟨us, []⟩ (us ++ ds) (vs ++ dvs) Q hr hg I.env0 (hb s us I.kIn lenOk) r2 h
  refine wpAny_call (codeAny_mono go fun r s' hq => ?_)
  match r, hq with
  | .ok (.ret u), hq => exact I.after hq
  | .ok .next, hq => exact (show False from hq).elim
  | .ok .brk, hq => exact (show False from hq).elim
  | .ok .cont, hq => exact (show False from hq).elim
  | .error e, hq => exact (show False from hq).elim
section
variable {F : Fm} {e : Expr} {es : List Expr} {pos p : Pos} {x : Str} {i : Nat} {ml : MA}
/-- a def called by its global name -/
structure Callee (P : Program) (w : World) (K : PySem.W.Frag) (mg : Str → Option Value) (base : Heap) (ft : Cfg) (x : Str) (n : Nat) (m : MF) (k : Nat) : Prop where
  ex : ∃ (f : Addr) (fd : FuncData) (ps : List Str) (ds : List Value) (dvs : List V) (dds : List D), mg x = some (.ref f) ∧ PySem.W.keepIn K (.ref f) = true ∧ Binds K fd ps ds ∧ Vals dvs ds ∧ (∀ ρ H, DVs K ft ρ H dds dvs) ∧
    ∃ m0 : MF, FnG P w K mg base k f fd ps (spM K ft ps.length m0) ∧ n + dds.length = ps.length ∧ ∀ xs C, xs.length = n → m0 (xs ++ dds) C = m xs C
def mCall (m : MF) (ml : MA) : ME := fun E C => (ml E C).bind fun q => m q.1 q.2
def tCallG (sp : SpG) (dvs : List V) (t : TA) : TE := fun σ H Q => t σ H fun vs H1 => sp (vs ++ dvs) H1 Q
theorem pe_callG {X : Cx} {k : Nat} {f : Addr} {fd : FuncData} {ps : List Str} {sp : SpG} {ds : List Value} {dvs : List V} {t : TA} (G : FnG X.prog X.w X.K X.mg X.base k f fd ps sp) (hr : Room k X.A) (hgu : X.A.guards = some []) (hg : Gl X x) (hm : X.mg x = some (.ref f)) (hk : PySem.W.keepIn X.K (.ref f) = true) (hb : Binds X.K fd ps ds) (hd : Vals dvs ds)
    (ha : PA X (e :: es) t) (hdb : (x == ("__debug__" : Str)) = false) (he : starEach (e :: es) X.env = (false, eval e X.env) :: starEach es X.env) (hpl : (backTo pos (starEach es X.env)).any (·.1) = false) : PE X (.Call (.Name x p) (e :: es) [] pos) (tCallG sp dvs t) := by
  constructor
  intro pins s σ H Q I h
  have inner := thn (ha.run pos pins s σ H _ I h) (Q' := fun us s1 => X.K.In s1.heap ∧ wpAny (model X.prog X.w) X.A (call (.ref f) us) (EP X pins σ Q) X.xe s1) fun us s1 ⟨vs, H1, I1, r, q⟩ => ⟨I1.kIn, runG G hr hgu hb hd I1 r q⟩
  exact wpAny_Call_Name_kw (ld_glob I hg hm (PySem.W.callWith_K (h₀ := X.base) I.ok.mod.kin hk inner he hpl) hdb)
theorem pe_callG0 {X : Cx} {k : Nat} {f : Addr} {fd : FuncData} {ps : List Str} {sp : SpG} {ds : List Value} {dvs : List V} (G : FnG X.prog X.w X.K X.mg X.base k f fd ps sp) (hr : Room k X.A) (hgu : X.A.guards = some []) (hg : Gl X x) (hm : X.mg x = some (.ref f)) (hk : PySem.W.keepIn X.K (.ref f) = true) (hb : Binds X.K fd ps ds) (hd : Vals dvs ds)
    (hdb : (x == ("__debug__" : Str)) = false) : PE X (.Call (.Name x p) [] [] pos) (tCallG sp dvs tNil) := by
  constructor
  intro pins s σ H Q I h
  exact wpAny_Call_Name_kw (ld_glob I hg hm (PySem.W.callWith_K0 I.kIn hk (runG (us := []) G hr hgu hb hd I .nil h)) hdb)
theorem evA_call {t : TA} {m m0 : MF} {n : Nat} {ps : List Str} {dvs : List V} {dds : List D} (sl : EvA F t ml) (hn : n + dds.length = ps.length) (hd : ∀ ρ H, DVsF F ρ H dds dvs) (hmm : ∀ xs C, xs.length = n → m0 (xs ++ dds) C = m xs C) (hlen : ∀ E C q, ml E C = some q → q.1.length = n) :
    EvE F (tCallG (spM F.K F.ft ps.length m0) dvs t) (mCall m ml) := by
  intro ρ C H E σ d C' Q R eo hm k
  obtain ⟨⟨xs, C1⟩, h1, hm⟩ := obind hm
  have hl := hlen _ _ _ h1
  refine sl ρ C H E σ xs C1 _ R eo h1 fun ρ1 H1 vs R1 s1 d1 => ?_
  refine ⟨ρ1, C1, xs ++ dds, d, C', R1, d1.append (hd ρ1 H1), by simp [hl, hn], by rw [hmm xs C1 hl]; exact hm, fun ρ' H' v R' s' dv => k ρ' H' v R' (s1.trans s') dv⟩
theorem se_call {n : Nat} {m : MF} (k : Nat) (c : Callee F.prog F.w F.K F.mg F.base F.ft x n m k) (ha : SA F (e :: es) ml) (hlen : ∀ E C q, ml E C = some q → q.1.length = n) (hk : k ≤ F.lv := by exact Nat.le_of_ble_eq_true rfl) (hg : F.sc.names.lookup x = some .globalImplicit := by rfl) (hdb : (x == ("__debug__" : Str)) = false := by decide)
    (he : ∀ env : Env, starEach (e :: es) env = (false, eval e env) :: starEach es env := by intro _; rfl) (hpl : ∀ env : Env, (backTo pos (starEach es env)).any (·.1) = false := by intro _; rfl) : SE F (.Call (.Name x p) (e :: es) [] pos) (mCall m ml) := by
  obtain ⟨f, fd, ps, ds, dvs, dds, hm, hkp, hb, hd, hdd, m0, G, hn, hmm⟩ := c.ex
  obtain ⟨t, pt, st⟩ := ha
  refine ⟨tCallG (spM F.K F.ft ps.length m0) dvs t, fun X h => ?_, evA_call st hn hdd hmm hlen⟩
  exact pe_callG (by rw [h.prog, h.w, h.K, h.mg, h.base]; exact G) (h.rm.mono hk) h.gu (h.gl hg) (by rw [h.mg]; exact hm) (by rw [h.K]; exact hkp) (by rw [h.K]; exact hb) hd (pt X h) hdb (he _) (hpl _)
theorem se_call0 {m : MF} (k : Nat) (c : Callee F.prog F.w F.K F.mg F.base F.ft x 0 m k) (hk : k ≤ F.lv := by exact Nat.le_of_ble_eq_true rfl) (hg : F.sc.names.lookup x = some .globalImplicit := by rfl) (hdb : (x == ("__debug__" : Str)) = false := by decide) : SE F (.Call (.Name x p) [] [] pos) (mCall m mNil) := by
  obtain ⟨f, fd, ps, ds, dvs, dds, hm, hkp, hb, hd, hdd, m0, G, hn, hmm⟩ := c.ex
  refine ⟨tCallG (spM F.K F.ft ps.length m0) dvs tNil, fun X h => ?_, evA_call (F := F) (fun ρ C H E σ d C' Q R eo hm k => by cases hm; exact k ρ H [] R .refl .nil) hn hdd hmm (fun E C q h => by cases h; rfl)⟩
  exact pe_callG0 (by rw [h.prog, h.w, h.K, h.mg, h.base]; exact G) (h.rm.mono hk) h.gu (h.gl hg) (by rw [h.mg]; exact hm) (by rw [h.K]; exact hkp) (by rw [h.K]; exact hb) hd hdb
/-! ## calls that keep the cells apart -/
mutual
/-- every cell within is below n, no def within -/
def D.bnd (n : Nat) : D → Bool
  | .non | .bl _ | .int _ | .str _ | .fn _ | .rol _ | .ty _ => true
  | .cell k => decide (k < n)
  | .tup ds => bnds n ds
def bnds (n : Nat) : List D → Bool
  | [] => true
  | d :: ds => d.bnd n && bnds n ds
end
def Cell.bnd (n : Nat) : Cell → Bool
  | .lst ds => bnds n ds
  | .dic kvs => kvs.all fun p => p.2.bnd n
  | .dix kvs => kvs.all fun p => p.2.bnd n
  | .dxl kvs => kvs.all fun p => p.2.bnd n
end
section
variable {K : PySem.W.Frag} {ft : Cfg} {ρ t : List Addr} {H : Hp}
mutual
theorem DV.cut : ∀ {d : D} {v : V}, DV K ft (ρ ++ t) H d v → d.bnd ρ.length = true → DV K ft ρ H d v
  | _, _, .non, _ => .non
  | _, _, .bl b, _ => .bl b
  | _, _, .int i, _ => .int i
  | _, _, .str x, _ => .str x
  | _, _, .tup h r, e => .tup h (DVs.cut r (by simpa [D.bnd] using e))
  | _, _, .cell h, e => .cell (by rw [← List.getElem?_append_left (by simpa [D.bnd] using e)]; exact h)
  | _, _, .fn n, _ => .fn n
  | _, _, .rol h, _ => .rol h
  | _, _, .ty t, _ => .ty t
theorem DVs.cut : ∀ {ds : List D} {vs : List V}, DVs K ft (ρ ++ t) H ds vs → bnds ρ.length ds = true → DVs K ft ρ H ds vs
  | _, _, .nil, _ => .nil
  | _, _, .cons h r, e => by
    simp only [bnds, Bool.and_eq_true] at e
    exact .cons (DV.cut h e.1) (DVs.cut r e.2)
end
theorem Rel.cut {C : Hm} (R : Rel K ft (ρ ++ t) H C) (hb : ∀ c ∈ C.take ρ.length, c.bnd ρ.length = true) : Rel K ft ρ H (C.take ρ.length) := by
  have hl : ρ.length ≤ C.length := by have := R.len; simp at this; omega
  refine ⟨by simp; omega, (List.nodup_append.mp R.nd).1, fun n c e => ?_⟩
  have hn : n < ρ.length := by
    have := (List.getElem?_eq_some_iff.mp e).1
    simp at this; omega
  have e' : C[n]? = some c := by rw [List.getElem?_take_of_lt hn] at e; exact e
  obtain ⟨a, ha, k⟩ := R.ok n c e'
  rw [List.getElem?_append_left hn] at ha
  have hc := hb c (List.mem_of_getElem? e)
  refine ⟨a, ha, ?_⟩
  cases c with
  | lst ds => obtain ⟨vs, q, r⟩ := k; exact ⟨vs, q, r.cut hc⟩
  | dic kvs =>
    obtain ⟨ws, q, r⟩ := k
    refine ⟨ws, q, ?_⟩
    have hc' : ∀ p ∈ kvs, p.2.bnd ρ.length = true := by simpa [Cell.bnd, List.all_eq_true] using hc
    clear q hc e' e
    induction r with
    | nil => exact .nil
    | cons z r ih => exact .cons ⟨z.1, z.2.cut (hc' _ (by simp))⟩ (ih fun p hp => hc' p (by simp [hp]))
  | dix kvs =>
    obtain ⟨es, q, n1, r⟩ := k
    refine ⟨es, q, n1, ?_⟩
    have hc' : ∀ p ∈ kvs, p.2.bnd ρ.length = true := by simpa [Cell.bnd, List.all_eq_true] using hc
    clear q hc e' e n1
    induction r with
    | nil => exact .nil
    | cons z r ih => exact .cons ⟨z.1, z.2.1, z.2.2.cut (hc' _ (by simp))⟩ (ih fun p hp => hc' p (by simp [hp]))
  | dxl kvs =>
    obtain ⟨es, o, q, n1, r⟩ := k
    refine ⟨es, o, q, n1, ?_⟩
    have hc' : ∀ p ∈ kvs, p.2.bnd ρ.length = true := by simpa [Cell.bnd, List.all_eq_true] using hc
    clear q hc e' e n1
    induction r with
    | nil => exact .nil
    | cons z r ih => exact .cons ⟨z.1, z.2.1, z.2.2.cut (hc' _ (by simp))⟩ (ih fun p hp => hc' p (by simp [hp]))
end
/-- the cells that the call has made are let go -/
def cutC (n : Nat) (r : D × Hm) : Option (D × Hm) := if r.1.bnd n = true ∧ (r.2.take n).all (·.bnd n) = true then some (r.1, r.2.take n) else none
def mKeep (m : ME) : ME := fun E C => (m E C).bind fun r => cutC C.length r
theorem evE_keep {F : Fm} {t : TE} {m : ME} (s : EvE F t m) : EvE F t (mKeep m) := by
  intro ρ C H E σ d C' Q R eo hm k
  obtain ⟨⟨d1, C1⟩, h1, hm⟩ := obind hm
  unfold cutC at hm
  split at hm
  · rename_i hb
    cases hm
    refine s ρ C H E σ d1 C1 _ R eo h1 fun ρ1 H1 v R1 s1 dv1 => ?_
    obtain ⟨t, e, ht⟩ := s1.pre
    subst e
    have hb1 : D.bnd ρ.length d1 = true := by rw [R.len]; exact hb.1
    have hb2 : ∀ c ∈ C1.take ρ.length, c.bnd ρ.length = true := by rw [R.len]; simpa [List.all_eq_true] using hb.2
    have R2 := R1.cut hb2
    rw [R.len] at R2
    exact k ρ H1 v R2 ⟨⟨[], by simp, by simp⟩, s1.keep, s1.there, s1.tups, s1.frzs⟩ (dv1.cut hb1)
  · cases hm
theorem se_keep {F : Fm} {e : Expr} {m : ME} (h : SE F e m) : SE F e (mKeep m) := let ⟨t, p, s⟩ := h; ⟨t, p, evE_keep s⟩
end Mi
set_option Elab.async false
set_option linter.all false
set_option maxRecDepth 100000
set_option maxHeartbeats 4000000
namespace Mi
open PySem PySem.Spec PyProof.Rows L2
/-! ## data as the model's own data -/
def py (C : Hm) : Nat → D → Option PyData
  | 0, _ => none
  | n + 1, d => match d with
    | .non => some .none
    | .bl b => some (.bool b)
    | .int i => some (.int i)
    | .str x => some (.str x)
    | .tup ds => (ds.mapM (py C n)).map PyData.tuple
    | .cell k => match C[k]? with | some (.lst ds) => (ds.mapM (py C n)).map PyData.list | _ => none
    | .rol ns => some (.list (ns.map PyData.int))
    | .fn _ => none
    | .ty _ => none
theorem mapM_cons' {α β : Type} {f : α → Option β} {a : α} {l : List α} {r : List β} (h : (a :: l).mapM f = some r) : ∃ b bs, f a = some b ∧ l.mapM f = some bs ∧ r = b :: bs := by
  rw [List.mapM_cons] at h
  cases q : f a with
  | none => rw [q] at h; cases h
  | some b =>
    rw [q] at h
    cases q2 : l.mapM f with
    | none => rw [q2] at h; cases h
    | some bs => rw [q2] at h; cases h; exact ⟨b, bs, rfl, rfl, rfl⟩
section
variable {F : Fm}
theorem dp_ints {K : PySem.W.Frag} {H : Hp} : ∀ ns : List Int, DpAll K H (ns.map V.int) (ns.map PyData.int)
  | [] => .nil
  | n :: ns => .cons (.int n) (dp_ints ns)
theorem py_ok {ρ : List Addr} {H : Hp} {C : Hm} (R : RelF F ρ H C) : ∀ (n : Nat) {d : D} {v : V} {p : PyData}, DVF F ρ H d v → py C n d = some p → Dp F.K H v p
  | 0, _, _, _, _, e => by cases e
  | n + 1, d, v, p, h, e => by
    have all : ∀ {ds : List D} {vs : List V} {ps : List PyData}, DVsF F ρ H ds vs → ds.mapM (py C n) = some ps → DpAll F.K H vs ps := by
      intro ds
      induction ds with
      | nil => intro vs ps h e; cases h; cases e; exact .nil
      | cons d ds ih =>
        intro vs ps h e
        obtain ⟨b, bs, e1, e2, rfl⟩ := mapM_cons' e
        cases h with
        | cons h t => exact .cons (py_ok R n h e1) (ih t e2)
    cases d with
    | non => cases h; cases e; exact .non
    | bl b => cases h; cases e; exact .bl _
    | int b => cases h; cases e; exact .int _
    | str b => cases h; cases e; exact .str _
    | fn b => cases e
    | ty b => cases e
    | rol ns => cases h with | rol h => cases e; exact .lst h.1 (dp_ints ns)
    | tup ds =>
      unfold py at e
      simp only at e
      cases q : ds.mapM (py C n) with
      | none => rw [q] at e; cases e
      | some ps =>
        rw [q] at e
        cases e
        cases h with
        | tup hs hd => exact .tup hs (all hd q)
    | cell k =>
      unfold py at e
      simp only at e
      split at e
      · rename_i ds qc
        obtain ⟨a, vs, rfl, ea, e3, e4⟩ := R.lst qc h
        cases q : ds.mapM (py C n) with
        | none => rw [q] at e; cases e
        | some ps =>
          rw [q] at e
          cases e
          exact .lst (SqL.of e3) (all e4 q)
      · cases e
theorem Room.u64 {k : Nat} {A : Around} (r : Room k A) : A.units + 65 < cLine := by have := r.un; omega
def cmpD (f : PyData → PyData → Bool) : OD2 := fun x y C => match py C 70 x, py C 70 y with
  | some p, some q => if SeqAt.shaped p = true ∧ SeqAt.shaped q = true then some (.bl (f p q), C) else none
  | _, _ => none
theorem cmpD_some {f : PyData → PyData → Bool} {x y d : D} {C C' : Hm} (h : cmpD f x y C = some (d, C')) : ∃ p q, py C 70 x = some p ∧ py C 70 y = some q ∧ SeqAt.shaped p = true ∧ SeqAt.shaped q = true ∧ d = .bl (f p q) ∧ C' = C := by
  unfold cmpD at h
  split at h
  · rename_i p q e1 e2
    split at h
    · rename_i hs
      cases h
      exact ⟨p, q, e1, e2, hs.1, hs.2, rfl, rfl⟩
    · cases h
  · cases h
/-- two strings are compared as such -/
def cmpS (neg : Bool) (f : PyData → PyData → Bool) : OD2 := fun x y C => match x, y with
  | .str i, .str j => some (.bl (if neg = true then !(i == j) else i == j), C)
  | x, y => cmpD f x y C
abbrev dEq : OD2 := cmpS false fun p q => PyData.eqv p q
abbrev dNe : OD2 := cmpS true fun p q => !PyData.eqv p q
theorem so_eq : SOp F (compareOp .Eq) dEq := by
  refine ⟨_, fun X h => (op_eq (X := X)).or (show OpR X _ (rEqD F.K) by have z := op_eqD (X := X) h.rm.units; rw [h.K] at z; exact z), fun ρ C H x y vx vy d C' Q R hx hy hm k => ?_⟩
  unfold dEq cmpS at hm
  split at hm
  · cases hm; cases hx; cases hy
    rename_i i j
    exact .inl ⟨rfl, by rw [dec_str]; exact k.now R (.bl _)⟩
  · obtain ⟨p, q, e1, e2, s1, s2, rfl, rfl⟩ := cmpD_some hm
    exact .inr ⟨p, q, py_ok R _ hx e1, py_ok R _ hy e2, s1, s2, k.now R (.bl _)⟩
theorem so_ne : SOp F (compareOp .NotEq) dNe := by
  refine ⟨_, fun X h => (op_ne (X := X)).or (show OpR X _ (rNeD F.K) by have z := op_neD (X := X) h.rm.units; rw [h.K] at z; exact z), fun ρ C H x y vx vy d C' Q R hx hy hm k => ?_⟩
  unfold dNe cmpS at hm
  split at hm
  · cases hm; cases hx; cases hy
    rename_i i j
    exact .inl ⟨rfl, by rw [dec_str]; exact k.now R (.bl _)⟩
  · obtain ⟨p, q, e1, e2, s1, s2, rfl, rfl⟩ := cmpD_some hm
    exact .inr ⟨p, q, py_ok R _ hx e1, py_ok R _ hy e2, s1, s2, k.now R (.bl _)⟩
/-- x in a list or a tuple, by values -/
def rInS (K : PySem.W.Frag) (neg : Bool) : R2 := fun x y H Q => ∃ d ds, Dp K H x d ∧ (Dp K H y (.list ds) ∨ Dp K H y (.tuple ds)) ∧ SeqAt.shaped d = true ∧ SeqAt.shaped (.list ds) = true ∧ Q (.bl (if neg then !(ds.any fun z => PyData.eqv z d) else ds.any fun z => PyData.eqv z d)) H
theorem op_inS {X : Cx} (hu : X.A.units + 65 < cLine) : OpR X (compareOp .In) (rInS X.K false) := by
  intro pins s σ H x y v u Q I rx ry h
  obtain ⟨d, ds, hd, he, sd, se, q⟩ := h
  obtain ⟨as, r1⟩ := Dp.reads I d x v hd rx
  rcases he with he | he
  · obtain ⟨bs, r2⟩ := Dp.reads I (.list ds) y u he ry
    exact SeqAt.in_list_reads r2 r1 (SeqAt.canLay_of_shaped se) (SeqAt.canLay_of_shaped sd) (room_in_shaped sd hu) ⟨.bl _, H, I, rfl, q⟩
  · obtain ⟨bs, r2⟩ := Dp.reads I (.tuple ds) y u he ry
    exact SeqAt.in_tuple_reads r2 r1 (SeqAt.canLay_of_shaped se) (SeqAt.canLay_of_shaped sd) (room_in_shaped sd hu) ⟨.bl _, H, I, rfl, q⟩
theorem op_notInS {X : Cx} (hu : X.A.units + 65 < cLine) : OpR X (compareOp .NotIn) (rInS X.K true) := by
  intro pins s σ H x y v u Q I rx ry h
  obtain ⟨d, ds, hd, he, sd, se, q⟩ := h
  obtain ⟨as, r1⟩ := Dp.reads I d x v hd rx
  rcases he with he | he
  · obtain ⟨bs, r2⟩ := Dp.reads I (.list ds) y u he ry
    exact SeqAt.notIn_list_reads r2 r1 (SeqAt.canLay_of_shaped se) (SeqAt.canLay_of_shaped sd) (room_in_shaped sd hu) ⟨.bl _, H, I, rfl, q⟩
  · obtain ⟨bs, r2⟩ := Dp.reads I (.tuple ds) y u he ry
    exact SeqAt.notIn_tuple_reads r2 r1 (SeqAt.canLay_of_shaped se) (SeqAt.canLay_of_shaped sd) (room_in_shaped sd hu) ⟨.bl _, H, I, rfl, q⟩
def itemsP : PyData → Option (List PyData)
  | .list ds => some ds
  | .tuple ds => some ds
  | _ => none
def inD (neg : Bool) : OD2 := fun x y C => match py C 70 x, (py C 70 y).bind itemsP with
  | some p, some qs => if SeqAt.shaped p = true ∧ SeqAt.shaped (.list qs) = true then some (.bl (if neg then !(qs.any fun z => PyData.eqv z p) else qs.any fun z => PyData.eqv z p), C) else none
  | _, _ => none
theorem inD_post {neg : Bool} {ρ : List Addr} {C C' : Hm} {H : Hp} {x y d : D} {vx vy : V} {Q : VK} (R : RelF F ρ H C) (hx : DVF F ρ H x vx) (hy : DVF F ρ H y vy) (hm : inD neg x y C = some (d, C')) (k : Post F ρ H d C' Q) : rInS F.K neg vx vy H Q := by
  unfold inD at hm
  split at hm
  · rename_i p qs e1 e2
    split at hm
    · rename_i hs
      cases hm
      obtain ⟨q, e3, e4⟩ := obind e2
      refine ⟨p, qs, py_ok R _ hx e1, ?_, hs.1, hs.2, k.now R (.bl _)⟩
      have z := py_ok R _ hy e3
      cases q with
      | list l => cases e4; exact .inl z
      | tuple l => cases e4; exact .inr z
      | _ => cases e4
    · cases hm
  · cases hm
theorem so_in : SOp F (compareOp .In) (inD false) := ⟨rInS F.K false, fun X h => by have z := op_inS (X := X) (Room.u64 h.rm); rw [h.K] at z; exact z, fun ρ C H x y vx vy d C' Q R hx hy hm k => inD_post R hx hy hm k⟩
theorem so_notIn : SOp F (compareOp .NotIn) (inD true) := ⟨rInS F.K true, fun X h => by have z := op_notInS (X := X) (Room.u64 h.rm); rw [h.K] at z; exact z, fun ρ C H x y vx vy d C' Q R hx hy hm k => inD_post R hx hy hm k⟩
/-! ## order -/
def ordD (fi : Int → Int → Bool) (fs : List Nat → List Nat → Bool) : OD2 := fun x y C => match x, y with
  | .int i, .int j => some (.bl (fi i j), C)
  | .str i, .str j => some (.bl (fs i.cps.toList j.cps.toList), C)
  | _, _ => none
theorem ord_ok {op : CmpOp} {fi : Int → Int → Bool} {fs : List Nat → List Nat → Bool} (h1 : ∀ X, F.Is X → OpR X (compareOp op) (rI0 fun i j => .bl (fi i j))) (h2 : ∀ X, F.Is X → OpR X (compareOp op) (fun x y H Q => ∃ i j : Str, x = .str i ∧ y = .str j ∧ Q (.bl (fs i.cps.toList j.cps.toList)) H)) : SOp F (compareOp op) (ordD fi fs) := by
  refine ⟨_, fun X h => (h1 X h).or (h2 X h), fun ρ C H x y vx vy d C' Q R hx hy hm k => ?_⟩
  unfold ordD at hm
  split at hm
  · cases hm; cases hx; cases hy; exact .inl ⟨_, _, rfl, rfl, k.now R (.bl _)⟩
  · cases hm; cases hx; cases hy; exact .inr ⟨_, _, rfl, rfl, k.now R (.bl _)⟩
  · cases hm
abbrev dLt : OD2 := ordD (fun i j => decide (i < j)) (fun i j => decide (i < j))
abbrev dLe : OD2 := ordD (fun i j => decide (i ≤ j)) (fun i j => !decide (j < i))
abbrev dGt : OD2 := ordD (fun i j => decide (j < i)) (fun i j => decide (j < i))
abbrev dGe : OD2 := ordD (fun i j => decide (j ≤ i)) (fun i j => !decide (i < j))
theorem so_lt : SOp F (compareOp .Lt) dLt := ord_ok (fun _ _ => op_lt) fun _ _ => op_lt_str
theorem so_le : SOp F (compareOp .LtE) dLe := ord_ok (fun _ _ => op_le) fun _ _ => op_le_str
theorem so_gt : SOp F (compareOp .Gt) dGt := ord_ok (fun _ _ => op_gt) fun _ _ => op_gt_str
theorem so_ge : SOp F (compareOp .GtE) dGe := ord_ok (fun _ _ => op_ge) fun _ _ => op_ge_str
def isNonD : D → Bool
  | .non => true
  | _ => false
theorem isNon_ok {ρ : List Addr} {H : Hp} {d : D} {v : V} (h : DVF F ρ H d v) : decide (v = .non) = isNonD d := by
  cases h <;> simp [isNonD]
def isD (neg : Bool) : OD2 := fun x y C => match y with
  | .non => some (.bl (if neg then !isNonD x else isNonD x), C)
  | _ => none
theorem so_is : SOp F (compareOp .Is) (isD false) := by
  refine ⟨_, fun X h => op_isN, fun ρ C H x y vx vy d C' Q R hx hy hm k => ?_⟩
  unfold isD at hm
  split at hm
  · cases hm; cases hy; exact ⟨rfl, by rw [isNon_ok hx]; exact k.now R (.bl _)⟩
  · cases hm
theorem so_isnot : SOp F (compareOp .IsNot) (isD true) := by
  refine ⟨_, fun X h => op_notN, fun ρ C H x y vx vy d C' Q R hx hy hm k => ?_⟩
  unfold isD at hm
  split at hm
  · cases hm; cases hy; exact ⟨rfl, by rw [isNon_ok hx]; exact k.now R (.bl _)⟩
  · cases hm
/-! ## arithmetic, joining -/
def b2z (b : Bool) : Int := if b = true then 1 else 0
theorem op_add_bi {X : Cx} : OpR X (binaryOp .Add) (fun x y H Q => ∃ k i, x = .bl k ∧ y = .int i ∧ Q (.int ((if k = true then 1 else 0) + i)) H) := by
  intro pins s σ H x y v u Q I rx ry h
  obtain ⟨k, i, rfl, rfl, q⟩ := h
  obtain ⟨t, rfl⟩ := ry
  cases rx
  exact PySem.IntBool.add_bool_int ⟨.int _, H, I.tok _, ⟨_, rfl⟩, q⟩
theorem op_sub_bi {X : Cx} : OpR X (binaryOp .Sub) (fun x y H Q => ∃ k i, x = .bl k ∧ y = .int i ∧ Q (.int ((if k = true then 1 else 0) - i)) H) := by
  intro pins s σ H x y v u Q I rx ry h
  obtain ⟨k, i, rfl, rfl, q⟩ := h
  obtain ⟨t, rfl⟩ := ry
  cases rx
  exact PySem.IntBool.sub_bool_int ⟨.int _, H, I.tok _, ⟨_, rfl⟩, q⟩
theorem op_sub_ib {X : Cx} : OpR X (binaryOp .Sub) (fun x y H Q => ∃ i k, x = .int i ∧ y = .bl k ∧ Q (.int (i - (if k = true then 1 else 0))) H) := by
  intro pins s σ H x y v u Q I rx ry h
  obtain ⟨i, k, rfl, rfl, q⟩ := h
  obtain ⟨t, rfl⟩ := rx
  cases ry
  exact PySem.IntBool.sub_int_bool ⟨.int _, H, I.tok _, ⟨_, rfl⟩, q⟩
def addD : OD2 := fun x y C => match x, y with
  | .int i, .int j => some (.int (i + j), C)
  | .bl k, .int j => some (.int (b2z k + j), C)
  | .str i, .str j => if i.length + j.length ≤ sizeLine then some (.str (i ++ j), C) else none
  | .tup a, .tup b => if a.length + b.length ≤ sizeLine then some (.tup (a ++ b), C) else none
  | .cell m, .cell n => match C[m]?, C[n]? with
    | some (.lst a), some (.lst b) => if a.length + b.length ≤ sizeLine then some (.cell C.length, C ++ [.lst (a ++ b)]) else none
    | _, _ => none
  | _, _ => none
theorem so_add : SOp F (binaryOp .Add) addD := by
  refine ⟨_, fun X h => (op_add.or (op_add_bi.or (op_add_str.or ((show OpR X (binaryOp .Add) (rCatA F.K) by rw [← h.K]; exact op_catA).or op_cat)))), fun ρ C H x y vx vy d C' Q R hx hy hm k => ?_⟩
  unfold addD at hm
  split at hm
  · cases hm; cases hx; cases hy; exact .inl ⟨_, _, rfl, rfl, k.now R (.int _)⟩
  · cases hm; cases hx; cases hy; exact .inr (.inl ⟨_, _, rfl, rfl, k.now R (.int _)⟩)
  · split at hm
    · rename_i hl
      cases hm; cases hx; cases hy; exact .inr (.inr (.inl ⟨_, _, rfl, rfl, hl, k.now R (.str _)⟩))
    · cases hm
  · split at hm
    · rename_i a b hl
      cases hm
      cases hx with | tup h1 h2 => cases hy with | tup h3 h4 =>
        rename_i ax vsx ay vsy
        have e2 := h2.length
        have e4 := h4.length
        refine .inr (.inr (.inr (.inl ⟨_, _, _, _, rfl, rfl, h1, h3, by omega, fun z => ?_, fun _ z => ?_, fun _ _ p hp => ?_⟩)))
        · subst z
          cases h2
          exact k.now R (.tup h3 h4)
        · subst z
          cases h4
          rw [List.append_nil] at k
          exact k.now R (.tup h1 h2)
        · exact k ρ _ _ (R.fresh hp) (Stp.fresh hp) (.tup (SqT.of upd_same) ((h2.append h4).mono (Stp.fresh hp)))
    · cases hm
  · split at hm
    · rename_i m n a b c1 c2
      split at hm
      · rename_i hl
        cases hm
        obtain ⟨p, vs, rfl, ep, e3, e4⟩ := R.lst c1 hx
        obtain ⟨q, ws, rfl, eq, e5, e6⟩ := R.lst c2 hy
        have l4 := e4.length
        have l6 := e6.length
        refine .inr (.inr (.inr (.inr ⟨_, _, _, _, rfl, rfl, e3, e5, by omega, fun r hr => ?_⟩)))
        exact k _ _ _ (R.newL hr (e4.append e6)) (Stp.push hr) (DV.new R)
      · cases hm
    · cases hm
  · cases hm
def subD : OD2 := fun x y C => match x, y with
  | .int i, .int j => some (.int (i - j), C)
  | .bl k, .int j => some (.int (b2z k - j), C)
  | .int i, .bl k => some (.int (i - b2z k), C)
  | _, _ => none
theorem so_sub : SOp F (binaryOp .Sub) subD := by
  refine ⟨_, fun X h => op_sub.or (op_sub_bi.or op_sub_ib), fun ρ C H x y vx vy d C' Q R hx hy hm k => ?_⟩
  unfold subD at hm
  split at hm
  · cases hm; cases hx; cases hy; exact .inl ⟨_, _, rfl, rfl, k.now R (.int _)⟩
  · cases hm; cases hx; cases hy; exact .inr (.inl ⟨_, _, rfl, rfl, k.now R (.int _)⟩)
  · cases hm; cases hx; cases hy; exact .inr (.inr ⟨_, _, rfl, rfl, k.now R (.int _)⟩)
  · cases hm
def mulOk (i j : Int) : Bool := decide ((-(2 ^ 64) < i ∧ i < 2 ^ 64) ∨ (-(2 ^ 64) < j ∧ j < 2 ^ 64))
def mulD : OD2 := fun x y C => match x, y with
  | .int i, .int j => if mulOk i j = true then some (.int (i * j), C) else none
  | .cell m, .int k => match C[m]? with
    | some (.lst a) => if -(2 ^ 63) ≤ k ∧ k < 2 ^ 63 ∧ a.length * k.toNat ≤ sizeLine then some (.cell C.length, C ++ [.lst (List.replicate k.toNat a).flatten]) else none
    | _ => none
  | .tup a, .int k => if a ≠ [] ∧ 2 ≤ k ∧ k ≤ 1000 ∧ a.length ≤ 1000 then some (.tup (List.replicate k.toNat a).flatten, C) else none
  | _, _ => none
theorem DVs.rep {K : PySem.W.Frag} {ft : Cfg} {ρ : List Addr} {H : Hp} {ds : List D} {vs : List V} (h : DVs K ft ρ H ds vs) : ∀ n : Nat, DVs K ft ρ H (List.replicate n ds).flatten (List.replicate n vs).flatten
  | 0 => .nil
  | n + 1 => by simp only [List.replicate_succ, List.flatten_cons]; exact h.append (DVs.rep h n)
theorem so_mul : SOp F (binaryOp .Mult) mulD := by
  refine ⟨_, fun X h => op_mul.or (op_rep.or (show OpR X (binaryOp .Mult) (rRepT F.K) by rw [← h.K]; exact op_repT)), fun ρ C H x y vx vy d C' Q R hx hy hm k => ?_⟩
  unfold mulD at hm
  split at hm
  · split at hm
    · rename_i hc
      cases hm; cases hx; cases hy
      have hc' := of_decide_eq_true hc
      exact .inl ⟨_, _, rfl, rfl, hc', k.now R (.int _)⟩
    · cases hm
  · split at hm
    · rename_i m z a c1
      split at hm
      · rename_i hc
        cases hm; cases hy
        obtain ⟨p, vs, rfl, ep, e3, e4⟩ := R.lst c1 hx
        have l4 := e4.length
        refine .inr (.inl ⟨_, _, _, rfl, rfl, e3, hc.1, hc.2.1, by rw [← l4]; exact hc.2.2, fun r hr => ?_⟩)
        exact k _ _ _ (R.newL hr (e4.rep _)) (Stp.push hr) (DV.new R)
      · cases hm
    · cases hm
  · split at hm
    · rename_i a z hc
      cases hm; cases hy
      cases hx with | tup h1 h2 =>
        have l2 := h2.length
        refine .inr (.inr ⟨_, _, _, rfl, rfl, h1, fun q => ?_, hc.2.1, hc.2.2.1, by rw [← l2]; exact hc.2.2.2, fun p hp => ?_⟩)
        · subst q; exact hc.1 (List.length_eq_zero_iff.mp (by simpa using l2))
        · exact k ρ _ _ (R.fresh hp) (Stp.fresh hp) (.tup (SqT.of upd_same) ((h2.rep _).mono (Stp.fresh hp)))
    · cases hm
  · cases hm
def intD (c : Int → Int → Bool) (f : Int → Int → Int) : OD2 := fun x y C => match x, y with
  | .int i, .int j => if c i j = true then some (.int (f i j), C) else none
  | _, _ => none
theorem int_ok {g : Value → Value → Sem Value} {c : Int → Int → Bool} {f : Int → Int → Int} {P : Int → Int → Prop} (h : ∀ X, F.Is X → OpR X g (rI P fun i j => .int (f i j))) (hc : ∀ i j, c i j = true → P i j) : SOp F g (intD c f) := by
  refine ⟨_, h, fun ρ C H x y vx vy d C' Q R hx hy hm k => ?_⟩
  unfold intD at hm
  split at hm
  · split at hm
    · rename_i q
      cases hm; cases hx; cases hy
      exact ⟨_, _, rfl, rfl, hc _ _ q, k.now R (.int _)⟩
    · cases hm
  · cases hm
abbrev modD : OD2 := intD (fun _ j => decide (j ≠ 0)) fun i j => i.fmod j
abbrev fdivD : OD2 := intD (fun _ j => decide (j ≠ 0 ∧ j.natAbs < 1073741824)) fun i j => i.fdiv j
abbrev powD : OD2 := intD (fun i j => decide (0 ≤ j ∧ j ≤ 1000000 ∧ i.natAbs < 2 ^ 64)) fun i j => i ^ j.toNat
abbrev shlD : OD2 := intD (fun i j => decide (0 ≤ j ∧ j ≤ 1000000 ∧ i.natAbs < 2 ^ 64)) fun i j => i * 2 ^ j.toNat
abbrev shrD : OD2 := intD (fun _ j => decide (0 ≤ j)) fun i j => i / 2 ^ j.toNat
theorem so_mod : SOp F (binaryOp .Mod) modD := int_ok (fun _ _ => op_modN) fun i j q => by have z := of_decide_eq_true q; exact z
theorem so_fdiv : SOp F (binaryOp .FloorDiv) fdivD := int_ok (fun _ _ => op_fdivN) fun i j q => by have z := of_decide_eq_true q; exact z
theorem so_pow : SOp F (binaryOp .Pow) powD := int_ok (fun _ _ => op_pow) fun i j q => by have z := of_decide_eq_true q; exact z
theorem so_shl : SOp F (binaryOp .LShift) shlD := int_ok (fun _ _ => op_shl) fun i j q => by have z := of_decide_eq_true q; exact z
theorem so_shr : SOp F (binaryOp .RShift) shrD := int_ok (fun _ _ => op_shr) fun i j q => by have z := of_decide_eq_true q; exact z
def int0D (f : Int → Int → Int) : OD2 := fun x y C => match x, y with
  | .int i, .int j => some (.int (f i j), C)
  | _, _ => none
theorem int0_ok {g : Value → Value → Sem Value} {f : Int → Int → Int} (h : ∀ X, F.Is X → OpR X g (rI0 fun i j => .int (f i j))) : SOp F g (int0D f) := by
  refine ⟨_, h, fun ρ C H x y vx vy d C' Q R hx hy hm k => ?_⟩
  unfold int0D at hm
  split at hm
  · cases hm; cases hx; cases hy; exact ⟨_, _, rfl, rfl, k.now R (.int _)⟩
  · cases hm
theorem so_band : SOp F (binaryOp .BitAnd) (int0D Builtin.bitAnd) := int0_ok fun _ _ => op_and
theorem so_bor : SOp F (binaryOp .BitOr) (int0D Builtin.bitOr) := int0_ok fun _ _ => op_or
def negD : OD1 := fun x C => match x with | .int i => some (.int (-i), C) | _ => none
theorem su_neg : SUn F (unaryOp .USub) negD := by
  refine ⟨_, fun X h => un_neg, fun ρ C H x vx d C' Q R hx hm k => ?_⟩
  unfold negD at hm
  split at hm
  · cases hm; cases hx; exact ⟨_, rfl, k.now R (.int _)⟩
  · cases hm
theorem sp_of {op : Operator} {f : OD2} (h : SOp F (inplaceOp op) f) : SIp F op f := by
  obtain ⟨r, hr, s⟩ := h
  exact ⟨r, fun X i => fun pins s σ H x y v u Q I rx ry q => hr X i pins s σ H x y v u Q I rx ry q, s⟩
theorem sip_add : SIp F .Add (int0D fun i j => i + j) := sp_of (int0_ok fun _ _ => iop_add)
theorem sip_sub : SIp F .Sub (int0D fun i j => i - j) := sp_of (int0_ok fun _ _ => iop_sub)
/-! ## subscripts, slices -/
def codeD (c : Nat) : D := .str ⟨#[c]⟩
def ixD : OD2 := fun x y C => match y with
  | .int i => match x with
    | .tup ds => (atI ds i).map fun d => (d, C)
    | .rol ns => (atI ns i).map fun d => (.int d, C)
    | .cell n => match C[n]? with | some (.lst ds) => (atI ds i).map fun d => (d, C) | _ => none
    | .str z => if z.length ≤ sizeLine then (atI z.cps.toList i).map fun c => (codeD c, C) else none
    | _ => none
  | _ => none
theorem atI_dvs {K : PySem.W.Frag} {ft : Cfg} {ρ : List Addr} {H : Hp} {ds : List D} {vs : List V} {i : Int} {d : D} (h : DVs K ft ρ H ds vs) (e : atI ds i = some d) : ∃ v, atI vs i = some v ∧ DV K ft ρ H d v := by
  unfold atI at e ⊢
  rw [h.length] at e
  cases q : ixN vs.length i with
  | none => rw [q] at e; cases e
  | some j =>
    rw [q] at e
    exact h.get e
theorem omap {α β : Type} {o : Option α} {f : α → β} {z : β} (h : o.map f = some z) : ∃ y, o = some y ∧ f y = z := by
  cases o with
  | none => cases h
  | some y => exact ⟨y, rfl, by simpa using h⟩
theorem six : SIx F ixD := by
  refine ⟨rIx F.K, fun X h => by have z := ix_seq (X := X); rw [h.K] at z; exact z, fun ρ C H x y vx vy d C' Q R hx hy hm k => ?_⟩
  unfold ixD at hm
  split at hm
  · rename_i i
    cases hy
    split at hm
    · obtain ⟨e, q1, q2⟩ := omap hm
      cases q2
      cases hx with | tup h1 h2 =>
        obtain ⟨v, e1, e2⟩ := atI_dvs h2 q1
        exact .inr (.inl ⟨_, _, _, _, rfl, rfl, h1, e1, k.now R e2⟩)
    · obtain ⟨e, q1, q2⟩ := omap hm
      cases q2
      cases hx with | rol h1 =>
        obtain ⟨v, e1, e2⟩ := atI_dvs (K := F.K) (ft := F.ft) (ρ := ρ) (H := H) (d := .int e) (i := i) (DVs.ints _) (by
          unfold atI at q1 ⊢
          rw [List.length_map]
          cases q : ixN _ i with
          | none => rw [q] at q1; cases q1
          | some j =>
            rw [q] at q1
            have q2 : _ = some e := q1
            show (List.map D.int _)[j]? = _
            rw [List.getElem?_map]
            exact (congrArg (Option.map D.int) q2))
        exact .inl ⟨_, _, _, _, rfl, rfl, h1.1, e1, k.now R e2⟩
    · split at hm
      · rename_i c1
        obtain ⟨e, q1, q2⟩ := omap hm
        cases q2
        obtain ⟨p, vs, rfl, ep, e3, e4⟩ := R.lst c1 hx
        obtain ⟨v, e1, e2⟩ := atI_dvs e4 q1
        exact .inl ⟨_, _, _, _, rfl, rfl, SqL.of e3, e1, k.now R e2⟩
      · cases hm
    · split at hm
      · rename_i z hl
        obtain ⟨e, q1, q2⟩ := omap hm
        cases q2
        cases hx
        exact .inr (.inr ⟨_, _, _, rfl, rfl, hl, q1, k.now R (.str _)⟩)
      · cases hm
    · cases hm
  · cases hm
def cutD (xs : List D) (lo hi : Option Int) : List D := (xs.drop (HT.sIx xs.length 0 lo)).take (HT.sIx xs.length xs.length hi - HT.sIx xs.length 0 lo)
theorem cut_dvs {K : PySem.W.Frag} {ft : Cfg} {ρ : List Addr} {H : Hp} {ds : List D} {vs : List V} (lo hi : Option Int) (h : DVs K ft ρ H ds vs) : DVs K ft ρ H (cutD ds lo hi) (cutV vs lo hi) := by
  unfold cutD cutV
  rw [h.length]
  exact (h.drop _).take _
def slD : ODS := fun x lo hi C => match x with
  | .tup ds => some (.tup (cutD ds lo hi), C)
  | .rol ns => some (.cell C.length, C ++ [.lst (cutD (ns.map D.int) lo hi)])
  | .cell n => match C[n]? with | some (.lst ds) => some (.cell C.length, C ++ [.lst (cutD ds lo hi)]) | _ => none
  | .str z => if z.length ≤ sizeLine then some (.str (Txt.slice z lo hi), C) else none
  | _ => none
theorem cut_whole {α : Type} (ds : List α) {a b : Nat} (h1 : a = 0) (h2 : b = ds.length) : (ds.drop a).take (b - a) = ds := by subst h1; subst h2; simp
theorem ssl : SSl F slD := by
  refine ⟨_, fun X h => ((show SlR X (rSlA F.K) by rw [← h.K]; exact sl_tupA).or ((show SlR X (rSlL F.K) by rw [← h.K]; exact sl_list).or C8.sl_txt)), fun ρ C H x lo hi vx d C' Q R hx hm k => ?_⟩
  unfold slD at hm
  split at hm
  · cases hm
    cases hx with | tup h1 h2 =>
      refine .inl ⟨_, _, rfl, h1, fun z => ?_, fun _ p hp => ?_⟩
      · have e := cut_dvs lo hi h2
        have e2 : cutV _ lo hi = _ := cut_whole _ z.1 z.2
        rw [e2] at e
        exact k.now R (.tup h1 e)
      · exact k ρ _ _ (R.fresh hp) (Stp.fresh hp) (.tup (SqT.of upd_same) ((cut_dvs lo hi h2).mono (Stp.fresh hp)))
  · cases hm
    cases hx with | rol h1 =>
      refine .inr (.inl ⟨_, _, rfl, h1.1, fun p hp => ?_⟩)
      exact k _ _ _ (R.newL hp (cut_dvs lo hi (DVs.ints _))) (Stp.push hp) (DV.new R)
  · split at hm
    · rename_i c1
      cases hm
      obtain ⟨p, vs, rfl, ep, e3, e4⟩ := R.lst c1 hx
      refine .inr (.inl ⟨_, _, rfl, SqL.of e3, fun p hp => ?_⟩)
      exact k _ _ _ (R.newL hp (cut_dvs lo hi e4)) (Stp.push hp) (DV.new R)
    · cases hm
  · split at hm
    · rename_i hl
      cases hm; cases hx
      exact .inr (.inr ⟨_, rfl, hl, k.now R (.str _)⟩)
    · cases hm
  · cases hm
end
end Mi
set_option Elab.async false
set_option linter.all false
set_option maxRecDepth 100000
set_option maxHeartbeats 4000000
namespace Mi
open PySem PySem.Spec PyProof.Rows L2
section
variable {F : Fm} {pos : Pos} {x : Str}
/-- a built-in type's name as a value -/
theorem se_ty (t : Ky) (hm : F.mg x = none) (hv : bootBuiltins x = some (.type t.nm)) (hg : F.sc.names.lookup x = some .globalImplicit := by rfl) (hn : x ≠ "__name__" := by decide) (hd : (x == ("__debug__" : Str)) = false := by decide) : SE F (.Name x pos) (mC (.ty t)) :=
  ⟨tC (.ty t.nm), fun X h => pe_bltn (h.gl hg) (by rw [h.mg]; exact hm) hv (show _ = _ from rfl) hn hd, fun ρ C H E σ d C' Q R eo hm k => by cases hm; exact k.now R (.ty _)⟩
def kyD (C : Hm) : D → Option Ky
  | .non => some .non
  | .bl _ => some .bl
  | .int _ => some .int
  | .str _ => some .str
  | .tup _ => some .tup
  | .rol _ => some .lst
  | .cell n => match C[n]? with | some (.lst _) => some .lst | some (.dic _) => some .dic | _ => none
  | _ => none
theorem kyD_ok {ρ : List Addr} {H : Hp} {C : Hm} {d : D} {v : V} {t : Ky} (R : RelF F ρ H C) (h : DVF F ρ H d v) (e : kyD C d = some t) : TyX F.K H v (.type t.nm) := by
  have lst : ∀ {a xs}, SqL F.K H a xs → TyX F.K H (.ref a) (.type "list") := fun {a xs} q => by
    rcases q with (q | ⟨o, q⟩) | ⟨o, its, n, hk, hc, _⟩
    · exact .base (.lst q)
    · exact .base (.frz q)
    · exact .kList hk hc
  cases h with
  | non => cases e; exact .base .non
  | bl b => cases e; exact .base (.bl b)
  | int b => cases e; exact .base (.int b)
  | str b => cases e; exact .base (.str b)
  | tup h _ =>
    cases e
    rcases h with (q | ⟨o, q⟩) | ⟨o, its, n, hk, hc, _⟩
    · exact .base (.tup q)
    · exact .fTuple q
    · exact .kTuple hk hc
  | rol h => cases e; exact lst h.1
  | fn n => cases e
  | ty t => cases e
  | @cell n a h =>
    unfold kyD at e
    simp only at e
    split at e
    · rename_i ds q
      cases e
      obtain ⟨a', vs, e1, e2, e3, e4⟩ := R.lst q (.cell h)
      cases e1
      exact .base (.lst e3)
    · rename_i ds q
      cases e
      obtain ⟨a', vs, e1, e2, e3, e4⟩ := R.dic q (.cell h)
      cases e1
      exact .base (.dK e3)
    · cases e
def isiK : Ky → Ky → Bool
  | .bl, .int => true
  | .non, .non => true
  | .bl, .bl => true
  | .int, .int => true
  | .str, .str => true
  | .tup, .tup => true
  | .lst, .lst => true
  | .dic, .dic => true
  | _, _ => false
theorem isiK_ok (a b : Ky) (hb : b ≠ .non) : kitB a.nm b.nm = some (isiK a b) := by
  cases a <;> cases b <;> first | exact absurd rfl hb | decide +kernel
def notNon : Ky → Bool
  | .non => false
  | _ => true
def isiD : ODL := fun xs C => match xs with
  | [x, .ty t] => match kyD C x with
    | some k => if notNon t = true then some (.bl (isiK k t), C) else none
    | none => none
  | _ => none
theorem sc_isi : SCall F (.builtin "isinstance") isiD := by
  refine ⟨rIsi F.K, fun X h => by have z := call_isi (X := X); rw [h.K] at z; exact z, fun ρ C H xs vs d C' Q R hx hm k => ?_⟩
  unfold isiD at hm
  split at hm
  · rename_i x t
    split at hm
    · rename_i kk q
      split at hm
      · rename_i hn
        cases hm
        cases hx with | cons h1 h2 => cases h2 with | cons h3 h4 => cases h4; cases h3; exact ⟨_, _, _, _, _, rfl, .ty _, kyD_ok R h1 q, kit_ty (isiK_ok kk t (by intro e; subst e; cases hn)), k.now R (.bl _)⟩
      · cases hm
    · cases hm
  · cases hm
def lenD : ODL := fun xs C => match xs with
  | [.str z] => if z.length ≤ sizeLine then some (.int z.length, C) else none
  | [.tup ds] => some (.int ds.length, C)
  | [.rol ds] => some (.int ds.length, C)
  | [.cell n] => match C[n]? with | some (.lst ds) => some (.int ds.length, C) | _ => none
  | _ => none
theorem sc_len : SCall F (.builtin "len") lenD := by
  refine ⟨fun xs H Q => ∃ x n, xs = [x] ∧ LenV F.K x H n ∧ Q (.int n) H, fun X h => by have z := call_len (X := X); rw [h.K] at z; exact z, fun ρ C H xs vs d C' Q R hx hm k => ?_⟩
  unfold lenD at hm
  split at hm
  · split at hm
    · rename_i hl
      cases hm
      cases hx with | cons h1 h2 => cases h2; cases h1; exact ⟨_, _, rfl, ⟨hl, rfl⟩, k.now R (.int _)⟩
    · cases hm
  · cases hm
    cases hx with | cons h1 h2 => cases h2; cases h1 with | tup h3 h4 => exact ⟨_, _, rfl, .inr ⟨_, h3, rfl⟩, by rw [← h4.length]; exact k.now R (.int _)⟩
  · cases hm
    cases hx with | cons h1 h2 => cases h2; cases h1 with | rol h3 => exact ⟨_, _, rfl, .inl ⟨_, h3.1, rfl⟩, by rw [List.length_map]; exact k.now R (.int _)⟩
  · split at hm
    · rename_i ds q
      cases hm
      cases hx with | cons h1 h2 =>
        cases h2
        obtain ⟨p, vs, rfl, ep, e3, e4⟩ := R.lst q h1
        exact ⟨_, _, rfl, .inl ⟨_, SqL.of e3, rfl⟩, by rw [← e4.length]; exact k.now R (.int _)⟩
    · cases hm
  · cases hm
/-- the truth values of a list of them -/
def blsOf : List D → Option (List Bool)
  | [] => some []
  | .bl b :: ds => (blsOf ds).map (b :: ·)
  | _ :: _ => none
theorem blsOf_ok {K : PySem.W.Frag} {ft : Cfg} {ρ : List Addr} {H : Hp} : ∀ {ds : List D} {vs : List V} {bs : List Bool}, DVs K ft ρ H ds vs → blsOf ds = some bs → vs = bs.map V.bl
  | [], _, _, .nil, e => by cases e; rfl
  | d :: ds, _, bs, .cons h t, e => by
    cases d with
    | bl b =>
      obtain ⟨cs, e1, e2⟩ := omap (show (blsOf ds).map (b :: ·) = some bs from e)
      cases e2
      cases h
      rw [blsOf_ok t e1]
      rfl
    | _ => cases e
def allD (f : List Bool → Bool) : ODL := fun xs C => match xs with
  | [.cell n] => match C[n]? with | some (.lst ds) => (blsOf ds).map fun bs => (.bl (f bs), C) | _ => none
  | _ => none
theorem allD_ok {id : String} {f : List Bool → Bool} (h : ∀ X, F.Is X → CallR X (.builtin id) (fun vs H Q => ∃ (a : Addr) (bs : List Bool), vs = [V.ref a] ∧ SqL F.K H a (bs.map V.bl) ∧ Q (.bl (f bs)) H)) : SCall F (.builtin id) (allD f) := by
  refine ⟨_, h, fun ρ C H xs vs d C' Q R hx hm k => ?_⟩
  unfold allD at hm
  split at hm
  · split at hm
    · rename_i ds q
      obtain ⟨bs, e1, e2⟩ := omap hm
      cases e2
      cases hx with | cons h1 h2 =>
        cases h2
        obtain ⟨p, vs, rfl, ep, e3, e4⟩ := R.lst q h1
        exact ⟨_, _, rfl, by rw [← blsOf_ok e4 e1]; exact SqL.of e3, k.now R (.bl _)⟩
    · cases hm
  · cases hm
theorem sc_all : SCall F (.builtin "all") (allD fun bs => bs.all id) := allD_ok fun X h => by have z := cr_all (X := X) h.calm; unfold rAll at z; rw [h.K] at z; exact z
theorem sc_any : SCall F (.builtin "any") (allD fun bs => bs.any id) := allD_ok fun X h => by have z := cr_any (X := X) h.calm; unfold rAny at z; rw [h.K] at z; exact z
def ordC : ODL := fun xs C => match xs with
  | [.str z] => if z.length = 1 then some (.int (z.cps.getD 0 0 : Nat), C) else none
  | _ => none
theorem sc_ord : SCall F (.builtin "ord") ordC := by
  refine ⟨_, fun X h => call_ord, fun ρ C H xs vs d C' Q R hx hm k => ?_⟩
  unfold ordC at hm
  split at hm
  · split at hm
    · rename_i hl
      cases hm
      cases hx with | cons h1 h2 => cases h2; cases h1; exact ⟨_, rfl, hl, k.now R (.int _)⟩
    · cases hm
  · cases hm
def intC : ODL := fun xs C => match xs with
  | [.int i] => some (.int i, C)
  | [.bl b] => some (.int (if b then 1 else 0), C)
  | _ => none
theorem sc_int : SCall F (.type "int") intC := by
  refine ⟨_, fun X h => call_int1, fun ρ C H xs vs d C' Q R hx hm k => ?_⟩
  unfold intC at hm
  split at hm
  · cases hm; cases hx with | cons h1 h2 => cases h2; cases h1; exact .inl ⟨_, rfl, k.now R (.int _)⟩
  · cases hm; cases hx with | cons h1 h2 => cases h2; cases h1; exact .inr ⟨_, rfl, k.now R (.int _)⟩
  · cases hm
/-! ## repr -/
def rRepr (K : PySem.W.Frag) : List V → Hp → VK → Prop := fun vs H Q => ∃ v p, vs = [v] ∧ Dp K H v p ∧ p.showable = true ∧ p.depth ≤ 64 ∧ p.shown.length ≤ sizeLine ∧ Q (.str p.shown) H
theorem dp_nodict {K : PySem.W.Frag} {H : Hp} : (∀ {v : V} {p : PyData}, Dp K H v p → p.hasDict = false) ∧ ∀ {vs : List V} {ps : List PyData}, DpAll K H vs ps → PyData.hasDictAll ps = false := by
  have a : ∀ {v : V} {p : PyData}, Dp K H v p → p.hasDict = false := by
    intro v p h
    induction h using Dp.rec (motive_2 := fun vs ps _ => PyData.hasDictAll ps = false) with
    | non => rfl
    | bl b => rfl
    | int i => rfl
    | str x => rfl
    | lst _ _ ih => exact ih
    | tup _ _ ih => exact ih
    | nil => rfl
    | cons _ _ a b => simp only [PyData.hasDictAll, a, b, Bool.or_self]
  refine ⟨a, fun {vs ps} h => ?_⟩
  induction ps generalizing vs with
  | nil => rfl
  | cons p ps ih => cases h with | cons h t => simp only [PyData.hasDictAll, a h, ih t, Bool.or_self]
theorem call_repr {X : Cx} (hg : X.A.guards = some []) (hu : X.A.units + 66 < cLine) : CallR X (.builtin "repr") (rRepr X.K) := by
  intro pins s σ H xs us Q I r h
  obtain ⟨v, p, rfl, hd, sh, dp, hl, q⟩ := h
  obtain ⟨u, rfl, rv⟩ := vals1 r
  obtain ⟨as, rd⟩ := Dp.reads I p v u hd rv
  have nd := dp_nodict.1 hd
  cases hd with
  | non => cases (show u = Value.none from rv); exact PySem.P.repr_of_none ⟨.str _, H, I.tok _, ⟨_, rfl⟩, q⟩
  | bl b => cases (show u = Value.bool b from rv); exact PySem.P.repr_of_bool ⟨.str _, H, I.tok _, ⟨_, rfl⟩, q⟩
  | int i =>
    obtain ⟨t, e⟩ := (show ∃ t, u = Value.int i t from rv)
    subst e
    exact PySem.P.repr_of_int (of_decide_eq_true sh) ⟨.str _, H, I.tok _, ⟨_, rfl⟩, q⟩
  | str y =>
    obtain ⟨t, e⟩ := (show ∃ t, u = Value.str y t from rv)
    subst e
    exact PySem.P.repr_of_str ⟨.str _, H, I.tok _, ⟨_, rfl⟩, q⟩ hl
  | lst _ _ =>
    cases rv
    exact repr_of_reads' rd sh (fun e => by rw [nd] at e; cases e) hg (by omega) (fun _ _ e => e) (fun h' t tk kp => ⟨.str _, H, I.kept (t' := tk) kp, ⟨_, rfl⟩, q⟩) hl
  | tup _ _ =>
    cases rv
    exact repr_of_reads' rd sh (fun e => by rw [nd] at e; cases e) hg (by omega) (fun _ _ e => e) (fun h' t tk kp => ⟨.str _, H, I.kept (t' := tk) kp, ⟨_, rfl⟩, q⟩) hl
def reprD : ODL := fun xs C => match xs with
  | [x] => match py C 70 x with
    | some p => if p.showable = true ∧ p.depth ≤ 64 ∧ p.shown.length ≤ sizeLine then some (.str p.shown, C) else none
    | none => none
  | _ => none
theorem Room.u66 {k : Nat} {A : Around} (r : Room k A) : A.units + 66 < cLine := by have := r.un; omega
theorem sc_repr : SCall F (.builtin "repr") reprD := by
  refine ⟨rRepr F.K, fun X h => by have z := call_repr h.gu (Room.u66 h.rm); rw [h.K] at z; exact z, fun ρ C H xs vs d C' Q R hx hm k => ?_⟩
  unfold reprD at hm
  split at hm
  · split at hm
    · rename_i p e
      split at hm
      · rename_i hc
        cases hm
        cases hx with | cons h1 h2 => cases h2; exact ⟨_, _, rfl, py_ok R _ h1 e, hc.1, hc.2.1, hc.2.2, k.now R (.str _)⟩
      · cases hm
    · cases hm
  · cases hm
/-! ## list, tuple, sorted, str -/
def seqOf (C : Hm) : D → Option (List D)
  | .tup ds => some ds
  | .rol ns => some (ns.map D.int)
  | .cell n => match C[n]? with | some (.lst ds) => some ds | _ => none
  | _ => none
theorem seqOf_ok {ρ : List Addr} {H : Hp} {C : Hm} {d : D} {v : V} {ds : List D} (R : RelF F ρ H C) (h : DVF F ρ H d v) (e : seqOf C d = some ds) : ∃ a vs, v = .ref a ∧ (SqL F.K H a vs ∨ SqT F.K H a vs) ∧ DVsF F ρ H ds vs := by
  cases d with
  | tup ds => cases e; cases h with | tup h1 h2 => exact ⟨_, _, rfl, .inr h1, h2⟩
  | rol ns => cases e; cases h with | rol h1 => exact ⟨_, _, rfl, .inl h1.1, DVs.ints _⟩
  | cell n =>
    unfold seqOf at e
    simp only at e
    split at e
    · rename_i ds q
      cases e
      obtain ⟨p, vs, rfl, ep, e3, e4⟩ := R.lst q h
      exact ⟨_, _, rfl, .inl (SqL.of e3), e4⟩
    · cases e
  | _ => cases e
def listD : ODL := fun xs C => match xs with
  | [x] => (seqOf C x).map fun ds => (.cell C.length, C ++ [.lst ds])
  | _ => none
theorem sc_list : SCall F (.type "list") listD := by
  refine ⟨fun xs H Q => ∃ p ys, xs = [.ref p] ∧ (SqL F.K H p ys ∨ SqT F.K H p ys) ∧ ∀ l, H l = none → Q (.ref l) (upd H l (.lst ys)), fun X h => by have z := call_list_of (X := X); rw [h.K] at z; exact z, fun ρ C H xs vs d C' Q R hx hm k => ?_⟩
  unfold listD at hm
  split at hm
  · obtain ⟨ds, e1, e2⟩ := omap hm
    cases e2
    cases hx with | cons h1 h2 =>
      cases h2
      obtain ⟨a, vs, rfl, hs, hd⟩ := seqOf_ok R h1 e1
      exact ⟨_, _, rfl, hs, fun p hp => k _ _ _ (R.newL hp hd) (Stp.push hp) (DV.new R)⟩
  · cases hm
def tupleD : ODL := fun xs C => match xs with
  | [x] => (seqOf C x).map fun ds => (.tup ds, C)
  | _ => none
theorem sc_tuple : SCall F (.type "tuple") tupleD := by
  refine ⟨fun xs H Q => ∃ p ys, xs = [.ref p] ∧ ((SqL F.K H p ys ∧ ∀ l, H l = none → Q (.ref l) (upd H l (.tup ys))) ∨ (SqT F.K H p ys ∧ Q (.ref p) H)), fun X h => by have z := call_tuple_of (X := X); rw [h.K] at z; exact z, fun ρ C H xs vs d C' Q R hx hm k => ?_⟩
  unfold tupleD at hm
  split at hm
  · obtain ⟨ds, e1, e2⟩ := omap hm
    cases e2
    cases hx with | cons h1 h2 =>
      cases h2
      obtain ⟨a, vs, rfl, hs, hd⟩ := seqOf_ok R h1 e1
      refine ⟨_, vs, rfl, ?_⟩
      rcases hs with hs | hs
      · exact .inl ⟨hs, fun p hp => k ρ _ _ (R.fresh hp) (Stp.fresh hp) (.tup (SqT.of upd_same) (hd.mono (Stp.fresh hp)))⟩
      · exact .inr ⟨hs, k.now R (.tup hs hd)⟩
  · cases hm
end
end Mi
set_option Elab.async false
set_option linter.all false
set_option maxRecDepth 100000
set_option maxHeartbeats 4000000
namespace Mi
open PySem PySem.Spec PyProof.Rows L2
section
variable {F : Fm} {a b c e o tg iter value : Expr} {es : List Expr} {pos pos' p : Pos} {x y : Str} {i j : Nat} {ma mb mc me mo mv mi : ME} {mt mu : MT} {ml : MA}
/-! ## dicts -/
def keyD : D → Option Key
  | .int i => some (.inl i)
  | .str x => some (.inr x)
  | _ => none
theorem keyD_ok {ρ : List Addr} {H : Hp} {d : D} {v : V} {k : Key} (h : DVF F ρ H d v) (e : keyD d = some k) : v = kV k := by
  cases h <;> cases e <;> rfl
def valD (kvs : List (Key × D)) (k : Key) : Option D := (kvs.find? fun kv => decide (kv.1 = k)).map (·.2)
def putD (kvs : List (Key × D)) (k : Key) (v : D) : List (Key × D) := if (valD kvs k).isSome = true then kvs.map fun kv => if kv.1 = k then (kv.1, v) else kv else kvs ++ [(k, v)]
abbrev DKs (F : Fm) (ρ : List Addr) (H : Hp) : List (Key × D) → List (Key × V) → Prop := Paired fun (p : Key × D) (q : Key × V) => p.1 = q.1 ∧ DVF F ρ H p.2 q.2
theorem valD_ok {ρ : List Addr} {H : Hp} {k : Key} : ∀ {kvs : List (Key × D)} {ws : List (Key × V)}, DKs F ρ H kvs ws → (∀ d, valD kvs k = some d → ∃ v, valV ws k = some v ∧ DVF F ρ H d v) ∧ (valD kvs k = none → valV ws k = none)
  | _, _, .nil => ⟨(fun d h => by simp [valD] at h), (fun _ => rfl)⟩
  | p :: kvs, q :: ws, .cons h t => by
    have ih := valD_ok (k := k) t
    by_cases hk : p.1 = k
    · have hq : q.1 = k := h.1 ▸ hk
      refine ⟨fun d e => ?_, fun e => ?_⟩
      · rw [valV_pos hq]
        have e' : valD (p :: kvs) k = some p.2 := by simp [valD, List.find?_cons, hk]
        rw [e'] at e
        cases e
        exact ⟨_, rfl, h.2⟩
      · simp [valD, List.find?_cons, hk] at e
    · have hq : ¬ q.1 = k := h.1 ▸ hk
      have e' : valD (p :: kvs) k = valD kvs k := by simp [valD, List.find?_cons, hk]
      rw [e', valV_neg hq]
      exact ih
theorem putD_ok {ρ : List Addr} {H : Hp} {k : Key} {d : D} {v : V} {kvs : List (Key × D)} {ws : List (Key × V)} (h : DKs F ρ H kvs ws) (hd : DVF F ρ H d v) : DKs F ρ H (putD kvs k d) (putK ws k v) := by
  have hv := valD_ok (k := k) h
  unfold putD putK
  rw [valV_any]
  have snoc : ∀ {kvs : List (Key × D)} {ws : List (Key × V)}, DKs F ρ H kvs ws → DKs F ρ H (kvs ++ [(k, d)]) (ws ++ [(k, v)]) := by
    intro kvs ws h
    induction h with
    | nil => exact .cons ⟨rfl, hd⟩ .nil
    | cons z _ ih => exact .cons z ih
  have repl : ∀ {kvs : List (Key × D)} {ws : List (Key × V)}, DKs F ρ H kvs ws → DKs F ρ H (kvs.map fun kv => if kv.1 = k then (kv.1, d) else kv) (ws.map fun kv => if kv.1 = k then (kv.1, v) else kv) := by
    intro kvs ws h
    induction h with
    | nil => exact .nil
    | @cons p q _ _ z _ ih =>
      refine .cons ?_ ih
      by_cases hk : p.1 = k
      · dsimp only; rw [if_pos hk, if_pos (z.1 ▸ hk)]; exact ⟨z.1, hd⟩
      · dsimp only; rw [if_neg hk, if_neg (z.1 ▸ hk)]; exact z
  cases q : valD kvs k with
  | none =>
    rw [hv.2 q]
    simp only [Option.isSome_none, Bool.false_eq_true, if_false]
    exact snoc h
  | some z =>
    obtain ⟨w, e1, _⟩ := hv.1 z q
    rw [e1]
    simp only [Option.isSome_some, if_true]
    exact repl h
def dgetD : OD2 := fun x y C => match x with
  | .cell n => match C[n]? with | some (.dic kvs) => (keyD y).bind fun k => (valD kvs k).map fun d => (d, C) | _ => none
  | _ => none
theorem Room.u1 {k : Nat} {A : Around} (r : Room k A) : A.units + 1 < cLine := by have := r.un; omega
theorem se_dget (ho : SE F o mo) (hi : SE F e mi) (hs : NoSl e := by intro _ _; rfl) : SE F (.Subscript o e pos) (mBin dgetD mo mi) := by
  obtain ⟨to, po, so⟩ := ho
  obtain ⟨ti, pi, si⟩ := hi
  refine ⟨_, fun X h => pe_dget (Room.u1 h.rm) (po X h) (pi X h) hs, fun ρ C H E σ d C' Q R eo hm k => ?_⟩
  obtain ⟨⟨x, C1⟩, h1, hm⟩ := obind hm
  obtain ⟨⟨y, C2⟩, h2, hm⟩ := obind hm
  refine so ρ C H E σ x C1 _ R eo h1 fun ρ1 H1 v1 R1 s1 d1 => ?_
  refine si ρ1 C1 H1 E σ y C2 _ R1 (eo.mono s1) h2 fun ρ2 H2 v2 R2 s2 d2 => ?_
  simp only at hm
  unfold dgetD at hm
  split at hm
  · split at hm
    · rename_i kvs q
      obtain ⟨kk, e1, hm⟩ := obind hm
      obtain ⟨z, e2, e3⟩ := omap hm
      cases e3
      obtain ⟨p, ws, rfl, ep, e4, e5⟩ := R2.dic q (d1.mono s2)
      obtain ⟨v, e6, e7⟩ := (valD_ok (k := kk) e5).1 _ e2
      rw [keyD_ok d2 e1]
      exact ⟨p, v, rfl, by rw [← e6]; exact DGet.k e4, (k.step (s1.trans s2)).now R2 e7⟩
    · cases hm
  · cases hm
def mDPut (mv mo mi : ME) : MS := fun E C => (mv E C).bind fun r => (mo E r.2).bind fun p => (mi E p.2).bind fun q => match p.1 with
  | .cell n => match q.2[n]? with
    | some (.dic kvs) => (keyD q.1).bind fun k => if kvs.length < sizeLine then some (.nx E (q.2.set n (.dic (putD kvs k r.1)))) else none
    | _ => none
  | _ => none
theorem DKs.len {ρ : List Addr} {H : Hp} {kvs : List (Key × D)} {ws : List (Key × V)} (h : DKs F ρ H kvs ws) : kvs.length = ws.length := Paired.length h
theorem ss_dput (ho : SE F o mo) (hi : SE F e mi) (hv : SE F value mv) (hs : ∀ env : Env, swapsWith value (some (.Subscript o e pos')) pos.line env = pure false := by intro _; rfl) : SS F (.Assign [.Subscript o e pos'] value pos) (mDPut mv mo mi) := by
  obtain ⟨to, po, so⟩ := ho
  obtain ⟨ti, pi, si⟩ := hi
  obtain ⟨tv, pv, sv⟩ := hv
  refine ⟨_, fun X h => ps_dput (Room.u1 h.rm) (po X h) (pi X h) (pv X h) (hs _), fun ρ C H E σ o Z R eo hm k => ?_⟩
  obtain ⟨⟨r, C0⟩, h0, hm⟩ := obind hm
  obtain ⟨⟨x, C1⟩, h1, hm⟩ := obind hm
  obtain ⟨⟨y, C2⟩, h2, hm⟩ := obind hm
  refine sv ρ C H E σ r C0 _ R eo h0 fun ρ0 H0 v0 R0 s0 d0 => ?_
  refine so ρ0 C0 H0 E σ x C1 _ R0 (eo.mono s0) h1 fun ρ1 H1 v1 R1 s1 d1 => ?_
  refine si ρ1 C1 H1 E σ y C2 _ R1 (eo.mono (s0.trans s1)) h2 fun ρ2 H2 v2 R2 s2 d2 => ?_
  simp only at hm
  split at hm
  · split at hm
    · rename_i n kvs q
      obtain ⟨kk, e1, hm⟩ := obind hm
      split at hm
      · rename_i hl
        cases hm
        obtain ⟨p, ws, rfl, ep, e4, e5⟩ := R2.dic q (d1.mono s2)
        rw [keyD_ok d2 e1]
        have st := Stp.write (o := .dK (putK ws kk v0)) R2 ep q
        refine ⟨p, _, rfl, DPut.k e4 (by rw [← DKs.len e5]; exact hl), ?_⟩
        have s := ((s0.trans s1).trans s2).trans st
        refine k ρ2 _ σ (R2.write ep q ⟨_, upd_same, ?_⟩) s (eo.mono s)
        exact Paired.mapP (putD_ok e5 (d0.mono (s1.trans s2))) fun p q z => ⟨z.1, z.2.mono st⟩
      · cases hm
    · cases hm
  · cases hm
/-- {'a': e, ..} with written texts as keys -/
def SDs (F : Fm) (pos : Pos) (ks : List (Option Expr)) (vs : List Expr) (names : List Str) (m : MA) : Prop := ∃ trs, (∀ X, F.Is X → PPs X pos ks vs trs) ∧ ∀ ρ C H E σ ds C' Q, RelF F ρ H C → EnvF F ρ H E σ → m E C = some (ds, C') →
  (∀ ρ' H' vs, RelF F ρ' H' C' → Stp ρ H ρ' H' → DVsF F ρ' H' ds vs → ds.length = names.length → Q ((names.map V.str).zip vs) H') → tPairs trs σ H Q
theorem sds_nil : SDs F pos [] [] [] mNil := ⟨[], fun _ _ => pps_nil, fun ρ C H E σ ds C' Q R eo hm k => by cases hm; exact k ρ H [] R .refl .nil rfl⟩
theorem sds_cons {z : Str} {n : Nat} {kp : Pos} {ks : List (Option Expr)} {vs : List Expr} {names : List Str} {m : MA} (he : SE F e me) (hr : SDs F pos ks vs names m) : SDs F pos (some (.Constant (.str z) n kp) :: ks) (e :: vs) (z :: names) (mCons me m) := by
  obtain ⟨t, p, s⟩ := he
  obtain ⟨trs, q, r⟩ := hr
  refine ⟨(tC (.str z), t) :: trs, fun X h => pps_cons pe_str (p X h) (q X h), fun ρ C H E σ ds C' Q R eo hm k => ?_⟩
  obtain ⟨⟨x, C1⟩, h1, hm⟩ := obind hm
  obtain ⟨⟨ys, C2⟩, h2, hm⟩ := obind hm
  cases hm
  refine s ρ C H E σ x C1 _ R eo h1 fun ρ1 H1 v1 R1 s1 d1 => ?_
  refine r ρ1 C1 H1 E σ ys C2 _ R1 (eo.mono s1) h2 fun ρ2 H2 vs R2 s2 d2 hl => ?_
  exact k ρ2 H2 (v1 :: vs) R2 (s1.trans s2) (.cons (d1.mono s2) d2) (by simp [hl])
def mDisp (names : List Str) (m : MA) : ME := fun E C => (m E C).bind fun p => some (.cell p.2.length, p.2 ++ [.dic ((names.zip p.1).map fun q => (Sum.inr q.1, q.2))])
theorem merge_new : ∀ (more kvs : List (Key × V)), (kvs.map (·.1) ++ more.map (·.1)).Nodup → mergeK kvs more = kvs ++ more
  | [], kvs, _ => by simp [mergeK]
  | p :: more, kvs, h => by
    have hn : valV kvs p.1 = none := by
      cases q : valV kvs p.1 with
      | none => rfl
      | some v =>
        have : p.1 ∈ kvs.map (·.1) := by
          unfold valV at q
          cases r : kvs.find? (fun kv => decide (kv.1 = p.1)) with
          | none => rw [r] at q; cases q
          | some kv =>
            have h1 := List.find?_some r
            have h2 := List.mem_of_find?_eq_some r
            exact List.mem_map.mpr ⟨kv, h2, of_decide_eq_true h1⟩
        rw [List.nodup_append] at h
        exact absurd rfl (h.2.2 p.1 this p.1 (by simp))
    have e : mergeK kvs (p :: more) = mergeK (putK kvs p.1 p.2) more := rfl
    rw [e, putK_new _ hn, merge_new more (kvs ++ [(p.1, p.2)]) (by simpa using h)]
    simp
theorem se_disp {ks : List (Option Expr)} {vs : List Expr} {names : List Str} {m : MA} (h : SDs F pos ks vs names m) (hall : ks.all (·.isSome) = true) (hl : ks.length = vs.length) (h0 : ks ≠ []) (h15 : ks.length ≤ 15) (hn : names.Nodup) (hc : names.length ≤ 15) : SE F (.Dict ks vs pos) (mDisp names m) := by
  obtain ⟨trs, q, r⟩ := h
  refine ⟨tDisp trs, fun X h => pe_disp (q X h) hall hl h0 h15, fun ρ C H E σ d C' Q R eo hm k => ?_⟩
  obtain ⟨⟨ds, C1⟩, h1, hm⟩ := obind hm
  cases hm
  intro P hP
  refine r ρ C (upd H P (.dK [])) E σ ds C1 _ (R.fresh hP) (eo.mono (Stp.fresh hP)) h1 fun ρ1 H1 vs R1 s1 d1 hlen => ?_
  have nP : P ∉ ρ := R.out hP
  have eP : H1 P = some (.dK []) := s1.keep P _ upd_same nP
  have nP1 : P ∉ ρ1 := fun z => by
    obtain ⟨t, et, ht⟩ := s1.pre
    rw [et] at z
    rcases List.mem_append.mp z with z | z
    · exact nP z
    · have := ht P z; rw [upd_same] at this; cases this
  have lv : vs.length = names.length := by rw [← d1.length, hlen]
  have zipEq : (names.map V.str).zip vs = ((names.zip vs).map fun q => ((Sum.inr q.1 : Key), q.2)).map fun kv => (kV kv.1, kv.2) := by
    rw [List.map_map, List.zip_map_left]
    rfl
  refine ⟨eP, (names.zip vs).map fun q => ((Sum.inr q.1 : Key), q.2), zipEq, by rw [List.length_map, List.length_zip, lv]; omega, ?_⟩
  have mg : mergeK [] ((names.zip vs).map fun q => ((Sum.inr q.1 : Key), q.2)) = (names.zip vs).map fun q => ((Sum.inr q.1 : Key), q.2) := by
    rw [merge_new]
    · rfl
    · have e : ((names.zip vs).map fun q => ((Sum.inr q.1 : Key), q.2)).map (·.1) = names.map fun z => (Sum.inr z : Key) := by
        rw [List.map_map]
        have : (names.zip vs).map ((fun z => (Sum.inr z : Key)) ∘ Prod.fst) = names.map fun z => (Sum.inr z : Key) := by
          rw [← List.map_map, List.map_fst_zip (by omega)]
        exact this
      simp only [List.map_nil, List.nil_append, e]
      exact List.Pairwise.map _ (fun a b hab q => hab (Sum.inr.inj q)) hn
  rw [mg]
  have w1 : Wk ρ1 H1 ρ1 (upd H1 P (.dK ((names.zip vs).map fun q => ((Sum.inr q.1 : Key), q.2)))) := ⟨fun h => h, fun b xs e => by rw [upd_ne (show b ≠ P from fun z => by rw [z, eP] at e; cases e)]; exact e, fun b ob u e => by rw [upd_ne (show b ≠ P from fun z => by rw [z, eP] at e; cases e)]; exact e⟩
  have R2 : RelF F ρ1 (upd H1 P (.dK ((names.zip vs).map fun q => ((Sum.inr q.1 : Key), q.2)))) C1 := by
    refine ⟨R1.len, R1.nd, fun n c q => ?_⟩
    obtain ⟨a, ha, kk⟩ := R1.ok n c q
    have ne : a ≠ P := fun z => nP1 (z ▸ List.mem_of_getElem? ha)
    refine ⟨a, ha, ?_⟩
    cases c with
    | lst ds => obtain ⟨ws, q, r⟩ := kk; exact ⟨ws, (upd_ne ne).trans q, DVs.monoW w1 r⟩
    | dic ks => obtain ⟨ws, q, r⟩ := kk; exact ⟨ws, (upd_ne ne).trans q, Paired.mapP r fun p q z => ⟨z.1, DV.monoW w1 z.2⟩⟩
    | dix ks => obtain ⟨es, q, r⟩ := kk; exact ⟨es, (upd_ne ne).trans q, r.monoW w1⟩
    | dxl ks => obtain ⟨es, o, q, r⟩ := kk; exact ⟨es, o, (upd_ne ne).trans q, r.monoW w1⟩
  have d2 := DVs.monoW w1 d1
  refine k (ρ1 ++ [P]) _ (.ref P) (R2.push nP1 ⟨_, upd_same, ?_⟩) ?_ (DV.new R2)
  · have go : ∀ {names : List Str} {ds : List D} {vs : List V} {H2 : Hp}, DVsF F ρ1 H2 ds vs → Paired (fun (p : Key × D) (q : Key × V) => p.1 = q.1 ∧ DV F.K F.ft ρ1 H2 p.2 q.2) ((names.zip ds).map fun q => (Sum.inr q.1, q.2)) ((names.zip vs).map fun q => (Sum.inr q.1, q.2)) := by
      intro names
      induction names with
      | nil => intro ds vs H2 h; exact .nil
      | cons z names ih =>
        intro ds vs H2 h
        cases h with
        | nil => exact .nil
        | cons a t => exact .cons ⟨rfl, a⟩ (ih t)
    exact go d2
  · have s := s1
    obtain ⟨t, e, ht⟩ := s.pre
    have ne : ∀ b u, H b = some u → b ≠ P := fun b u e z => by rw [z, hP] at e; cases e
    refine ⟨⟨t ++ [P], by rw [e, List.append_assoc], fun b hb => ?_⟩, fun b u e hb => ?_, fun b u e => ?_, fun b xs e => ?_, fun b ob u e => ?_⟩
    · rcases List.mem_append.mp hb with z | z
      · have := ht b z
        by_cases hbP : b = P
        · subst hbP; exact hP
        · rw [upd_ne hbP] at this; exact this
      · have z : b = P := by simpa using z
        subst z; exact hP
    · rw [upd_ne (ne b u e)]; exact s.keep b u (by rw [upd_ne (ne b u e)]; exact e) hb
    · rw [upd_ne (ne b u e)]; exact s.there b u (by rw [upd_ne (ne b u e)]; exact e)
    · rw [upd_ne (ne b _ e)]; exact s.tups b xs (by rw [upd_ne (ne b _ e)]; exact e)
    · rw [upd_ne (ne b _ e)]; exact s.frzs b ob u (by rw [upd_ne (ne b _ e)]; exact e)
/-! ## sorted of ints -/
def insI (n : Int) : List Int → List Int
  | [] => [n]
  | m :: r => if n ≤ m then n :: m :: r else m :: insI n r
def sortI : List Int → List Int
  | [] => []
  | n :: r => insI n (sortI r)
theorem insI_perm (n : Int) : ∀ l : List Int, (insI n l).Perm (n :: l)
  | [] => .refl _
  | m :: r => by
    unfold insI
    split
    · exact .refl _
    · exact ((insI_perm n r).cons m).trans (.swap n m r)
theorem sortI_perm : ∀ l : List Int, (sortI l).Perm l
  | [] => .refl _
  | n :: r => (insI_perm n (sortI r)).trans ((sortI_perm r).cons n)
theorem insI_up (n : Int) : ∀ {l : List Int}, l.Pairwise (· ≤ ·) → (insI n l).Pairwise (· ≤ ·)
  | [], _ => by simp [insI]
  | m :: r, h => by
    unfold insI
    have h' := List.pairwise_cons.mp h
    split
    · rename_i hle
      refine List.pairwise_cons.mpr ⟨fun b hb => ?_, h⟩
      rcases List.mem_cons.mp hb with e | e
      · exact e ▸ hle
      · exact Int.le_trans hle (h'.1 b e)
    · rename_i hle
      refine List.pairwise_cons.mpr ⟨fun b hb => ?_, insI_up n h'.2⟩
      have := (insI_perm n r).mem_iff.mp hb
      rcases List.mem_cons.mp this with e | e
      · subst e; omega
      · exact h'.1 b e
theorem sortI_up : ∀ l : List Int, (sortI l).Pairwise (· ≤ ·)
  | [] => .nil
  | n :: r => insI_up n (sortI_up r)
def intsOf : List D → Option (List Int)
  | [] => some []
  | .int b :: ds => (intsOf ds).map (b :: ·)
  | _ :: _ => none
theorem intsOf_ok {K : PySem.W.Frag} {ft : Cfg} {ρ : List Addr} {H : Hp} : ∀ {ds : List D} {vs : List V} {bs : List Int}, DVs K ft ρ H ds vs → intsOf ds = some bs → vs = bs.map V.int
  | [], _, _, .nil, e => by cases e; rfl
  | d :: ds, _, bs, .cons h t, e => by
    cases d with
    | int b =>
      obtain ⟨cs, e1, e2⟩ := omap (show (intsOf ds).map (b :: ·) = some bs from e)
      cases e2
      cases h
      rw [intsOf_ok t e1]
      rfl
    | _ => cases e
def sortedD : ODL := fun xs C => match xs with
  | [.cell n] => match C[n]? with | some (.lst ds) => (intsOf ds).map fun ns => (.cell C.length, C ++ [.lst ((sortI ns).map D.int)]) | _ => none
  | _ => none
theorem sc_sorted : SCall F (.builtin "sorted") sortedD := by
  refine ⟨rSortedI F.K, fun X h => by have z := cr_sortedI (X := X); rw [h.K] at z; exact z, fun ρ C H xs vs d C' Q R hx hm k => ?_⟩
  unfold sortedD at hm
  split at hm
  · split at hm
    · rename_i ds q
      obtain ⟨ns, e1, e2⟩ := omap hm
      cases e2
      cases hx with | cons h1 h2 =>
        cases h2
        obtain ⟨p, vs, rfl, ep, e3, e4⟩ := R.lst q h1
        have ev := intsOf_ok e4 e1
        subst ev
        refine ⟨_, ns, rfl, SqL.of e3, fun ns' r hp hup hr => ?_⟩
        have : ns' = sortI ns := PySem.W.ksm_same (hp.trans (sortI_perm ns).symm) hup (sortI_up ns)
        subst this
        exact k _ _ _ (R.newL hr (DVs.ints _)) (Stp.push hr) (DV.new R)
    · cases hm
  · cases hm
end
end Mi
set_option Elab.async false
set_option linter.all false
set_option maxRecDepth 100000
set_option maxHeartbeats 4000000
namespace Mi
open PySem PySem.Spec PyProof.Rows L2
section
variable {F : Fm} {a b c e o tg iter value : Expr} {es : List Expr} {pos pos' p : Pos} {x y : Str} {i j : Nat} {ma mb mc me mo mv mi : ME} {mt mu : MT} {ml : MA}
/-! ## list(range(..)), tuple(range(..)) -/
def rgOkB (a b : Int) : Bool := decide (-(2 ^ 62) ≤ a ∧ a < 2 ^ 62 ∧ -(2 ^ 62) ≤ b ∧ b < 2 ^ 62 ∧ (b - a).toNat ≤ 2 ^ 24)
abbrev MR := Ev → Hm → Option (Int × Int × Hm)
def SR (F : Fm) (e : Expr) (m : MR) : Prop := ∃ t, (∀ X, F.Is X → PRg X e t) ∧ ∀ ρ C H E σ a b C' Q, RelF F ρ H C → EnvF F ρ H E σ → m E C = some (a, b, C') → (∀ ρ' H', RelF F ρ' H' C' → Stp ρ H ρ' H' → Q a b H') → t σ H Q
def mR1 (m : ME) : MR := fun E C => match m E C with | some (.int n, C') => some (0, n, C') | _ => none
def mR2 (m n : ME) : MR := fun E C => match m E C with | some (.int i, C1) => (match n E C1 with | some (.int j, C2) => some (i, j, C2) | _ => none) | _ => none
theorem sr_1 {p : Pos} (hm : F.mg "range" = none) (ha : SE F a ma) (hg : F.sc.names.lookup (Str.ofString "range") = some .globalImplicit := by rfl) (na : ∀ env : Env, starEach [a] env = (false, eval a env) :: starEach [] env := by intro _; rfl) : SR F (.Call (.Name "range" p) [a] [] pos) (mR1 ma) := by
  obtain ⟨t, q, s⟩ := ha
  refine ⟨tRg1 t, fun X h => prg_1 (h.gl hg) (by rw [h.mg]; exact hm) (q X h) (na _), fun ρ C H E σ a b C' Q R eo hm k => ?_⟩
  unfold mR1 at hm
  split at hm
  · rename_i n C1 q1
    cases hm
    exact s ρ C H E σ _ _ _ R eo q1 fun ρ1 H1 v R1 s1 d1 => by cases d1; exact ⟨_, rfl, k ρ1 H1 R1 s1⟩
  · cases hm
theorem sr_2 {p : Pos} (hm : F.mg "range" = none) (ha : SE F a ma) (hb : SE F b mb) (hg : F.sc.names.lookup (Str.ofString "range") = some .globalImplicit := by rfl) (na : ∀ env : Env, starEach [a, b] env = (false, eval a env) :: starEach [b] env := by intro _; rfl) (nb : ∀ env : Env, starEach [b] env = (false, eval b env) :: starEach [] env := by intro _; rfl)
    (hp : ∀ env : Env, (backTo pos (starEach [b] env)).any (·.1) = false := by intro _; rfl) : SR F (.Call (.Name "range" p) [a, b] [] pos) (mR2 ma mb) := by
  obtain ⟨t, q, s⟩ := ha
  obtain ⟨u, q2, s2⟩ := hb
  refine ⟨tRg2 t u, fun X h => prg_2 (h.gl hg) (by rw [h.mg]; exact hm) (q X h) (q2 X h) (na _) (nb _) (hp _), fun ρ C H E σ a b C' Q R eo hm k => ?_⟩
  unfold mR2 at hm
  split at hm
  · rename_i n C1 q1
    split at hm
    · rename_i n2 C2 q3
      cases hm
      refine s ρ C H E σ _ _ _ R eo q1 fun ρ1 H1 v R1 s1 d1 => ?_
      refine s2 ρ1 C1 H1 E σ _ _ _ R1 (eo.mono s1) q3 fun ρ2 H2 v2 R2 s3 d2 => ?_
      cases d1; cases d2
      exact ⟨_, _, rfl, rfl, k ρ2 H2 R2 (s1.trans s3)⟩
    · cases hm
  · cases hm
theorem rg_dvs {K : PySem.W.Frag} {ft : Cfg} {ρ : List Addr} {H : Hp} (a b : Int) : DVs K ft ρ H (rngD a (b - a).toNat) (rgV a b) := by
  have e1 : rngD a (b - a).toNat = ((List.range (b - a).toNat).map fun k => a + (k : Nat)).map D.int := by unfold rngD; rw [List.map_map]; rfl
  have e2 : rgV a b = ((List.range (b - a).toNat).map fun k => a + (k : Nat)).map V.int := by unfold rgV; rw [List.map_map]; rfl
  rw [e1, e2]
  exact DVs.ints _
def mLstRg (m : MR) : ME := fun E C => (m E C).bind fun p => if rgOkB p.1 p.2.1 = true then some (.cell p.2.2.length, p.2.2 ++ [.lst (rngD p.1 (p.2.1 - p.1).toNat)]) else none
def mTupRg (m : MR) : ME := fun E C => (m E C).bind fun p => if rgOkB p.1 p.2.1 = true then some (.tup (rngD p.1 (p.2.1 - p.1).toNat), p.2.2) else none
theorem se_listRg {m : MR} {p : Pos} (hm : F.mg "list" = none) (he : SR F e m) (hg : F.sc.names.lookup (Str.ofString "list") = some .globalImplicit := by rfl) (na : ∀ env : Env, starEach [e] env = (false, eval e env) :: starEach [] env := by intro _; rfl) : SE F (.Call (.Name "list" p) [e] [] pos) (mLstRg m) := by
  obtain ⟨t, q, s⟩ := he
  refine ⟨tLstRg t, fun X h => pe_listRg h.calm (h.gl hg) (by rw [h.mg]; exact hm) (q X h) (na _), fun ρ C H E σ d C' Q R eo hm k => ?_⟩
  obtain ⟨⟨a, b, C1⟩, h1, hm⟩ := obind hm
  simp only at hm
  split at hm
  · rename_i hr
    cases hm
    have hr' := of_decide_eq_true hr
    refine s ρ C H E σ _ _ _ _ R eo h1 fun ρ1 H1 R1 s1 => ⟨hr', fun p hp => ?_⟩
    exact k _ _ _ (R1.newL hp (rg_dvs a b)) (s1.trans (Stp.push hp)) (DV.new R1)
  · cases hm
theorem se_tupRg {m : MR} {p : Pos} (hm : F.mg "tuple" = none) (he : SR F e m) (hg : F.sc.names.lookup (Str.ofString "tuple") = some .globalImplicit := by rfl) (na : ∀ env : Env, starEach [e] env = (false, eval e env) :: starEach [] env := by intro _; rfl) : SE F (.Call (.Name "tuple" p) [e] [] pos) (mTupRg m) := by
  obtain ⟨t, q, s⟩ := he
  refine ⟨tTupRg t, fun X h => pe_tupRg h.calm (h.gl hg) (by rw [h.mg]; exact hm) (q X h) (na _), fun ρ C H E σ d C' Q R eo hm k => ?_⟩
  obtain ⟨⟨a, b, C1⟩, h1, hm⟩ := obind hm
  simp only at hm
  split at hm
  · rename_i hr
    cases hm
    have hr' := of_decide_eq_true hr
    refine s ρ C H E σ _ _ _ _ R eo h1 fun ρ1 H1 R1 s1 => ⟨hr', fun p hp => ?_⟩
    exact k ρ1 _ _ (R1.fresh hp) (s1.trans (Stp.fresh hp)) (.tup (SqT.of upd_same) ((rg_dvs a b).mono (Stp.fresh hp)))
  · cases hm
/-! ## str -/
theorem call_str_bool {X : Cx} : CallR X (.type "str") (fun xs H Q => ∃ k, xs = [.bl k] ∧ Q (.str (if k then "True" else "False")) H) := by
  intro pins s σ H xs us Q I r h
  obtain ⟨k, rfl, q⟩ := h
  obtain ⟨u, rfl, ru⟩ := vals1 r
  obtain rfl : u = Value.bool k := ru
  refine PySem.P.str_of_bool ?_
  exact ⟨V.str _, H, I.tok _, ⟨_, rfl⟩, q⟩
def strC : ODL := fun xs C => match xs with
  | [.int i] => if i.natAbs.log2 < 1920 then some (.str (toString i), C) else none
  | [.str z] => some (.str z, C)
  | [.bl k] => some (.str (if k then "True" else "False"), C)
  | _ => none
theorem sc_str : SCall F (.type "str") strC := by
  refine ⟨_, fun X h => call_str_int.or (SkE.call_str_str.or call_str_bool), fun ρ C H xs vs d C' Q R hx hm k => ?_⟩
  unfold strC at hm
  split at hm
  · split at hm
    · rename_i hl
      cases hm; cases hx with | cons h1 h2 => cases h2; cases h1; exact .inl ⟨_, rfl, hl, k.now R (.str _)⟩
    · cases hm
  · cases hm; cases hx with | cons h1 h2 => cases h2; cases h1; exact .inr (.inl ⟨_, rfl, k.now R (.str _)⟩)
  · cases hm; cases hx with | cons h1 h2 => cases h2; cases h1; exact .inr (.inr ⟨_, rfl, k.now R (.str _)⟩)
  · cases hm
/-! ## methods of lists and texts -/
def appendD : ODM := fun x xs C => match x, xs with
  | .cell n, [d] => match C[n]? with
    | some (.lst ds) => if ds.length < sizeLine then some (.non, C.set n (.lst (ds ++ [d]))) else none
    | _ => none
  | _, _ => none
theorem sm_append : SMt F "list" "list.append" appendD := by
  refine ⟨rAppend, fun X h => mt_append, fun ρ C H x xs vx vs d C' Q R hx hxs hm k => ?_⟩
  unfold appendD at hm
  split at hm
  · split at hm
    · rename_i n dd ds q
      split at hm
      · rename_i hl
        cases hm
        obtain ⟨p, ws, rfl, ep, e3, e4⟩ := R.lst q hx
        cases hxs with | cons h1 h2 =>
          cases h2
          refine ⟨_, _, _, rfl, rfl, e3, by rw [← e4.length]; exact hl, ?_⟩
          exact k ρ _ _ (R.writeL ep q (e4.append (.cons h1 .nil))) (Stp.write R ep q) .non
      · cases hm
    · cases hm
  · cases hm
def extendD : ODM := fun x xs C => match x, xs with
  | .cell n, [.cell m] => match C[n]?, C[m]? with
    | some (.lst ds), some (.lst es) => if ds.length + es.length ≤ sizeLine then some (.non, C.set n (.lst (ds ++ es))) else none
    | _, _ => none
  | _, _ => none
theorem sm_extend : SMt F "list" "list.extend" extendD := by
  refine ⟨rExtend, fun X h => mt_extend, fun ρ C H x xs vx vs d C' Q R hx hxs hm k => ?_⟩
  unfold extendD at hm
  split at hm
  · split at hm
    · rename_i n m ds es q q2
      split at hm
      · rename_i hl
        cases hm
        obtain ⟨p, ws, rfl, ep, e3, e4⟩ := R.lst q hx
        cases hxs with | cons h1 h2 =>
          cases h2
          obtain ⟨p2, ws2, rfl, ep2, e5, e6⟩ := R.lst q2 h1
          refine ⟨_, _, _, _, rfl, rfl, e3, e5, by rw [← e4.length, ← e6.length]; exact hl, ?_⟩
          exact k ρ _ _ (R.writeL ep q (e4.append e6)) (Stp.write R ep q) .non
      · cases hm
    · cases hm
  · cases hm
def popD : ODM := fun x xs C => match x, xs with
  | .cell n, [.int i] => match C[n]? with
    | some (.lst ds) => if -(2 ^ 63) ≤ i ∧ i < 2 ^ 63 then (seqIndex? i ds.length).bind fun k => ds[k]?.map fun d => (d, C.set n (.lst (ds.eraseIdx k))) else none
    | _ => none
  | .cell n, [] => match C[n]? with
    | some (.lst ds) => ds[ds.length - 1]?.map fun d => (d, C.set n (.lst ds.dropLast))
    | _ => none
  | _, _ => none
theorem DVs.dropLast {K : PySem.W.Frag} {ft : Cfg} {ρ : List Addr} {H : Hp} {ds : List D} {vs : List V} (h : DVs K ft ρ H ds vs) : DVs K ft ρ H ds.dropLast vs.dropLast := by
  rw [List.dropLast_eq_take, List.dropLast_eq_take, h.length]
  exact h.take _
theorem sm_pop : SMt F "list" "list.pop" popD := by
  refine ⟨_, fun X h => (show MtR X "list.pop" rPopAt from mt_popAt).or (show MtR X "list.pop" rPop from mt_pop), fun ρ C H x xs vx vs d C' Q R hx hxs hm k => ?_⟩
  unfold popD at hm
  split at hm
  · split at hm
    · rename_i n i ds q
      split at hm
      · rename_i hb
        obtain ⟨j, e1, hm⟩ := obind hm
        obtain ⟨z, e2, e3⟩ := omap hm
        cases e3
        obtain ⟨p, ws, rfl, ep, e4, e5⟩ := R.lst q hx
        obtain ⟨v, e6, e7⟩ := e5.get e2
        cases hxs with | cons h1 h2 =>
          cases h2; cases h1
          have st := Stp.write (o := .lst (ws.eraseIdx j)) R ep q
          exact .inl ⟨_, _, _, j, v, rfl, rfl, e4, hb.1, hb.2, by rw [← e5.length]; exact e1, e6, k ρ _ _ (R.writeL ep q (e5.eraseIdx j)) st (e7.mono st)⟩
      · cases hm
    · cases hm
  · split at hm
    · rename_i n ds q
      obtain ⟨z, e2, e3⟩ := omap hm
      cases e3
      obtain ⟨p, ws, rfl, ep, e4, e5⟩ := R.lst q hx
      obtain ⟨v, e6, e7⟩ := e5.get e2
      cases hxs
      have st := Stp.write (o := .lst ws.dropLast) R ep q
      exact .inr ⟨_, _, v, rfl, rfl, e4, by rw [← e5.length]; exact e6, k ρ _ _ (R.writeL ep q e5.dropLast) st (e7.mono st)⟩
    · cases hm
  · cases hm
def mRem (mo me : ME) : ME := fun E C => (mo E C).bind fun p => if tyD "list" p.1 p.2 = true then (me E p.2).bind fun q => match p.1, q.1 with
  | .cell n, .int k => (match q.2[n]? with
    | some (.lst ds) => (intsOf ds).bind fun ns => if k ∈ ns then some (.non, q.2.set n (.lst ((ns.erase k).map D.int))) else none
    | _ => none)
  | _, _ => none else none
theorem noTake {X : Cx} : Takes X (fun _ _ _ _ => False) := fun _ _ z => by
  obtain ⟨_, _, _, _, _, _, _, _, _, _, _, _, _, _, _, _, z⟩ := z
  exact z.elim
theorem se_remove {apos : Pos} (ho : SE F o mo) (he : SE F e me) (hbase : ∀ env : Env, attributeBase o "remove" env (eval o env) = eval o env := by intro _; rfl)
    (hfew : ∀ env : Env, ((backTo pos (starEach [e] env)).all (fun x => !x.1) && (backToKw pos (keywordEach [] env)).all (fun x => x.1.isSome) && decide (([e] : List Expr).length + ([] : List Keyword).length + (if ([] : List Keyword).isEmpty then 0 else 1) < 30)) = true := by intro _; rfl)
    (hline : (apos.endLine == pos.line) = true := by rfl) (hs : ∀ env : Env, starEach [e] env = (false, eval e env) :: starEach [] env := by intro _; rfl) (hpl : ∀ env : Env, (backTo pos (starEach [] env)).any (·.1) = false := by intro _; rfl) :
    SE F (.Call (.Attribute o "remove" apos) [e] [] pos) (mRem mo me) := by
  obtain ⟨to, po, so⟩ := ho
  obtain ⟨te, pe, se⟩ := he
  refine ⟨tRemX F.K (fun _ _ _ _ => False) to te, fun X h => by have z := pe_remX h.calm noTake (po X h) (pe X h) (hbase _) (hfew _) hline (hs _) (hpl _); rw [h.K] at z; exact z, fun ρ C H E σ d C' Q R eo hm k => ?_⟩
  obtain ⟨⟨x, C1⟩, h1, hm⟩ := obind hm
  simp only at hm
  split at hm
  · rename_i ty
    obtain ⟨⟨y, C2⟩, h2, hm⟩ := obind hm
    refine so ρ C H E σ x C1 _ R eo h1 fun ρ1 H1 v1 R1 s1 d1 => ⟨tyD_ok R1 d1 ty, ?_⟩
    refine se ρ1 C1 H1 E σ y C2 _ R1 (eo.mono s1) h2 fun ρ2 H2 v2 R2 s2 d2 => ?_
    simp only at hm
    split at hm
    · rename_i n kk _
      split at hm
      · rename_i ds q
        obtain ⟨ns, e1, hm⟩ := obind hm
        split at hm
        · rename_i hk
          cases hm
          obtain ⟨p, ws, rfl, ep, e4, e5⟩ := R2.lst q (d1.mono s2)
          have ev := intsOf_ok e5 e1
          subst ev
          cases d2
          have st := Stp.write (o := .lst ((ns.erase kk).map V.int)) R2 ep q
          exact ⟨p, ns, kk, rfl, rfl, e4, fun _ => k ρ2 _ _ (R2.writeL ep q (DVs.ints _)) ((s1.trans s2).trans st) .non, fun q => absurd hk q⟩
        · cases hm
      · cases hm
    · cases hm
  · cases hm
def upperD : ODM := fun x xs C => match x, xs with
  | .str z, [] => if z.length ≤ 5592405 then some (.str (Txt.upper z), C) else none
  | _, _ => none
theorem sm_upper : SMt F "str" "str.upper" upperD := by
  refine ⟨_, fun X h => mt_upper, fun ρ C H x xs vx vs d C' Q R hx hxs hm k => ?_⟩
  unfold upperD at hm
  split at hm
  · split at hm
    · rename_i hl
      cases hm; cases hx; cases hxs
      exact ⟨_, rfl, rfl, hl, k.now R (.str _)⟩
    · cases hm
  · cases hm
/-! ## a call of a parameter that holds a def -/
/-- f(e, ..), f the parameter in slot i; tab says what each def does -/
def mCallV (i : Nat) (tab : Nat → Option MF) (ml : MA) : ME := fun E C => match E[i]? with
  | some (some (.fn n)) => (tab n).bind fun m => (ml E C).bind fun q => m q.1 q.2
  | _ => none
def tCallV (ft : Cfg) (S : Nat → Option SpG) (i : Nat) (t : TA) : TE := fun σ H Q => ∃ n sp, σ[i]? = some (some (.ref (ft n))) ∧ S n = some sp ∧ t σ H fun vs H1 => sp vs H1 Q
theorem pe_callV {X : Cx} {k : Nat} {ft : Cfg} {S : Nat → Option SpG} {t : TA} (hS : ∀ n sp, S n = some sp → ∃ (fd : FuncData) (ps : List Str), PySem.W.keepIn X.K (.ref (ft n)) = true ∧ Binds X.K fd ps [] ∧ FnG X.prog X.w X.K X.mg X.base k (ft n) fd ps sp) (hr : Room k X.A) (hgu : X.A.guards = some [])
    (hN : X.N[i]? = some x) (hv : Vis X.env.scope x) (ha : PA X (e :: es) t) (hdb : (x == ("__debug__" : Str)) = false) (hcd : (x == ("__classdict__" : Str)) = false) (he : starEach (e :: es) X.env = (false, eval e X.env) :: starEach es X.env) (hpl : (backTo pos (starEach es X.env)).any (·.1) = false) :
    PE X (.Call (.Name x p) (e :: es) [] pos) (tCallV ft S i t) := by
  constructor
  intro pins s σ H Q I h
  obtain ⟨n, sp, hs, hSn, ht⟩ := h
  obtain ⟨fd, ps, hk, hb, G⟩ := hS n sp hSn
  have nm := (pe_var (pos := p) hN hv hdb hcd).run pins s σ H (fun v H1 => v = .ref (ft n) ∧ H1 = H) I ⟨.ref (ft n), hs, rfl, rfl⟩
  refine wpAny_Call_Name_kw (thn nm fun u s1 hu => ?_)
  obtain ⟨v, H1, I1, r1, rfl, rfl⟩ := hu
  obtain rfl : u = Value.ref (ft n) := r1
  have inner := thn (ha.run pos pins s1 σ H1 _ I1 ht) (Q' := fun us s1 => X.K.In s1.heap ∧ wpAny (model X.prog X.w) X.A (call (.ref (ft n)) us) (EP X pins σ Q) X.xe s1) fun us s2 ⟨vs, H2, I2, r, q⟩ => ⟨I2.kIn, runG (dvs := []) G hr hgu hb .nil I2 r (by rw [List.append_nil]; exact q)⟩
  exact PySem.W.callWith_K (h₀ := X.base) I.ok.mod.kin hk inner he hpl
structure Tab (P : Program) (w : World) (K : PySem.W.Frag) (mg : Str → Option Value) (base : Heap) (ft : Cfg) (n : Nat) (tab : Nat → Option MF) (k : Nat) : Prop where
  at_ : ∀ j m, tab j = some m → ∃ (fd : FuncData) (ps : List Str), PySem.W.keepIn K (.ref (ft j)) = true ∧ Binds K fd ps [] ∧ ps.length = n ∧ FnG P w K mg base k (ft j) fd ps (spM K ft ps.length m)
def tab1 (i : Nat) (m : MF) : Nat → Option MF := fun j => if j = i then some m else none
theorem se_callV {tab : Nat → Option MF} (i : Nat) (k : Nat) (n : Nat) (hc : Tab F.prog F.w F.K F.mg F.base F.ft n tab k) (ha : SA F (e :: es) ml) (hlen : ∀ E C q, ml E C = some q → q.1.length = n) (hk : k ≤ F.lv := by exact Nat.le_of_ble_eq_true rfl)
    (hN : F.N[i]? = some x := by rfl) (hv : Vis F.sc x := by first | exact Or.inl rfl | exact Or.inr (Or.inl rfl) | exact Or.inr (Or.inr rfl)) (hdb : (x == ("__debug__" : Str)) = false := by decide) (hcd : (x == ("__classdict__" : Str)) = false := by decide)
    (he : ∀ env : Env, starEach (e :: es) env = (false, eval e env) :: starEach es env := by intro _; rfl) (hpl : ∀ env : Env, (backTo pos (starEach es env)).any (·.1) = false := by intro _; rfl) : SE F (.Call (.Name x p) (e :: es) [] pos) (mCallV i tab ml) := by
  obtain ⟨t, pt, st⟩ := ha
  refine ⟨tCallV F.ft (fun j => (tab j).map fun m => spM F.K F.ft n m) i t, fun X h => ?_, fun ρ C H E σ d C' Q R eo hm kk => ?_⟩
  · refine pe_callV (k := k) (fun j sp q => ?_) (h.rm.mono hk) h.gu (by rw [h.N]; exact hN) (by rw [h.sc]; exact hv) (pt X h) hdb hcd (he _) (hpl _)
    obtain ⟨m, e1, e2⟩ := omap q
    obtain ⟨fd, ps, h1, h2, h3, h4⟩ := hc.at_ j m e1
    subst e2
    rw [h.prog, h.w, h.K, h.mg, h.base]
    exact ⟨fd, ps, h1, h2, by rw [← h3]; exact h4⟩
  · unfold mCallV at hm
    split at hm
    · rename_i j q
      obtain ⟨m, e1, hm⟩ := obind hm
      obtain ⟨⟨xs, C1⟩, h1, hm⟩ := obind hm
      obtain ⟨v, q1, q2⟩ := eo.at_ i _ q
      cases q2
      refine ⟨j, spM F.K F.ft n m, q1, by simp only [e1, Option.map_some], ?_⟩
      exact st ρ C H E σ xs C1 _ R eo h1 fun ρ1 H1 vs R1 s1 d1 => ⟨ρ1, C1, xs, d, C', R1, d1, hlen _ _ _ h1, hm, fun ρ' H' v R' s' dv => kk ρ' H' v R' (s1.trans s') dv⟩
    · cases hm
end
end Mi
set_option Elab.async false
set_option linter.all false
set_option maxRecDepth 100000
set_option maxHeartbeats 4000000
namespace Mi
open PySem PySem.Spec PyProof.Rows L2
/-! ## slices with a step -/
def pickL {α : Type} (xs : List α) (lo hi st : Option Int) : List α :=
  (sliceRange (sliceBounds lo hi st xs.length).1 (sliceBounds lo hi st xs.length).2.1 (sliceBounds lo hi st xs.length).2.2).filterMap fun i => xs[i]?
theorem pickL_vals {xs : List V} {us : List Value} (r : Vals xs us) (lo hi st : Option Int) : Vals (pickL xs lo hi st) (slicePick us.toArray lo hi st).toList := by
  unfold pickL slicePick
  rw [List.size_toArray, ← r.length]
  generalize sliceRange _ _ _ = l
  show Vals _ (l.filterMap (us.toArray[·]?))
  induction l with
  | nil => exact .nil
  | cons i l ih =>
    rw [List.filterMap_cons, List.filterMap_cons]
    cases q : xs[i]? with
    | none =>
      have e : us.toArray[i]? = none := by simpa using r.none_of q
      rw [e]
      exact ih
    | some x =>
      obtain ⟨u, e, ru⟩ := r.get q
      have e : us.toArray[i]? = some u := by simpa using e
      rw [e]
      exact .cons ru ih
theorem pickL_dvs {K : PySem.W.Frag} {ft : Cfg} {ρ : List Addr} {H : Hp} {ds : List D} {vs : List V} (h : DVs K ft ρ H ds vs) (lo hi st : Option Int) : DVs K ft ρ H (pickL ds lo hi st) (pickL vs lo hi st) := by
  unfold pickL
  rw [← h.length]
  generalize sliceRange _ _ _ = l
  induction l with
  | nil => exact .nil
  | cons i l ih =>
    rw [List.filterMap_cons, List.filterMap_cons]
    cases q : ds[i]? with
    | none =>
      have e : vs[i]? = none := by
        rw [List.getElem?_eq_none_iff] at q ⊢
        rw [← h.length]; exact q
      rw [e]
      exact ih
    | some x =>
      obtain ⟨u, e, ru⟩ := h.get q
      rw [e]
      exact .cons ru ih
/-- a slice with a step, by values -/
def Sl3R (X : Cx) (r : V → Option Int → Option Int → Option Int → Hp → VK → Prop) : Prop :=
  ∀ (pins : List (Addr × Obj)) (s : Shared) (σ : L2.St) (H : Hp) (x : V) (v vl vu vs : Value) (lo hi st : Option Int) (sl : Addr) (Q : VK), Inv X pins σ H s → RelV x v → s.heap.IsSliceOf sl vl vu vs → IsPart vl lo → IsPart vu hi → IsPart vs st → r x lo hi st H Q →
    ∃ T id, typeLookup (.type T) "__getitem__" = pure (some (.builtin id)) ∧ s.TypeIs v T ∧ wpAny (model X.prog X.w) X.A (getItem v (.ref sl)) (EP X pins σ Q) X.xe s
def rSl3L (K : PySem.W.Frag) : V → Option Int → Option Int → Option Int → Hp → VK → Prop := fun x lo hi st H Q => ∃ a xs, x = .ref a ∧ SqL K H a xs ∧ st ≠ some 0 ∧ ∀ p, H p = none → Q (.ref p) (upd H p (.lst (pickL xs lo hi st)))
theorem sl3_list {X : Cx} : Sl3R X (rSl3L X.K) := by
  intro pins s σ H x v vl vu vs lo hi st sl Q I rx hs pl pu ps h
  obtain ⟨a, xs, rfl, hx, h0, q⟩ := h
  obtain rfl : v = Value.ref a := rx
  obtain ⟨its, r, ht, hz⟩ := I.list hx
  have hlen := r.length
  refine ⟨"list", _, slot_list_getitem.lookup, ht.isList.typeIs, ?_⟩
  refine wpAny_getItem_list_slice ht.isList hs pl pu ps h0 ?_ (by rw [List.size_toArray] <;> omega)
  have rv := pickL_vals r lo hi st
  have lz : (pickL xs lo hi st).length ≤ sizeLine := by
    rw [rv.length, Array.length_toList]
    exact Nat.le_trans (slicePick_size_le _ _ _ _) (by rw [List.size_toArray]; omega)
  refine ⟨.ref s.heap.objs.size, _, I.laid (t' := s.toks) (o := .lst (pickL xs lo hi st)) (fun b ob q => Heap.get?_push_of_some _ q) (Nat.le_refl _) ?_, rfl, q _ (I.hok.fresh (Nat.le_refl _))⟩
  exact ⟨lz, _, 0, rv, by rw [Array.toArray_toList]; exact Heap.get?_push_size _ rfl⟩
theorem Sl3R.or {X : Cx} {r r' : V → Option Int → Option Int → Option Int → Hp → VK → Prop} (h : Sl3R X r) (h' : Sl3R X r') : Sl3R X (fun x lo hi st H Q => r x lo hi st H Q ∨ r' x lo hi st H Q) := by
  intro pins s σ H x v vl vu vs lo hi st sl Q I rx hs pl pu ps q
  rcases q with q | q
  · exact h pins s σ H x v vl vu vs lo hi st sl Q I rx hs pl pu ps q
  · exact h' pins s σ H x v vl vu vs lo hi st sl Q I rx hs pl pu ps q
section
variable {prog : Program} {w : World} {A : Around} {E : Value → Shared → Prop} {s : Shared}
theorem rev_pick (xs : Array Value) : ((List.range xs.size).filterMap fun (m : Nat) => xs[(((xs.size : Nat) : Int) - 1 + (m : Int) * (-1)).toNat]?).toArray = xs.toList.reverse.toArray := by
  congr 1
  have key : ∀ l : List Value, ((List.range l.length).filterMap fun (m : Nat) => l[(((l.length : Nat) : Int) - 1 + (m : Int) * (-1)).toNat]?) = l.reverse := by
    intro l
    have e : ∀ m ∈ List.range l.length, l[(((l.length : Nat) : Int) - 1 + (m : Int) * (-1)).toNat]? = some (l.reverse.getD m (l.reverse.headD .none)) := by
      intro m hm
      have hm := List.mem_range.mp hm
      have e1 : (((l.length : Nat) : Int) - 1 + (m : Int) * (-1)).toNat = l.length - 1 - m := by omega
      have hm2 : m < l.reverse.length := by simpa using hm
      rw [e1, List.getElem?_eq_getElem (by omega), List.getD_eq_getElem?_getD, List.getElem?_eq_getElem hm2]
      simp [List.getElem_reverse]
    apply List.ext_getElem?
    intro i
    have fm : ∀ (ms : List Nat), (∀ m ∈ ms, m < l.length) → (ms.filterMap fun (m : Nat) => l[(((l.length : Nat) : Int) - 1 + (m : Int) * (-1)).toNat]?) = ms.map fun m => l.reverse.getD m (l.reverse.headD .none) := by
      intro ms
      induction ms with
      | nil => intro _; rfl
      | cons a ms ih =>
        intro h
        rw [List.filterMap_cons, e a (List.mem_range.mpr (h a (by simp))), List.map_cons, ih fun m hm => h m (by simp [hm])]
    rw [fm _ fun m hm => List.mem_range.mp hm, List.getElem?_map]
    by_cases hi : i < l.length
    · rw [List.getElem?_range hi]
      have hi2 : i < l.reverse.length := by simpa using hi
      simp [List.getElem?_eq_getElem hi2, List.getD_eq_getElem?_getD]
    · rw [List.getElem?_eq_none (by simp; omega), List.getElem?_eq_none (by simp; omega)]
      rfl
  have := key xs.toList
  rw [Array.length_toList] at this
  simpa using this
theorem getItem_tuple_back {t sl : Addr} {items : Array Value} {vs : Value} {Q : Value → Shared → Prop} (ht : IsTup s.heap t items) (hs : s.heap.IsSliceOf sl .none .none vs) (ps : IsPart vs (some (-1)))
    (h : Q (.ref s.heap.objs.size) { s with heap := s.heap.push { cls := .type "tuple", data := .seq items.toList.reverse.toArray } }) (hsz : items.size ≤ sizeLine) : wpAny (model prog w) A (getItem (.ref t) (.ref sl)) Q E s := by
  have fits : sizeOk (.seq items.toList.reverse.toArray) := by
    show items.toList.reverse.toArray.size ≤ sizeLine
    rw [List.size_toArray, List.length_reverse, Array.length_toList]
    exact hsz
  obtain ⟨os, hos, hcs, hds⟩ := id hs
  have isSl : s.TypeIs (.ref sl) "slice" := ⟨os, hos, hcs⟩
  unfold getItem
  try with_reducible refine wpAny_holding ?_
  first | refine wpAny_bind (wpAny_pure ?_) | skip
  refine wpAny_bind (wpAny_sequenceKey ht.typeIs (by decide) ?_)
  refine wpAny_bind (wpAny_callSpecial?_slot (name := Str.ofString "__getitem__") ht.typeIs PyProof.Rows.slot_tuple_getitem (wpAny_call_entry PyProof.Rows.slot_tuple_getitem ht.typeIs entry_tuple_getitem ?_ (args_tuple_getitem _ _)))
  show wpAny _ _ (Builtin.Tuple.tupleItemsOf (.ref t) >>= _) _ _ s
  refine wpAny_bind (PyProof.Rows.tupleItemsOf_ ht ?_)
  refine wpAny_bind (wpAny_typeOf isSl ?_)
  rw [if_pos (by decide)]
  have app : ∀ {R : Int × Int × Nat → Shared → Prop} {E' : Value → Shared → Prop} {A' : Around}, R (((items.size : Nat) : Int) - 1, -1, items.size) s → wpAny (model prog w) A' (Builtin.Slice.sliceApplied (.ref sl) (pure (items.size : Int))) R E' s := by
    intro R E' A' hR
    unfold Builtin.Slice.sliceApplied Builtin.Slice.sliceFields
    refine wpAny_bind (wpAny_bind (wpAny_field hos hds (x := .none) rfl (wpAny_bind (wpAny_field hos hds (x := .none) rfl (wpAny_bind (wpAny_field hos hds (x := vs) rfl (wpAny_pure ?_)))))))
    refine wpAny_bind (HT.slicePart_ ps ?_)
    show wpAny _ _ (if ((-1 : Int) == 0) = true then _ else _) _ _ s
    rw [if_neg (by decide)]
    refine wpAny_bind (slicePart_none (wpAny_bind (slicePart_none (wpAny_bind (wpAny_pure ?_)))))
    have e : Builtin.Slice.slicePlaces (((items.size : Nat) : Int) - 1) (-1) (-1) = items.size := by
      unfold Builtin.Slice.slicePlaces
      rw [if_neg (by decide)]
      split
      · have e1 : (-(-1) : Int) = 1 := by decide
        rw [e1, Int.ediv_one]; omega
      · omega
    show wpAny _ _ (pure (((items.size : Nat) : Int) - 1, (-1 : Int), Builtin.Slice.slicePlaces (((items.size : Nat) : Int) - 1) (-1) (-1))) _ _ s
    rw [e]
    exact wpAny_pure hR
  refine wpAny_bind (app ?_)
  have hno : ¬ (((((items.size : Nat) : Int) - 1) == 0 && (-1 : Int) == 1 && items.size == items.size) = true) := by simp
  show wpAny _ _ (if ((((items.size : Nat) : Int) - 1) == 0 && (-1 : Int) == 1 && items.size == items.size) = true then _ else _) _ _ s
  rw [if_neg hno, rev_pick]
  first
    | exact wpAny_bind (m := Builtin.Tuple.tupleExact _) (wpAny_newObj_type (wpAny_pure ⟨_, rfl, wpAny_pure h⟩) fits)
    | exact wpAny_bind (m := Builtin.Tuple.tupleExact _) (wpAny_newObj_type (wpAny_bind (wpAny_pure (wpAny_pure ⟨_, rfl, wpAny_pure h⟩))) fits)
    | exact wpAny_bind (wpAny_bind (m := Builtin.Tuple.tupleExact _) (wpAny_newObj_type (wpAny_pure (wpAny_pure ⟨_, rfl, wpAny_pure h⟩)) fits))
    | exact wpAny_bind (wpAny_bind (m := Builtin.Tuple.tupleExact _) (wpAny_newObj_type (wpAny_pure ⟨_, rfl, wpAny_pure h⟩) fits))
end
def rSl3T (K : PySem.W.Frag) : V → Option Int → Option Int → Option Int → Hp → VK → Prop := fun x lo hi st H Q => ∃ a xs, x = .ref a ∧ SqT K H a xs ∧ lo = none ∧ hi = none ∧ st = some (-1) ∧ ∀ p, H p = none → Q (.ref p) (upd H p (.tup xs.reverse))
theorem sl3_tup {X : Cx} : Sl3R X (rSl3T X.K) := by
  intro pins s σ H x v vl vu vs lo hi st sl Q I rx hs pl pu ps h
  obtain ⟨a, xs, rfl, hx, rfl, rfl, rfl, q⟩ := h
  obtain rfl : v = Value.ref a := rx
  obtain ⟨its, r, ht, hz⟩ := I.tuple hx
  cases pl
  cases pu
  have hl := r.length
  refine ⟨"tuple", _, PyProof.Rows.slot_tuple_getitem.lookup, ht.typeIs, getItem_tuple_back ht hs ps ?_ (by rw [List.size_toArray]; omega)⟩
  refine ⟨.ref s.heap.objs.size, _, I.laid (t' := s.toks) (o := .tup xs.reverse) (fun b ob q => Heap.get?_push_of_some _ q) (Nat.le_refl _) ?_, rfl, q _ (I.hok.fresh (Nat.le_refl _))⟩
  refine ⟨by rw [List.length_reverse]; exact hz, its.reverse, r.reverse, ?_⟩
  have e : its.toArray.toList = its := by simp
  rw [e]
  exact IsTup.new _ _
section
variable {X : Cx} {e : Expr} {te : TE} {lo hi : Option Expr} {st : Expr} {tl th ts : TO} {pos p2 : Pos}
def tSl3 (r : V → Option Int → Option Int → Option Int → Hp → VK → Prop) (te : TE) (tl th ts : TO) : TE := fun σ H Q => te σ H fun x H1 => tl σ H1 fun l H2 => th σ H2 fun u H3 => ts σ H3 fun z H4 => r x l u z H4 Q
theorem pe_sl3 {r : V → Option Int → Option Int → Option Int → Hp → VK → Prop} (hr : Sl3R X r) (he : PE X e te) (hl : PO X lo tl) (hu : PO X hi th) (hs : PO X (some st) ts)
    (hsub : ∀ o i, subscripted (.Slice lo hi (some st) p2) false o i = operate [o, i] (getItem o i)) : PE X (.Subscript e (.Slice lo hi (some st) p2) pos) (tSl3 r te tl th ts) := by
  constructor
  intro pins s σ H Q I h
  refine Subscript_ (thn (he.run pins s σ H _ I h) fun v s1 ⟨x, H1, I1, r1, q1⟩ => ?_)
  refine wpAny_Slice (thn (hl.run pins s1 σ H1 _ I1 q1) fun vl s2 ⟨l, H2, I2, pl, q2⟩ => thn (hu.run pins s2 σ H2 _ I2 q2) fun vu s3 ⟨u, H3, I3, pu, q3⟩ => thn (hs.run pins s3 σ H3 _ I3 q3) fun vs s4 ⟨z, H4, I4, ps, q4⟩ => ?_)
  have I5 : Inv X pins σ H4 { s4 with heap := s4.heap.push { cls := .type "slice", data := .fields #[vl, vu, vs] } } := I4.kept (t' := s4.toks) fun b ob q => Heap.get?_push_of_some _ q
  obtain ⟨T, id, hT, ht, hg⟩ := hr pins _ σ H4 x v vl vu vs l u z s4.heap.objs.size Q I5 r1 (Heap.IsSliceOf.new ..) pl pu ps q4
  exact tail_any ht hT hg (hsub _ _)
end
section
variable {F : Fm} {e : Expr} {lo hi : Option Expr} {st : Expr} {me : ME} {ml mh ms : MO} {pos p2 : Pos}
def sl3D (x : D) (lo hi st : Option Int) (C : Hm) : Option (D × Hm) := match x with
  | .cell n => match C[n]? with
    | some (.lst ds) => if st ≠ some 0 then some (.cell C.length, C ++ [.lst (pickL ds lo hi st)]) else none
    | _ => none
  | .tup ds => if lo = none ∧ hi = none ∧ st = some (-1) then some (.tup ds.reverse, C) else none
  | _ => none
def mSl3 (me : ME) (ml mh ms : MO) : ME := fun E C => (me E C).bind fun p => (ml E p.2).bind fun q => (mh E q.2).bind fun r => (ms E r.2).bind fun z => sl3D p.1 q.1 r.1 z.1 z.2
theorem se_sl3 (he : SE F e me) (hl : SO F lo ml) (hu : SO F hi mh) (hs : SO F (some st) ms) (hsub : ∀ o i, subscripted (.Slice lo hi (some st) p2) false o i = operate [o, i] (getItem o i) := by intro _ _; with_unfolding_all rfl) : SE F (.Subscript e (.Slice lo hi (some st) p2) pos) (mSl3 me ml mh ms) := by
  obtain ⟨te, pe, se⟩ := he
  obtain ⟨tl, pl, sl⟩ := hl
  obtain ⟨th, ph, sh⟩ := hu
  obtain ⟨ts, ps, ss⟩ := hs
  refine ⟨tSl3 (fun x lo hi st H Q => rSl3L F.K x lo hi st H Q ∨ rSl3T F.K x lo hi st H Q) te tl th ts, fun X h => by have z := pe_sl3 (pos := pos) (sl3_list.or sl3_tup) (pe X h) (pl X h) (ph X h) (ps X h) hsub; rw [h.K] at z; exact z, fun ρ C H E σ d C' Q R eo hm k => ?_⟩
  obtain ⟨⟨x, C1⟩, h1, hm⟩ := obind hm
  obtain ⟨⟨y, C2⟩, h2, hm⟩ := obind hm
  obtain ⟨⟨z, C3⟩, h3, hm⟩ := obind hm
  obtain ⟨⟨w, C4⟩, h4, hm⟩ := obind hm
  refine se ρ C H E σ x C1 _ R eo h1 fun ρ1 H1 v1 R1 s1 d1 => ?_
  refine sl ρ1 C1 H1 E σ y C2 _ R1 (eo.mono s1) h2 fun ρ2 H2 R2 s2 => ?_
  refine sh ρ2 C2 H2 E σ z C3 _ R2 (eo.mono (s1.trans s2)) h3 fun ρ3 H3 R3 s3 => ?_
  refine ss ρ3 C3 H3 E σ w C4 _ R3 (eo.mono ((s1.trans s2).trans s3)) h4 fun ρ4 H4 R4 s4 => ?_
  have s := ((s1.trans s2).trans s3).trans s4
  have d4 := d1.mono ((s2.trans s3).trans s4)
  simp only at hm
  unfold sl3D at hm
  split at hm
  · split at hm
    · rename_i n ds q
      split at hm
      · rename_i h0
        cases hm
        obtain ⟨p, vs, rfl, ep, e3, e4⟩ := R4.lst q d4
        exact .inl ⟨_, _, rfl, SqL.of e3, h0, fun p hp => k _ _ _ (R4.newL hp (pickL_dvs e4 _ _ _)) (s.trans (Stp.push hp)) (DV.new R4)⟩
      · cases hm
    · cases hm
  · split at hm
    · rename_i ds hc
      cases hm
      cases d4 with | tup h5 h6 => exact .inr ⟨_, _, rfl, h5, hc.1, hc.2.1, hc.2.2, fun p hp => k ρ4 _ _ (R4.fresh hp) (s.trans (Stp.fresh hp)) (.tup (SqT.of upd_same) (h6.reverse.mono (Stp.fresh hp)))⟩
    · cases hm
  · cases hm
end
/-! ## keywords alone -/
section
variable {F : Fm} {e : Expr} {es : List Expr} {pos p : Pos} {x : Str} {kws : List Keyword} {ks : List Str}
def SK (F : Fm) (kws : List Keyword) (m : MA) : Prop := ∃ t, (∀ X, F.Is X → PK X kws t) ∧ EvA F t m
theorem sk_nil : SK F [] mNil := ⟨_, fun _ _ => pk_nil, fun ρ C H E σ d C' Q R eo hm k => by cases hm; exact k ρ H [] R .refl .nil⟩
theorem sk_cons {nm : Option Str} {kp : Pos} {me : ME} {ml : MA} (ha : SE F e me) (hl : SK F kws ml) (hc : ∀ (X : Cx) (te : TE) (t : TA), PE X e te → PK X kws t → PK X (⟨nm, e, kp⟩ :: kws) (tCons te t) := by intro X te t a b; exact pk_cons a b) : SK F (⟨nm, e, kp⟩ :: kws) (mCons me ml) := by
  obtain ⟨ta, pa, sa⟩ := ha
  obtain ⟨tl, pl, sl⟩ := hl
  refine ⟨_, fun X h => hc X _ _ (pa X h) (pl X h), fun ρ C H E σ d C' Q R eo hm k => ?_⟩
  obtain ⟨⟨x, C1⟩, h1, hm⟩ := obind hm
  obtain ⟨⟨ys, C2⟩, h2, hm⟩ := obind hm
  cases hm
  refine sa ρ C H E σ x C1 _ R eo h1 fun ρ1 H1 v1 R1 s1 d1 => ?_
  refine sl ρ1 C1 H1 E σ ys C2 _ R1 (eo.mono s1) h2 fun ρ2 H2 v2 R2 s2 d2 => ?_
  exact k ρ2 H2 _ R2 (s1.trans s2) (.cons (d1.mono s2) d2)
/-- how keywords (all the parameters, in some order) come to the parameters -/
structure KwB (K : PySem.W.Frag) (fd : FuncData) (ps ks : List Str) (g : {α : Type} → List α → List α) : Prop where
  to : ∀ (s : Shared) (ws : List Value), K.In s.heap → ws.length = ks.length → BindsTo s fd ⟨[], ks.zip ws⟩ (ps.zip (g ws))
  vals : ∀ {zs : List V} {ws : List Value}, zs.length = ks.length → Vals zs ws → Vals (g zs) (g ws)
  dvs : ∀ {K : PySem.W.Frag} {ft : Cfg} {ρ : List Addr} {H : Hp} {ds : List D} {zs : List V}, ds.length = ks.length → DVs K ft ρ H ds zs → DVs K ft ρ H (g ds) (g zs)
  len : ∀ {ds : List D}, ds.length = ks.length → (g ds).length = ps.length
structure CalleeK (P : Program) (w : World) (K : PySem.W.Frag) (mg : Str → Option Value) (base : Heap) (ft : Cfg) (x : Str) (ks : List Str) (g : {α : Type} → List α → List α) (m : MF) (k : Nat) : Prop where
  ex : ∃ (f : Addr) (fd : FuncData) (ps : List Str), mg x = some (.ref f) ∧ PySem.W.keepIn K (.ref f) = true ∧ KwB K fd ps ks g ∧ FnG P w K mg base k f fd ps (spM K ft ps.length m)
def mCallK (g : {α : Type} → List α → List α) (m : MF) (ml : MA) : ME := fun E C => (ml E C).bind fun q => m (g q.1) q.2
def tCallK0 (sp : SpG) (n : Nat) (g : {α : Type} → List α → List α) (t : TA) : TE := fun σ H Q => t σ H fun vs H1 => vs.length = n ∧ sp (g vs) H1 Q
theorem pe_callK0 {X : Cx} {k : Nat} {f : Addr} {fd : FuncData} {ps : List Str} {sp : SpG} {g : {α : Type} → List α → List α} {t : TA} (G : FnG X.prog X.w X.K X.mg X.base k f fd ps sp) (hr : Room k X.A) (hgu : X.A.guards = some []) (hg : Gl X x) (hm : X.mg x = some (.ref f)) (hk : PySem.W.keepIn X.K (.ref f) = true) (hb : KwB X.K fd ps ks g)
    (hkw : PK X kws t) (hall : (backToKw pos (keywordEach kws X.env)).all (·.1.isSome) = true) (hks : (backToKw pos (keywordEach kws X.env)).filterMap (·.1) = ks) (hdb : (x == ("__debug__" : Str)) = false)
    (hpl : ((backTo pos (starEach [] X.env)).any (·.1) || (backToKw pos (keywordEach kws X.env)).any (·.1.isNone)) = false) : PE X (.Call (.Name x p) [] kws pos) (tCallK0 sp ks.length g t) := by
  constructor
  intro pins s σ H Q I h
  refine wpAny_Call_Name_kw (ld_glob I hg hm ?_ hdb)
  refine PySem.W.callWith_KW0 (h₀ := X.base) I.ok.mod.kin hk hall (thn (hkw.run pos pins s σ H _ I h) fun ws s1 ⟨zs, H1, I1, rz, hl, q⟩ => ⟨I1.kIn, ?_⟩) hpl
  rw [hks]
  have hlw : ws.length = ks.length := by rw [← rz.length]; exact hl
  have go := G.run X.A X.stack s1 H1 ⟨[], ks.zip ws⟩ (g ws) (g zs) Q hr hgu I1.env0 (hb.to s1 ws I1.kIn hlw) (hb.vals hl rz) q
  refine wpAny_call (codeAny_mono go fun r s' hq => ?_)
  match r, hq with
  | .ok (.ret u), hq => exact I1.after hq
  | .ok .next, hq => exact (show False from hq).elim
  | .ok .brk, hq => exact (show False from hq).elim
  | .ok .cont, hq => exact (show False from hq).elim
  | .error e, hq => exact (show False from hq).elim
theorem se_callK0 {g : {α : Type} → List α → List α} {m : MF} {ml : MA} (k : Nat) (c : CalleeK F.prog F.w F.K F.mg F.base F.ft x ks g m k) (ha : SK F kws ml) (hlen : ∀ E C q, ml E C = some q → q.1.length = ks.length) (hk : k ≤ F.lv := by exact Nat.le_of_ble_eq_true rfl) (hg : F.sc.names.lookup x = some .globalImplicit := by rfl) (hdb : (x == ("__debug__" : Str)) = false := by decide)
    (hall : ∀ env : Env, (backToKw pos (keywordEach kws env)).all (·.1.isSome) = true := by intro _; rfl) (hks : ∀ env : Env, (backToKw pos (keywordEach kws env)).filterMap (·.1) = ks := by intro _; rfl)
    (hpl : ∀ env : Env, ((backTo pos (starEach [] env)).any (·.1) || (backToKw pos (keywordEach kws env)).any (·.1.isNone)) = false := by intro _; rfl) : SE F (.Call (.Name x p) [] kws pos) (mCallK g m ml) := by
  obtain ⟨f, fd, ps, hm, hkp, hb, G⟩ := c.ex
  obtain ⟨t, pt, st⟩ := ha
  refine ⟨tCallK0 (spM F.K F.ft ps.length m) ks.length g t, fun X h => ?_, fun ρ C H E σ d C' Q R eo hm2 kk => ?_⟩
  · exact pe_callK0 (by rw [h.prog, h.w, h.K, h.mg, h.base]; exact G) (h.rm.mono hk) h.gu (h.gl hg) (by rw [h.mg]; exact hm) (by rw [h.K]; exact hkp) (by rw [h.K]; exact hb) (pt X h) (hall _) (hks _) hdb (hpl _)
  · obtain ⟨⟨xs, C1⟩, h1, hm2⟩ := obind hm2
    have hl := hlen _ _ _ h1
    refine st ρ C H E σ xs C1 _ R eo h1 fun ρ1 H1 vs R1 s1 d1 => ?_
    refine ⟨by rw [← d1.length]; exact hl, ρ1, C1, g xs, d, C', R1, hb.dvs hl d1, hb.len hl, hm2, fun ρ' H' v R' s' dv => kk ρ' H' v R' (s1.trans s') dv⟩
end
end Mi
set_option Elab.async false
set_option linter.all false
set_option maxRecDepth 100000
set_option maxHeartbeats 4000000
namespace Mi
open PySem PySem.Spec PyProof.Rows L2
/-! ## the law's own call -/
section
variable {P : Program} {w : World} {K : PySem.W.Frag} {mg mb : Str → Option Value} {k : Nat} {fa a : Addr} {fd : FuncData} {x : Str} {sp : SpG} {s₁ : Shared} {vs : List Value} {ns : List Int}
abbrev LawEnd (s₁ : Shared) (r : Result) (s' : Shared) : Prop := r = .ok (.ret (.bool true)) ∧ OldK s₁.heap s'.heap ∧ s'.os = s₁.os ∧ AllBare s'.gens
/-- from an abstract heap that tracks nothing but, perhaps, the locked script -/
theorem law_core (KX : K.In s₁.heap) (hns : s₁.heap.Ns mainGlobals mg) (hb : s₁.heap.Ns builtinsNs mb) (hbb : ∀ x : Str, x ≠ "__name__" → mb x = bootBuiltins x) (hlim : s₁.heap.NoLimit) (hg : s₁.gens = #[])
    (ha : s₁.heap.get? a = some { cls := .type "list", data := .seq vs.toArray }) (hr : Room k callerA) (F : ∀ base : Heap, K.In base → base.Ns mainGlobals mg → FnG P w K mg base k fa fd [x] sp) (hbind : ∀ (s : Shared) (u : Value), BindsTo s fd ⟨[u], []⟩ [(x, u)])
    {H : Hp} (hO : Only H) (ok : HOk P w H s₁.heap) (hA : ∀ b, H b ≠ none → b = a) (hK : H a ≠ none → K.lookup a = none) (hsp : sp [.ref a] H fun v _ => v = .bl true) : codeAny (model P w) callerA (.call (.ref fa) ⟨[.ref a], []⟩) (LawEnd s₁) s₁ := by
  let B := hidT s₁.heap H
  have toB : ∀ {b o}, s₁.heap.get? b = some o → H b = none → B.get? b = some o := fun e n => hidT_get e n
  have only : ∀ {b}, H b ≠ none → s₁.heap.get? b = some { cls := .type "list", data := .seq vs.toArray } := fun h => hA _ h ▸ ha
  have dictFree : ∀ {b o es ep}, s₁.heap.get? b = some o → o.data = .dict es ep → H b = none := fun {b o es ep} e d => Classical.byContradiction fun h => by
    rw [only h] at e
    cases e
    exact nomatch d
  have nsB : ∀ {b m}, s₁.heap.Ns b m → B.Ns b m := fun {b m} q => by
    obtain ⟨o, es, ep, e, d, r⟩ := q
    exact ⟨o, es, ep, toB e (dictFree e d), d, r⟩
  have kB : K.In B := fun b o e => toB (KX b o e) (Classical.byContradiction fun h => by
    have hb := hA b h
    subst hb
    rw [hK h] at e
    cases e)
  obtain ⟨mc, c1, c2⟩ := hlim
  have e0 : Env0 P w K mg B callerA [] s₁ H := ⟨rfl, ⟨kB, nsB hns, ⟨mb, nsB hb, hbb⟩, ⟨mc, nsB c1, c2⟩⟩, fun b o e => of_hidT e, Nat.le_of_eq (hidT_size _ _), trivial, (fun b hb => by cases hb), ok, .of_eq hg⟩
  have go := (F B kB (nsB hns)).run callerA [] s₁ H ⟨[.ref a], []⟩ [.ref a] [.ref a] _ hr rfl e0 (hbind s₁ (.ref a)) (.cons rfl .nil) hsp
  refine codeAny_mono go fun r s' h => ?_
  match r, h with
  | .error e, h => exact (show False from h).elim
  | .ok .next, h => exact (show False from h).elim
  | .ok .brk, h => exact (show False from h).elim
  | .ok .cont, h => exact (show False from h).elim
  | .ok (.ret u), h =>
    obtain ⟨v, H', os, bare, un, ok', rv, rfl⟩ := h
    obtain rfl : u = Value.bool true := rv
    refine ⟨rfl, OldK.of_keep fun b o e => ?_, os, bare⟩
    rcases hO b with z | ⟨ob, xs, z⟩
    · exact un.keep b o e z (by intro q; cases q) (by simp)
    · have e1 := (ok b _ z).1
      have e2 := (ok' b _ (un.frzs b ob _ z)).1
      rw [e] at e1
      cases e1
      exact e2
theorem law_callG (KX : K.In s₁.heap) (hns : s₁.heap.Ns mainGlobals mg) (hb : s₁.heap.Ns builtinsNs mb) (hbb : ∀ x : Str, x ≠ "__name__" → mb x = bootBuiltins x) (hlim : s₁.heap.NoLimit) (hg : s₁.gens = #[])
    (ha : s₁.heap.get? a = some { cls := .type "list", data := .seq vs.toArray }) (hi : IntsAre vs ns) (hl : ns.length ≤ sizeLine) (hr : Room k callerA) (F : ∀ base : Heap, K.In base → base.Ns mainGlobals mg → FnG P w K mg base k fa fd [x] sp) (hbind : ∀ (s : Shared) (u : Value), BindsTo s fd ⟨[u], []⟩ [(x, u)])
    (hsp : ∀ H : Hp, SqR K H a (ns.map V.int) → sp [.ref a] H fun v _ => v = .bl true) : codeAny (model P w) callerA (.call (.ref fa) ⟨[.ref a], []⟩) (LawEnd s₁) s₁ := by
  have rv := vals_ints hi
  have hlen : vs.toArray.size ≤ sizeLine := by rw [List.size_toArray, hi.length]; exact hl
  cases hk : K.lookup a with
  | some o =>
    have e := KX a o hk
    rw [ha] at e
    cases e
    have sq : ∀ H : Hp, SqL K H a (ns.map V.int) := fun H => .inr ⟨_, vs.toArray, _, hk, rfl, rfl, rfl, hlen, by simpa using rv⟩
    exact law_core KX hns hb hbb hlim hg ha hr F hbind (H := fun _ => none) (fun _ => .inl rfl) (fun b u z => by cases z) (fun b z => absurd rfl z) (fun z => absurd rfl z) (hsp _ ⟨sq _, fun H' _ => sq H'⟩)
  | none =>
    have at_ : ∀ b, (fun b => if b = a then some (HO.frz { cls := .type "list", data := .seq vs.toArray } (.lst (ns.map V.int))) else none : Hp) b ≠ none → b = a := fun b h => Classical.byContradiction fun q => h (if_neg q)
    refine law_core KX hns hb hbb hlim hg ha hr F hbind (H := fun b => if b = a then some (.frz { cls := .type "list", data := .seq vs.toArray } (.lst (ns.map V.int))) else none) (fun b => ?_) (fun b u z => ?_) at_ (fun _ => hk) (hsp _ ⟨.inl (.inr ⟨_, if_pos rfl⟩), fun H' kp => .inl (.inr ⟨_, kp a _ _ (if_pos rfl)⟩)⟩)
    · by_cases h : b = a
      · exact .inr ⟨_, _, if_pos h⟩
      · exact .inl (if_neg h)
    · have h := at_ b (by rw [z]; simp)
      subst h
      have z' := (if_pos rfl).symm.trans z
      cases z'
      exact ⟨ha, by rw [List.length_map]; exact hl, vs, _, rv, ha⟩
end
/-- the end of a row: the law's def keeps its promise -/
theorem walkG {l : PySem.W.OpenLaw} {n k : Nat} {q : Program} {loose : List Str} {XP : (Str → Option Value) → Heap → Prop} {YP : World → Heap → Prop} {d : DefRec} {K : Params → PySem.W.Frag} {sp : PySem.W.Frag → SpG} {x : Str}
    (hn : l.most = some n) (hn2 : n ≤ sizeLine) (hdf : d.params.defaults = []) (hr : Room k callerA) (hY : ∀ (w : World) (h : Heap), YP w h → (K w.params).In h)
    (F : ∀ (w : World) (mg : Str → Option Value) (fa : Addr) (h : Heap), (K w.params).In h → h.Ns mainGlobals mg → mg d.name = some (.ref fa) → ∃ fd : FuncData, (∀ (s : Shared) (u : Value), BindsTo s fd ⟨[u], []⟩ [(x, u)]) ∧
        ∀ base : Heap, (K w.params).In base → base.Ns mainGlobals mg → FnG l.prog w (K w.params) mg base k fa fd [x] (sp (K w.params)))
    (hsp : ∀ (K : PySem.W.Frag) (H : Hp) (a : Addr) (ns : List Int), ns.length ≤ n → SqR K H a (ns.map V.int) → sp K [.ref a] H fun v _ => v = .bl true) : PySem.W.WalkO q loose XP YP l.row.toRowW d [] (fun f vs => PySem.call f vs) := by
  refine Att.attach_call hn hdf fun w s₀ s₁ mg mb fa o pm cd doc a vs ns G Y ho hd hcd hmg hobj hints hlen hg => ?_
  obtain ⟨fd, hb, hF⟩ := F w mg fa _ (hY w _ Y) G.T.g hmg
  exact law_callG (hY w _ Y) G.T.g G.T.b G.T.builtins G.T.nolimit hg hobj hints (Nat.le_trans hlen hn2) hr hF hb fun H sq => hsp _ H a ns hlen sq
/-- a law's def: its mirror gives True for every script -/
theorem spM_law {ft : Cfg} {m : MF} {n : Nat} (h : ∀ ns : List Int, ns.length ≤ n → ∃ C', m [.rol ns] [] = some (.bl true, C')) (K : PySem.W.Frag) (H : Hp) (a : Addr) (ns : List Int) (hl : ns.length ≤ n) (sq : SqR K H a (ns.map V.int)) : spM K ft 1 m [.ref a] H fun v _ => v = .bl true := by
  obtain ⟨C', e⟩ := h ns hl
  exact ⟨[], [], [.rol ns], .bl true, C', Rel.nil, .cons (.rol sq) .nil, rfl, e, fun ρ' H' v _ _ dv => by cases dv; rfl⟩
/-! ## from a def of the text to what callers want -/
section
variable {F : Fm} {P : Program} {w : World} {K : PySem.W.Frag} {mg : Str → Option Value} {base : Heap} {ft : Cfg}
theorem calleeOf {x qual : Str} {st : Stmt} {f : Addr} {fd : FuncData} {ps : List Str} {m : MF} {k : Nat} (Fu : Fun K x qual st f fd) (hm : mg x = some (.ref f)) (hb : Binds K fd ps []) (G : FnG P w K mg base k f fd ps (spM K ft ps.length m)) : Callee P w K mg base ft x ps.length m k :=
  ⟨f, fd, ps, [], [], [], hm, Fu.kp, hb, .nil, fun _ _ => .nil, m, G, rfl, fun xs C _ => by rw [List.append_nil]⟩
theorem tabOf {x qual : Str} {st : Stmt} {f : Addr} {fd : FuncData} {ps : List Str} {m : MF} {k : Nat} (i : Nat) (hf : ft i = f) (Fu : Fun K x qual st f fd) (hb : Binds K fd ps []) (G : FnG P w K mg base k f fd ps (spM K ft ps.length m)) : Tab P w K mg base ft ps.length (tab1 i m) k := by
  refine ⟨fun j m' e => ?_⟩
  unfold tab1 at e
  split at e
  · rename_i hj
    cases e
    subst hj
    rw [hf]
    exact ⟨fd, ps, Fu.kp, hb, rfl, G⟩
  · cases e
end
theorem mNil_len {E : Ev} {C : Hm} {q : List D × Hm} (h : mNil E C = some q) : q.1.length = 0 := by cases h; rfl
theorem mCons_len {me : ME} {ml : MA} {n : Nat} (hl : ∀ E C q, ml E C = some q → q.1.length = n) : ∀ E C q, mCons me ml E C = some q → q.1.length = n + 1 := fun E C q h => by
  obtain ⟨p, _, h⟩ := obind h
  obtain ⟨r, h2, h⟩ := obind h
  cases h
  simp [hl _ _ _ h2]
theorem len0 : ∀ E C q, mNil E C = some q → q.1.length = 0 := fun _ _ _ h => mNil_len h
end Mi
set_option Elab.async false
set_option linter.all false
set_option maxRecDepth 100000
set_option maxHeartbeats 4000000
namespace Mi
open PySem PySem.Spec PyProof.Rows L2
abbrev gId : {α : Type} → List α → List α := fun l => l
section
variable {P : Program} {w : World} {K : PySem.W.Frag} {mg : Str → Option Value} {base : Heap} {ft : Cfg}
/-- nothing is promised -/
theorem fnG_none {f : Addr} {fd : FuncData} {ps : List Str} {k : Nat} : FnG P w K mg base k f fd ps (spM K ft ps.length fun _ _ => none) :=
  ⟨(fun vs H Q h => by obtain ⟨_, _, _, _, _, _, _, _, e, _⟩ := h; cases e), fun A outer s H args us vs Q _ _ _ _ _ h => by obtain ⟨_, _, _, _, _, _, _, _, e, _⟩ := h; cases e⟩
theorem calleeK_of {x qual : Str} {st : Stmt} {f : Addr} {fd : FuncData} {ps ks : List Str} {g : {α : Type} → List α → List α} {m : MF} {k : Nat} (Fu : Fun K x qual st f fd) (hm : mg x = some (.ref f)) (hb : KwB K fd ps ks g) (G : FnG P w K mg base k f fd ps (spM K ft ps.length m)) : CalleeK P w K mg base ft x ks g m k := ⟨f, fd, ps, hm, Fu.kp, hb, G⟩
end
/-- how many steps a loop of a mirror may take -/
abbrev fuel : Nat := 1000000
end Mi
namespace Mi
open PySem PySem.Spec PyProof.Rows L2
theorem FnG.imp {P : Program} {w : World} {K : PySem.W.Frag} {mg : Str → Option Value} {base : Heap} {k : Nat} {f : Addr} {fd : FuncData} {ps : List Str} {sp sp' : SpG} (F : FnG P w K mg base k f fd ps sp) (h : ∀ vs H Q, sp' vs H Q → sp vs H Q) : FnG P w K mg base k f fd ps sp' :=
  ⟨fun vs H Q q => F.len vs H Q (h _ _ _ q), fun A outer s H args us vs Q hr hg e b r q => F.run A outer s H args us vs Q hr hg e b r (h _ _ _ q)⟩
end Mi
set_option Elab.async false
set_option linter.all false
set_option maxRecDepth 100000
set_option maxHeartbeats 4000000
namespace Mi
open PySem PySem.Spec PyProof.Rows L2
/-! ## keys as data -/
def partK : D → Option Key
  | .int i => some (.inl i)
  | .str x => some (.inr x)
  | _ => none
def partD : Key → D
  | .inl i => .int i
  | .inr x => .str x
def mkOf : D → Option MD.MK
  | .int i => some (.i i)
  | .tup ds => (ds.mapM partK).bind fun ks => if ks.all MD.partOk = true then some (.t ks) else none
  | _ => none
def mkD : MD.MK → D
  | .i n => .int n
  | .t ks => .tup (ks.map partD)
section
variable {K : PySem.W.Frag} {ft : Cfg} {ρ : List Addr} {H : Hp}
theorem parts_ok : ∀ {ds : List D} {vs : List V} {ks : List Key}, DVs K ft ρ H ds vs → ds.mapM partK = some ks → vs = ks.map kV
  | _, _, ks, .nil, e => by cases e; rfl
  | d :: ds, _, ks, .cons h t, e => by
    obtain ⟨k, js, e1, e2, rfl⟩ := mapM_cons' e
    rw [parts_ok t e2]
    cases h <;> cases e1 <;> rfl
theorem mkOf_ok {d : D} {v : V} {k : MD.MK} (h : DV K ft ρ H d v) (e : mkOf d = some k) : KeyV K H k v := by
  cases h with
  | int i => cases e; rfl
  | tup hs hd =>
    obtain ⟨ks, e1, e2⟩ := obind (show (List.mapM partK _).bind _ = some k from e)
    split at e2
    · rename_i ok
      cases e2
      have := parts_ok hd e1
      subst this
      exact ⟨ok, _, rfl, hs⟩
    · cases e2
  | _ => cases e
theorem dvs_parts : ∀ ks : List Key, DVs K ft ρ H (ks.map partD) (ks.map kV)
  | [] => .nil
  | .inl i :: ks => .cons (.int i) (dvs_parts ks)
  | .inr x :: ks => .cons (.str x) (dvs_parts ks)
theorem keyV_dv {k : MD.MK} {v : V} (h : KeyV K H k v) : DV K ft ρ H (mkD k) v := by
  cases k with
  | i n => cases h; exact .int n
  | t ks => obtain ⟨_, b, rfl, q⟩ := h; exact .tup q (dvs_parts ks)
end
/-! ## the dict of a state -/
section
variable {X : Cx} {pins : List (Addr × Obj)} {σ : L2.St} {H : Hp} {s : Shared} {a : Addr} {es : EV}
theorem key_is {k : MD.MK} {v : V} {u : Value} (I : Inv X pins σ H s) (h : KeyV X.K H k v) (r : RelV v u) : MD.MK.is X.prog X.w s.heap k u := by
  cases k with
  | i n => cases h; exact r
  | t ks =>
    obtain ⟨ok, b, rfl, q⟩ := h
    obtain rfl : u = Value.ref b := r
    obtain ⟨its, rv, ⟨o, e1, e2, z, e3⟩, _⟩ := I.tuple q
    exact ⟨ok, b, rfl, o, its.toArray, z, e1, e2, e3, items_are rv⟩
/-- the dict, perhaps locked -/
def MRd (hash : MD.MK → Int) (H : Hp) (a : Addr) (es : EV) : Prop := H a = some (mixO hash a es) ∨ ∃ o, H a = some (.frz o (mixO hash a es))
abbrev EX (e : MD.MK × V × V) (x : MD.Ent) : Prop := e.1 = x.1 ∧ RelV e.2.1 x.2.1 ∧ RelV e.2.2 x.2.2
theorem ents_of {P : Program} {w : World} {hash : MD.MK → Int} (hh : hash = MD.MK.hash P w) : ∀ {es : EV} {gs : List DictEntry}, Paired (fun (e : MD.MK × V × V) (g : DictEntry) => g.hash = hash e.1 ∧ RelV e.2.1 g.key ∧ RelV e.2.2 g.val) es gs → ∃ xs : List MD.Ent, gs = xs.map (MD.ent P w) ∧ Paired EX es xs
  | _, _, .nil => ⟨[], rfl, .nil⟩
  | e :: _, g :: _, .cons z t => by
    obtain ⟨xs, e1, p⟩ := ents_of hh t
    refine ⟨(e.1, g.key, g.val) :: xs, ?_, .cons ⟨rfl, z.2.1, z.2.2⟩ p⟩
    rw [List.map_cons, ← e1]
    congr 1
    obtain ⟨gh, gk, gv⟩ := g
    simp only [MD.ent]
    rw [← hh, ← z.1]
theorem ex_keys : ∀ {es : EV} {xs : List MD.Ent}, Paired EX es xs → es.map (·.1) = xs.map (·.1)
  | _, _, .nil => rfl
  | _, _, .cons z t => by rw [List.map_cons, List.map_cons, z.1, ex_keys t]
theorem mix_at {hash : MD.MK → Int} (hh : hash = MD.MK.hash X.prog X.w) (I : Inv X pins σ H s) (e : MRd hash H a es) (nd : (es.map (·.1)).Nodup) (kv : ∀ e ∈ es, KeyV X.K H e.1 e.2.1) : ∃ xs : List MD.Ent, MD.MAt X.prog X.w s.heap a xs ∧ Paired EX es xs := by
  have ok : ObjOk X.prog X.w H s.heap a (mixO hash a es) := by
    rcases e with e | ⟨o, e⟩
    · exact I.hok a _ e
    · exact (I.hok a _ e).2
  obtain ⟨⟨hs, hl, o, arr, ep, h1, h2, h3, hp⟩, _⟩ := ok
  obtain ⟨xs, e1, p⟩ := ents_of hh hp
  have hk : ∀ {es : EV} {xs : List MD.Ent}, Paired EX es xs → (∀ e ∈ es, KeyV X.K H e.1 e.2.1) → ∀ x ∈ xs, MD.MK.is X.prog X.w s.heap x.1 x.2.1 := by
    intro es xs p
    induction p with
    | nil => intro _ x hx; cases hx
    | cons z t ih =>
      intro kv x hx
      rcases List.mem_cons.mp hx with rfl | hx
      · rw [← z.1]; exact key_is I (kv _ (by simp)) z.2.1
      · exact ih (fun e he => kv e (by simp [he])) x hx
  exact ⟨xs, ⟨hs, ⟨o, arr, ep, h1, h2, h3, e1⟩, hk p kv, by rw [← ex_keys p]; exact nd, by rw [← Paired.length p]; exact hl⟩, p⟩
def hasE (es : EV) (k : MD.MK) : Bool := es.any fun e => decide (e.1 = k)
def valE (es : EV) (k : MD.MK) : Option V := (es.find? fun e => decide (e.1 = k)).map (·.2.2)
def putE (es : EV) (k : MD.MK) (y v : V) : EV := if hasE es k = true then es.map fun e => if e.1 = k then (e.1, e.2.1, v) else e else es ++ [(k, y, v)]
theorem val_ex {k : MD.MK} : ∀ {es : EV} {xs : List MD.Ent}, Paired EX es xs → RelO (valE es k) (MD.getM xs k)
  | _, _, .nil => trivial
  | e :: es, x :: xs, .cons z t => by
    have ih := val_ex (k := k) t
    unfold valE MD.getM at ih ⊢
    rw [List.find?_cons, List.find?_cons]
    by_cases h : e.1 = k
    · have h' : x.1 = k := z.1 ▸ h
      simp only [h, h', decide_true]
      exact z.2.2
    · have h' : ¬ x.1 = k := z.1 ▸ h
      simp only [h, h', decide_false]
      exact ih
end
end Mi
set_option Elab.async false
set_option linter.all false
set_option maxRecDepth 100000
set_option maxHeartbeats 4000000
namespace Mi
open PySem PySem.Spec PyProof.Rows L2
theorem hasE_val (k : MD.MK) : ∀ es : EV, hasE es k = (valE es k).isSome
  | [] => rfl
  | e :: es => by
    have ih := hasE_val k es
    unfold hasE valE at ih ⊢
    rw [List.any_cons, List.find?_cons]
    by_cases h : e.1 = k <;> simp [h, ih]
def hasM (kvs : List (MD.MK × D)) (k : MD.MK) : Bool := kvs.any fun p => decide (p.1 = k)
def valM (kvs : List (MD.MK × D)) (k : MD.MK) : Option D := (kvs.find? fun p => decide (p.1 = k)).map (·.2)
def putM (kvs : List (MD.MK × D)) (k : MD.MK) (d : D) : List (MD.MK × D) := if hasM kvs k = true then kvs.map fun p => if p.1 = k then (p.1, d) else p else kvs ++ [(k, d)]
section
variable {K : PySem.W.Frag} {ft : Cfg} {ρ : List Addr} {H : Hp} {kvs : List (MD.MK × D)} {es : EV} {k : MD.MK}
theorem Mix.keys (m : Mix K ft ρ H kvs es) : kvs.map (·.1) = es.map (·.1) := by
  have := m.2
  clear m
  induction this with
  | nil => rfl
  | cons z t ih => rw [List.map_cons, List.map_cons, z.1, ih]
theorem Mix.has (m : Mix K ft ρ H kvs es) : hasM kvs k = hasE es k := by
  have e : ∀ {kvs : List (MD.MK × D)} {es : EV}, Paired (fun (p : MD.MK × D) (e : MD.MK × V × V) => p.1 = e.1 ∧ KeyV K H e.1 e.2.1 ∧ DV K ft ρ H p.2 e.2.2) kvs es → hasM kvs k = hasE es k := by
    intro kvs es p
    unfold hasM hasE
    induction p with
    | nil => rfl
    | cons z t ih => rw [List.any_cons, List.any_cons, z.1, ih]
  exact e m.2
theorem Mix.len (m : Mix K ft ρ H kvs es) : kvs.length = es.length := Paired.length m.2
theorem Mix.kv (m : Mix K ft ρ H kvs es) : ∀ e ∈ es, KeyV K H e.1 e.2.1 := by
  have e : ∀ {kvs : List (MD.MK × D)} {es : EV}, Paired (fun (p : MD.MK × D) (e : MD.MK × V × V) => p.1 = e.1 ∧ KeyV K H e.1 e.2.1 ∧ DV K ft ρ H p.2 e.2.2) kvs es → ∀ e ∈ es, KeyV K H e.1 e.2.1 := by
    intro kvs es p
    induction p with
    | nil => intro e he; cases he
    | cons z t ih =>
      intro e he
      rcases List.mem_cons.mp he with rfl | he
      · exact z.2.1
      · exact ih e he
  exact e m.2
theorem Mix.val (m : Mix K ft ρ H kvs es) : (∀ d, valM kvs k = some d → ∃ v, valE es k = some v ∧ DV K ft ρ H d v) ∧ (valM kvs k = none → valE es k = none) := by
  have e : ∀ {kvs : List (MD.MK × D)} {es : EV}, Paired (fun (p : MD.MK × D) (e : MD.MK × V × V) => p.1 = e.1 ∧ KeyV K H e.1 e.2.1 ∧ DV K ft ρ H p.2 e.2.2) kvs es → (∀ d, valM kvs k = some d → ∃ v, valE es k = some v ∧ DV K ft ρ H d v) ∧ (valM kvs k = none → valE es k = none) := by
    intro kvs es p
    unfold valM valE
    induction p with
    | nil => exact ⟨(fun d h => by cases h), fun _ => rfl⟩
    | @cons p e _ _ z t ih =>
      rw [List.find?_cons, List.find?_cons]
      by_cases h : p.1 = k
      · have h' : e.1 = k := z.1 ▸ h
        simp only [h, h', decide_true]
        exact ⟨fun d hd => by cases hd; exact ⟨_, rfl, z.2.2⟩, fun q => by cases q⟩
      · have h' : ¬ e.1 = k := z.1 ▸ h
        simp only [h, h', decide_false]
        exact ih
  exact e m.2
theorem Mix.put {d : D} {y v : V} (m : Mix K ft ρ H kvs es) (hk : KeyV K H k y) (hd : DV K ft ρ H d v) : Mix K ft ρ H (putM kvs k d) (putE es k y v) := by
  have hh := m.has (k := k)
  unfold putM putE
  rw [hh]
  cases q : hasE es k with
  | true =>
    simp only [if_true]
    refine ⟨?_, ?_⟩
    · have : (es.map fun e => if e.1 = k then (e.1, e.2.1, v) else e).map (·.1) = es.map (·.1) := by
        rw [List.map_map]
        apply List.map_congr_left
        intro e _
        simp only [Function.comp]
        split <;> rfl
      rw [this]
      exact m.1
    · have e : ∀ {kvs : List (MD.MK × D)} {es : EV}, Paired (fun (p : MD.MK × D) (e : MD.MK × V × V) => p.1 = e.1 ∧ KeyV K H e.1 e.2.1 ∧ DV K ft ρ H p.2 e.2.2) kvs es → Paired (fun (p : MD.MK × D) (e : MD.MK × V × V) => p.1 = e.1 ∧ KeyV K H e.1 e.2.1 ∧ DV K ft ρ H p.2 e.2.2) (kvs.map fun p => if p.1 = k then (p.1, d) else p) (es.map fun e => if e.1 = k then (e.1, e.2.1, v) else e) := by
        intro kvs es p
        induction p with
        | nil => exact .nil
        | @cons p e _ _ z t ih =>
          refine .cons ?_ ih
          by_cases h : p.1 = k
          · dsimp only; rw [if_pos h, if_pos (z.1 ▸ h)]; exact ⟨z.1, z.2.1, hd⟩
          · dsimp only; rw [if_neg h, if_neg (z.1 ▸ h)]; exact z
      exact e m.2
  | false =>
    simp only [Bool.false_eq_true, if_false]
    refine ⟨?_, ?_⟩
    · rw [List.map_append, List.nodup_append]
      refine ⟨m.1, by simp, fun a ha b hb z => ?_⟩
      simp at hb
      subst hb; subst z
      obtain ⟨e, he, e1⟩ := List.mem_map.mp ha
      have : hasE es a = true := List.any_eq_true.mpr ⟨e, he, decide_eq_true e1⟩
      rw [this] at q; cases q
    · have e : ∀ {kvs : List (MD.MK × D)} {es : EV}, Paired (fun (p : MD.MK × D) (e : MD.MK × V × V) => p.1 = e.1 ∧ KeyV K H e.1 e.2.1 ∧ DV K ft ρ H p.2 e.2.2) kvs es → Paired (fun (p : MD.MK × D) (e : MD.MK × V × V) => p.1 = e.1 ∧ KeyV K H e.1 e.2.1 ∧ DV K ft ρ H p.2 e.2.2) (kvs ++ [(k, d)]) (es ++ [(k, y, v)]) := by
        intro kvs es p
        induction p with
        | nil => exact .cons ⟨rfl, hk, hd⟩ .nil
        | cons z t ih => exact .cons z ih
      exact e m.2
end
/-! ## in, not in -/
def rMIn (hash : MD.MK → Int) (K : PySem.W.Frag) (neg : Bool) : R2 := fun x y H Q => ∃ a es k, y = .ref a ∧ MRd hash H a es ∧ (es.map (·.1)).Nodup ∧ (∀ e ∈ es, KeyV K H e.1 e.2.1) ∧ KeyV K H k x ∧ Q (.bl (if neg = true then !hasE es k else hasE es k)) H
theorem op_inM {X : Cx} {hash : MD.MK → Int} (hu : X.A.units + 3 < cLine) (hh : hash = MD.MK.hash X.prog X.w) : OpR X (compareOp .In) (rMIn hash X.K false) := by
  intro pins s σ H x y v u Q I rx ry h
  obtain ⟨a, es, k, rfl, e, nd, kv, hk, q⟩ := h
  obtain rfl : u = Value.ref a := ry
  obtain ⟨xs, m, p⟩ := mix_at hh I e nd kv
  refine MD.in_mk (show X.A.units + 1 + 2 < cLine by omega) (key_is I hk rx) m ⟨.bl _, H, I.tok _, ?_, q⟩
  have := (val_ex (k := k) p).isSome_eq
  simp only [Bool.false_eq_true, if_false, hasE_val]
  rw [this]
  rfl
theorem op_notInM {X : Cx} {hash : MD.MK → Int} (hu : X.A.units + 3 < cLine) (hh : hash = MD.MK.hash X.prog X.w) : OpR X (compareOp .NotIn) (rMIn hash X.K true) := by
  intro pins s σ H x y v u Q I rx ry h
  obtain ⟨a, es, k, rfl, e, nd, kv, hk, q⟩ := h
  obtain rfl : u = Value.ref a := ry
  obtain ⟨xs, m, p⟩ := mix_at hh I e nd kv
  refine MD.notIn_mk (show X.A.units + 1 + 2 < cLine by omega) (key_is I hk rx) m ⟨.bl _, H, I.tok _, ?_, q⟩
  have := (val_ex (k := k) p).isSome_eq
  simp only [if_true, hasE_val]
  rw [this]
  rfl
def mixOf (C : Hm) : D → Option (List (MD.MK × D))
  | .cell n => match C[n]? with
    | some (.dix kvs) => some kvs
    | some (.dxl kvs) => some kvs
    | _ => none
  | _ => none
theorem mixOf_ok {F : Fm} {ρ : List Addr} {H : Hp} {C : Hm} {d : D} {v : V} {kvs : List (MD.MK × D)} (R : RelF F ρ H C) (h : DVF F ρ H d v) (e : mixOf C d = some kvs) : ∃ a es, v = .ref a ∧ MRd F.ft.hash H a es ∧ Mix F.K F.ft ρ H kvs es := by
  cases d with
  | cell n =>
    unfold mixOf at e
    simp only at e
    split at e
    · rename_i ks q
      cases e
      obtain ⟨a, es, rfl, _, e1, m⟩ := R.dix q h
      exact ⟨a, es, rfl, .inl e1, m⟩
    · rename_i ks q
      cases e
      obtain ⟨a, es, o, rfl, _, e1, m⟩ := R.dxl q h
      exact ⟨a, es, rfl, .inr ⟨o, e1⟩, m⟩
    · cases e
  | _ => cases e
/-- y in x: a dict with mixed keys, or a list, a tuple -/
def inX (neg : Bool) : OD2 := fun x y C => match mixOf C y with
  | some kvs => (mkOf x).map fun k => (.bl (if neg = true then !hasM kvs k else hasM kvs k), C)
  | none => inD neg x y C
section
variable {F : Fm}
theorem inX_post {neg : Bool} {ρ : List Addr} {C C' : Hm} {H : Hp} {x y d : D} {vx vy : V} {Q : VK} (R : RelF F ρ H C) (hx : DVF F ρ H x vx) (hy : DVF F ρ H y vy) (hm : inX neg x y C = some (d, C')) (k : Post F ρ H d C' Q) : rMIn F.ft.hash F.K neg vx vy H Q ∨ rInS F.K neg vx vy H Q := by
  unfold inX at hm
  split at hm
  · rename_i kvs e
    obtain ⟨kk, e1, e2⟩ := omap hm
    cases e2
    obtain ⟨a, es, rfl, e3, m⟩ := mixOf_ok R hy e
    refine .inl ⟨a, es, kk, rfl, e3, m.1, m.kv, mkOf_ok hx e1, ?_⟩
    rw [← m.has]
    exact k.now R (.bl _)
  · exact .inr (inD_post R hx hy hm k)
theorem Room.u3 {k : Nat} {A : Around} (r : Room k A) : A.units + 3 < cLine := by have := r.un; omega
theorem so_inX (hh : F.ft.hash = MD.MK.hash F.prog F.w) : SOp F (compareOp .In) (inX false) :=
  ⟨_, fun X h => (show OpR X _ (rMIn F.ft.hash F.K false) by rw [← h.K]; exact op_inM (Room.u3 h.rm) (by rw [hh, h.prog, h.w])).or (show OpR X _ (rInS F.K false) by have z := op_inS (X := X) (Room.u64 h.rm); rw [h.K] at z; exact z), fun ρ C H x y vx vy d C' Q R hx hy hm k => inX_post R hx hy hm k⟩
theorem so_notInX (hh : F.ft.hash = MD.MK.hash F.prog F.w) : SOp F (compareOp .NotIn) (inX true) :=
  ⟨_, fun X h => (show OpR X _ (rMIn F.ft.hash F.K true) by rw [← h.K]; exact op_notInM (Room.u3 h.rm) (by rw [hh, h.prog, h.w])).or (show OpR X _ (rInS F.K true) by have z := op_notInS (X := X) (Room.u64 h.rm); rw [h.K] at z; exact z), fun ρ C H x y vx vy d C' Q R hx hy hm k => inX_post R hx hy hm k⟩
end
end Mi
set_option Elab.async false
set_option linter.all false
set_option maxRecDepth 100000
set_option maxHeartbeats 4000000
namespace Mi
open PySem PySem.Spec PyProof.Rows L2
/-! ## a mixed dict is written -/
theorem put_ex {k : MD.MK} {y v : V} {u r : Value} {es : EV} {xs : List MD.Ent} (p : Paired EX es xs) (ry : RelV y u) (rv : RelV v r) : Paired EX (putE es k y v) (MD.setM xs k u r) := by
  have hs : hasE es k = (MD.getM xs k).isSome := by rw [hasE_val]; exact (val_ex (k := k) p).isSome_eq
  unfold putE MD.setM
  rw [hs]
  split
  · rename_i hh
    clear hs hh
    induction p with
    | nil => exact .nil
    | @cons e x _ _ z t ih =>
      refine .cons ?_ ih
      by_cases h : e.1 = k
      · dsimp only; rw [if_pos h, if_pos (z.1 ▸ h)]; exact ⟨z.1, z.2.1, rv⟩
      · dsimp only; rw [if_neg h, if_neg (z.1 ▸ h)]; exact z
  · rename_i hh
    clear hs hh
    induction p with
    | nil => exact .cons ⟨rfl, ry, rv⟩ .nil
    | cons z t ih => exact .cons z ih
theorem len_putE (es : EV) (k : MD.MK) (y v : V) : (putE es k y v).length ≤ es.length + 1 := by
  unfold putE
  split
  · rw [List.length_map]; omega
  · simp
theorem ents_back {P : Program} {w : World} {hash : MD.MK → Int} (hh : hash = MD.MK.hash P w) : ∀ {es : EV} {xs : List MD.Ent}, Paired EX es xs → Paired (fun (e : MD.MK × V × V) (g : DictEntry) => g.hash = hash e.1 ∧ RelV e.2.1 g.key ∧ RelV e.2.2 g.val) es (xs.map (MD.ent P w))
  | _, _, .nil => .nil
  | _, _, .cons z t => .cons ⟨by subst hh; rw [z.1]; rfl, z.2.1, z.2.2⟩ (ents_back hh t)
theorem mix_obj {P : Program} {w : World} {hash : MD.MK → Int} (hh : hash = MD.MK.hash P w) {H' : Hp} {h' : Heap} {a : Addr} {es : EV} {xs : List MD.Ent} (sys : (a == sysModules) = false) (m : MD.MDict P w h' a xs) (p : Paired EX es xs) (hl : es.length ≤ sizeLine) : ObjOk P w H' h' a (mixO hash a es) := by
  obtain ⟨o, arr, ep, h1, h2, h3, h4⟩ := m
  refine ⟨⟨sys, hl, o, arr, ep, h1, h2, h3, ?_⟩, ⟨o, h1⟩, fun g1 g2 q k => ?_⟩
  · rw [h4]; exact ents_back hh p
  · obtain ⟨a1, a2, o', arr', ep', b1, b2⟩ := q
    exact ⟨a1, a2, o', arr', ep', k _ b1, b2⟩
theorem mix_written {X : Cx} {pins : List (Addr × Obj)} {σ : L2.St} {H : Hp} {s : Shared} {a : Addr} {es es' : EV} {hash : MD.MK → Int} {xs' : List MD.Ent} {h' : Heap} {t' : Nat} (I : Inv X pins σ H s) (hh : hash = MD.MK.hash X.prog X.w) (e : H a = some (mixO hash a es)) (sys : (a == sysModules) = false)
    (m : MD.MDict X.prog X.w h' a xs') (sb : Heap.SameBut a s.heap h') (p : Paired EX es' xs') (hl : es'.length ≤ sizeLine) : Inv X pins σ (upd H a (mixO hash a es')) { s with heap := h', toks := t' } :=
  d_write I (by rw [e]; exact True.intro) sb (let ⟨o, _, _, q, _⟩ := m; ⟨o, q⟩) (mix_obj hh sys m p hl)
/-- o[i] = v -/
def rSetX (hash : MD.MK → Int) (K : PySem.W.Frag) : TSet := fun o i v H Q => ∃ a es k, o = .ref a ∧ H a = some (mixO hash a es) ∧ (es.map (·.1)).Nodup ∧ (∀ e ∈ es, KeyV K H e.1 e.2.1) ∧ KeyV K H k i ∧ es.length < sizeLine ∧ Q (upd H a (mixO hash a (putE es k i v)))
theorem set_mixP {X : Cx} {hash : MD.MK → Int} (hu : X.A.units + 3 < cLine) (hh : hash = MD.MK.hash X.prog X.w) : PSet X (rSetX hash X.K) := by
  intro pins s σ H o i v ov iv u Q I ro ri rv h
  obtain ⟨a, es, k, rfl, e, nd, kv, hk, hl, q⟩ := h
  obtain rfl : ov = Value.ref a := ro
  obtain ⟨xs, m, p⟩ := mix_at hh I (.inl e) nd kv
  refine MD.setItem_mk (show X.A.units + 1 + 2 < cLine by omega) (key_is I hk ri) m fun h' m' sb => ?_
  exact ⟨_, mix_written I hh e m.sys m' sb (put_ex p ri rv) (by have := len_putE es k i v; omega), q⟩
theorem pset_or {X : Cx} {t t' : TSet} (h : PSet X t) (h' : PSet X t') : PSet X (fun o i v H Q => t o i v H Q ∨ t' o i v H Q) := by
  intro pins s σ H o i v ov iv u Q I ro ri rv q
  rcases q with q | q
  · exact h pins s σ H o i v ov iv u Q I ro ri rv q
  · exact h' pins s σ H o i v ov iv u Q I ro ri rv q
abbrev OS3 := D → D → D → Hm → Option Hm
def SSet (F : Fm) (f : OS3) : Prop := ∃ t : TSet, (∀ X, F.Is X → PSet X t) ∧ ∀ ρ C H o i d vo vi vd C' (Q : Hp → Prop), RelF F ρ H C → DVF F ρ H o vo → DVF F ρ H i vi → DVF F ρ H d vd → f o i d C = some C' → (∀ H', RelF F ρ H' C' → Stp ρ H ρ H' → Q H') → t vo vi vd H Q
def setX : OS3 := fun o i v C => match o with
  | .cell n => match C[n]? with
    | some (.lst ds) => (match i with | .int k => (ixN ds.length k).map fun j => C.set n (.lst (ds.set j v)) | _ => none)
    | some (.dic kvs) => (keyD i).bind fun k => if kvs.length < sizeLine then some (C.set n (.dic (putD kvs k v))) else none
    | some (.dix kvs) => (mkOf i).bind fun k => if kvs.length < sizeLine then some (C.set n (.dix (putM kvs k v))) else none
    | _ => none
  | _ => none
section
variable {F : Fm}
theorem Room.u2 {k : Nat} {A : Around} (r : Room k A) : A.units + 1 < cLine := by have := r.un; omega
theorem sset_X (hh : F.ft.hash = MD.MK.hash F.prog F.w) : SSet F setX := by
  refine ⟨_, fun X h => pset_or (set_list (X := X)) (pset_or (set_dict (Room.u2 h.rm)) (show PSet X (rSetX F.ft.hash F.K) by rw [← h.K]; exact set_mixP (Room.u3 h.rm) (by rw [hh, h.prog, h.w]))), fun ρ C H o i d vo vi vd C' Q R ho hi hd hm k => ?_⟩
  unfold setX at hm
  split at hm
  · split at hm
    · rename_i n ds q
      split at hm
      · obtain ⟨j, e1, e2⟩ := omap hm
        cases e2
        obtain ⟨p, vs, rfl, ep, e3, e4⟩ := R.lst q ho
        cases hi
        have st := Stp.write (o := .lst (vs.set j vd)) R ep q
        exact .inl ⟨p, vs, _, j, rfl, rfl, e3, by rw [← e4.length]; exact e1, k _ (R.writeL ep q (e4.set hd j)) st⟩
      · cases hm
    · rename_i n kvs q
      obtain ⟨kk, e1, hm⟩ := obind hm
      split at hm
      · rename_i hl
        cases hm
        obtain ⟨p, ws, rfl, ep, e3, e4⟩ := R.dic q ho
        have st := Stp.write (o := .dK (putK ws kk vd)) R ep q
        refine .inr (.inl ⟨p, _, rfl, ?_, k (upd H p (.dK (putK ws kk vd))) (R.write ep q ⟨_, upd_same, ?_⟩) st⟩)
        · rw [keyD_ok hi e1]; exact DPut.k e3 (by rw [← DKs.len e4]; exact hl)
        · exact Paired.mapP (putD_ok e4 hd) fun p q z => ⟨z.1, z.2.mono st⟩
      · cases hm
    · rename_i n kvs q
      obtain ⟨kk, e1, hm⟩ := obind hm
      split at hm
      · rename_i hl
        cases hm
        obtain ⟨p, es, rfl, ep, e3, m⟩ := R.dix q ho
        have st := Stp.write (o := mixO F.ft.hash p (putE es kk vi vd)) R ep q
        refine .inr (.inr ⟨p, es, kk, rfl, e3, m.1, m.kv, mkOf_ok hi e1, by rw [← m.len]; exact hl, k _ (R.write ep q ⟨_, upd_same, ?_⟩) st⟩)
        exact (m.put (mkOf_ok hi e1) hd).monoW st.wk
      · cases hm
    · cases hm
  · cases hm
end
section
variable {F : Fm} {o e value : Expr} {pos pos' : Pos} {mo mi mv : ME}
def mPut (f : OS3) (mv mo mi : ME) : MS := fun E C => (mv E C).bind fun r => (mo E r.2).bind fun p => (mi E p.2).bind fun q => (f p.1 q.1 r.1 q.2).map fun C' => .nx E C'
theorem ss_put {f : OS3} (hs : SSet F f) (ho : SE F o mo) (hi : SE F e mi) (hv : SE F value mv) (hsw : ∀ env : Env, swapsWithSole [.Subscript o e pos'] value pos.line env = pure false := by intro _; rfl) (hw : ∀ env : Env, swappedStores [.Subscript o e pos'] value env = pure none := by intro _; rfl)
    (h1 : ∀ env : Env, (assignEach [.Subscript o e pos'] env).map (·.2) = [assign (.Subscript o e pos') env] := by intro _; rfl)
    (ha : ∀ (X : Cx) (to ti : TE) (t : TSet), PE X o to → PE X e ti → PSet X t → PG X (.Subscript o e pos') (gSub to ti t) := by intro X to ti t a b c; exact pg_sub a b c) : SS F (.Assign [.Subscript o e pos'] value pos) (mPut f mv mo mi) := by
  obtain ⟨t, pt, st⟩ := hs
  obtain ⟨to, po, so⟩ := ho
  obtain ⟨ti, pi, si⟩ := hi
  obtain ⟨tv, pv, sv⟩ := hv
  refine ⟨tAsg tv (gSub to ti t), fun X h => ps_asg (pv X h) (ha X to ti t (po X h) (pi X h) (pt X h)) (hsw _) (hw _) (h1 _), fun ρ C H E σ o Z R eo hm k => ?_⟩
  obtain ⟨⟨r, C0⟩, h0, hm⟩ := obind hm
  obtain ⟨⟨x, C1⟩, h1, hm⟩ := obind hm
  obtain ⟨⟨y, C2⟩, h2, hm⟩ := obind hm
  obtain ⟨C3, h3, hm⟩ := omap hm
  subst hm
  refine sv ρ C H E σ r C0 _ R eo h0 fun ρ0 H0 v0 R0 s0 d0 => ?_
  refine so ρ0 C0 H0 E σ x C1 _ R0 (eo.mono s0) h1 fun ρ1 H1 v1 R1 s1 d1 => ?_
  refine si ρ1 C1 H1 E σ y C2 _ R1 (eo.mono (s0.trans s1)) h2 fun ρ2 H2 v2 R2 s2 d2 => ?_
  refine st ρ2 C2 H2 x y r v1 v2 v0 C3 _ R2 (d1.mono s2) d2 (d0.mono (s1.trans s2)) h3 fun H3 R3 s3 => ?_
  have s := ((s0.trans s1).trans s2).trans s3
  exact k ρ2 H3 σ R3 s (eo.mono s)
/-- o[i] op= v: what stands in a list -/
def rGetL (K : PySem.W.Frag) : V → V → Hp → VK → Prop := fun x y H Q => ∃ p xs i v, x = .ref p ∧ y = .int i ∧ 0 ≤ i ∧ SqL K H p xs ∧ xs[i.toNat]? = some v ∧ Q v H
theorem get_listP {X : Cx} : PGet X (rGetL X.K) := by
  intro pins s σ H o i ov iv Q I ro ri h
  obtain ⟨p, xs, k, v, rfl, rfl, h0, hs, hv, q⟩ := h
  obtain rfl : ov = Value.ref p := ro
  obtain ⟨t, rfl⟩ := ri
  obtain ⟨its, r, pl, hz⟩ := I.list hs
  obtain ⟨w, ew, rw'⟩ := r.get hv
  have hl := r.length
  have hn := line63
  have hi := (List.getElem?_eq_some_iff.mp hv).1
  exact wpAny_getItem_list pl.isList h0 (by omega) (by simpa using ew) ⟨v, H, I, rw', q⟩
def getL0 : OD2 := fun x y C => match x, y with
  | .cell n, .int i => (match C[n]? with
    | some (.lst ds) => if 0 ≤ i then ds[i.toNat]?.map fun d => (d, C) else none
    | _ => none)
  | _, _ => none
def mPutA (g : OD2) (f : OD2) (t : OS3) (mo mi mv : ME) : MS := fun E C => (mo E C).bind fun p => (mi E p.2).bind fun q => (g p.1 q.1 q.2).bind fun r => (mv E r.2).bind fun z => (f r.1 z.1 z.2).bind fun y => (t p.1 q.1 y.1 y.2).map fun C' => .nx E C'
def SGt (F : Fm) (f : OD2) : Prop := ∃ t, (∀ X, F.Is X → PGet X t) ∧ ∀ ρ C H x y vx vy d C' Q, RelF F ρ H C → DVF F ρ H x vx → DVF F ρ H y vy → f x y C = some (d, C') → Post F ρ H d C' Q → t vx vy H Q
theorem sgt_list : SGt F getL0 := by
  refine ⟨rGetL F.K, fun X h => by rw [← h.K]; exact get_listP, fun ρ C H x y vx vy d C' Q R hx hy hm k => ?_⟩
  unfold getL0 at hm
  split at hm
  · split at hm
    · rename_i ds q
      split at hm
      · rename_i h0
        obtain ⟨z, e1, e2⟩ := omap hm
        cases e2
        obtain ⟨p, vs, rfl, ep, e3, e4⟩ := R.lst q hx
        obtain ⟨v, e5, e6⟩ := e4.get e1
        cases hy
        exact ⟨p, vs, _, v, rfl, rfl, h0, SqL.of e3, e5, k.now R e6⟩
      · cases hm
    · cases hm
  · cases hm
theorem ss_putA {op : Operator} {g f : OD2} {t : OS3} (hg : SGt F g) (hf : SIp F op f) (hs : SSet F t) (ho : SE F o mo) (hi : SE F e mi) (hv : SE F value mv)
    (ha : ∀ ov iv new, augStore e ov iv new = (do holding [new, ov, iv] (setItem ov iv new); release [new, ov, iv] []; pure .next) := by intros; rfl) : SS F (.AugAssign (.Subscript o e pos') op value pos) (mPutA g f t mo mi mv) := by
  obtain ⟨tg, pg, sg⟩ := hg
  obtain ⟨tf, pf, sf⟩ := hf
  obtain ⟨ts, ps, ss⟩ := hs
  obtain ⟨to, po, so⟩ := ho
  obtain ⟨ti, pi, si⟩ := hi
  obtain ⟨tv, pv, sv⟩ := hv
  refine ⟨tAugS to ti tv tg tf ts, fun X h => ps_augS (po X h) (pi X h) (pg X h) (pv X h) (pf X h) (ps X h) ha, fun ρ C H E σ o Z R eo hm k => ?_⟩
  obtain ⟨⟨x, C1⟩, h1, hm⟩ := obind hm
  obtain ⟨⟨y, C2⟩, h2, hm⟩ := obind hm
  obtain ⟨⟨z, C3⟩, h3, hm⟩ := obind hm
  obtain ⟨⟨r, C4⟩, h4, hm⟩ := obind hm
  obtain ⟨⟨n, C5⟩, h5, hm⟩ := obind hm
  obtain ⟨C6, h6, hm⟩ := omap hm
  subst hm
  refine so ρ C H E σ x C1 _ R eo h1 fun ρ1 H1 v1 R1 s1 d1 => ?_
  refine si ρ1 C1 H1 E σ y C2 _ R1 (eo.mono s1) h2 fun ρ2 H2 v2 R2 s2 d2 => ?_
  refine sg ρ2 C2 H2 x y v1 v2 z C3 _ R2 (d1.mono s2) d2 h3 fun ρ3 H3 v3 R3 s3 d3 => ?_
  refine sv ρ3 C3 H3 E σ r C4 _ R3 (eo.mono ((s1.trans s2).trans s3)) h4 fun ρ4 H4 v4 R4 s4 d4 => ?_
  refine sf ρ4 C4 H4 z r v3 v4 n C5 _ R4 (d3.mono s4) d4 h5 fun ρ5 H5 v5 R5 s5 d5 => ?_
  have s25 := (s3.trans s4).trans s5
  refine ss ρ5 C5 H5 x y n v1 v2 v5 C6 _ R5 (d1.mono (s2.trans s25)) (d2.mono s25) d5 h6 fun H6 R6 s6 => ?_
  have s := ((s1.trans s2).trans s25).trans s6
  exact k ρ5 H6 σ R6 s (eo.mono s)
end
end Mi
set_option Elab.async false
set_option linter.all false
set_option maxRecDepth 100000
set_option maxHeartbeats 4000000
namespace MD
open PySem PySem.Spec PyProof.Rows L2
section
variable {P : Program} {w : World} {A : Around} {E : Value → Shared → Prop} {s : Shared} {d : Addr} {key v : Value} {k : MK} {xs : List Ent}
theorem sdflt_meets {dflt : Value} (hd : (d == sysModules) = false) : MeetsIn P w (Builtin.«dict.setdefault» ⟨[.ref d, key, dflt], []⟩) (fun A R s => A.in1.units + 2 < cLine ∧ ∃ k xs, MK.is P w s.heap k key ∧ MAt P w s.heap d xs ∧ (∀ p, getM xs k = some p → R (.ok (.ret p)) { s with toks := s.toks + k.draws }) ∧
    (getM xs k = none → ∀ h', MDict P w h' d (setM xs k key dflt) → Heap.SameBut d s.heap h' → R (.ok (.ret dflt)) { s with heap := h', toks := s.toks + k.draws })) :=
  .of_wp fun A R s ⟨hu, k, xs, hkey, m, q1, q2⟩ => by
    unfold Builtin.«dict.setdefault»; refine wpAny_bind ?_
    unfold Builtin.Dict.keyAndDefault; refine wpAny_bind (wpAny_notOrdered_dict m.typeIs ?_)
    show wpAny (model P w) _ (pure (d, key, some dflt)) _ _ s
    refine wpAny_pure ?_
    show wpAny (model P w) _ (if (d == sysModules) = true then _ else (dictSetDefault d key dflt >>= _)) _ _ s
    rw [if_neg (by rw [m.sys]; exact Bool.false_ne_true)]
    exact wpAny_bind (sdflt_mk hu hkey m (fun p hp => wpAny_pure ⟨p, rfl, q1 p hp⟩) fun hn h' m' hs => wpAny_pure ⟨dflt, rfl, q2 hn h' m' hs⟩)
theorem sdflt2_mk {dflt : Value} {Q : Value → Shared → Prop} (hu : A.in1.units + 2 < cLine) (hkey : MK.is P w s.heap k key) (m : MAt P w s.heap d xs) (q1 : ∀ p, getM xs k = some p → Q p { s with toks := s.toks + k.draws })
    (q2 : getM xs k = none → ∀ h', MDict P w h' d (setM xs k key dflt) → Heap.SameBut d s.heap h' → Q dflt { s with heap := h', toks := s.toks + k.draws }) : wpAny (model P w) A (call (.builtin "dict.setdefault") [.ref d, key, dflt]) Q E s :=
  call_meetsIn PySem.F.slot_dict_setdefault m.typeIs PySem.F.entry_dict_setdefault (PySem.F.args_dict_setdefault_3 _ _ _) (sdflt_meets m.sys) ⟨hu, k, xs, hkey, m, q1, q2⟩
end
end MD
namespace Mi
open PySem PySem.Spec PyProof.Rows L2
/-! ## methods of mixed dicts -/
section
variable {X : Cx} {pins : List (Addr × Obj)} {σ : L2.St} {H : Hp} {s : Shared} {a : Addr} {es : EV} {hash : MD.MK → Int}
theorem mixRd_is (I : Inv X pins σ H s) (e : MRd hash H a es) : s.TypeIs (.ref a) "dict" ∧ (∀ b, Value.ref a = .ref b → ∃ ob, s.heap.get? b = some ob ∧ ob.dict = none) ∧ (a == sysModules) = false := by
  have ok : ObjOk X.prog X.w H s.heap a (mixO hash a es) := by
    rcases e with e | ⟨o, e⟩
    · exact I.hok a _ e
    · exact (I.hok a _ e).2
  obtain ⟨⟨hs, hl, o, arr, ep, h1, h2, h3, hp⟩, _⟩ := ok
  exact ⟨⟨o, h1, h2.1⟩, (fun b q => by cases q; exact ⟨o, h1, h2.2.1⟩), hs⟩
variable {o e : Expr} {es' : List Expr} {to : TE} {t : TA} {apos cpos : Pos} {name : Str} {id : String} {r : V → List V → Hp → VK → Prop}
def tBMX (hash : MD.MK → Int) (r : V → List V → Hp → VK → Prop) (to : TE) (t : TA) : TE := fun σ H Q => to σ H fun x H1 => (∃ a es, x = V.ref a ∧ MRd hash H1 a es) ∧ t σ H1 fun xs H2 => r x xs H2 Q
theorem pe_bmX (slot : Slot "dict" name id) (hty : typeOf (.builtin id) = pure (.type "method_descriptor")) (hm : MtR X id r) (ho : PE X o to) (ha : PA X (e :: es') t) (hbase : attributeBase o name X.env (eval o X.env) = eval o X.env)
    (hfew : ((backTo cpos (starEach (e :: es') X.env)).all (fun x => !x.1) && (backToKw cpos (keywordEach [] X.env)).all (fun x => x.1.isSome) && decide ((e :: es').length + ([] : List Keyword).length + (if ([] : List Keyword).isEmpty then 0 else 1) < 30)) = true)
    (hline : (apos.endLine == cpos.line) = true) (hs : starEach (e :: es') X.env = (false, eval e X.env) :: starEach es' X.env) (hplain : (backTo cpos (starEach es' X.env)).any (·.1) = false) : PE X (.Call (.Attribute o name apos) (e :: es') [] cpos) (tBMX hash r to t) := by
  constructor
  intro pins s σ H Q I h
  refine wpAny_Call_method_late hbase hfew hline rfl (thn (ho.run pins s σ H _ I h) fun v s1 ⟨x, H1, I1, r1, ⟨a, es, ex, mr⟩, q1⟩ => ?_)
  subst ex
  obtain rfl : v = Value.ref a := r1
  obtain ⟨t1, t2, _⟩ := mixRd_is I1 mr
  refine ⟨"dict", id, PySem.F.plainAttrs_dict, slot, hty, t1, t2, ?_⟩
  have args := ha.run cpos pins s1 σ H1 _ I1 q1
  rw [hs] at args ⊢
  have none : ((false, eval e X.env) :: starEach es' X.env).any (·.1) = (starEach es' X.env).any (·.1) := rfl
  refine Calls.callWith_builtin ?_ (Calls.evalArgs_plain (thn args fun us s2 ⟨vs, H2, I2, r2, q2⟩ => hm pins s2 σ H2 (.ref a) vs _ us Q I2 rfl r2 q2))
  show (false || (backTo cpos (starEach es' X.env)).any (·.1)) = false
  rw [hplain]; rfl
/-- d.get(y, z) -/
def rGet2 (hash : MD.MK → Int) (K : PySem.W.Frag) : V → List V → Hp → VK → Prop := fun x xs H Q => ∃ a es k y z, x = V.ref a ∧ xs = [y, z] ∧ MRd hash H a es ∧ (es.map (·.1)).Nodup ∧ (∀ e ∈ es, KeyV K H e.1 e.2.1) ∧ KeyV K H k y ∧ Q ((valE es k).getD z) H
theorem mt_get2 (hu : X.A.units + 3 < cLine) (hh : hash = MD.MK.hash X.prog X.w) : MtR X "dict.get" (rGet2 hash X.K) := by
  intro pins s σ H x xs v us Q I rx rxs h
  obtain ⟨a, es, k, y, z, rfl, rfl, e, nd, kv, hk, q⟩ := h
  obtain rfl : v = Value.ref a := rx
  obtain ⟨u1, u2, rfl, r1, r2⟩ := rxs.two
  obtain ⟨xs, m, p⟩ := mix_at hh I e nd kv
  exact MD.get2_mk (show X.A.units + 1 + 2 < cLine by omega) (key_is I hk r1) m ⟨_, H, I.tok _, (val_ex (k := k) p).getD r2, q⟩
/-- d.setdefault(y, z) -/
def rSdf (hash : MD.MK → Int) (K : PySem.W.Frag) : V → List V → Hp → VK → Prop := fun x xs H Q => ∃ a es k y z, x = V.ref a ∧ xs = [y, z] ∧ H a = some (mixO hash a es) ∧ (es.map (·.1)).Nodup ∧ (∀ e ∈ es, KeyV K H e.1 e.2.1) ∧ KeyV K H k y ∧ es.length < sizeLine ∧
  (∀ p, valE es k = some p → Q p H) ∧ (valE es k = none → Q z (upd H a (mixO hash a (putE es k y z))))
theorem mt_sdf (hu : X.A.units + 3 < cLine) (hh : hash = MD.MK.hash X.prog X.w) : MtR X "dict.setdefault" (rSdf hash X.K) := by
  intro pins s σ H x xs v us Q I rx rxs h
  obtain ⟨a, es, k, y, z, rfl, rfl, e, nd, kv, hk, hl, q1, q2⟩ := h
  obtain rfl : v = Value.ref a := rx
  obtain ⟨u1, u2, rfl, r1, r2⟩ := rxs.two
  obtain ⟨xs, m, p⟩ := mix_at hh I (.inl e) nd kv
  have rel := val_ex (k := k) p
  refine MD.sdflt2_mk (show X.A.units + 1 + 2 < cLine by omega) (key_is I hk r1) m (fun w hw => ?_) fun hn h' m' sb => ?_
  · rw [hw] at rel
    cases hv : valE es k with
    | none => rw [hv] at rel; exact rel.elim
    | some y' => rw [hv] at rel; exact ⟨y', H, I.tok _, rel, q1 y' hv⟩
  · rw [hn] at rel
    have hv : valE es k = none := by
      cases hv : valE es k with
      | none => rfl
      | some y' => rw [hv] at rel; exact rel.elim
    exact ⟨z, _, mix_written I hh e m.sys m' sb (put_ex p r1 r2) (by have := len_putE es k y z; omega), r2, q2 hv⟩
end
def SMtX (F : Fm) (id : String) (op : ODM) : Prop := ∃ r, (∀ X, F.Is X → MtR X id r) ∧
  (∀ ρ C H x xs vx vs d C' Q, RelF F ρ H C → DVF F ρ H x vx → DVsF F ρ H xs vs → op x xs C = some (d, C') → Post F ρ H d C' Q → r vx vs H Q)
def mMethX (op : ODM) (mo : ME) (ml : MA) : ME := fun E C => (mo E C).bind fun p => if (mixOf p.2 p.1).isSome = true then (ml E p.2).bind fun q => op p.1 q.1 q.2 else none
section
variable {F : Fm} {o e : Expr} {es : List Expr} {apos pos : Pos} {name : Str} {id : String} {op : ODM} {mo : ME} {ml : MA}
theorem se_bmX (slot : Slot "dict" name id) (hty : typeOf (.builtin id) = pure (.type "method_descriptor")) (hmt : SMtX F id op) (ho : SE F o mo) (ha : SA F (e :: es) ml)
    (hbase : ∀ env : Env, attributeBase o name env (eval o env) = eval o env := by intro _; rfl)
    (hfew : ∀ env : Env, ((backTo pos (starEach (e :: es) env)).all (fun x => !x.1) && (backToKw pos (keywordEach [] env)).all (fun x => x.1.isSome) && decide ((e :: es).length + ([] : List Keyword).length + (if ([] : List Keyword).isEmpty then 0 else 1) < 30)) = true := by intro _; rfl)
    (hline : (apos.endLine == pos.line) = true := by rfl) (hs : ∀ env : Env, starEach (e :: es) env = (false, eval e env) :: starEach es env := by intro _; rfl) (hplain : ∀ env : Env, (backTo pos (starEach es env)).any (·.1) = false := by intro _; rfl) :
    SE F (.Call (.Attribute o name apos) (e :: es) [] pos) (mMethX op mo ml) := by
  obtain ⟨r, hr, sr⟩ := hmt
  obtain ⟨to, po, so⟩ := ho
  obtain ⟨tl, pl, sl⟩ := ha
  refine ⟨tBMX F.ft.hash r to tl, fun X h => pe_bmX slot hty (hr X h) (po X h) (pl X h) (hbase _) (hfew _) hline (hs _) (hplain _), fun ρ C H E σ d C' Q R eo hm k => ?_⟩
  obtain ⟨⟨x, C1⟩, h1, hm⟩ := obind hm
  simp only at hm
  split at hm
  · rename_i hx
    obtain ⟨⟨ys, C2⟩, h2, hm⟩ := obind hm
    refine so ρ C H E σ x C1 _ R eo h1 fun ρ1 H1 v1 R1 s1 d1 => ⟨?_, ?_⟩
    · obtain ⟨kvs, e1⟩ := Option.isSome_iff_exists.mp hx
      obtain ⟨a, es, ev, mr, _⟩ := mixOf_ok R1 d1 e1
      exact ⟨a, es, ev, mr⟩
    · refine sl ρ1 C1 H1 E σ ys C2 _ R1 (eo.mono s1) h2 fun ρ2 H2 v2 R2 s2 d2 => ?_
      exact sr ρ2 C2 H2 x ys v1 v2 d C' Q R2 (d1.mono s2) d2 hm (k.step (s1.trans s2))
  · cases hm
def get2D : ODM := fun x xs C => match xs with
  | [y, z] => (mixOf C x).bind fun kvs => (mkOf y).map fun k => ((valM kvs k).getD z, C)
  | _ => none
theorem smx_get2 (hh : F.ft.hash = MD.MK.hash F.prog F.w) : SMtX F "dict.get" get2D := by
  refine ⟨rGet2 F.ft.hash F.K, fun X h => by rw [← h.K]; exact mt_get2 (Room.u3 h.rm) (by rw [hh, h.prog, h.w]), fun ρ C H x xs vx vs d C' Q R hx hxs hm k => ?_⟩
  unfold get2D at hm
  split at hm
  · rename_i y z
    obtain ⟨kvs, e1, hm⟩ := obind hm
    obtain ⟨kk, e2, e3⟩ := omap hm
    cases e3
    obtain ⟨a, es, rfl, mr, m⟩ := mixOf_ok R hx e1
    cases hxs with | cons h1 h2 => cases h2 with | cons h3 h4 =>
      cases h4
      refine ⟨a, es, kk, _, _, rfl, rfl, mr, m.1, m.kv, mkOf_ok h1 e2, ?_⟩
      have mv := m.val (k := kk)
      cases q : valM kvs kk with
      | none => rw [mv.2 q]; rw [q] at k; exact k.now R h3
      | some w =>
        obtain ⟨v, e4, e5⟩ := mv.1 w q
        rw [e4]; rw [q] at k; exact k.now R e5
  · cases hm
def sdfD : ODM := fun x xs C => match x, xs with
  | .cell n, [y, z] => (match C[n]? with
    | some (.dix kvs) => (mkOf y).bind fun k => if kvs.length < sizeLine then (match valM kvs k with
      | some d => some (d, C)
      | none => some (z, C.set n (.dix (putM kvs k z)))) else none
    | _ => none)
  | _, _ => none
theorem smx_sdf (hh : F.ft.hash = MD.MK.hash F.prog F.w) : SMtX F "dict.setdefault" sdfD := by
  refine ⟨rSdf F.ft.hash F.K, fun X h => by rw [← h.K]; exact mt_sdf (Room.u3 h.rm) (by rw [hh, h.prog, h.w]), fun ρ C H x xs vx vs d C' Q R hx hxs hm k => ?_⟩
  unfold sdfD at hm
  split at hm
  · rename_i n y z
    split at hm
    · rename_i kvs q
      obtain ⟨kk, e2, hm⟩ := obind hm
      split at hm
      · rename_i hl
        obtain ⟨p, es, rfl, ep, e3, m⟩ := R.dix q hx
        have mv := m.val (k := kk)
        cases hxs with | cons h1 h2 => cases h2 with | cons h3 h4 =>
          cases h4
          rename_i v1 v3
          refine ⟨p, es, kk, _, _, rfl, rfl, e3, m.1, m.kv, mkOf_ok h1 e2, by rw [← m.len]; exact hl, fun w hw => ?_, fun hn => ?_⟩
          · split at hm
            · rename_i d0 qv
              cases hm
              obtain ⟨v, e4, e5⟩ := mv.1 _ qv
              rw [hw] at e4; cases e4
              exact k.now R e5
            · rename_i qv
              rw [mv.2 qv] at hw; cases hw
          · split at hm
            · rename_i d0 qv
              obtain ⟨v, e4, e5⟩ := mv.1 _ qv
              rw [hn] at e4; cases e4
            · cases hm
              have st := Stp.write (o := mixO F.ft.hash p (putE es kk v1 v3)) R ep q
              exact k ρ _ _ (R.write ep q ⟨_, upd_same, (m.put (mkOf_ok h1 e2) h3).monoW st.wk⟩) st (h3.mono st)
      · cases hm
    · cases hm
  · cases hm
end
/-! ## {} -/
theorem mixO_empty {P : Program} {w : World} {H : Hp} {hash : MD.MK → Int} (h : Heap) (hb : sysModules < h.objs.size) : ObjOk P w H (h.push { cls := .type "dict", data := .dict #[] }) h.objs.size (mixO hash h.objs.size []) :=
  ⟨⟨beq_eq_false_iff_ne.mpr (Ne.symm (Nat.ne_of_lt hb)), Nat.zero_le _, _, #[], 0, Heap.get?_push_size _ rfl, ⟨rfl, rfl, rfl⟩, rfl, .nil⟩, ⟨_, Heap.get?_push_size _ rfl⟩, fun g1 g2 q k => let ⟨a1, a2, o', arr', ep', b1, b2⟩ := q; ⟨a1, a2, o', arr', ep', k _ b1, b2⟩⟩
def tNewX (hash : MD.MK → Int) : TE := fun _ H Q => ∀ p, H p = none → Q (.ref p) (upd H p (mixO hash p []))
theorem pe_newX {X : Cx} {hash : MD.MK → Int} {pos : Pos} : PE X (.Dict [] [] pos) (tNewX hash) := by
  constructor
  intro pins s σ H Q I h
  exact wpAny_Dict_empty ⟨.ref s.heap.objs.size, _, I.laid (a := s.heap.objs.size) (o := mixO hash s.heap.objs.size []) (t' := s.toks) (fun _ _ q => Heap.get?_push_of_some _ q) (Nat.le_refl _) (mixO_empty s.heap I.big), rfl, h _ (I.hok.fresh (Nat.le_refl _))⟩
theorem mix_nil {K : PySem.W.Frag} {ft : Cfg} {ρ : List Addr} {H : Hp} : Mix K ft ρ H [] [] := ⟨by simp, .nil⟩
theorem Rel.newX {K : PySem.W.Frag} {ft : Cfg} {ρ : List Addr} {H : Hp} {C : Hm} (R : Rel K ft ρ H C) {p : Addr} (hp : H p = none) : Rel K ft (ρ ++ [p]) (upd H p (mixO ft.hash p [])) (C ++ [.dix []]) :=
  (R.fresh hp).push (R.out hp) ⟨[], upd_same, mix_nil⟩
def mNewX : ME := fun _ C => some (.cell C.length, C ++ [.dix []])
theorem se_newX {F : Fm} {pos : Pos} : SE F (.Dict [] [] pos) mNewX :=
  ⟨tNewX F.ft.hash, fun X h => pe_newX, fun ρ C H E σ d C' Q R eo hm k => by cases hm; exact fun p hp => k _ _ _ (R.newX hp) (Stp.push hp) (DV.new R)⟩
end Mi
set_option Elab.async false
set_option linter.all false
set_option maxRecDepth 100000
set_option maxHeartbeats 4000000
namespace Mi
open PySem PySem.Spec PyProof.Rows L2
/-! ## a locked mixed dict is walked -/
def Itx (hash : MD.MK → Int) (a : Addr) (o : Obj) (es : EV) : It :=
  ⟨fun i H => H a = some (.frz o (mixO hash a es)) ∧ i < es.length, fun i H x H' => H' = H ∧ ∃ e, es[i]? = some e ∧ x = e.2.1, fun i H => H a = some (.frz o (mixO hash a es)) ∧ es.length ≤ i⟩
theorem frz_mix {X : Cx} {pins : List (Addr × Obj)} {σ : L2.St} {H : Hp} {s : Shared} {a : Addr} {es : EV} {hash : MD.MK → Int} {o : Obj} (I : Inv X pins σ H s) (h : H a = some (.frz o (mixO hash a es))) :
    (a == sysModules) = false ∧ es.length ≤ sizeLine ∧ s.heap.get? a = some o ∧ o.ExactDict ∧ ∃ (arr : Array DictEntry) (ep : Nat), o.data = .dict arr ep ∧ arr.size = es.length ∧ ∀ (i : Nat) (e : MD.MK × V × V), es[i]? = some e → ∃ g : DictEntry, arr[i]? = some g ∧ RelV e.2.1 g.key := by
  obtain ⟨h0, ⟨hs, hl, o', arr, ep, h1, h2, h3, hp⟩, _⟩ := I.hok a _ h
  rw [h0] at h1
  cases h1
  refine ⟨hs, hl, h0, h2, arr, ep, h3, ?_, fun i e he => ?_⟩
  · rw [← Array.length_toList]; exact (Paired.length hp).symm
  · obtain ⟨g, e1, e2⟩ := paired_get hp he
    exact ⟨g, by rw [← Array.getElem?_toList]; exact e1, e2.2.1⟩
section
variable {P : Program} {w : World} {K : PySem.W.Frag} {tg : Expr} {a : Addr} {o : Obj} {arr : Array DictEntry} {ep : Nat} {hash : MD.MK → Int} {es : EV}
theorem turn_mix (it : Addr) (hod : o.data = .dict arr ep) (hn : arr.size = es.length) : Turn P w K tg (Itx hash a o es) [it] it (fun i h => h.IsKeyIter it a i es.length ep) := by
  refine ⟨by simp, fun i h st b hb => ?_, fun i h h' st k => st.at fun ob q => k it (by simp) ob q, ?_, ?_, fun A i s Q E st q => wpAny_pyIter_keyiter st q⟩
  · obtain rfl : b = it := by simpa using hb
    obtain ⟨ob, e, _, dd⟩ := st
    exact ⟨ob, e, fun v z => by rw [dd] at z; cases z⟩
  · intro X hP hw hK hc i pins s σ H E I hf st hg
    subst hP hw hK
    obtain ⟨hd, hi⟩ := hg
    have own := hf it (by simp)
    obtain ⟨_, _, hget, _, arr', ep', hdt, _, at_⟩ := frz_mix I hd
    rw [hod] at hdt
    cases hdt
    obtain ⟨g, e1, e2⟩ := at_ i es[i] (List.getElem?_eq_getElem hi)
    refine next_key_item st hget hod hn e1 fun h' st' sb => ⟨g.key, rfl, ?_⟩
    obtain ⟨ob, q1, q2, q3⟩ := id st'
    refine go_of (s := { s with heap := h' }) q1 q2 q3 (by decide) ⟨es[i].2.1, H, ?_, e2, ⟨rfl, es[i], List.getElem?_eq_getElem hi, rfl⟩, st', fun b hb => (hf b hb).1⟩
    exact I.turned (t' := s.toks) (fun b ob hb q => (sb.2 b hb).trans q) own.1 own.2.1 own.2.2.2.1 own.2.2.2.2.1 own.2.2.2.2.2
  · intro X hP hw hK hc i pins s σ H E I hf st hg
    subst hP hw hK
    obtain ⟨hd, hi⟩ := hg
    have own := hf it (by simp)
    obtain ⟨_, _, hget, _, arr', ep', hdt, _, _⟩ := frz_mix I hd
    rw [hod] at hdt
    cases hdt
    exact next_key_end (I.ok.hd hc) st hget hod hn hi fun h' eb => ⟨rfl, I.turned (t' := s.toks) (fun b ob hb q => eb b ob hb q) own.1 own.2.1 own.2.2.2.1 own.2.2.2.2.1 own.2.2.2.2.2⟩
end
def iAnyXR (hash : MD.MK → Int) (K : PySem.W.Frag) (tl : TE) : TI := fun σ H R => tl σ H fun x H1 => (∃ a, x = V.ref a ∧ (∃ xs, SqT K H1 a xs) ∧ R (Itt K a) H1) ∨ (∃ a, x = V.ref a ∧ (∃ xs, SqL K H1 a xs) ∧ R (Itl K a) H1) ∨ (∃ z, x = .str z ∧ R (Its z) H1) ∨
  ∃ a o es, x = V.ref a ∧ H1 a = some (.frz o (mixO hash a es)) ∧ R (Itx hash a o es) H1
theorem pi_anyX {X : Cx} {tg l : Expr} {tl : TE} {hash : MD.MK → Int} (hl : PE X l tl) : PI X tg l (iAnyXR hash X.K tl) := by
  constructor
  intro pins s σ H R I h
  refine thn (hl.run pins s σ H _ I h) fun v s1 hv => ?_
  obtain ⟨x, H1, I1, r1, q1⟩ := hv
  have more : ∀ (o : Obj), Inv X pins σ H1 { s1 with heap := s1.heap.push o } := fun o => I1.kept (t' := s1.toks) fun b u e => Heap.get?_push_of_some _ e
  have ours : ∀ b ∈ [s1.heap.objs.size], FpOk X pins H1 b := fun b hb => by
    obtain rfl : b = s1.heap.objs.size := by simpa using hb
    exact I1.fpOk (Nat.le_refl _) I1.fresh
  rcases q1 with ⟨a, rfl, ⟨xs, hq⟩, q⟩ | ⟨a, rfl, ⟨xs, hq⟩, q⟩ | ⟨z, rfl, q⟩ | ⟨a, o, es, rfl, hq, q⟩
  · obtain rfl : v = Value.ref a := r1
    obtain ⟨its, rv, p, hz⟩ := I1.tuple hq
    exact wpAny_pyIter_tuple (show s1.heap.IsTuple a its.toArray from p) ⟨_, [s1.heap.objs.size], _, _, H1, rfl, more _, turn_tuple a _, ⟨_, Heap.get?_push_size _ rfl, rfl, rfl⟩, ours, q⟩
  · obtain rfl : v = Value.ref a := r1
    obtain ⟨its, rv, p, hz⟩ := I1.list hq
    exact wpAny_pyIter_list p.isList ⟨_, [s1.heap.objs.size], _, _, H1, rfl, more _, turn_list a _, ⟨_, Heap.get?_push_size _ rfl, rfl, rfl⟩, ours, q⟩
  · obtain ⟨t, rfl⟩ := (show ∃ t, v = Value.str z t from r1)
    by_cases small : z.cps.all (· < 128) = true
    · exact wpAny_pyIter_ascii small (pi_one (tk := s1.toks) I1 _ (turn_str _ z t _ (.inl rfl)) ⟨_, Heap.get?_push_size _ rfl, rfl, rfl⟩ q)
    · exact wpAny_pyIter_wide (by simpa using small) (pi_one (tk := s1.toks) I1 _ (turn_str _ z t _ (.inr rfl)) ⟨_, Heap.get?_push_size _ rfl, rfl, rfl⟩ q)
  · obtain rfl : v = Value.ref a := r1
    obtain ⟨sys, _, hget, hx, arr, ep, hdt, hn, _⟩ := frz_mix I1 hq
    refine iter_keys sys hget hx hdt (pi_one (tk := s1.toks) I1 _ (turn_mix _ hdt hn) ?_ q)
    refine ⟨_, Heap.get?_push_size _ rfl, rfl, ?_⟩
    rw [← hn]; rfl
def iAnyDX (d : D) (C : Hm) : Option (Itm × Nat × Hm) := match d with
  | .cell n => match C[n]? with
    | some (.lst ds) => some (.live n, ds.length, C)
    | some (.dxl kvs) => some (.seq (kvs.map fun p => mkD p.1), kvs.length, C)
    | _ => none
  | d => iAnyD d C
def mIAnyX (m : ME) : MI := fun E C => (m E C).bind fun p => iAnyDX p.1 p.2
section
variable {F : Fm} {tg iter : Expr} {me : ME}
theorem Mix.at_ {K : PySem.W.Frag} {ft : Cfg} {ρ : List Addr} {H : Hp} {kvs : List (MD.MK × D)} {es : EV} (m : Mix K ft ρ H kvs es) (i : Nat) : (kvs.map fun p => mkD p.1)[i]? = es[i]?.map fun e => mkD e.1 := by
  have h := m.keys
  have : (kvs.map fun p => mkD p.1) = es.map fun e => mkD e.1 := by
    have e1 : (kvs.map fun p => mkD p.1) = (kvs.map (·.1)).map mkD := by rw [List.map_map]; rfl
    have e2 : (es.map fun e => mkD e.1) = (es.map (·.1)).map mkD := by rw [List.map_map]; rfl
    rw [e1, e2, h]
  rw [this, List.getElem?_map]
theorem itOk_mix {ρ : List Addr} {H : Hp} {a : Addr} {o : Obj} {es : EV} {kvs : List (MD.MK × D)} (hq : H a = some (.frz o (mixO F.ft.hash a es))) (m : Mix F.K F.ft ρ H kvs es) : ItOk F ρ H (.seq (kvs.map fun p => mkD p.1)) (Itx F.ft.hash a o es) := by
  intro ρ1 H1 C1 R1 s1 i r hr
  simp only [Itm.at, Option.some.injEq] at hr
  rw [m.at_] at hr
  have h1 := s1.frzs _ _ _ hq
  cases q : es[i]? with
  | none =>
    rw [q] at hr
    subst hr
    exact ⟨h1, List.getElem?_eq_none_iff.mp q⟩
  | some e =>
    rw [q] at hr
    subst hr
    refine ⟨⟨h1, (List.getElem?_eq_some_iff.mp q).1⟩, fun w H' hy => ?_⟩
    obtain ⟨rfl, e', q', rfl⟩ := hy
    rw [q] at q'
    cases q'
    exact ⟨R1, .refl, keyV_dv ((m.kv e (List.mem_of_getElem? q)).monoW s1)⟩
theorem si_anyX (hl : SE F iter me) : SI F tg iter (mIAnyX me) := by
  obtain ⟨t, q, s⟩ := hl
  refine ⟨iAnyXR F.ft.hash F.K t, fun X h => by rw [← h.K]; exact pi_anyX (q X h), fun ρ C H E σ it n C' R R0 eo hm k => ?_⟩
  obtain ⟨⟨x, C1⟩, h1, hm⟩ := obind hm
  refine s ρ C H E σ x C1 _ R0 eo h1 fun ρ1 H1 v1 R1 s1 d1 => ?_
  simp only at hm
  unfold iAnyDX at hm
  split at hm
  · split at hm
    · rename_i n1 ds qc
      cases hm
      obtain ⟨a, vs, rfl, ea, e3, e4⟩ := R1.lst qc d1
      exact .inr (.inl ⟨a, rfl, ⟨vs, SqL.of e3⟩, k ρ1 H1 _ R1 s1 (itOk_live ea)⟩)
    · rename_i n1 kvs qc
      cases hm
      obtain ⟨a, es, o, rfl, ea, e3, m⟩ := R1.dxl qc d1
      exact .inr (.inr (.inr ⟨a, o, es, rfl, e3, k ρ1 H1 _ R1 s1 (itOk_mix e3 m)⟩))
    · cases hm
  · unfold iAnyD at hm
    split at hm
    · cases hm
      cases d1 with
      | tup hs hd => exact .inl ⟨_, rfl, ⟨_, hs⟩, k ρ1 H1 _ R1 s1 (itOk_tup hs hd fun _ _ _ _ _ => trivial)⟩
    · cases hm
      cases d1
      exact .inr (.inr (.inl ⟨_, rfl, k ρ1 H1 _ R1 s1 itOk_str⟩))
    · rename_i n1 hno
      exact absurd rfl (hno n1)
    · cases hm
      cases d1 with
      | rol h => exact .inr (.inl ⟨_, rfl, ⟨_, h.1⟩, k ρ1 H1 _ R1 s1 (itOk_rol h)⟩)
    · cases hm
end
/-! ## the lock -/
structure Wk2 (K : PySem.W.Frag) (ρ : List Addr) (H : Hp) (ρ' : List Addr) (H' : Hp) : Prop where
  get : ∀ {n : Nat} {a : Addr}, ρ[n]? = some a → ρ'[n]? = some a
  sqT : ∀ {a : Addr} {xs : List V}, SqT K H a xs → SqT K H' a xs
  sqR : ∀ {a : Addr} {xs : List V}, SqR K H a xs → SqR K H' a xs
section
variable {K : PySem.W.Frag} {ft : Cfg} {ρ ρ' : List Addr} {H H' : Hp}
mutual
theorem DV.mono2 (s : Wk2 K ρ H ρ' H') : ∀ {d : D} {v : V}, DV K ft ρ H d v → DV K ft ρ' H' d v
  | _, _, .non => .non
  | _, _, .bl b => .bl b
  | _, _, .int i => .int i
  | _, _, .str x => .str x
  | _, _, .tup h r => .tup (s.sqT h) (DVs.mono2 s r)
  | _, _, .cell h => .cell (s.get h)
  | _, _, .fn n => .fn n
  | _, _, .rol h => .rol (s.sqR h)
  | _, _, .ty t => .ty t
theorem DVs.mono2 (s : Wk2 K ρ H ρ' H') : ∀ {ds : List D} {vs : List V}, DVs K ft ρ H ds vs → DVs K ft ρ' H' ds vs
  | _, _, .nil => .nil
  | _, _, .cons h t => .cons (DV.mono2 s h) (DVs.mono2 s t)
end
theorem KeyV.mono2 {k : MD.MK} {v : V} (w : Wk2 K ρ H ρ' H') (h : KeyV K H k v) : KeyV K H' k v := by
  cases k with
  | i n => exact h
  | t ks => obtain ⟨ok, b, e, q⟩ := h; exact ⟨ok, b, e, w.sqT q⟩
theorem Mix.mono2 {kvs : List (MD.MK × D)} {es : EV} (w : Wk2 K ρ H ρ' H') (h : Mix K ft ρ H kvs es) : Mix K ft ρ' H' kvs es := ⟨h.1, Paired.mapP h.2 fun p e z => ⟨z.1, z.2.1.mono2 w, DV.mono2 w z.2.2⟩⟩
theorem COk.mono2 {a : Addr} {c : Cell} (s : Wk2 K ρ H ρ' H') (h : H' a = H a) (k : COk K ft ρ H a c) : COk K ft ρ' H' a c := by
  cases c with
  | lst ds => obtain ⟨vs, q, r⟩ := k; exact ⟨vs, h.trans q, DVs.mono2 s r⟩
  | dic ks => obtain ⟨vs, q, r⟩ := k; exact ⟨vs, h.trans q, Paired.mapP r fun p q z => ⟨z.1, DV.mono2 s z.2⟩⟩
  | dix ks => obtain ⟨es, q, r⟩ := k; exact ⟨es, h.trans q, r.mono2 s⟩
  | dxl ks => obtain ⟨es, o, q, r⟩ := k; exact ⟨es, o, h.trans q, r.mono2 s⟩
/-- a lock goes -/
theorem Wk2.unlock {a : Addr} {od : Obj} {hash : MD.MK → Int} {es : EV} {u : HO} (h : H a = some (.frz od (mixO hash a es))) : Wk2 K ρ H ρ (upd H a u) := by
  refine ⟨fun h => h, fun {b xs} q => ?_, fun {b xs} q => ?_⟩
  · rcases q with (q | ⟨o, q⟩) | q
    · exact .inl (.inl (by rw [upd_ne (show b ≠ a from fun z => by rw [z, h] at q; cases q)]; exact q))
    · refine .inl (.inr ⟨o, ?_⟩)
      rw [upd_ne (show b ≠ a from fun z => by rw [z, h] at q; cases q)]; exact q
    · exact .inr q
  · have go : ∀ H3 : Hp, (∀ b o u', upd H a u b = some (.frz o u') → H3 b = some (.frz o u')) → SqL K H3 b xs := fun H3 k3 => by
      have q4 := q.2 (upd H3 a (.frz od (mixO hash a es))) fun c o u' e => by
        by_cases hc : c = a
        · subst hc; rw [h] at e; cases e; exact upd_same
        · rw [upd_ne hc]; exact k3 c o u' (by rw [upd_ne hc]; exact e)
      rcases q4 with (q4 | ⟨o, q4⟩) | q4
      · have hb : b ≠ a := fun z => by rw [z, upd_same] at q4; cases q4
        rw [upd_ne hb] at q4; exact .inl (.inl q4)
      · have hb : b ≠ a := fun z => by rw [z, upd_same] at q4; cases q4
        rw [upd_ne hb] at q4; exact .inl (.inr ⟨o, q4⟩)
      · exact .inr q4
    refine ⟨?_, go⟩
    rcases q.1 with (q | ⟨o, q⟩) | q
    · exact .inl (.inl (by rw [upd_ne (show b ≠ a from fun z => by rw [z, h] at q; cases q)]; exact q))
    · refine .inl (.inr ⟨o, ?_⟩)
      rw [upd_ne (show b ≠ a from fun z => by rw [z, h] at q; cases q)]; exact q
    · exact .inr q
end
def mLock (i : Nat) (m : ME) : ME := fun E C => match E[i]? with
  | some (some (.cell n)) => (match C[n]? with
    | some (.dix kvs) => (m E (C.set n (.dxl kvs))).bind fun q => (match q.2[n]? with
      | some (.dxl kvs') => some (q.1, q.2.set n (.dix kvs'))
      | _ => none)
    | _ => none)
  | _ => none
section
variable {F : Fm} {e : Expr} {m : ME}
theorem se_lock (i : Nat) (he : SE F e m) : SE F e (mLock i m) := by
  obtain ⟨t, p, ev⟩ := he
  refine ⟨tLockE t, fun X h => pe_lock (p X h), fun ρ C H E σ d C' Q R eo hm k => ?_⟩
  unfold mLock at hm
  split at hm
  · rename_i n qe
    split at hm
    · rename_i kvs qc
      obtain ⟨⟨d1, C1⟩, h1, hm⟩ := obind hm
      simp only at hm
      split at hm
      · rename_i kvs' qc'
        cases hm
        obtain ⟨v, qσ, dv⟩ := eo.at_ i _ qe
        obtain ⟨a, es, rfl, ea, e3, mx⟩ := R.dix qc dv
        refine ⟨a, _, e3, True.intro, fun od => ?_⟩
        have st := Stp.write (o := HO.frz od (mixO F.ft.hash a es)) R ea qc
        have R0 : RelF F ρ (upd H a (.frz od (mixO F.ft.hash a es))) (C.set n (.dxl kvs)) := R.write ea qc ⟨es, od, upd_same, mx.monoW st.wk⟩
        refine ev ρ _ _ E σ _ C1 _ R0 (eo.mono st) h1 fun ρ1 H1 v1 R1 s1 d2 => ?_
        have hf : H1 a = some (.frz od (mixO F.ft.hash a es)) := s1.frzs _ _ _ upd_same
        refine ⟨hf, ?_⟩
        obtain ⟨a', es', o', e', ea', e4, mx'⟩ := R1.dxl qc' (.cell (s1.get ea))
        cases e'
        have w2 : Wk2 F.K ρ1 H1 ρ1 (upd H1 a (mixO F.ft.hash a es)) := Wk2.unlock hf
        have eu : mixO F.ft.hash a es = mixO F.ft.hash a es' := (HO.frz.inj (Option.some.inj (hf.symm.trans e4))).2
        have R2 : RelF F ρ1 (upd H1 a (mixO F.ft.hash a es)) (C1.set n (.dix kvs')) := by
          refine ⟨by simp [R1.len], R1.nd, fun j c e => ?_⟩
          by_cases hj : j = n
          · subst hj
            have : j < C1.length := (List.getElem?_eq_some_iff.mp qc').1
            rw [List.getElem?_set_self this] at e
            cases e
            exact ⟨a, ea', es', by rw [upd_same, eu], mx'.mono2 w2⟩
          · rw [List.getElem?_set_ne (Ne.symm hj)] at e
            obtain ⟨b, hb, q⟩ := R1.ok j c e
            refine ⟨b, hb, q.mono2 w2 (upd_ne fun z => hj ?_)⟩
            subst z
            exact nodup_at R1.nd hb ea'
        have hao : a ∈ ρ := List.mem_of_getElem? ea
        have s := st.trans s1
        have nofr : ∀ {b o u}, H b = some (.frz o u) → b ≠ a := fun {b o u} q z => by rw [z, e3] at q; cases q
        have notp : ∀ {b xs}, H b = some (.tup xs) → b ≠ a := fun {b xs} q z => by rw [z, e3] at q; cases q
        refine k ρ1 _ v1 R2 ⟨s.pre, fun b o q hb => ?_, fun b o q => ?_, fun b xs q => ?_, fun b o u q => ?_⟩ (DV.mono2 w2 d2)
        · rw [upd_ne (show b ≠ a from fun z => hb (by rw [z]; exact hao))]; exact s.keep b o q hb
        · by_cases hb : b = a
          · subst hb; exact ⟨_, upd_same⟩
          · rw [upd_ne hb]; exact s.there b o q
        · rw [upd_ne (notp q)]; exact s.tups b xs q
        · rw [upd_ne (nofr q)]; exact s.frzs b o u q
      · cases hm
    · cases hm
  · cases hm
end
/-! ## list(d) -/
def rLstX (hash : MD.MK → Int) : List V → Hp → VK → Prop := fun xs H Q => ∃ a es, xs = [V.ref a] ∧ MRd hash H a es ∧ ∀ p, H p = none → Q (.ref p) (upd H p (.lst (es.map (·.2.1))))
theorem call_list_mix {X : Cx} {hash : MD.MK → Int} (hc : X.calm = true) : CallR X (.type "list") (rLstX hash) := by
  intro pins s σ H xs us Q I r h
  obtain ⟨a, es, rfl, mr, q⟩ := h
  obtain ⟨u, rfl, rx⟩ := r.one
  cases rx
  have ok : ObjOk X.prog X.w H s.heap a (mixO hash a es) := by
    rcases mr with e | ⟨o, e⟩
    · exact I.hok a _ e
    · exact (I.hok a _ e).2
  obtain ⟨⟨hs, hl, o, arr, ep, h1, h2, h3, hp⟩, _⟩ := ok
  have hn : arr.size = es.length := by rw [← Array.length_toList]; exact (Paired.length hp).symm
  refine PySem.W.kdl_call (kdl_raw hs h2 h3) (I.ok.hd hc) h1 (by omega) fun h' tk acc c kp e it => ?_
  have la : acc.toList.length = es.length := by rw [Array.length_toList, it.1, hn]
  have rv : Vals (es.map (·.2.1)) acc.toList := by
    refine vals_of_at (by rw [List.length_map, la]) fun j x u hx hu => ?_
    obtain ⟨g, hg, rfl⟩ := it.2 j u (by rw [← Array.getElem?_toList]; exact hu)
    rw [List.getElem?_map] at hx
    cases qe : es[j]? with
    | none => rw [qe] at hx; cases hx
    | some en =>
      rw [qe] at hx
      cases hx
      obtain ⟨g', e1, e2⟩ := paired_get hp qe
      rw [Array.getElem?_toList, hg] at e1
      cases e1
      exact e2.2.1
  exact ⟨.ref s.heap.objs.size, _, I.laid (t' := tk) (o := .lst (es.map (·.2.1))) kp (Nat.le_refl _) ⟨by rw [List.length_map]; exact hl, acc.toList, c, rv, by rw [Array.toArray_toList]; exact e⟩, rfl, q _ (I.hok.fresh (Nat.le_refl _))⟩
def listDX : ODL := fun xs C => match xs with
  | [x] => (match mixOf C x with
    | some kvs => some (.cell C.length, C ++ [.lst (kvs.map fun p => mkD p.1)])
    | none => listD xs C)
  | _ => none
theorem Mix.dvs {K : PySem.W.Frag} {ft : Cfg} {ρ : List Addr} {H : Hp} {kvs : List (MD.MK × D)} {es : EV} (m : Mix K ft ρ H kvs es) : DVs K ft ρ H (kvs.map fun p => mkD p.1) (es.map (·.2.1)) := by
  have e : ∀ {kvs : List (MD.MK × D)} {es : EV}, Paired (fun (p : MD.MK × D) (e : MD.MK × V × V) => p.1 = e.1 ∧ KeyV K H e.1 e.2.1 ∧ DV K ft ρ H p.2 e.2.2) kvs es → DVs K ft ρ H (kvs.map fun p => mkD p.1) (es.map (·.2.1)) := by
    intro kvs es p
    induction p with
    | nil => exact .nil
    | cons z t ih => exact .cons (by have q := keyV_dv (ft := ft) (ρ := ρ) z.2.1; rw [← z.1] at q; exact q) ih
  exact e m.2
theorem sc_listX {F : Fm} : SCall F (.type "list") listDX := by
  refine ⟨_, fun X h => (call_list_mix (hash := F.ft.hash) h.calm).or (show CallR X _ (fun xs H Q => ∃ p ys, xs = [V.ref p] ∧ (SqL F.K H p ys ∨ SqT F.K H p ys) ∧ ∀ l, H l = none → Q (.ref l) (upd H l (.lst ys))) by have z := call_list_of (X := X); rw [h.K] at z; exact z), fun ρ C H xs vs d C' Q R hx hm k => ?_⟩
  unfold listDX at hm
  split at hm
  · rename_i x
    split at hm
    · rename_i kvs qm
      cases hm
      cases hx with | cons h1 h2 =>
        cases h2
        obtain ⟨a, es, rfl, mr, m⟩ := mixOf_ok R h1 qm
        exact .inl ⟨a, es, rfl, mr, fun p hp => k _ _ _ (R.newL hp m.dvs) (Stp.push hp) (DV.new R)⟩
    · unfold listD at hm
      obtain ⟨ds, e1, e2⟩ := omap hm
      cases e2
      cases hx with | cons h1 h2 =>
        cases h2
        obtain ⟨a, vs, rfl, hs, hd⟩ := seqOf_ok R h1 e1
        exact .inr ⟨_, _, rfl, hs, fun p hp => k _ _ _ (R.newL hp hd) (Stp.push hp) (DV.new R)⟩
  · cases hm
end Mi
set_option Elab.async false
set_option linter.all false
set_option maxRecDepth 100000
set_option maxHeartbeats 4000000
namespace Mi
open PySem PySem.Spec PyProof.Rows L2
/-! ## enumerate(a tuple) -/
set_option maxHeartbeats 1000000 in
theorem meets_enum1 {v : Value} {ob : Obj} {G : Heap → Prop} (B : Begins v ob G) : Meets (Builtin.«enumerate.__new__» ⟨[.type "enumerate", v], []⟩) (fun _ R s => G s.heap ∧
    R (.ok (.ret (.ref (s.heap.push ob).objs.size))) { s with heap := (s.heap.push ob).push { cls := .type "enumerate", data := .fields #[.none, .bool false, .ref s.heap.objs.size, rawInt 0, .none, .none] } }) :=
  .of_wp fun prog w A R s h => by
    obtain ⟨hp, gs, dr, tk, os⟩ := s
    obtain ⟨h1, h⟩ := h
    have isub := sub_enumerate
    have it1 : ∀ {A' : Around} {E : Value → Shared → Prop} {Q : Value → Shared → Prop}, Q (.ref hp.objs.size) ⟨hp.push ob, gs, dr, tk, os⟩ → wpAny (model prog w) A' (pyIter v) Q E ⟨hp, gs, dr, tk, os⟩ := fun q => B.iter prog w _ _ ⟨hp, gs, dr, tk, os⟩ _ h1 q
    wp_walk using it1
    refine wpAny_stack_any fun st => wpAny_pure ?_
    split
    · rename_i c _ _ _ _ _
      cases (c == Value.type "enumerate") <;> (wp_walk using it1; exact ⟨_, rfl, h⟩)
    · wp_walk using it1
      exact ⟨_, rfl, h⟩
theorem call_enum1 {prog : Program} {w : World} {A : Around} {E : Value → Shared → Prop} {s : Shared} {v : Value} {ob : Obj} {G : Heap → Prop} {Q : Value → Shared → Prop} (B : Begins v ob G) (h1 : G s.heap)
    (h : ∀ h', IsEnum h' (s.heap.objs.size + 1) s.heap.objs.size 0 .none → h'.get? s.heap.objs.size = some ob → (∀ b o, s.heap.get? b = some o → h'.get? b = some o) → Q (.ref (s.heap.objs.size + 1)) { s with heap := h' }) : wpAny (model prog w) A (call (.type "enumerate") [v]) Q E s := by
  refine callType_new PySem.F.called_enumerate (by decide) (PySem.F.typeCall_enumerate_1 _) (PySem.F.newCall_enumerate_1 _) (fun obj => PySem.F.args_object_init_2 obj _) PySem.F.entry_enumerate_new (meets_enum1 B) ⟨h1, ?_⟩
  have sz : (s.heap.push ob).objs.size = s.heap.objs.size + 1 := Heap.size_push ..
  show _ ∧ _
  rw [sz]
  have en : IsEnum ((s.heap.push ob).push { cls := .type "enumerate", data := .fields #[.none, .bool false, .ref s.heap.objs.size, rawInt 0, .none, .none] }) (s.heap.objs.size + 1) s.heap.objs.size 0 .none := by
    have q := Heap.get?_push_size (s.heap.push ob) (o := { cls := .type "enumerate", data := .fields #[.none, .bool false, .ref s.heap.objs.size, rawInt 0, .none, .none] }) rfl
    rw [sz] at q; exact q
  exact ⟨⟨_, en, rfl⟩, h _ en (Heap.get?_push_of_some _ (Heap.get?_push_size _ B.free)) fun b o x => Heap.get?_push_of_some _ (Heap.get?_push_of_some _ x)⟩
/-- the tuple at a (n items), each item in a new pair -/
def IteT (K : PySem.W.Frag) (a : Addr) (n : Nat) : It :=
  ⟨fun i H => ∃ (xs : List V) (x : V), SqT K H a xs ∧ xs.length = n ∧ xs[i]? = some x, fun i H v H' => ∃ T x, v = V.ref T ∧ H T = none ∧ H' = upd H T (.tup [.int (i : Nat), x]) ∧ ∀ xs, SqT K H a xs → xs[i]? = some x, fun i H => ∃ xs : List V, SqT K H a xs ∧ xs.length = n ∧ n ≤ i⟩
theorem turn_enumT {P : Program} {w : World} {K : PySem.W.Frag} {elts : List Expr} {kk n : Nat} {tpos : Pos} (a e it : Addr) (ae : a ≠ e) (ai : a ≠ it) (ei : e ≠ it) :
    Turn P w K (.Tuple elts kk tpos) (IteT K a n) [e, it] e (fun i h => (∃ old, IsEnum h e it ((i : Nat) : Int) old) ∧ h.IsTupleIter it a i ∧ i ≤ n) := by
  refine ⟨by simp, fun i h st b hb => ?_, fun i h h' st k => ?_, ?_, ?_, fun A i s Q E st h => let ⟨⟨_, he⟩, _⟩ := st; wpAny_pyIter_enum he h⟩
  · obtain ⟨⟨old, he⟩, ⟨o, ho, _, hd⟩, _⟩ := st
    rcases (show b = e ∨ b = it by simpa using hb) with rfl | rfl
    · exact ⟨_, he, fun v q => nomatch q⟩
    · exact ⟨o, ho, fun v q => by rw [hd] at q; cases q⟩
  · obtain ⟨⟨old, he⟩, hi, hle⟩ := st
    exact ⟨⟨old, k e (by simp) _ he⟩, hi.at fun o q => k it (by simp) o q, hle⟩
  · intro X hP hw hK hc i pins s σ H E I hf st hg
    subst hP hw hK
    obtain ⟨⟨old, he⟩, hit, hle⟩ := st
    obtain ⟨xs, x, hq, hxn, hx⟩ := hg
    obtain ⟨its, rv, p, hz⟩ := I.tuple hq
    obtain ⟨u, hu, ru⟩ := rv.get hx
    have lt1 : e < s.heap.objs.size := Heap.lt_size he
    have lt2 : it < s.heap.objs.size := by obtain ⟨_, q, _⟩ := hit; exact Heap.lt_size q
    have ila : its.toArray.size = n := by rw [List.size_toArray, ← rv.length]; exact hxn
    have hin : i < n := by rw [← hxn]; exact (List.getElem?_eq_some_iff.mp hx).1
    have dr := Draws.tuple (prog := X.prog) (w := X.w) (A := X.A.in1) (I.ok.hd hc) it a ai its.toArray
    refine wpAny_pyNext_enum_itemC dr he ⟨hit, p⟩ (by rw [ila]; exact hin) ei (by simp [ei, Ne.symm ae]) fun y h' tk hy ho hst hT hsz hk => ?_
    have ey : y = u := by
      have : its.toArray[i]? = some u := by simpa using hu
      rw [this] at hy; exact (Option.some.inj hy).symm
    subst ey
    refine ⟨_, rfl, wpAny_letOwnedTupleGo_enum (s := { s with heap := h', toks := tk + 1 }) ho fun h'' he' sb => ?_⟩
    have hT2 : h''.get? s.heap.objs.size = some { cls := .type "tuple", data := .seq #[.int i tk, y] } := (sb.2 _ (Nat.ne_of_gt lt1)).trans hT
    have laid : ObjOk X.prog X.w (upd H s.heap.objs.size (.tup [.int (i : Nat), x])) h'' s.heap.objs.size (.tup [.int (i : Nat), x]) := ⟨by show 2 ≤ sizeLine; decide, [.int i tk, y], .cons ⟨_, rfl⟩ (.cons ru .nil), ⟨_, hT2, rfl, _, rfl⟩⟩
    have I1 : Inv X pins σ (upd H s.heap.objs.size (.tup [.int (i : Nat), x])) { s with heap := h'', toks := tk + 1 } :=
      I.turnedNew (ch := [e, it]) (fun b ob hb q => (sb.2 b (fun z => hb (by simp [z]))).trans (hk b ob (fun z => hb (by simp [z])) (fun z => hb (by simp [z])) q)) hf (Nat.le_refl _) laid
    refine ⟨.ref s.heap.objs.size, _, I1, rfl, ⟨_, x, rfl, I.hok.fresh (Nat.le_refl _), rfl, fun ys hy => by rw [I.tuple_inj hy hq]; exact hx⟩, ⟨⟨y, ?_⟩, hst.1.at fun o q => (sb.2 it (Ne.symm ei)).trans q, hin⟩, fun b hb => ?_⟩
    · rw [show ((i + 1 : Nat) : Int) = (i : Int) + 1 by omega]; exact he'
    · have hlt : b < s.heap.objs.size := by
        rcases (show b = e ∨ b = it by simpa using hb) with rfl | rfl
        · exact lt1
        · exact lt2
      rw [upd_ne (Nat.ne_of_lt hlt)]; exact (hf b hb).1
  · intro X hP hw hK hc i pins s σ H E I hf st hg
    subst hP hw hK
    obtain ⟨⟨old, he⟩, hit, hle⟩ := st
    obtain ⟨xs, hq, hxn, hni⟩ := hg
    obtain ⟨its, rv, p, hz⟩ := I.tuple hq
    have ila : its.toArray.size = n := by rw [List.size_toArray, ← rv.length]; exact hxn
    obtain rfl : i = n := Nat.le_antisymm hle hni
    have own := hf it (by simp)
    have dr := Draws.tuple (prog := X.prog) (w := X.w) (A := X.A.in1) (I.ok.hd hc) it a ai its.toArray
    exact wpAny_pyNext_enum_endD dr he ⟨by rw [ila]; exact hit, p⟩ fun h' eb => ⟨rfl, I.turned (t' := s.toks) (fun b o hb q => eb b o hb q) own.1 own.2.1 own.2.2.2.1 own.2.2.2.2.1 own.2.2.2.2.2⟩
def iEnumT (K : PySem.W.Frag) (ta : TA) : TI := fun σ H R => ta σ H fun vs H1 => ∃ a xs, vs = [V.ref a] ∧ SqT K H1 a xs ∧ R (IteT K a xs.length) H1
theorem pi_enumT {X : Cx} {e : Expr} {ta : TA} {p pos tpos : Pos} {elts : List Expr} {kk : Nat} (hg : Gl X "enumerate") (hm : X.mg "enumerate" = none) (ha : PA X [e] ta) (hs : starEach [e] X.env = [(false, eval e X.env)]) : PI X (.Tuple elts kk tpos) (.Call (.Name "enumerate" p) [e] [] pos) (iEnumT X.K ta) := by
  constructor
  intro pins s σ H R I h
  refine Call_ (ld_blt I hg hm boot_enumerate (PyProof.Rows.callWith_type1 (thn (ha.run pos pins s σ H _ I h) fun us s1 ⟨vs, H1, I1, r1, a, xs, ex, hq, q⟩ => ?_) hs rfl))
  subst ex
  obtain ⟨u, rfl, ru⟩ := r1.one
  obtain rfl : u = Value.ref a := ru
  obtain ⟨its, rv, pt, hz⟩ := I1.tuple hq
  have alt : a < s1.heap.objs.size := pt.lt
  refine call_enum1 (begins_tuple a its.toArray) pt fun h' he hob hk => wpAny_pyIter_enum he ?_
  have I2 : Inv X pins σ H1 { s1 with heap := h' } := I1.kept (t' := s1.toks) hk
  refine ⟨s1.heap.objs.size + 1, [s1.heap.objs.size + 1, s1.heap.objs.size], _, _, H1, rfl, I2, turn_enumT a (s1.heap.objs.size + 1) s1.heap.objs.size (Nat.ne_of_lt (Nat.lt_succ_of_lt alt)) (Nat.ne_of_lt alt) (Nat.succ_ne_self _), ⟨⟨.none, he⟩, ⟨_, hob, rfl, rfl⟩, Nat.zero_le _⟩, fun b hb => ?_, q⟩
  have hle : s1.heap.objs.size ≤ b := by
    rcases (show b = s1.heap.objs.size + 1 ∨ b = s1.heap.objs.size by simpa using hb) with rfl | rfl
    · exact Nat.le_succ _
    · exact Nat.le_refl _
  exact I1.fpOk hle (I1.hok.fresh hle)
def enD : Int → List D → List D
  | _, [] => []
  | k, d :: ds => .tup [.int k, d] :: enD (k + 1) ds
theorem enD_at : ∀ (k : Int) (ds : List D) (i : Nat), (enD k ds)[i]? = ds[i]?.map fun d => D.tup [.int (k + (i : Nat)), d]
  | _, [], i => by simp [enD]
  | k, d :: ds, 0 => by simp [enD]
  | k, d :: ds, i + 1 => by
    have := enD_at (k + 1) ds i
    simp only [enD, List.getElem?_cons_succ]
    rw [this]
    congr 2
    funext d
    congr 3
    omega
def mIEnum (ml : MA) : MI := fun E C => (ml E C).bind fun p => match p.1 with
  | [.tup ds] => some (.seq (enD 0 ds), ds.length, p.2)
  | _ => none
section
variable {F : Fm} {e : Expr} {ml : MA} {elts : List Expr} {kk : Nat} {tpos p pos : Pos}
theorem itOk_enum {ρ : List Addr} {H : Hp} {a : Addr} {ds : List D} {vs : List V} (hs : SqT F.K H a vs) (hd : DVsF F ρ H ds vs) : ItOk F ρ H (.seq (enD 0 ds)) (IteT F.K a vs.length) := by
  intro ρ1 H1 C1 R1 s1 i r hr
  simp only [Itm.at, Option.some.injEq] at hr
  rw [enD_at] at hr
  have h1 := s1.sqT hs
  have d1 := DVs.monoW s1 hd
  cases q : ds[i]? with
  | none =>
    rw [q] at hr; subst hr
    exact ⟨vs, h1, rfl, by rw [← d1.length]; exact List.getElem?_eq_none_iff.mp q⟩
  | some d =>
    rw [q] at hr; subst hr
    obtain ⟨v, e1, e2⟩ := d1.get q
    refine ⟨⟨vs, v, h1, rfl, e1⟩, fun w H' hy => ?_⟩
    obtain ⟨T, x, rfl, hT, rfl, hx⟩ := hy
    have := hx vs h1
    rw [e1] at this; cases this
    exact ⟨R1.fresh hT, Stp.fresh hT, .tup (SqT.of upd_same) (.cons (by rw [show (0 : Int) + ((i : Nat) : Int) = ((i : Nat) : Int) by omega]; exact .int _) (.cons (e2.mono (Stp.fresh hT)) .nil))⟩
theorem si_enum (hm : F.mg "enumerate" = none) (ha : SA F [e] ml) (hg : F.sc.names.lookup (Str.ofString "enumerate") = some .globalImplicit := by rfl) (hs : ∀ env : Env, starEach [e] env = [(false, eval e env)] := by intro _; rfl) : SI F (.Tuple elts kk tpos) (.Call (.Name "enumerate" p) [e] [] pos) (mIEnum ml) := by
  obtain ⟨t, q, s⟩ := ha
  refine ⟨iEnumT F.K t, fun X h => by rw [← h.K]; exact pi_enumT (h.gl hg) (by rw [h.mg]; exact hm) (q X h) (hs _), fun ρ C H E σ it n C' R R0 eo hm k => ?_⟩
  obtain ⟨⟨ds, C1⟩, h1, hm⟩ := obind hm
  refine s ρ C H E σ ds C1 _ R0 eo h1 fun ρ1 H1 v1 R1 s1 d1 => ?_
  simp only at hm
  split at hm
  · cases hm
    cases d1 with | cons dh dt =>
      cases dt
      cases dh with | tup hs hd => exact ⟨_, _, rfl, hs, k ρ1 H1 _ R1 s1 (itOk_enum hs hd)⟩
  · cases hm
end
end Mi
set_option Elab.async false
set_option linter.all false
set_option maxRecDepth 100000
set_option maxHeartbeats 4000000
namespace Mi
open PySem PySem.Spec PyProof.Rows L2
/-! ## dict comprehensions with ints as keys: a mixed dict -/
def mkI : Key → MD.MK
  | .inl i => .i i
  | .inr _ => .i 0
def isI : Key → Bool
  | .inl _ => true
  | .inr _ => false
def mixE (kvs : List (Key × V)) : EV := kvs.map fun p => (mkI p.1, kV p.1, p.2)
theorem mkI_nd {α : Type} : ∀ {kvs : List (Key × α)}, (kvs.map (·.1)).Nodup → (∀ p ∈ kvs, isI p.1 = true) → (kvs.map fun p => mkI p.1).Nodup
  | [], _, _ => by simp
  | p :: kvs, h, hi => by
    rw [List.map_cons, List.nodup_cons] at h ⊢
    refine ⟨fun z => h.1 ?_, mkI_nd h.2 fun q hq => hi q (by simp [hq])⟩
    obtain ⟨q, hq, e⟩ := List.mem_map.mp z
    refine List.mem_map.mpr ⟨q, hq, ?_⟩
    have h1 := hi p (by simp)
    have h2 := hi q (by simp [hq])
    cases hp : p.1 with
    | inr _ => rw [hp] at h1; cases h1
    | inl i =>
      cases hk : q.1 with
      | inr _ => rw [hk] at h2; cases h2
      | inl j => rw [hp, hk] at e; simp [mkI] at e; rw [e]
section
variable {X : Cx} {pins : List (Addr × Obj)} {σ : L2.St} {H : Hp} {s : Shared} {a : Addr} {hash : MD.MK → Int} {kvs : List (Key × V)}
theorem dk_mix (hh : hash = MD.MK.hash X.prog X.w) (I : Inv X pins σ H s) (h : H a = some (.dK kvs)) (hi : ∀ p ∈ kvs, isI p.1 = true) : Inv X pins σ (upd H a (mixO hash a (mixE kvs))) s ∧ (kvs.map (·.1)).Nodup := by
  obtain ⟨z, sys, vs, kv, o, es, ep, ho, hx, hd, ks, ps, nd⟩ := I.hok a _ h
  have pr : ∀ {kvs : List (Key × V)} {vs : List (Key × Value)} {gs : List DictEntry}, KV kvs vs → Pairs (mixKind X.prog X.w) gs vs → (∀ p ∈ kvs, isI p.1 = true) → (∀ g ∈ gs, ∃ k, (mixKind X.prog X.w).is k g.key = true ∧ g.hash = (mixKind X.prog X.w).hash k) →
      Paired (fun (e : MD.MK × V × V) (g : DictEntry) => g.hash = hash e.1 ∧ RelV e.2.1 g.key ∧ RelV e.2.2 g.val) (mixE kvs) gs := by
    intro kvs vs gs kv
    unfold KV at kv
    induction kv generalizing gs with
    | nil => intro ps _ _; cases ps; exact .nil
    | @cons p q _ _ r t ih =>
      intro ps hi hk
      cases ps with
      | @cons g _ gs _ e1 e2 e3 =>
        refine .cons ⟨?_, ?_, ?_⟩ (ih e3 (fun p hp => hi p (by simp [hp])) fun g hg => hk g (by simp [hg]))
        · obtain ⟨k, k1, k2⟩ := hk g (by simp)
          have ek : k = q.1 := (mixKind X.prog X.w).inj _ _ _ k1 e1
          have hp := hi p (by simp)
          have eq := r.1
          rw [k2, ek, hh]
          cases c : q.1 with
          | inr _ => rw [eq, c] at hp; cases hp
          | inl i => simp only [eq, c, mkI]; rfl
        · have := relV_key (show keyIs q.1 g.key = true from e1)
          rw [← r.1] at this; exact this
        · rw [e2]; exact r.2
  refine ⟨?_, by rw [KV.keys kv]; exact nd⟩
  have new : ObjOk X.prog X.w (upd H a (mixO hash a (mixE kvs))) s.heap a (mixO hash a (mixE kvs)) := by
    refine ⟨⟨sys, by unfold mixE; rw [List.length_map]; exact z, o, es, ep, ho, hx, hd, pr kv ps hi fun g hg => ks g (by simpa using hg)⟩, ⟨o, ho⟩, fun g1 g2 q k => ?_⟩
    obtain ⟨a1, a2, o', arr', ep', b1, b2⟩ := q
    exact ⟨a1, a2, o', arr', ep', k _ b1, b2⟩
  exact I.write (x := a) (e := a) (t' := s.toks) (h' := s.heap) (by rw [h]; exact True.intro) (.inl rfl) (fun b v _ q => q) ⟨o, ho⟩ new
end
/-- what a dict of ints becomes -/
def QConv (hash : MD.MK → Int) (Q : VK) : VK := fun v H => ∃ a kvs, v = V.ref a ∧ H a = some (.dK kvs) ∧ (∀ p ∈ kvs, isI p.1 = true) ∧ ((kvs.map (·.1)).Nodup → Q (.ref a) (upd H a (mixO hash a (mixE kvs))))
theorem pe_conv {X : Cx} {e : Expr} {t : TE} {hash : MD.MK → Int} (hh : hash = MD.MK.hash X.prog X.w) (h : PE X e t) : PE X e (fun σ H Q => t σ H (QConv hash Q)) := by
  constructor
  intro pins s σ H Q I hw
  refine thn (h.run pins s σ H _ I hw) fun v s1 ⟨x, H1, I1, r, a, kvs, ex, hk, hi, q⟩ => ?_
  subst ex
  obtain ⟨I2, nd⟩ := dk_mix hh I1 hk hi
  exact ⟨V.ref a, _, I2, r, q nd⟩
section
variable {X : Cx}
theorem sw_trueD {kx vx : Expr} {gs : List Comprehension} {scope : Scope} {pos py : Pos} {y : Str} {l : Nat} {env : Env} (hk : env.scope.kind = .function) (hy : env.scope.names.lookup y = some .local) (hl : (py.line == pos.line) = true)
    (ha : (scope.names.any fun (n, k) => n == y && (k == .local || k == .cell)) = false) : swapsWith (.DictComp kx vx gs scope pos) (some (.Name y py)) l env = pure true := by
  have e1 : env.kindOf y = some .local := hy
  have e2 : env.blockKind = .function := by unfold Env.blockKind; rw [hk]; rfl
  unfold swapsWith
  simp only [e2, e1, ha, Expr.pos, hl]
  rfl
/-- y = {k: v for ..} -/
theorem ps_setDc {i : Nat} {y : Str} {py : Pos} {kx vx tg iter : Expr} {ifs : List Expr} {scope : Scope} {own : List (Str × Nat)} {pos spos : Pos} {wi : TI} {g : TG} {tt : TT} {tk tv : TE} {hash : MD.MK → Int} (hh : hash = MD.MK.hash X.prog X.w) (hc : X.calm = true) (hN : X.N.Nodup) (hy : X.N[i]? = some y) (hyl : X.env.scope.names.lookup y = some .local)
    (hsw : swapsWith (.DictComp kx vx [⟨tg, iter, ifs, 0⟩] scope pos) (some (.Name y py)) spos.line X.env = pure true) (hi : PI X tg iter wi) (ok : BlkOk X.N X.env.scope scope own)
    (hg : ∀ (s : Shared) (H : Hp) (C : Addr) (cl : List (Str × Addr)) (fp : List Addr), PG (X.blk s H scope (compEnvC scope cl C X.env) fp) tg g) (ht : ∀ (s : Shared) (H : Hp) (C : Addr) (cl : List (Str × Addr)) (fp : List Addr), PTs (X.blk s H scope (compEnvC scope cl C X.env) fp) ifs tt)
    (hk : ∀ (s : Shared) (H : Hp) (C : Addr) (cl : List (Str × Addr)) (fp : List Addr), PE (X.blk s H scope (compEnvC scope cl C X.env) fp) kx tk) (he : ∀ (s : Shared) (H : Hp) (C : Addr) (cl : List (Str × Addr)) (fp : List Addr), PE (X.blk s H scope (compEnvC scope cl C X.env) fp) vx tv) (hs : ∀ x, foldedSetIterable iter X.env x = pure x) :
    PS X (.Assign [.Name y py] (.DictComp kx vx [⟨tg, iter, ifs, 0⟩] scope pos) spos) (fun D σ H => tDc wi g tt tk tv (own.map (·.2)) σ H (QConv hash fun v H' => D.nx (σ.set i (some v)) H')) := by
  constructor
  intro pins s σ H D I h
  rw [exec_Assign_Name_used _ _ _ _ hsw]
  refine wpAny_bind (wpAny_standAt (wpAny_bind ?_))
  show wpAny _ X.A (do let _ ← comprehension (.DictComp kx vx [⟨tg, iter, ifs, 0⟩] scope pos) scope X.env (firstIterPos [⟨tg, iter, ifs, 0⟩] pos) newDict false (eval iter X.env) (some (assign (.Name y py) X.env))) _ _ s
  refine wpAny_bind (thn (dc_core (Qf := fun _ s' => SP X pins D .next s') hc hN I hi ok hg ht hk he hs h fun L C s' m H' I' q hn f => ?_) fun _ s' hq => wpAny_pure (wpAny_pure hq))
  obtain ⟨a, kvs, ea, hd, hki, q⟩ := q
  cases ea
  obtain ⟨I', nd⟩ := dk_mix hh I' hd hki
  show wpAny _ _ (assign (.Name y py) X.env (.ref L)) _ _ _
  refine wpAny_assign_Name (store_ok2 (v := V.ref L) I' hN hy (.inl hyl) rfl (fun s2 I2 ⟨b, sb, hb⟩ => ?_) (.inr hyl))
  obtain ⟨f0, f1, f2, f3, f4, f5⟩ := f
  have nCL : C ≠ L := fun z => by rw [z, hd] at f0; cases f0
  have nCb : C ≠ b := by
    rcases hb with z | z
    · rw [z]; exact f1
    · exact fun e => f4 y b z e.symm
  exact ⟨m, hn.sameBut sb nCb, fun h3 sb3 => ⟨_, _, I2.turned (t' := s2.toks) (fun b o hb e => (sb3.2 b hb).trans e) (by rw [upd_ne nCL]; exact f0) f1 f3 f4 f5, q nd⟩⟩
end
def dcLoop (it : Itm) (tg : MG) (tt : MT) (mk mv : ME) (E : Ev) : Nat → Nat → List (Key × D) → Hm → Option (List (Key × D) × Hm)
  | 0, _, _, _ => none
  | fuel + 1, i, acc, C => (it.at C i).bind fun r => match r with
    | none => some (acc, C)
    | some x => (tg x E).bind fun E1 => (tt E1 C).bind fun p => if p.1 = true then (mk E1 p.2).bind fun q => (keyD q.1).bind fun k => (mv E1 q.2).bind fun z => if acc.length < sizeLine then dcLoop it tg tt mk mv E fuel (i + 1) (putD acc k z.1) z.2 else none
      else dcLoop it tg tt mk mv E fuel (i + 1) acc p.2
def mDc (src : MI) (tg : MG) (tt : MT) (mk mv : ME) (vs : List Nat) : ME := fun E C => (src E C).bind fun p => (dcLoop p.1 tg tt mk mv (wipeE E vs) (p.2.1 + 1) 0 [] p.2.2).bind fun q => if q.1.all (fun p => isI p.1) = true then some (.cell q.2.length, q.2 ++ [.dix (q.1.map fun p => (mkI p.1, p.2))]) else none
theorem Rel.other2 {K : PySem.W.Frag} {ft : Cfg} {ρ : List Addr} {H : Hp} {C : Hm} {P : Addr} {ws : List (Key × V)} {o : HO} (R : Rel K ft ρ H C) (hP : P ∉ ρ) (e : H P = some (.dK ws)) : Rel K ft ρ (upd H P o) C ∧ Wk ρ H ρ (upd H P o) := by
  have w : Wk ρ H ρ (upd H P o) := ⟨fun h => h, fun b xs q => by rw [upd_ne (show b ≠ P from fun z => by rw [z, e] at q; cases q)]; exact q, fun b ob u q => by rw [upd_ne (show b ≠ P from fun z => by rw [z, e] at q; cases q)]; exact q⟩
  refine ⟨⟨R.len, R.nd, fun n c q => ?_⟩, w⟩
  obtain ⟨a, ha, k⟩ := R.ok n c q
  have ne : a ≠ P := fun z => hP (z ▸ List.mem_of_getElem? ha)
  refine ⟨a, ha, ?_⟩
  cases c with
  | lst ds => obtain ⟨ws, q, r⟩ := k; exact ⟨ws, (upd_ne ne).trans q, DVs.monoW w r⟩
  | dic ks => obtain ⟨ws, q, r⟩ := k; exact ⟨ws, (upd_ne ne).trans q, Paired.mapP r fun p q z => ⟨z.1, DV.monoW w z.2⟩⟩
  | dix ks => obtain ⟨es, q, r⟩ := k; exact ⟨es, (upd_ne ne).trans q, r.monoW w⟩
  | dxl ks => obtain ⟨es, o, q, r⟩ := k; exact ⟨es, o, (upd_ne ne).trans q, r.monoW w⟩
section
variable {F : Fm} {tg iter kx vx : Expr} {ifs : List Expr} {scope : Scope} {own : List (Str × Nat)} {src : MI} {g : MG} {mt : MT} {mk mv : ME} {slots : List Nat} {pos : Pos}
theorem DKs.int {ρ : List Addr} {H : Hp} {kvs : List (Key × D)} {ws : List (Key × V)} (h : DKs F ρ H kvs ws) : kvs.map (·.1) = ws.map (·.1) := by
  induction h with
  | nil => rfl
  | cons z t ih => rw [List.map_cons, List.map_cons, z.1, ih]
theorem mix_of_dk {ρ : List Addr} {H : Hp} {kvs : List (Key × D)} {ws : List (Key × V)} (h : DKs F ρ H kvs ws) (hi : ∀ p ∈ ws, isI p.1 = true) (nd : (ws.map (·.1)).Nodup) : Mix F.K F.ft ρ H (kvs.map fun p => (mkI p.1, p.2)) (mixE ws) := by
  refine ⟨?_, ?_⟩
  · have := mkI_nd nd hi
    have e : (mixE ws).map (·.1) = ws.map fun p => mkI p.1 := by unfold mixE; rw [List.map_map]; rfl
    rw [e]; exact this
  · clear nd
    induction h with
    | nil => exact .nil
    | @cons p q _ _ z t ih =>
      refine .cons ⟨by show mkI p.1 = mkI q.1; rw [z.1], ?_, z.2⟩ (ih fun p hp => hi p (by simp [hp]))
      have := hi q (by simp)
      show KeyV F.K H (mkI q.1) (kV q.1)
      cases c : q.1 with
      | inr _ => rw [c] at this; cases this
      | inl i => rfl
theorem evl_dc {wi : TI} {gg : TG} {tt : TT} {tk tv : TE} (si : ∀ ρ C H E σ it n C' R, RelF F ρ H C → EnvF F ρ H E σ → src E C = some (it, n, C') → (∀ ρ' H' J, RelF F ρ' H' C' → Stp ρ H ρ' H' → ItOk F ρ' H' it J → R J H') → wi σ H R)
    (sg : EvG F gg slots g) (st : EvT F tt mt) (sk : EvE F tk mk) (sv : EvE F tv mv) (vs : List Nat) (hsl : ∀ i ∈ slots, i ∈ vs) : EvE F (fun σ H Q => tDc wi gg tt tk tv vs σ H (QConv F.ft.hash Q)) (mDc src g mt mk mv vs) := by
  intro ρ C H E σ d C' Q R eo hm k
  obtain ⟨⟨it, n, C1⟩, h1, hm⟩ := obind hm
  obtain ⟨⟨accF, CF⟩, h2, hm⟩ := obind hm
  simp only at h2 hm
  by_cases allI : (accF.all fun p => isI p.1) = true
  rotate_left
  · rw [if_neg allI] at hm; cases hm
  rw [if_pos allI] at hm
  cases hm
  refine si ρ C H E σ it n C1 _ R eo h1 fun ρ0 H0 J R0 s0 ok => ?_
  intro P hP
  have outP : ∀ {ρ1 Hc}, Stp ρ0 H0 ρ1 Hc → P ∉ ρ1 → ∀ {o}, Stp ρ0 H0 ρ1 (upd Hc P o) := fun {ρ1 Hc} s hp {o} => by
    have ne : ∀ b u, H0 b = some u → b ≠ P := fun b u e z => by rw [z, hP] at e; cases e
    exact ⟨s.pre, fun b u e hb => by rw [upd_ne (ne b u e)]; exact s.keep b u e hb, fun b u e => by rw [upd_ne (ne b u e)]; exact s.there b u e, fun b u e => by rw [upd_ne (ne _ _ e)]; exact s.tups b u e, fun b u w e => by rw [upd_ne (ne _ _ e)]; exact s.frzs b u w e⟩
  refine ⟨fun i m Hc => ∃ ρ1 Cc accD accV, RelF F ρ1 Hc Cc ∧ P ∉ ρ1 ∧ Stp ρ0 H0 ρ1 Hc ∧ Hc P = some (.dK accV) ∧ DKs F ρ1 Hc accD accV ∧ dcLoop it g mt mk mv (wipeE E vs) m i accD Cc = some (accF, CF),
    ⟨n + 1, ρ0, C1, [], [], R0.fresh hP, R0.out hP, Stp.fresh hP, upd_same, .nil, h2⟩, ?_⟩
  rintro i m Hc ⟨ρ1, Cc, accD, accV, R1, nP, s1, eP, dA, hf⟩
  cases m with
  | zero => cases hf
  | succ fuel =>
    unfold dcLoop at hf
    obtain ⟨r, e1, hf⟩ := obind hf
    have oki := ok ρ1 Hc Cc R1 s1.wk i r e1
    cases r with
    | none =>
      cases hf
      have hiD : ∀ p ∈ accF, isI p.1 = true := fun p hp => List.all_eq_true.mp allI p hp
      have hiV : ∀ p ∈ accV, isI p.1 = true := fun p hp => by
        have hk : p.1 ∈ accF.map (·.1) := by rw [DKs.int dA]; exact List.mem_map.mpr ⟨p, hp, rfl⟩
        obtain ⟨q, hq, e⟩ := List.mem_map.mp hk
        rw [← e]; exact hiD q hq
      refine .inl ⟨oki, P, accV, rfl, eP, hiV, fun nd => ?_⟩
      obtain ⟨R2, w2⟩ := R1.other2 nP eP (o := mixO F.ft.hash P (mixE accV))
      have s := s0.trans (outP (o := mixO F.ft.hash P (mixE accV)) s1 nP)
      refine k (ρ1 ++ [P]) _ (.ref P) (R2.push nP ⟨mixE accV, upd_same, (mix_of_dk dA hiV nd).monoW w2⟩) ?_ (DV.new R2)
      obtain ⟨t, e, ht⟩ := s.pre
      refine ⟨⟨t ++ [P], by rw [e, List.append_assoc], fun b hb => ?_⟩, s.keep, s.there, s.tups, s.frzs⟩
      rcases List.mem_append.mp hb with z | z
      · exact ht b z
      · have z : b = P := by simpa using z
        subst z
        cases q : H b with
        | none => rfl
        | some u => obtain ⟨u', q'⟩ := s0.there b u q; rw [hP] at q'; cases q'
    | some x =>
      refine .inr ⟨oki.1, fun H2 => ∃ ρ2 C2 accD accV, RelF F ρ2 H2 C2 ∧ P ∉ ρ2 ∧ Stp ρ0 H0 ρ2 H2 ∧ H2 P = some (.dK accV) ∧ DKs F ρ2 H2 accD accV ∧ dcLoop it g mt mk mv (wipeE E vs) fuel (i + 1) accD C2 = some (accF, CF), fun H2 z => ⟨fuel, Nat.lt_succ_self _, z⟩, fun v H' hy => ?_⟩
      obtain ⟨R2, s2, dv⟩ := oki.2 v H' hy
      obtain ⟨E2, e2, hf⟩ := obind hf
      obtain ⟨⟨b, C3⟩, e3, hf⟩ := obind hf
      have eo2 : EnvF F ρ1 H' (wipeE E vs) (L2.wipe σ vs) := (eo.wipe vs).mono ((s0.trans s1).trans s2)
      have keepP : ∀ {ρa Ha ρb Hb accV}, Stp ρa Ha ρb Hb → P ∉ ρa → Ha P = some (.dK accV) → P ∉ ρb ∧ Hb P = some (.dK accV) := fun {ρa Ha ρb Hb accV} s hn e => by
        refine ⟨fun z => ?_, s.keep _ _ e hn⟩
        obtain ⟨t, et, ht⟩ := s.pre
        rw [et] at z
        rcases List.mem_append.mp z with z | z
        · exact hn z
        · rw [ht _ z] at e; cases e
      have dmono : ∀ {ρa Ha ρb Hb kvs ws}, Stp ρa Ha ρb Hb → DKs F ρa Ha kvs ws → DKs F ρb Hb kvs ws := fun s d => Paired.mapP d fun p q z => ⟨z.1, z.2.mono s⟩
      obtain ⟨nP2, eP2⟩ := keepP s2 nP eP
      refine sg ρ1 Cc H' (wipeE E vs) (L2.wipe σ vs) x v E2 _ R2 eo2 dv e2 fun σ3 eo3 w3 => ?_
      refine ⟨by rw [w3 vs hsl, wipe_idem], ?_⟩
      refine st ρ1 Cc H' E2 σ3 b C3 _ R2 eo3 e3 fun ρ3 H3 R3 s3 => ?_
      obtain ⟨nP3, eP3⟩ := keepP s3 nP2 eP2
      cases b with
      | false => exact ⟨ρ3, C3, accD, accV, R3, nP3, (s1.trans s2).trans s3, eP3, dmono s3 (dmono s2 dA), hf⟩
      | true =>
        obtain ⟨⟨y, C4⟩, e4, hf⟩ := obind (show (mk E2 C3).bind _ = some (accF, CF) from hf)
        obtain ⟨kk, ek, hf⟩ := obind hf
        obtain ⟨⟨z, C5⟩, e5, hf⟩ := obind hf
        simp only at hf
        split at hf
        · rename_i hlen
          refine sk ρ3 C3 H3 E2 σ3 y C4 _ R3 (eo3.mono s3) e4 fun ρ4 H4 v4 R4 s4 d4 => ?_
          obtain ⟨nP4, eP4⟩ := keepP s4 nP3 eP3
          refine sv ρ4 C4 H4 E2 σ3 z C5 _ R4 (eo3.mono (s3.trans s4)) e5 fun ρ5 H5 v5 R5 s5 d5 => ?_
          obtain ⟨nP5, eP5⟩ := keepP s5 nP4 eP4
          have dA5 : DKs F ρ5 H5 accD accV := dmono s5 (dmono s4 (dmono s3 (dmono s2 dA)))
          refine ⟨accV, kk, keyD_ok d4 ek, eP5, by rw [← DKs.len dA5]; exact hlen, ?_⟩
          obtain ⟨R6, w6⟩ := R5.other2 nP5 eP5 (o := .dK (putK accV kk v5))
          exact ⟨ρ5, C5, putD accD kk z, putK accV kk v5, R6, nP5, outP ((((s1.trans s2).trans s3).trans s4).trans s5) nP5, upd_same, Paired.mapP (putD_ok dA5 d5) fun p q z => ⟨z.1, DV.monoW w6 z.2⟩, hf⟩
        · cases hf
theorem se_dc (own : List (Str × Nat)) (hh : F.ft.hash = MD.MK.hash F.prog F.w) (hi : SI F tg iter src) (ok : BlkOk F.N F.sc scope own) (hg : SG (F.blk scope) tg slots g) (ht : SPT (F.blk scope) ifs mt) (hk : SE (F.blk scope) kx mk) (he : SE (F.blk scope) vx mv) (hsl : ∀ i ∈ slots, i ∈ own.map (·.2) := by decide)
    (hs : ∀ (env : Env) x, foldedSetIterable iter env x = pure x := by intro _ _; rfl) : SE F (.DictComp kx vx [⟨tg, iter, ifs, 0⟩] scope pos) (mDc src g mt mk mv (own.map (·.2))) := by
  obtain ⟨wi, pi, si⟩ := hi
  obtain ⟨gg, pg, sg⟩ := hg
  obtain ⟨tt, pt, st⟩ := ht
  obtain ⟨tk, pk, sk⟩ := hk
  obtain ⟨tv, pv, sv⟩ := he
  refine ⟨_, fun X h => ?_, evl_dc si sg st sk sv _ hsl⟩
  exact pe_conv (by rw [hh, h.prog, h.w]) (pe_dc h.calm h.nd (pi X h) (by rw [h.N, h.sc]; exact ok) (fun _ _ _ _ _ => pg _ h.blk) (fun _ _ _ _ _ => pt _ h.blk) (fun _ _ _ _ _ => pk _ h.blk) (fun _ _ _ _ _ => pv _ h.blk) (hs _))
theorem ss_setDc {x : Str} {py spos : Pos} (i : Nat) (own : List (Str × Nat)) (hh : F.ft.hash = MD.MK.hash F.prog F.w) (hsw : ∀ env : Env, env.scope = F.sc → swapsWith (.DictComp kx vx [⟨tg, iter, ifs, 0⟩] scope pos) (some (.Name x py)) spos.line env = pure true)
    (hi : SI F tg iter src) (ok : BlkOk F.N F.sc scope own) (hg : SG (F.blk scope) tg slots g) (ht : SPT (F.blk scope) ifs mt) (hk : SE (F.blk scope) kx mk) (he : SE (F.blk scope) vx mv) (hN : F.N[i]? = some x := by rfl) (hl : F.sc.names.lookup x = some .local := by rfl) (hsl : ∀ i ∈ slots, i ∈ own.map (·.2) := by decide)
    (hs : ∀ (env : Env) x, foldedSetIterable iter env x = pure x := by intro _ _; rfl) : SS F (.Assign [.Name x py] (.DictComp kx vx [⟨tg, iter, ifs, 0⟩] scope pos) spos) (mAsg (mDc src g mt mk mv (own.map (·.2))) (gN i)) := by
  obtain ⟨wi, pi, si⟩ := hi
  obtain ⟨gg, pg, sg⟩ := hg
  obtain ⟨tt, pt, st⟩ := ht
  obtain ⟨tk, pk, sk⟩ := hk
  obtain ⟨tv, pv, sv⟩ := he
  refine ⟨fun D σ H => tDc wi gg tt tk tv (own.map (·.2)) σ H (QConv F.ft.hash fun v H' => D.nx (σ.set i (some v)) H'), fun X h => ?_, fun ρ C H E σ o Z R eo hm k => ?_⟩
  · exact ps_setDc (by rw [hh, h.prog, h.w]) h.calm h.nd (by rw [h.N]; exact hN) (by rw [h.sc]; exact hl) (hsw _ h.sc) (pi X h) (by rw [h.N, h.sc]; exact ok) (fun _ _ _ _ _ => pg _ h.blk) (fun _ _ _ _ _ => pt _ h.blk) (fun _ _ _ _ _ => pk _ h.blk) (fun _ _ _ _ _ => pv _ h.blk) (hs _)
  · obtain ⟨⟨x, C1⟩, h1, hm⟩ := obind hm
    cases hm
    exact evl_dc si sg st sk sv _ hsl ρ C H E σ x C1 _ R eo h1 fun ρ1 H1 v1 R1 s1 d1 => k ρ1 H1 _ R1 s1 ((eo.mono s1).set d1)
end
end Mi
set_option Elab.async false
set_option linter.all false
set_option maxRecDepth 100000
set_option maxHeartbeats 4000000
namespace Mi
open PySem PySem.Spec PyProof.Rows L2
/-! ## sorted(a list of data) -/
def rSrtG (K : PySem.W.Frag) : List V → Hp → VK → Prop := fun vs H Q => ∃ (a : Addr) (ps : List (V × PyData)), vs = [V.ref a] ∧ SqL K H a (ps.map (·.1)) ∧ (∀ p ∈ ps, Dp K H p.1 p.2) ∧ PySem.W.AllAlike (ps.map (·.2)) ∧ PySem.W.Sortable (ps.map (·.2)) ∧ (∀ p ∈ ps, p.2.depth ≤ 60) ∧
  ∀ l, H l = none → Q (.ref l) (upd H l (.lst ((ps.mergeSort (PySem.W.dataLe false (·.2))).map (·.1))))
theorem each_vals : ∀ {ps : List (V × PyData)} {us : List Value}, Vals (ps.map (·.1)) us → PySem.W.EachIs (fun v (p : V × PyData) => RelV p.1 v) us ps
  | [], _, .nil => .nil
  | _ :: _, _, .cons h t => .cons h (each_vals t)
theorem vals_each : ∀ {ps : List (V × PyData)} {us : List Value}, PySem.W.EachIs (fun v (p : V × PyData) => RelV p.1 v) us ps → Vals (ps.map (·.1)) us
  | _, _, .nil => .nil
  | _, _, .cons h t => .cons h (vals_each t)
theorem each_reads {X : Cx} {pins : List (Addr × Obj)} {σ : L2.St} {H : Hp} {s : Shared} (I : Inv X pins σ H s) : ∀ {ps : List (V × PyData)} {us : List Value}, Vals (ps.map (·.1)) us → (∀ p ∈ ps, Dp X.K H p.1 p.2) → PySem.W.EachIs (fun v (p : V × PyData) => ∃ as, Reads s.heap v p.2 as) us ps
  | [], _, .nil, _ => .nil
  | p :: _, _, .cons h t, d => .cons (Dp.reads I p.2 p.1 _ (d p (by simp)) h) (each_reads I t fun q hq => d q (by simp [hq]))
theorem cr_srtG {X : Cx} (hu : X.A.units + 64 < cLine) : CallR X (.builtin "sorted") (rSrtG X.K) := by
  intro pins s σ H vs us Q I r h
  obtain ⟨a, ps, rfl, hs, hd, al, so, dp, q⟩ := h
  obtain ⟨its, rv, hl, hz⟩ := I.list hs
  rw [Vals.ref1 r]
  rw [List.length_map] at hz
  refine PySem.W.sorted_data (R := fun v (p : V × PyData) => RelV p.1 v) (enc := (·.2)) (bs := ps) hl.isList (each_vals rv) (each_reads I rv hd) al so hz (fun b hb => by have := dp b hb; omega) fun out ho he => ?_
  obtain ⟨ep, at_⟩ := PyProof.Rows.sortedAll_at s.heap its out.toArray
  have hlen : ((ps.mergeSort (PySem.W.dataLe false (·.2))).map (·.1)).length ≤ sizeLine := by rw [List.length_map, List.length_mergeSort]; exact hz
  exact ⟨.ref _, _, I.laid (t' := s.toks) (o := .lst ((ps.mergeSort (PySem.W.dataLe false (·.2))).map (·.1))) (fun _ _ => PyProof.Rows.sortedAll_old) (Nat.le_succ _) ⟨hlen, out, ep, vals_each he, at_⟩, rfl, q _ (I.hok.fresh (Nat.le_succ _))⟩
def encD (C : Hm) (d : D) : PyData := (py C 70 d).getD .none
def isPairD (C : Hm) (d : D) : Bool := match py C 70 d with
  | some (.tuple (x :: r)) => decide ((PyData.tuple (x :: r)).depth ≤ 60)
  | _ => false
def srtOk (C : Hm) (ds : List D) : Bool := ds.all (isPairD C) && ds.all fun d => ds.all fun e => PySem.W.alike (encD C d) (encD C e)
def sortedDX : ODL := fun xs C => match xs with
  | [.cell n] => (match C[n]? with
    | some (.lst ds) => (match intsOf ds with
      | some ns => some (.cell C.length, C ++ [.lst ((sortI ns).map D.int)])
      | none => if srtOk C ds = true then some (.cell C.length, C ++ [.lst (ds.mergeSort (PySem.W.dataLe false (encD C)))]) else none)
    | _ => none)
  | _ => none
theorem isPairD_at {C : Hm} {d : D} (h : isPairD C d = true) : ∃ x r, py C 70 d = some (.tuple (x :: r)) ∧ (PyData.tuple (x :: r)).depth ≤ 60 := by
  unfold isPairD at h
  split at h
  · rename_i x r e; exact ⟨x, r, e, of_decide_eq_true h⟩
  · cases h
theorem dvs_zip {K : PySem.W.Frag} {ft : Cfg} {ρ : List Addr} {H : Hp} : ∀ {ds : List D} {vs : List V}, DVs K ft ρ H ds vs → (ds.zip vs).map (·.1) = ds ∧ (ds.zip vs).map (·.2) = vs ∧ ∀ t ∈ ds.zip vs, DV K ft ρ H t.1 t.2
  | _, _, .nil => ⟨rfl, rfl, fun t ht => by cases ht⟩
  | _, _, .cons h t => by
    obtain ⟨e1, e2, e3⟩ := dvs_zip t
    refine ⟨by simp [e1], by simp [e2], fun q hq => ?_⟩
    rw [List.zip_cons_cons] at hq
    rcases List.mem_cons.mp hq with rfl | hq
    · exact h
    · exact e3 q hq
theorem dvs_of {K : PySem.W.Frag} {ft : Cfg} {ρ : List Addr} {H : Hp} : ∀ {ts : List (D × V)}, (∀ t ∈ ts, DV K ft ρ H t.1 t.2) → DVs K ft ρ H (ts.map (·.1)) (ts.map (·.2))
  | [], _ => .nil
  | t :: ts, h => .cons (h t (by simp)) (dvs_of fun q hq => h q (by simp [hq]))
theorem Room.u64b {k : Nat} {A : Around} (r : Room k A) : A.units + 64 < cLine := by have := r.un; omega
theorem sc_sortedX {F : Fm} : SCall F (.builtin "sorted") sortedDX := by
  refine ⟨_, fun X h => (show CallR X (.builtin "sorted") (rSortedI F.K) by rw [← h.K]; exact cr_sortedI).or (show CallR X (.builtin "sorted") (rSrtG F.K) by rw [← h.K]; exact cr_srtG (Room.u64b h.rm)), fun ρ C H xs vs d C' Q R hx hm k => ?_⟩
  unfold sortedDX at hm
  split at hm
  · split at hm
    · rename_i n ds q
      cases hx with | cons h1 h2 =>
        cases h2
        obtain ⟨p, vs, rfl, ep, e3, e4⟩ := R.lst q h1
        split at hm
        · rename_i ns e1
          cases hm
          have ev := intsOf_ok e4 e1
          subst ev
          refine .inl ⟨_, ns, rfl, SqL.of e3, fun ns' r hp hup hr => ?_⟩
          have : ns' = sortI ns := PySem.W.ksm_same (hp.trans (sortI_perm ns).symm) hup (sortI_up ns)
          subst this
          exact k _ _ _ (R.newL hr (DVs.ints _)) (Stp.push hr) (DV.new R)
        · split at hm
          · rename_i hok
            cases hm
            unfold srtOk at hok
            rw [Bool.and_eq_true, List.all_eq_true, List.all_eq_true] at hok
            obtain ⟨z1, z2, z3⟩ := dvs_zip e4
            have mem : ∀ t ∈ ds.zip vs, t.1 ∈ ds := fun t ht => by rw [← z1]; exact List.mem_map.mpr ⟨t, ht, rfl⟩
            let ps : List (V × PyData) := (ds.zip vs).map fun t => (t.2, encD C t.1)
            have pv : ps.map (·.1) = vs := by rw [← z2]; show List.map _ (List.map _ _) = _; rw [List.map_map, z2]; exact z2
            have pe : ps.map (·.2) = ds.map (encD C) := by
              show List.map _ (List.map _ _) = _
              rw [List.map_map]
              have : ds.map (encD C) = ((ds.zip vs).map (·.1)).map (encD C) := by rw [z1]
              rw [this, List.map_map]; rfl
            have enc : ∀ d ∈ ds, ∃ x r, encD C d = .tuple (x :: r) ∧ py C 70 d = some (encD C d) ∧ (encD C d).depth ≤ 60 := fun d hd => by
              obtain ⟨x, r, e, dpt⟩ := isPairD_at (hok.1 d hd)
              have e' : encD C d = .tuple (x :: r) := by unfold encD; rw [e]; rfl
              exact ⟨x, r, e', by rw [e', e], by rw [e']; exact dpt⟩
            refine .inr ⟨p, ps, rfl, by rw [pv]; exact SqL.of e3, fun t ht => ?_, ?_, ?_, fun t ht => ?_, fun l hl => ?_⟩
            · obtain ⟨t0, h0, rfl⟩ := List.mem_map.mp ht
              obtain ⟨_, _, _, e, _⟩ := enc t0.1 (mem t0 h0)
              exact py_ok R _ (z3 t0 h0) e
            · rw [pe]
              intro a ha b hb
              obtain ⟨d1, h1, rfl⟩ := List.mem_map.mp ha
              obtain ⟨d2, h2, rfl⟩ := List.mem_map.mp hb
              exact List.all_eq_true.mp (hok.2 d1 h1) d2 h2
            · rw [pe]
              refine .inl fun a ha => ?_
              obtain ⟨d1, h1, rfl⟩ := List.mem_map.mp ha
              obtain ⟨x, r, e, _⟩ := enc d1 h1
              exact ⟨x, r, e⟩
            · obtain ⟨t0, h0, rfl⟩ := List.mem_map.mp ht
              obtain ⟨_, _, _, _, e⟩ := enc t0.1 (mem t0 h0)
              exact e
            · let ts := (ds.zip vs).mergeSort fun a b => PySem.W.dataLe false (encD C) a.1 b.1
              have s1 : ds.mergeSort (PySem.W.dataLe false (encD C)) = ts.map (·.1) := by
                have := List.map_mergeSort (r := fun (a b : D × V) => PySem.W.dataLe false (encD C) a.1 b.1) (s := PySem.W.dataLe false (encD C)) (f := (·.1)) (l := ds.zip vs) fun _ _ _ _ => rfl
                rw [z1] at this; exact this.symm
              have s2 : (ps.mergeSort (PySem.W.dataLe false (·.2))).map (·.1) = ts.map (·.2) := by
                have := List.map_mergeSort (r := fun (a b : D × V) => PySem.W.dataLe false (encD C) a.1 b.1) (s := PySem.W.dataLe false (fun p : V × PyData => p.2)) (f := fun t : D × V => (t.2, encD C t.1)) (l := ds.zip vs) fun _ _ _ _ => rfl
                have e : ps.mergeSort (PySem.W.dataLe false (·.2)) = ts.map fun t => (t.2, encD C t.1) := this.symm
                rw [e, List.map_map]; rfl
              rw [s2]
              have dts : DVsF F ρ H (ts.map (·.1)) (ts.map (·.2)) := dvs_of fun t ht => z3 t (List.mem_mergeSort.mp ht)
              rw [← s1] at dts
              exact k _ _ _ (R.newL hl dts) (Stp.push hl) (DV.new R)
          · cases hm
    · cases hm
  · cases hm
end Mi
set_option Elab.async false
set_option linter.all false
set_option maxRecDepth 100000
set_option maxHeartbeats 4000000
namespace Mi
open PySem PySem.Spec PyProof.Rows L2
/-! ## sorted(set(a list of ints)) -/
abbrev emptySet (w : World) : Obj := { cls := .type "set", dict := none, data := .set #[] 0 (.fresh 0 0 (!w.params.followText "set-order")) }
section
variable {P : Program} {w : World} {A : Around} {E : Value → Shared → Prop} {s : Shared}
set_option maxHeartbeats 3200000 in
theorem set_of_ints {l : Addr} {items : Array Value} (ns : List Int) {Q : Value → Shared → Prop} (noH : A.handled = none) (isl : s.heap.IsList l items) (ixs : IntsAre items.toList ns) (few : ns.length + 1 < scanBound)
    (fin : ∀ (h' : Heap) (tk c : Nat), SetR w h' s.heap.objs.size (fun j => decide (j ∈ ns)) c → c ≤ ns.length → (∀ b o, s.heap.get? b = some o → h'.get? b = some o) → Q (.ref s.heap.objs.size) { s with heap := h', toks := tk }) : wpAny (model P w) A (call (.type "set") [.ref l]) Q E s := by
  have sz : items.size = ns.length := by have q := IntsAre.length ixs; rwa [Array.length_toList] at q
  obtain ⟨c, tl, mro⟩ := PySem.F.called_set.mro
  have m1 := PySem.F.called_set.made
  have m2 := PySem.F.called_set.sub
  refine wpAny_call (codeAny_of_tree ?_); show wpAny _ _ (callAny (.type "set") _) _ _ _
  refine wpAny_pure ⟨Code.quiet_builtin _ (by decide +kernel), codeAny_builtin PySem.F.entry_type_call ?_⟩
  rw [Around.under_plain (weight_type_call_type "set" [.ref l] []) rfl]
  have m3 := PySem.F.called_set.notType
  have m4 := PySem.F.called_set.canCreate
  have m5 := PySem.F.typeCall_set_1 (.ref l)
  repeat (any_goals (first | assumption | wp_step))
  refine codeAny_mono (code_set_led1 (.ref l) (E := E) (Q₁ := fun obj t => obj = .ref s.heap.objs.size ∧ t = { s with heap := s.heap.push (emptySet w) }) ⟨rfl, rfl⟩) fun r t hr => ?_
  match r, hr with
  | .error e, hr => exact hr
  | .ok .next, hr => exact hr.elim
  | .ok .brk, hr => exact hr.elim
  | .ok .cont, hr => exact hr.elim
  | .ok (.ret obj), hr =>
    obtain ⟨rfl, rfl⟩ := hr
    have gS : (s.heap.push (emptySet w)).get? s.heap.objs.size = some (emptySet w) := Heap.get?_push_size _ rfl
    have tS : Shared.TypeIs { s with heap := s.heap.push (emptySet w) } (.ref s.heap.objs.size) "set" := ⟨_, gS, rfl⟩
    have i1 := PySem.F.called_set.init.lookup
    have i2 := PySem.F.called_set.init.bind (.ref s.heap.objs.size)
    repeat (any_goals (first | assumption | wp_step))
    refine codeAny_mono (codeAny_call_builtin (R := wants (fun r t => r = .none ∧ ∃ h' tk c, t = { s with heap := h', toks := tk } ∧ SetR w h' s.heap.objs.size (fun j => decide (j ∈ ns)) c ∧ c ≤ ns.length ∧ ∀ b o, s.heap.get? b = some o → h'.get? b = some o) E) PySem.F.called_set.init.plain PySem.F.entry_set_init (check_set_init_1 tS ?_)) fun r₂ t₂ hr₂ => ?_
    · obtain ⟨ol, hol, cl, nl, dl⟩ := isl
      obtain ⟨oc, od, odt, osl⟩ := ol
      simp only at cl dl
      subst cl dl
      have j0 : (s.heap.push (emptySet w)).get? l = some { cls := .type "list", dict := od, data := .seq items nl, slots := osl } := Heap.get?_push_of_some _ hol
      have j1 := PySem.F.sub_list_set
      have j2 := PySem.F.sub_list_frozenset
      have j3 : (Value.type "list" == Value.type "dict") = false := by decide
      have j4 : (s.heap.push (emptySet w)).IsList l items := ⟨_, j0, rfl, nl, rfl⟩
      unfold Builtin.«set.__init__» noKeywords Builtin.Frozenset.updateFrom
      generalize hIt : pyIter = It
      wp_walk
      subst hIt
      refine wpAny_pyIter_list j4 (wpAny_bind (wpAny_runValue ?_))
      have ll : l < s.heap.objs.size := Heap.lt_size hol
      have noH3 : A.in1.in1.in1.handled = none := by simp [noH]
      have z1 : (s.heap.push (emptySet w)).objs.size = s.heap.objs.size + 1 := Heap.size_push ..
      have lI : l ≠ (s.heap.push (emptySet w)).objs.size := by rw [z1]; exact Nat.ne_of_lt (Nat.lt_succ_of_lt ll)
      have nS : s.heap.objs.size ∉ [(s.heap.push (emptySet w)).objs.size, l] := by
        rw [z1]
        intro z
        rcases List.mem_cons.mp z with z | z
        · exact absurd z (Nat.ne_of_lt (Nat.lt_succ_self _))
        · exact absurd (List.mem_singleton.mp z) (Nat.ne_of_gt ll)
      have val : ∀ (i : Nat) (v : Value), items[i]? = some v → ∃ k t, ns[i]? = some k ∧ v = .int k t := fun i v hv => by
        have hi : i < ns.length := by rw [← sz]; exact (Array.getElem?_eq_some_iff.mp hv).1
        obtain ⟨t, e⟩ := IntsAre.int_at ixs i v (by rw [Array.getElem?_toList]; exact hv)
        refine ⟨ns[i], t, List.getElem?_eq_getElem hi, ?_⟩
        rw [e, List.getD_eq_getElem?_getD, List.getElem?_eq_getElem hi]; rfl
      refine set_update_ints ((Walks.list noH3 _ l lI items).toS) s.heap.objs.size nS ns sz few val (items.size - 0) 0 _ (by omega) (Nat.zero_le _) ⟨⟨_, Heap.get?_push_size _ rfl, rfl, rfl⟩, (j4.push _)⟩ ?start ?stop
      case start => exact ⟨0, Nat.le_refl 0, setR_new_at (Heap.get?_push_of_some _ gS)⟩
      case stop =>
        intro t' c' mv hc' hS'
        obtain ⟨h', g2, d', tk', os'⟩ := t'
        have eg : g2 = s.gens := mv.gens
        have ed : d' = s.drawn := mv.drawn
        have eo : os' = s.os := mv.os
        subst eg ed eo
        refine wpAny_pure ?_
        rw [sz] at hc'
        refine wpAny_pure ⟨rfl, h', tk', c', rfl, hS', hc', fun b o e => ?_⟩
        have hb0 : b < s.heap.objs.size := Heap.lt_size e
        refine mv.heap b o (fun z => ?_) (Heap.get?_push_of_some _ (Heap.get?_push_of_some _ e))
        rcases List.mem_cons.mp z with z | z
        · exact absurd z (Nat.ne_of_lt hb0)
        · rw [z1] at z
          exact absurd (List.mem_singleton.mp z) (Nat.ne_of_lt (Nat.lt_succ_of_lt hb0))
    · match r₂, hr₂ with
      | .error e, hr₂ => exact hr₂
      | .ok .next, hr₂ => exact hr₂.elim
      | .ok .brk, hr₂ => exact hr₂.elim
      | .ok .cont, hr₂ => exact hr₂.elim
      | .ok (.ret r), hr₂ =>
        obtain ⟨rfl, h', tk, c', rfl, hS', hc', hk'⟩ := hr₂
        repeat (any_goals (first | assumption | wp_step))
        exact fin _ _ _ hS' hc' hk'
end
def rSetLI (w : World) (K : PySem.W.Frag) : List V → Hp → VK → Prop := fun xs H Q => ∃ (l : Addr) (ns : List Int), xs = [V.ref l] ∧ SqL K H l (ns.map V.int) ∧ ns.length + 1 < scanBound ∧ ∀ a n, H a = none → n ≤ ns.length → Q (.ref a) (upd H a (SetO w a (fun j => decide (j ∈ ns)) n))
theorem cr_setLI {X : Cx} (hc : X.calm = true) : CallR X (.type "set") (rSetLI X.w X.K) := by
  intro pins s σ H xs us Q I r h
  obtain ⟨l, ns, rfl, hs, few, q⟩ := h
  obtain ⟨its, rv, pl, hz⟩ := I.list hs
  rw [Vals.ref1 r]
  refine set_of_ints ns (I.ok.hd hc) pl.isList (by simpa using rv.ints) few fun h' tk c hS hcn hk => ?_
  exact ⟨.ref _, _, I.laid (t' := tk) hk (Nat.le_refl _) (setO_new hS), rfl, q _ c (I.hok.fresh (Nat.le_refl _)) hcn⟩
/-- the members, upwards, each once -/
def dedup : List Int → List Int
  | a :: b :: r => if a = b then dedup (b :: r) else a :: dedup (b :: r)
  | l => l
theorem dedup_mem (k : Int) : ∀ l : List Int, k ∈ dedup l ↔ k ∈ l
  | [] => by simp [dedup]
  | [a] => by simp [dedup]
  | a :: b :: r => by
    have ih := dedup_mem k (b :: r)
    unfold dedup
    split
    · rename_i e
      subst e
      rw [ih]
      simp
    · rw [List.mem_cons, ih, List.mem_cons]
      simp only [List.mem_cons]
theorem dedup_head : ∀ (b : Int) (r : List Int), ∃ t, dedup (b :: r) = b :: t
  | b, [] => ⟨[], rfl⟩
  | b, c :: r => by
    unfold dedup
    split
    · rename_i e
      subst e
      exact dedup_head b r
    · exact ⟨_, rfl⟩
theorem dedup_up : ∀ l : List Int, l.Pairwise (· ≤ ·) → (dedup l).Pairwise (· < ·)
  | [], _ => by simp [dedup]
  | [a], _ => by simp [dedup]
  | a :: b :: r, h => by
    have h1 := List.pairwise_cons.mp h
    have ih := dedup_up (b :: r) h1.2
    unfold dedup
    split
    · exact ih
    · rename_i ne
      refine List.pairwise_cons.mpr ⟨fun k hk => ?_, ih⟩
      have hk := (dedup_mem k _).mp hk
      have hb := h1.1 b (by simp)
      have h2 := List.pairwise_cons.mp h1.2
      rcases List.mem_cons.mp hk with e | e
      · subst e; omega
      · have := h2.1 k e; omega
theorem up_unique : ∀ {l m : List Int}, l.Pairwise (· < ·) → m.Pairwise (· < ·) → (∀ k, k ∈ l ↔ k ∈ m) → l = m
  | [], [], _, _, _ => rfl
  | [], b :: m, _, _, h => absurd ((h b).mpr (by simp)) (by simp)
  | a :: l, [], _, _, h => absurd ((h a).mp (by simp)) (by simp)
  | a :: l, b :: m, h1, h2, h => by
    have p1 := List.pairwise_cons.mp h1
    have p2 := List.pairwise_cons.mp h2
    have e : a = b := by
      have ha := (h a).mp (by simp)
      have hb := (h b).mpr (by simp)
      rcases List.mem_cons.mp ha with e | e
      · exact e
      · rcases List.mem_cons.mp hb with e' | e'
        · exact e'.symm
        · have x1 := p1.1 b e'
          have x2 := p2.1 a e
          omega
    subst e
    congr 1
    refine up_unique p1.2 p2.2 fun k => ⟨fun hk => ?_, fun hk => ?_⟩
    · rcases List.mem_cons.mp ((h k).mp (List.mem_cons_of_mem _ hk)) with e | e
      · have := p1.1 k hk; omega
      · exact e
    · rcases List.mem_cons.mp ((h k).mpr (List.mem_cons_of_mem _ hk)) with e | e
      · have := p2.1 k hk; omega
      · exact e
def mSrtSet (me : ME) : ME := fun E C => (me E C).bind fun p => (seqOf p.2 p.1).bind fun ds => (intsOf ds).bind fun ns => if ns.length < 63 then some (.cell p.2.length, p.2 ++ [.lst ((dedup (sortI ns)).map D.int)]) else none
section
variable {F : Fm} {e : Expr} {me : ME} {p q pos pos2 : Pos}
def isLstD : D → Bool
  | .tup _ => false
  | _ => true
def mSrtSetL (me : ME) : ME := fun E C => (me E C).bind fun p => if isLstD p.1 = true then (seqOf p.2 p.1).bind fun ds => (intsOf ds).bind fun ns => if ns.length < 63 then some (.cell p.2.length, p.2 ++ [.lst ((dedup (sortI ns)).map D.int)]) else none else none
theorem se_srtSet (hm : F.mg "sorted" = none) (hm2 : F.mg "set" = none) (he : SE F e me) (hg : F.sc.names.lookup (Str.ofString "sorted") = some .globalImplicit := by rfl) (hg2 : F.sc.names.lookup (Str.ofString "set") = some .globalImplicit := by rfl)
    (h1 : ∀ env : Env, starEach [.Call (.Name "set" q) [e] [] pos2] env = (false, eval (.Call (.Name "set" q) [e] [] pos2) env) :: starEach [] env := by intro _; rfl) (h2 : ∀ env : Env, starEach [e] env = (false, eval e env) :: starEach [] env := by intro _; rfl)
    (hp1 : ∀ env : Env, (backTo pos (starEach [] env)).any (·.1) = false := by intro _; rfl) (hp2 : ∀ env : Env, (backTo pos2 (starEach [] env)).any (·.1) = false := by intro _; rfl)
    (ha1 : ∀ (X : Cx) (te : TE), PE X (.Call (.Name "set" q) [e] [] pos2) te → PA X [.Call (.Name "set" q) [e] [] pos2] (tCons te tNil) := by intro X te h; exact pa_cons h pa_nil) (ha2 : ∀ (X : Cx) (te : TE), PE X e te → PA X [e] (tCons te tNil) := by intro X te h; exact pa_cons h pa_nil) :
    SE F (.Call (.Name "sorted" p) [.Call (.Name "set" q) [e] [] pos2] [] pos) (mSrtSetL me) := by
  obtain ⟨t, pt, st⟩ := he
  refine ⟨_, fun X h => pe_callB (show CallR X (.builtin "sorted") (rSortedSet F.w) by rw [← h.w]; exact cr_sortedSet h.calm) (h.gl hg) (by rw [h.mg]; exact hm) (by decide +kernel) (ha1 X _ (pe_callTy (show CallR X (.type "set") (rSetLI F.w F.K) by rw [← h.w, ← h.K]; exact cr_setLI h.calm) (h.gl hg2) (by rw [h.mg]; exact hm2) (by decide +kernel) (ha2 X t (pt X h)) (by decide) (by decide) (h2 _) (hp2 _))) (by decide) (by decide) (h1 _) (hp1 _), fun ρ C H E σ d C' Q R eo hm k => ?_⟩
  obtain ⟨⟨x, C1⟩, e1, hm⟩ := obind hm
  simp only at hm
  split at hm
  · rename_i hl
    obtain ⟨ds, e2, hm⟩ := obind hm
    obtain ⟨ns, e3, hm⟩ := obind hm
    split at hm
    · rename_i few
      cases hm
      refine st ρ C H E σ x C1 _ R eo e1 fun ρ1 H1 v1 R1 s1 d1 => ?_
      have isl : ∃ a, v1 = V.ref a ∧ SqL F.K H1 a (ns.map V.int) := by
        cases x with
        | tup _ => cases hl
        | rol ms =>
          cases e2
          cases d1 with | rol h =>
            have ev := intsOf_ok (K := F.K) (ft := F.ft) (ρ := ρ1) (H := H1) (DVs.ints ms) e3
            exact ⟨_, rfl, by rw [← ev]; exact h.1⟩
        | cell n =>
          unfold seqOf at e2
          simp only at e2
          split at e2
          · rename_i ds0 qc
            cases e2
            obtain ⟨a, vs, rfl, ea, e4, e5⟩ := R1.lst qc d1
            have ev := intsOf_ok e5 e3
            subst ev
            exact ⟨a, rfl, SqL.of e4⟩
          · cases e2
        | _ => cases e2
      obtain ⟨l, rfl, hs⟩ := isl
      have sb : (64 : Nat) ≤ scanBound := by decide
      refine ⟨l, ns, rfl, hs, by omega, fun a n ha hn => ⟨a, _, n, rfl, upd_same, by omega, fun out pp up mem len hp => ?_⟩⟩
      have eo : out = dedup (sortI ns) := up_unique up (dedup_up _ (sortI_up _)) fun kk => by
        rw [mem kk, dedup_mem, (sortI_perm ns).mem_iff]
        simp
      subst eo
      have R2 := R1.fresh (o := SetO F.w a (fun j => decide (j ∈ ns)) n) ha
      exact k _ _ _ (R2.newL hp (DVs.ints _)) (s1.trans ((Stp.fresh ha).trans (Stp.push hp))) (DV.new R2)
    · cases hm
  · cases hm
end
end Mi
set_option Elab.async false
set_option linter.all false
set_option maxRecDepth 100000
set_option maxHeartbeats 4000000
namespace Mi
open PySem PySem.Spec PyProof.Rows L2
/-! ## a statement under a lock -/
def mLockS (i : Nat) (m : MS) : MS := fun E C => match E[i]? with
  | some (some (.cell n)) => (match C[n]? with
    | some (.dix kvs) => (m E (C.set n (.dxl kvs))).bind fun q => (match q with
      | .nx E' C' => (match C'[n]? with
        | some (.dxl kvs') => some (.nx E' (C'.set n (.dix kvs')))
        | _ => none)
      | _ => none)
    | _ => none)
  | _ => none
section
variable {F : Fm}
/-- the lock of a cell goes -/
theorem unlock_rel {ρ ρ1 : List Addr} {H H1 : Hp} {C1 : Hm} {n : Nat} {a : Addr} {od : Obj} {es : EV} {kvs' : List (MD.MK × D)} (ea : ρ1[n]? = some a) (hao : a ∈ ρ) (e3 : H a = some (mixO F.ft.hash a es)) (R1 : RelF F ρ1 H1 C1) (hf : H1 a = some (.frz od (mixO F.ft.hash a es))) (qc' : C1[n]? = some (.dxl kvs')) (s : Stp ρ H ρ1 H1) :
    RelF F ρ1 (upd H1 a (mixO F.ft.hash a es)) (C1.set n (.dix kvs')) ∧ Stp ρ H ρ1 (upd H1 a (mixO F.ft.hash a es)) ∧ Wk2 F.K ρ1 H1 ρ1 (upd H1 a (mixO F.ft.hash a es)) := by
  obtain ⟨a', es', o', e', ea', e4, mx'⟩ := R1.dxl qc' (.cell ea)
  cases e'
  have w2 : Wk2 F.K ρ1 H1 ρ1 (upd H1 a (mixO F.ft.hash a es)) := Wk2.unlock hf
  have eu : mixO F.ft.hash a es = mixO F.ft.hash a es' := (HO.frz.inj (Option.some.inj (hf.symm.trans e4))).2
  refine ⟨⟨by simp [R1.len], R1.nd, fun j c e => ?_⟩, ⟨s.pre, fun b o q hb => ?_, fun b o q => ?_, fun b xs q => ?_, fun b o u q => ?_⟩, w2⟩
  · by_cases hj : j = n
    · subst hj
      have : j < C1.length := (List.getElem?_eq_some_iff.mp qc').1
      rw [List.getElem?_set_self this] at e
      cases e
      exact ⟨a, ea', es', by rw [upd_same, eu], mx'.mono2 w2⟩
    · rw [List.getElem?_set_ne (Ne.symm hj)] at e
      obtain ⟨b, hb, q⟩ := R1.ok j c e
      refine ⟨b, hb, q.mono2 w2 (upd_ne fun z => hj ?_)⟩
      subst z
      exact nodup_at R1.nd hb ea'
  · rw [upd_ne (show b ≠ a from fun z => hb (by rw [z]; exact hao))]; exact s.keep b o q hb
  · by_cases hb : b = a
    · subst hb; exact ⟨_, upd_same⟩
    · rw [upd_ne hb]; exact s.there b o q
  · rw [upd_ne (show b ≠ a from fun z => by rw [z, e3] at q; cases q)]; exact s.tups b xs q
  · rw [upd_ne (show b ≠ a from fun z => by rw [z, e3] at q; cases q)]; exact s.frzs b o u q
theorem EnvOk.mono2 {K : PySem.W.Frag} {ft : Cfg} {ρ ρ' : List Addr} {H H' : Hp} {E : Ev} {σ : L2.St} (h : EnvOk K ft ρ H E σ) (s : Wk2 K ρ H ρ' H') : EnvOk K ft ρ' H' E σ :=
  ⟨h.len, fun i d e => let ⟨v, a, b⟩ := h.at_ i d e; ⟨v, a, DV.mono2 s b⟩⟩
variable {st : Stmt} {m : MS}
theorem ss_lock (i : Nat) (he : SS F st m) : SS F st (mLockS i m) := by
  obtain ⟨t, p, ev⟩ := he
  refine ⟨tLock t, fun X h => ps_lock (p X h), fun ρ C H E σ o Z R eo hm k => ?_⟩
  unfold mLockS at hm
  split at hm
  · rename_i n qe
    split at hm
    · rename_i kvs qc
      obtain ⟨o1, h1, hm⟩ := obind hm
      split at hm
      · rename_i E' C1
        split at hm
        · rename_i kvs' qc'
          cases hm
          obtain ⟨v, qσ, dv⟩ := eo.at_ i _ qe
          obtain ⟨a, es, rfl, ea, e3, mx⟩ := R.dix qc dv
          refine ⟨a, _, e3, True.intro, fun od => ?_⟩
          have st := Stp.write (o := HO.frz od (mixO F.ft.hash a es)) R ea qc
          have R0 : RelF F ρ (upd H a (.frz od (mixO F.ft.hash a es))) (C.set n (.dxl kvs)) := R.write ea qc ⟨es, od, upd_same, mx.monoW st.wk⟩
          refine ev ρ _ _ E σ _ _ R0 (eo.mono st) h1 ?_
          intro ρ1 H1 σ1 R1 s1 eo1
          have hf : H1 a = some (.frz od (mixO F.ft.hash a es)) := s1.frzs _ _ _ upd_same
          obtain ⟨R2, s2, w2⟩ := unlock_rel (s1.get ea) (List.mem_of_getElem? ea) e3 R1 hf qc' (st.trans s1)
          exact ⟨hf, k ρ1 _ σ1 R2 s2 (eo1.mono2 w2)⟩
        · cases hm
      · cases hm
    · cases hm
  · cases hm
end
end Mi
set_option Elab.async false
set_option linter.all false
set_option maxRecDepth 100000
set_option maxHeartbeats 4000000
namespace Mi
open PySem PySem.Spec PyProof.Rows L2
section
variable {F : Fm} {tg e : Expr} {x : Str} {pos pos' : Pos} {me : ME}
/-- stores whose form the def's scope decides -/
theorem ss_setS (i : Nat) (he : SE F e me) (hs : ∀ env : Env, env.scope = F.sc → swapsWith e (some (.Name x pos')) pos.line env = pure false) (hN : F.N[i]? = some x := by rfl) (hx : Loc F.sc x := by first | exact Or.inl rfl | exact Or.inr rfl) (hf : F.fn x = true ∨ F.sc.names.lookup x = some .local := by first | exact .inl rfl | exact .inr rfl) : SS F (.Assign [.Name x pos'] e pos) (mAsg me (gN i)) := by
  obtain ⟨t, q, s⟩ := he
  refine ⟨_, fun X h => ps_set h.nd (by rw [h.N]; exact hN) (by rw [h.sc]; exact hx) (q X h) (hs _ h.sc) (by rw [h.sc, h.fn]; exact hf), fun ρ C H E σ o Z R eo hm k => ?_⟩
  obtain ⟨⟨x, C1⟩, h1, hm⟩ := obind hm
  cases hm
  exact s ρ C H E σ x C1 _ R eo h1 fun ρ1 H1 v1 R1 s1 d1 => k ρ1 H1 _ R1 s1 ((eo.mono s1).set d1)
theorem ss_asgS {slots : List Nat} {g : MG} (he : SE F e me) (hg : SG F tg slots g) (hw : ∀ env : Env, env.scope = F.sc → swappedStores [tg] e env = pure none) (hs : ∀ env : Env, swapsWithSole [tg] e pos.line env = pure false := by intro _; rfl)
    (h1 : ∀ env : Env, (assignEach [tg] env).map (·.2) = [assign tg env] := by intro _; rfl) : SS F (.Assign [tg] e pos) (mAsg me g) := by
  obtain ⟨t, q, s⟩ := he
  obtain ⟨u, q2, s2⟩ := hg
  refine ⟨_, fun X h => ps_asg (q X h) (q2 X h) (hs _) (hw _ h.sc) (h1 _), fun ρ C H E σ o Z R eo hm k => ?_⟩
  obtain ⟨⟨x, C1⟩, e1, hm⟩ := obind hm
  obtain ⟨E1, e2, hm⟩ := obind hm
  cases hm
  exact s ρ C H E σ x C1 _ R eo e1 fun ρ1 H1 v1 R1 s1 d1 => s2 ρ1 C1 H1 E σ x v1 E1 _ R1 (eo.mono s1) d1 e2 fun σ' eo' _ => k ρ1 H1 σ' R1 s1 eo'
theorem sw_cellD {kx vx : Expr} {gs : List Comprehension} {scope : Scope} {py : Pos} {y : Str} {l : Nat} {env : Env} (hy : env.scope.names.lookup y = some .cell) : swapsWith (.DictComp kx vx gs scope pos) (some (.Name y py)) l env = pure false := by
  have e1 : env.kindOf y = some .cell := hy
  unfold swapsWith
  simp only [e1]
  have : (some NameKind.cell == some NameKind.local) = false := rfl
  simp only [this, Bool.and_false, Bool.false_and]
theorem sw_cellL {elt : Expr} {gs : List Comprehension} {scope : Scope} {py : Pos} {y : Str} {l : Nat} {env : Env} (hy : env.scope.names.lookup y = some .cell) : swapsWith (.ListComp elt gs scope pos) (some (.Name y py)) l env = pure false := by
  have e1 : env.kindOf y = some .cell := hy
  unfold swapsWith
  simp only [e1]
  have : (some NameKind.cell == some NameKind.local) = false := rfl
  simp only [this, Bool.and_false, Bool.false_and]
end
end Mi
set_option Elab.async false
set_option linter.all false
set_option maxRecDepth 100000
set_option maxHeartbeats 4000000
namespace Mi
open PySem PySem.Spec PyProof.Rows L2
/-! ## the order of data -/
def rOrdG (K : PySem.W.Frag) (f : PyData → PyData → Bool) : R2 := fun x y H Q => ∃ p q, Dp K H x p ∧ Dp K H y q ∧ PySem.W.alike p q = true ∧ p ≠ .none ∧ p.depth ≤ 60 ∧ Q (.bl (f p q)) H
theorem op_geG {X : Cx} (hu : X.A.units + 64 < cLine) : OpR X (compareOp .GtE) (rOrdG X.K fun p q => !PySem.W.dataLt p q) := by
  intro pins s σ H x y v u Q I rx ry h
  obtain ⟨p, q, hp, hq, al, nn, dp, k⟩ := h
  obtain ⟨as, r1⟩ := Dp.reads I p x v hp rx
  obtain ⟨bs, r2⟩ := Dp.reads I q y u hq ry
  exact PySem.W.ge_data r1 r2 al nn (by omega) ⟨.bl _, H, I, rfl, k⟩
theorem op_ltG {X : Cx} (hu : X.A.units + 64 < cLine) : OpR X (compareOp .Lt) (rOrdG X.K fun p q => PySem.W.dataLt p q) := by
  intro pins s σ H x y v u Q I rx ry h
  obtain ⟨p, q, hp, hq, al, nn, dp, k⟩ := h
  obtain ⟨as, r1⟩ := Dp.reads I p x v hp rx
  obtain ⟨bs, r2⟩ := Dp.reads I q y u hq ry
  exact PySem.W.lt_data r1 r2 al nn (by omega) ⟨.bl _, H, I, rfl, k⟩
def ordX (g : OD2) (f : PyData → PyData → Bool) : OD2 := fun x y C => match x, y with
  | .tup _, .tup _ => (match py C 60 x, py C 60 y with
    | some p, some q => if PySem.W.alike p q = true ∧ p.depth ≤ 60 then some (.bl (f p q), C) else none
    | _, _ => none)
  | x, y => g x y C
abbrev dGeX : OD2 := ordX dGe fun p q => !PySem.W.dataLt p q
abbrev dLtX : OD2 := ordX dLt fun p q => PySem.W.dataLt p q
section
variable {F : Fm}
theorem tup_nn {C : Hm} {n : Nat} {ds : List D} {p : PyData} (h : py C n (.tup ds) = some p) : p ≠ .none := by
  cases n with
  | zero => cases h
  | succ n =>
    obtain ⟨ps, _, e⟩ := omap (show (ds.mapM (py C n)).map PyData.tuple = some p from h)
    rw [← e]; intro z; cases z
theorem ordX_ok {op : CmpOp} {g : OD2} {f : PyData → PyData → Bool} (hg : SOp F (compareOp op) g) (hf : ∀ X, F.Is X → OpR X (compareOp op) (rOrdG F.K f)) : SOp F (compareOp op) (ordX g f) := by
  obtain ⟨r, hr, s⟩ := hg
  refine ⟨_, fun X h => (hr X h).or (hf X h), fun ρ C H x y vx vy d C' Q R hx hy hm k => ?_⟩
  unfold ordX at hm
  split at hm
  · split at hm
    · rename_i p q e1 e2
      split at hm
      · rename_i hc
        cases hm
        exact .inr ⟨p, q, py_ok R _ hx e1, py_ok R _ hy e2, hc.1, tup_nn e1, hc.2, k.now R (.bl _)⟩
      · cases hm
    · cases hm
  · exact .inl (s ρ C H _ _ vx vy d C' Q R hx hy hm k)
theorem so_geX : SOp F (compareOp .GtE) dGeX := ordX_ok so_ge fun X h => by rw [← h.K]; exact op_geG (Room.u64b h.rm)
theorem so_ltX : SOp F (compareOp .Lt) dLtX := ordX_ok so_lt fun X h => by rw [← h.K]; exact op_ltG (Room.u64b h.rm)
end
/-! ## sorted(set(..)) of a tuple, too -/
def rSetTI (w : World) (K : PySem.W.Frag) : List V → Hp → VK → Prop := fun xs H Q => ∃ (l : Addr) (ns : List Int), xs = [V.ref l] ∧ SqT K H l (ns.map V.int) ∧ ns.length + 1 < scanBound ∧ ∀ a n, H a = none → n ≤ ns.length → Q (.ref a) (upd H a (SetO w a (fun j => decide (j ∈ ns)) n))
theorem cr_setTI {X : Cx} (hc : X.calm = true) : CallR X (.type "set") (rSetTI X.w X.K) := by
  intro pins s σ H xs us Q I r h
  obtain ⟨l, ns, rfl, hs, few, q⟩ := h
  obtain ⟨its, rv, pl, hz⟩ := I.tuple hs
  rw [Vals.ref1 r]
  refine call_set_tupI ns (I.ok.hd hc) pl (by simpa using rv.ints) few fun h' tk c hS hcn hk => ?_
  exact ⟨.ref _, _, I.laid (t' := tk) hk (Nat.le_refl _) (setO_new hS), rfl, q _ c (I.hok.fresh (Nat.le_refl _)) hcn⟩
section
variable {F : Fm} {e : Expr} {me : ME} {p q pos pos2 : Pos}
theorem se_srtSetX (hm : F.mg "sorted" = none) (hm2 : F.mg "set" = none) (he : SE F e me) (hg : F.sc.names.lookup (Str.ofString "sorted") = some .globalImplicit := by rfl) (hg2 : F.sc.names.lookup (Str.ofString "set") = some .globalImplicit := by rfl)
    (h1 : ∀ env : Env, starEach [.Call (.Name "set" q) [e] [] pos2] env = (false, eval (.Call (.Name "set" q) [e] [] pos2) env) :: starEach [] env := by intro _; rfl) (h2 : ∀ env : Env, starEach [e] env = (false, eval e env) :: starEach [] env := by intro _; rfl)
    (hp1 : ∀ env : Env, (backTo pos (starEach [] env)).any (·.1) = false := by intro _; rfl) (hp2 : ∀ env : Env, (backTo pos2 (starEach [] env)).any (·.1) = false := by intro _; rfl)
    (ha1 : ∀ (X : Cx) (te : TE), PE X (.Call (.Name "set" q) [e] [] pos2) te → PA X [.Call (.Name "set" q) [e] [] pos2] (tCons te tNil) := by intro X te h; exact pa_cons h pa_nil) (ha2 : ∀ (X : Cx) (te : TE), PE X e te → PA X [e] (tCons te tNil) := by intro X te h; exact pa_cons h pa_nil) :
    SE F (.Call (.Name "sorted" p) [.Call (.Name "set" q) [e] [] pos2] [] pos) (mSrtSet me) := by
  obtain ⟨t, pt, st⟩ := he
  refine ⟨_, fun X h => pe_callB (show CallR X (.builtin "sorted") (rSortedSet F.w) by rw [← h.w]; exact cr_sortedSet h.calm) (h.gl hg) (by rw [h.mg]; exact hm) (by decide +kernel) (ha1 X _ (pe_callTy ((show CallR X (.type "set") (rSetLI F.w F.K) by rw [← h.w, ← h.K]; exact cr_setLI h.calm).or (show CallR X (.type "set") (rSetTI F.w F.K) by rw [← h.w, ← h.K]; exact cr_setTI h.calm)) (h.gl hg2) (by rw [h.mg]; exact hm2) (by decide +kernel) (ha2 X t (pt X h)) (by decide) (by decide) (h2 _) (hp2 _))) (by decide) (by decide) (h1 _) (hp1 _), fun ρ C H E σ d C' Q R eo hm k => ?_⟩
  obtain ⟨⟨x, C1⟩, e1, hm⟩ := obind hm
  obtain ⟨ds, e2, hm⟩ := obind hm
  obtain ⟨ns, e3, hm⟩ := obind hm
  split at hm
  · rename_i few
    cases hm
    refine st ρ C H E σ x C1 _ R eo e1 fun ρ1 H1 v1 R1 s1 d1 => ?_
    obtain ⟨a, vs, rfl, hs, hd⟩ := seqOf_ok R1 d1 e2
    have ev := intsOf_ok hd e3
    subst ev
    have sb : (64 : Nat) ≤ scanBound := by decide
    have fin : ∀ l n, H1 l = none → n ≤ ns.length → rSortedSet F.w [V.ref l] (upd H1 l (SetO F.w l (fun j => decide (j ∈ ns)) n)) Q := fun l n hl hn => ⟨l, _, n, rfl, upd_same, by omega, fun out pp up mem len hp => by
      have eo : out = dedup (sortI ns) := up_unique up (dedup_up _ (sortI_up _)) fun kk => by
        rw [mem kk, dedup_mem, (sortI_perm ns).mem_iff]
        simp
      subst eo
      have R2 := R1.fresh (o := SetO F.w l (fun j => decide (j ∈ ns)) n) hl
      exact k _ _ _ (R2.newL hp (DVs.ints _)) (s1.trans ((Stp.fresh hl).trans (Stp.push hp))) (DV.new R2)⟩
    rcases hs with hs | hs
    · exact .inl ⟨a, ns, rfl, hs, by omega, fin⟩
    · exact .inr ⟨a, ns, rfl, hs, by omega, fin⟩
  · cases hm
end
end Mi
set_option Elab.async false
set_option linter.all false
set_option maxRecDepth 100000
set_option maxHeartbeats 4000000
namespace PySem.W
open PySem PySem.Calls PySem.SeqAt PyProof.Rows
/-! ## tuples in order, when one of them is empty: they are compared as any objects of one type -/
section
variable {prog : Program} {w : World} {A : Around} {E : Value → Shared → Prop} {s : Shared}
theorem call_tup_lt {Q : Value → Shared → Prop} {l b : Addr} {items items2 : Array Value} {e r : Nat → Bool} (hl : s.heap.IsTuple l items) (hb : s.heap.IsTuple b items2)
    (he : ∀ j (h1 : j < items.size) (h2 : j < items2.size), EqAt A.in1 s items[j] items2[j] (e j)) (hr : ∀ j (h1 : j < items.size) (h2 : j < items2.size), e j = false → RcLt A.in1 s items[j] items2[j] (r j))
    (h : Q (.bool (firstLt e r (decide (items.size < items2.size)) (List.range (min items.size items2.size)))) s) : wpAny (model prog w) A (call (.builtin "tuple.__lt__") [.ref l, .ref b]) Q E s := by
  obtain ⟨⟨cls, dd, data, sl⟩, ho, hc, n, hd⟩ := id hl
  obtain ⟨⟨cls2, dd2, data2, sl2⟩, ho2, hc2, n2, hd2⟩ := id hb
  simp only at hc hd hc2 hd2
  subst hc hd hc2 hd2
  exact call_meets F.slot_tuple_lt ⟨_, ho, rfl⟩ F.entry_tuple_lt (F.args_tuple_lt_2 _ _) (tuple_ltAt l b items items2 n n2 dd dd2 sl sl2 e r) ⟨ho, ho2, he, hr, h⟩
theorem oneLt_tup {xs ys : List PyData} {a b : Value} {as bs : List Addr} {Q : Bool → Shared → Prop} (ra : Reads s.heap a (.tuple xs) as) (rb : Reads s.heap b (.tuple ys) bs) (h : alike (.tuple xs) (.tuple ys) = true)
    (hu : A.units + min (PyData.tuple xs).depth (PyData.tuple ys).depth < cLine) (hq : Q (dataLt (.tuple xs) (.tuple ys)) s) : wpAny (model prog w) A (oneLt' true a b) Q E s := by
  have hal : alikeAll xs ys = true := by simpa [alike] using h
  cases ra with
  | @tuple l o vs n _ as₁ h1 h2 h3 h4 =>
    cases rb with
    | @tuple l' o' vs' n' _ bs₁ k1 k2 k3 k4 =>
      have n1 : vs.size = xs.length := by simpa using ReadsAll.length _ _ _ h4
      have n2 : vs'.size = ys.length := by simpa using ReadsAll.length _ _ _ k4
      rw [dataLt_tuple, ← firstLt_toks xs ys hal, ← n1, ← n2] at hq
      rw [oneLt'_eq]
      simp only [if_true]
      refine wpAny_bind (wpAny_cRoomFor (room_here hu) ?_)
      refine wpAny_bind (wpAny_callSpecialIfBound?_slot (T := "tuple") ⟨_, h1, h2⟩ F.slot_tuple_lt (call_tup_lt (e := pairEq xs ys) (r := fun j => dataLt (xs.getD j .none) (ys.getD j .none)) ⟨_, h1, h2, _, h3⟩ ⟨_, k1, k2, _, k3⟩ (fun j j1 j2 => ?_) (fun j j1 j2 hj => ?_) ?_))
      · have := eqAt_alikeAll xs ys A.in1 s vs.toList vs'.toList _ _ h4 k4 hal (room_in hu) j (by simpa using j1) (by simpa using j2)
        simpa using this
      · have := rcLt_alikeAll xs ys A.in1 s vs.toList vs'.toList _ _ h4 k4 hal (room_in hu) j (by simpa using j1) (by simpa using j2) hj
        simpa using this
      · exact wpAny_truthy_bool hq
end
/-- tuples, the first one empty -/
def EmptyFirst (ds : List PyData) : Prop := (∃ r, ds = .tuple [] :: r) ∧ ∀ d, d ∈ ds → ∃ xs, d = .tuple xs
section
variable {M : Model} {A : Around} {E : Value → Shared → Prop} {s : Shared}
theorem firsts_any : ∀ {vs : List Value} {ds : List PyData} {Q : List (Option Value) → Shared → Prop}, EachIs (fun v d => ∃ as, Reads s.heap v d as) vs ds → (∀ d, d ∈ ds → ∃ xs, d = .tuple xs) →
    (∀ fs : List (Option Value), (∀ r, ds = .tuple [] :: r → ∃ gs, fs = none :: gs) → Q fs s) → wpAny M A (vs.mapM firstOfTuple') Q E s
  | _, _, Q, .nil, _, h => by rw [List.mapM_nil]; exact wpAny_pure (h [] fun r e => by cases e)
  | _, _, Q, .cons (b := d) ⟨as, r⟩ t, ht, h => by
    obtain ⟨xs, rfl⟩ := ht d (List.mem_cons_self ..)
    rw [List.mapM_cons]
    refine wpAny_bind ?_
    rw [kas_first_eq]
    cases r with
    | @tuple a o vs n _ _ ho hc hd hr =>
      refine wpAny_bind (Looks.here (show Looks M s.heap (typeOf (.ref a)) o.cls from (Looks.ld ho).andThen .now) ?_)
      rw [hc, if_neg (by first | decide | simp)]
      refine wpAny_bind (listItems_at ho hd (wpAny_pure ?_))
      refine wpAny_bind (firsts_any t (fun d hd => ht d (List.mem_cons_of_mem _ hd)) fun fs _ => wpAny_pure (h _ fun r e => ?_))
      cases e
      have : vs.toList = [] := by
        cases q : vs.toList with
        | nil => rfl
        | cons _ _ => rw [q] at hr; cases hr
      refine ⟨fs, ?_⟩
      have e : vs[0]? = none := by rw [← Array.getElem?_toList, this]; rfl
      rw [e]
theorem kind_empty {vs : List Value} {ds : List PyData} {Q : SortKind → Shared → Prop} (e : EachIs (fun v d => ∃ as, Reads s.heap v d as) vs ds) (hE : EmptyFirst ds) (h : Q oneType' s) : wpAny M A (keyKind' vs.toArray) Q E s := by
  obtain ⟨⟨r, rfl⟩, ht⟩ := hE
  rw [kat_kind_eq, List.mapM_toArray, map_eq_pure_bind]
  refine wpAny_bind (wpAny_bind (firsts_any e ht fun fs hfs => ?_))
  obtain ⟨gs, rfl⟩ := hfs r rfl
  refine wpAny_pure ?_
  rw [if_neg (by simp), if_neg (by simp)]
  cases e with
  | @cons v d vs' ds' h0 h1 =>
    rw [oneTypeOnly'_eq, List.mapM_toArray, map_eq_pure_bind]
    have looks : ∀ u ∈ v :: vs', Looks M s.heap (typeOf u) (Value.type "tuple") := fun u hu => by
      obtain ⟨d, hd, as, rd⟩ := (EachIs.cons h0 h1).left u hu
      obtain ⟨xs, rfl⟩ := ht d hd
      exact looks_reads rd
    refine wpAny_bind (wpAny_bind (wpAny_bind (kas_mapM (r := Value.type "tuple") _ (fun v hv Q' hq => (looks v hv).here hq) (wpAny_pure ?_))))
    have hall : ((List.map (fun _ => Value.type "tuple") (v :: vs')).toArray.all fun x => x == Value.type "tuple") = true := by
      simp only [List.all_toArray, List.all_map, List.all_eq_true]
      intro _ _
      rfl
    have h0 : (List.map (fun _ => Value.type "tuple") (v :: vs')).toArray[0]? = some (Value.type "tuple") := by simp
    rw [h0]
    simp only [hall, if_true]
    exact wpAny_pure (wpAny_pure h)
end
section
variable {prog : Program} {w : World} {A : Around} {E : Value → Shared → Prop} {s : Shared} {β : Type} {vs : List Value} {bs : List β} {enc : β → PyData} {R : Value → β → Prop}
theorem SortsAt.empties {vs : List Value} {ds : List PyData} (e : EachIs (fun v d => ∃ as, Reads s.heap v d as) vs ds) (hal : AllAlike ds) (hE : EmptyFirst ds) (hu : ∀ d, d ∈ ds → A.units + d.depth < cLine) : SortsAt prog w A s (dataKind s.heap ds) vs := by
  have room : ∀ {d d' : PyData}, d ∈ ds → A.units + min d.depth d'.depth < cLine := fun {d d'} hd => Nat.lt_of_le_of_lt (Nat.add_le_add_left (Nat.min_le_left _ _) _) (hu d hd)
  refine ⟨fun v hv => ?_, oneType', ?_, fun h2 E Q hq => kind_empty e hE hq⟩
  · obtain ⟨d, hd, as, r⟩ := e.left v hv
    exact ⟨_, dataKind_some hal hd r⟩
  · intro E x y a b Q ha hb hq
    obtain ⟨d, as, hd, ra, rfl⟩ := dataKind_inv ha
    obtain ⟨d', as', hd', rb, rfl⟩ := dataKind_inv hb
    rw [keyLt'_oneType]
    obtain ⟨xs, rfl⟩ := hE.2 d hd
    obtain ⟨ys, rfl⟩ := hE.2 d' hd'
    exact oneLt_tup ra rb (hal _ hd _ hd') (room hd) hq
theorem sorted_empties {l : Addr} {Q : Value → Shared → Prop} (hl : s.heap.IsList l vs.toArray) (e : EachIs R vs bs) (er : EachIs (fun v b => ∃ as, Reads s.heap v (enc b) as) vs bs) (hal : AllAlike (bs.map enc)) (hk : EmptyFirst (bs.map enc)) (hL : bs.length ≤ sizeLine)
    (hu : ∀ b, b ∈ bs → A.units + 2 + (enc b).depth < cLine) (h : ∀ out, out.length = bs.length → EachIs R out (bs.mergeSort (dataLe false enc)) → Q (.ref (s.heap.objs.size + 1)) { s with heap := sortedAll s.heap vs (List.toArray out) }) :
    wpAny (model prog w) A (call (.builtin "sorted") [.ref l]) Q E s := by
  have er' : EachIs (fun v b => ∃ as, Reads (sortingHeap (copyHeap s.heap vs) (s.heap.objs.size + 1) vs) v (enc b) as) vs bs := er.mono fun _ _ ⟨as, r⟩ => ⟨as, PyProof.Rows.Reads.keeps (fun _ _ => sorting_copy_old) r⟩
  exact sorted_vals hl (SortsAt.empties (s := { s with heap := sortingHeap (copyHeap s.heap vs) (s.heap.objs.size + 1) vs }) (each_map (R := fun v d => ∃ as, Reads (sortingHeap (copyHeap s.heap vs) (s.heap.objs.size + 1) vs) v d as) enc er') hal hk (bound_map hu)) (by rw [e.length]; exact hL)
    (h _ (by rw [sortVals_length false rfl]; exact e.length) (sortVals_data false e er' hal))
end
end PySem.W
set_option Elab.async false
set_option linter.all false
set_option maxRecDepth 100000
set_option maxHeartbeats 4000000
namespace Mi
open PySem PySem.Spec PyProof.Rows L2
/-! ## {elt for .. in .. if .. for .. in .. if ..}: a set of ints, of two clauses -/
abbrev SC2 (elt t0 i0 t1 i1 : Expr) (fs0 fs1 : List Expr) (scope : Scope) (pos : Pos) : Expr := .SetComp elt [⟨t0, i0, fs0, 0⟩, ⟨t1, i1, fs1, 0⟩] scope pos
section
variable {elt t0 i0 t1 i1 : Expr} {fs0 fs1 : List Expr} {scope : Scope} {pos : Pos} {env : Env}
abbrev tstF (fs : List Expr) (env : Env) : Sem Bool := forIn fs true fun c r => if r = true then do let ok ← isTrue c env (eval c env); pure (ForInStep.yield ok) else pure (ForInStep.yield r)
theorem scTurn0 (it acc : Value) : compTurn (SC2 elt t0 i0 t1 i1 fs0 fs1 scope pos) 0 it acc env = (do
      standAt i0.pos
      match ← pyNext it with
      | none => pure (.done .next)
      | some v =>
        letOwnedTupleGo t0 it v
        assign t0 env v
        let ok ← tstF fs0 env
        if ok then
          let x ← eval i1 env
          standAt i1.pos
          let x ← foldedSetIterable i1 env x
          let _ ← runOwn (.compStart (SC2 elt t0 i0 t1 i1 fs0 fs1 scope pos) 1 (← holding [x] (pyIter x)) acc env) env
        again (.compLoop (SC2 elt t0 i0 t1 i1 fs0 fs1 scope pos) 0 it acc env)) := by rfl
theorem scTurn1 (it acc : Value) : compTurn (SC2 elt t0 i0 t1 i1 fs0 fs1 scope pos) 1 it acc env = (do
      standAt i1.pos
      match ← pyNext it with
      | none => pure (.done .next)
      | some v =>
        letOwnedTupleGo t1 it v
        assign t1 env v
        let ok ← tstF fs1 env
        if ok then
          (do let v ← eval elt env; standAt elt.pos; let _ ← call (.builtin "set.add") [acc, v])
        again (.compLoop (SC2 elt t0 i0 t1 i1 fs0 fs1 scope pos) 1 it acc env)) := by rfl
end
section
variable {prog : Program} {w : World} {A : Around} {R : Result → Shared → Prop} {s : Shared} {elt t0 i0 t1 i1 : Expr} {fs0 fs1 : List Expr} {scope : Scope} {pos : Pos} {it acc : Value} {env : Env}
/-- what is wanted where something is raised -/
abbrev XR (prog : Program) (w : World) (A : Around) (env : Env) (R : Result → Shared → Prop) : Value → Shared → Prop := notedBy (model prog w) A env fun e s' => R (.error e) s'
theorem scLoop0 (hs : ∀ x, foldedSetIterable i1 env x = pure x) (I : Nat → Shared → Prop)
    (turn : ∀ n s, I n s → wpAny (model prog w) A (pyNext it) (fun r s₁ => match r with
      | none => R (.ok .next) s₁
      | some v => wpAny (model prog w) A (letOwnedTupleGo t0 it v) (fun _ s₁' => wpAny (model prog w) A (assign t0 env v) (fun _ s₂ =>
          wpAny (model prog w) A (tstF fs0 env) (fun ok s₃ => if ok = true then wpAny (model prog w) A (eval i1 env) (fun x s₄ => wpAny (model prog w) A (pyIter x) (fun it1 s₅ =>
              codeAny (model prog w) A (.compStart (SC2 elt t0 i0 t1 i1 fs0 fs1 scope pos) 1 it1 acc env) (fun r s' => match r with
                | .ok _ => ∃ m, m < n ∧ I m s'
                | .error _ => False) s₅) (XR prog w A env R) s₄) (XR prog w A env R) s₃
            else ∃ m, m < n ∧ I m s₃) (XR prog w A env R) s₂) (XR prog w A env R) s₁') (XR prog w A env R) s₁) (XR prog w A env R) s)
    (n : Nat) (h : I n s) : codeAny (model prog w) A (.compLoop (SC2 elt t0 i0 t1 i1 fs0 fs1 scope pos) 0 it acc env) R s := by
  refine codeAny_loop rfl I (fun n s hI => ?_) n h
  show wpAny _ A ((compTurn (SC2 elt t0 i0 t1 i1 fs0 fs1 scope pos) 0 it acc env).onRaise (fun x => do noteFrame x env; theTreesLotGoes x)) _ _ s
  refine wpAny_noted ?_
  rw [scTurn0]
  refine wpAny_bind (wpAny_standAt (wpAny_bind (wpAny_mono (turn n s hI) (fun r s1 g1 => ?_) fun _ _ z => z)))
  cases r with
  | none => exact wpAny_pure g1
  | some v =>
    refine wpAny_bind (wpAny_mono g1 (fun _ s2 g2 => ?_) fun _ _ z => z)
    refine wpAny_bind (wpAny_mono g2 (fun _ s3 g3 => ?_) fun _ _ z => z)
    refine wpAny_bind (wpAny_mono g3 (fun ok s4 g4 => ?_) fun _ _ z => z)
    cases ok with
    | false => exact wpAny_pure ⟨rfl, g4⟩
    | true =>
      refine wpAny_bind (wpAny_mono g4 (fun x s5 g5 => ?_) fun _ _ z => z)
      refine wpAny_bind (wpAny_standAt (wpAny_bind (wpAny_of_eq (hs x) (wpAny_bind (wpAny_holding (wpAny_mono g5 (fun it1 s6 g6 => ?_) fun _ _ z => z))))))
      refine wpAny_bind (wpAny_runOwn ?_)
      rw [Around.mark_none]
      refine codeAny_mono g6 fun r s' hr => ?_
      cases r with
      | ok f => first | exact wpAny_pure ⟨rfl, hr⟩ | exact wpAny_bind (wpAny_pure (wpAny_pure ⟨rfl, hr⟩))
      | error e => exact hr.elim
theorem scLoop1 (I : Nat → Shared → Prop)
    (turn : ∀ n s, I n s → wpAny (model prog w) A (pyNext it) (fun r s₁ => match r with
      | none => R (.ok .next) s₁
      | some v => wpAny (model prog w) A (letOwnedTupleGo t1 it v) (fun _ s₁' => wpAny (model prog w) A (assign t1 env v) (fun _ s₂ =>
          wpAny (model prog w) A (tstF fs1 env) (fun ok s₃ => if ok = true then wpAny (model prog w) A (eval elt env) (fun x s₄ =>
              wpAny (model prog w) A (call (.builtin "set.add") [acc, x]) (fun _ s₅ => ∃ m, m < n ∧ I m s₅) (XR prog w A env R) s₄) (XR prog w A env R) s₃
            else ∃ m, m < n ∧ I m s₃) (XR prog w A env R) s₂) (XR prog w A env R) s₁') (XR prog w A env R) s₁) (XR prog w A env R) s)
    (n : Nat) (h : I n s) : codeAny (model prog w) A (.compLoop (SC2 elt t0 i0 t1 i1 fs0 fs1 scope pos) 1 it acc env) R s := by
  refine codeAny_loop rfl I (fun n s hI => ?_) n h
  show wpAny _ A ((compTurn (SC2 elt t0 i0 t1 i1 fs0 fs1 scope pos) 1 it acc env).onRaise (fun x => do noteFrame x env; theTreesLotGoes x)) _ _ s
  refine wpAny_noted ?_
  rw [scTurn1]
  refine wpAny_bind (wpAny_standAt (wpAny_bind (wpAny_mono (turn n s hI) (fun r s1 g1 => ?_) fun _ _ z => z)))
  cases r with
  | none => exact wpAny_pure g1
  | some v =>
    refine wpAny_bind (wpAny_mono g1 (fun _ s2 g2 => ?_) fun _ _ z => z)
    refine wpAny_bind (wpAny_mono g2 (fun _ s3 g3 => ?_) fun _ _ z => z)
    refine wpAny_bind (wpAny_mono g3 (fun ok s4 g4 => ?_) fun _ _ z => z)
    cases ok with
    | false => exact wpAny_pure ⟨rfl, g4⟩
    | true =>
      refine wpAny_bind (wpAny_bind (wpAny_mono g4 (fun x s5 g5 => ?_) fun _ _ z => z))
      refine wpAny_bind (wpAny_standAt (wpAny_bind (wpAny_mono g5 (fun _ s6 g6 => ?_) fun _ _ z => z)))
      exact wpAny_pure (wpAny_pure ⟨rfl, g6⟩)
theorem scStart (d : Nat) (hd : d = 0 ∨ d = 1) (h0 : codeAny (model prog w) A (.compLoop (SC2 elt t0 i0 t1 i1 fs0 fs1 scope pos) d it acc env) R s)
    (h : wpAny (model prog w) A (pyIter it) (fun it' s' => codeAny (model prog w) A (.compLoop (SC2 elt t0 i0 t1 i1 fs0 fs1 scope pos) d it' acc env) R s') (XR prog w A env R) s) :
    codeAny (model prog w) A (.compStart (SC2 elt t0 i0 t1 i1 fs0 fs1 scope pos) d it acc env) R s := by
  refine codeAny_of_tree ?_
  show wpAny _ _ ((compStart (SC2 elt t0 i0 t1 i1 fs0 fs1 scope pos) d it acc env).onRaise (fun x => do noteFrame x env; standAt theWindowsPlace)) _ _ s
  refine wpAny_notedAt ?_
  rcases hd with rfl | rfl
  all_goals
    unfold compStart
    show wpAny _ _ (ask >>= _) _ _ s
    refine wpAny_bind (wpAny_askSetting (wpAny_ite ?_))
    split
    · first
        | exact wpAny_bind (wpAny_pure (wpAny_pure (And.intro rfl h0)))
        | exact wpAny_pure (And.intro rfl h0)
    · refine wpAny_bind (wpAny_rule ?_)
      show wpAny _ _ (standAt _ >>= _) _ _ s
      exact wpAny_bind (wpAny_standAt (wpAny_bind (wpAny_mono h (fun it' s' h' => wpAny_pure (And.intro rfl h')) fun _ _ x => x)))
end
end Mi
set_option Elab.async false
set_option linter.all false
set_option maxRecDepth 100000
set_option maxHeartbeats 4000000
namespace Mi
open PySem PySem.Spec PyProof.Rows L2
/-- what the inner clause asks: Nx is reached when its source is through -/
def tScIn (D : Addr) (w : World) (g1 : TG) (tt1 : TT) (te : TE) (vs1 : List Nat) (σ2 : L2.St) (J1 : It) (Nx : Hp → Prop) (H4 : Hp) : Prop :=
  ∃ W1 : Nat → Nat → Hp → Prop, (∃ m, W1 0 m H4) ∧ ∀ j k H, W1 j k H → (J1.stop j H ∧ Nx H) ∨ (J1.go j H ∧ ∃ N1 : Hp → Prop, (∀ H', N1 H' → ∃ k', k' < k ∧ W1 (j + 1) k' H') ∧
    ∀ x H', J1.yld j H x H' → g1 x (wipe σ2 vs1) H' fun σ3 H5 => wipe σ3 vs1 = wipe σ2 vs1 ∧ tt1 σ3 H5 fun b H6 => if b = true then te σ3 H6 fun y H7 => rSAdd w (.ref D) [y] H7 fun _ H8 => N1 H8 else N1 H6)
/-- .. and the whole -/
def tSc (w : World) (wi : TI) (g : TG) (tt : TT) (wi1 : TI) (g1 : TG) (tt1 : TT) (te : TE) (vs vs1 : List Nat) : TE := fun σ H Q => wi σ H fun J H1 => ∀ D, H1 D = none →
  ∃ W : Nat → Nat → Hp → Prop, (∃ m, W 0 m (upd H1 D (SetO w D (fun _ => false) 0))) ∧ ∀ i m H, W i m H → (J.stop i H ∧ Q (.ref D) H) ∨ (J.go i H ∧ ∃ Nx : Hp → Prop, (∀ H', Nx H' → ∃ m', m' < m ∧ W (i + 1) m' H') ∧
    ∀ x H', J.yld i H x H' → g x (wipe σ vs) H' fun σ2 H2 => wipe σ2 vs = wipe σ vs ∧ tt σ2 H2 fun b H3 => if b = true then wi1 σ2 H3 fun J1 H4 => tScIn D w g1 tt1 te vs1 σ2 J1 Nx H4 else Nx H3)
section
variable {X : Cx} {u0 : Shared} {K0 : Hp} {ce : Env} {fp : List Addr} {elt t0 i0 t1 i1 : Expr} {fs0 fs1 : List Expr} {scope : Scope} {pos : Pos} {D : Addr}
/-- the pins of a source's own objects stand -/
theorem pin_get {Y : Cx} {P : List (Addr × Obj)} {τ : L2.St} {H' : Hp} {s' : Shared} {fq : List Addr} {h : Heap} (I : Inv Y (P ++ pinsAt fq h) τ H' s') {b : Addr} (hb : b ∈ fq) {o : Obj} (e : h.get? b = some o) : s'.heap.get? b = some o ∧ H' b = none :=
  let z := I.pin (b, o) (List.mem_append_right _ (List.mem_append_right _ (mem_pinsAt hb e)))
  ⟨z.1, z.2.1⟩
theorem sc_in {P : List (Addr × Obj)} {τ : L2.St} {H1 : Hp} {s1 : Shared} {q1 : Addr} {fq : List Addr} {tn : Nat → Heap → Prop} {J : It} {g1 : TG} {tt1 : TT} {te : TE} {vs1 : List Nat} {Nx : Hp → Prop} (hc : X.calm = true)
    (I : Inv (X.blk u0 K0 scope ce fp) P τ H1 s1) (T : Turn X.prog X.w X.K t1 J fq q1 tn) (st : tn 0 s1.heap) (fo : ∀ b ∈ fq, FpOk (X.blk u0 K0 scope ce fp) P H1 b)
    (pg : PG (X.blk u0 K0 scope ce fp) t1 g1) (pt : PTs (X.blk u0 K0 scope ce fp) fs1 tt1) (pe : PE (X.blk u0 K0 scope ce fp) elt te) (q : tScIn D X.w g1 tt1 te vs1 τ J Nx H1) :
    codeAny (model X.prog X.w) X.A (.compLoop (SC2 elt t0 i0 t1 i1 fs0 fs1 scope pos) 1 (.ref q1) (.ref D) ce) (fun r s' => match r with | .ok _ => ∃ H', Inv (X.blk u0 K0 scope ce fp) P (wipe τ vs1) H' s' ∧ Nx H' | .error _ => False) s1 := by
  obtain ⟨W, ⟨m, w0⟩, turn⟩ := q
  refine scLoop1 (fun k s' => ∃ j H', Inv (X.blk u0 K0 scope ce fp) P (wipe τ vs1) H' s' ∧ tn j s'.heap ∧ (∀ b ∈ fq, H' b = none) ∧ W j k H') ?_ m ⟨0, H1, I.weak (wipe_length _ _) (fun _ _ e => (wipe_some e).1), st, fun b hb => (fo b hb).1, w0⟩
  rintro k s2 ⟨j, H2, I2, st2, no2, w2⟩
  have ours : ∀ b ∈ fq, FpOk (X.blk u0 K0 scope ce fp) P H2 b := fun b hb => ⟨no2 b hb, (fo b hb).2⟩
  rcases turn j k H2 w2 with ⟨stop, nx⟩ | ⟨go, N1, hN, step⟩
  · refine thnF (T.done (X.blk u0 K0 scope ce fp) rfl rfl rfl hc j _ s2 _ H2 (fun _ _ => False) I2 ours st2 stop) fun r s3 hr => ?_
    obtain ⟨rfl, I3⟩ := hr
    exact ⟨H2, I3, nx⟩
  · refine thnF (T.item (X.blk u0 K0 scope ce fp) rfl rfl rfl hc j _ s2 _ H2 (fun _ _ => False) I2 ours st2 go) fun r s3 hr => ?_
    obtain ⟨u, rfl, more⟩ := hr
    refine thnF more fun _ s4 h4 => ?_
    obtain ⟨x, H4, I4, r4, y4, st4, no4⟩ := h4
    have ours4 : ∀ b ∈ fq, FpOk (X.blk u0 K0 scope ce fp) P H4 b := fun b hb => ⟨no4 b hb, (fo b hb).2⟩
    have I4p := I4.pinned ours4 (T.obj _ _ st4)
    refine thnF (pg.run _ s4 _ H4 x u _ I4p r4 (step x H4 y4)) fun _ s5 h5 => ?_
    obtain ⟨σ5, H5, I5, wp5, q5⟩ := h5
    refine thnF (pt.run _ s5 σ5 H5 _ I5 q5) fun b s6 h6 => ?_
    obtain ⟨H6, I6, q6⟩ := h6
    have close : ∀ {s' : Shared} {H' : Hp}, Inv (X.blk u0 K0 scope ce fp) (P ++ pinsAt fq s4.heap) σ5 H' s' → N1 H' → ∃ m, m < k ∧ ∃ j H', Inv (X.blk u0 K0 scope ce fp) P (wipe τ vs1) H' s' ∧ tn j s'.heap ∧ (∀ b ∈ fq, H' b = none) ∧ W j m H' := fun {s' H'} I' nx => by
      obtain ⟨k', lt, w'⟩ := hN H' nx
      refine ⟨k', lt, j + 1, H', I'.unpinned.weak (by rw [← wp5, wipe_length]) (fun j v e => (wipe_some (by rw [wp5]; exact e)).1), T.keep _ _ _ st4 fun b hb o e => (pin_get I' hb e).1, fun b hb => ?_, w'⟩
      obtain ⟨o, e, _⟩ := T.obj _ _ st4 b hb
      exact (pin_get I' hb e).2
    cases b with
    | false => exact close I6 (by simpa using q6)
    | true =>
      refine thnF (pe.run _ s6 σ5 H6 _ I6 (by simpa using q6)) fun z s7 h7 => ?_
      obtain ⟨yv, H7, I7, r7, add⟩ := h7
      refine thnF (mt_sadd (X := X.blk u0 K0 scope ce fp) _ s7 σ5 H7 (.ref D) [yv] (.ref D) [z] _ I7 rfl (.cons r7 .nil) add) fun _ s8 h8 => ?_
      obtain ⟨_, H8, I8, _, nx⟩ := h8
      exact close I8 nx
end
end Mi
set_option Elab.async false
set_option linter.all false
set_option maxRecDepth 100000
set_option maxHeartbeats 4000000
namespace Mi
open PySem PySem.Spec PyProof.Rows L2
section
variable {X : Cx} {elt t0 i0 t1 i1 : Expr} {fs0 fs1 : List Expr} {scope : Scope} {pos : Pos}
/-- the block's environment: a new one, at the end of the heap -/
abbrev blkE (X : Cx) (scope : Scope) (s : Shared) : Env := compEnvC scope (cellsFrom (s.heap.objs.size + 1) scope.names (cloFrom X.env.cells scope.names [])) s.heap.objs.size X.env
theorem pe_sc2 {own : List (Str × Nat)} {vs1 : List Nat} {wi wi1 : TI} {g g1 : TG} {tt tt1 : TT} {te : TE} (hc : X.calm = true) (hN : X.N.Nodup) (hi : PI X t0 i0 wi) (ok : BlkOk X.N X.env.scope scope own) (hv : ∀ i ∈ vs1, i ∈ own.map (·.2))
    (all : ∀ (s : Shared) (H : Hp) (C : Addr) (cl : List (Str × Addr)) (fp : List Addr), PG (X.blk s H scope (compEnvC scope cl C X.env) fp) t0 g ∧ PTs (X.blk s H scope (compEnvC scope cl C X.env) fp) fs0 tt ∧ PI (X.blk s H scope (compEnvC scope cl C X.env) fp) t1 i1 wi1 ∧ PG (X.blk s H scope (compEnvC scope cl C X.env) fp) t1 g1 ∧ PTs (X.blk s H scope (compEnvC scope cl C X.env) fp) fs1 tt1 ∧ PE (X.blk s H scope (compEnvC scope cl C X.env) fp) elt te)
    (hs : ∀ x, foldedSetIterable i0 X.env x = pure x := by intro _; rfl) (hs1 : ∀ env x, foldedSetIterable i1 env x = pure x := by intro _ _; rfl) :
    PE X (SC2 elt t0 i0 t1 i1 fs0 fs1 scope pos) (tSc X.w wi g tt wi1 g1 tt1 te (own.map (·.2)) vs1) := by
  refine ⟨fun pins s σ H Q I h => ?_⟩
  rw [PySem.arm_eval_SetComp]
  have free : ∀ y ∈ scope.names, y.2 = .free → ∃ c, X.env.cells.lookup y.1 = some c := fun y hy e => (ok.free y hy e).elim (fun k => I.ok.has _ (.inl k)) fun k => I.ok.has _ (.inr k)
  refine wpAny_comprehension_free (use := none) rfl hs (closure_ok free) ok.kind (fun y hy e => by rw [ok.uniq y hy, e]) (thn (hi.run pins s σ H _ I h) fun xv s1 hx => thn hx fun itv s2 h2 => ?_)
  obtain ⟨it, fp, tn, J, H2, rfl, I2, T, st2, f2, q⟩ := h2
  refine PpSet.newSet_ok ?_
  refine newEnv_comp ?_
  have new := setR_fresh (h := s2.heap) X.w
  obtain ⟨W, ⟨m0, w0⟩, turn⟩ := q s2.heap.objs.size (I2.hok.fresh (Nat.le_refl _))
  -- the new set
  have I3 : Inv X pins σ (upd H2 s2.heap.objs.size (SetO X.w s2.heap.objs.size (fun _ => false) 0)) { s2 with heap := s2.heap.push { cls := .type "set", dict := none, data := .set #[] 0 (.fresh 0 0 (!X.w.params.followText "set-order")) } } :=
    I2.laid (t' := s2.toks) (fun b o e => Heap.get?_push_of_some _ e) (Nat.le_refl _) (setO_new new)
  have lt2 : ∀ b ∈ fp, b < s2.heap.objs.size := fun b hb => let ⟨o, e, _⟩ := T.obj _ _ st2 b hb; Heap.lt_size e
  generalize hD : s2.heap.objs.size = D at *
  generalize hs3 : ({ s2 with heap := s2.heap.push { cls := .type "set", dict := none, data := .set #[] 0 (.fresh 0 0 (!X.w.params.followText "set-order")) } } : Shared) = s3 at *
  have h3 : s3.heap = s2.heap.push { cls := .type "set", dict := none, data := .set #[] 0 (.fresh 0 0 (!X.w.params.followText "set-order")) } := by rw [← hs3]
  have sz3 : s3.heap.objs.size = D + 1 := by rw [h3, Heap.size_push, hD]
  have up3 : ∀ b o, s2.heap.get? b = some o → s3.heap.get? b = some o := fun b o e => by rw [h3]; exact Heap.get?_push_of_some _ e
  have f3 : ∀ b ∈ fp, FpOk X pins (upd H2 D (SetO X.w D (fun _ => false) 0)) b ∧ b < s3.heap.objs.size := fun b hb => by
    have := lt2 b hb
    exact ⟨⟨by rw [upd_ne (Nat.ne_of_lt this)]; exact (f2 b hb).1, (f2 b hb).2⟩, by rw [sz3]; exact Nat.lt_succ_of_lt this⟩
  have st3 : tn 0 s3.heap := T.keep _ _ _ st2 fun b _ o e => up3 b o e
  have I4 := block_start I3 ok hN f3
  obtain ⟨pg, pt, pi1, pg1, pt1, pe⟩ := all s3 (upd H2 D (SetO X.w D (fun _ => false) 0)) s3.heap.objs.size (cellsFrom (s3.heap.objs.size + 1) scope.names (cloFrom X.env.cells scope.names [])) fp
  have e3 : ∀ d, ({ s2 with heap := s3.heap.push d } : Shared) = { s3 with heap := s3.heap.push d } := fun d => by rw [← hs3]
  show codeAny _ _ (.compStart (SC2 elt t0 i0 t1 i1 fs0 fs1 scope pos) 0 (.ref it) (.ref D) (blkE X scope s3)) (compPost (model X.prog X.w) X.A X.xe none (EP X pins σ Q) (.ref D) s3.heap.objs.size) { s3 with heap := pushCells (s3.heap.push { cls := .type "dict", data := .dict #[] }) scope.names }
  have nfp : ∀ b ∈ fp, (upd H2 D (SetO X.w D (fun _ => false) 0)) b = none := fun b hb => (f3 b hb).1.1
  generalize hce : compEnvC scope (cellsFrom (s3.heap.objs.size + 1) scope.names (cloFrom X.env.cells scope.names [])) s3.heap.objs.size X.env = ce at *
  have cL : ce.locals = s3.heap.objs.size := by rw [← hce]; rfl
  rw [show blkE X scope s3 = ce from hce]
  generalize hK : upd H2 D (SetO X.w D (fun _ => false) 0) = K0 at *
  generalize hs4 : ({ s3 with heap := pushCells (s3.heap.push { cls := .type "dict", data := .dict #[] }) scope.names } : Shared) = s4 at *
  have st4 : tn 0 s4.heap := T.keep _ _ _ st3 fun b _ o e => by rw [← hs4]; exact pushCells_keeps _ _ _ _ (Heap.get?_push_of_some _ e)
  have ours : ∀ {τ : L2.St} {H' : Hp} {s' : Shared}, Inv (X.blk s3 K0 scope ce fp) [] τ H' s' → (∀ b ∈ fp, H' b = none) → ∀ b ∈ fp, FpOk (X.blk s3 K0 scope ce fp) [] H' b := fun {τ H' s'} I' hn b hb =>
    ⟨hn b hb, (I'.ok.exf b hb).1, I'.ok.exfs b hb, .inl hb, fun x c e => (I'.ok.exf b hb).2 x c e, fun p hp => (by cases (show p ∈ ([] : List (Addr × Obj)) from hp))⟩
  have loop : codeAny (model X.prog X.w) X.A (.compLoop (SC2 elt t0 i0 t1 i1 fs0 fs1 scope pos) 0 (.ref it) (.ref D) ce) (compPost (model X.prog X.w) X.A X.xe none (EP X pins σ Q) (.ref D) s3.heap.objs.size) s4 := by
    refine scLoop0 (hs1 ce) (fun n s' => ∃ i H', Inv (X.blk s3 K0 scope ce fp) [] (wipe σ (own.map (·.2))) H' s' ∧ tn i s'.heap ∧ (∀ b ∈ fp, H' b = none) ∧ W i n H') ?_ m0 ⟨0, K0, I4, st4, nfp, w0⟩
    rintro n s5 ⟨i, H5, I5, st5, n5, w5⟩
    rcases turn i n H5 w5 with ⟨stop, qq⟩ | ⟨go, Nx, hNx, step⟩
    · refine thnF (T.done (X.blk s3 K0 scope ce fp) rfl rfl rfl hc i [] s5 _ H5 (fun _ _ => False) I5 (ours I5 n5) st5 stop) fun r s6 hr => ?_
      obtain ⟨rfl, I6⟩ := hr
      have I7 : Inv X pins σ H5 s6 := I3.call' (ch := fp) I6.os I6.base I6.hok I6.bare fun b hb => by
        obtain ⟨_, b1, b2, b3, b4, b5⟩ := (f3 b hb).1
        exact ⟨b3, b1, b4, b5⟩
      have nC : H5 s3.heap.objs.size = none := by
        have z : H5 ce.locals = none := I6.free
        rwa [cL] at z
      obtain ⟨m, hn, _⟩ := I6.loc
      have hn : s6.heap.Ns ce.locals m := hn
      rw [cL] at hn
      obtain ⟨b0, b1, b2, b3, b4, b5⟩ := I3.fpOk (Nat.le_refl _) nC
      refine ⟨m, hn, fun h'' sb => ?_⟩
      exact ⟨.ref D, H5, I7.turned (t' := s6.toks) (fun b o hb e => (sb.2 b hb).trans e) b0 b1 b3 b4 b5, rfl, qq⟩
    · refine thnF (T.item (X.blk s3 K0 scope ce fp) rfl rfl rfl hc i [] s5 _ H5 (fun _ _ => False) I5 (ours I5 n5) st5 go) fun r s6 hr => ?_
      obtain ⟨u, rfl, more⟩ := hr
      refine thnF more fun _ s7 h7 => ?_
      obtain ⟨x, H7, I7, r7, y7, st7, n7⟩ := h7
      have I7p := I7.pinned (ours I7 n7) (T.obj _ _ st7)
      refine thnF (pg.run _ s7 _ H7 x u _ I7p r7 (step x H7 y7)) fun _ s8 h8 => ?_
      obtain ⟨σ8, H8, I8, wp8, q8⟩ := h8
      refine thnF (pt.run _ s8 σ8 H8 _ I8 q8) fun b s9 h9 => ?_
      obtain ⟨H9, I9, q9⟩ := h9
      have close : ∀ {σ9 : L2.St} {s' : Shared} {H' : Hp}, Inv (X.blk s3 K0 scope ce fp) ([] ++ pinsAt fp s7.heap) σ9 H' s' → (wipe σ (own.map (·.2))).length = σ9.length → (∀ (j : Nat) v, (wipe σ (own.map (·.2)))[j]? = some (some v) → σ9[j]? = some (some v)) → Nx H' →
          ∃ m, m < n ∧ ∃ i H', Inv (X.blk s3 K0 scope ce fp) [] (wipe σ (own.map (·.2))) H' s' ∧ tn i s'.heap ∧ (∀ b ∈ fp, H' b = none) ∧ W i m H' := fun {σ9 s' H'} I' hl hk nx => by
        obtain ⟨m', lt, w'⟩ := hNx H' nx
        refine ⟨m', lt, i + 1, H', (I'.unpinned (pins := [])).weak hl hk, T.keep _ _ _ st7 fun b hb o e => (pin_get I' hb e).1, fun b hb => ?_, w'⟩
        obtain ⟨o, e, _⟩ := T.obj _ _ st7 b hb
        exact (pin_get I' hb e).2
      have l8 : (wipe σ (own.map (·.2))).length = σ8.length := by rw [← wp8, wipe_length]
      have k8 : ∀ (j : Nat) v, (wipe σ (own.map (·.2)))[j]? = some (some v) → σ8[j]? = some (some v) ∧ j ∉ own.map (·.2) := fun j v e => wipe_some (by rw [wp8]; exact e)
      cases b with
      | false => exact close I9 l8 (fun j v e => (k8 j v e).1) (by simpa using q9)
      | true =>
        refine thnF (pi1.run _ s9 σ8 H9 _ I9 (by simpa using q9)) fun xv s10 hx => thnF hx fun itv s11 h11 => ?_
        obtain ⟨it1, fq, tn1, J1, H11, rfl, I11, T1, st11, f11, q11⟩ := h11
        have inner := sc_in (elt := elt) (t0 := t0) (i0 := i0) (i1 := i1) (fs0 := fs0) (pos := pos) (X := X) hc I11 T1 st11 f11 pg1 pt1 pe q11
        have inner2 : codeAny (model X.prog X.w) X.A (.compLoop (SC2 elt t0 i0 t1 i1 fs0 fs1 scope pos) 1 (.ref it1) (.ref D) ce) (fun r s' => match r with
            | .ok _ => ∃ m, m < n ∧ ∃ i H', Inv (X.blk s3 K0 scope ce fp) [] (wipe σ (own.map (·.2))) H' s' ∧ tn i s'.heap ∧ (∀ b ∈ fp, H' b = none) ∧ W i m H'
            | .error _ => False) s11 := codeAny_mono inner fun r s' hr => by
          cases r with
          | error _ => exact hr
          | ok _ =>
            obtain ⟨H', I', nx⟩ := hr
            refine close I' (l8.trans (wipe_length σ8 vs1).symm) (fun j v e => ?_) nx
            obtain ⟨e1, e2⟩ := k8 j v e
            rw [wipe_out fun z => e2 (hv j z)]
            exact e1
        exact scStart 1 (.inr rfl) inner2 (T1.self X.A 0 _ _ _ st11 inner2)
  exact scStart 0 (.inl rfl) loop (T.self X.A 0 _ _ _ st4 loop)
end
end Mi
set_option Elab.async false
set_option linter.all false
set_option maxRecDepth 100000
set_option maxHeartbeats 4000000
namespace Mi
open PySem PySem.Spec PyProof.Rows L2
/-! ## sorted({elt for .. in .. if .. for .. in .. if ..}), of ints -/
def scIn (it : Itm) (tg : MG) (tt : MT) (elt : ME) (E : Ev) : Nat → Nat → List Int → Hm → Option (List Int × Hm)
  | 0, _, _, _ => none
  | fuel + 1, i, acc, C => (it.at C i).bind fun r => match r with
    | none => some (acc, C)
    | some x => (tg x E).bind fun E1 => (tt E1 C).bind fun p => if p.1 = true then (elt E1 p.2).bind fun q => match q.1 with
        | .int k => if acc.length < 60 then scIn it tg tt elt E fuel (i + 1) (acc ++ [k]) q.2 else none
        | _ => none
      else scIn it tg tt elt E fuel (i + 1) acc p.2
def scOut (it : Itm) (tg : MG) (tt : MT) (src1 : MI) (tg1 : MG) (tt1 : MT) (elt : ME) (vs1 : List Nat) (E : Ev) : Nat → Nat → List Int → Hm → Option (List Int × Hm)
  | 0, _, _, _ => none
  | fuel + 1, i, acc, C => (it.at C i).bind fun r => match r with
    | none => some (acc, C)
    | some x => (tg x E).bind fun E1 => (tt E1 C).bind fun p => if p.1 = true then (src1 E1 p.2).bind fun q => (scIn q.1 tg1 tt1 elt (wipeE E1 vs1) (q.2.1 + 1) 0 acc q.2.2).bind fun r => scOut it tg tt src1 tg1 tt1 elt vs1 E fuel (i + 1) r.1 r.2
      else scOut it tg tt src1 tg1 tt1 elt vs1 E fuel (i + 1) acc p.2
def mSrtSc (src : MI) (tg : MG) (tt : MT) (src1 : MI) (tg1 : MG) (tt1 : MT) (elt : ME) (vs vs1 : List Nat) : ME := fun E C => (src E C).bind fun p => (scOut p.1 tg tt src1 tg1 tt1 elt vs1 (wipeE E vs) (p.2.1 + 1) 0 [] p.2.2).bind fun q =>
  if q.1.length < 63 then some (.cell q.2.length, q.2 ++ [.lst ((dedup (sortI q.1)).map D.int)]) else none
section
variable {F : Fm} {elt t0 i0 t1 i1 : Expr} {fs0 fs1 : List Expr} {scope : Scope} {own : List (Str × Nat)} {src src1 : MI} {g g1 : MG} {mt mt1 : MT} {me : ME} {slots slots1 : List Nat} {pos : Pos}
/-- a set of one's own that no cell is -/
theorem Rel.otherS {K : PySem.W.Frag} {ft : Cfg} {ρ : List Addr} {H : Hp} {C : Hm} {P : Addr} {w : World} {S : Int → Bool} {n : Nat} {o : HO} (R : Rel K ft ρ H C) (hP : P ∉ ρ) (e : H P = some (SetO w P S n)) : Rel K ft ρ (upd H P o) C := by
  have w : Wk ρ H ρ (upd H P o) := ⟨fun h => h, fun b xs q => by rw [upd_ne (show b ≠ P from fun z => by rw [z, e] at q; cases q)]; exact q, fun b ob u q => by rw [upd_ne (show b ≠ P from fun z => by rw [z, e] at q; cases q)]; exact q⟩
  refine ⟨R.len, R.nd, fun n c q => ?_⟩
  obtain ⟨a, ha, k⟩ := R.ok n c q
  have ne : a ≠ P := fun z => hP (z ▸ List.mem_of_getElem? ha)
  refine ⟨a, ha, ?_⟩
  cases c with
  | lst ds => obtain ⟨ws, q, r⟩ := k; exact ⟨ws, (upd_ne ne).trans q, DVs.monoW w r⟩
  | dic ks => obtain ⟨ws, q, r⟩ := k; exact ⟨ws, (upd_ne ne).trans q, Paired.mapP r fun p q z => ⟨z.1, DV.monoW w z.2⟩⟩
  | dix ks => obtain ⟨es, q, r⟩ := k; exact ⟨es, (upd_ne ne).trans q, r.monoW w⟩
  | dxl ks => obtain ⟨es, o, q, r⟩ := k; exact ⟨es, o, (upd_ne ne).trans q, r.monoW w⟩
theorem EnvOk.monoW {K : PySem.W.Frag} {ft : Cfg} {ρ ρ' : List Addr} {H H' : Hp} {E : Ev} {σ : L2.St} (h : EnvOk K ft ρ H E σ) (s : Wk ρ H ρ' H') : EnvOk K ft ρ' H' E σ :=
  ⟨h.len, fun i d e => let ⟨v, a, b⟩ := h.at_ i d e; ⟨v, a, b.monoW s⟩⟩
theorem Wk.tr {ρ ρ1 ρ2 : List Addr} {H H1 H2 : Hp} (s : Wk ρ H ρ1 H1) (r : Wk ρ1 H1 ρ2 H2) : Wk ρ H ρ2 H2 :=
  ⟨fun h => r.get (s.get h), fun b xs q => r.tups b xs (s.tups b xs q), fun b o u q => r.frzs b o u (s.frzs b o u q)⟩
theorem Wk.same {ρ : List Addr} {H : Hp} : Wk ρ H ρ H := ⟨fun h => h, fun _ _ q => q, fun _ _ _ q => q⟩
theorem Wk.set {ρ : List Addr} {H : Hp} {P : Addr} {w : World} {S : Int → Bool} {n : Nat} {o : HO} (e : H P = some (SetO w P S n)) : Wk ρ H ρ (upd H P o) :=
  ⟨fun h => h, fun b xs q => by rw [upd_ne (show b ≠ P from fun z => by rw [z, e] at q; cases q)]; exact q, fun b ob u q => by rw [upd_ne (show b ≠ P from fun z => by rw [z, e] at q; cases q)]; exact q⟩
theorem evl_sc {wi wi1 : TI} {gg gg1 : TG} {tt tt1 : TT} {te : TE} (si : ∀ ρ C H E σ it n C' R, RelF F ρ H C → EnvF F ρ H E σ → src E C = some (it, n, C') → (∀ ρ' H' J, RelF F ρ' H' C' → Stp ρ H ρ' H' → ItOk F ρ' H' it J → R J H') → wi σ H R)
    (si1 : ∀ ρ C H E σ it n C' R, RelF F ρ H C → EnvF F ρ H E σ → src1 E C = some (it, n, C') → (∀ ρ' H' J, RelF F ρ' H' C' → Stp ρ H ρ' H' → ItOk F ρ' H' it J → R J H') → wi1 σ H R)
    (sg : EvG F gg slots g) (st : EvT F tt mt) (sg1 : EvG F gg1 slots1 g1) (st1 : EvT F tt1 mt1) (se : EvE F te me) (vs vs1 : List Nat) (hsl : ∀ i ∈ slots, i ∈ vs) (hsl1 : ∀ i ∈ slots1, i ∈ vs1)
    {ρ : List Addr} {C : Hm} {H : Hp} {E : Ev} {σ : L2.St} {it : Itm} {n0 : Nat} {C1 : Hm} {accF : List Int} {CF : Hm} {Q : VK} (R : RelF F ρ H C) (eo : EnvF F ρ H E σ) (h1 : src E C = some (it, n0, C1))
    (h2 : scOut it g mt src1 g1 mt1 me vs1 (wipeE E vs) (n0 + 1) 0 [] C1 = some (accF, CF))
    (k : ∀ ρ1 Hc P n, RelF F ρ1 Hc CF → Stp ρ H ρ1 Hc → Hc P = some (SetO F.w P (fun j => decide (j ∈ accF)) n) → n ≤ accF.length → Q (.ref P) Hc) : tSc F.w wi gg tt wi1 gg1 tt1 te vs vs1 σ H Q := by
  have sb : (64 : Nat) ≤ scanBound := by decide
  refine si ρ C H E σ it n0 C1 _ R eo h1 fun ρ0 H0 J R0 s0 ok => ?_
  intro P hP
  have outP : ∀ {ρ1 Hc}, Stp ρ0 H0 ρ1 Hc → ∀ {o}, Stp ρ0 H0 ρ1 (upd Hc P o) := fun {ρ1 Hc} s {o} => by
    have ne : ∀ b u, H0 b = some u → b ≠ P := fun b u e z => by rw [z, hP] at e; cases e
    exact ⟨s.pre, fun b u e hb => by rw [upd_ne (ne b u e)]; exact s.keep b u e hb, fun b u e => by rw [upd_ne (ne b u e)]; exact s.there b u e, fun b u e => by rw [upd_ne (ne _ _ e)]; exact s.tups b u e, fun b u w e => by rw [upd_ne (ne _ _ e)]; exact s.frzs b u w e⟩
  have keepP : ∀ {ρa Ha ρb Hb o}, Stp ρa Ha ρb Hb → P ∉ ρa → Ha P = some o → P ∉ ρb ∧ Hb P = some o := fun {ρa Ha ρb Hb o} s hn e => by
    refine ⟨fun z => ?_, s.keep _ _ e hn⟩
    obtain ⟨t, et, ht⟩ := s.pre
    rw [et] at z
    rcases List.mem_append.mp z with z | z
    · exact hn z
    · rw [ht _ z] at e; cases e
  refine ⟨fun i m Hc => ∃ ρ1 Cc acc n, RelF F ρ1 Hc Cc ∧ P ∉ ρ1 ∧ Stp ρ0 H0 ρ1 Hc ∧ Hc P = some (SetO F.w P (fun j => decide (j ∈ acc)) n) ∧ n ≤ acc.length ∧ scOut it g mt src1 g1 mt1 me vs1 (wipeE E vs) m i acc Cc = some (accF, CF),
    ⟨n0 + 1, ρ0, C1, [], 0, R0.fresh hP, R0.out hP, Stp.fresh hP, by rw [upd_same]; simp, Nat.le_refl _, h2⟩, ?_⟩
  rintro i m Hc ⟨ρ1, Cc, acc, n, R1, nP, s1, eP, hn, hf⟩
  cases m with
  | zero => cases hf
  | succ fuel =>
    unfold scOut at hf
    obtain ⟨r, e1, hf⟩ := obind hf
    have oki := ok ρ1 Hc Cc R1 s1.wk i r e1
    cases r with
    | none =>
      cases hf
      exact .inl ⟨oki, k ρ1 Hc P n R1 (s0.trans s1) eP hn⟩
    | some x =>
      refine .inr ⟨oki.1, fun H2 => ∃ ρ2 C2 acc n, RelF F ρ2 H2 C2 ∧ P ∉ ρ2 ∧ Stp ρ0 H0 ρ2 H2 ∧ H2 P = some (SetO F.w P (fun j => decide (j ∈ acc)) n) ∧ n ≤ acc.length ∧ scOut it g mt src1 g1 mt1 me vs1 (wipeE E vs) fuel (i + 1) acc C2 = some (accF, CF), fun H2 z => ⟨fuel, Nat.lt_succ_self _, z⟩, fun v H' hy => ?_⟩
      obtain ⟨R2, s2, dv⟩ := oki.2 v H' hy
      obtain ⟨E2, e2, hf⟩ := obind hf
      obtain ⟨⟨b, C3⟩, e3, hf⟩ := obind hf
      have eo2 : EnvF F ρ1 H' (wipeE E vs) (L2.wipe σ vs) := (eo.wipe vs).mono ((s0.trans s1).trans s2)
      obtain ⟨nP2, eP2⟩ := keepP s2 nP eP
      refine sg ρ1 Cc H' (wipeE E vs) (L2.wipe σ vs) x v E2 _ R2 eo2 dv e2 fun σ3 eo3 w3 => ?_
      refine ⟨by rw [w3 vs hsl, wipe_idem], ?_⟩
      refine st ρ1 Cc H' E2 σ3 b C3 _ R2 eo3 e3 fun ρ3 H3 R3 s3 => ?_
      obtain ⟨nP3, eP3⟩ := keepP s3 nP2 eP2
      cases b with
      | false => exact ⟨ρ3, C3, acc, n, R3, nP3, (s1.trans s2).trans s3, eP3, hn, hf⟩
      | true =>
        obtain ⟨⟨it1, n1, C4⟩, e4, hf⟩ := obind (show (src1 E2 C3).bind _ = some (accF, CF) from hf)
        obtain ⟨⟨acc5, C5⟩, e5, hf⟩ := obind hf
        simp only at e5 hf
        refine si1 ρ3 C3 H3 E2 σ3 it1 n1 C4 _ R3 (eo3.mono s3) e4 fun ρ4 H4 J1 R4 s4 ok1 => ?_
        obtain ⟨nP4, eP4⟩ := keepP s4 nP3 eP3
        refine ⟨fun j m1 Hd => ∃ ρ5 Cd accd nd, RelF F ρ5 Hd Cd ∧ P ∉ ρ5 ∧ Wk ρ4 H4 ρ5 Hd ∧ Stp ρ0 H0 ρ5 Hd ∧ Hd P = some (SetO F.w P (fun j => decide (j ∈ accd)) nd) ∧ nd ≤ accd.length ∧ scIn it1 g1 mt1 me (wipeE E2 vs1) m1 j accd Cd = some (acc5, C5),
          ⟨n1 + 1, ρ4, C4, acc, n, R4, nP4, Wk.same, ((s1.trans s2).trans s3).trans s4, eP4, hn, e5⟩, ?_⟩
        rintro j m1 Hd ⟨ρ5, Cd, accd, nd, R5, nP5, s5, s05, eP5, hnd, hfd⟩
        cases m1 with
        | zero => cases hfd
        | succ fuel1 =>
          unfold scIn at hfd
          obtain ⟨r, e6, hfd⟩ := obind hfd
          have okj := ok1 ρ5 Hd Cd R5 s5 j r e6
          cases r with
          | none =>
            cases hfd
            exact .inl ⟨okj, ρ5, _, _, nd, R5, nP5, s05, eP5, hnd, hf⟩
          | some y =>
            refine .inr ⟨okj.1, fun H2 => ∃ ρ6 C6 acc6 n6, RelF F ρ6 H2 C6 ∧ P ∉ ρ6 ∧ Wk ρ4 H4 ρ6 H2 ∧ Stp ρ0 H0 ρ6 H2 ∧ H2 P = some (SetO F.w P (fun j => decide (j ∈ acc6)) n6) ∧ n6 ≤ acc6.length ∧ scIn it1 g1 mt1 me (wipeE E2 vs1) fuel1 (j + 1) acc6 C6 = some (acc5, C5), fun H2 z => ⟨fuel1, Nat.lt_succ_self _, z⟩, fun v1 Hy hy1 => ?_⟩
            obtain ⟨R6, s6, dv6⟩ := okj.2 v1 Hy hy1
            obtain ⟨E3, e7, hfd⟩ := obind hfd
            obtain ⟨⟨b1, C6⟩, e8, hfd⟩ := obind hfd
            obtain ⟨nP6, eP6⟩ := keepP s6 nP5 eP5
            have eo6 : EnvF F ρ5 Hy (wipeE E2 vs1) (L2.wipe σ3 vs1) := ((eo3.wipe vs1).mono (s3.trans s4)).monoW (s5.tr s6.wk)
            refine sg1 ρ5 Cd Hy (wipeE E2 vs1) (L2.wipe σ3 vs1) y v1 E3 _ R6 eo6 dv6 e7 fun σ7 eo7 w7 => ?_
            refine ⟨by rw [w7 vs1 hsl1, wipe_idem], ?_⟩
            refine st1 ρ5 Cd Hy E3 σ7 b1 C6 _ R6 eo7 e8 fun ρ7 H7 R7 s7 => ?_
            obtain ⟨nP7, eP7⟩ := keepP s7 nP6 eP6
            have s47 := (s5.tr s6.wk).tr s7.wk
            have s07 := (s05.trans s6).trans s7
            cases b1 with
            | false => exact ⟨ρ7, C6, accd, nd, R7, nP7, s47, s07, eP7, hnd, hfd⟩
            | true =>
              obtain ⟨⟨d, C8⟩, e9, hfd⟩ := obind (show (me E3 C6).bind _ = some (acc5, C5) from hfd)
              cases d with
              | int kk =>
                simp only at hfd
                split at hfd
                · rename_i few
                  refine se ρ7 C6 H7 E3 σ7 (.int kk) C8 _ R7 (eo7.mono s7) e9 fun ρ8 H8 v8 R8 s8 d8 => ?_
                  obtain ⟨nP8, eP8⟩ := keepP s8 nP7 eP7
                  cases d8
                  refine ⟨P, kk, _, nd, rfl, rfl, eP8, by omega, ρ8, C8, accd ++ [kk], _, Rel.otherS R8 nP8 eP8, nP8, (s47.tr s8.wk).tr (Wk.set eP8), outP (s07.trans s8), by
                    rw [upd_same]
                    congr 2
                    funext j
                    simp [Bool.decide_or], ?_, hfd⟩
                  rw [List.length_append, List.length_singleton]
                  split <;> omega
                · cases hfd
              | _ => cases hfd
theorem se_srtSc {p pos2 : Pos} (own : List (Str × Nat)) (hm : F.mg "sorted" = none) (hi : SI F t0 i0 src) (ok : BlkOk F.N F.sc scope own) (hg : SG (F.blk scope) t0 slots g) (ht : SPT (F.blk scope) fs0 mt) (hi1 : SI (F.blk scope) t1 i1 src1) (hg1 : SG (F.blk scope) t1 slots1 g1) (ht1 : SPT (F.blk scope) fs1 mt1) (he : SE (F.blk scope) elt me)
    (hsl : ∀ i ∈ slots, i ∈ own.map (·.2) := by decide) (hv : ∀ i ∈ slots1, i ∈ own.map (·.2) := by decide) (hgl : F.sc.names.lookup (Str.ofString "sorted") = some .globalImplicit := by rfl)
    (hs : ∀ (env : Env) x, foldedSetIterable i0 env x = pure x := by intro _ _; rfl) (hs1 : ∀ (env : Env) x, foldedSetIterable i1 env x = pure x := by intro _ _; rfl)
    (h1 : ∀ env : Env, starEach [SC2 elt t0 i0 t1 i1 fs0 fs1 scope pos] env = (false, eval (SC2 elt t0 i0 t1 i1 fs0 fs1 scope pos) env) :: starEach [] env := by intro _; rfl) (hp1 : ∀ env : Env, (backTo pos2 (starEach [] env)).any (·.1) = false := by intro _; rfl)
    (ha1 : ∀ (X : Cx) (te : TE), PE X (SC2 elt t0 i0 t1 i1 fs0 fs1 scope pos) te → PA X [SC2 elt t0 i0 t1 i1 fs0 fs1 scope pos] (tCons te tNil) := by intro X te h; exact pa_cons h pa_nil) :
    SE F (.Call (.Name "sorted" p) [SC2 elt t0 i0 t1 i1 fs0 fs1 scope pos] [] pos2) (mSrtSc src g mt src1 g1 mt1 me (own.map (·.2)) slots1) := by
  obtain ⟨wi, pi, si⟩ := hi
  obtain ⟨gg, pg, sg⟩ := hg
  obtain ⟨tt, pt, st⟩ := ht
  obtain ⟨wi1, pi1, si1⟩ := hi1
  obtain ⟨gg1, pg1, sg1⟩ := hg1
  obtain ⟨tt1, pt1, st1⟩ := ht1
  obtain ⟨te, pe, se⟩ := he
  refine ⟨_, fun X h => pe_callB (show CallR X (.builtin "sorted") (rSortedSet F.w) by rw [← h.w]; exact cr_sortedSet h.calm) (h.gl hgl) (by rw [h.mg]; exact hm) (by decide +kernel)
    (ha1 X _ (show PE X _ (tSc F.w wi gg tt wi1 gg1 tt1 te (own.map (·.2)) slots1) by rw [← h.w]; exact pe_sc2 h.calm h.nd (pi X h) (by rw [h.N, h.sc]; exact ok) hv (fun _ _ _ _ _ => ⟨pg _ h.blk, pt _ h.blk, pi1 _ h.blk, pg1 _ h.blk, pt1 _ h.blk, pe _ h.blk⟩) (hs _) hs1)) (by decide) (by decide) (h1 _) (hp1 _), fun ρ C H E σ d C' Q R eo hm k => ?_⟩
  obtain ⟨⟨it, n0, C1⟩, e1, hm⟩ := obind hm
  obtain ⟨⟨accF, CF⟩, e2, hm⟩ := obind hm
  simp only at e2 hm
  split at hm
  · rename_i few
    cases hm
    show tSc F.w wi gg tt wi1 gg1 tt1 te (own.map (·.2)) slots1 σ H (fun v H1 => rSortedSet F.w [v] H1 Q)
    refine evl_sc si (fun ρ C H E σ it n C' R hR hE hm => si1 ρ C H E σ it n C' R hR hE hm) sg st sg1 st1 se _ _ hsl (fun _ h => h) R eo e1 e2 fun ρ1 Hc P n R1 s1 eP hn => ?_
    refine ⟨P, _, n, rfl, eP, by omega, fun out p up mem len hp => ?_⟩
    have eo : out = dedup (sortI accF) := up_unique up (dedup_up _ (sortI_up _)) fun kk => by
      rw [mem kk, dedup_mem, (sortI_perm accF).mem_iff]
      simp
    subst eo
    exact k _ _ _ (R1.newL hp (DVs.ints _)) (s1.trans (Stp.push hp)) (DV.new R1)
  · cases hm
end
end Mi
set_option Elab.async false
set_option linter.all false
set_option maxRecDepth 100000
set_option maxHeartbeats 4000000
namespace PySem.W
open PySem PySem.Calls PySem.SeqAt PyProof.Rows
/-! ## sorted(a tuple) -/
section
variable {prog : Program} {w : World} {A : Around} {E : Value → Shared → Prop} {s : Shared} {β : Type} {vs : List Value} {bs : List β} {enc : β → PyData} {R : Value → β → Prop}
theorem collect_tup {l : Addr} {vs : List Value} {Q : List Value → Shared → Prop} (hl : s.heap.IsTuple l vs.toArray) (hz : vs.length ≤ sizeLine)
    (h : Q vs { s with heap := (s.heap.push (seqObj "list" #[] 0)).update s.heap.objs.size (Obj.mapSeq (· ++ vs.toArray)) }) : wpAny (model prog w) A (collect (.ref l)) Q E s := by
  obtain ⟨o, ho, hc, n, hd⟩ := id hl
  unfold collect
  refine wpAny_bind (wpAny_runValue (codeAny_builtin entry_proto_collect' ?_))
  show wpAny _ _ (do again (.builtin "list.__iadd__" ⟨[← newList [], .ref l], []⟩)) _ _ s
  refine wpAny_bind (wpAny_newList (wpAny_pure ⟨Code.quiet_builtin _ (by decide +kernel), codeAny_builtin entry_list_iadd' ?_⟩))
  show wpAny _ _ (Builtin.List.listExtendWith (.ref s.heap.objs.size) (.ref l) (.ref s.heap.objs.size)) _ _ { s with heap := s.heap.push (seqObj "list" #[] 0) }
  unfold Builtin.List.listExtendWith
  have old : (s.heap.push (seqObj "list" #[] 0)).get? l = some o := Heap.get?_push_of_some _ ho
  have new : (s.heap.push (seqObj "list" #[] 0)).get? s.heap.objs.size = some (seqObj "list" #[] 0) := Heap.get?_push_size _ rfl
  refine wpAny_bind (wpAny_typeOf (T := "tuple") ⟨o, old, hc⟩ ?_)
  have tt : (Value.type "tuple" == Value.type "tuple") = true := by rfl
  rw [if_pos (by rw [tt]; simp)]
  refine wpAny_bind (listItems_at old hd (wpAny_bind (listItems_at (xs := #[]) (n := 0) new rfl ?_)))
  rw [if_neg (by simp)]
  refine wpAny_bind (listUpdate_at (xs := #[]) (n := 0) new rfl (wpAny_pure ?_) (Nat.zero_le _) (by show (#[] ++ vs.toArray).size ≤ sizeLine + 1; simp only [Array.size_append, List.size_toArray, List.length_nil]; omega))
  show wpAny (model prog w) A (do
      let o ← load s.heap.objs.size
      match o.data with
      | .seq xs _ => pure xs.toList
      | _ => unsupported "internal:collect") Q E { s with heap := (s.heap.push (seqObj "list" #[] 0)).update s.heap.objs.size (Obj.mapSeq (· ++ vs.toArray)) }
  refine wpAny_bind (wpAny_load (get?_update_seq new _) ?_)
  show wpAny _ _ (pure ((#[] : Array Value) ++ vs.toArray).toList) Q E _
  have e : ((#[] : Array Value) ++ vs.toArray).toList = vs := by simp
  rw [e]
  exact wpAny_pure h
theorem sortedT_vals {κ : PyProof.Rows.KeyKind} {l : Addr} {vs : List Value} {Q : Value → Shared → Prop} (hl : s.heap.IsTuple l vs.toArray) (S : SortsAt prog w A.in1.in1 { s with heap := sortingHeap (copyHeap s.heap vs) (s.heap.objs.size + 1) vs } κ vs) (hz : vs.length ≤ sizeLine)
    (h : Q (.ref (s.heap.objs.size + 1)) { s with heap := sortedAll s.heap vs (sortVals κ false vs vs).toArray }) : wpAny (model prog w) A (call (.builtin "sorted") [.ref l]) Q E s := by
  refine call_function_entry_kw kind_sorted plain_sorted entry_sorted (args_sorted1 _) ?_
  unfold Builtin.«sorted»
  refine wpAny_bind (m := checkCount "sorted" 1 1 _) (wpAny_pure ?_)
  refine wpAny_bind (collect_tup hl hz (wpAny_bind (wpAny_newList ?_ hz)))
  have sz : ((s.heap.push (seqObj "list" #[] 0)).update s.heap.objs.size (Obj.mapSeq (· ++ vs.toArray))).objs.size = s.heap.objs.size + 1 := by rw [Heap.size_update, size_push']
  show wpAny _ _ _ _ _ { s with heap := copyHeap s.heap vs }
  rw [sz]
  refine wpAny_bind (wpAny_holding (wpAny_call_entry_kw slot_list_sort ⟨_, copyHeap_at s.heap vs, rfl⟩ entry_list_sort ?_ (args_list_sort _)))
  show wpAny (model prog w) A.in1.in1 (Builtin.«list.sort» ⟨[.ref (s.heap.objs.size + 1)], []⟩) _ _ _
  exact list_sort_vals (s := { s with heap := copyHeap s.heap vs }) (copyHeap_at s.heap vs) S hz ⟨_, rfl, wpAny_pure ⟨_, rfl, h⟩⟩
theorem sortedT_data {l : Addr} {Q : Value → Shared → Prop} (hl : s.heap.IsTuple l vs.toArray) (e : EachIs R vs bs) (er : EachIs (fun v b => ∃ as, Reads s.heap v (enc b) as) vs bs) (hal : AllAlike (bs.map enc)) (hk : Sortable (bs.map enc)) (hL : bs.length ≤ sizeLine)
    (room : ∀ b, b ∈ bs → A.units + 2 + (enc b).depth < cLine) (h : ∀ out, out.length = bs.length → EachIs R out (bs.mergeSort (dataLe false enc)) → Q (.ref (s.heap.objs.size + 1)) { s with heap := sortedAll s.heap vs (List.toArray out) }) :
    wpAny (model prog w) A (call (.builtin "sorted") [.ref l]) Q E s := by
  have up : EachIs (fun v b => ∃ as, Reads (sortingHeap (copyHeap s.heap vs) (s.heap.objs.size + 1) vs) v (enc b) as) vs bs := er.mono fun _ _ z => let ⟨as, r⟩ := z; ⟨as, PyProof.Rows.Reads.keeps (fun _ _ => sorting_copy_old) r⟩
  refine sortedT_vals hl (SortsAt.data (s := { s with heap := sortingHeap (copyHeap s.heap vs) (s.heap.objs.size + 1) vs }) (each_map (R := fun v d => ∃ as, Reads (sortingHeap (copyHeap s.heap vs) (s.heap.objs.size + 1) vs) v d as) enc up) hal hk (bound_map room)) (by rw [e.length]; exact hL) ?_
  exact h _ (by rw [sortVals_length false rfl]; exact e.length) (sortVals_data false e up hal)
end
end PySem.W
namespace Mi
open PySem PySem.Spec PyProof.Rows L2
/-! ## sorted(..) of data, of a tuple and of a list whose first item is () -/
def rSrtT (K : PySem.W.Frag) : List V → Hp → VK → Prop := fun vs H Q => ∃ (a : Addr) (ps : List (V × PyData)), vs = [V.ref a] ∧ SqT K H a (ps.map (·.1)) ∧ (∀ p ∈ ps, Dp K H p.1 p.2) ∧ PySem.W.AllAlike (ps.map (·.2)) ∧ PySem.W.Sortable (ps.map (·.2)) ∧ (∀ p ∈ ps, p.2.depth ≤ 60) ∧ ps.length ≤ sizeLine ∧
  ∀ l, H l = none → Q (.ref l) (upd H l (.lst ((ps.mergeSort (PySem.W.dataLe false (·.2))).map (·.1))))
def rSrtE (K : PySem.W.Frag) : List V → Hp → VK → Prop := fun vs H Q => ∃ (a : Addr) (ps : List (V × PyData)), vs = [V.ref a] ∧ SqL K H a (ps.map (·.1)) ∧ (∀ p ∈ ps, Dp K H p.1 p.2) ∧ PySem.W.AllAlike (ps.map (·.2)) ∧ PySem.W.EmptyFirst (ps.map (·.2)) ∧ (∀ p ∈ ps, p.2.depth ≤ 60) ∧
  ∀ l, H l = none → Q (.ref l) (upd H l (.lst ((ps.mergeSort (PySem.W.dataLe false (·.2))).map (·.1))))
theorem srt_fin {X : Cx} {pins : List (Addr × Obj)} {s : Shared} {σ : L2.St} {H : Hp} {ps : List (V × PyData)} {its : List Value} {Q : VK} {out : List Value} (I : Inv X pins σ H s) (hz : ps.length ≤ sizeLine) (he : PySem.W.EachIs (fun v (p : V × PyData) => RelV p.1 v) out (ps.mergeSort (PySem.W.dataLe false (·.2))))
    (q : ∀ l, H l = none → Q (.ref l) (upd H l (.lst ((ps.mergeSort (PySem.W.dataLe false (·.2))).map (·.1))))) : EP X pins σ Q (.ref (s.heap.objs.size + 1)) { s with heap := sortedAll s.heap its (List.toArray out) } := by
  obtain ⟨ep, at_⟩ := PyProof.Rows.sortedAll_at s.heap its out.toArray
  have len : ((ps.mergeSort (PySem.W.dataLe false (·.2))).map (·.1)).length ≤ sizeLine := by rw [List.length_map, List.length_mergeSort]; exact hz
  exact ⟨.ref _, _, I.laid (t' := s.toks) (o := .lst ((ps.mergeSort (PySem.W.dataLe false (·.2))).map (·.1))) (fun _ _ => PyProof.Rows.sortedAll_old) (Nat.le_succ _) ⟨len, out, ep, vals_each he, at_⟩, rfl, q _ (I.hok.fresh (Nat.le_succ _))⟩
theorem cr_srtT {X : Cx} (hu : X.A.units + 64 < cLine) : CallR X (.builtin "sorted") (rSrtT X.K) := by
  intro pins s σ H vs us Q I r h
  obtain ⟨a, ps, rfl, hs, hd, al, so, dp, sz, q⟩ := h
  obtain ⟨its, rv, hl, hz⟩ := I.tuple hs
  rw [Vals.ref1 r]
  exact PySem.W.sortedT_data (R := fun v (p : V × PyData) => RelV p.1 v) (enc := (·.2)) (bs := ps) hl (each_vals rv) (each_reads I rv hd) al so sz (fun b hb => by have := dp b hb; omega) fun out ho he => srt_fin I sz he q
theorem cr_srtE {X : Cx} (hu : X.A.units + 64 < cLine) : CallR X (.builtin "sorted") (rSrtE X.K) := by
  intro pins s σ H vs us Q I r h
  obtain ⟨a, ps, rfl, hs, hd, al, so, dp, q⟩ := h
  obtain ⟨its, rv, hl, hz⟩ := I.list hs
  rw [Vals.ref1 r]
  rw [List.length_map] at hz
  exact PySem.W.sorted_empties (R := fun v (p : V × PyData) => RelV p.1 v) (enc := (·.2)) (bs := ps) hl.isList (each_vals rv) (each_reads I rv hd) al so hz (fun b hb => by have := dp b hb; omega) fun out ho he => srt_fin I hz he q
end Mi
set_option Elab.async false
set_option linter.all false
set_option maxRecDepth 100000
set_option maxHeartbeats 4000000
namespace Mi
open PySem PySem.Spec PyProof.Rows L2
def isTupD (C : Hm) (d : D) : Bool := match py C 70 d with
  | some (.tuple xs) => decide ((PyData.tuple xs).depth ≤ 60)
  | _ => false
def headE : List D → Bool
  | .tup [] :: _ => true
  | _ => false
def srtEOk (C : Hm) (ds : List D) : Bool := headE ds && (ds.all (isTupD C) && ds.all fun d => ds.all fun e => PySem.W.alike (encD C d) (encD C e))
def srtD (C : Hm) (ds : List D) : List D := ds.mergeSort (PySem.W.dataLe false (encD C))
def sortedEX : ODL := fun xs C => match xs with
  | [.tup ds] => if srtOk C ds = true ∧ ds.length ≤ sizeLine then some (.cell C.length, C ++ [.lst (srtD C ds)]) else none
  | [.cell n] => (match sortedDX [.cell n] C with
    | some r => some r
    | none => match C[n]? with
      | some (.lst ds) => if srtEOk C ds = true then some (.cell C.length, C ++ [.lst (srtD C ds)]) else none
      | _ => none)
  | _ => none
theorem isTupD_at {C : Hm} {d : D} (h : isTupD C d = true) : ∃ xs, encD C d = .tuple xs ∧ py C 70 d = some (encD C d) ∧ (encD C d).depth ≤ 60 := by
  unfold isTupD at h
  split at h
  · rename_i xs e
    have e' : encD C d = .tuple xs := by unfold encD; rw [e]; rfl
    exact ⟨xs, e', by rw [e', e], by rw [e']; exact of_decide_eq_true h⟩
  · cases h
theorem isPairD_enc {C : Hm} {d : D} (h : isPairD C d = true) : ∃ x r, encD C d = .tuple (x :: r) ∧ py C 70 d = some (encD C d) ∧ (encD C d).depth ≤ 60 := by
  obtain ⟨x, r, e, dpt⟩ := isPairD_at h
  have e' : encD C d = .tuple (x :: r) := by unfold encD; rw [e]; rfl
  exact ⟨x, r, e', by rw [e', e], by rw [e']; exact dpt⟩
section
variable {F : Fm}
/-- the values beside their data, sorted -/
theorem sort_ps {ρ : List Addr} {H : Hp} {C : Hm} {ds : List D} {vs : List V} (R : RelF F ρ H C) (e4 : DVsF F ρ H ds vs) (ok : ∀ d ∈ ds, py C 70 d = some (encD C d) ∧ (encD C d).depth ≤ 60) : ∃ ps : List (V × PyData), ps.map (·.1) = vs ∧ ps.map (·.2) = ds.map (encD C) ∧ (∀ p ∈ ps, Dp F.K H p.1 p.2 ∧ p.2.depth ≤ 60) ∧ ps.length = ds.length ∧
    DVsF F ρ H (srtD C ds) ((ps.mergeSort (PySem.W.dataLe false (·.2))).map (·.1)) := by
  obtain ⟨z1, z2, z3⟩ := dvs_zip e4
  have mem : ∀ t ∈ ds.zip vs, t.1 ∈ ds := fun t ht => by rw [← z1]; exact List.mem_map.mpr ⟨t, ht, rfl⟩
  have pe : ((ds.zip vs).map fun t => (t.2, encD C t.1)).map (·.2) = ds.map (encD C) := by
    have : ds.map (encD C) = ((ds.zip vs).map (·.1)).map (encD C) := by rw [z1]
    rw [this, List.map_map, List.map_map]; rfl
  refine ⟨(ds.zip vs).map fun t => (t.2, encD C t.1), by rw [List.map_map]; exact z2, pe, fun p hp => ?_, ?_, ?_⟩
  · obtain ⟨t, ht, rfl⟩ := List.mem_map.mp hp
    have := ok t.1 (mem t ht)
    exact ⟨py_ok R _ (z3 t ht) this.1, this.2⟩
  · have := congrArg List.length pe
    simpa using this
  · have s1 := List.map_mergeSort (r := fun (a b : D × V) => PySem.W.dataLe false (encD C) a.1 b.1) (s := PySem.W.dataLe false (encD C)) (f := (·.1)) (l := ds.zip vs) fun _ _ _ _ => rfl
    have s2 := List.map_mergeSort (r := fun (a b : D × V) => PySem.W.dataLe false (encD C) a.1 b.1) (s := PySem.W.dataLe false (fun p : V × PyData => p.2)) (f := fun t : D × V => (t.2, encD C t.1)) (l := ds.zip vs) fun _ _ _ _ => rfl
    rw [z1] at s1
    rw [← s2, List.map_map]
    unfold srtD
    rw [← s1]
    exact dvs_of fun t ht => z3 t (List.mem_mergeSort.mp ht)
theorem sc_sortedE : SCall F (.builtin "sorted") sortedEX := by
  obtain ⟨r0, h0, s0⟩ := sc_sortedX (F := F)
  refine ⟨_, fun X h => (h0 X h).or ((show CallR X (.builtin "sorted") (rSrtT F.K) by rw [← h.K]; exact cr_srtT (Room.u64b h.rm)).or (show CallR X (.builtin "sorted") (rSrtE F.K) by rw [← h.K]; exact cr_srtE (Room.u64b h.rm))), fun ρ C H xs vs d C' Q R hx hm k => ?_⟩
  unfold sortedEX at hm
  split at hm
  · rename_i ds
    split at hm
    · rename_i hok
      cases hm
      obtain ⟨hok, sz⟩ := hok
      unfold srtOk at hok
      rw [Bool.and_eq_true, List.all_eq_true, List.all_eq_true] at hok
      cases hx with | cons h1 h2 =>
        cases h2
        cases h1 with | tup hs hd =>
          obtain ⟨ps, p1, p2, p3, p4, p5⟩ := sort_ps R hd fun d hd => let ⟨_, _, _, e, f⟩ := isPairD_enc (hok.1 d hd); ⟨e, f⟩
          refine .inr (.inl ⟨_, ps, rfl, by rw [p1]; exact hs, fun t ht => (p3 t ht).1, ?_, ?_, fun t ht => (p3 t ht).2, by rw [p4]; exact sz, fun l hl => ?_⟩)
          · rw [p2]
            intro a ha b hb
            obtain ⟨d1, h1, rfl⟩ := List.mem_map.mp ha
            obtain ⟨d2, h2, rfl⟩ := List.mem_map.mp hb
            exact List.all_eq_true.mp (hok.2 d1 h1) d2 h2
          · rw [p2]
            refine .inl fun a ha => ?_
            obtain ⟨d1, h1, rfl⟩ := List.mem_map.mp ha
            obtain ⟨x, r, e, _⟩ := isPairD_enc (hok.1 d1 h1)
            exact ⟨x, r, e⟩
          · exact k _ _ _ (R.newL hl p5) (Stp.push hl) (DV.new R)
    · cases hm
  · rename_i n
    split at hm
    · rename_i r hr
      cases hm
      exact .inl (s0 ρ C H _ vs d C' Q R hx hr k)
    · split at hm
      · rename_i ds qc
        split at hm
        · rename_i hok
          cases hm
          unfold srtEOk at hok
          rw [Bool.and_eq_true, Bool.and_eq_true, List.all_eq_true, List.all_eq_true] at hok
          obtain ⟨hh, hok⟩ := hok
          cases hx with | cons h1 h2 =>
            cases h2
            obtain ⟨p, us, rfl, ep, e3, e4⟩ := R.lst qc h1
            obtain ⟨ps, p1, p2, p3, p4, p5⟩ := sort_ps R e4 fun d hd => let ⟨_, _, e, f⟩ := isTupD_at (hok.1 d hd); ⟨e, f⟩
            refine .inr (.inr ⟨p, ps, rfl, by rw [p1]; exact SqL.of e3, fun t ht => (p3 t ht).1, ?_, ?_, fun t ht => (p3 t ht).2, fun l hl => ?_⟩)
            · rw [p2]
              intro a ha b hb
              obtain ⟨d1, h1, rfl⟩ := List.mem_map.mp ha
              obtain ⟨d2, h2, rfl⟩ := List.mem_map.mp hb
              exact List.all_eq_true.mp (hok.2 d1 h1) d2 h2
            · rw [p2]
              refine ⟨?_, fun a ha => ?_⟩
              · unfold headE at hh
                split at hh
                · rename_i r
                  exact ⟨r.map (encD C), rfl⟩
                · cases hh
              · obtain ⟨d1, h1, rfl⟩ := List.mem_map.mp ha
                obtain ⟨xs, e, _⟩ := isTupD_at (hok.1 d1 h1)
                exact ⟨xs, e⟩
            · exact k _ _ _ (R.newL hl p5) (Stp.push hl) (DV.new R)
        · cases hm
      · cases hm
  · cases hm
end
end Mi
set_option Elab.async false
set_option linter.all false
set_option maxRecDepth 100000
set_option maxHeartbeats 400000
namespace Mi
open PySem PySem.Spec PyProof.Rows L2
/-! ## sorted(a list of tuples, key=len) -/
def rSrtL (K : PySem.W.Frag) : V → Hp → VK → Prop := fun v H Q => ∃ (a : Addr) (ps : List (V × List V)), v = V.ref a ∧ SqL K H a (ps.map (·.1)) ∧ (∀ p ∈ ps, ∃ t, p.1 = V.ref t ∧ SqT K H t p.2) ∧
  ∀ l, H l = none → Q (.ref l) (upd H l (.lst ((ps.mergeSort fun x y => decide ((x.2.length : Int) ≤ y.2.length)).map (·.1))))
theorem each_rel {ps : List (V × List V)} : ∀ {us : List Value}, Vals (ps.map (·.1)) us → PySem.W.EachIs (fun v (p : V × List V) => RelV p.1 v) us ps := by
  induction ps with
  | nil => intro us h; cases h; exact .nil
  | cons p ps ih =>
    intro us h
    cases h with
    | cons h t => exact .cons h (ih t)
theorem rel_each : ∀ {ps : List (V × List V)} {us : List Value}, PySem.W.EachIs (fun v (p : V × List V) => RelV p.1 v) us ps → Vals (ps.map (·.1)) us
  | _, _, .nil => .nil
  | _, _, .cons h t => .cons h (rel_each t)
theorem call_srtLen {X : Cx} (hu : X.A.units + 64 < cLine) {pins : List (Addr × Obj)} {s : Shared} {σ : L2.St} {H : Hp} {v : V} {u : Value} {Q : VK} (I : Inv X pins σ H s) (r : RelV v u) (h : rSrtL X.K v H Q) :
    wpAny (model X.prog X.w) X.A (call (.builtin "sorted") [u] [(Str.ofString "key", .builtin "len")]) (EP X pins σ Q) X.xe s := by
  obtain ⟨a, ps, rfl, hs, ht, q⟩ := h
  obtain rfl : u = Value.ref a := r
  obtain ⟨its, rv, hl, hz⟩ := I.list hs
  rw [List.length_map] at hz
  have hl63 := line63
  refine PySem.W.sorted_key_data (R := fun v (p : V × List V) => RelV p.1 v) (bs := ps) (fun p => .int (p.2.length : Int)) hl.isList (each_rel rv) ?_ (.inr fun d hd => ?_) hz (fun p _ => by simp only [PyData.depth]; omega) (PyProof.Rows.ksk_s1 _ _) (fun _ => PyProof.Rows.ksk_l1 _ _) (fun _ => PyProof.Rows.ksk_t4 _ _) (fun w p hw hp h tk keep => ?_) fun out c h' tk keep fresh at_ len each => ?_
  · intro d hd d' hd'
    obtain ⟨_, _, rfl⟩ := List.mem_map.mp hd
    obtain ⟨_, _, rfl⟩ := List.mem_map.mp hd'
    rfl
  · obtain ⟨_, _, rfl⟩ := List.mem_map.mp hd
    exact ⟨fun z => (by cases z), fun _ z => (by cases z)⟩
  · obtain ⟨t, e, q2⟩ := ht p hp
    rw [e] at hw
    obtain rfl : w = Value.ref t := hw
    obtain ⟨its2, rv2, pl, hz2⟩ := I.tuple q2
    have hlen := rv2.length
    obtain ⟨o, g1, g2, n, g3⟩ := id pl
    refine len_tuple (s := { s with heap := h, toks := tk }) (items := its2.toArray) ⟨o, keep _ _ g1, g2, n, g3⟩ (by simp only [List.size_toArray]; omega) ⟨h, tk + 1 + 1, rfl, fun b o e => e, ?_⟩
    rw [show ((its2.toArray.size : Nat) : Int) = (p.2.length : Int) by rw [List.size_toArray, hlen]]
    exact .int _ _
  · rw [PySem.W.dataLe_int] at each
    have hm : ((ps.mergeSort fun x y => decide ((x.2.length : Int) ≤ y.2.length)).map (·.1)).length ≤ sizeLine := by rw [List.length_map, List.length_mergeSort]; exact hz
    exact ⟨.ref _, _, I.laid (t' := tk) (o := .lst ((ps.mergeSort fun x y => decide ((x.2.length : Int) ≤ y.2.length)).map (·.1))) keep (Nat.le_succ _) ⟨hm, out, c, rel_each each, by simpa using at_⟩, rfl, q _ (I.hok.fresh (Nat.le_succ _))⟩
abbrev kwLen (p kp : Pos) : List Keyword := [⟨some "key", .Name "len" p, kp⟩]
theorem pe_srtLen {X : Cx} (hu : X.A.units + 64 < cLine) {e : Expr} {te : TE} {p p2 kp pos : Pos} (ha : PA X [e] (tCons te tNil)) (hg : Gl X "sorted") (hm : X.mg "sorted" = none) (hg2 : Gl X "len") (hm2 : X.mg "len" = none)
    (he : backTo pos (starEach [e] X.env) = (false, eval e X.env) :: backTo pos (starEach [] X.env)) (hpl : (backTo pos (starEach [e] X.env)).any (·.1) = false) :
    PE X (.Call (.Name "sorted" p) [e] (kwLen p2 kp) pos) (fun σ H Q => te σ H fun v H1 => rSrtL X.K v H1 Q) := by
  refine ⟨fun pins s σ H Q I h => ?_⟩
  refine wpAny_Call_Name_kw (ld_blt I hg hm (show bootBuiltins "sorted" = some (.builtin "sorted") by decide +kernel) ?_)
  refine PyProof.Rows.callWith_kw (thn (ha.run pos pins s σ H (fun vs H1 => ∃ v, vs = [v] ∧ rSrtL X.K v H1 Q) I ?_) fun us s1 hq => ?_) he hpl
  · show te σ H _
    exact (h : te σ H fun v H1 => rSrtL X.K v H1 Q) |> fun z => by
      have : (fun v H1 => rSrtL X.K v H1 Q) = fun v H1 => tNil σ H1 fun vs H2 => ∃ v', v :: vs = [v'] ∧ rSrtL X.K v' H2 Q := by
        funext v H1
        apply propext
        constructor
        · intro z; exact ⟨v, rfl, z⟩
        · rintro ⟨v', e, z⟩
          cases e; exact z
      rw [← this]; exact z
  · obtain ⟨vs, H1, I1, r1, v, rfl, q1⟩ := hq
    obtain ⟨u, rfl, ru⟩ := vals1 r1
    show wpAny _ _ (evalAll [do let v ← eval (.Name "len" p2) X.env; standAt pos; pure v]) _ _ s1
    refine wpAny_evalAll_cons (wpAny_bind (ld_blt I1 hg2 hm2 (show bootBuiltins "len" = some (.builtin "len") by decide +kernel) (wpAny_bind (wpAny_standAt (wpAny_pure (wpAny_evalAll_nil ?_))))))
    exact call_srtLen hu I1 ru q1
end Mi
set_option Elab.async false
set_option linter.all false
set_option maxRecDepth 100000
set_option maxHeartbeats 800000
namespace Mi
open PySem PySem.Spec PyProof.Rows L2
def tupOf : D → Option (List D)
  | .tup l => some l
  | _ => none
def lenT : D → Int
  | .tup l => l.length
  | _ => 0
def srtLen (ds : List D) : List D := ds.mergeSort fun x y => decide (lenT x ≤ lenT y)
def mSrtLen (me : ME) : ME := fun E C => (me E C).bind fun p => match p.1 with
  | .cell n => (match p.2[n]? with
    | some (.lst ds) => if ds.all (fun d => (tupOf d).isSome) = true then some (.cell p.2.length, p.2 ++ [.lst (srtLen ds)]) else none
    | _ => none)
  | _ => none
section
variable {F : Fm} {e : Expr} {me : ME} {p p2 kp pos : Pos}
theorem tups_ps {ρ : List Addr} {H : Hp} : ∀ {ds : List D} {vs : List V}, DVsF F ρ H ds vs → (∀ d ∈ ds, (tupOf d).isSome = true) → ∃ ts : List (D × V × List V), ts.map (·.1) = ds ∧ ts.map (·.2.1) = vs ∧ ∀ t ∈ ts, DVF F ρ H t.1 t.2.1 ∧ (∃ a, t.2.1 = V.ref a ∧ SqT F.K H a t.2.2) ∧ lenT t.1 = (t.2.2.length : Int)
  | _, _, .nil, _ => ⟨[], rfl, rfl, fun _ h => by cases h⟩
  | d :: ds, v :: vs, .cons h t, ok => by
    obtain ⟨ts, e1, e2, e3⟩ := tups_ps t fun x hx => ok x (by simp [hx])
    have hd := ok d (by simp)
    cases d with
    | tup l =>
      cases h with | @tup _ a ws hs hr =>
        refine ⟨(.tup l, .ref a, ws) :: ts, by simp [e1], by simp [e2], fun x hx => ?_⟩
        rcases List.mem_cons.mp hx with rfl | hx
        · exact ⟨.tup hs hr, ⟨a, rfl, hs⟩, by show (l.length : Int) = _; rw [DVs.length hr]⟩
        · exact e3 x hx
    | _ => cases hd
theorem se_srtLen (hm : F.mg "sorted" = none) (hm2 : F.mg "len" = none) (he : SE F e me) (hg : F.sc.names.lookup (Str.ofString "sorted") = some .globalImplicit := by rfl) (hg2 : F.sc.names.lookup (Str.ofString "len") = some .globalImplicit := by rfl)
    (h1 : ∀ env : Env, backTo pos (starEach [e] env) = (false, eval e env) :: backTo pos (starEach [] env) := by intro _; rfl) (hp1 : ∀ env : Env, (backTo pos (starEach [e] env)).any (·.1) = false := by intro _; rfl)
    (ha1 : ∀ (X : Cx) (te : TE), PE X e te → PA X [e] (tCons te tNil) := by intro X te h; exact pa_cons h pa_nil) : SE F (.Call (.Name "sorted" p) [e] (kwLen p2 kp) pos) (mSrtLen me) := by
  obtain ⟨t, pt, st⟩ := he
  refine ⟨fun σ H Q => t σ H fun v H1 => rSrtL F.K v H1 Q, fun X h => (by
    have z := pe_srtLen (p := p) (p2 := p2) (kp := kp) (pos := pos) (Room.u64b h.rm) (ha1 X t (pt X h)) (h.gl hg) (by rw [h.mg]; exact hm) (h.gl hg2) (by rw [h.mg]; exact hm2) (h1 _) (hp1 _)
    rw [h.K] at z
    exact z), fun ρ C H E σ d C' Q R eo hm k => ?_⟩
  obtain ⟨⟨x, C1⟩, e1, hm⟩ := obind hm
  simp only at hm
  split at hm
  · rename_i n
    split at hm
    · rename_i ds qc
      split at hm
      · rename_i ok
        cases hm
        refine st ρ C H E σ _ C1 _ R eo e1 fun ρ1 H1 v1 R1 s1 d1 => ?_
        obtain ⟨a, vs, rfl, ea, e3, e4⟩ := R1.lst qc d1
        obtain ⟨ts, t1, t2, t3⟩ := tups_ps e4 (List.all_eq_true.mp ok)
        have hps : (ts.map (·.2)).map (·.1) = vs := by rw [List.map_map]; exact t2
        refine ⟨a, ts.map (·.2), rfl, by rw [hps]; exact SqL.of e3, fun q hq => ?_, fun l hl => ?_⟩
        · obtain ⟨t, ht, rfl⟩ := List.mem_map.mp hq
          exact (t3 t ht).2.1
        · have m1 := List.map_mergeSort (r := fun (x y : D × V × List V) => decide ((x.2.2.length : Int) ≤ y.2.2.length)) (s := fun x y => decide (lenT x ≤ lenT y)) (f := (·.1)) (l := ts) fun x hx y hy => by rw [(t3 x hx).2.2, (t3 y hy).2.2]
          have m2 := List.map_mergeSort (r := fun (x y : D × V × List V) => decide ((x.2.2.length : Int) ≤ y.2.2.length)) (s := fun (x y : V × List V) => decide ((x.2.length : Int) ≤ y.2.length)) (f := (·.2)) (l := ts) fun _ _ _ _ => rfl
          rw [t1] at m1
          rw [← m2, List.map_map]
          have dts : DVsF F ρ1 H1 (srtLen ds) ((ts.mergeSort fun (x y : D × V × List V) => decide ((x.2.2.length : Int) ≤ y.2.2.length)).map ((fun q : V × List V => q.1) ∘ fun t : D × V × List V => t.2)) := by
            unfold srtLen
            rw [← m1]
            have key : ∀ us : List (D × V × List V), (∀ t ∈ us, DVF F ρ1 H1 t.1 t.2.1) → DVsF F ρ1 H1 (us.map (·.1)) (us.map ((fun q : V × List V => q.1) ∘ fun t : D × V × List V => t.2)) := by
              intro us
              induction us with
              | nil => intro _; exact .nil
              | cons u us ih => intro h; exact .cons (h u (by simp)) (ih fun t ht => h t (by simp [ht]))
            exact key _ fun t ht => (t3 t (List.mem_mergeSort.mp ht)).1
          exact k _ _ _ (R1.newL hl dts) (s1.trans (Stp.push hl)) (DV.new R1)
      · cases hm
    · cases hm
  · cases hm
end
/-! ## what is never reached -/
section
variable {F : Fm}
def mStop : MS := fun _ _ => none
theorem ss_stop (st : Stmt) (h : ∀ X, F.Is X → PS X st fun _ _ _ => False) : SS F st mStop := ⟨_, h, fun ρ C H E σ o Z R eo hm k => by cases hm⟩
theorem ss_raise {e : Option Expr} {c : Option Expr} {pos : Pos} : SS F (.Raise e c pos) mStop := ss_stop _ fun X _ => ⟨fun pins s σ H D I h => h.elim⟩
end
end Mi
set_option Elab.async false
set_option linter.all false
set_option maxRecDepth 100000
set_option maxHeartbeats 800000
namespace Mi
open PySem PySem.Spec PyProof.Rows L2
/-! ## one truth value is another -/
theorem op_isB {X : Cx} : OpR X (compareOp .Is) (fun x y H Q => ∃ a b, x = .bl a ∧ y = .bl b ∧ Q (.bl (decide (a = b))) H) := by
  intro pins s σ H x y v u Q I rx ry h
  obtain ⟨a, b, rfl, rfl, q⟩ := h
  cases rx; cases ry
  by_cases e : a = b
  · subst e; exact wpAny_is_self rfl ⟨.bl true, H, I, rfl, by simpa using q⟩
  · exact wpAny_is_other rfl (fun z => e (by cases z; rfl)) ⟨.bl false, H, I, rfl, by simpa [e] using q⟩
theorem op_isnotB {X : Cx} : OpR X (compareOp .IsNot) (fun x y H Q => ∃ a b, x = .bl a ∧ y = .bl b ∧ Q (.bl (!decide (a = b))) H) := by
  intro pins s σ H x y v u Q I rx ry h
  obtain ⟨a, b, rfl, rfl, q⟩ := h
  cases rx; cases ry
  by_cases e : a = b
  · subst e; exact wpAny_isNot_self rfl ⟨.bl false, H, I, rfl, by simpa using q⟩
  · exact wpAny_isNot_other rfl (fun z => e (by cases z; rfl)) ⟨.bl true, H, I, rfl, by simpa [e] using q⟩
def isDX (neg : Bool) : OD2 := fun x y C => match x, y with
  | .bl a, .bl b => some (.bl (if neg = true then !decide (a = b) else decide (a = b)), C)
  | x, y => isD neg x y C
section
variable {F : Fm}
theorem isDX_ok {op : CmpOp} {neg : Bool} (h0 : SOp F (compareOp op) (isD neg)) (hb : ∀ X : Cx, OpR X (compareOp op) (fun x y H Q => ∃ a b, x = .bl a ∧ y = .bl b ∧ Q (.bl (if neg = true then !decide (a = b) else decide (a = b))) H)) : SOp F (compareOp op) (isDX neg) := by
  obtain ⟨r, hr, s⟩ := h0
  refine ⟨_, fun X h => (hr X h).or (hb X), fun ρ C H x y vx vy d C' Q R hx hy hm k => ?_⟩
  unfold isDX at hm
  split at hm
  · cases hm; cases hx; cases hy
    exact .inr ⟨_, _, rfl, rfl, k.now R (.bl _)⟩
  · exact .inl (s ρ C H _ _ vx vy d C' Q R hx hy hm k)
theorem so_isX : SOp F (compareOp .Is) (isDX false) := isDX_ok so_is fun X => op_isB
theorem so_isnotX : SOp F (compareOp .IsNot) (isDX true) := isDX_ok so_isnot fun X => op_isnotB
end
/-! ## enumerate(a list) -/
def mIEnumX (ml : MA) : MI := fun E C => (ml E C).bind fun p => match p.1 with
  | [.tup ds] => some (.seq (enD 0 ds), ds.length, p.2)
  | [.cell n] => (match p.2[n]? with | some (.lst ds) => some (.enl n, ds.length, p.2) | _ => none)
  | _ => none
section
variable {F : Fm} {e : Expr} {ml : MA} {elts : List Expr} {kk : Nat} {tpos p pos : Pos}
theorem itOk_enl {ρ : List Addr} {H : Hp} {n : Nat} {a : Addr} (ha : ρ[n]? = some a) : ItOk F ρ H (.enl n) (Ite F.K a) := by
  intro ρ2 H2 C2 R2 s2 i r hr
  simp only [Itm.at] at hr
  split at hr
  · rename_i ds2 qc2
    cases hr
    obtain ⟨a2, vs2, e5, ea2, e6, e7⟩ := R2.lst qc2 (.cell (s2.get ha))
    cases e5
    cases qq : ds2[i]? with
    | none => exact ⟨vs2, SqL.of e6, by rw [← e7.length]; exact List.getElem?_eq_none_iff.mp qq⟩
    | some x =>
      obtain ⟨v, e8, e9⟩ := e7.get qq
      refine ⟨⟨vs2, v, SqL.of e6, e8⟩, fun w H' hy => ?_⟩
      obtain ⟨T, y, rfl, hT, rfl, hy⟩ := hy
      have := hy vs2 (SqL.of e6)
      rw [e8] at this
      cases this
      exact ⟨R2.fresh hT, Stp.fresh hT, .tup (SqT.of upd_same) (.cons (.int _) (.cons (e9.mono (Stp.fresh hT)) .nil))⟩
  · cases hr
theorem si_enumX (hm : F.mg "enumerate" = none) (ha : SA F [e] ml) (hg : F.sc.names.lookup (Str.ofString "enumerate") = some .globalImplicit := by rfl) (hs : ∀ env : Env, starEach [e] env = [(false, eval e env)] := by intro _; rfl) : SI F (.Tuple elts kk tpos) (.Call (.Name "enumerate" p) [e] [] pos) (mIEnumX ml) := by
  obtain ⟨t, q, s⟩ := ha
  refine ⟨fun σ H R => iEnumT F.K t σ H R ∨ iEnum F.K t σ H R, fun X h => ?_, fun ρ C H E σ it n C' R R0 eo hm k => ?_⟩
  · have p1 := pi_enumT (p := p) (pos := pos) (tpos := tpos) (elts := elts) (kk := kk) (h.gl hg) (by rw [h.mg]; exact hm) (q X h) (hs _)
    have p2 := pi_enum (p := p) (pos := pos) (tpos := tpos) (elts := elts) (kk := kk) (h.gl hg) (by rw [h.mg]; exact hm) (q X h) (hs _)
    rw [h.K] at p1 p2
    exact ⟨fun pins s σ H R I h => h.elim (fun z => p1.run pins s σ H R I z) fun z => p2.run pins s σ H R I z⟩
  · obtain ⟨⟨ds, C1⟩, h1, hm⟩ := obind hm
    simp only at hm
    split at hm
    · cases hm
      refine .inl (s ρ C H E σ _ _ _ R0 eo h1 fun ρ1 H1 v1 R1 s1 d1 => ?_)
      cases d1 with | cons dh dt =>
        cases dt
        cases dh with | tup hs hd => exact ⟨_, _, rfl, hs, k ρ1 H1 _ R1 s1 (itOk_enum hs hd)⟩
    · split at hm
      · rename_i qc
        cases hm
        refine .inr (s ρ C H E σ _ _ _ R0 eo h1 fun ρ1 H1 v1 R1 s1 d1 => ?_)
        cases d1 with | cons dh dt =>
          cases dt
          obtain ⟨a, vs, rfl, ea, e3, e4⟩ := R1.lst qc dh
          exact ⟨a, vs, rfl, SqL.of e3, k ρ1 H1 _ R1 s1 (itOk_enl ea)⟩
      · cases hm
    · cases hm
end
end Mi
set_option Elab.async false
set_option linter.all false
set_option maxRecDepth 100000
set_option maxHeartbeats 4000000
namespace G
open PySem PySem.Spec PyProof.Rows L2 Mi
def top (i : Nat) : Stmt := PySem.Challenge.pw_sealshelf_k08_whole_opening.main.body.getD i (.Pass ⟨0, 0, 0, 0⟩)
structure Txt (P : Program) (w : World) (mg : Str → Option Value) (ft : Cfg) : Prop where
  hsh : ft.hash = MD.MK.hash P w
  b_all : mg "all" = none
  b_bool : mg "bool" = none
  b_enumerate : mg "enumerate" = none
  b_int : mg "int" = none
  b_isinstance : mg "isinstance" = none
  b_len : mg "len" = none
  b_list : mg "list" = none
  b_ord : mg "ord" = none
  b_range : mg "range" = none
  b_repr : mg "repr" = none
  b_set : mg "set" = none
  b_sorted : mg "sorted" = none
  b_str : mg "str" = none
  b_tuple : mg "tuple" = none
/-! is_number -/
abbrev S_is_number : Stmt := top 1
abbrev N_is_number : List Str := ["thing"]
abbrev P_is_number : List Str := ["thing"]
theorem scope_is_number : FnScope N_is_number P_is_number (defScope S_is_number) := ⟨rfl, rfl, rfl, by decide +kernel, rfl, by decide +kernel, by decide +kernel⟩
def B_is_number : MS :=
    (mRet (mAnd (mCallB isiD (mCons (mVar 0) (mCons (mC (.ty .int)) mNil))) (mAnd (mNot (mCallB isiD (mCons (mVar 0) (mCons (mC (.ty .bl)) mNil)))) (mBin dGe (mVar 0) (mC (.int 0))))))
def M_is_number : MF := mFn 1 1 (B_is_number)
theorem sb_is_number {P : Program} {w : World} {K : PySem.W.Frag} {mg : Str → Option Value} {base : Heap} {ft : Cfg} (T : Txt P w mg ft)  : SB (fmOf P w K mg base ft S_is_number N_is_number 0) (defBody S_is_number) B_is_number :=
    (sb_one (ss_ret (se_and (se_callB sc_isi T.b_isinstance (by decide +kernel) (sa_cons (se_var 0) (sa_cons (se_ty .int T.b_int (by decide +kernel)) sa_nil))) (se_and (se_not (se_callB sc_isi T.b_isinstance (by decide +kernel) (sa_cons (se_var 0) (sa_cons (se_ty .bl T.b_bool (by decide +kernel)) sa_nil)))) (se_one (se_cmp so_ge (se_var 0) se_int))))))
/-! is_key -/
abbrev S_is_key : Stmt := top 2
abbrev N_is_key : List Str := ["thing"]
abbrev P_is_key : List Str := ["thing"]
theorem scope_is_key : FnScope N_is_key P_is_key (defScope S_is_key) := ⟨rfl, rfl, rfl, by decide +kernel, rfl, by decide +kernel, by decide +kernel⟩
def B_is_key : MS :=
    (mRet (mKeep (mCall M_is_number (mCons (mVar 0) mNil))))
def M_is_key : MF := mFn 1 1 (B_is_key)
theorem sb_is_key {P : Program} {w : World} {K : PySem.W.Frag} {mg : Str → Option Value} {base : Heap} {ft : Cfg} (T : Txt P w mg ft) (c_is_number : Callee P w K mg base ft "is_number" 1 M_is_number 1) : SB (fmOf P w K mg base ft S_is_key N_is_key 1) (defBody S_is_key) B_is_key :=
    (sb_one (ss_ret (se_keep (se_call _ c_is_number (sa_cons (se_var 0) sa_nil) (mCons_len len0)))))
/-! pair_of -/
abbrev S_pair_of : Stmt := top 9
abbrev N_pair_of : List Str := ["things", "keys", "thing", "texts"]
abbrev P_pair_of : List Str := ["things"]
theorem scope_pair_of : FnScope N_pair_of P_pair_of (defScope S_pair_of) := ⟨rfl, rfl, rfl, by decide +kernel, rfl, by decide +kernel, by decide +kernel⟩
def B_pair_of : MS :=
    (mSeq (mLockS 0 (mAsg (mLc (mIAnyX (mVar 0)) (gN 2) (mTru (mKeep (mCall M_is_key (mCons (mVar 2) mNil)))) (mVar 2) [2]) (gN 1)))
    (mSeq (mLockS 0 (mAsg (mLc (mIAnyX (mVar 0)) (gN 2) (tNotM (mTru (mKeep (mCall M_is_key (mCons (mVar 2) mNil))))) (mVar 2) [2]) (gN 3)))
    (mRet (mTup (mCons (mCallB tupleD (mCons (mCallB sortedDX (mCons (mVar 1) mNil)) mNil)) (mCons (mCallB tupleD (mCons (mCallB sortedDX (mCons (mVar 3) mNil)) mNil)) mNil))))))
def M_pair_of : MF := mFn 1 4 (B_pair_of)
theorem sb_pair_of {P : Program} {w : World} {K : PySem.W.Frag} {mg : Str → Option Value} {base : Heap} {ft : Cfg} (T : Txt P w mg ft) (c_is_key : Callee P w K mg base ft "is_key" 1 M_is_key 2) : SB (fmOf P w K mg base ft S_pair_of N_pair_of 2) (defBody S_pair_of) B_pair_of :=
    (sb_cons (ss_lock 0 (ss_setLc 1 [((Str.ofString "thing"), 2)] (fun env h => sw_true (by rw [h]; rfl) (by rw [h]; rfl) rfl (by decide +kernel)) (si_anyX (se_var 0)) (blkOk_by (by dsimp only [fmOf, Fm.blk]; decide +kernel)) (sg_name 2) (spt_one (st_tru (se_keep (se_call _ c_is_key (sa_cons (se_var 2) sa_nil) (mCons_len len0))))) (se_var 2)))
    (sb_cons (ss_lock 0 (ss_setLc 3 [((Str.ofString "thing"), 2)] (fun env h => sw_true (by rw [h]; rfl) (by rw [h]; rfl) rfl (by decide +kernel)) (si_anyX (se_var 0)) (blkOk_by (by dsimp only [fmOf, Fm.blk]; decide +kernel)) (sg_name 2) (spt_one (st_not (st_tru (se_keep (se_call _ c_is_key (sa_cons (se_var 2) sa_nil) (mCons_len len0)))))) (se_var 2)))
    (sb_one (ss_ret (se_tup (sa_cons (se_callTy sc_tuple T.b_tuple (by decide +kernel) (sa_cons (se_callB sc_sortedX T.b_sorted (by decide +kernel) (sa_cons (se_var 1) sa_nil)) sa_nil)) (sa_cons (se_callTy sc_tuple T.b_tuple (by decide +kernel) (sa_cons (se_callB sc_sortedX T.b_sorted (by decide +kernel) (sa_cons (se_var 3) sa_nil)) sa_nil)) sa_nil)))))))
/-! boxes_by_key -/
abbrev S_boxes_by_key : Stmt := top 10
abbrev N_boxes_by_key : List Str := ["boxes", "waiting", "b", "_", "needed", "key"]
abbrev P_boxes_by_key : List Str := ["boxes"]
theorem scope_boxes_by_key : FnScope N_boxes_by_key P_boxes_by_key (defScope S_boxes_by_key) := ⟨rfl, rfl, rfl, by decide +kernel, rfl, by decide +kernel, by decide +kernel⟩
def B_boxes_by_key : MS :=
    (mSeq (mAsg mNewX (gN 1))
    (mSeq (mFor (mIEnum (mCons (mVar 0) mNil)) (gT 2 (gsCons (gN 2) (gsCons (gT 2 (gsCons (gN 3) (gsCons (gN 4) gsNil))) gsNil))) (mFor (mIAny (mVar 4)) (gN 5) (mDrop (mMeth "list" appendD (mMethX sdfD (mVar 1) (mCons (mVar 5) (mCons (mLst mNil) mNil))) (mCons (mVar 2) mNil)))))
    (mRet (mVar 1))))
def M_boxes_by_key : MF := mFn 1 6 (B_boxes_by_key)
theorem sb_boxes_by_key {P : Program} {w : World} {K : PySem.W.Frag} {mg : Str → Option Value} {base : Heap} {ft : Cfg} (T : Txt P w mg ft)  : SB (fmOf P w K mg base ft S_boxes_by_key N_boxes_by_key 0) (defBody S_boxes_by_key) B_boxes_by_key :=
    (sb_cons (ss_set 1 se_newX)
    (sb_cons (ss_for (si_enum T.b_enumerate (sa_cons (se_var 0) sa_nil)) (sg_tup (sgs_cons (sg_name 2) (sgs_cons (sg_tup (sgs_cons (sg_name 3) (sgs_cons (sg_name 4) sgs_nil))) sgs_nil))) (sb_one (ss_for (si_any (se_var 4)) (sg_name 5) (sb_one (ss_expr (se_bm PySem.F.plainAttrs_list PySem.F.slot_list_append PySem.F.type_list_append sm_append (se_bmX PySem.F.slot_dict_setdefault PySem.F.type_dict_setdefault (smx_sdf T.hsh) (se_var 1) (sa_cons (se_var 5) (sa_cons (se_lst sa_nil) sa_nil))) (sa_cons (se_var 2) sa_nil)))))))
    (sb_one (ss_ret (se_var 1)))))
/-! opening_order -/
abbrev S_opening_order : Stmt := top 8
abbrev N_opening_order : List Str := ["keys", "boxes", "waiting", "missing", "_", "needed", "there", "key", "queue", "order", "at", "got", "b"]
abbrev P_opening_order : List Str := ["keys", "boxes"]
theorem scope_opening_order : FnScope N_opening_order P_opening_order (defScope S_opening_order) := ⟨rfl, rfl, rfl, by decide +kernel, rfl, by decide +kernel, by decide +kernel⟩
def B_opening_order : MS :=
    (mSeq (mAsg (mCall M_boxes_by_key (mCons (mVar 1) mNil)) (gN 2))
    (mSeq (mAsg (mLc (mIAny (mVar 1)) (gT 2 (gsCons (gN 4) (gsCons (gN 5) gsNil))) mYes (mCallB lenD (mCons (mVar 5) mNil)) [4, 5]) (gN 3))
    (mSeq (mAsg (mDc (mIAny (mVar 0)) (gN 7) mYes (mVar 7) (mC (.bl true)) [7]) (gN 6))
    (mSeq (mAsg (mCallB listDX (mCons (mVar 6) mNil)) (gN 8))
    (mSeq (mAsg (mLst mNil) (gN 9))
    (mSeq (mAsg (mC (.int 0)) (gN 10))
    (mSeq (whLoop (mTest (mBin dLt (mVar 10) (mCallB lenD (mCons (mVar 8) mNil)))) (mSeq (mAsg (mBin ixD (mVar 8) (mVar 10)) (gN 11))
    (mSeq (mFor (mIAny (mMethX get2D (mVar 2) (mCons (mVar 11) (mCons (mLst mNil) mNil)))) (gN 12) (mSeq (mPutA getL0 (int0D fun i j => i - j) setX (mVar 3) (mVar 12) (mC (.int 1)))
    (mIfS (tAndM (mTest (mBin dEq (mBin ixD (mVar 3) (mVar 12)) (mC (.int 0)))) (mTest (mBin (inX true) (mBin ixD (mBin ixD (mVar 1) (mVar 12)) (mC (.int 0))) (mVar 6)))) (mSeq (mPut setX (mC (.bl true)) (mVar 6) (mBin ixD (mBin ixD (mVar 1) (mVar 12)) (mC (.int 0))))
    (mSeq (mDrop (mMeth "list" appendD (mVar 8) (mCons (mBin ixD (mBin ixD (mVar 1) (mVar 12)) (mC (.int 0))) mNil)))
    (mDrop (mMeth "list" appendD (mVar 9) (mCons (mVar 12) mNil))))) mNext)))
    (mAug 10 (int0D fun i j => i + j) (mC (.int 1))))) fuel)
    (mRet (mVar 9)))))))))
def M_opening_order : MF := mFn 2 13 (B_opening_order)
theorem sb_opening_order {P : Program} {w : World} {K : PySem.W.Frag} {mg : Str → Option Value} {base : Heap} {ft : Cfg} (T : Txt P w mg ft) (c_boxes_by_key : Callee P w K mg base ft "boxes_by_key" 1 M_boxes_by_key 1) : SB (fmOf P w K mg base ft S_opening_order N_opening_order 1) (defBody S_opening_order) B_opening_order :=
    (sb_cons (ss_set 2 (se_call _ c_boxes_by_key (sa_cons (se_var 1) sa_nil) (mCons_len len0)))
    (sb_cons (ss_setLc 3 [((Str.ofString "_"), 4), ((Str.ofString "needed"), 5)] (fun env h => sw_true (by rw [h]; rfl) (by rw [h]; rfl) rfl (by decide +kernel)) (si_any (se_var 1)) (blkOk_by (by dsimp only [fmOf, Fm.blk]; decide +kernel)) (sg_tup (sgs_cons (sg_name 4) (sgs_cons (sg_name 5) sgs_nil))) spt_nil (se_callB sc_len T.b_len (by decide +kernel) (sa_cons (se_var 5) sa_nil)))
    (sb_cons (ss_setDc 6 [((Str.ofString "key"), 7)] T.hsh (fun env h => sw_trueD (by rw [h]; rfl) (by rw [h]; rfl) rfl (by decide +kernel)) (si_any (se_var 0)) (blkOk_by (by dsimp only [fmOf, Fm.blk]; decide +kernel)) (sg_name 7) spt_nil (se_var 7) se_bl)
    (sb_cons (ss_set 8 (se_callTy sc_listX T.b_list (by decide +kernel) (sa_cons (se_var 6) sa_nil)))
    (sb_cons (ss_set 9 (se_lst sa_nil))
    (sb_cons (ss_set 10 se_int)
    (sb_cons (ss_while fuel (st_cmp so_lt (se_var 10) (se_callB sc_len T.b_len (by decide +kernel) (sa_cons (se_var 8) sa_nil))) (sb_cons (ss_set 11 (se_ix six (se_var 8) (se_var 10)))
    (sb_cons (ss_for (si_any (se_bmX PySem.F.slot_dict_get PySem.F.type_dict_get (smx_get2 T.hsh) (se_var 2) (sa_cons (se_var 11) (sa_cons (se_lst sa_nil) sa_nil)))) (sg_name 12) (sb_cons (ss_putA sgt_list sip_sub (sset_X T.hsh) (se_var 3) (se_var 12) se_int)
    (sb_one (ss_if (st_w (sw_and (st_cmp so_eq (se_ix six (se_var 3) (se_var 12)) se_int) (sw_and1 (st_cmp (so_notInX T.hsh) (se_ix six (se_ix six (se_var 1) (se_var 12)) se_int) (se_var 6))))) (sb_cons (ss_put (sset_X T.hsh) (se_var 6) (se_ix six (se_ix six (se_var 1) (se_var 12)) se_int) se_bl)
    (sb_cons (ss_expr (se_bm PySem.F.plainAttrs_list PySem.F.slot_list_append PySem.F.type_list_append sm_append (se_var 8) (sa_cons (se_ix six (se_ix six (se_var 1) (se_var 12)) se_int) sa_nil)))
    (sb_one (ss_expr (se_bm PySem.F.plainAttrs_list PySem.F.slot_list_append PySem.F.type_list_append sm_append (se_var 9) (sa_cons (se_var 12) sa_nil)))))) sb_nil))))
    (sb_one (ss_aug 10 sip_add se_int)))))
    (sb_one (ss_ret (se_var 9))))))))))
/-! things_opened -/
abbrev S_things_opened : Stmt := top 7
abbrev N_things_opened : List Str := ["keys", "boxes", "things", "key", "b"]
abbrev P_things_opened : List Str := ["keys", "boxes"]
theorem scope_things_opened : FnScope N_things_opened P_things_opened (defScope S_things_opened) := ⟨rfl, rfl, rfl, by decide +kernel, rfl, by decide +kernel, by decide +kernel⟩
def B_things_opened : MS :=
    (mSeq (mAsg (mDc (mIAny (mVar 0)) (gN 3) mYes (mVar 3) (mC (.bl true)) [3]) (gN 2))
    (mSeq (mFor (mIAny (mCall M_opening_order (mCons (mVar 0) (mCons (mVar 1) mNil)))) (gN 4) (mPut setX (mC (.bl true)) (mVar 2) (mBin ixD (mBin ixD (mVar 1) (mVar 4)) (mC (.int 0)))))
    (mRet (mVar 2))))
def M_things_opened : MF := mFn 2 5 (B_things_opened)
theorem sb_things_opened {P : Program} {w : World} {K : PySem.W.Frag} {mg : Str → Option Value} {base : Heap} {ft : Cfg} (T : Txt P w mg ft) (c_opening_order : Callee P w K mg base ft "opening_order" 2 M_opening_order 2) : SB (fmOf P w K mg base ft S_things_opened N_things_opened 2) (defBody S_things_opened) B_things_opened :=
    (sb_cons (ss_setDc 2 [((Str.ofString "key"), 3)] T.hsh (fun env h => sw_trueD (by rw [h]; rfl) (by rw [h]; rfl) rfl (by decide +kernel)) (si_any (se_var 0)) (blkOk_by (by dsimp only [fmOf, Fm.blk]; decide +kernel)) (sg_name 3) spt_nil (se_var 3) se_bl)
    (sb_cons (ss_for (si_any (se_call _ c_opening_order (sa_cons (se_var 0) (sa_cons (se_var 1) sa_nil)) (mCons_len (mCons_len len0)))) (sg_name 4) (sb_one (ss_put (sset_X T.hsh) (se_var 2) (se_ix six (se_ix six (se_var 1) (se_var 4)) se_int) se_bl)))
    (sb_one (ss_ret (se_var 2)))))
/-! opened -/
abbrev S_opened : Stmt := top 4
abbrev N_opened : List Str := ["keys", "boxes"]
abbrev P_opened : List Str := ["keys", "boxes"]
theorem scope_opened : FnScope N_opened P_opened (defScope S_opened) := ⟨rfl, rfl, rfl, by decide +kernel, rfl, by decide +kernel, by decide +kernel⟩
def B_opened : MS :=
    (mRet (mKeep (mCall M_pair_of (mCons (mCall M_things_opened (mCons (mVar 0) (mCons (mVar 1) mNil))) mNil))))
def M_opened : MF := mFn 2 2 (B_opened)
theorem sb_opened {P : Program} {w : World} {K : PySem.W.Frag} {mg : Str → Option Value} {base : Heap} {ft : Cfg} (T : Txt P w mg ft) (c_pair_of : Callee P w K mg base ft "pair_of" 1 M_pair_of 3) (c_things_opened : Callee P w K mg base ft "things_opened" 2 M_things_opened 3) : SB (fmOf P w K mg base ft S_opened N_opened 3) (defBody S_opened) B_opened :=
    (sb_one (ss_ret (se_keep (se_call _ c_pair_of (sa_cons (se_call _ c_things_opened (sa_cons (se_var 0) (sa_cons (se_var 1) sa_nil)) (mCons_len (mCons_len len0))) sa_nil) (mCons_len len0)))))
/-! opens -/
abbrev S_opens : Stmt := top 5
abbrev N_opens : List Str := ["keys", "boxes", "thing"]
abbrev P_opens : List Str := ["keys", "boxes", "thing"]
theorem scope_opens : FnScope N_opens P_opens (defScope S_opens) := ⟨rfl, rfl, rfl, by decide +kernel, rfl, by decide +kernel, by decide +kernel⟩
def B_opens : MS :=
    (mRet (mBin (inX false) (mVar 2) (mCall M_things_opened (mCons (mVar 0) (mCons (mVar 1) mNil)))))
def M_opens : MF := mFn 3 3 (B_opens)
theorem sb_opens {P : Program} {w : World} {K : PySem.W.Frag} {mg : Str → Option Value} {base : Heap} {ft : Cfg} (T : Txt P w mg ft) (c_things_opened : Callee P w K mg base ft "things_opened" 2 M_things_opened 3) : SB (fmOf P w K mg base ft S_opens N_opens 3) (defBody S_opens) B_opens :=
    (sb_one (ss_ret (se_cmp (so_inX T.hsh) (se_var 2) (se_call _ c_things_opened (sa_cons (se_var 0) (sa_cons (se_var 1) sa_nil)) (mCons_len (mCons_len len0))))))
/-! openable -/
abbrev S_openable : Stmt := top 6
abbrev N_openable : List Str := ["keys", "boxes", "there", "key", "b", "box"]
abbrev P_openable : List Str := ["keys", "boxes"]
theorem scope_openable : FnScope N_openable P_openable (defScope S_openable) := ⟨rfl, rfl, rfl, by decide +kernel, rfl, by decide +kernel, by decide +kernel⟩
def B_openable : MS :=
    (mSeq (mAsg (mDc (mIAny (mVar 0)) (gN 3) mYes (mVar 3) (mC (.bl true)) [3]) (gN 2))
    (mRet (mCallB tupleD (mCons (mLc (mIEnum (mCons (mVar 1) mNil)) (gT 2 (gsCons (gN 4) (gsCons (gN 5) gsNil))) (mTru (mCallB (allD fun bs => bs.all id) (mCons (mLc (mIAny (mBin ixD (mVar 5) (mC (.int 1)))) (gN 3) mYes (mBin (inX false) (mVar 3) (mVar 2)) [3]) mNil))) (mVar 4) [4, 5]) mNil))))
def M_openable : MF := mFn 2 6 (B_openable)
theorem sb_openable {P : Program} {w : World} {K : PySem.W.Frag} {mg : Str → Option Value} {base : Heap} {ft : Cfg} (T : Txt P w mg ft)  : SB (fmOf P w K mg base ft S_openable N_openable 0) (defBody S_openable) B_openable :=
    (sb_cons (ss_setS 2 (se_dc [((Str.ofString "key"), 3)] T.hsh (si_any (se_var 0)) (blkOk_by (by dsimp only [fmOf, Fm.blk]; decide +kernel)) (sg_name 3) spt_nil (se_var 3) se_bl) (fun env h => sw_cellD (by rw [h]; rfl)))
    (sb_one (ss_ret (se_callTy sc_tuple T.b_tuple (by decide +kernel) (sa_cons (se_lc [((Str.ofString "b"), 4), ((Str.ofString "box"), 5)] (si_enum T.b_enumerate (sa_cons (se_var 1) sa_nil)) (blkOk_by (by dsimp only [fmOf, Fm.blk]; decide +kernel)) (sg_tup (sgs_cons (sg_name 4) (sgs_cons (sg_name 5) sgs_nil))) (spt_one (st_tru (se_callB sc_all T.b_all (by decide +kernel) (sa_cons (se_lc [((Str.ofString "key"), 3)] (si_any (se_ix six (se_var 5) se_int)) (blkOk_by (by dsimp only [fmOf, Fm.blk]; decide +kernel)) (sg_name 3) spt_nil (se_cmp (so_inX T.hsh) (se_var 3) (se_var 2))) sa_nil)))) (se_var 4)) sa_nil)))))
/-! _law_feed -/
abbrev S_law_feed : Stmt := top 12
abbrev N_law_feed : List Str := ["_law_script"]
abbrev P_law_feed : List Str := ["_law_script"]
theorem scope_law_feed : FnScope N_law_feed P_law_feed (defScope S_law_feed) := ⟨rfl, rfl, rfl, by decide +kernel, rfl, by decide +kernel, by decide +kernel⟩
def B_law_feed : MS :=
    (mRet (mDisp [(Str.ofString "cells"), (Str.ofString "at"), (Str.ofString "left"), (Str.ofString "count")] (mCons (mCallB listD (mCons (mSl slD (mVar 0) oNone (oSome (mC (.int 63)))) mNil)) (mCons (mC (.int 0)) (mCons (mC (.int 0)) (mCons (mC (.int 0)) mNil))))))
def M_law_feed : MF := mFn 1 1 (B_law_feed)
theorem sb_law_feed {P : Program} {w : World} {K : PySem.W.Frag} {mg : Str → Option Value} {base : Heap} {ft : Cfg} (T : Txt P w mg ft)  : SB (fmOf P w K mg base ft S_law_feed N_law_feed 0) (defBody S_law_feed) B_law_feed :=
    (sb_one (ss_ret (se_disp (sds_cons (se_callTy sc_list T.b_list (by decide +kernel) (sa_cons (se_slice ssl (se_var 0) so_none (so_some se_int)) sa_nil)) (sds_cons se_int (sds_cons se_int (sds_cons se_int sds_nil)))) rfl rfl (by simp) (by decide) (by decide +kernel) (by decide))))
/-! _law_draw -/
abbrev S_law_draw : Stmt := top 13
abbrev N_law_draw : List Str := ["_law_feed_here", "_law_many", "_law_digit", "_law_spot", "_law_cell", "_law_mixed"]
abbrev P_law_draw : List Str := ["_law_feed_here", "_law_many"]
theorem scope_law_draw : FnScope N_law_draw P_law_draw (defScope S_law_draw) := ⟨rfl, rfl, rfl, by decide +kernel, rfl, by decide +kernel, by decide +kernel⟩
def B_law_draw : MS :=
    (mSeq (mDPut (mBin addD (mBin dgetD (mVar 0) (mC (.str (Str.ofString "count")))) (mC (.int 1))) (mVar 0) (mC (.str (Str.ofString "count"))))
    (mSeq (mIfS (mTest (mBin dGt (mBin dgetD (mVar 0) (mC (.str (Str.ofString "left")))) (mC (.int 0)))) (mSeq (mAsg (mBin modD (mCallB intC (mCons (mBin dgetD (mVar 0) (mC (.str (Str.ofString "left")))) mNil)) (mVar 1)) (gN 2))
    (mSeq (mDPut (mBin fdivD (mBin dgetD (mVar 0) (mC (.str (Str.ofString "left")))) (mVar 1)) (mVar 0) (mC (.str (Str.ofString "left"))))
    (mRet (mVar 2)))) mNext)
    (mSeq (mAsg (mBin dgetD (mVar 0) (mC (.str (Str.ofString "at")))) (gN 3))
    (mSeq (mDPut (mBin addD (mVar 3) (mC (.int 1))) (mVar 0) (mC (.str (Str.ofString "at"))))
    (mSeq (mAsg (mIf (mTest (mBin dNe (mBin dgetD (mVar 0) (mC (.str (Str.ofString "cells")))) (mLst mNil))) (mBin ixD (mBin dgetD (mVar 0) (mC (.str (Str.ofString "cells")))) (mBin modD (mCallB intC (mCons (mVar 3) mNil)) (mCallB lenD (mCons (mBin dgetD (mVar 0) (mC (.str (Str.ofString "cells")))) mNil)))) (mC (.int 59))) (gN 4))
    (mSeq (mIfS (tAndM (mTest (mBin dGe (mVar 4) (mBin powD (mC (.int 10)) (mC (.int 18))))) (mTest (mBin dLt (mVar 3) (mCallB lenD (mCons (mBin dgetD (mVar 0) (mC (.str (Str.ofString "cells")))) mNil))))) (mSeq (mDPut (mBin fdivD (mVar 4) (mVar 1)) (mVar 0) (mC (.str (Str.ofString "left"))))
    (mRet (mBin modD (mCallB intC (mCons (mVar 4) mNil)) (mVar 1)))) mNext)
    (mSeq (mAsg (mBin modD (mCallB intC (mCons (mBin addD (mBin addD (mBin modD (mCallB intC (mCons (mVar 4) mNil)) (mC (.int 1000000427))) (mBin mulD (mC (.int 130003)) (mBin dgetD (mVar 0) (mC (.str (Str.ofString "count")))))) (mC (.int 61))) mNil)) (mC (.int 2147483399))) (gN 5))
    (mSeq (mAsg (mBin modD (mCallB intC (mCons (mBin addD (mBin addD (mBin mulD (mVar 5) (mVar 5)) (mBin mulD (mC (.int 3900017)) (mBin dgetD (mVar 0) (mC (.str (Str.ofString "count")))))) (mC (.int 29))) mNil)) (mC (.int 2147483353))) (gN 5))
    (mRet (mBin modD (mCallB intC (mCons (mBin fdivD (mBin modD (mCallB intC (mCons (mBin addD (mBin mulD (mVar 5) (mVar 5)) (mBin mulD (mC (.int 97)) (mVar 5))) mNil)) (mC (.int 2147483323))) (mC (.int 16))) mNil)) (mVar 1)))))))))))
def M_law_draw : MF := mFn 2 6 (B_law_draw)
theorem sb_law_draw {P : Program} {w : World} {K : PySem.W.Frag} {mg : Str → Option Value} {base : Heap} {ft : Cfg} (T : Txt P w mg ft)  : SB (fmOf P w K mg base ft S_law_draw N_law_draw 0) (defBody S_law_draw) B_law_draw :=
    (sb_cons (ss_dput (se_var 0) se_str (se_op so_add (se_dget (se_var 0) se_str) se_int))
    (sb_cons (ss_if (st_cmp so_gt (se_dget (se_var 0) se_str) se_int) (sb_cons (ss_set 2 (se_op so_mod (se_callTy sc_int T.b_int (by decide +kernel) (sa_cons (se_dget (se_var 0) se_str) sa_nil)) (se_var 1)))
    (sb_cons (ss_dput (se_var 0) se_str (se_op so_fdiv (se_dget (se_var 0) se_str) (se_var 1)))
    (sb_one (ss_ret (se_var 2))))) sb_nil)
    (sb_cons (ss_set 3 (se_dget (se_var 0) se_str))
    (sb_cons (ss_dput (se_var 0) se_str (se_op so_add (se_var 3) se_int))
    (sb_cons (ss_set 4 (se_if (st_cmp so_ne (se_dget (se_var 0) se_str) (se_lst sa_nil)) (se_ix six (se_dget (se_var 0) se_str) (se_op so_mod (se_callTy sc_int T.b_int (by decide +kernel) (sa_cons (se_var 3) sa_nil)) (se_callB sc_len T.b_len (by decide +kernel) (sa_cons (se_dget (se_var 0) se_str) sa_nil)))) se_int))
    (sb_cons (ss_if (st_w (sw_and (st_cmp so_ge (se_var 4) (se_op so_pow se_int se_int)) (sw_and1 (st_cmp so_lt (se_var 3) (se_callB sc_len T.b_len (by decide +kernel) (sa_cons (se_dget (se_var 0) se_str) sa_nil)))))) (sb_cons (ss_dput (se_var 0) se_str (se_op so_fdiv (se_var 4) (se_var 1)))
    (sb_one (ss_ret (se_op so_mod (se_callTy sc_int T.b_int (by decide +kernel) (sa_cons (se_var 4) sa_nil)) (se_var 1))))) sb_nil)
    (sb_cons (ss_set 5 (se_op so_mod (se_callTy sc_int T.b_int (by decide +kernel) (sa_cons (se_op so_add (se_op so_add (se_op so_mod (se_callTy sc_int T.b_int (by decide +kernel) (sa_cons (se_var 4) sa_nil)) se_int) (se_op so_mul se_int (se_dget (se_var 0) se_str))) se_int) sa_nil)) se_int))
    (sb_cons (ss_set 5 (se_op so_mod (se_callTy sc_int T.b_int (by decide +kernel) (sa_cons (se_op so_add (se_op so_add (se_op so_mul (se_var 5) (se_var 5)) (se_op so_mul se_int (se_dget (se_var 0) se_str))) se_int) sa_nil)) se_int))
    (sb_one (ss_ret (se_op so_mod (se_callTy sc_int T.b_int (by decide +kernel) (sa_cons (se_op so_fdiv (se_op so_mod (se_callTy sc_int T.b_int (by decide +kernel) (sa_cons (se_op so_add (se_op so_mul (se_var 5) (se_var 5)) (se_op so_mul se_int (se_var 5))) sa_nil)) se_int) se_int) sa_nil)) (se_var 1))))))))))))
/-! _law_key -/
abbrev S_law_key : Stmt := top 14
abbrev N_law_key : List Str := ["_law_item"]
abbrev P_law_key : List Str := ["_law_item"]
theorem scope_law_key : FnScope N_law_key P_law_key (defScope S_law_key) := ⟨rfl, rfl, rfl, by decide +kernel, rfl, by decide +kernel, by decide +kernel⟩
def B_law_key : MS :=
    (mRet (mAnd (mCallB isiD (mCons (mVar 0) (mCons (mC (.ty .int)) mNil))) (mAnd (mNot (mCallB isiD (mCons (mVar 0) (mCons (mC (.ty .bl)) mNil)))) (mBin dGe (mVar 0) (mC (.int 0))))))
def M_law_key : MF := mFn 1 1 (B_law_key)
theorem sb_law_key {P : Program} {w : World} {K : PySem.W.Frag} {mg : Str → Option Value} {base : Heap} {ft : Cfg} (T : Txt P w mg ft)  : SB (fmOf P w K mg base ft S_law_key N_law_key 0) (defBody S_law_key) B_law_key :=
    (sb_one (ss_ret (se_and (se_callB sc_isi T.b_isinstance (by decide +kernel) (sa_cons (se_var 0) (sa_cons (se_ty .int T.b_int (by decide +kernel)) sa_nil))) (se_and (se_not (se_callB sc_isi T.b_isinstance (by decide +kernel) (sa_cons (se_var 0) (sa_cons (se_ty .bl T.b_bool (by decide +kernel)) sa_nil)))) (se_one (se_cmp so_ge (se_var 0) se_int))))))
/-! _law_named -/
abbrev S_law_named : Stmt := top 15
abbrev N_law_named : List Str := ["_law_item", "_law_sign"]
abbrev P_law_named : List Str := ["_law_item"]
theorem scope_law_named : FnScope N_law_named P_law_named (defScope S_law_named) := ⟨rfl, rfl, rfl, by decide +kernel, rfl, by decide +kernel, by decide +kernel⟩
def B_law_named : MS :=
    (mSeq (mIfS (tOrM (tNotM (mTru (mCallB isiD (mCons (mVar 0) (mCons (mC (.ty .str)) mNil))))) (tNotM (mTest (mChain dLt dLt (mC (.int 0)) (mCallB lenD (mCons (mVar 0) mNil)) (mC (.int 9)))))) (mRet (mC (.bl false))) mNext)
    (mRet (mBin dEq (mLc (mIAny (mVar 0)) (gN 1) (tNotM (mTest (mChain dLe dLe (mC (.int 97)) (mCallB ordC (mCons (mVar 1) mNil)) (mC (.int 122))))) (mVar 1) [1]) (mLst mNil))))
def M_law_named : MF := mFn 1 2 (B_law_named)
theorem sb_law_named {P : Program} {w : World} {K : PySem.W.Frag} {mg : Str → Option Value} {base : Heap} {ft : Cfg} (T : Txt P w mg ft)  : SB (fmOf P w K mg base ft S_law_named N_law_named 0) (defBody S_law_named) B_law_named :=
    (sb_cons (ss_if (st_w (sw_or (st_not (st_tru (se_callB sc_isi T.b_isinstance (by decide +kernel) (sa_cons (se_var 0) (sa_cons (se_ty .str T.b_str (by decide +kernel)) sa_nil))))) (sw_or1 (st_not (st_chain so_lt so_lt se_int (se_callB sc_len T.b_len (by decide +kernel) (sa_cons (se_var 0) sa_nil)) se_int))))) (sb_one (ss_ret se_bl)) sb_nil)
    (sb_one (ss_ret (se_cmp so_eq (se_lc [((Str.ofString "_law_sign"), 1)] (si_any (se_var 0)) (blkOk_by (by dsimp only [fmOf, Fm.blk]; decide +kernel)) (sg_name 1) (spt_one (st_not (st_chain so_le so_le se_int (se_callB sc_ord T.b_ord (by decide +kernel) (sa_cons (se_var 1) sa_nil)) se_int))) (se_var 1)) (se_lst sa_nil)))))
/-! _law_page -/
abbrev S_law_page : Stmt := top 16
abbrev N_law_page : List Str := ["_law_item"]
abbrev P_law_page : List Str := ["_law_item"]
theorem scope_law_page : FnScope N_law_page P_law_page (defScope S_law_page) := ⟨rfl, rfl, rfl, by decide +kernel, rfl, by decide +kernel, by decide +kernel⟩
def B_law_page : MS :=
    (mRet (mAnd (mCallB isiD (mCons (mVar 0) (mCons (mC (.ty .tup)) mNil))) (mAnd (mBin dEq (mCallB lenD (mCons (mVar 0) mNil)) (mC (.int 2))) (mAnd (mKeep (mCall M_law_named (mCons (mBin ixD (mVar 0) (mC (.int 0))) mNil))) (mKeep (mCall M_law_key (mCons (mBin ixD (mVar 0) (mC (.int 1))) mNil)))))))
def M_law_page : MF := mFn 1 1 (B_law_page)
theorem sb_law_page {P : Program} {w : World} {K : PySem.W.Frag} {mg : Str → Option Value} {base : Heap} {ft : Cfg} (T : Txt P w mg ft) (c_law_named : Callee P w K mg base ft "_law_named" 1 M_law_named 1) (c_law_key : Callee P w K mg base ft "_law_key" 1 M_law_key 1) : SB (fmOf P w K mg base ft S_law_page N_law_page 1) (defBody S_law_page) B_law_page :=
    (sb_one (ss_ret (se_and (se_callB sc_isi T.b_isinstance (by decide +kernel) (sa_cons (se_var 0) (sa_cons (se_ty .tup T.b_tuple (by decide +kernel)) sa_nil))) (se_and (se_cmp so_eq (se_callB sc_len T.b_len (by decide +kernel) (sa_cons (se_var 0) sa_nil)) se_int) (se_and (se_keep (se_call _ c_law_named (sa_cons (se_ix six (se_var 0) se_int) sa_nil) (mCons_len len0))) (se_one (se_keep (se_call _ c_law_key (sa_cons (se_ix six (se_var 0) se_int) sa_nil) (mCons_len len0)))))))))
/-! _law_rises -/
abbrev S_law_rises : Stmt := top 17
abbrev N_law_rises : List Str := ["_law_some", "_law_k"]
abbrev P_law_rises : List Str := ["_law_some"]
theorem scope_law_rises : FnScope N_law_rises P_law_rises (defScope S_law_rises) := ⟨rfl, rfl, rfl, by decide +kernel, rfl, by decide +kernel, by decide +kernel⟩
def B_law_rises : MS :=
    (mRet (mBin dEq (mLc (mIRng2 (mCons (mC (.int 1)) (mCons (mCallB lenD (mCons (mVar 0) mNil)) mNil))) (gN 1) (mTest (mBin dGeX (mBin ixD (mVar 0) (mBin subD (mVar 1) (mC (.int 1)))) (mBin ixD (mVar 0) (mVar 1)))) (mVar 1) [1]) (mLst mNil)))
def M_law_rises : MF := mFn 1 2 (B_law_rises)
theorem sb_law_rises {P : Program} {w : World} {K : PySem.W.Frag} {mg : Str → Option Value} {base : Heap} {ft : Cfg} (T : Txt P w mg ft)  : SB (fmOf P w K mg base ft S_law_rises N_law_rises 0) (defBody S_law_rises) B_law_rises :=
    (sb_one (ss_ret (se_cmp so_eq (se_lc [((Str.ofString "_law_k"), 1)] (si_range2 T.b_range (sa_cons se_int (sa_cons (se_callB sc_len T.b_len (by decide +kernel) (sa_cons (se_var 0) sa_nil)) sa_nil))) (blkOk_by (by dsimp only [fmOf, Fm.blk]; decide +kernel)) (sg_name 1) (spt_one (st_cmp so_geX (se_ix six (se_var 0) (se_op so_sub (se_var 1) se_int)) (se_ix six (se_var 0) (se_var 1)))) (se_var 1)) (se_lst sa_nil))))
/-! _law_keyed -/
abbrev S_law_keyed : Stmt := top 18
abbrev N_law_keyed : List Str := ["_law_item", "_law_one"]
abbrev P_law_keyed : List Str := ["_law_item"]
theorem scope_law_keyed : FnScope N_law_keyed P_law_keyed (defScope S_law_keyed) := ⟨rfl, rfl, rfl, by decide +kernel, rfl, by decide +kernel, by decide +kernel⟩
def B_law_keyed : MS :=
    (mRet (mAnd (mCallB isiD (mCons (mVar 0) (mCons (mC (.ty .tup)) mNil))) (mAnd (mBin dEq (mLc (mIAny (mVar 0)) (gN 1) (tNotM (mTru (mKeep (mCall M_law_key (mCons (mVar 1) mNil))))) (mVar 1) [1]) (mLst mNil)) (mKeep (mCall M_law_rises (mCons (mVar 0) mNil))))))
def M_law_keyed : MF := mFn 1 2 (B_law_keyed)
theorem sb_law_keyed {P : Program} {w : World} {K : PySem.W.Frag} {mg : Str → Option Value} {base : Heap} {ft : Cfg} (T : Txt P w mg ft) (c_law_key : Callee P w K mg base ft "_law_key" 1 M_law_key 1) (c_law_rises : Callee P w K mg base ft "_law_rises" 1 M_law_rises 1) : SB (fmOf P w K mg base ft S_law_keyed N_law_keyed 1) (defBody S_law_keyed) B_law_keyed :=
    (sb_one (ss_ret (se_and (se_callB sc_isi T.b_isinstance (by decide +kernel) (sa_cons (se_var 0) (sa_cons (se_ty .tup T.b_tuple (by decide +kernel)) sa_nil))) (se_and (se_cmp so_eq (se_lc [((Str.ofString "_law_one"), 1)] (si_any (se_var 0)) (blkOk_by (by dsimp only [fmOf, Fm.blk]; decide +kernel)) (sg_name 1) (spt_one (st_not (st_tru (se_keep (se_call _ c_law_key (sa_cons (se_var 1) sa_nil) (mCons_len len0)))))) (se_var 1)) (se_lst sa_nil)) (se_one (se_keep (se_call _ c_law_rises (sa_cons (se_var 0) sa_nil) (mCons_len len0))))))))
/-! _law_paged -/
abbrev S_law_paged : Stmt := top 19
abbrev N_law_paged : List Str := ["_law_item", "_law_one"]
abbrev P_law_paged : List Str := ["_law_item"]
theorem scope_law_paged : FnScope N_law_paged P_law_paged (defScope S_law_paged) := ⟨rfl, rfl, rfl, by decide +kernel, rfl, by decide +kernel, by decide +kernel⟩
def B_law_paged : MS :=
    (mRet (mAnd (mCallB isiD (mCons (mVar 0) (mCons (mC (.ty .tup)) mNil))) (mAnd (mBin dEq (mLc (mIAny (mVar 0)) (gN 1) (tNotM (mTru (mKeep (mCall M_law_page (mCons (mVar 1) mNil))))) (mVar 1) [1]) (mLst mNil)) (mKeep (mCall M_law_rises (mCons (mVar 0) mNil))))))
def M_law_paged : MF := mFn 1 2 (B_law_paged)
theorem sb_law_paged {P : Program} {w : World} {K : PySem.W.Frag} {mg : Str → Option Value} {base : Heap} {ft : Cfg} (T : Txt P w mg ft) (c_law_page : Callee P w K mg base ft "_law_page" 1 M_law_page 2) (c_law_rises : Callee P w K mg base ft "_law_rises" 1 M_law_rises 1) : SB (fmOf P w K mg base ft S_law_paged N_law_paged 2) (defBody S_law_paged) B_law_paged :=
    (sb_one (ss_ret (se_and (se_callB sc_isi T.b_isinstance (by decide +kernel) (sa_cons (se_var 0) (sa_cons (se_ty .tup T.b_tuple (by decide +kernel)) sa_nil))) (se_and (se_cmp so_eq (se_lc [((Str.ofString "_law_one"), 1)] (si_any (se_var 0)) (blkOk_by (by dsimp only [fmOf, Fm.blk]; decide +kernel)) (sg_name 1) (spt_one (st_not (st_tru (se_keep (se_call _ c_law_page (sa_cons (se_var 1) sa_nil) (mCons_len len0)))))) (se_var 1)) (se_lst sa_nil)) (se_one (se_keep (se_call _ c_law_rises (sa_cons (se_var 0) sa_nil) (mCons_len len0))))))))
/-! _law_grip -/
abbrev S_law_grip : Stmt := top 20
abbrev N_law_grip : List Str := ["_law_feed_here", "_law_many", "_law_most", "_law_pool", "_law_found", "_law_k"]
abbrev P_law_grip : List Str := ["_law_feed_here", "_law_many", "_law_most"]
theorem scope_law_grip : FnScope N_law_grip P_law_grip (defScope S_law_grip) := ⟨rfl, rfl, rfl, by decide +kernel, rfl, by decide +kernel, by decide +kernel⟩
def B_law_grip : MS :=
    (mSeq (mPar 3 4 (mCons (mLstRg (mR1 (mVar 1))) (mCons (mLst mNil) mNil)))
    (mSeq (mFor (mIRng1 (mCons (mKeep (mCall M_law_draw (mCons (mVar 0) (mCons (mBin addD (mVar 2) (mC (.int 1))) mNil)))) mNil)) (gN 5) (mDrop (mMeth "list" appendD (mVar 4) (mCons (mMeth "list" popD (mVar 3) (mCons (mKeep (mCall M_law_draw (mCons (mVar 0) (mCons (mCallB lenD (mCons (mVar 3) mNil)) mNil)))) mNil)) mNil))))
    (mRet (mCallB tupleD (mCons (mCallB sortedD (mCons (mVar 4) mNil)) mNil)))))
def M_law_grip : MF := mFn 3 6 (B_law_grip)
theorem sb_law_grip {P : Program} {w : World} {K : PySem.W.Frag} {mg : Str → Option Value} {base : Heap} {ft : Cfg} (T : Txt P w mg ft) (c_law_draw : Callee P w K mg base ft "_law_draw" 2 M_law_draw 1) : SB (fmOf P w K mg base ft S_law_grip N_law_grip 1) (defBody S_law_grip) B_law_grip :=
    (sb_cons (ss_par 3 4 (sa_cons (se_listRg T.b_list (sr_1 T.b_range (se_var 1))) (sa_cons (se_lst sa_nil) sa_nil)) (by decide) (hw := fun env h => by cases env; cases h; rfl))
    (sb_cons (ss_for (si_range1 T.b_range (sa_cons (se_keep (se_call _ c_law_draw (sa_cons (se_var 0) (sa_cons (se_op so_add (se_var 2) se_int) sa_nil)) (mCons_len (mCons_len len0)))) sa_nil)) (sg_name 5) (sb_one (ss_expr (se_bm PySem.F.plainAttrs_list PySem.F.slot_list_append PySem.F.type_list_append sm_append (se_var 4) (sa_cons (se_bm PySem.F.plainAttrs_list PySem.F.slot_list_pop PySem.F.type_list_pop sm_pop (se_var 3) (sa_cons (se_keep (se_call _ c_law_draw (sa_cons (se_var 0) (sa_cons (se_callB sc_len T.b_len (by decide +kernel) (sa_cons (se_var 3) sa_nil)) sa_nil)) (mCons_len (mCons_len len0)))) sa_nil)) sa_nil)))))
    (sb_one (ss_ret (se_callTy sc_tuple T.b_tuple (by decide +kernel) (sa_cons (se_callB sc_sorted T.b_sorted (by decide +kernel) (sa_cons (se_var 4) sa_nil)) sa_nil))))))
/-! _law_begin -/
abbrev S_law_begin : Stmt := top 21
abbrev N_law_begin : List Str := ["_law_feed_here", "_law_many", "_law_found"]
abbrev P_law_begin : List Str := ["_law_feed_here", "_law_many"]
theorem scope_law_begin : FnScope N_law_begin P_law_begin (defScope S_law_begin) := ⟨rfl, rfl, rfl, by decide +kernel, rfl, by decide +kernel, by decide +kernel⟩
def B_law_begin : MS :=
    (mSeq (mAsg (mBin ixD (mLst (mCons (mLst (mCons (mC (.int 0)) mNil)) (mCons (mLst (mCons (mC (.int 1)) mNil)) (mCons (mLst (mCons (mC (.int 0)) (mCons (mC (.int 1)) mNil))) (mCons (mLst mNil) mNil))))) (mKeep (mCall M_law_draw (mCons (mVar 0) (mCons (mC (.int 4)) mNil))))) (gN 2))
    (mRet (mCallB tupleD (mCons (mSrtSet (mBin addD (mVar 2) (mCallB listD (mCons (mKeep (mCall M_law_grip (mCons (mVar 0) (mCons (mVar 1) (mCons (mC (.int 1)) mNil))))) mNil)))) mNil))))
def M_law_begin : MF := mFn 2 3 (B_law_begin)
theorem sb_law_begin {P : Program} {w : World} {K : PySem.W.Frag} {mg : Str → Option Value} {base : Heap} {ft : Cfg} (T : Txt P w mg ft) (c_law_grip : Callee P w K mg base ft "_law_grip" 3 M_law_grip 2) (c_law_draw : Callee P w K mg base ft "_law_draw" 2 M_law_draw 1) : SB (fmOf P w K mg base ft S_law_begin N_law_begin 2) (defBody S_law_begin) B_law_begin :=
    (sb_cons (ss_set 2 (se_ix six (se_lst (sa_cons (se_lst (sa_cons se_int sa_nil)) (sa_cons (se_lst (sa_cons se_int sa_nil)) (sa_cons (se_lst (sa_cons se_int (sa_cons se_int sa_nil))) (sa_cons (se_lst sa_nil) sa_nil))))) (se_keep (se_call _ c_law_draw (sa_cons (se_var 0) (sa_cons se_int sa_nil)) (mCons_len (mCons_len len0))))))
    (sb_one (ss_ret (se_callTy sc_tuple T.b_tuple (by decide +kernel) (sa_cons (se_srtSetX T.b_sorted T.b_set (se_op so_add (se_var 2) (se_callTy sc_list T.b_list (by decide +kernel) (sa_cons (se_keep (se_call _ c_law_grip (sa_cons (se_var 0) (sa_cons (se_var 1) (sa_cons se_int sa_nil))) (mCons_len (mCons_len (mCons_len len0))))) sa_nil)))) sa_nil)))))
/-! _law_lot -/
abbrev S_law_lot : Stmt := top 22
abbrev N_law_lot : List Str := ["_law_feed_here", "_law_size", "_law_many", "_law_found", "_law_k", "_law_goal", "_law_pool", "_law_some", "_law_key_in", "_law_near", "_law_one", "_law_j", "_law_menu"]
abbrev P_law_lot : List Str := ["_law_feed_here", "_law_size", "_law_many"]
theorem scope_law_lot : FnScope N_law_lot P_law_lot (defScope S_law_lot) := ⟨rfl, rfl, rfl, by decide +kernel, rfl, by decide +kernel, by decide +kernel⟩
def B_law_lot : MS :=
    (mSeq (mAsg (mLst mNil) (gN 3))
    (mSeq (mFor (mIRng1 (mCons (mVar 1) mNil)) (gN 4) (mSeq (mIfS (tAndM (mTest (mBin dNe (mVar 3) (mLst mNil))) (mTest (mBin dEq (mKeep (mCall M_law_draw (mCons (mVar 0) (mCons (mC (.int 9)) mNil)))) (mC (.int 0))))) (mSeq (mDrop (mMeth "list" appendD (mVar 3) (mCons (mBin ixD (mVar 3) (mKeep (mCall M_law_draw (mCons (mVar 0) (mCons (mCallB lenD (mCons (mVar 3) mNil)) mNil))))) mNil)))
    mCont) mNext)
    (mSeq (mAsg (mKeep (mCall M_law_draw (mCons (mVar 0) (mCons (mVar 2) mNil)))) (gN 5))
    (mSeq (mIfS (mTest (mBin dEq (mKeep (mCall M_law_draw (mCons (mVar 0) (mCons (mC (.int 4)) mNil)))) (mC (.int 0)))) (mAsg (mTup (mCons (mBin ixD (mLst (mCons (mC (.str (Str.ofString "memo"))) (mCons (mC (.str (Str.ofString "a"))) (mCons (mC (.str (Str.ofString "world"))) mNil)))) (mKeep (mCall M_law_draw (mCons (mVar 0) (mCons (mC (.int 3)) mNil))))) (mCons (mKeep (mCall M_law_draw (mCons (mVar 0) (mCons (mC (.int 2)) mNil)))) mNil))) (gN 5)) mNext)
    (mSeq (mPar 6 7 (mCons (mLc (mIRng1 (mCons (mVar 2) mNil)) (gN 8) (mTest (mBin dNe (mVar 8) (mVar 5))) (mVar 8) [8]) (mCons (mLst mNil) mNil)))
    (mSeq (mAsg (mBin addD (mLst (mCons (mC (.int 0)) (mCons (mC (.int 1)) mNil))) (mLc (mIAny (mVar 3)) (gN 10) mYes (mBin ixD (mVar 10) (mC (.int 0))) [10])) (gN 9))
    (mSeq (mFor (mIRng1 (mCons (mBin ixD (mLst (mCons (mC (.int 1)) (mCons (mC (.int 1)) (mCons (mC (.int 1)) (mCons (mC (.int 2)) (mCons (mC (.int 2)) (mCons (mC (.int 3)) mNil))))))) (mKeep (mCall M_law_draw (mCons (mVar 0) (mCons (mC (.int 6)) mNil))))) mNil)) (gN 11) (mSeq (mAsg (mIf (mTest (mBin dGt (mKeep (mCall M_law_draw (mCons (mVar 0) (mCons (mC (.int 4)) mNil)))) (mC (.int 0)))) (mLc (mIAny (mVar 6)) (gN 8) (mTest (mBin (inD false) (mVar 8) (mVar 9))) (mVar 8) [8]) (mVar 6)) (gN 12))
    (mSeq (mDrop (mMeth "list" appendD (mVar 7) (mCons (mIf (mTest (mBin dNe (mVar 12) (mLst mNil))) (mBin ixD (mVar 12) (mKeep (mCall M_law_draw (mCons (mVar 0) (mCons (mCallB lenD (mCons (mVar 12) mNil)) mNil))))) (mBin ixD (mVar 6) (mC (.int 0)))) mNil)))
    (mDrop (mRem (mVar 6) (mBin ixD (mVar 7) (mUn negD (mC (.int 1)))))))))
    (mDrop (mMeth "list" appendD (mVar 3) (mCons (mTup (mCons (mVar 5) (mCons (mCallB tupleD (mCons (mCallB sortedD (mCons (mVar 7) mNil)) mNil)) mNil))) mNil))))))))))
    (mRet (mCallB tupleD (mCons (mIf (mTest (mBin dEq (mKeep (mCall M_law_draw (mCons (mVar 0) (mCons (mC (.int 2)) mNil)))) (mC (.int 0)))) (mSl3 (mVar 3) oNone oNone (oSome (mUn negD (mC (.int 1))))) (mVar 3)) mNil)))))
def M_law_lot : MF := mFn 3 13 (B_law_lot)
theorem sb_law_lot {P : Program} {w : World} {K : PySem.W.Frag} {mg : Str → Option Value} {base : Heap} {ft : Cfg} (T : Txt P w mg ft) (c_law_draw : Callee P w K mg base ft "_law_draw" 2 M_law_draw 1) : SB (fmOf P w K mg base ft S_law_lot N_law_lot 1) (defBody S_law_lot) B_law_lot :=
    (sb_cons (ss_set 3 (se_lst sa_nil))
    (sb_cons (ss_for (si_range1 T.b_range (sa_cons (se_var 1) sa_nil)) (sg_name 4) (sb_cons (ss_if (st_w (sw_and (st_cmp so_ne (se_var 3) (se_lst sa_nil)) (sw_and1 (st_cmp so_eq (se_keep (se_call _ c_law_draw (sa_cons (se_var 0) (sa_cons se_int sa_nil)) (mCons_len (mCons_len len0)))) se_int)))) (sb_cons (ss_expr (se_bm PySem.F.plainAttrs_list PySem.F.slot_list_append PySem.F.type_list_append sm_append (se_var 3) (sa_cons (se_ix six (se_var 3) (se_keep (se_call _ c_law_draw (sa_cons (se_var 0) (sa_cons (se_callB sc_len T.b_len (by decide +kernel) (sa_cons (se_var 3) sa_nil)) sa_nil)) (mCons_len (mCons_len len0))))) sa_nil)))
    (sb_one ss_continue)) sb_nil)
    (sb_cons (ss_set 5 (se_keep (se_call _ c_law_draw (sa_cons (se_var 0) (sa_cons (se_var 2) sa_nil)) (mCons_len (mCons_len len0)))))
    (sb_cons (ss_if (st_cmp so_eq (se_keep (se_call _ c_law_draw (sa_cons (se_var 0) (sa_cons se_int sa_nil)) (mCons_len (mCons_len len0)))) se_int) (sb_one (ss_set 5 (se_tup (sa_cons (se_ix six (se_lst (sa_cons se_str (sa_cons se_str (sa_cons se_str sa_nil)))) (se_keep (se_call _ c_law_draw (sa_cons (se_var 0) (sa_cons se_int sa_nil)) (mCons_len (mCons_len len0))))) (sa_cons (se_keep (se_call _ c_law_draw (sa_cons (se_var 0) (sa_cons se_int sa_nil)) (mCons_len (mCons_len len0)))) sa_nil))))) sb_nil)
    (sb_cons (ss_par 6 7 (sa_cons (se_lc [((Str.ofString "_law_key_in"), 8)] (si_range1 T.b_range (sa_cons (se_var 2) sa_nil)) (blkOk_by (by dsimp only [fmOf, Fm.blk]; decide +kernel)) (sg_name 8) (spt_one (st_cmp so_ne (se_var 8) (se_var 5))) (se_var 8)) (sa_cons (se_lst sa_nil) sa_nil)) (by decide) (hw := fun env h => by cases env; cases h; rfl))
    (sb_cons (ss_set 9 (se_op so_add (se_lst (sa_cons se_int (sa_cons se_int sa_nil))) (se_lc [((Str.ofString "_law_one"), 10)] (si_any (se_var 3)) (blkOk_by (by dsimp only [fmOf, Fm.blk]; decide +kernel)) (sg_name 10) spt_nil (se_ix six (se_var 10) se_int))))
    (sb_cons (ss_for (si_range1 T.b_range (sa_cons (se_ix six (se_lst (sa_cons se_int (sa_cons se_int (sa_cons se_int (sa_cons se_int (sa_cons se_int (sa_cons se_int sa_nil))))))) (se_keep (se_call _ c_law_draw (sa_cons (se_var 0) (sa_cons se_int sa_nil)) (mCons_len (mCons_len len0))))) sa_nil)) (sg_name 11) (sb_cons (ss_set 12 (se_if (st_cmp so_gt (se_keep (se_call _ c_law_draw (sa_cons (se_var 0) (sa_cons se_int sa_nil)) (mCons_len (mCons_len len0)))) se_int) (se_lc [((Str.ofString "_law_key_in"), 8)] (si_any (se_var 6)) (blkOk_by (by dsimp only [fmOf, Fm.blk]; decide +kernel)) (sg_name 8) (spt_one (st_cmp so_in (se_var 8) (se_var 9))) (se_var 8)) (se_var 6)))
    (sb_cons (ss_expr (se_bm PySem.F.plainAttrs_list PySem.F.slot_list_append PySem.F.type_list_append sm_append (se_var 7) (sa_cons (se_if (st_cmp so_ne (se_var 12) (se_lst sa_nil)) (se_ix six (se_var 12) (se_keep (se_call _ c_law_draw (sa_cons (se_var 0) (sa_cons (se_callB sc_len T.b_len (by decide +kernel) (sa_cons (se_var 12) sa_nil)) sa_nil)) (mCons_len (mCons_len len0))))) (se_ix six (se_var 6) se_int)) sa_nil)))
    (sb_one (ss_expr (se_remove (se_var 6) (se_ix six (se_var 7) (se_un su_neg se_int))))))))
    (sb_one (ss_expr (se_bm PySem.F.plainAttrs_list PySem.F.slot_list_append PySem.F.type_list_append sm_append (se_var 3) (sa_cons (se_tup (sa_cons (se_var 5) (sa_cons (se_callTy sc_tuple T.b_tuple (by decide +kernel) (sa_cons (se_callB sc_sorted T.b_sorted (by decide +kernel) (sa_cons (se_var 7) sa_nil)) sa_nil)) sa_nil))) sa_nil)))))))))))
    (sb_one (ss_ret (se_callTy sc_tuple T.b_tuple (by decide +kernel) (sa_cons (se_if (st_cmp so_eq (se_keep (se_call _ c_law_draw (sa_cons (se_var 0) (sa_cons se_int sa_nil)) (mCons_len (mCons_len len0)))) se_int) (se_sl3 (se_var 3) so_none so_none (so_some (se_un su_neg se_int))) (se_var 3)) sa_nil))))))
/-! _law_within -/
abbrev S_law_within : Stmt := top 23
abbrev N_law_within : List Str := ["_law_one", "_law_two", "_law_k", "_law_page_here"]
abbrev P_law_within : List Str := ["_law_one", "_law_two"]
theorem scope_law_within : FnScope N_law_within P_law_within (defScope S_law_within) := ⟨rfl, rfl, rfl, by decide +kernel, rfl, by decide +kernel, by decide +kernel⟩
def B_law_within : MS :=
    (mRet (mAnd (mBin dEq (mLc (mIAny (mBin ixD (mVar 0) (mC (.int 0)))) (gN 2) (mTest (mBin (inD true) (mVar 2) (mBin ixD (mVar 1) (mC (.int 0))))) (mVar 2) [2]) (mLst mNil)) (mBin dEq (mLc (mIAny (mBin ixD (mVar 0) (mC (.int 1)))) (gN 3) (mTest (mBin (inD true) (mVar 3) (mBin ixD (mVar 1) (mC (.int 1))))) (mVar 3) [3]) (mLst mNil))))
def M_law_within : MF := mFn 2 4 (B_law_within)
theorem sb_law_within {P : Program} {w : World} {K : PySem.W.Frag} {mg : Str → Option Value} {base : Heap} {ft : Cfg} (T : Txt P w mg ft)  : SB (fmOf P w K mg base ft S_law_within N_law_within 0) (defBody S_law_within) B_law_within :=
    (sb_one (ss_ret (se_and (se_cmp so_eq (se_lc [((Str.ofString "_law_k"), 2)] (si_any (se_ix six (se_var 0) se_int)) (blkOk_by (by dsimp only [fmOf, Fm.blk]; decide +kernel)) (sg_name 2) (spt_one (st_cmp so_notIn (se_var 2) (se_ix six (se_var 1) se_int))) (se_var 2)) (se_lst sa_nil)) (se_one (se_cmp so_eq (se_lc [((Str.ofString "_law_page_here"), 3)] (si_any (se_ix six (se_var 0) se_int)) (blkOk_by (by dsimp only [fmOf, Fm.blk]; decide +kernel)) (sg_name 3) (spt_one (st_cmp so_notIn (se_var 3) (se_ix six (se_var 1) se_int))) (se_var 3)) (se_lst sa_nil))))))
/-! _law_right -/
abbrev S_law_right : Stmt := top 24
abbrev N_law_right : List Str := ["_law_grip_here", "_law_more", "_law_lot_here", "_law_less", "_law_pair", "_law_late", "_law_at_once", "_law_b", "_law_rest", "_law_free"]
abbrev P_law_right : List Str := ["_law_grip_here", "_law_more", "_law_lot_here", "_law_less"]
theorem scope_law_right : FnScope N_law_right P_law_right (defScope S_law_right) := ⟨rfl, rfl, rfl, by decide +kernel, rfl, by decide +kernel, by decide +kernel⟩
def B_law_right : MS :=
    (mSeq (mAsg (mKeep (mCall M_opened (mCons (mVar 0) (mCons (mVar 2) mNil)))) (gN 4))
    (mSeq (mIfS (tOrM (tNotM (mTru (mKeep (mCall M_law_keyed (mCons (mBin ixD (mVar 4) (mC (.int 0))) mNil))))) (tOrM (tNotM (mTru (mKeep (mCall M_law_paged (mCons (mBin ixD (mVar 4) (mC (.int 1))) mNil))))) (tNotM (mTru (mKeep (mCall M_law_within (mCons (mTup (mCons (mVar 0) (mCons (mTup mNil) mNil))) (mCons (mVar 4) mNil)))))))) (mRet (mC (.bl false))) mNext)
    (mSeq (mIfS (tOrM (mTest (mBin dNe (mKeep (mCall M_opened (mCons (mBin ixD (mVar 4) (mC (.int 0))) (mCons (mVar 2) mNil)))) (mVar 4))) (tNotM (mTru (mKeep (mCall M_law_within (mCons (mVar 4) (mCons (mKeep (mCall M_opened (mCons (mVar 1) (mCons (mVar 2) mNil)))) mNil))))))) (mRet (mC (.bl false))) mNext)
    (mSeq (mIfS (tOrM (tNotM (mTru (mKeep (mCall M_law_within (mCons (mKeep (mCall M_opened (mCons (mVar 0) (mCons (mVar 3) mNil)))) (mCons (mVar 4) mNil)))))) (mTest (mBin dNe (mKeep (mCall M_opened (mCons (mVar 0) (mCons (mTup mNil) mNil)))) (mTup (mCons (mVar 0) (mCons (mTup mNil) mNil)))))) (mRet (mC (.bl false))) mNext)
    (mSeq (mFor (mIAny (mTup (mCons (mSl3 (mVar 2) oNone oNone (oSome (mUn negD (mC (.int 1))))) (mCons (mBin addD (mVar 2) (mSl slD (mVar 2) oNone (oSome (mC (.int 2))))) (mCons (mBin addD (mSl slD (mVar 2) (oSome (mC (.int 2))) oNone) (mSl slD (mVar 2) oNone (oSome (mC (.int 2))))) (mCons (mBin addD (mVar 3) (mVar 2)) mNil)))))) (gN 5) (mIfS (mTest (mBin dNe (mKeep (mCall M_opened (mCons (mVar 0) (mCons (mVar 5) mNil)))) (mVar 4))) (mRet (mC (.bl false))) mNext))
    (mSeq (mAsg (mKeep (mCall M_openable (mCons (mVar 0) (mCons (mVar 2) mNil)))) (gN 6))
    (mSeq (mFor (mIRng1 (mCons (mCallB lenD (mCons (mVar 2) mNil)) mNil)) (gN 7) (mSeq (mAsg (mBin addD (mSl slD (mVar 2) oNone (oSome (mVar 7))) (mSl slD (mVar 2) (oSome (mBin addD (mVar 7) (mC (.int 1)))) oNone)) (gN 8))
    (mSeq (mIfS (tOrM (mTest (mBin dNe (mBin dEq (mKeep (mCall M_openable (mCons (mVar 0) (mCons (mSl slD (mVar 2) (oSome (mVar 7)) (oSome (mBin addD (mVar 7) (mC (.int 1))))) mNil)))) (mTup (mCons (mC (.int 0)) mNil))) (mBin (inD false) (mVar 7) (mVar 6)))) (tAndM (mTest (mBin (inD false) (mVar 7) (mVar 6))) (tNotM (mTru (mKeep (mCall M_opens (mCons (mVar 0) (mCons (mVar 2) (mCons (mBin ixD (mBin ixD (mVar 2) (mVar 7)) (mC (.int 0))) mNil))))))))) (mRet (mC (.bl false))) mNext)
    (mSeq (mIfS (tAndM (mTru (mKeep (mCall M_opens (mCons (mVar 0) (mCons (mVar 8) (mCons (mBin ixD (mBin ixD (mVar 2) (mVar 7)) (mC (.int 0))) mNil)))))) (mTest (mBin dNe (mKeep (mCall M_opened (mCons (mVar 0) (mCons (mVar 8) mNil)))) (mVar 4)))) (mRet (mC (.bl false))) mNext)
    (mIfS (mTest (mBin dNe (mKeep (mCall M_opens (mCons (mVar 0) (mCons (mVar 2) (mCons (mBin ixD (mBin ixD (mVar 2) (mVar 7)) (mC (.int 0))) mNil))))) (mBin (inD false) (mBin ixD (mBin ixD (mVar 2) (mVar 7)) (mC (.int 0))) (mBin addD (mBin ixD (mVar 4) (mC (.int 0))) (mBin ixD (mVar 4) (mC (.int 1))))))) (mRet (mC (.bl false))) mNext)))))
    (mSeq (mAsg (mKeep (mCall M_openable (mCons (mBin ixD (mVar 4) (mC (.int 0))) (mCons (mVar 2) mNil)))) (gN 9))
    (mRet (mAnd (mBin dEq (mLc (mIAny (mVar 9)) (gN 7) (mTest (mBin (inD true) (mBin ixD (mBin ixD (mVar 2) (mVar 7)) (mC (.int 0))) (mBin addD (mBin ixD (mVar 4) (mC (.int 0))) (mBin ixD (mVar 4) (mC (.int 1)))))) (mVar 7) [7]) (mLst mNil)) (mBin dEq (mCallB listD (mCons (mVar 6) mNil)) (mSrtSet (mVar 6)))))))))))))
def M_law_right : MF := mFn 4 10 (B_law_right)
theorem sb_law_right {P : Program} {w : World} {K : PySem.W.Frag} {mg : Str → Option Value} {base : Heap} {ft : Cfg} (T : Txt P w mg ft) (c_openable : Callee P w K mg base ft "openable" 2 M_openable 1) (c_opens : Callee P w K mg base ft "opens" 3 M_opens 4) (c_opened : Callee P w K mg base ft "opened" 2 M_opened 4) (c_law_within : Callee P w K mg base ft "_law_within" 2 M_law_within 1) (c_law_keyed : Callee P w K mg base ft "_law_keyed" 1 M_law_keyed 2) (c_law_paged : Callee P w K mg base ft "_law_paged" 1 M_law_paged 3) : SB (fmOf P w K mg base ft S_law_right N_law_right 4) (defBody S_law_right) B_law_right :=
    (sb_cons (ss_set 4 (se_keep (se_call _ c_opened (sa_cons (se_var 0) (sa_cons (se_var 2) sa_nil)) (mCons_len (mCons_len len0)))))
    (sb_cons (ss_if (st_w (sw_or (st_not (st_tru (se_keep (se_call _ c_law_keyed (sa_cons (se_ix six (se_var 4) se_int) sa_nil) (mCons_len len0))))) (sw_or (st_not (st_tru (se_keep (se_call _ c_law_paged (sa_cons (se_ix six (se_var 4) se_int) sa_nil) (mCons_len len0))))) (sw_or1 (st_not (st_tru (se_keep (se_call _ c_law_within (sa_cons (se_tup (sa_cons (se_var 0) (sa_cons (se_tup sa_nil) sa_nil))) (sa_cons (se_var 4) sa_nil)) (mCons_len (mCons_len len0)))))))))) (sb_one (ss_ret se_bl)) sb_nil)
    (sb_cons (ss_if (st_w (sw_or (st_cmp so_ne (se_keep (se_call _ c_opened (sa_cons (se_ix six (se_var 4) se_int) (sa_cons (se_var 2) sa_nil)) (mCons_len (mCons_len len0)))) (se_var 4)) (sw_or1 (st_not (st_tru (se_keep (se_call _ c_law_within (sa_cons (se_var 4) (sa_cons (se_keep (se_call _ c_opened (sa_cons (se_var 1) (sa_cons (se_var 2) sa_nil)) (mCons_len (mCons_len len0)))) sa_nil)) (mCons_len (mCons_len len0))))))))) (sb_one (ss_ret se_bl)) sb_nil)
    (sb_cons (ss_if (st_w (sw_or (st_not (st_tru (se_keep (se_call _ c_law_within (sa_cons (se_keep (se_call _ c_opened (sa_cons (se_var 0) (sa_cons (se_var 3) sa_nil)) (mCons_len (mCons_len len0)))) (sa_cons (se_var 4) sa_nil)) (mCons_len (mCons_len len0)))))) (sw_or1 (st_cmp so_ne (se_keep (se_call _ c_opened (sa_cons (se_var 0) (sa_cons (se_tup sa_nil) sa_nil)) (mCons_len (mCons_len len0)))) (se_tup (sa_cons (se_var 0) (sa_cons (se_tup sa_nil) sa_nil))))))) (sb_one (ss_ret se_bl)) sb_nil)
    (sb_cons (ss_for (si_any (se_tup (sa_cons (se_sl3 (se_var 2) so_none so_none (so_some (se_un su_neg se_int))) (sa_cons (se_op so_add (se_var 2) (se_slice ssl (se_var 2) so_none (so_some se_int))) (sa_cons (se_op so_add (se_slice ssl (se_var 2) (so_some se_int) so_none) (se_slice ssl (se_var 2) so_none (so_some se_int))) (sa_cons (se_op so_add (se_var 3) (se_var 2)) sa_nil)))))) (sg_name 5) (sb_one (ss_if (st_cmp so_ne (se_keep (se_call _ c_opened (sa_cons (se_var 0) (sa_cons (se_var 5) sa_nil)) (mCons_len (mCons_len len0)))) (se_var 4)) (sb_one (ss_ret se_bl)) sb_nil)))
    (sb_cons (ss_set 6 (se_keep (se_call _ c_openable (sa_cons (se_var 0) (sa_cons (se_var 2) sa_nil)) (mCons_len (mCons_len len0)))))
    (sb_cons (ss_for (si_range1 T.b_range (sa_cons (se_callB sc_len T.b_len (by decide +kernel) (sa_cons (se_var 2) sa_nil)) sa_nil)) (sg_name 7) (sb_cons (ss_set 8 (se_op so_add (se_slice ssl (se_var 2) so_none (so_some (se_var 7))) (se_slice ssl (se_var 2) (so_some (se_op so_add (se_var 7) se_int)) so_none)))
    (sb_cons (ss_if (st_w (sw_or (st_cmp so_ne (se_cmp so_eq (se_keep (se_call _ c_openable (sa_cons (se_var 0) (sa_cons (se_slice ssl (se_var 2) (so_some (se_var 7)) (so_some (se_op so_add (se_var 7) se_int))) sa_nil)) (mCons_len (mCons_len len0)))) (se_tup (sa_cons se_int sa_nil))) (se_cmp so_in (se_var 7) (se_var 6))) (sw_or1 (st_w (sw_and (st_cmp so_in (se_var 7) (se_var 6)) (sw_and1 (st_not (st_tru (se_keep (se_call _ c_opens (sa_cons (se_var 0) (sa_cons (se_var 2) (sa_cons (se_ix six (se_ix six (se_var 2) (se_var 7)) se_int) sa_nil))) (mCons_len (mCons_len (mCons_len len0))))))))))))) (sb_one (ss_ret se_bl)) sb_nil)
    (sb_cons (ss_if (st_w (sw_and (st_tru (se_keep (se_call _ c_opens (sa_cons (se_var 0) (sa_cons (se_var 8) (sa_cons (se_ix six (se_ix six (se_var 2) (se_var 7)) se_int) sa_nil))) (mCons_len (mCons_len (mCons_len len0)))))) (sw_and1 (st_cmp so_ne (se_keep (se_call _ c_opened (sa_cons (se_var 0) (sa_cons (se_var 8) sa_nil)) (mCons_len (mCons_len len0)))) (se_var 4))))) (sb_one (ss_ret se_bl)) sb_nil)
    (sb_one (ss_if (st_cmp so_ne (se_keep (se_call _ c_opens (sa_cons (se_var 0) (sa_cons (se_var 2) (sa_cons (se_ix six (se_ix six (se_var 2) (se_var 7)) se_int) sa_nil))) (mCons_len (mCons_len (mCons_len len0))))) (se_cmp so_in (se_ix six (se_ix six (se_var 2) (se_var 7)) se_int) (se_op so_add (se_ix six (se_var 4) se_int) (se_ix six (se_var 4) se_int)))) (sb_one (ss_ret se_bl)) sb_nil))))))
    (sb_cons (ss_set 9 (se_keep (se_call _ c_openable (sa_cons (se_ix six (se_var 4) se_int) (sa_cons (se_var 2) sa_nil)) (mCons_len (mCons_len len0)))))
    (sb_one (ss_ret (se_and (se_cmp so_eq (se_lc [((Str.ofString "_law_b"), 7)] (si_any (se_var 9)) (blkOk_by (by dsimp only [fmOf, Fm.blk]; decide +kernel)) (sg_name 7) (spt_one (st_cmp so_notIn (se_ix six (se_ix six (se_var 2) (se_var 7)) se_int) (se_op so_add (se_ix six (se_var 4) se_int) (se_ix six (se_var 4) se_int)))) (se_var 7)) (se_lst sa_nil)) (se_one (se_cmp so_eq (se_callTy sc_list T.b_list (by decide +kernel) (sa_cons (se_var 6) sa_nil)) (se_srtSetX T.b_sorted T.b_set (se_var 6)))))))))))))))
/-! law -/
abbrev S_law : Stmt := top 25
abbrev N_law : List Str := ["_law_script", "_law_feed_here", "_law_turn", "_law_lot_here", "_law_grip_here", "_law_more", "_law_less", "_law_one", "_law_kept"]
abbrev P_law : List Str := ["_law_script"]
theorem scope_law : FnScope N_law P_law (defScope S_law) := ⟨rfl, rfl, rfl, by decide +kernel, rfl, by decide +kernel, by decide +kernel⟩
def B_law : MS :=
    (mSeq (mAsg (mCall M_law_feed (mCons (mVar 0) mNil)) (gN 1))
    (mSeq (mFor (mIRng1 (mCons (mC (.int 3)) mNil)) (gN 2) (mSeq (mPar 3 4 (mCons (mKeep (mCall M_law_lot (mCons (mVar 1) (mCons (mBin addD (mC (.int 3)) (mKeep (mCall M_law_draw (mCons (mVar 1) (mCons (mC (.int 5)) mNil))))) (mCons (mC (.int 7)) mNil))))) (mCons (mKeep (mCall M_law_begin (mCons (mVar 1) (mCons (mC (.int 7)) mNil)))) mNil)))
    (mSeq (mAsg (mCallB tupleD (mCons (mSrtSet (mBin addD (mVar 4) (mKeep (mCall M_law_grip (mCons (mVar 1) (mCons (mC (.int 7)) (mCons (mC (.int 2)) mNil))))))) mNil)) (gN 5))
    (mSeq (mAsg (mCallB tupleD (mCons (mLc (mIAny (mVar 3)) (gN 7) (mTest (mBin dEq (mKeep (mCall M_law_draw (mCons (mVar 1) (mCons (mC (.int 2)) mNil)))) (mC (.int 0)))) (mVar 7) [7]) mNil)) (gN 6))
    (mSeq (mAsg (mCallB reprD (mCons (mTup (mCons (mVar 4) (mCons (mVar 3) mNil))) mNil)) (gN 8))
    (mIfS (tOrM (tNotM (mTru (mKeep (mCall M_law_right (mCons (mVar 4) (mCons (mVar 5) (mCons (mVar 3) (mCons (mVar 6) mNil)))))))) (tOrM (tNotM (mTru (mKeep (mCall M_law_right (mCons (mVar 5) (mCons (mVar 5) (mCons (mVar 3) (mCons (mVar 6) mNil)))))))) (mTest (mBin dNe (mCallB reprD (mCons (mTup (mCons (mVar 4) (mCons (mVar 3) mNil))) mNil)) (mVar 8))))) (mRet (mC (.bl false))) mNext))))))
    (mRet (mAnd (mBin dEq (mKeep (mCall M_opened (mCons (mTup mNil) (mCons (mTup mNil) mNil)))) (mTup (mCons (mTup mNil) (mCons (mTup mNil) mNil)))) (mBin dEq (mKeep (mCall M_openable (mCons (mTup (mCons (mC (.int 3)) mNil)) (mCons (mTup mNil) mNil)))) (mTup mNil))))))
def M_law : MF := mFn 1 9 (B_law)
theorem sb_law {P : Program} {w : World} {K : PySem.W.Frag} {mg : Str → Option Value} {base : Heap} {ft : Cfg} (T : Txt P w mg ft) (c_opened : Callee P w K mg base ft "opened" 2 M_opened 4) (c_openable : Callee P w K mg base ft "openable" 2 M_openable 1) (c_law_right : Callee P w K mg base ft "_law_right" 4 M_law_right 5) (c_law_draw : Callee P w K mg base ft "_law_draw" 2 M_law_draw 1) (c_law_grip : Callee P w K mg base ft "_law_grip" 3 M_law_grip 2) (c_law_begin : Callee P w K mg base ft "_law_begin" 2 M_law_begin 3) (c_law_lot : Callee P w K mg base ft "_law_lot" 3 M_law_lot 2) (c_law_feed : Callee P w K mg base ft "_law_feed" 1 M_law_feed 1) : SB (fmOf P w K mg base ft S_law N_law 5) (defBody S_law) B_law :=
    (sb_cons (ss_set 1 (se_call _ c_law_feed (sa_cons (se_var 0) sa_nil) (mCons_len len0)))
    (sb_cons (ss_for (si_range1 T.b_range (sa_cons se_int sa_nil)) (sg_name 2) (sb_cons (ss_par 3 4 (sa_cons (se_keep (se_call _ c_law_lot (sa_cons (se_var 1) (sa_cons (se_op so_add se_int (se_keep (se_call _ c_law_draw (sa_cons (se_var 1) (sa_cons se_int sa_nil)) (mCons_len (mCons_len len0))))) (sa_cons se_int sa_nil))) (mCons_len (mCons_len (mCons_len len0))))) (sa_cons (se_keep (se_call _ c_law_begin (sa_cons (se_var 1) (sa_cons se_int sa_nil)) (mCons_len (mCons_len len0)))) sa_nil)) (by decide) (hw := fun env h => by cases env; cases h; rfl))
    (sb_cons (ss_set 5 (se_callTy sc_tuple T.b_tuple (by decide +kernel) (sa_cons (se_srtSetX T.b_sorted T.b_set (se_op so_add (se_var 4) (se_keep (se_call _ c_law_grip (sa_cons (se_var 1) (sa_cons se_int (sa_cons se_int sa_nil))) (mCons_len (mCons_len (mCons_len len0))))))) sa_nil)))
    (sb_cons (ss_set 6 (se_callTy sc_tuple T.b_tuple (by decide +kernel) (sa_cons (se_lc [((Str.ofString "_law_one"), 7)] (si_any (se_var 3)) (blkOk_by (by dsimp only [fmOf, Fm.blk]; decide +kernel)) (sg_name 7) (spt_one (st_cmp so_eq (se_keep (se_call _ c_law_draw (sa_cons (se_var 1) (sa_cons se_int sa_nil)) (mCons_len (mCons_len len0)))) se_int)) (se_var 7)) sa_nil)))
    (sb_cons (ss_set 8 (se_callB sc_repr T.b_repr (by decide +kernel) (sa_cons (se_tup (sa_cons (se_var 4) (sa_cons (se_var 3) sa_nil))) sa_nil)))
    (sb_one (ss_if (st_w (sw_or (st_not (st_tru (se_keep (se_call _ c_law_right (sa_cons (se_var 4) (sa_cons (se_var 5) (sa_cons (se_var 3) (sa_cons (se_var 6) sa_nil)))) (mCons_len (mCons_len (mCons_len (mCons_len len0)))))))) (sw_or (st_not (st_tru (se_keep (se_call _ c_law_right (sa_cons (se_var 5) (sa_cons (se_var 5) (sa_cons (se_var 3) (sa_cons (se_var 6) sa_nil)))) (mCons_len (mCons_len (mCons_len (mCons_len len0)))))))) (sw_or1 (st_cmp so_ne (se_callB sc_repr T.b_repr (by decide +kernel) (sa_cons (se_tup (sa_cons (se_var 4) (sa_cons (se_var 3) sa_nil))) sa_nil)) (se_var 8)))))) (sb_one (ss_ret se_bl)) sb_nil)))))))
    (sb_one (ss_ret (se_and (se_cmp so_eq (se_keep (se_call _ c_opened (sa_cons (se_tup sa_nil) (sa_cons (se_tup sa_nil) sa_nil)) (mCons_len (mCons_len len0)))) (se_tup (sa_cons (se_tup sa_nil) (sa_cons (se_tup sa_nil) sa_nil)))) (se_one (se_cmp so_eq (se_keep (se_call _ c_openable (sa_cons (se_tup (sa_cons se_int sa_nil)) (sa_cons (se_tup sa_nil) sa_nil)) (mCons_len (mCons_len len0)))) (se_tup sa_nil))))))))
end G
set_option Elab.async false
set_option linter.all false
set_option maxRecDepth 100000
set_option maxHeartbeats 4000000
namespace Mi
open PySem L2
/-! ## what a mirror comes to -/
def wpo {α : Type} (o : Option α) (Q : α → Prop) : Prop := ∃ x, o = some x ∧ Q x
theorem wpo_some {α : Type} {x : α} {Q : α → Prop} : wpo (some x) Q ↔ Q x := ⟨fun ⟨y, e, q⟩ => by cases e; exact q, fun q => ⟨x, rfl, q⟩⟩
theorem wpo_none {α : Type} {Q : α → Prop} : wpo (none : Option α) Q ↔ False := ⟨(fun h => by obtain ⟨y, e, q⟩ := h; cases e), fun q => False.elim q⟩
theorem wpo_bind {α β : Type} {o : Option α} {f : α → Option β} {Q : β → Prop} : wpo (o.bind f) Q ↔ wpo o fun x => wpo (f x) Q := by
  cases o with
  | none => exact ⟨(fun h => by obtain ⟨y, e, q⟩ := h; cases e), (fun h => by obtain ⟨y, e, q⟩ := h; cases e)⟩
  | some x => exact (wpo_some (Q := fun x => wpo (f x) Q)).symm
theorem wpo_map {α β : Type} {o : Option α} {f : α → β} {Q : β → Prop} : wpo (o.map f) Q ↔ wpo o fun x => Q (f x) := by
  cases o with
  | none => exact ⟨(fun h => by obtain ⟨y, e, q⟩ := h; cases e), (fun h => by obtain ⟨y, e, q⟩ := h; cases e)⟩
  | some x => rw [Option.map_some, wpo_some, wpo_some]
theorem wpo_mono {α : Type} {o : Option α} {P Q : α → Prop} (h : wpo o P) (k : ∀ x, P x → Q x) : wpo o Q := let ⟨x, e, p⟩ := h; ⟨x, e, k x p⟩
theorem wpo_eq {α : Type} {o : Option α} {x : α} {Q : α → Prop} (h : o = some x) (q : Q x) : wpo o Q := ⟨x, h, q⟩
theorem bind_eq {α β : Type} {o : Option α} {x : α} {f : α → Option β} (h : o = some x) : o.bind f = f x := by rw [h]; rfl
/-! ## heaps: what points inside -/
def WH (C : Hm) : Prop := ∀ c ∈ C, c.bnd C.length = true
mutual
theorem bnd_up {n m : Nat} (h : n ≤ m) : ∀ {d : D}, d.bnd n = true → d.bnd m = true
  | .non, _ => rfl
  | .bl _, _ => rfl
  | .int _, _ => rfl
  | .str _, _ => rfl
  | .fn _, _ => rfl
  | .rol _, _ => rfl
  | .ty _, _ => rfl
  | .cell k, e => by simp [D.bnd] at e ⊢; omega
  | .tup ds, e => by simp only [D.bnd] at e ⊢; exact bnds_up h e
theorem bnds_up {n m : Nat} (h : n ≤ m) : ∀ {ds : List D}, bnds n ds = true → bnds m ds = true
  | [], _ => rfl
  | d :: ds, e => by simp only [bnds, Bool.and_eq_true] at e ⊢; exact ⟨bnd_up h e.1, bnds_up h e.2⟩
end
theorem bnds_iff {n : Nat} : ∀ {ds : List D}, bnds n ds = true ↔ ∀ d ∈ ds, d.bnd n = true
  | [] => by simp [bnds]
  | d :: ds => by simp [bnds, bnds_iff (ds := ds)]
theorem Cell.bnd_up {n m : Nat} (h : n ≤ m) {c : Cell} (e : c.bnd n = true) : c.bnd m = true := by
  cases c with
  | lst ds => exact bnds_up h e
  | dic ks => simp only [Cell.bnd, List.all_eq_true] at e ⊢; exact fun p hp => Mi.bnd_up h (e p hp)
  | dix ks => simp only [Cell.bnd, List.all_eq_true] at e ⊢; exact fun p hp => Mi.bnd_up h (e p hp)
  | dxl ks => simp only [Cell.bnd, List.all_eq_true] at e ⊢; exact fun p hp => Mi.bnd_up h (e p hp)
theorem WH.app {C : Hm} (W : WH C) {c : Cell} (h : c.bnd (C.length + 1) = true) : WH (C ++ [c]) := by
  intro x hx
  simp only [List.length_append, List.length_cons, List.length_nil]
  rcases List.mem_append.mp hx with z | z
  · exact Cell.bnd_up (by omega) (W x z)
  · rw [List.mem_singleton.mp z]; exact h
theorem WH.set {C : Hm} (W : WH C) {c : Cell} {k : Nat} (h : c.bnd C.length = true) : WH (C.set k c) := by
  intro x hx
  rw [List.length_set]
  rcases List.mem_or_eq_of_mem_set hx with z | z
  · exact W x z
  · rw [z]; exact h
theorem take_len {C g : Hm} : (C ++ g).take C.length = C := by simp
/-- a call that leaves the heap as it is, but for new cells behind -/
theorem keep_eq {m : ME} {E : Ev} {C C' g : Hm} {d : D} (h : m E C = some (d, C' ++ g)) (hl : C'.length = C.length) (W : WH C') (hb : d.bnd C.length = true) : mKeep m E C = some (d, C') := by
  unfold mKeep
  rw [bind_eq h]
  unfold cutC
  have e : (C' ++ g).take C.length = C' := by rw [← hl, take_len]
  simp only [e]
  rw [if_pos ⟨hb, by rw [List.all_eq_true, ← hl]; exact W⟩]
theorem keep_bl {m : ME} {E : Ev} {C : Hm} {b : Bool} (h : ∃ g, m E C = some (.bl b, C ++ g)) (W : WH C) : mKeep m E C = some (.bl b, C) := by
  obtain ⟨g, h⟩ := h
  exact keep_eq h rfl W rfl
/-- a call with a relation between the heaps -/
theorem keep_wp {m : ME} {E : Ev} {C : Hm} {Q : D × Hm → Prop} (h : wpo (m E C) fun r => r.1.bnd C.length = true ∧ (∀ c ∈ r.2.take C.length, c.bnd C.length = true) ∧ Q (r.1, r.2.take C.length)) : wpo (mKeep m E C) Q := by
  obtain ⟨r, e, h1, h2, q⟩ := h
  refine ⟨(r.1, r.2.take C.length), ?_, q⟩
  unfold mKeep
  rw [bind_eq e]
  unfold cutC
  rw [if_pos ⟨h1, List.all_eq_true.mpr h2⟩]
/-! ## data as the model's own data -/
/-- the lists of a heap stay -/
def LeH (C C' : Hm) : Prop := ∀ (k : Nat) (ds : List D), C[k]? = some (.lst ds) → C'[k]? = some (.lst ds)
theorem LeH.refl {C : Hm} : LeH C C := fun _ _ h => h
theorem LeH.trans {A B C : Hm} (h : LeH A B) (k : LeH B C) : LeH A C := fun i ds e => k i ds (h i ds e)
theorem LeH.app {C g : Hm} : LeH C (C ++ g) := fun k ds e => by
  rw [List.getElem?_append_left (List.getElem?_eq_some_iff.mp e).1]; exact e
inductive All2 {α β : Type} (R : α → β → Prop) : List α → List β → Prop
  | nil : All2 R [] []
  | cons {a b l r} : R a b → All2 R l r → All2 R (a :: l) (b :: r)
theorem mapM_some_iff {α β : Type} {f : α → Option β} : ∀ {l : List α} {r : List β}, l.mapM f = some r ↔ All2 (fun a b => f a = some b) l r
  | [], r => by
    constructor
    · intro h; cases h; exact .nil
    · intro h; cases h; rfl
  | a :: l, r => by
    constructor
    · intro h
      obtain ⟨b, bs, e1, e2, rfl⟩ := mapM_cons' h
      exact .cons e1 (mapM_some_iff.mp e2)
    · intro h
      cases h with
      | cons e1 e2 => rw [List.mapM_cons, e1, mapM_some_iff.mpr e2]; rfl
theorem mapM_imp {α β : Type} {f g : α → Option β} {l : List α} {r : List β} (k : ∀ a b, f a = some b → g a = some b) (h : l.mapM f = some r) : l.mapM g = some r := by
  rw [mapM_some_iff] at h ⊢
  induction h with
  | nil => exact .nil
  | cons e _ ih => exact .cons (k _ _ e) ih
theorem py_up {C C' : Hm} (L : LeH C C') : ∀ {n m : Nat} {d : D} {p : PyData}, n ≤ m → py C n d = some p → py C' m d = some p
  | 0, _, _, _, _, e => by cases e
  | n + 1, 0, _, _, h, _ => by omega
  | n + 1, m + 1, d, p, h, e => by
    have k : ∀ a b, py C n a = some b → py C' m a = some b := fun a b e => py_up L (by omega) e
    cases d with
    | tup ds =>
      obtain ⟨ps, e1, e2⟩ := omap (show (ds.mapM (py C n)).map PyData.tuple = some p from e)
      show (ds.mapM (py C' m)).map PyData.tuple = some p
      rw [mapM_imp k e1, ← e2]; rfl
    | cell j =>
      unfold py at e
      simp only at e
      split at e
      · rename_i ds q
        obtain ⟨ps, e1, e2⟩ := omap e
        unfold py
        simp only [L _ _ q]
        rw [mapM_imp k e1, ← e2]; rfl
      · cases e
    | _ => exact e
theorem py_bnd {C : Hm} : ∀ {n : Nat} {d : D} {p : PyData}, py C n d = some p → d.bnd C.length = true
  | 0, _, _, e => by cases e
  | n + 1, d, p, e => by
    cases d with
    | tup ds =>
      obtain ⟨ps, e1, e2⟩ := omap (show (ds.mapM (py C n)).map PyData.tuple = some p from e)
      rw [mapM_some_iff] at e1
      show bnds C.length ds = true
      clear e e2
      induction e1 with
      | nil => rfl
      | cons e _ ih => simp only [bnds, Bool.and_eq_true]; exact ⟨py_bnd e, ih⟩
    | cell j =>
      unfold py at e
      simp only at e
      split at e
      · rename_i ds q
        have := (List.getElem?_eq_some_iff.mp q).1
        simp [D.bnd]; omega
      · cases e
    | _ => rfl
theorem py_depth {C : Hm} : ∀ {n : Nat} {d : D} {p : PyData}, py C n d = some p → p.depth ≤ n
  | 0, _, _, e => by cases e
  | n + 1, d, p, e => by
    have k : ∀ {ds : List D} {ps : List PyData}, ds.mapM (py C n) = some ps → PyData.depthAll ps ≤ n := by
      intro ds ps h
      rw [mapM_some_iff] at h
      induction h with
      | nil => simp [PyData.depthAll]
      | cons e _ ih => have := py_depth e; simp only [PyData.depthAll]; omega
    cases d with
    | tup ds =>
      obtain ⟨ps, e1, e2⟩ := omap (show (ds.mapM (py C n)).map PyData.tuple = some p from e)
      subst e2
      have := k e1
      simp only [PyData.depth]; omega
    | cell j =>
      unfold py at e
      simp only at e
      split at e
      · obtain ⟨ps, e1, e2⟩ := omap e
        subst e2
        have := k e1
        simp only [PyData.depth]; omega
      · cases e
    | non => cases e; simp [PyData.depth]
    | bl b => cases e; simp [PyData.depth]
    | int b => cases e; simp [PyData.depth]
    | str b => cases e; simp [PyData.depth]
    | rol b =>
      cases e
      have : PyData.depthAll (b.map PyData.int) = 0 := by
        induction b with
        | nil => simp [PyData.depthAll]
        | cons x b ih => simp [PyData.depthAll, PyData.depth, ih]
      simp only [PyData.depth, this]; omega
    | fn b => cases e
    | ty b => cases e
/-- good data: what a value is, within so many levels -/
def Gd (C : Hm) (n : Nat) (d : D) : Prop := ∃ p, py C n d = some p ∧ p.canLay0 = true
theorem Gd.up {C C' : Hm} {n m : Nat} {d : D} (g : Gd C n d) (L : LeH C C') (h : n ≤ m) : Gd C' m d := let ⟨p, e, l⟩ := g; ⟨p, py_up L h e, l⟩
theorem Gd.app {C g : Hm} {n : Nat} {d : D} (h : Gd C n d) : Gd (C ++ g) n d := h.up LeH.app (Nat.le_refl _)
theorem layAll_iff : ∀ {ps : List PyData}, PyData.canLayAll0 ps = true ↔ ∀ p ∈ ps, p.canLay0 = true
  | [] => by simp [PyData.canLayAll0]
  | p :: ps => by simp [PyData.canLayAll0, layAll_iff (ps := ps)]
theorem gds {C : Hm} {n : Nat} : ∀ {ds : List D}, (∀ d ∈ ds, Gd C n d) → ∃ ps, ds.mapM (py C n) = some ps ∧ PyData.canLayAll0 ps = true ∧ ps.length = ds.length
  | [], _ => ⟨[], rfl, by simp [PyData.canLayAll0], rfl⟩
  | d :: ds, h => by
    obtain ⟨p, e, l⟩ := h d (by simp)
    obtain ⟨ps, e2, l2, h2⟩ := gds (ds := ds) fun x hx => h x (by simp [hx])
    exact ⟨p :: ps, by rw [List.mapM_cons, e, e2]; rfl, by simp [PyData.canLayAll0, l, l2], by simp [h2]⟩
theorem Gd.tup {C : Hm} {n : Nat} {ds : List D} : Gd C (n + 1) (.tup ds) ↔ ∀ d ∈ ds, Gd C n d := by
  constructor
  · rintro ⟨p, e, l⟩
    obtain ⟨ps, e1, e2⟩ := omap (show (ds.mapM (py C n)).map PyData.tuple = some p from e)
    subst e2
    have l' : PyData.canLayAll0 ps = true := by simpa [PyData.canLay0] using l
    rw [mapM_some_iff] at e1
    clear e l
    induction e1 with
    | nil => simp
    | cons e _ ih =>
      simp only [PyData.canLayAll0, Bool.and_eq_true] at l'
      intro d hd
      rcases List.mem_cons.mp hd with z | z
      · rw [z]; exact ⟨_, e, l'.1⟩
      · exact ih l'.2 d z
  · intro h
    obtain ⟨ps, e, l, _⟩ := gds h
    exact ⟨.tuple ps, by show (ds.mapM (py C n)).map PyData.tuple = _; rw [e]; rfl, by simpa [PyData.canLay0] using l⟩
theorem Gd.cell {C : Hm} {n k : Nat} {ds : List D} (hc : C[k]? = some (.lst ds)) : Gd C (n + 1) (.cell k) ↔ ∀ d ∈ ds, Gd C n d := by
  have ep : py C (n + 1) (.cell k) = (ds.mapM (py C n)).map PyData.list := by unfold py; simp only [hc]
  constructor
  · rintro ⟨p, e, l⟩
    rw [ep] at e
    obtain ⟨ps, e1, e2⟩ := omap e
    subst e2
    have l' : PyData.canLayAll0 ps = true := by simpa [PyData.canLay0] using l
    rw [mapM_some_iff] at e1
    clear e l ep hc
    induction e1 with
    | nil => simp
    | cons e _ ih =>
      simp only [PyData.canLayAll0, Bool.and_eq_true] at l'
      intro d hd
      rcases List.mem_cons.mp hd with z | z
      · rw [z]; exact ⟨_, e, l'.1⟩
      · exact ih l'.2 d z
  · intro h
    obtain ⟨ps, e, l, _⟩ := gds h
    exact ⟨.list ps, by rw [ep, e]; rfl, by simpa [PyData.canLay0] using l⟩
/-- the kinds that good data has -/
theorem Gd.kinds {C : Hm} {n : Nat} {d : D} (g : Gd C (n + 1) d) : d = .non ∨ (∃ b, d = .bl b) ∨ (∃ i, d = .int i) ∨ (∃ x, d = .str x ∧ PyData.strOk x = true) ∨ (∃ ds, d = .tup ds ∧ ∀ x ∈ ds, Gd C n x) ∨ (∃ k ds, d = .cell k ∧ C[k]? = some (.lst ds) ∧ ∀ x ∈ ds, Gd C n x) ∨ ∃ ns, d = .rol ns := by
  obtain ⟨p, e, l⟩ := g
  cases d with
  | non => exact .inl rfl
  | bl b => exact .inr (.inl ⟨b, rfl⟩)
  | int b => exact .inr (.inr (.inl ⟨b, rfl⟩))
  | str b => cases e; exact .inr (.inr (.inr (.inl ⟨b, rfl, by simpa [PyData.canLay0] using l⟩)))
  | tup ds => exact .inr (.inr (.inr (.inr (.inl ⟨ds, rfl, Gd.tup.mp ⟨p, e, l⟩⟩))))
  | cell k =>
    cases q : C[k]? with
    | none => unfold py at e; simp only [q] at e; cases e
    | some c =>
      cases c with
      | dic ks => unfold py at e; simp only [q] at e; cases e
      | dix ks => unfold py at e; simp only [q] at e; cases e
      | dxl ks => unfold py at e; simp only [q] at e; cases e
      | lst ds => exact .inr (.inr (.inr (.inr (.inr (.inl ⟨k, ds, rfl, q, (Gd.cell q).mp ⟨p, e, l⟩⟩)))))
  | rol ns => exact .inr (.inr (.inr (.inr (.inr (.inr ⟨ns, rfl⟩)))))
  | fn b => cases e
  | ty b => cases e
theorem shaped_of {C : Hm} {n : Nat} {d : D} {p : PyData} (e : py C n d = some p) (l : p.canLay0 = true) (hn : n ≤ 64) : SeqAt.shaped p = true := by
  have := py_depth e
  simp [SeqAt.shaped, l]; omega
/-! ## comparisons -/
theorem isEmp_list {ps : List PyData} : PyData.eqv (.list ps) (.list []) = ps.isEmpty := by cases ps <;> simp [PyData.eqv, PyData.eqvAll]
theorem isEmp_tup {ps : List PyData} : PyData.eqv (.tuple ps) (.tuple []) = ps.isEmpty := by cases ps <;> simp [PyData.eqv, PyData.eqvAll]
theorem len_isEmpty {α β : Type} {xs : List α} {ys : List β} (h : xs.length = ys.length) : xs.isEmpty = ys.isEmpty := by cases xs <;> cases ys <;> simp_all
theorem cmp_nil {f : PyData → PyData → Bool} {C : Hm} {k j : Nat} {ds : List D} (h1 : C[k]? = some (.lst ds)) (h2 : C[j]? = some (.lst [])) (g : ∀ d ∈ ds, Gd C 60 d) : ∃ ps : List PyData, ps.isEmpty = ds.isEmpty ∧ cmpD f (.cell k) (.cell j) C = some (.bl (f (.list ps) (.list [])), C) := by
  obtain ⟨ps, e, l, hl⟩ := gds fun d hd => (g d hd).up LeH.refl (show 60 ≤ 63 by decide)
  have e1 : py C 64 (.cell k) = some (.list ps) := by unfold py; simp only [h1, e]; rfl
  have e1' : py C 70 (.cell k) = some (.list ps) := py_up LeH.refl (by decide) e1
  have e2 : py C 70 (.cell j) = some (.list []) := by unfold py; simp only [h2]; rfl
  refine ⟨ps, len_isEmpty hl, ?_⟩
  show cmpD _ _ _ _ = _
  unfold cmpD
  rw [e1', e2]
  simp only
  rw [if_pos ⟨shaped_of e1 (by simpa [PyData.canLay0] using l) (by decide), by rfl⟩]
theorem eq_nil {C : Hm} {k j : Nat} {ds : List D} (h1 : C[k]? = some (.lst ds)) (h2 : C[j]? = some (.lst [])) (g : ∀ d ∈ ds, Gd C 60 d) : dEq (.cell k) (.cell j) C = some (.bl ds.isEmpty, C) := by
  show cmpD _ _ _ _ = _
  obtain ⟨ps, e1, e2⟩ := cmp_nil (f := fun p q => PyData.eqv p q) h1 h2 g
  show cmpD _ _ _ _ = _
  rw [e2, isEmp_list, e1]
theorem ne_nil {C : Hm} {k j : Nat} {ds : List D} (h1 : C[k]? = some (.lst ds)) (h2 : C[j]? = some (.lst [])) (g : ∀ d ∈ ds, Gd C 60 d) : dNe (.cell k) (.cell j) C = some (.bl (!ds.isEmpty), C) := by
  obtain ⟨ps, e1, e2⟩ := cmp_nil (f := fun p q => !PyData.eqv p q) h1 h2 g
  show cmpD _ _ _ _ = _
  rw [e2, isEmp_list, e1]
theorem cmp_tnil {f : PyData → PyData → Bool} {C : Hm} {ds : List D} (g : ∀ d ∈ ds, Gd C 60 d) : ∃ ps : List PyData, ps.isEmpty = ds.isEmpty ∧ cmpD f (.tup ds) (.tup []) C = some (.bl (f (.tuple ps) (.tuple [])), C) := by
  obtain ⟨ps, e, l, hl⟩ := gds fun d hd => (g d hd).up LeH.refl (show 60 ≤ 63 by decide)
  have e1 : py C 64 (.tup ds) = some (.tuple ps) := by unfold py; simp only [e]; rfl
  have e1' : py C 70 (.tup ds) = some (.tuple ps) := py_up LeH.refl (by decide) e1
  have e2 : py C 70 (.tup []) = some (.tuple []) := rfl
  refine ⟨ps, len_isEmpty hl, ?_⟩
  show cmpD _ _ _ _ = _
  unfold cmpD
  rw [e1', e2]
  simp only
  rw [if_pos ⟨shaped_of e1 (by simpa [PyData.canLay0] using l) (by decide), by rfl⟩]
theorem eq_tnil {C : Hm} {ds : List D} (g : ∀ d ∈ ds, Gd C 60 d) : dEq (.tup ds) (.tup []) C = some (.bl ds.isEmpty, C) := by
  obtain ⟨ps, e1, e2⟩ := cmp_tnil (f := fun p q => PyData.eqv p q) g
  show cmpD _ _ _ _ = _
  rw [e2, isEmp_tup, e1]
theorem ne_tnil {C : Hm} {ds : List D} (g : ∀ d ∈ ds, Gd C 60 d) : dNe (.tup ds) (.tup []) C = some (.bl (!ds.isEmpty), C) := by
  obtain ⟨ps, e1, e2⟩ := cmp_tnil (f := fun p q => !PyData.eqv p q) g
  show cmpD _ _ _ _ = _
  rw [e2, isEmp_tup, e1]
theorem eq_int {C : Hm} {i j : Int} : dEq (.int i) (.int j) C = some (.bl (i == j), C) := by
  simp [dEq, cmpS, cmpD, py, SeqAt.shaped, PyData.canLay0, PyData.depth, PyData.eqv]
theorem ne_int {C : Hm} {i j : Int} : dNe (.int i) (.int j) C = some (.bl (!(i == j)), C) := by
  simp [dNe, cmpS, cmpD, py, SeqAt.shaped, PyData.canLay0, PyData.depth, PyData.eqv]
theorem eq_str {C : Hm} {i j : Str} : dEq (.str i) (.str j) C = some (.bl (i == j), C) := rfl
theorem ne_str {C : Hm} {i j : Str} : dNe (.str i) (.str j) C = some (.bl (!(i == j)), C) := rfl
/-! ## comprehensions, loops -/
theorem lc_at {it : Itm} {tg : MG} {tt : MT} {elt : ME} {E : Ev} {C : Hm} (ds : List D) (tb : D → Bool) (ev : D → D) (hi : ∀ i, it.at C i = some ds[i]?) (hl : ds.length ≤ sizeLine)
    (h : ∀ x ∈ ds, ∃ E1, tg x E = some E1 ∧ tt E1 C = some (tb x, C) ∧ (tb x = true → elt E1 C = some (ev x, C))) :
    ∀ (n i : Nat) (acc : List D), i + n = ds.length → acc.length ≤ i → lcLoop it tg tt elt E (n + 1) i acc C = some (acc ++ ((ds.drop i).filter tb).map ev, C)
  | 0, i, acc, e, ha => by
    unfold lcLoop
    rw [hi, bind_eq rfl]
    have : ds[i]? = none := List.getElem?_eq_none_iff.mpr (by omega)
    rw [this, List.drop_eq_nil_of_le (by omega)]
    simp
  | n + 1, i, acc, e, ha => by
    have hlt : i < ds.length := by omega
    unfold lcLoop
    rw [hi, bind_eq rfl]
    have e1 : ds[i]? = some ds[i] := by simp [hlt]
    rw [e1]
    obtain ⟨E1, q1, q2, q3⟩ := h ds[i] (List.getElem_mem hlt)
    simp only
    rw [q1, bind_eq rfl, q2, bind_eq rfl]
    rw [List.drop_eq_getElem_cons hlt]
    cases q : tb ds[i] with
    | true =>
      simp only [if_true]
      rw [q3 q, bind_eq rfl, if_pos (by omega), lc_at ds tb ev hi hl h n (i + 1) _ (by omega) (by simp; omega), List.filter_cons_of_pos q, List.map_cons, List.append_assoc]
      rfl
    | false =>
      simp only [Bool.false_eq_true, if_false]
      rw [lc_at ds tb ev hi hl h n (i + 1) _ (by omega) (by omega), List.filter_cons_of_neg (by rw [q]; decide)]
/-- what a walk of any value goes through -/
def walkD (C : Hm) : D → Option (List D)
  | .tup ds => some ds
  | .str x => some (strD x)
  | .cell n => match C[n]? with | some (.lst ds) => some ds | _ => none
  | .rol ns => some (ns.map D.int)
  | _ => none
theorem lc_any {me : ME} {tg : MG} {tt : MT} {elt : ME} {vs : List Nat} {E : Ev} {C : Hm} {d : D} (ds : List D) (tb : D → Bool) (ev : D → D) (he : me E C = some (d, C)) (hw : walkD C d = some ds) (hl : ds.length ≤ sizeLine)
    (h : ∀ x ∈ ds, ∃ E1, tg x (wipeE E vs) = some E1 ∧ tt E1 C = some (tb x, C) ∧ (tb x = true → elt E1 C = some (ev x, C))) :
    mLc (mIAny me) tg tt elt vs E C = some (.cell C.length, C ++ [.lst ((ds.filter tb).map ev)]) := by
  unfold mLc mIAny
  rw [he, bind_eq (x := (d, C)) rfl]
  have key : ∃ it, iAnyD d C = some (it, ds.length, C) ∧ ∀ i, it.at C i = some ds[i]? := by
    cases d with
    | tup ds' => cases hw; exact ⟨_, rfl, fun i => rfl⟩
    | str x => cases hw; exact ⟨_, by simp [iAnyD, strD]; rfl, fun i => rfl⟩
    | rol ns => cases hw; exact ⟨_, by simp [iAnyD]; rfl, fun i => rfl⟩
    | cell n =>
      unfold walkD at hw
      simp only at hw
      split at hw
      · rename_i ds' q
        cases hw
        exact ⟨.live n, by unfold iAnyD; simp only [q], fun i => by unfold Itm.at; simp only [q]⟩
      · cases hw
    | _ => cases hw
  obtain ⟨it, k1, k2⟩ := key
  rw [bind_eq k1]
  simp only
  rw [lc_at ds tb ev k2 hl h ds.length 0 [] (by omega) (by simp)]
  simp
theorem lc_rng {ml : MA} {tg : MG} {tt : MT} {elt : ME} {vs : List Nat} {E : Ev} {C : Hm} {i j : Int} (tb : D → Bool) (ev : D → D) (he : ml E C = some ([.int i, .int j], C)) (hb : -(2 ^ 62) ≤ i ∧ i < 2 ^ 62 ∧ -(2 ^ 62) ≤ j ∧ j < 2 ^ 62) (hl : (j - i).toNat ≤ sizeLine)
    (h : ∀ x ∈ rngD i (j - i).toNat, ∃ E1, tg x (wipeE E vs) = some E1 ∧ tt E1 C = some (tb x, C) ∧ (tb x = true → elt E1 C = some (ev x, C))) :
    mLc (mIRng2 ml) tg tt elt vs E C = some (.cell C.length, C ++ [.lst (((rngD i (j - i).toNat).filter tb).map ev)]) := by
  unfold mLc mIRng2
  rw [he]
  simp only [Option.bind_some]
  unfold iRng2D
  simp only
  rw [if_pos hb, bind_eq rfl]
  simp only
  have el : (rngD i (j - i).toNat).length = (j - i).toNat := by simp [rngD]
  rw [lc_at (rngD i (j - i).toNat) tb ev (fun i => rfl) (by rw [el]; exact hl) h (j - i).toNat 0 [] (by rw [el]; omega) (by simp)]
  simp
theorem lc_rng1 {ml : MA} {tg : MG} {tt : MT} {elt : ME} {vs : List Nat} {E : Ev} {C : Hm} {j : Int} (tb : D → Bool) (ev : D → D) (he : ml E C = some ([.int j], C)) (hb : -(2 ^ 62) ≤ j ∧ j < 2 ^ 62) (hl : j.toNat ≤ sizeLine)
    (h : ∀ x ∈ rngD 0 j.toNat, ∃ E1, tg x (wipeE E vs) = some E1 ∧ tt E1 C = some (tb x, C) ∧ (tb x = true → elt E1 C = some (ev x, C))) :
    mLc (mIRng1 ml) tg tt elt vs E C = some (.cell C.length, C ++ [.lst (((rngD 0 j.toNat).filter tb).map ev)]) := by
  unfold mLc mIRng1
  rw [he]
  simp only [Option.bind_some]
  unfold iRng1D
  simp only
  rw [if_pos hb, bind_eq rfl]
  simp only
  have el : (rngD 0 j.toNat).length = j.toNat := by simp [rngD]
  rw [lc_at (rngD 0 j.toNat) tb ev (fun i => rfl) (by rw [el]; exact hl) h j.toNat 0 [] (by rw [el]; omega) (by simp)]
  simp
/-- a for loop over a row of values, by an invariant -/
theorem for_at {it : Itm} {tg : MG} {body : MS} (ds : List D) (Inv : Nat → Ev → Hm → Prop) {Q : Out → Prop} (hi : ∀ i E C, Inv i E C → it.at C i = some ds[i]?)
    (step : ∀ i x E C, ds[i]? = some x → Inv i E C → wpo (tg x E) fun E1 => wpo (body E1 C) fun o => match o with | .nx E2 C2 => Inv (i + 1) E2 C2 | .ct E2 C2 => Inv (i + 1) E2 C2 | .bk E2 C2 => Q (.nx E2 C2) | .rt d C2 => Q (.rt d C2))
    (fin : ∀ E C, Inv ds.length E C → Q (.nx E C)) : ∀ (n i : Nat) (E : Ev) (C : Hm), i + n = ds.length → Inv i E C → wpo (forLoop it tg body (n + 1) i E C) Q
  | 0, i, E, C, e, h => by
    unfold forLoop
    rw [hi i E C h, bind_eq rfl]
    have : ds[i]? = none := List.getElem?_eq_none_iff.mpr (by omega)
    rw [this]
    have : i = ds.length := by omega
    subst this
    exact wpo_some.mpr (fin E C h)
  | n + 1, i, E, C, e, h => by
    have hlt : i < ds.length := by omega
    unfold forLoop
    rw [hi i E C h, bind_eq rfl]
    have e1 : ds[i]? = some ds[i] := by simp [hlt]
    rw [e1]
    simp only
    refine wpo_bind.mpr (wpo_mono (step i _ E C e1 h) fun E1 k => wpo_bind.mpr (wpo_mono k fun o q => ?_))
    cases o with
    | nx E2 C2 => exact for_at ds Inv hi step fin n (i + 1) E2 C2 (by omega) q
    | ct E2 C2 => exact for_at ds Inv hi step fin n (i + 1) E2 C2 (by omega) q
    | bk E2 C2 => exact wpo_some.mpr q
    | rt d C2 => exact wpo_some.mpr q
end Mi
set_option Elab.async false
set_option linter.all false
set_option maxRecDepth 100000
set_option maxHeartbeats 4000000
namespace G
open PySem L2 Mi
theorem fn_ret {n N : Nat} {body : MS} {ds : List D} {C C' : Hm} {d : D} (hl : ds.length = n) (h : body (ds.map some ++ List.replicate (N - n) none) C = some (.rt d C')) : mFn n N body ds C = some (d, C') := by
  unfold mFn
  rw [if_pos hl, h]
  rfl
theorem seq_nx {m n : MS} {E E' : Ev} {C C' : Hm} (h : m E C = some (.nx E' C')) : mSeq m n E C = n E' C' := by unfold mSeq; rw [h]; rfl
theorem seq_rt {m n : MS} {E : Ev} {C C' : Hm} {d : D} (h : m E C = some (.rt d C')) : mSeq m n E C = some (.rt d C') := by unfold mSeq; rw [h]; rfl
theorem ret_eq {m : ME} {E : Ev} {C C' : Hm} {d : D} (h : m E C = some (d, C')) : mRet m E C = some (.rt d C') := by unfold mRet; rw [h]; rfl
/-- good data of bounded size -/
def Gs (C : Hm) (n : Nat) (d : D) : Prop := ∃ p, py C n d = some p ∧ p.canLay0 = true ∧ p.bulk ≤ sizeLine
theorem Gs.gd {C : Hm} {n : Nat} {d : D} (g : Gs C n d) : Gd C n d := let ⟨p, e, l, _⟩ := g; ⟨p, e, l⟩
theorem Gs.up {C C' : Hm} {n m : Nat} {d : D} (g : Gs C n d) (L : LeH C C') (h : n ≤ m) : Gs C' m d := let ⟨p, e, l⟩ := g; ⟨p, py_up L h e, l⟩
theorem bulk_sub {C : Hm} {n : Nat} {ds : List D} {ps : List PyData} (e : ds.mapM (py C n) = some ps) (l : PyData.canLayAll0 ps = true) : ∀ b, PyData.bulkAll ps ≤ b → b ≤ sizeLine → ds.length ≤ b ∧ ∀ x ∈ ds, Gs C n x := by
  rw [mapM_some_iff] at e
  induction e with
  | nil => intro b h1 h2; simp
  | cons e _ ih =>
    intro b h1 h2
    simp only [PyData.canLayAll0, Bool.and_eq_true] at l
    simp only [PyData.bulkAll] at h1
    obtain ⟨k1, k2⟩ := ih l.2 (b - 1) (by omega) (by omega)
    refine ⟨by simp; omega, fun x hx => ?_⟩
    rcases List.mem_cons.mp hx with z | z
    · rw [z]; exact ⟨_, e, l.1, by omega⟩
    · exact k2 x z
inductive Kd (C : Hm) (n : Nat) : D → Prop
  | non : Kd C n .non
  | bl b : Kd C n (.bl b)
  | int i : Kd C n (.int i)
  | str x : PyData.strOk x = true → x.length ≤ sizeLine → Kd C n (.str x)
  | tup ds : ds.length ≤ sizeLine → (∀ x ∈ ds, Gs C n x) → Kd C n (.tup ds)
  | cell k ds : C[k]? = some (.lst ds) → Kd C n (.cell k)
  | rol ns : Kd C n (.rol ns)
theorem Gs.kd {C : Hm} {n : Nat} {d : D} (g : Gs C (n + 1) d) : Kd C n d := by
  obtain ⟨p, e, l, b⟩ := g
  cases d with
  | non => exact .non
  | bl b => exact .bl b
  | int b => exact .int b
  | str x => cases e; exact .str x (by simpa [PyData.canLay0] using l) (show x.cps.size ≤ sizeLine by simpa [PyData.bulk] using b)
  | tup ds =>
    obtain ⟨ps, e1, e2⟩ := omap (show (ds.mapM (py C n)).map PyData.tuple = some p from e)
    subst e2
    obtain ⟨k1, k2⟩ := bulk_sub e1 (by simpa [PyData.canLay0] using l) _ (by simpa [PyData.bulk] using b) (Nat.le_refl _)
    exact .tup ds k1 k2
  | cell k =>
    cases q : C[k]? with
    | none => unfold py at e; simp only [q] at e; cases e
    | some c =>
      cases c with
      | dic ks => unfold py at e; simp only [q] at e; cases e
      | dix ks => unfold py at e; simp only [q] at e; cases e
      | dxl ks => unfold py at e; simp only [q] at e; cases e
      | lst ds => exact .cell k ds q
  | rol ns => exact .rol ns
  | fn b => cases e
  | ty b => cases e
/-- the kind of good data -/
def kyN : D → Ky
  | .non => .non
  | .bl _ => .bl
  | .int _ => .int
  | .str _ => .str
  | .tup _ => .tup
  | _ => .lst
theorem isi_eq {C : Hm} {n : Nat} {d : D} {t : Ky} (g : Gs C (n + 1) d) (h : notNon t = true) : isiD [d, .ty t] C = some (.bl (isiK (kyN d) t), C) := by
  cases g.kd <;> simp [isiD, kyD, kyN, h, *]
theorem blsOf_map {α : Type} (f : α → Bool) : ∀ l : List α, blsOf (l.map fun x => D.bl (f x)) = some (l.map f)
  | [] => rfl
  | x :: l => by simp [blsOf, blsOf_map f l]
theorem set_get {E : Ev} {i : Nat} {x : D} (h : i < E.length) {C : Hm} : mVar i (E.set i (some x)) C = some (x, C) := by
  unfold mVar; rw [List.getElem?_set_self h]
theorem last_get {C : Hm} {c : Cell} : (C ++ [c])[C.length]? = some c := by simp
theorem all_any {me elt : ME} {i : Nat} {vs : List Nat} {E : Ev} {C : Hm} {d : D} {ds : List D} (f : D → Bool) (he : me E C = some (d, C)) (hw : walkD C d = some ds) (hl : ds.length ≤ sizeLine)
    (h : ∀ x ∈ ds, elt ((wipeE E vs).set i (some x)) C = some (.bl (f x), C)) :
    mCallB (allD fun bs => bs.all id) (mCons (mLc (mIAny me) (gN i) mYes elt vs) mNil) E C = some (.bl (ds.all f), C ++ [.lst (ds.map fun x => .bl (f x))]) := by
  have e := lc_any (tg := gN i) (tt := mYes) (elt := elt) (vs := vs) ds (fun _ => true) (fun x => .bl (f x)) he hw hl fun x hx => ⟨_, rfl, rfl, fun _ => h x hx⟩
  have ft : ∀ l : List D, l.filter (fun _ => true) = l := fun l => List.filter_eq_self.mpr (by simp)
  rw [ft] at e
  simp only [mCallB, mCons, mNil, e, Option.bind_some, allD, last_get, blsOf_map, Option.map_some]
  simp [List.all_map]
theorem all_rng {ml : MA} {elt : ME} {i : Nat} {vs : List Nat} {E : Ev} {C : Hm} {a b : Int} (f : D → Bool) (he : ml E C = some ([.int a, .int b], C)) (hb : -(2 ^ 62) ≤ a ∧ a < 2 ^ 62 ∧ -(2 ^ 62) ≤ b ∧ b < 2 ^ 62) (hl : (b - a).toNat ≤ sizeLine)
    (h : ∀ x ∈ rngD a (b - a).toNat, elt ((wipeE E vs).set i (some x)) C = some (.bl (f x), C)) :
    ∃ g, mCallB (allD fun bs => bs.all id) (mCons (mLc (mIRng2 ml) (gN i) mYes elt vs) mNil) E C = some (.bl ((rngD a (b - a).toNat).all f), C ++ g) := by
  have e := lc_rng (tg := gN i) (tt := mYes) (elt := elt) (vs := vs) (fun _ => true) (fun x => .bl (f x)) he hb hl fun x hx => ⟨_, rfl, rfl, fun _ => h x hx⟩
  have ft : ∀ l : List D, l.filter (fun _ => true) = l := fun l => List.filter_eq_self.mpr (by simp)
  rw [ft] at e
  refine ⟨[.lst ((rngD a (b - a).toNat).map fun x => .bl (f x))], ?_⟩
  simp only [mCallB, mCons, mNil, e, Option.bind_some, allD, last_get, blsOf_map, Option.map_some]
  simp [List.all_map]
theorem filt_all {ds : List D} {tb : D → Bool} : ((ds.filter tb).map fun x => x).isEmpty = ds.all fun x => !tb x := by
  induction ds with
  | nil => rfl
  | cons x ds ih => cases q : tb x <;> simp_all [List.filter_cons]
theorem last2_get {C : Hm} {c c' : Cell} : (C ++ [c] ++ [c'])[C.length]? = some c := by simp
theorem emp_any {me : ME} {tt : MT} {i : Nat} {vs : List Nat} {E : Ev} {C : Hm} {d : D} {ds : List D} (tb : D → Bool) (he : me E C = some (d, C)) (hw : walkD C d = some ds) (hl : ds.length ≤ sizeLine) (hi : i < (wipeE E vs).length)
    (h : ∀ x ∈ ds, tt ((wipeE E vs).set i (some x)) C = some (tb x, C)) (g : ∀ x ∈ ds, Gd C 60 x) :
    mBin dEq (mLc (mIAny me) (gN i) tt (mVar i) vs) (mLst mNil) E C = some (.bl (ds.all fun x => !tb x), C ++ [.lst (ds.filter tb)] ++ [.lst []]) := by
  have e := lc_any (tg := gN i) (tt := tt) (elt := mVar i) (vs := vs) ds tb (fun x => x) he hw hl fun x hx => ⟨_, rfl, h x hx, fun _ => set_get hi⟩
  rw [List.map_id'] at e
  have e2 : dEq (.cell C.length) (.cell (C ++ [Cell.lst (ds.filter tb)]).length) (C ++ [.lst (ds.filter tb)] ++ [.lst []]) = some (.bl (ds.filter tb).isEmpty, C ++ [.lst (ds.filter tb)] ++ [.lst []]) :=
    eq_nil last2_get last_get fun x hx => ((g x (List.mem_filter.mp hx).1).up LeH.app (Nat.le_refl _)).up LeH.app (Nat.le_refl _)
  unfold mBin
  rw [e]
  simp only [Option.bind_some, mLst, mNil, mkLst, List.length_nil, Nat.zero_le, if_true, e2]
  rw [← filt_all, List.map_id']
theorem emp_rng {ml : MA} {tt : MT} {i : Nat} {vs : List Nat} {E : Ev} {C : Hm} {a b : Int} (tb : D → Bool) (he : ml E C = some ([.int a, .int b], C)) (hb : -(2 ^ 62) ≤ a ∧ a < 2 ^ 62 ∧ -(2 ^ 62) ≤ b ∧ b < 2 ^ 62) (hl : (b - a).toNat ≤ sizeLine) (hi : i < (wipeE E vs).length)
    (h : ∀ x ∈ rngD a (b - a).toNat, tt ((wipeE E vs).set i (some x)) C = some (tb x, C)) :
    ∃ g, mBin dEq (mLc (mIRng2 ml) (gN i) tt (mVar i) vs) (mLst mNil) E C = some (.bl ((rngD a (b - a).toNat).all fun x => !tb x), C ++ g) := by
  have e := lc_rng (tg := gN i) (tt := tt) (elt := mVar i) (vs := vs) tb (fun x => x) he hb hl fun x hx => ⟨_, rfl, h x hx, fun _ => set_get hi⟩
  rw [List.map_id'] at e
  have e2 : dEq (.cell C.length) (.cell (C ++ [Cell.lst ((rngD a (b - a).toNat).filter tb)]).length) (C ++ [.lst ((rngD a (b - a).toNat).filter tb)] ++ [.lst []]) = some (.bl ((rngD a (b - a).toNat).filter tb).isEmpty, C ++ [.lst ((rngD a (b - a).toNat).filter tb)] ++ [.lst []]) :=
    eq_nil last2_get last_get fun x hx => by
      have := (List.mem_filter.mp hx).1
      simp only [rngD, List.mem_map] at this
      obtain ⟨k, _, rfl⟩ := this
      exact ⟨.int _, rfl, rfl⟩
  refine ⟨[.lst ((rngD a (b - a).toNat).filter tb)] ++ [.lst []], ?_⟩
  unfold mBin
  rw [e]
  simp only [Option.bind_some, mLst, mNil, mkLst, List.length_nil, Nat.zero_le, if_true, e2]
  rw [← filt_all, List.map_id', List.append_assoc]
/-! ## numbers -/
def kNum : D → Bool
  | .int i => decide (0 ≤ i)
  | _ => false
theorem is_number_ok {C : Hm} {n : Nat} {d : D} (g : Gs C (n + 1) d) : M_is_number [d] C = some (.bl (kNum d), C) := by
  refine fn_ret rfl (show B_is_number [some d] C = _ from ?_)
  have i1 := isi_eq (t := .int) g rfl
  have i2 := isi_eq (t := .bl) g rfl
  cases g.kd <;> simp [B_is_number, mFn, mSeq, mNext, mBin, mVar, mC, mIfS, mTest, asB, mAsg, mCallB, mCons, mNil, gN, mRet, mIf, mAnd, mOr, mNot, tAndM, tOrM, tNotM, mTru, truD, mDrop, mYes, i1, i2, kyN, isiK, kNum, ordD]
theorem law_key_ok {C : Hm} {n : Nat} {d : D} (g : Gs C (n + 1) d) : M_law_key [d] C = some (.bl (kNum d), C) := by
  refine fn_ret rfl (show B_law_key [some d] C = _ from ?_)
  have i1 := isi_eq (t := .int) g rfl
  have i2 := isi_eq (t := .bl) g rfl
  cases g.kd <;> simp [B_law_key, mFn, mSeq, mNext, mBin, mVar, mC, mIfS, mTest, asB, mAsg, mCallB, mCons, mNil, gN, mRet, mIf, mAnd, mOr, mNot, tAndM, tOrM, tNotM, mTru, truD, mDrop, mYes, i1, i2, kyN, isiK, kNum, ordD]
/-- a kept call whose arguments are at hand -/
theorem kcall {m : MF} {ml : MA} {E : Ev} {C : Hm} {ds : List D} {b : Bool} {g : Hm} (W : WH C) (he : ml E C = some (ds, C)) (h : m ds C = some (.bl b, C ++ g)) : mKeep (mCall m ml) E C = some (.bl b, C) :=
  keep_bl ⟨g, by unfold mCall; rw [bind_eq he]; exact h⟩ W
theorem kcall0 {m : MF} {ml : MA} {E : Ev} {C : Hm} {ds : List D} {b : Bool} (W : WH C) (he : ml E C = some (ds, C)) (h : m ds C = some (.bl b, C)) : mKeep (mCall m ml) E C = some (.bl b, C) :=
  kcall W he (g := []) (by simpa using h)
theorem is_key_ok {C : Hm} (W : WH C) {n : Nat} {d : D} (g : Gs C (n + 1) d) : M_is_key [d] C = some (.bl (kNum d), C) := by
  refine fn_ret rfl (show B_is_key [some d] C = _ from ?_)
  simp [B_is_key, mRet, kcall0 (ml := mCons (mVar 0) mNil) (E := [some d]) W rfl (is_number_ok g)]
/-! ## names -/
def kName : D → Bool
  | .str x => decide (1 ≤ x.length ∧ x.length ≤ 8) && x.cps.toList.all fun c => decide (97 ≤ c ∧ c ≤ 122)
  | _ => false
theorem cps_a : (Str.ofString "a").cps.toList = [97] := by decide +kernel
theorem cps_z : (Str.ofString "z").cps.toList = [122] := by decide +kernel
theorem lt1 {a b : Nat} : (([a] : List Nat) < [b]) = (a < b) := by
  simp [List.cons_lt_cons_iff]
theorem strD_all {x : Str} {f : D → Bool} {g : Nat → Bool} (h : ∀ c, f (.str ⟨#[c]⟩) = g c) : (strD x).all f = x.cps.toList.all g := by
  simp [strD, List.all_map, Function.comp_def, h]
def letterD : D → Bool
  | .str y => decide (97 ≤ y.cps.getD 0 0 ∧ y.cps.getD 0 0 ≤ 122)
  | _ => false
theorem letter_all (x : Str) : (strD x).all letterD = x.cps.toList.all fun c => decide (97 ≤ c ∧ c ≤ 122) := strD_all fun c => rfl
theorem letter_not (x : Str) : ((strD x).all fun d => !(!letterD d)) = x.cps.toList.all fun c => decide (97 ≤ c ∧ c ≤ 122) := strD_all fun c => by simp [letterD]
theorem law_named_ok {C : Hm} {n : Nat} {d : D} (g : Gs C (n + 1) d) : ∃ k, M_law_named [d] C = some (.bl (kName d), C ++ k) := by
  have i1 := isi_eq (t := .str) g rfl
  cases g.kd with
  | str x hs hl =>
    by_cases h1 : 1 ≤ x.length ∧ x.length ≤ 8
    · have e1 : (0 : Int) < x.length := by omega
      have e2 : (x.length : Int) < 9 := by omega
      have e3 : 0 < x.length := by omega
      have a := emp_any (me := mVar 0) (i := 1) (vs := [1]) (E := [some (.str x), none]) (C := C) (tt := tNotM (mTest (mChain dLe dLe (mC (.int 97)) (mCallB ordC (mCons (mVar 1) mNil)) (mC (.int 122))))) (fun d => !letterD d) rfl (show walkD C (.str x) = some (strD x) from rfl) (by simp [strD]; exact hl) (by simp [wipeE]) (by
          intro y hy
          simp only [strD, List.mem_map] at hy
          obtain ⟨c, _, rfl⟩ := hy
          have k1 : (97 : Int) ≤ c ↔ 97 ≤ c := by omega
          have k2 : (c : Int) ≤ 122 ↔ c ≤ 122 := by omega
          by_cases c1 : 97 ≤ c <;> by_cases c2 : c ≤ 122 <;> simp [tNotM, mTest, mChain, mC, mVar, mCallB, mCons, mNil, ordC, Str.length, wipeE, asB, ordD, k1, k2, c1, c2, letterD] <;> omega) (by
          intro y hy
          simp only [strD, List.mem_map] at hy
          obtain ⟨c, hc, rfl⟩ := hy
          refine ⟨.str ⟨#[c]⟩, rfl, ?_⟩
          simp only [PyData.strOk, Array.all_eq_true_iff_forall_mem] at hs
          have := hs c (by simpa using hc)
          simpa [PyData.canLay0, PyData.strOk] using this)
      rw [letter_not] at a
      have key : B_law_named [some (.str x), none] C = some (.rt (.bl (kName (.str x))) (C ++ ([.lst ((strD x).filter fun x => !letterD x)] ++ [.lst []]))) := by
        unfold B_law_named
        rw [seq_nx (E' := [some (.str x), none]) (C' := C) (by simp [mIfS, tOrM, tNotM, mTru, mTest, mChain, mCallB, mCons, mNil, mVar, mC, truD, asB, mNext, i1, kyN, isiK, lenD, hl, ordD, e1, e2, e3])]
        refine (ret_eq a).trans ?_
        simp [kName, h1]
      exact ⟨_, fn_ret rfl key⟩
    · refine ⟨[], fn_ret rfl (show B_law_named [some (.str x), none] C = _ from ?_)⟩
      by_cases c1 : (0 : Int) < x.length
      · have c2 : ¬ (x.length : Int) < 9 := by omega
        simp [B_law_named, mFn, mSeq, mNext, mBin, mVar, mC, mIfS, mTest, asB, mAsg, mCallB, mCons, mNil, gN, mRet, mIf, mAnd, mOr, mNot, tAndM, tOrM, tNotM, mTru, truD, mDrop, mYes, i1, kyN, isiK, lenD, hl, mChain, ordD, c1, c2, kName]
        omega
      · have c3 : x.length = 0 := by omega
        simp [B_law_named, mFn, mSeq, mNext, mBin, mVar, mC, mIfS, mTest, asB, mAsg, mCallB, mCons, mNil, gN, mRet, mIf, mAnd, mOr, mNot, tAndM, tOrM, tNotM, mTru, truD, mDrop, mYes, i1, kyN, isiK, lenD, mChain, ordD, c3, kName]
  | _ => exact ⟨[], fn_ret rfl (show B_law_named [some _, none] C = _ from by simp [B_law_named, mFn, mSeq, mNext, mBin, mVar, mC, mIfS, mTest, asB, mAsg, mCallB, mCons, mNil, gN, mRet, mIf, mAnd, mOr, mNot, tAndM, tOrM, tNotM, mTru, truD, mDrop, mYes, i1, kyN, isiK, kName])⟩
end G
set_option Elab.async false
set_option linter.all false
set_option maxRecDepth 100000
set_option maxHeartbeats 4000000
namespace G
open PySem L2 Mi
theorem dEq_len {C : Hm} {n : Nat} {j : Int} : dEq (.int n) (.int j) C = some (.bl ((n : Int) == j), C) := eq_int
theorem ix0 {C : Hm} {a : D} {r : List D} {E : Ev} : mCons (mBin ixD (mVar 0) (mC (.int 0))) mNil (some (.tup (a :: r)) :: E) C = some ([a], C) := by
  simp [mCons, mNil, mBin, mVar, mC, ixD, atI, ixN]
theorem ix1 {C : Hm} {a b : D} {r : List D} {E : Ev} : mCons (mBin ixD (mVar 0) (mC (.int 1))) mNil (some (.tup (a :: b :: r)) :: E) C = some ([b], C) := by
  have e : (1 : Int) < (r.length : Int) + 1 + 1 := by omega
  simp [mCons, mNil, mBin, mVar, mC, ixD, atI, ixN, e]
theorem jx0 {C : Hm} {a : D} {r : List D} {E : Ev} : mBin ixD (mVar 0) (mC (.int 0)) (some (.tup (a :: r)) :: E) C = some (a, C) := by
  simp [mBin, mVar, mC, ixD, atI, ixN]
theorem jx1 {C : Hm} {a b : D} {r : List D} {E : Ev} : mBin ixD (mVar 0) (mC (.int 1)) (some (.tup (a :: b :: r)) :: E) C = some (b, C) := by
  have e : (1 : Int) < (r.length : Int) + 1 + 1 := by omega
  simp [mBin, mVar, mC, ixD, atI, ixN, e]
theorem v0 {C : Hm} {a : D} {E : Ev} : mCons (mVar 0) mNil (some a :: E) C = some ([a], C) := rfl
def kText : D → Bool
  | .tup [a, b] => kName a && kNum b
  | _ => false
theorem sub2 {C : Hm} {n : Nat} {a b : D} (g : Gs C (n + 1) (.tup [a, b])) : Gs C n a ∧ Gs C n b := by
  cases g.kd with | tup ds h1 h2 => exact ⟨h2 a (by simp), h2 b (by simp)⟩
theorem subs {C : Hm} {n : Nat} {ds : List D} (g : Gs C (n + 1) (.tup ds)) : ds.length ≤ sizeLine ∧ ∀ x ∈ ds, Gs C n x := by
  cases g.kd with | tup ds h1 h2 => exact ⟨h1, h2⟩
theorem k_law_named {C : Hm} (W : WH C) {n : Nat} {d : D} (g : Gs C (n + 1) d) {ml : MA} {E : Ev} (he : ml E C = some ([d], C)) : mKeep (mCall M_law_named ml) E C = some (.bl (kName d), C) := let ⟨_, h⟩ := law_named_ok g; kcall W he h
theorem k_law_key {C : Hm} (W : WH C) {n : Nat} {d : D} (g : Gs C (n + 1) d) {ml : MA} {E : Ev} (he : ml E C = some ([d], C)) : mKeep (mCall M_law_key ml) E C = some (.bl (kNum d), C) := kcall0 W he (law_key_ok g)
theorem k_is_key {C : Hm} (W : WH C) {n : Nat} {d : D} (g : Gs C (n + 1) d) {ml : MA} {E : Ev} (he : ml E C = some ([d], C)) : mKeep (mCall M_is_key ml) E C = some (.bl (kNum d), C) := kcall0 W he (is_key_ok W g)
theorem law_page_ok {C : Hm} (W : WH C) {n : Nat} {d : D} (g : Gs C (n + 2) d) : M_law_page [d] C = some (.bl (kText d), C) := by
  refine fn_ret rfl (show B_law_page [some d] C = _ from ?_)
  have i1 := isi_eq (t := .tup) g rfl
  cases g.kd with
  | tup ds h1 h2 =>
    rcases ds with _ | ⟨a, _ | ⟨b, _ | ⟨c, r⟩⟩⟩
    · simp [B_law_page, mRet, mAnd, mCallB, mCons, mNil, mVar, mC, mBin, asB, i1, kyN, isiK, kText, lenD, eq_int]
    · simp [B_law_page, mRet, mAnd, mCallB, mCons, mNil, mVar, mC, mBin, asB, i1, kyN, isiK, kText, lenD, eq_int]
    · have p2 := k_law_named W (h2 a (by simp)) (ix0 (r := [b]) (E := []))
      have p3 := k_law_key W (h2 b (by simp)) (ix1 (a := a) (r := []) (E := []))
      have e1 : (mBin dEq (mCallB lenD (mCons (mVar 0) mNil)) (mC (.int 2))) [some (.tup [a, b])] C = some (.bl true, C) := by simp [mCallB, mCons, mNil, mVar, mC, mBin, lenD, eq_int]
      have e2 : (mCallB isiD (mCons (mVar 0) (mCons (mC (.ty .tup)) mNil))) [some (.tup [a, b])] C = some (.bl true, C) := by simp [mCallB, mCons, mNil, mVar, mC, i1, kyN, isiK]
      cases q2 : kName a <;> simp [B_law_page, mRet, mAnd, asB, p2, p3, q2, kText, e1, e2]
    · have e1 : ((r.length : Int) + 1 + 1 + 1 == 2) = false := by simp; omega
      simp [B_law_page, mRet, mAnd, mCallB, mCons, mNil, mVar, mC, mBin, asB, i1, kyN, isiK, kText, lenD, eq_int, e1]
  | _ => simp [B_law_page, mRet, mAnd, mCallB, mCons, mNil, mVar, mC, asB, i1, kyN, isiK, kText]
theorem k_law_page {C : Hm} (W : WH C) {n : Nat} {d : D} (g : Gs C (n + 2) d) {ml : MA} {E : Ev} (he : ml E C = some ([d], C)) : mKeep (mCall M_law_page ml) E C = some (.bl (kText d), C) := kcall0 W he (law_page_ok W g)
def RowD (C : Hm) (d : D) (ds : List D) : Prop := lenD [d] C = some (.int ds.length, C) ∧ ∀ i, ixD d (.int i) C = (atI ds i).map fun x => (x, C)
theorem rowT {C : Hm} {ds : List D} : RowD C (.tup ds) ds := ⟨rfl, fun _ => rfl⟩
theorem rowC {C : Hm} {k : Nat} {ds : List D} (h : C[k]? = some (.lst ds)) : RowD C (.cell k) ds := by
  refine ⟨?_, fun i => ?_⟩
  · unfold lenD; simp only [h]
  · unfold ixD; simp only [h]
theorem szL : sizeLine = 16777216 := by decide
theorem mAnd_tf {ma mb : ME} {E : Ev} {C C1 : Hm} {b : Bool} {r : Option (D × Hm)} (h : ma E C = some (.bl b, C1)) (h1 : b = true → mb E C1 = r) (h2 : b = false → r = some (.bl false, C1)) : mAnd ma mb E C = r := by
  unfold mAnd
  rw [h]
  cases b with
  | true => simp only [asB, Option.bind_some, if_true]; exact h1 rfl
  | false => simp only [asB, Option.bind_some, Bool.false_eq_true, if_false]; exact (h2 rfl).symm
theorem wh_two {C : Hm} (W : WH C) {ds : List D} {f : D → Bool} {n : Nat} (g : ∀ x ∈ ds, Gs C n x) : WH (C ++ [.lst (ds.filter f)] ++ [.lst []]) := by
  refine (W.app ?_).app rfl
  refine bnds_iff.mpr fun x hx => ?_
  obtain ⟨p, e, _⟩ := g x (List.mem_filter.mp hx).1
  exact bnd_up (by omega) (py_bnd e)
/-- the places of a row, from the second on -/
theorem rng1 {ds : List D} {x : D} (hx : x ∈ rngD 1 ((ds.length : Int) - 1).toNat) : ∃ (m : Nat) (a b : D), x = .int (1 + (m : Int)) ∧ ds[m]? = some a ∧ ds[m + 1]? = some b ∧ atI ds ((1 + (m : Int)) - 1) = some a ∧ atI ds (1 + (m : Int)) = some b := by
  simp only [rngD, List.mem_map, List.mem_range] at hx
  obtain ⟨m, hm, rfl⟩ := hx
  have h1 : m < ds.length := by omega
  have h2 : m + 1 < ds.length := by omega
  refine ⟨m, ds[m], ds[m + 1], rfl, by simp [h1], by simp [h2], ?_, ?_⟩
  · have e : (1 + (m : Int) - 1) = (m : Nat) := by omega
    rw [e]
    unfold atI ixN
    rw [if_pos (by omega), if_pos (by omega)]
    simp [h1]
  · unfold atI ixN
    rw [if_pos (by omega), if_pos (by omega)]
    have e : (1 + (m : Int)).toNat = m + 1 := by omega
    simp [e, h2]
theorem law_rises_true {C : Hm} {d : D} {ds : List D} (r : RowD C d ds) (o : ∀ (i : Nat) (a b : D), ds[i]? = some a → ds[i + 1]? = some b → dGeX a b C = some (.bl false, C)) (hl : ds.length ≤ sizeLine) : ∃ k, M_law_rises [d] C = some (.bl true, C ++ k) := by
  have z := szL
  obtain ⟨g, a⟩ := emp_rng (ml := mCons (mC (.int 1)) (mCons (mCallB lenD (mCons (mVar 0) mNil)) mNil)) (i := 1) (vs := [1]) (E := [some d, none]) (C := C) (a := 1) (b := ds.length) (tt := mTest (mBin dGeX (mBin ixD (mVar 0) (mBin subD (mVar 1) (mC (.int 1)))) (mBin ixD (mVar 0) (mVar 1)))) (fun x => false)
    (by simp [mCons, mNil, mC, mCallB, mVar, r.1]) (by omega) (by omega) (by simp [wipeE]) (by
      intro x hx
      obtain ⟨m, a, b, rfl, h1, h2, h3, h4⟩ := rng1 hx
      have h5 := o m a b h1 h2
      simp only [mTest, mBin, mVar, mC, wipeE, subD, List.set, List.getElem?_cons_zero, List.getElem?_cons_succ, Option.bind_some, r.2, h3, h4, h5, asB, Option.map_some])
  refine ⟨g, fn_ret rfl (show B_law_rises [some d, none] C = _ from ret_eq ?_)⟩
  rw [a]
  simp
theorem law_keyed_true {C : Hm} (W : WH C) {ks : List Int} (h0 : ∀ k ∈ ks, 0 ≤ k) (up : ks.Pairwise (· < ·)) (hl : ks.length ≤ sizeLine) : ∃ k, M_law_keyed [.tup (ks.map .int)] C = some (.bl true, C ++ k) := by
  have gi : ∀ {C : Hm} {n : Nat} (i : Int), Gs C (n + 1) (.int i) := fun i => ⟨.int i, rfl, rfl, by simp [PyData.bulk]⟩
  have all : ∀ x ∈ ks.map D.int, kNum x = true := fun x hx => by
    obtain ⟨i, hi, rfl⟩ := List.mem_map.mp hx
    simp [kNum, h0 i hi]
  have a := emp_any (me := mVar 0) (i := 1) (vs := [1]) (E := [some (.tup (ks.map .int)), none]) (C := C) (tt := tNotM (mTru (mKeep (mCall M_law_key (mCons (mVar 1) mNil))))) (fun x => !kNum x) rfl (show walkD C (.tup (ks.map .int)) = some (ks.map .int) from rfl) (by simpa using hl) (by simp [wipeE]) (by
    intro x hx
    obtain ⟨i, hi, rfl⟩ := List.mem_map.mp hx
    have p := k_law_key W (gi (n := 0) i) (ml := mCons (mVar 1) mNil) (E := [some (.tup (ks.map .int)), some (.int i)]) rfl
    simp [tNotM, mTru, wipeE, p, truD]) (fun x hx => by
      obtain ⟨i, hi, rfl⟩ := List.mem_map.mp hx
      exact ⟨.int i, rfl, rfl⟩)
  simp only [Bool.not_not] at a
  have e0 : (mCallB isiD (mCons (mVar 0) (mCons (mC (.ty .tup)) mNil))) [some (.tup (ks.map .int)), none] C = some (.bl true, C) := by simp [mCallB, mCons, mNil, mVar, mC, isiD, kyD, isiK, notNon]
  have W2 : WH (C ++ [.lst ((ks.map D.int).filter fun x => !kNum x)] ++ [.lst []]) := by
    refine (W.app ?_).app rfl
    refine bnds_iff.mpr fun x hx => ?_
    obtain ⟨i, hi, rfl⟩ := List.mem_map.mp (List.mem_filter.mp hx).1
    rfl
  obtain ⟨_, r⟩ := law_rises_true (C := C ++ [.lst ((ks.map D.int).filter fun x => !kNum x)] ++ [.lst []]) (rowT (ds := ks.map D.int)) (fun i a b h1 h2 => by
    rw [List.getElem?_map] at h1 h2
    obtain ⟨x, e1, rfl⟩ := omap h1
    obtain ⟨y, e2, rfl⟩ := omap h2
    have lt : x < y := by
      obtain ⟨l1, rfl⟩ := List.getElem?_eq_some_iff.mp e1
      obtain ⟨l2, rfl⟩ := List.getElem?_eq_some_iff.mp e2
      exact List.pairwise_iff_getElem.mp up i (i + 1) l1 l2 (Nat.lt_succ_self _)
    show some (D.bl (decide (y ≤ x)), _) = _
    rw [decide_eq_false (by omega)]) (by simpa using hl)
  have q : (ks.map D.int).all kNum = true := List.all_eq_true.mpr all
  have key : B_law_keyed [some (.tup (ks.map .int)), none] C = some (.rt (.bl true) (C ++ [.lst ((ks.map D.int).filter fun x => !kNum x)] ++ [.lst []])) := by
    refine ret_eq (mAnd_tf e0 (fun _ => mAnd_tf a (fun _ => ?_) fun q' => by rw [q] at q'; cases q') fun z => by cases z)
    exact kcall W2 (v0 (E := [none])) r
  rw [List.append_assoc] at key
  exact ⟨_, fn_ret rfl key⟩
end G
set_option Elab.async false
set_option linter.all false
set_option maxRecDepth 100000
set_option maxHeartbeats 4000000
namespace G
open PySem L2 Mi
/-! ## what keys and boxes open -/
abbrev Th := MD.MK
abbrev Box := Th × List Int
def Closed (bx : List Box) (S : Th → Prop) : Prop := ∀ b ∈ bx, (∀ k ∈ b.2, S (.i k)) → S b.1
def Cl (keys : List Int) (bx : List Box) (x : Th) : Prop := ∀ S : Th → Prop, (∀ k ∈ keys, S (.i k)) → Closed bx S → S x
theorem cl_key {keys : List Int} {bx : List Box} {k : Int} (h : k ∈ keys) : Cl keys bx (.i k) := fun S hk _ => hk k h
theorem cl_closed (keys : List Int) (bx : List Box) : Closed bx (Cl keys bx) := fun b hb h S hk hc => hc b hb fun k hk' => h k hk' S hk hc
theorem cl_least {keys : List Int} {bx : List Box} {S : Th → Prop} (hk : ∀ k ∈ keys, S (.i k)) (hc : Closed bx S) {x : Th} (h : Cl keys bx x) : S x := h S hk hc
/-- more keys, more boxes -/
theorem cl_mono {ka kb : List Int} {ba bb : List Box} (hk : ∀ k ∈ ka, Cl kb bb (.i k)) (hb : ∀ b ∈ ba, b ∈ bb) {x : Th} (h : Cl ka ba x) : Cl kb bb x :=
  cl_least hk (fun b hb' h' => cl_closed kb bb b (hb b hb') h') h
theorem cl_set {ka kb : List Int} {ba bb : List Box} (hk : ∀ k, k ∈ ka ↔ k ∈ kb) (hb : ∀ b, b ∈ ba ↔ b ∈ bb) (x : Th) : Cl ka ba x ↔ Cl kb bb x :=
  ⟨cl_mono (fun k h => cl_key ((hk k).mp h)) fun b h => (hb b).mp h, cl_mono (fun k h => cl_key ((hk k).mpr h)) fun b h => (hb b).mpr h⟩
/-- opening again -/
theorem cl_again {ka kb : List Int} {bx : List Box} (h1 : ∀ k ∈ ka, k ∈ kb) (h2 : ∀ k ∈ kb, Cl ka bx (.i k)) (x : Th) : Cl kb bx x ↔ Cl ka bx x :=
  ⟨cl_mono h2 fun b h => h, cl_mono (fun k h => cl_key (h1 k h)) fun b h => h⟩
/-- no box: the keys alone -/
theorem cl_none {keys : List Int} {x : Th} : Cl keys [] x ↔ ∃ k ∈ keys, x = .i k :=
  ⟨fun h => cl_least (S := fun x => ∃ k ∈ keys, x = .i k) (fun k hk => ⟨k, hk, rfl⟩) (fun b hb => by cases hb) h, fun ⟨k, hk, e⟩ => e ▸ cl_key hk⟩
/-- a box whose thing is opened without it may go -/
theorem cl_drop {keys : List Int} {bx rest : List Box} {c : Box} (hb : ∀ b ∈ bx, b = c ∨ b ∈ rest) (hr : ∀ b ∈ rest, b ∈ bx) (hc : Cl keys rest c.1) (x : Th) : Cl keys bx x ↔ Cl keys rest x :=
  ⟨fun h => cl_least (S := Cl keys rest) (fun k hk => cl_key hk) (fun b hb' h' => by
    rcases hb b hb' with e | e
    · rw [e]; exact hc
    · exact cl_closed keys rest b e h') h, cl_mono (fun k hk => cl_key hk) hr⟩
/-! ## the order of opening -/
def goalOf (bx : List Box) (b : Nat) : Th := (bx.getD b (.i 0, [])).1
def waitsI (bx : List Box) (k : Int) : List Nat := (List.range bx.length).flatMap fun b => List.replicate ((bx.getD b (.i 0, [])).2.count k) b
def waits (bx : List Box) : Th → List Nat
  | .i k => waitsI bx k
  | .t _ => []
theorem goalOf_at {bx : List Box} {b : Nat} (h : b < bx.length) : goalOf bx b = bx[b].1 := by simp [goalOf, h]
theorem count_flat {α : Type} [DecidableEq α] (f : Nat → List α) (x : α) : ∀ l : List Nat, (l.flatMap f).count x = (l.map fun b => (f b).count x).sum
  | [] => rfl
  | a :: l => by rw [List.flatMap_cons, List.count_append, count_flat f x l]; rfl
theorem sum_one (g : Nat → Nat) (b : Nat) : ∀ n : Nat, b < n → ((List.range n).map fun a => if a = b then g a else 0).sum = g b
  | 0, h => by omega
  | n + 1, h => by
    rw [List.range_succ, List.map_append, List.sum_append]
    by_cases hb : b = n
    · subst hb
      have : ((List.range b).map fun a => if a = b then g a else 0).sum = 0 := by
        have key : ∀ m, m ≤ b → ((List.range m).map fun a => if a = b then g a else 0).sum = 0 := by
          intro m
          induction m with
          | zero => intro _; rfl
          | succ m ih =>
            intro hm
            rw [List.range_succ, List.map_append, List.sum_append, ih (by omega)]
            have : ¬ m = b := by omega
            simp [this]
        exact key b (Nat.le_refl _)
      rw [this]; simp
    · rw [sum_one g b n (by omega)]
      have : ¬ n = b := fun e => hb e.symm
      simp [this]
theorem waits_count {bx : List Box} {k : Int} {b : Nat} (h : b < bx.length) : (waitsI bx k).count b = bx[b].2.count k := by
  unfold waitsI
  rw [count_flat]
  have e : ((List.range bx.length).map fun a => (List.replicate ((bx.getD a (.i 0, [])).2.count k) a).count b) = (List.range bx.length).map fun a => if a = b then (bx.getD a (.i 0, [])).2.count k else 0 := by
    apply List.map_congr_left
    intro a _
    rw [List.count_replicate]
    by_cases e : a = b <;> simp [e]
  rw [e, sum_one (fun a => (bx.getD a (.i 0, [])).2.count k) b _ h]
  simp [h]
theorem waits_lt {bx : List Box} {x : Th} {b : Nat} (h : b ∈ waits bx x) : b < bx.length := by
  cases x with
  | t _ => cases h
  | i k =>
    obtain ⟨a, ha, hb⟩ := List.mem_flatMap.mp (show b ∈ waitsI bx k from h)
    rw [(List.mem_replicate.mp hb).2]
    exact List.mem_range.mp ha
structure OI (bx : List Box) (keys : List Int) (q0 : List Th) (n : Nat) (R : List Nat) (ms : List Int) (qu : List Th) (od : List Nat) : Prop where
  len : ms.length = bx.length
  nd : qu.Nodup
  init : qu = q0 ++ od.map (goalOf bx)
  olt : ∀ b ∈ od, b < bx.length
  ond : od.Nodup
  rlt : ∀ b ∈ R, b < bx.length
  mv : ∀ b (h : b < bx.length), ms[b]? = some (((bx[b].2.filter fun k => decide (MD.MK.i k ∉ qu.take n)).length + R.count b : Nat) : Int)
  snd : ∀ x ∈ qu, Cl keys bx x
  zero : ∀ b (h : b < bx.length), ms[b]? = some 0 → bx[b].2 ≠ [] → goalOf bx b ∈ qu
  le : n ≤ qu.length
section
variable {bx : List Box} {keys : List Int} {q0 qu : List Th} {n : Nat} {R od : List Nat} {ms : List Int}
theorem oi_start (nd : q0.Nodup) (hq : ∀ x ∈ q0, ∃ k ∈ keys, x = .i k) : OI bx keys q0 0 [] (bx.map fun b => (b.2.length : Int)) q0 [] := by
  refine ⟨by simp, nd, by simp, by simp, by simp, by simp, fun b h => ?_, fun x hx => ?_, fun b h e ne => ?_, Nat.zero_le _⟩
  · have : (bx[b].2.filter fun k => decide (MD.MK.i k ∉ q0.take 0)) = bx[b].2 := List.filter_eq_self.mpr (by simp)
    rw [this, List.getElem?_map, List.getElem?_eq_getElem h]
    simp
  · obtain ⟨k, hk, rfl⟩ := hq x hx; exact cl_key hk
  · rw [List.getElem?_map, List.getElem?_eq_getElem h] at e
    simp at e
    exact absurd e ne
/-- a thing is taken off the queue -/
theorem oi_take (o : OI bx keys q0 n [] ms qu od) {x : Th} (hx : qu[n]? = some x) : OI bx keys q0 (n + 1) (waits bx x) ms qu od := by
  obtain ⟨hn, ex⟩ := List.getElem?_eq_some_iff.mp hx
  have et : qu.take (n + 1) = qu.take n ++ [x] := by rw [List.take_succ_eq_append_getElem hn, ex]
  have nin : x ∉ qu.take n := by
    intro hm
    have nd := o.nd
    rw [← List.take_append_drop n qu, List.nodup_append] at nd
    have : x ∈ qu.drop n := by
      rw [List.drop_eq_getElem_cons hn, ex]; simp
    exact nd.2.2 x hm x this rfl
  refine ⟨o.len, o.nd, o.init, o.olt, o.ond, fun b hb => waits_lt hb, fun b h => ?_, o.snd, o.zero, hn⟩
  rw [o.mv b h, et]
  congr 2
  simp only [List.count_nil, Nat.add_zero]
  cases x with
  | t ks =>
    simp only [waits, List.count_nil, Nat.add_zero]
    congr 1
    apply List.filter_congr
    intro k _
    simp
  | i k0 =>
    simp only [waits]
    rw [waits_count h]
    generalize bx[b].2 = l
    induction l with
    | nil => simp
    | cons k l ih =>
      rw [List.filter_cons, List.filter_cons, List.count_cons]
      by_cases hk : k = k0
      · subst hk
        have h1 : decide (MD.MK.i k ∉ qu.take n) = true := decide_eq_true nin
        have h2 : decide (MD.MK.i k ∉ qu.take n ++ [MD.MK.i k]) = false := by simp
        have bb : (k == k) = true := by simp
        simp only [h1, h2, if_true, Bool.false_eq_true, if_false, List.length_cons, bb]
        omega
      · have h2 : decide (MD.MK.i k ∉ qu.take n ++ [MD.MK.i k0]) = decide (MD.MK.i k ∉ qu.take n) := by
          apply decide_eq_decide.mpr
          simp [hk]
        have h3 : (k == k0) = false := by simp [hk]
        rw [h2]
        simp only [h3, Bool.false_eq_true, if_false, Nat.add_zero]
        split
        · simp only [List.length_cons]; omega
        · exact ih
theorem oi_val {b : Nat} (o : OI bx keys q0 n (b :: R) ms qu od) : ∃ m : Nat, ms[b]? = some ((m : Int) + 1) := by
  have h := o.rlt b (by simp)
  refine ⟨(bx[b].2.filter fun k => decide (MD.MK.i k ∉ qu.take n)).length + R.count b, ?_⟩
  rw [o.mv b h]
  simp
  omega
theorem oi_ms {b : Nat} {m : Nat} (o : OI bx keys q0 n (b :: R) ms qu od) (hm : ms[b]? = some ((m : Int) + 1)) (c : Nat) (h : c < bx.length) : (ms.set b (m : Int))[c]? = some (((bx[c].2.filter fun k => decide (MD.MK.i k ∉ qu.take n)).length + R.count c : Nat) : Int) := by
  by_cases hc : b = c
  · subst hc
    have hl : b < ms.length := by rw [o.len]; exact h
    rw [List.getElem?_set_self hl]
    have := o.mv b h
    rw [hm] at this
    have := Option.some.inj this
    congr 1
    simp at this ⊢
    omega
  · rw [List.getElem?_set_ne hc, o.mv c h, List.count_cons]
    have : (b == c) = false := by simp [hc]
    simp [this]
/-- a box gets a key: it is not open yet, or its thing is there -/
theorem oi_dec {b m : Nat} (o : OI bx keys q0 n (b :: R) ms qu od) (hm : ms[b]? = some ((m : Int) + 1)) (hz : m = 0 → goalOf bx b ∈ qu) : OI bx keys q0 n R (ms.set b (m : Int)) qu od := by
  refine ⟨by rw [List.length_set]; exact o.len, o.nd, o.init, o.olt, o.ond, fun c hc => o.rlt c (by simp [hc]), oi_ms o hm, o.snd, fun c h e ne => ?_, o.le⟩
  by_cases hc : b = c
  · subst hc
    have hl : b < ms.length := by rw [o.len]; exact h
    rw [List.getElem?_set_self hl] at e
    exact hz (by simpa using e)
  · rw [List.getElem?_set_ne hc] at e
    exact o.zero c h e ne
/-- .. or its thing comes -/
theorem oi_new {b : Nat} (o : OI bx keys q0 n (b :: R) ms qu od) (hm : ms[b]? = some 1) (hz : goalOf bx b ∉ qu) : OI bx keys q0 n R (ms.set b 0) (qu ++ [goalOf bx b]) (od ++ [b]) := by
  have h := o.rlt b (by simp)
  have hms := oi_ms (m := 0) o (by simpa using hm)
  have et : (qu ++ [goalOf bx b]).take n = qu.take n := by rw [List.take_append_of_le_length o.le]
  have hl : b < ms.length := by rw [o.len]; exact h
  have hb := hms b h
  rw [List.getElem?_set_self hl] at hb
  have hb : ((bx[b].2.filter fun k => decide (MD.MK.i k ∉ qu.take n)).length + R.count b) = 0 := by
    have := Option.some.inj hb
    omega
  have all : ∀ k ∈ bx[b].2, MD.MK.i k ∈ qu := fun k hk => by
    have e : (bx[b].2.filter fun k => decide (MD.MK.i k ∉ qu.take n)) = [] := List.length_eq_zero_iff.mp (by omega)
    have := List.filter_eq_nil_iff.mp e k hk
    simp at this
    exact List.mem_of_mem_take this
  refine ⟨by rw [List.length_set]; exact o.len, ?_, ?_, fun c hc => ?_, ?_, fun c hc => o.rlt c (by simp [hc]), fun c h' => by rw [et]; exact hms c h', fun x hx => ?_, fun c h' e ne => ?_, by rw [List.length_append]; have := o.le; omega⟩
  · rw [List.nodup_append]
    refine ⟨o.nd, by simp, fun x hx y hy e => ?_⟩
    simp at hy; subst hy; subst e; exact hz hx
  · rw [List.map_append, ← List.append_assoc, ← o.init]; rfl
  · rcases List.mem_append.mp hc with hc | hc
    · exact o.olt c hc
    · rw [List.mem_singleton.mp hc]; exact h
  · rw [List.nodup_append]
    refine ⟨o.ond, by simp, fun c hc y hy e => ?_⟩
    simp at hy; subst hy; subst e
    refine hz ?_
    rw [o.init]
    exact List.mem_append_right _ (List.mem_map.mpr ⟨c, hc, rfl⟩)
  · rcases List.mem_append.mp hx with hx | hx
    · exact o.snd x hx
    · rw [List.mem_singleton.mp hx, goalOf_at h]
      exact cl_closed keys bx _ (List.getElem_mem h) fun k hk => o.snd _ (all k hk)
  · by_cases hc : b = c
    · subst hc; simp
    · rw [List.getElem?_set_ne hc] at e
      exact List.mem_append_left _ (o.zero c h' e ne)
/-- how long the queue can get -/
theorem oi_len (o : OI bx keys q0 n R ms qu od) : od.length ≤ bx.length ∧ qu.length = q0.length + od.length := by
  refine ⟨?_, by rw [o.init]; simp⟩
  have key : ∀ (m : Nat) (l : List Nat), l.Nodup → (∀ b ∈ l, b < m) → l.length ≤ m := by
    intro m
    induction m with
    | zero =>
      intro l _ h
      cases l with
      | nil => simp
      | cons a l => exact absurd (h a (by simp)) (by omega)
    | succ m ih =>
      intro l nd h
      by_cases hm : m ∈ l
      · have := ih (l.erase m) (nd.erase m) fun b hb => by
          have h1 := h b (List.mem_of_mem_erase hb)
          have h2 : b ≠ m := fun e => by subst e; exact absurd hb (List.Nodup.not_mem_erase nd)
          omega
        rw [List.length_erase_of_mem hm] at this
        omega
      · have := ih l nd fun b hb => by
          have h1 := h b hb
          have h2 : b ≠ m := fun e => hm (e ▸ hb)
          omega
        omega
  exact key _ _ o.ond o.olt
/-- the queue is through -/
theorem oi_end (o : OI bx keys q0 qu.length [] ms qu od) (hq : ∀ k ∈ keys, MD.MK.i k ∈ q0) (ne : ∀ b ∈ bx, b.2 ≠ []) (x : Th) : x ∈ qu ↔ Cl keys bx x := by
  refine ⟨o.snd x, cl_least (S := (· ∈ qu)) (fun k hk => ?_) fun b hb h => ?_⟩
  · rw [o.init]; exact List.mem_append_left _ (hq k hk)
  · obtain ⟨c, hc, rfl⟩ := List.getElem_of_mem hb
    have e := o.mv c hc
    have f : (bx[c].2.filter fun k => decide (MD.MK.i k ∉ qu.take qu.length)) = [] := by
      refine List.filter_eq_nil_iff.mpr fun k hk => ?_
      rw [List.take_length]
      simp [h k hk]
    rw [f] at e
    have := o.zero c hc (by simpa using e) (ne _ (List.getElem_mem hc))
    rw [goalOf_at hc] at this
    exact this
end
end G
set_option Elab.async false
set_option linter.all false
set_option maxRecDepth 100000
set_option maxHeartbeats 4000000
namespace G
open PySem L2 Mi
/-! ## weakest preconditions of the steps -/
theorem wFn {n N : Nat} {body : MS} {ds : List D} {C : Hm} {Q : D × Hm → Prop} (hl : ds.length = n) (h : wpo (body (ds.map some ++ List.replicate (N - n) none) C) fun o => ∃ d C', o = .rt d C' ∧ Q (d, C')) : wpo (mFn n N body ds C) Q := by
  obtain ⟨o, e, d, C', rfl, q⟩ := h
  exact ⟨_, fn_ret hl e, q⟩
theorem wCons {m : ME} {ml : MA} {E : Ev} {C : Hm} {Q : List D × Hm → Prop} (h : wpo (m E C) fun p => wpo (ml E p.2) fun q => Q (p.1 :: q.1, q.2)) : wpo (mCons m ml E C) Q := by
  obtain ⟨p, e, q, e2, h⟩ := h
  exact ⟨_, by unfold mCons; rw [e]; simp only [Option.bind_some]; rw [e2]; rfl, h⟩
theorem wNil {E : Ev} {C : Hm} {Q : List D × Hm → Prop} (h : Q ([], C)) : wpo (mNil E C) Q := ⟨_, rfl, h⟩
theorem wMeth {T : String} {op : ODM} {mo : ME} {ml : MA} {E : Ev} {C : Hm} {Q : D × Hm → Prop} (h : wpo (mo E C) fun p => tyD T p.1 p.2 = true ∧ wpo (ml E p.2) fun q => wpo (op p.1 q.1 q.2) Q) : wpo (mMeth T op mo ml E C) Q := by
  obtain ⟨p, e, h2, q, e2, h⟩ := h
  unfold mMeth
  rw [e]
  simp only [Option.bind_some]
  rw [if_pos h2, e2]
  exact h
theorem wMethX {op : ODM} {mo : ME} {ml : MA} {E : Ev} {C : Hm} {Q : D × Hm → Prop} (h : wpo (mo E C) fun p => (mixOf p.2 p.1).isSome = true ∧ wpo (ml E p.2) fun q => wpo (op p.1 q.1 q.2) Q) : wpo (mMethX op mo ml E C) Q := by
  obtain ⟨p, e, h2, q, e2, h⟩ := h
  unfold mMethX
  rw [e]
  simp only [Option.bind_some]
  rw [if_pos h2, e2]
  exact h
theorem wBin {op : OD2} {ma mb : ME} {E : Ev} {C : Hm} {Q : D × Hm → Prop} (h : wpo (ma E C) fun p => wpo (mb E p.2) fun q => wpo (op p.1 q.1 q.2) Q) : wpo (mBin op ma mb E C) Q := by
  obtain ⟨p, e, q, e2, h⟩ := h
  unfold mBin; rw [e]; simp only [Option.bind_some]; rw [e2]; exact h
theorem wCallB {op : ODL} {ml : MA} {E : Ev} {C : Hm} {Q : D × Hm → Prop} (h : wpo (ml E C) fun q => wpo (op q.1 q.2) Q) : wpo (mCallB op ml E C) Q := by
  obtain ⟨p, e, h⟩ := h
  unfold mCallB; rw [e]; exact h
theorem wCall {m : MF} {ml : MA} {E : Ev} {C : Hm} {Q : D × Hm → Prop} (h : wpo (ml E C) fun q => wpo (m q.1 q.2) Q) : wpo (mCall m ml E C) Q := by
  obtain ⟨p, e, h⟩ := h
  unfold mCall; rw [e]; exact h
theorem wDrop {m : ME} {E : Ev} {C : Hm} {Q : Out → Prop} (h : wpo (m E C) fun p => Q (.nx E p.2)) : wpo (mDrop m E C) Q := by
  obtain ⟨p, e, h⟩ := h
  exact ⟨_, by unfold mDrop; rw [e]; rfl, h⟩
theorem wRet {m : ME} {E : Ev} {C : Hm} {Q : Out → Prop} (h : wpo (m E C) fun p => Q (.rt p.1 p.2)) : wpo (mRet m E C) Q := by
  obtain ⟨p, e, h⟩ := h
  exact ⟨_, by unfold mRet; rw [e]; rfl, h⟩
theorem wAsg {m : ME} {i : Nat} {E : Ev} {C : Hm} {Q : Out → Prop} (h : wpo (m E C) fun p => Q (.nx (E.set i (some p.1)) p.2)) : wpo (mAsg m (gN i) E C) Q := by
  obtain ⟨p, e, h⟩ := h
  exact ⟨_, by unfold mAsg gN; rw [e]; rfl, h⟩
theorem wSeq {m n : MS} {E : Ev} {C : Hm} {Q : Out → Prop} (h : wpo (m E C) fun o => match o with | .nx E' C' => wpo (n E' C') Q | o => Q o) : wpo (mSeq m n E C) Q := by
  obtain ⟨o, e, h⟩ := h
  cases o with
  | nx E' C' => rw [seq_nx e]; exact h
  | _ => exact ⟨_, by unfold mSeq; rw [e]; rfl, h⟩
theorem wIfS {t : MT} {m n : MS} {E : Ev} {C : Hm} {Q : Out → Prop} (h : wpo (t E C) fun p => if p.1 = true then wpo (m E p.2) Q else wpo (n E p.2) Q) : wpo (mIfS t m n E C) Q := by
  obtain ⟨p, e, h⟩ := h
  unfold mIfS; rw [e]; simp only [Option.bind_some]
  split <;> simp_all
theorem wIf {t : MT} {m n : ME} {E : Ev} {C : Hm} {Q : D × Hm → Prop} (h : wpo (t E C) fun p => if p.1 = true then wpo (m E p.2) Q else wpo (n E p.2) Q) : wpo (mIf t m n E C) Q := by
  obtain ⟨p, e, h⟩ := h
  unfold mIf; rw [e]; simp only [Option.bind_some]
  split <;> simp_all
theorem tst_bl {m : ME} {E : Ev} {C C' : Hm} {b : Bool} (h : m E C = some (.bl b, C')) : mTest m E C = some (b, C') := by unfold mTest; rw [h]; rfl
theorem and_t {t u : MT} {E : Ev} {C C' : Hm} (h : t E C = some (true, C')) : tAndM t u E C = u E C' := by unfold tAndM; rw [h]; rfl
theorem and_f {t u : MT} {E : Ev} {C C' : Hm} (h : t E C = some (false, C')) : tAndM t u E C = some (false, C') := by unfold tAndM; rw [h]; rfl
theorem wTst {m : ME} {E : Ev} {C : Hm} {Q : Bool × Hm → Prop} (h : wpo (m E C) fun p => ∃ b, p.1 = .bl b ∧ Q (b, p.2)) : wpo (mTest m E C) Q := by
  obtain ⟨⟨d, C'⟩, e, b, rfl, q⟩ := h
  exact ⟨_, tst_bl e, q⟩
theorem wAndT {t u : MT} {E : Ev} {C : Hm} {Q : Bool × Hm → Prop} (h : wpo (t E C) fun p => if p.1 = true then wpo (u E p.2) Q else Q (false, p.2)) : wpo (tAndM t u E C) Q := by
  obtain ⟨⟨b, C'⟩, e, h⟩ := h
  cases b with
  | true => rw [and_t e]; simpa using h
  | false => exact ⟨_, and_f e, by simpa using h⟩
theorem wOrT {t u : MT} {E : Ev} {C : Hm} {Q : Bool × Hm → Prop} (h : wpo (t E C) fun p => if p.1 = true then Q (true, p.2) else wpo (u E p.2) Q) : wpo (tOrM t u E C) Q := by
  obtain ⟨⟨b, C'⟩, e, h⟩ := h
  unfold tOrM
  rw [e]
  cases b with
  | true => simpa using wpo_some.mpr (by simpa using h)
  | false => simpa using h
theorem wNotT {t : MT} {E : Ev} {C : Hm} {Q : Bool × Hm → Prop} (h : wpo (t E C) fun p => Q (!p.1, p.2)) : wpo (tNotM t E C) Q := by
  obtain ⟨p, e, h⟩ := h
  unfold tNotM; rw [e]; exact wpo_some.mpr h
theorem wTru {m : ME} {E : Ev} {C : Hm} {Q : Bool × Hm → Prop} (h : wpo (m E C) fun p => ∃ b, truD p.1 p.2 = some b ∧ Q (b, p.2)) : wpo (mTru m E C) Q := by
  obtain ⟨⟨d, C'⟩, e, b, e2, q⟩ := h
  refine ⟨_, ?_, q⟩
  unfold mTru; rw [e]; simp only [Option.bind_some]
  rw [show truD d C' = some b from e2]; rfl
theorem wTup {ml : MA} {E : Ev} {C : Hm} {Q : D × Hm → Prop} (h : wpo (ml E C) fun q => q.1.length ≤ sizeLine ∧ Q (.tup q.1, q.2)) : wpo (mTup ml E C) Q := by
  obtain ⟨q, e, h1, h2⟩ := h
  refine ⟨_, ?_, h2⟩
  unfold mTup mkTup; rw [e]; simp only [Option.bind_some]; rw [if_pos h1]
theorem wLst {ml : MA} {E : Ev} {C : Hm} {Q : D × Hm → Prop} (h : wpo (ml E C) fun q => q.1.length ≤ sizeLine ∧ Q (.cell q.2.length, q.2 ++ [.lst q.1])) : wpo (mLst ml E C) Q := by
  obtain ⟨q, e, h1, h2⟩ := h
  refine ⟨_, ?_, h2⟩
  unfold mLst mkLst; rw [e]; simp only [Option.bind_some]; rw [if_pos h1]
theorem wLst0 {E : Ev} {C : Hm} {Q : D × Hm → Prop} (h : Q (.cell C.length, C ++ [.lst []])) : wpo (mLst mNil E C) Q := wLst (wNil ⟨Nat.zero_le _, h⟩)
theorem var_at {i : Nat} {E : Ev} {C : Hm} {d : D} (h : E[i]? = some (some d)) : mVar i E C = some (d, C) := by unfold mVar; rw [h]
theorem wVar {i : Nat} {E : Ev} {C : Hm} {d : D} {Q : D × Hm → Prop} (h : E[i]? = some (some d)) (q : Q (d, C)) : wpo (mVar i E C) Q := ⟨_, var_at h, q⟩
theorem wC {E : Ev} {C : Hm} {d : D} {Q : D × Hm → Prop} (q : Q (d, C)) : wpo (mC d E C) Q := ⟨_, rfl, q⟩
theorem wNewX {E : Ev} {C : Hm} {Q : D × Hm → Prop} (q : Q (.cell C.length, C ++ [.dix []])) : wpo (mNewX E C) Q := ⟨_, rfl, q⟩
/-- for over an enumerated tuple, a tuple, a list that stays -/
theorem wForE {ml : MA} {tg : MG} {body : MS} {E : Ev} {C : Hm} {Q : Out → Prop} (h : wpo (ml E C) fun q => ∃ ds, q.1 = [.tup ds] ∧ wpo (forLoop (.seq (enD 0 ds)) tg body ((enD 0 ds).length + 1) 0 E q.2) Q) : wpo (mFor (mIEnum ml) tg body E C) Q := by
  obtain ⟨⟨d, C1⟩, e, ds, h1, h⟩ := h
  simp only at h1
  subst h1
  unfold mFor mIEnum
  rw [e]
  simp only [Option.bind_some]
  have : (enD 0 ds).length = ds.length := by
    have key : ∀ (k : Int) (l : List D), (enD k l).length = l.length := by
      intro k l
      induction l generalizing k with
      | nil => rfl
      | cons d l ih => simp [enD, ih]
    exact key 0 ds
  rw [this] at h
  exact h
theorem wForA {me : ME} {tg : MG} {body : MS} {E : Ev} {C : Hm} {Q : Out → Prop} (h : wpo (me E C) fun q => ∃ ds, q.1 = .tup ds ∧ wpo (forLoop (.seq ds) tg body (ds.length + 1) 0 E q.2) Q) : wpo (mFor (mIAny me) tg body E C) Q := by
  obtain ⟨⟨d, C1⟩, e, ds, h1, h⟩ := h
  simp only at h1
  subst h1
  unfold mFor mIAny
  rw [e]
  exact h
theorem wForC {me : ME} {tg : MG} {body : MS} {E : Ev} {C : Hm} {Q : Out → Prop} (h : wpo (me E C) fun q => ∃ k ds, q.1 = .cell k ∧ q.2[k]? = some (.lst ds) ∧ wpo (forLoop (.live k) tg body (ds.length + 1) 0 E q.2) Q) : wpo (mFor (mIAny me) tg body E C) Q := by
  obtain ⟨⟨d, C1⟩, e, k, ds, h1, h2, h⟩ := h
  simp only at h1 h2
  subst h1
  unfold mFor mIAny
  rw [e]
  simp only [Option.bind_some, iAnyD, h2]
  exact h
/-! ## frames: what stood before stays -/
structure Pr (C C' : Hm) : Prop where
  wh : WH C'
  len : C.length ≤ C'.length
  old : ∀ k, k < C.length → C'[k]? = C[k]?
theorem Pr.refl {C : Hm} (W : WH C) : Pr C C := ⟨W, Nat.le_refl _, fun _ _ => rfl⟩
theorem Pr.app {C C' : Hm} (h : Pr C C') {c : Cell} (hb : c.bnd (C'.length + 1) = true) : Pr C (C' ++ [c]) :=
  ⟨h.wh.app hb, by have := h.len; simp; omega, fun k hk => by rw [List.getElem?_append_left (by have := h.len; omega)]; exact h.old k hk⟩
theorem Pr.set {C C' : Hm} (h : Pr C C') {c : Cell} {k : Nat} (hk : C.length ≤ k) (hb : c.bnd C'.length = true) : Pr C (C'.set k c) :=
  ⟨h.wh.set hb, by rw [List.length_set]; exact h.len, fun j hj => by rw [List.getElem?_set_ne (by omega)]; exact h.old j hj⟩
theorem Pr.trans {A B C : Hm} (h : Pr A B) (k : Pr B C) : Pr A C := ⟨k.wh, Nat.le_trans h.len k.len, fun j hj => (k.old j (Nat.lt_of_lt_of_le hj h.len)).trans (h.old j hj)⟩
theorem Pr.split {C C' : Hm} (h : Pr C C') : C' = C ++ C'.drop C.length := by
  have e : C' = C'.take C.length ++ C'.drop C.length := (List.take_append_drop _ _).symm
  have : C'.take C.length = C := by
    apply List.ext_getElem?
    intro i
    by_cases hi : i < C.length
    · rw [List.getElem?_take_of_lt hi]; exact h.old i hi
    · rw [List.getElem?_eq_none (by simp; omega), List.getElem?_eq_none (by omega)]
  rw [this] at e
  exact e
theorem Pr.get {C C' : Hm} (h : Pr C C') {k : Nat} {c : Cell} (e : C[k]? = some c) : C'[k]? = some c := by rw [h.old k (List.getElem?_eq_some_iff.mp e).1]; exact e
theorem get_set_ne {C : Hm} {k j : Nat} {c x : Cell} (e : C[k]? = some c) (h : j ≠ k) : (C.set j x)[k]? = some c := by rw [List.getElem?_set_ne h]; exact e
theorem get_set_eq {C : Hm} {k : Nat} {c x : Cell} (e : C[k]? = some c) : (C.set k x)[k]? = some x := List.getElem?_set_self (List.getElem?_eq_some_iff.mp e).1
theorem get_app {C : Hm} {k : Nat} {c x : Cell} (e : C[k]? = some c) : (C ++ [x])[k]? = some c := by rw [List.getElem?_append_left (List.getElem?_eq_some_iff.mp e).1]; exact e
/-! ## mixed dicts -/
theorem valM_put {kvs : List (MD.MK × D)} {k j : MD.MK} {d : D} : valM (putM kvs k d) j = if j = k then some d else valM kvs j := by
  unfold putM
  cases h : hasM kvs k with
  | true =>
    simp only [if_true]
    have key : ∀ l : List (MD.MK × D), hasM l k = true → valM (l.map fun p => if p.1 = k then (p.1, d) else p) j = if j = k then some d else valM l j := by
      intro l
      induction l with
      | nil => intro h; cases h
      | cons p l ih =>
        intro h
        unfold valM hasM at *
        rw [List.map_cons, List.find?_cons, List.find?_cons]
        by_cases hp : p.1 = k
        · by_cases hj : j = k
          · subst hj; simp [hp]
          · have h1 : ¬ p.1 = j := fun e => hj (e.symm.trans hp)
            simp only [hp, if_true]
            have h2 : ¬ k = j := fun e => hj e.symm
            simp only [decide_eq_true_eq, h2, h1, decide_false, hj, if_false, Bool.false_eq_true]
            by_cases hl : (l.any fun p => decide (p.1 = k)) = true
            · have := ih hl
              simp only [hj, if_false] at this
              exact this
            · have e : (l.map fun p => if p.1 = k then (p.1, d) else p) = l := by
                have : ∀ q ∈ l, ¬ q.1 = k := fun q hq e => hl (List.any_eq_true.mpr ⟨q, hq, decide_eq_true e⟩)
                calc (l.map fun p => if p.1 = k then (p.1, d) else p) = l.map id := List.map_congr_left fun q hq => by rw [if_neg (this q hq)]; rfl
                  _ = l := List.map_id l
              rw [e]
        · have h' : (l.any fun p => decide (p.1 = k)) = true := by simpa [hp] using h
          have := ih h'
          simp only [hp, if_false]
          by_cases hj : p.1 = j
          · have : ¬ j = k := fun e => hp (hj.trans e)
            simp [hj, this]
          · simp only [hj, decide_false]
            exact this
    exact key kvs h
  | false =>
    simp only [Bool.false_eq_true, if_false]
    unfold valM
    rw [List.find?_append]
    by_cases hj : j = k
    · subst hj
      have : kvs.find? (fun p => decide (p.1 = j)) = none := List.find?_eq_none.mpr fun p hp e => by
        have : hasM kvs j = true := List.any_eq_true.mpr ⟨p, hp, e⟩
        rw [h] at this; cases this
      rw [this]
      simp
    · have : ¬ k = j := fun e => hj e.symm
      simp only [hj, if_false]
      cases q : kvs.find? (fun p => decide (p.1 = j)) with
      | none => simp [this]
      | some p => simp
theorem putM_len {kvs : List (MD.MK × D)} {k : MD.MK} {d : D} : (putM kvs k d).length ≤ kvs.length + 1 := by
  unfold putM
  split
  · rw [List.length_map]; omega
  · simp
theorem putM_mem {kvs : List (MD.MK × D)} {k : MD.MK} {d : D} {p : MD.MK × D} (h : p ∈ putM kvs k d) : p = (k, d) ∨ p ∈ kvs := by
  unfold putM at h
  split at h
  · obtain ⟨q, hq, e⟩ := List.mem_map.mp h
    by_cases hk : q.1 = k
    · rw [if_pos hk] at e; left; rw [← e, hk]
    · rw [if_neg hk] at e; right; rw [← e]; exact hq
  · rcases List.mem_append.mp h with h | h
    · exact .inr h
    · exact .inl (List.mem_singleton.mp h)
theorem valM_mem {kvs : List (MD.MK × D)} {k : MD.MK} {d : D} (h : valM kvs k = some d) : (k, d) ∈ kvs := by
  unfold valM at h
  obtain ⟨p, e1, e2⟩ := omap h
  have h1 := List.find?_some e1
  have h2 := List.mem_of_find?_eq_some e1
  rw [← e2, ← of_decide_eq_true h1]
  exact h2
end G
set_option Elab.async false
set_option linter.all false
set_option maxRecDepth 100000
set_option maxHeartbeats 4000000
namespace G
open PySem L2 Mi
/-! ## boxes as data -/
def boxD (b : Box) : D := .tup [mkD b.1, .tup (b.2.map .int)]
def boxesD (bx : List Box) : D := .tup (bx.map boxD)
def keysD (ks : List Int) : D := .tup (ks.map .int)
def wtD (l : List Nat) : List D := l.map fun (b : Nat) => D.int (b : Int)
theorem enD_map (bx : List Box) (i : Nat) : (enD 0 (bx.map boxD))[i]? = bx[i]?.map fun b => D.tup [.int (i : Int), boxD b] := by
  rw [enD_at, List.getElem?_map]
  cases bx[i]? with
  | none => rfl
  | some b => simp
theorem bnds_wt (n : Nat) : ∀ l : List Nat, bnds n (wtD l) = true
  | [] => rfl
  | b :: l => by simp only [wtD, List.map_cons, bnds] at *; rw [show bnds n (l.map fun (b : Nat) => D.int (b : Int)) = true from bnds_wt n l]; rfl
/-- what waits for each key, so far -/
structure WO (n : Nat) (C : Hm) (f : Int → List Nat) (c : Nat) : Prop where
  ex : ∃ kvs, C[n]? = some (.dix kvs) ∧ kvs.length ≤ c ∧ (∀ p ∈ kvs, ∃ k, p.1 = .i k) ∧ (∀ k, valM kvs (.i k) = none → f k = []) ∧ (∀ k d, valM kvs (.i k) = some d → ∃ m, d = .cell m ∧ n < m ∧ C[m]? = some (.lst (wtD (f k)))) ∧ ∀ k j m, valM kvs (.i k) = some (.cell m) → valM kvs (.i j) = some (.cell m) → k = j
  few : ∀ k, (f k).length ≤ c
theorem wo_wt {n : Nat} {C : Hm} {f : Int → List Nat} {c : Nat} (w : WO n C f c) {C' : Hm} (h : ∀ k x, n ≤ k → C[k]? = some x → C'[k]? = some x) : WO n C' f c := by
  obtain ⟨kvs, e1, e2, e3, e4, e5, e6⟩ := w.ex
  exact ⟨⟨kvs, h n _ (Nat.le_refl _) e1, e2, e3, e4, fun k d hd => let ⟨m, q1, q2, q3⟩ := e5 k d hd; ⟨m, q1, q2, h m _ (by omega) q3⟩, e6⟩, w.few⟩
abbrev BKS : MS := (mDrop (mMeth "list" appendD (mMethX sdfD (mVar 1) (mCons (mVar 5) (mCons (mLst mNil) mNil))) (mCons (mVar 2) mNil)))
def addF (f : Int → List Nat) (k : Int) (b : Nat) : Int → List Nat := fun j => if j = k then f j ++ [b] else f j
theorem tyD_lst {C : Hm} {k : Nat} {ds : List D} (h : C[k]? = some (.lst ds)) : tyD "list" (.cell k) C = true := by simp [tyD, h]
theorem append_cell {C : Hm} {f : Nat} {ds : List D} {d : D} (hc : C[f]? = some (.lst ds)) (hl : ds.length < sizeLine) : appendD (.cell f) [d] C = some (.non, C.set f (.lst (ds ++ [d]))) := by
  unfold appendD
  simp only
  rw [hc]
  simp only
  rw [if_pos hl]
theorem bk_step {C0 C : Hm} {n : Nat} {f : Int → List Nat} {c b : Nat} {k : Int} {E : Ev} (P : Pr C0 C) (hn : C0.length ≤ n) (w : WO n C f c) (hc : c < 100000) (h1 : E[1]? = some (some (.cell n))) (h2 : E[2]? = some (some (.int b))) (h5 : E[5]? = some (some (.int k))) {Q : Out → Prop}
    (q : ∀ C', Pr C0 C' → WO n C' (addF f k b) (c + 1) → Q (.nx E C')) : wpo (BKS E C) Q := by
  have z := szL
  obtain ⟨kvs, e1, e2, e3, e4, e5, e6⟩ := w.ex
  have few' : ∀ j, (addF f k b j).length ≤ c + 1 := fun j => by
    have := w.few j
    unfold addF
    split
    · rw [List.length_append]; simp; omega
    · omega
  have hnl := (List.getElem?_eq_some_iff.mp e1).1
  refine wDrop (wMeth (wMethX (wVar h1 ⟨by simp only [mixOf, e1]; rfl, wCons (wVar h5 (wCons (wLst0 (wNil ?_))))⟩)))
  have e1' : (C ++ [Cell.lst []])[n]? = some (.dix kvs) := get_app e1
  have P1 : Pr C0 (C ++ [Cell.lst []]) := P.app rfl
  cases hv : valM kvs (.i k) with
  | some d =>
    obtain ⟨m, rfl, hm, hl⟩ := e5 k d hv
    have es : sdfD (.cell n) [.int k, .cell C.length] (C ++ [.lst []]) = some (.cell m, C ++ [.lst []]) := by
      unfold sdfD
      simp only [e1', mkOf, Option.bind_some]
      rw [if_pos (by omega), hv]
    have hl' : (C ++ [Cell.lst []])[m]? = some (.lst (wtD (f k))) := get_app hl
    refine wpo_eq es ⟨tyD_lst hl', wCons (wVar h2 (wNil (wpo_eq (append_cell hl' (by rw [wtD, List.length_map]; have := w.few k; omega)) ?_)))⟩
    have hml := (List.getElem?_eq_some_iff.mp hl').1
    have ew : wtD (f k) ++ [D.int b] = wtD (addF f k b k) := by simp [addF, wtD]
    rw [ew]
    refine q _ (P1.set (by omega) (bnds_wt _ _)) ⟨⟨kvs, get_set_ne e1' (by omega), by omega, e3, fun j hj => ?_, fun j d hd => ?_, e6⟩, few'⟩
    · have := e4 j hj
      unfold addF
      rw [if_neg (fun e => by subst e; rw [hv] at hj; cases hj)]
      exact this
    · obtain ⟨m', q1, q2, q3⟩ := e5 j d hd
      refine ⟨m', q1, q2, ?_⟩
      by_cases hj : j = k
      · subst hj
        rw [hv] at hd
        cases hd
        cases q1
        exact get_set_eq hl'
      · have : m ≠ m' := fun e => by
          subst e; subst q1
          exact hj (e6 j k m hd hv)
        rw [show addF f k b j = f j by unfold addF; rw [if_neg hj]]
        exact get_set_ne (get_app q3) this
  | none =>
    have es : sdfD (.cell n) [.int k, .cell C.length] (C ++ [.lst []]) = some (.cell C.length, (C ++ [Cell.lst []]).set n (.dix (putM kvs (.i k) (.cell C.length)))) := by
      unfold sdfD
      simp only [e1', mkOf, Option.bind_some]
      rw [if_pos (by omega), hv]
    have hne : n ≠ C.length := by omega
    have hl' : ((C ++ [Cell.lst []]).set n (.dix (putM kvs (.i k) (.cell C.length))))[C.length]? = some (.lst []) := get_set_ne (by simp) hne
    have bn : Cell.bnd (C ++ [Cell.lst []]).length (.dix (putM kvs (.i k) (.cell C.length))) = true := by
      simp only [Cell.bnd, List.all_eq_true]
      intro p hp
      rcases putM_mem hp with e | e
      · subst e; simp [D.bnd]
      · have wq := P1.wh _ (List.mem_of_getElem? e1')
        simp only [Cell.bnd, List.all_eq_true] at wq
        exact wq p e
    have P2 := P1.set (c := .dix (putM kvs (.i k) (.cell C.length))) hn bn
    refine wpo_eq es ⟨tyD_lst hl', wCons (wVar h2 (wNil (wpo_eq (append_cell hl' (by simp [z])) ?_)))⟩
    have fk : f k = [] := e4 k hv
    have ew : [] ++ [D.int b] = wtD (addF f k b k) := by simp [addF, wtD, fk]
    rw [ew]
    have hcl := P.len
    refine q _ (P2.set (by omega) (bnds_wt _ _)) ⟨⟨putM kvs (.i k) (.cell C.length), get_set_ne (get_set_eq e1') (by omega), by have := putM_len (kvs := kvs) (k := .i k) (d := D.cell C.length); omega, fun p hp => ?_, fun j hj => ?_, fun j d hd => ?_, fun j j' m h1 h2 => ?_⟩, few'⟩
    · rcases putM_mem hp with e | e
      · exact ⟨k, by rw [e]⟩
      · exact e3 p e
    · rw [valM_put] at hj
      have hjk : ¬ j = k := fun e => by subst e; simp at hj
      have : ¬ (MD.MK.i j = MD.MK.i k) := fun e => hjk (by cases e; rfl)
      rw [if_neg this] at hj
      unfold addF
      rw [if_neg hjk]
      exact e4 j hj
    · rw [valM_put] at hd
      by_cases hjk : j = k
      · subst hjk
        simp at hd
        subst hd
        exact ⟨C.length, rfl, by omega, get_set_eq hl'⟩
      · have : ¬ (MD.MK.i j = MD.MK.i k) := fun e => hjk (by cases e; rfl)
        rw [if_neg this] at hd
        obtain ⟨m', q1, q2, q3⟩ := e5 j d hd
        have hm' := (List.getElem?_eq_some_iff.mp q3).1
        refine ⟨m', q1, q2, ?_⟩
        rw [show addF f k b j = f j by unfold addF; rw [if_neg hjk]]
        exact get_set_ne (get_set_ne (get_app q3) (by omega)) (by omega)
    · rw [valM_put] at h1 h2
      have old : ∀ {i : Int}, valM kvs (.i i) = some (.cell m) → m ≠ C.length := fun {i} h e => by
        obtain ⟨m', q1, q2, q3⟩ := e5 i _ h
        cases q1
        have := (List.getElem?_eq_some_iff.mp q3).1
        omega
      by_cases hj : j = k
      · by_cases hj' : j' = k
        · rw [hj, hj']
        · have n1 : ¬ (MD.MK.i j' = MD.MK.i k) := fun e => hj' (by cases e; rfl)
          rw [if_neg n1] at h2
          subst hj
          simp at h1
          exact absurd h1.symm (old h2)
      · have n1 : ¬ (MD.MK.i j = MD.MK.i k) := fun e => hj (by cases e; rfl)
        rw [if_neg n1] at h1
        by_cases hj' : j' = k
        · subst hj'
          simp at h2
          exact absurd h2.symm (old h1)
        · have n2 : ¬ (MD.MK.i j' = MD.MK.i k) := fun e => hj' (by cases e; rfl)
          rw [if_neg n2] at h2
          exact e6 j j' m h1 h2
/-- how many keys the boxes need -/
def needs (bx : List Box) : Nat := (bx.map fun b => b.2.length).sum
def upto (bx : List Box) (b : Nat) (k : Int) : List Nat := (List.range b).flatMap fun c => List.replicate ((bx.getD c (.i 0, [])).2.count k) c
theorem upto_succ {bx : List Box} {b : Nat} {k : Int} : upto bx (b + 1) k = upto bx b k ++ List.replicate ((bx.getD b (.i 0, [])).2.count k) b := by
  unfold upto; rw [List.range_succ, List.flatMap_append]; simp
theorem needs_take {bx : List Box} {b : Nat} (h : b < bx.length) : needs (bx.take (b + 1)) = needs (bx.take b) + bx[b].2.length := by
  unfold needs; rw [List.take_succ_eq_append_getElem h, List.map_append, List.sum_append, List.map_cons, List.map_nil, List.sum_cons, List.sum_nil, Nat.add_zero]
theorem needs_le {bx : List Box} {b : Nat} : needs (bx.take b) ≤ needs bx := by
  have e : needs bx = needs (bx.take b) + needs (bx.drop b) := by
    unfold needs
    rw [← List.sum_append, ← List.map_append, List.take_append_drop]
  omega
theorem boxes_by_key_ok {C : Hm} (W : WH C) {bx : List Box} (hb : needs bx < 100000) : wpo (M_boxes_by_key [boxesD bx] C) fun r => ∃ C', r = (.cell C.length, C') ∧ Pr C C' ∧ WO C.length C' (waitsI bx) (needs bx) := by
  refine wFn rfl (show wpo (B_boxes_by_key [some (boxesD bx), none, none, none, none, none] C) _ from ?_)
  refine wSeq (wAsg (wNewX ?_))
  refine wSeq (wForE (wCons (wVar rfl (wNil ⟨bx.map boxD, rfl, ?_⟩))))
  refine for_at (enD 0 (bx.map boxD)) (fun i E C' => ∃ x2 x3 x4 x5, E = [some (boxesD bx), some (.cell C.length), x2, x3, x4, x5] ∧ Pr C C' ∧ WO C.length C' (upto bx i) (needs (bx.take i)) ∧ i ≤ bx.length) (fun _ _ _ _ => rfl) ?_ ?_ _ 0 _ _ (by simp) ⟨none, none, none, none, rfl, (Pr.refl W).app rfl, ⟨⟨[], by simp, by simp, by simp, (fun k _ => rfl), (fun k d h => by cases h), (fun k j m h => by cases h)⟩, fun k => by simp [upto]⟩, Nat.zero_le _⟩
  · rintro i x E C1 hx ⟨x2, x3, x4, x5, rfl, P, w, hi⟩
    rw [enD_map] at hx
    obtain ⟨b, eb, rfl⟩ := omap hx
    obtain ⟨hil, ebi⟩ := List.getElem?_eq_some_iff.mp eb
    refine wpo_eq (show (gT 2 (gsCons (gN 2) (gsCons (gT 2 (gsCons (gN 3) (gsCons (gN 4) gsNil))) gsNil))) (D.tup [.int (i : Int), boxD b]) [some (boxesD bx), some (.cell C.length), x2, x3, x4, x5] = some [some (boxesD bx), some (.cell C.length), some (.int (i : Int)), some (mkD b.1), some (.tup (b.2.map .int)), x5] from rfl) ?_
    refine wForA (wVar rfl ⟨_, rfl, ?_⟩)
    have gd : bx.getD i (.i 0, []) = b := by simp [hil, ebi]
    refine for_at (b.2.map D.int) (fun j E C' => ∃ y5, E = [some (boxesD bx), some (.cell C.length), some (.int (i : Int)), some (mkD b.1), some (.tup (b.2.map .int)), y5] ∧ Pr C C' ∧ WO C.length C' (fun k => upto bx i k ++ List.replicate ((b.2.take j).count k) i) (needs (bx.take i) + j) ∧ j ≤ b.2.length) (fun _ _ _ _ => rfl) ?_ ?_ _ 0 _ _ (by simp) ⟨x5, rfl, P, by simpa using w, Nat.zero_le _⟩
    · rintro j y E C2 hy ⟨y5, rfl, P2, w2, hj⟩
      rw [List.getElem?_map] at hy
      obtain ⟨k, ek, rfl⟩ := omap hy
      obtain ⟨hjl, ekj⟩ := List.getElem?_eq_some_iff.mp ek
      have tot := needs_take hil
      have le := needs_le (bx := bx) (b := i + 1)
      rw [ebi] at tot
      refine wpo_eq (show gN 5 (D.int k) [some (boxesD bx), some (.cell C.length), some (.int (i : Int)), some (mkD b.1), some (.tup (b.2.map .int)), y5] = some [some (boxesD bx), some (.cell C.length), some (.int (i : Int)), some (mkD b.1), some (.tup (b.2.map .int)), some (.int k)] from rfl) ?_
      refine bk_step (b := i) (k := k) P2 (Nat.le_refl _) w2 (by omega) rfl rfl rfl fun C3 P3 w3 => ⟨_, rfl, P3, ?_, hjl⟩
      have ef : addF (fun k => upto bx i k ++ List.replicate ((b.2.take j).count k) i) k i = fun k => upto bx i k ++ List.replicate ((b.2.take (j + 1)).count k) i := by
        funext k'
        unfold addF
        rw [List.take_succ_eq_append_getElem hjl, ekj, List.count_append]
        by_cases e : k' = k
        · subst e
          rw [if_pos rfl, List.append_assoc]
          congr 1
          rw [List.count_singleton, if_pos (by simp), List.replicate_succ']
        · rw [if_neg e, List.count_singleton]
          have : (k == k') = false := by simp; exact fun e' => e e'.symm
          rw [this]
          simp
      rw [ef] at w3
      exact w3
    · rintro E C2 ⟨y5, rfl, P2, w2, _⟩
      refine ⟨_, _, _, _, rfl, P2, ?_, hil⟩
      have ef : (fun k => upto bx i k ++ List.replicate ((b.2.take (b.2.map D.int).length).count k) i) = upto bx (i + 1) := by
        funext k
        rw [upto_succ, gd, List.length_map, List.take_length]
      rw [ef] at w2
      rw [needs_take hil, ebi]
      simpa using w2
  · rintro E C1 ⟨x2, x3, x4, x5, rfl, P, w, hi⟩
    have el : (enD 0 (bx.map boxD)).length = bx.length := by
      have key : ∀ (k : Int) (l : List D), (enD k l).length = l.length := by
        intro k l
        induction l generalizing k with
        | nil => rfl
        | cons d l ih => simp [enD, ih]
      rw [key]; simp
    rw [el] at w
    refine wRet (wVar rfl ⟨_, _, rfl, C1, rfl, P, ?_⟩)
    rw [List.take_length] at w
    exact w
end G
set_option Elab.async false
set_option linter.all false
set_option maxRecDepth 100000
set_option maxHeartbeats 4000000
namespace G
open PySem L2 Mi
def OkT : Th → Prop
  | .i k => 0 ≤ k
  | .t ks => ∃ (s : Str) (i : Int), ks = [.inr s, .inl i] ∧ kName (.str s) = true ∧ PyData.strOk s = true ∧ 0 ≤ i
theorem mkOf_mkD {x : Th} (h : OkT x) : mkOf (mkD x) = some x := by
  cases x with
  | i k => rfl
  | t ks =>
    obtain ⟨s, i, rfl, _, hs, _⟩ := h
    have e : [Sum.inr s, (Sum.inl i : Key)].all MD.partOk = true := by simp [MD.partOk, hs]
    show ((List.mapM partK (List.map partD [Sum.inr s, Sum.inl i])).bind fun ks => if ks.all MD.partOk = true then some (MD.MK.t ks) else none) = _
    rw [show List.mapM partK (List.map partD [Sum.inr s, Sum.inl i]) = some [Sum.inr s, Sum.inl i] from rfl]
    simp only [Option.bind_some]
    rw [if_pos e]
theorem mkD_bnd (x : Th) (n : Nat) : (mkD x).bnd n = true := by
  cases x with
  | i k => rfl
  | t ks =>
    show bnds n (ks.map partD) = true
    induction ks with
    | nil => rfl
    | cons k ks ih =>
      simp only [List.map_cons, bnds, ih, Bool.and_true]
      cases k <;> rfl
def tr : D := .bl true
abbrev setD (qu : List Th) : List (MD.MK × D) := qu.map fun x => (x, tr)
theorem hasM_set (qu : List Th) (x : Th) : hasM (setD qu) x = decide (x ∈ qu) := by
  unfold hasM
  rw [List.any_map]
  induction qu with
  | nil => rfl
  | cons y qu ih =>
    rw [List.any_cons, ih]
    by_cases e : y = x
    · subst e; simp
    · have : ¬ x = y := fun z => e z.symm
      simp [e, this]
theorem putM_set {qu : List Th} {x : Th} (h : x ∉ qu) : putM (setD qu) x tr = setD (qu ++ [x]) := by
  unfold putM
  rw [hasM_set, decide_eq_false h]
  simp
/-- {k: True for k in keys} -/
theorem dc_keys {me : ME} {i : Nat} {E : Ev} {C : Hm} {ks : List Int} (he : me E C = some (keysD ks, C)) (nd : ks.Nodup) (hi : i < E.length) (hl : ks.length ≤ 1000) :
    mDc (mIAny me) (gN i) mYes (mVar i) (mC (.bl true)) [i] E C = some (.cell C.length, C ++ [.dix (setD (ks.map .i))]) := by
  have z := szL
  have loop : ∀ (n j : Nat), j + n = ks.length → dcLoop (.seq (ks.map D.int)) (gN i) mYes (mVar i) (mC (.bl true)) (wipeE E [i]) (n + 1) j ((ks.take j).map fun k => ((Sum.inl k : Key), tr)) C = some (ks.map fun k => ((Sum.inl k : Key), tr), C) := by
    intro n
    induction n with
    | zero =>
      intro j hj
      unfold dcLoop
      have : (ks.map D.int)[j]? = none := List.getElem?_eq_none (by simp; omega)
      simp only [Itm.at, Option.bind_some, this]
      rw [List.take_of_length_le (by omega)]
    | succ n ih =>
      intro j hj
      have hjl : j < ks.length := by omega
      have e1 : (ks.map D.int)[j]? = some (.int ks[j]) := by simp [hjl]
      unfold dcLoop
      simp only [Itm.at, Option.bind_some, e1, gN, mYes, if_true]
      have wl : i < (wipeE E [i]).length := by show i < (List.set E i none).length; simpa using hi
      rw [show mVar i ((wipeE E [i]).set i (some (D.int ks[j]))) C = some (.int ks[j], C) from set_get wl]
      simp only [Option.bind_some, keyD, mC]
      rw [if_pos (by simp; omega)]
      have ep : putD ((ks.take j).map fun k => ((Sum.inl k : Key), tr)) (Sum.inl ks[j]) (.bl true) = (ks.take (j + 1)).map fun k => ((Sum.inl k : Key), tr) := by
        have nv : valD ((ks.take j).map fun k => ((Sum.inl k : Key), tr)) (Sum.inl ks[j]) = none := by
          unfold valD
          rw [List.find?_eq_none.mpr]
          · rfl
          · intro p hp
            obtain ⟨k, hk, rfl⟩ := List.mem_map.mp hp
            intro e
            have e := of_decide_eq_true e
            have e : k = ks[j] := by cases e; rfl
            have hin : ks[j] ∈ ks.drop j := by rw [List.drop_eq_getElem_cons hjl]; exact List.mem_cons_self
            rw [← List.take_append_drop j ks, List.nodup_append] at nd
            exact nd.2.2 k hk _ hin e
        unfold putD
        rw [nv, List.take_succ_eq_append_getElem hjl, List.map_append]
        rfl
      rw [ep]
      exact ih (j + 1) (by omega)
  unfold mDc mIAny
  rw [he]
  simp only [Option.bind_some, keysD, iAnyD]
  have l0 := loop ks.length 0 (by omega)
  simp only [List.take_zero, List.map_nil] at l0
  rw [show (ks.map D.int).length = ks.length from List.length_map ..]
  rw [l0]
  simp only [Option.bind_some]
  have all : (ks.map fun k => ((Sum.inl k : Key), tr)).all (fun p => isI p.1) = true := by
    rw [List.all_eq_true]; intro p hp
    obtain ⟨k, _, rfl⟩ := List.mem_map.mp hp
    rfl
  rw [if_pos all]
  simp only [List.map_map]
  rfl
theorem list_dix {C : Hm} {n : Nat} {qu : List Th} (h : C[n]? = some (.dix (setD qu))) : listDX [.cell n] C = some (.cell C.length, C ++ [.lst (qu.map mkD)]) := by
  have e : mixOf C (.cell n) = some (setD qu) := by unfold mixOf; simp only [h]
  unfold listDX
  simp only [e]
  rw [List.map_map]
  rfl
/-! ## the loop -/
abbrev DEC : MS := (mPutA getL0 (int0D fun i j => i - j) setX (mVar 3) (mVar 12) (mC (.int 1)))
abbrev GOALX : ME := (mBin ixD (mBin ixD (mVar 1) (mVar 12)) (mC (.int 0)))
abbrev NEWX : MS := (mIfS (tAndM (mTest (mBin dEq (mBin ixD (mVar 3) (mVar 12)) (mC (.int 0)))) (mTest (mBin (inX true) GOALX (mVar 6)))) (mSeq (mPut setX (mC (.bl true)) (mVar 6) GOALX) (mSeq (mDrop (mMeth "list" appendD (mVar 8) (mCons GOALX mNil))) (mDrop (mMeth "list" appendD (mVar 9) (mCons (mVar 12) mNil))))) mNext)
structure LI (bx : List Box) (keys : List Int) (q0 : List Th) (C1 : Hm) (n : Nat) (R : List Nat) (C : Hm) (ms : List Int) (qu : List Th) (od : List Nat) : Prop where
  oi : OI bx keys q0 n R ms qu od
  pr : Pr C1 C
  c2 : C[C1.length]? = some (.lst (ms.map .int))
  c3 : C[C1.length + 1]? = some (.dix (setD qu))
  c4 : C[C1.length + 2]? = some (.lst (qu.map mkD))
  c5 : C[C1.length + 3]? = some (.lst (wtD od))
def EL (ks : List Int) (bx : List Box) (n1 : Nat) (C1 : Hm) (n : Nat) (x4 x5 x7 x11 x12 : Option D) : Ev :=
  [some (keysD ks), some (boxesD bx), some (.cell n1), some (.cell C1.length), x4, x5, some (.cell (C1.length + 1)), x7, some (.cell (C1.length + 2)), some (.cell (C1.length + 3)), some (.int (n : Int)), x11, x12]
theorem atI_nat {α : Type} {l : List α} {b : Nat} {x : α} (h : l[b]? = some x) : atI l (b : Int) = some x := by
  have hl := (List.getElem?_eq_some_iff.mp h).1
  unfold atI ixN
  rw [if_pos (by omega), if_pos (by omega)]
  simpa using h
theorem goalX_at {ks : List Int} {bx : List Box} {n1 n : Nat} {C1 C : Hm} {x4 x5 x7 x11 : Option D} {b : Nat} (h : b < bx.length) : GOALX (EL ks bx n1 C1 n x4 x5 x7 x11 (some (.int (b : Int)))) C = some (mkD (goalOf bx b), C) := by
  have e1 : (bx.map boxD)[b]? = some (boxD bx[b]) := by simp [h]
  have e2 : mBin ixD (mVar 1) (mVar 12) (EL ks bx n1 C1 n x4 x5 x7 x11 (some (.int (b : Int)))) C = some (boxD bx[b], C) := by
    show ixD (boxesD bx) (.int (b : Int)) C = _
    unfold ixD boxesD
    simp only
    rw [atI_nat e1]; rfl
  unfold GOALX
  rw [show mBin ixD (mBin ixD (mVar 1) (mVar 12)) (mC (.int 0)) (EL ks bx n1 C1 n x4 x5 x7 x11 (some (.int (b : Int)))) C = ixD (boxD bx[b]) (.int 0) C by unfold mBin at e2 ⊢; rw [e2]; rfl]
  rw [goalOf_at h]
  unfold ixD boxD
  simp only
  rw [show atI [mkD bx[b].1, D.tup (bx[b].2.map .int)] 0 = some (mkD bx[b].1) from rfl]
  rfl
section
variable {ks keys : List Int} {bx : List Box} {q0 : List Th} {C1 C : Hm} {n1 n na b : Nat} {R : List Nat} {ms : List Int} {qu : List Th} {od : List Nat} {x4 x5 x7 x11 : Option D}
theorem li_step (L : LI bx keys q0 C1 n (b :: R) C ms qu od) (ok : OkT (goalOf bx b)) (hq : q0.length + bx.length ≤ 5000) {m0 : Nat} {ds : List D} (hm : C[m0]? = some (.lst ds)) (h2 : m0 ≠ C1.length) (h3 : m0 ≠ C1.length + 1) (h4 : m0 ≠ C1.length + 2) (h5 : m0 ≠ C1.length + 3) {Q : Out → Prop}
    (k : ∀ C' ms' qu' od', LI bx keys q0 C1 n R C' ms' qu' od' → C'[m0]? = some (.lst ds) → Q (.nx (EL ks bx n1 C1 na x4 x5 x7 x11 (some (.int (b : Int)))) C')) : wpo (mSeq DEC NEWX (EL ks bx n1 C1 na x4 x5 x7 x11 (some (.int (b : Int)))) C) Q := by
  have z := szL
  have hb := L.oi.rlt b (by simp)
  obtain ⟨m, hmv⟩ := oi_val L.oi
  obtain ⟨l1, l2⟩ := oi_len L.oi
  have hbl : b < ms.length := (List.getElem?_eq_some_iff.mp hmv).1
  have a1 : (ms.map D.int)[b]? = some (.int ((m : Int) + 1)) := by rw [List.getElem?_map, hmv]; rfl
  -- the count goes down
  have e1 : DEC (EL ks bx n1 C1 na x4 x5 x7 x11 (some (.int (b : Int)))) C = some (.nx (EL ks bx n1 C1 na x4 x5 x7 x11 (some (.int (b : Int)))) (C.set C1.length (.lst ((ms.set b (m : Int)).map .int)))) := by
    have g1 : getL0 (.cell C1.length) (.int (b : Int)) C = some (.int ((m : Int) + 1), C) := by
      unfold getL0
      simp only [L.c2]
      rw [if_pos (by omega), show ((b : Int)).toNat = b from rfl, a1]; rfl
    have g2 : setX (.cell C1.length) (.int (b : Int)) (.int (((m : Int) + 1) - 1)) C = some (C.set C1.length (.lst ((ms.set b (m : Int)).map .int))) := by
      unfold setX
      simp only [L.c2]
      have : ixN (ms.map D.int).length (b : Int) = some b := by
        unfold ixN
        rw [if_pos (by omega), if_pos (by simp; omega)]
        simp
      rw [this]
      simp only [Option.map_some]
      rw [show (m : Int) + 1 - 1 = (m : Int) by omega, List.map_set]
    unfold DEC mPutA
    rw [show mVar 3 (EL ks bx n1 C1 na x4 x5 x7 x11 (some (.int (b : Int)))) C = some (.cell C1.length, C) from rfl]
    simp only [Option.bind_some]
    rw [show mVar 12 (EL ks bx n1 C1 na x4 x5 x7 x11 (some (.int (b : Int)))) C = some (.int (b : Int), C) from rfl]
    simp only [Option.bind_some]
    rw [g1]
    simp only [Option.bind_some, mC, int0D]
    rw [g2]
    rfl
  refine wSeq (wpo_eq e1 ?_)
  have P2 : Pr C1 (C.set C1.length (.lst ((ms.set b (m : Int)).map .int))) := L.pr.set (Nat.le_refl _) (by
    refine bnds_iff.mpr fun x hx => ?_
    obtain ⟨i, _, rfl⟩ := List.mem_map.mp hx
    rfl)
  have hm2 : (C.set C1.length (.lst ((ms.set b (m : Int)).map .int)))[m0]? = some (.lst ds) := get_set_ne hm (fun e => h2 e.symm)
  have d2 : (C.set C1.length (.lst ((ms.set b (m : Int)).map .int)))[C1.length]? = some (.lst ((ms.set b (m : Int)).map .int)) := get_set_eq L.c2
  have d3 : (C.set C1.length (.lst ((ms.set b (m : Int)).map .int)))[C1.length + 1]? = some (.dix (setD qu)) := get_set_ne L.c3 (by omega)
  have d4 : (C.set C1.length (.lst ((ms.set b (m : Int)).map .int)))[C1.length + 2]? = some (.lst (qu.map mkD)) := get_set_ne L.c4 (by omega)
  have d5 : (C.set C1.length (.lst ((ms.set b (m : Int)).map .int)))[C1.length + 3]? = some (.lst (wtD od)) := get_set_ne L.c5 (by omega)
  generalize hC2 : C.set C1.length (.lst ((ms.set b (m : Int)).map .int)) = C2 at P2 hm2 d2 d3 d4 d5 ⊢
  have a2 : ((ms.set b (m : Int)).map D.int)[b]? = some (.int (m : Int)) := by rw [List.getElem?_map, List.getElem?_set_self hbl]; rfl
  have x1 : mBin ixD (mVar 3) (mVar 12) (EL ks bx n1 C1 na x4 x5 x7 x11 (some (.int (b : Int)))) C2 = some (.int (m : Int), C2) := by
    show ixD (.cell C1.length) (.int (b : Int)) C2 = _
    unfold ixD
    simp only [d2]
    rw [atI_nat a2]; rfl
  have x2 : inX true (mkD (goalOf bx b)) (.cell (C1.length + 1)) C2 = some (.bl (!decide (goalOf bx b ∈ qu)), C2) := by
    have e : mixOf C2 (.cell (C1.length + 1)) = some (setD qu) := by unfold mixOf; simp only [d3]
    unfold inX
    simp only [e, mkOf_mkD ok, Option.map_some, if_true, hasM_set]
  have old : (m = 0 → goalOf bx b ∈ qu) → Q (.nx (EL ks bx n1 C1 na x4 x5 x7 x11 (some (.int (b : Int)))) C2) := fun hz => k C2 _ qu od ⟨oi_dec L.oi hmv hz, P2, d2, d3, d4, d5⟩ hm2
  refine wIfS (wAndT (wTst (wBin (wpo_eq x1 (wC (wpo_eq eq_int ⟨_, rfl, ?_⟩))))))
  by_cases hz : m = 0
  · have : ((m : Int) == 0) = true := by simp [hz]
    rw [this]
    simp only [if_true]
    refine wTst (wBin (wpo_eq (goalX_at hb) (wVar rfl (wpo_eq x2 ⟨_, rfl, ?_⟩))))
    by_cases hg : goalOf bx b ∈ qu
    · rw [decide_eq_true hg]
      simp only [Bool.not_true, Bool.false_eq_true, if_false]
      exact wpo_eq rfl (old fun _ => hg)
    · rw [decide_eq_false hg]
      simp only [Bool.not_false, if_true]
      have ms0 : (m : Int) = 0 := by omega
      have s1 : mPut setX (mC (.bl true)) (mVar 6) GOALX (EL ks bx n1 C1 na x4 x5 x7 x11 (some (.int (b : Int)))) C2 = some (.nx (EL ks bx n1 C1 na x4 x5 x7 x11 (some (.int (b : Int)))) (C2.set (C1.length + 1) (.dix (setD (qu ++ [goalOf bx b]))))) := by
        have g : setX (.cell (C1.length + 1)) (mkD (goalOf bx b)) (.bl true) C2 = some (C2.set (C1.length + 1) (.dix (setD (qu ++ [goalOf bx b])))) := by
          unfold setX
          simp only [d3, mkOf_mkD ok, Option.bind_some]
          rw [if_pos (by simp; omega), show putM (setD qu) (goalOf bx b) (.bl true) = _ from putM_set hg]
        unfold mPut
        simp only [mC, Option.bind_some]
        rw [show mVar 6 (EL ks bx n1 C1 na x4 x5 x7 x11 (some (.int (b : Int)))) C2 = some (.cell (C1.length + 1), C2) from rfl]
        simp only [Option.bind_some]
        rw [goalX_at hb]
        simp only [Option.bind_some]
        rw [g]; rfl
      refine wSeq (wpo_eq s1 ?_)
      have P3 : Pr C1 (C2.set (C1.length + 1) (.dix (setD (qu ++ [goalOf bx b])))) := P2.set (by omega) (by
        simp only [Cell.bnd, List.all_eq_true]
        intro p hp
        obtain ⟨y, _, rfl⟩ := List.mem_map.mp hp
        rfl)
      have f2 := get_set_ne (x := .dix (setD (qu ++ [goalOf bx b]))) d2 (show C1.length + 1 ≠ C1.length by omega)
      have f3 := get_set_eq (x := .dix (setD (qu ++ [goalOf bx b]))) d3
      have f4 := get_set_ne (x := .dix (setD (qu ++ [goalOf bx b]))) d4 (show C1.length + 1 ≠ C1.length + 2 by omega)
      have f5 := get_set_ne (x := .dix (setD (qu ++ [goalOf bx b]))) d5 (show C1.length + 1 ≠ C1.length + 3 by omega)
      have fm := get_set_ne (x := .dix (setD (qu ++ [goalOf bx b]))) hm2 (fun e => h3 e.symm)
      generalize hC3 : C2.set (C1.length + 1) (.dix (setD (qu ++ [goalOf bx b]))) = C3 at P3 f2 f3 f4 f5 fm ⊢
      refine wSeq (wDrop (wMeth (wVar rfl ⟨tyD_lst f4, wCons (wpo_eq (goalX_at hb) (wNil (wpo_eq (append_cell f4 (by simp; omega)) ?_)))⟩)))
      have P4 : Pr C1 (C3.set (C1.length + 2) (.lst (qu.map mkD ++ [mkD (goalOf bx b)]))) := P3.set (by omega) (bnds_iff.mpr fun x hx => by
        rcases List.mem_append.mp hx with hx | hx
        · obtain ⟨y, _, rfl⟩ := List.mem_map.mp hx
          exact mkD_bnd _ _
        · rw [List.mem_singleton.mp hx]; exact mkD_bnd _ _)
      have g2 := get_set_ne (x := .lst (qu.map mkD ++ [mkD (goalOf bx b)])) f2 (show C1.length + 2 ≠ C1.length by omega)
      have g3 := get_set_ne (x := .lst (qu.map mkD ++ [mkD (goalOf bx b)])) f3 (show C1.length + 2 ≠ C1.length + 1 by omega)
      have g4 := get_set_eq (x := .lst (qu.map mkD ++ [mkD (goalOf bx b)])) f4
      have g5 := get_set_ne (x := .lst (qu.map mkD ++ [mkD (goalOf bx b)])) f5 (show C1.length + 2 ≠ C1.length + 3 by omega)
      have gm := get_set_ne (x := .lst (qu.map mkD ++ [mkD (goalOf bx b)])) fm (fun e => h4 e.symm)
      generalize hC4 : C3.set (C1.length + 2) (.lst (qu.map mkD ++ [mkD (goalOf bx b)])) = C4 at P4 g2 g3 g4 g5 gm ⊢
      refine wDrop (wMeth (wVar rfl ⟨tyD_lst g5, wCons (wVar rfl (wNil (wpo_eq (append_cell g5 (by simp [wtD]; omega)) ?_)))⟩))
      have ew : wtD od ++ [D.int (b : Int)] = wtD (od ++ [b]) := by simp [wtD]
      rw [ew]
      refine k _ _ _ _ ⟨oi_new L.oi (by simpa [hz] using hmv) hg, P4.set (by omega) (bnds_wt _ _), ?_, ?_, ?_, get_set_eq g5⟩ (get_set_ne gm fun e => h5 e.symm)
      · have := get_set_ne (x := .lst (wtD (od ++ [b]))) g2 (show C1.length + 3 ≠ C1.length by omega)
        rw [ms0] at this
        exact this
      · exact get_set_ne g3 (by omega)
      · have := get_set_ne (x := .lst (wtD (od ++ [b]))) g4 (show C1.length + 3 ≠ C1.length + 2 by omega)
        rw [List.map_append]; exact this
  · have : ((m : Int) == 0) = false := by simp [hz]
    rw [this]
    simp only [Bool.false_eq_true, if_false]
    exact wpo_eq rfl (old fun e => absurd e hz)
end
end G
set_option Elab.async false
set_option linter.all false
set_option maxRecDepth 100000
set_option maxHeartbeats 4000000
namespace G
open PySem L2 Mi
/-! ## the walk over the queue -/
abbrev BODYX : MS := (mSeq (mAsg (mBin ixD (mVar 8) (mVar 10)) (gN 11))
    (mSeq (mFor (mIAny (mMethX get2D (mVar 2) (mCons (mVar 11) (mCons (mLst mNil) mNil)))) (gN 12) (mSeq DEC NEWX))
    (mAug 10 (int0D fun i j => i + j) (mC (.int 1)))))
abbrev CONDX : MT := (mTest (mBin dLt (mVar 10) (mCallB lenD (mCons (mVar 8) mNil))))
section
variable {ks keys : List Int} {bx : List Box} {q0 : List Th} {C1 : Hm} {n1 cnt : Nat}
theorem body_ok {n : Nat} {C : Hm} {ms : List Int} {qu : List Th} {od : List Nat} {x4 x5 x7 x11 x12 : Option D} {x : Th} (L : LI bx keys q0 C1 n [] C ms qu od) (hx : qu[n]? = some x) (okx : OkT x) (okg : ∀ b ∈ bx, OkT b.1) (hq : q0.length + bx.length ≤ 5000) (hn1 : n1 < C1.length) (w : WO n1 C1 (waitsI bx) cnt) {Q : Out → Prop}
    (k : ∀ C' ms' qu' od' x11 x12, LI bx keys q0 C1 (n + 1) [] C' ms' qu' od' → Q (.nx (EL ks bx n1 C1 (n + 1) x4 x5 x7 x11 x12) C')) : wpo (BODYX (EL ks bx n1 C1 n x4 x5 x7 x11 x12) C) Q := by
  have a1 : (qu.map mkD)[n]? = some (mkD x) := by rw [List.getElem?_map, hx]; rfl
  have e1 : ixD (.cell (C1.length + 2)) (.int (n : Int)) C = some (mkD x, C) := by
    unfold ixD; simp only [L.c4]; rw [atI_nat a1]; rfl
  refine wSeq (wAsg (wBin (wVar rfl (wVar rfl (wpo_eq e1 ?_)))))
  show wpo (mSeq (mFor (mIAny (mMethX get2D (mVar 2) (mCons (mVar 11) (mCons (mLst mNil) mNil)))) (gN 12) (mSeq DEC NEWX)) (mAug 10 (int0D fun i j => i + j) (mC (.int 1))) (EL ks bx n1 C1 n x4 x5 x7 (some (mkD x)) x12) C) Q
  obtain ⟨kvs, w1, w2, w3, w4, w5, w6⟩ := w.ex
  have L1 := oi_take L.oi hx
  have P1 : Pr C1 (C ++ [Cell.lst []]) := L.pr.app rfl
  have g1 : (C ++ [Cell.lst []])[n1]? = some (.dix kvs) := get_app (L.pr.get w1)
  have LT : ∀ R, OI bx keys q0 (n + 1) R ms qu od → LI bx keys q0 C1 (n + 1) R (C ++ [Cell.lst []]) ms qu od := fun R o => ⟨o, P1, get_app L.c2, get_app L.c3, get_app L.c4, get_app L.c5⟩
  have c5l := (List.getElem?_eq_some_iff.mp L.c5).1
  -- the list that is walked
  have walk : ∃ m0, wpo (mMethX get2D (mVar 2) (mCons (mVar 11) (mCons (mLst mNil) mNil)) (EL ks bx n1 C1 n x4 x5 x7 (some (mkD x)) x12) C) (fun r => r = (.cell m0, C ++ [.lst []])) ∧ (C ++ [Cell.lst []])[m0]? = some (.lst (wtD (waits bx x))) ∧ m0 ≠ C1.length ∧ m0 ≠ C1.length + 1 ∧ m0 ≠ C1.length + 2 ∧ m0 ≠ C1.length + 3 := by
    have go : ∀ {m0}, (valM kvs x).getD (.cell C.length) = .cell m0 → wpo (mMethX get2D (mVar 2) (mCons (mVar 11) (mCons (mLst mNil) mNil)) (EL ks bx n1 C1 n x4 x5 x7 (some (mkD x)) x12) C) (fun r => r = (.cell m0, C ++ [.lst []])) := fun {m0} h => by
      refine wMethX (wVar rfl ⟨by simp only [mixOf, L.pr.get w1]; rfl, wCons (wVar rfl (wCons (wLst0 (wNil ?_))))⟩)
      have e : mixOf (C ++ [Cell.lst []]) (.cell n1) = some kvs := by unfold mixOf; simp only [g1]
      refine wpo_eq (x := (.cell m0, C ++ [.lst []])) ?_ rfl
      unfold get2D
      simp only [e, Option.bind_some, mkOf_mkD okx, Option.map_some, h]
    cases hv : valM kvs x with
    | none =>
      refine ⟨C.length, go (by rw [hv]; rfl), ?_, by omega, by omega, by omega, by omega⟩
      have : waits bx x = [] := by
        cases x with
        | t _ => rfl
        | i k => exact w4 k hv
      rw [this]; simp [wtD]
    | some d =>
      cases x with
      | t ts => obtain ⟨k, e⟩ := w3 _ (valM_mem hv); cases e
      | i k =>
        obtain ⟨m, rfl, hm, hl⟩ := w5 k d hv
        have := (List.getElem?_eq_some_iff.mp hl).1
        exact ⟨m, go (by rw [hv]; rfl), get_app (L.pr.get hl), by omega, by omega, by omega, by omega⟩
  obtain ⟨m0, hw, hm0, h2, h3, h4, h5⟩ := walk
  refine wSeq (wForC (wpo_mono hw ?_))
  rintro _ rfl
  refine ⟨m0, _, rfl, hm0, ?_⟩
  refine for_at (wtD (waits bx x)) (fun i E C' => ∃ ms' qu' od' y12, E = EL ks bx n1 C1 n x4 x5 x7 (some (mkD x)) y12 ∧ LI bx keys q0 C1 (n + 1) ((waits bx x).drop i) C' ms' qu' od' ∧ C'[m0]? = some (.lst (wtD (waits bx x)))) ?_ ?_ ?_ _ 0 _ _ (by simp) ⟨ms, qu, od, x12, rfl, LT _ (by simpa using L1), hm0⟩
  · rintro i E C' ⟨ms', qu', od', y12, rfl, L', hm'⟩
    simp only [Itm.at, hm']
  · rintro i y E C' hy ⟨ms', qu', od', y12, rfl, L', hm'⟩
    rw [wtD, List.getElem?_map] at hy
    obtain ⟨b, eb, rfl⟩ := omap hy
    obtain ⟨hil, ebi⟩ := List.getElem?_eq_some_iff.mp eb
    have ed : (waits bx x).drop i = b :: (waits bx x).drop (i + 1) := by rw [List.drop_eq_getElem_cons hil, ebi]
    rw [ed] at L'
    have hb := L'.oi.rlt b (by simp)
    refine wpo_eq (show gN 12 (D.int (b : Int)) (EL ks bx n1 C1 n x4 x5 x7 (some (mkD x)) y12) = some (EL ks bx n1 C1 n x4 x5 x7 (some (mkD x)) (some (.int (b : Int)))) from rfl) ?_
    exact li_step L' (by rw [goalOf_at hb]; exact okg _ (List.getElem_mem hb)) hq hm' h2 h3 h4 h5 fun C2 ms2 qu2 od2 L2 hm2 => ⟨ms2, qu2, od2, _, rfl, L2, hm2⟩
  · rintro E C' ⟨ms', qu', od', y12, rfl, L', hm'⟩
    rw [show (wtD (waits bx x)).length = (waits bx x).length from List.length_map .., List.drop_length] at L'
    refine wpo_eq (show mAug 10 (int0D fun i j => i + j) (mC (.int 1)) (EL ks bx n1 C1 n x4 x5 x7 (some (mkD x)) y12) C' = some (.nx (EL ks bx n1 C1 (n + 1) x4 x5 x7 (some (mkD x)) y12) C') from ?_) (k _ _ _ _ _ _ L')
    unfold mAug
    rw [show (EL ks bx n1 C1 n x4 x5 x7 (some (mkD x)) y12)[10]? = some (some (.int (n : Int))) from rfl]
    simp only [mC, Option.bind_some, int0D]
    have : ((n : Int) + 1) = ((n + 1 : Nat) : Int) := by omega
    rw [this]; rfl
theorem walk_ok (okq : ∀ x ∈ q0, OkT x) (okg : ∀ b ∈ bx, OkT b.1) (hq : q0.length + bx.length ≤ 5000) (hn1 : n1 < C1.length) (w : WO n1 C1 (waitsI bx) cnt) {Q : Out → Prop} {x4 x5 x7 : Option D}
    (k : ∀ C' ms' qu' od' x11 x12, LI bx keys q0 C1 qu'.length [] C' ms' qu' od' → Q (.nx (EL ks bx n1 C1 qu'.length x4 x5 x7 x11 x12) C')) :
    ∀ (f n : Nat) (C : Hm) (ms : List Int) (qu : List Th) (od : List Nat) (x11 x12 : Option D), LI bx keys q0 C1 n [] C ms qu od → q0.length + bx.length < n + f → wpo (whLoop CONDX BODYX f (EL ks bx n1 C1 n x4 x5 x7 x11 x12) C) Q := by
  intro f
  induction f with
  | zero =>
    intro n C ms qu od x11 x12 L h
    have := L.oi.le
    obtain ⟨l1, l2⟩ := oi_len L.oi
    omega
  | succ f ih =>
    intro n C ms qu od x11 x12 L h
    have z := szL
    obtain ⟨l1, l2⟩ := oi_len L.oi
    have ec : CONDX (EL ks bx n1 C1 n x4 x5 x7 x11 x12) C = some (decide (n < qu.length), C) := by
      refine tst_bl ?_
      show (mCallB lenD (mCons (mVar 8) mNil) (EL ks bx n1 C1 n x4 x5 x7 x11 x12) C).bind (fun q => dLt (.int (n : Int)) q.1 q.2) = _
      have : mCallB lenD (mCons (mVar 8) mNil) (EL ks bx n1 C1 n x4 x5 x7 x11 x12) C = some (.int qu.length, C) := by
        show lenD [.cell (C1.length + 2)] C = _
        unfold lenD; simp only [L.c4, List.length_map]
      rw [this]
      show some (D.bl (decide ((n : Int) < (qu.length : Int))), C) = _
      have : decide ((n : Int) < (qu.length : Int)) = decide (n < qu.length) := decide_eq_decide.mpr (by omega)
      rw [this]
    unfold whLoop
    rw [ec]
    simp only [Option.bind_some]
    by_cases hn : n < qu.length
    · rw [decide_eq_true hn]
      simp only [if_true]
      have okall : ∀ x ∈ qu, OkT x := fun x hx => by
        rw [L.oi.init] at hx
        rcases List.mem_append.mp hx with hx | hx
        · exact okq x hx
        · obtain ⟨b, hb, rfl⟩ := List.mem_map.mp hx
          have := L.oi.olt b hb
          rw [goalOf_at this]
          exact okg _ (List.getElem_mem this)
      refine wpo_bind.mpr (body_ok (ks := ks) L (x := qu[n]) (by simp [hn]) (okall _ (List.getElem_mem hn)) okg hq hn1 w fun C' ms' qu' od' y11 y12 L' => ?_)
      exact ih (n + 1) C' ms' qu' od' y11 y12 L' (by omega)
    · rw [decide_eq_false hn]
      simp only [Bool.false_eq_true, if_false]
      have : n = qu.length := by have := L.oi.le; omega
      subst this
      exact wpo_some.mpr (k C ms qu od x11 x12 L)
end
/-- what keys and boxes there are -/
structure Gb (ks : List Int) (bx : List Box) : Prop where
  nd : ks.Nodup
  k0 : ∀ k ∈ ks, 0 ≤ k
  okg : ∀ b ∈ bx, OkT b.1
  ne : ∀ b ∈ bx, b.2 ≠ []
  n1 : ks.length ≤ 1000
  n2 : bx.length ≤ 1000
  n3 : needs bx < 100000
theorem opening_order_ok {C : Hm} (W : WH C) {ks : List Int} {bx : List Box} (g : Gb ks bx) : wpo (M_opening_order [keysD ks, boxesD bx] C) fun r => ∃ (m : Nat) (C' : Hm) (ms : List Int) (qu : List Th) (od : List Nat), r = (.cell m, C') ∧ Pr C C' ∧ C.length ≤ m ∧ C'[m]? = some (.lst (wtD od)) ∧ OI bx ks (ks.map .i) qu.length [] ms qu od := by
  have z := szL
  refine wFn rfl (show wpo (B_opening_order [some (keysD ks), some (boxesD bx), none, none, none, none, none, none, none, none, none, none, none] C) _ from ?_)
  refine wSeq (wAsg (wCall (wCons (wVar rfl (wNil (wpo_mono (boxes_by_key_ok W g.n3) ?_))))))
  rintro _ ⟨C1, rfl, P1, w⟩
  have hn1 : C.length < C1.length := by
    obtain ⟨kvs, e, _⟩ := w.ex
    exact (List.getElem?_eq_some_iff.mp e).1
  -- missing
  have e2 := lc_any (me := mVar 1) (tg := gT 2 (gsCons (gN 4) (gsCons (gN 5) gsNil))) (tt := mYes) (elt := mCallB lenD (mCons (mVar 5) mNil)) (vs := [4, 5]) (E := [some (keysD ks), some (boxesD bx), some (.cell C.length), none, none, none, none, none, none, none, none, none, none]) (C := C1) (d := boxesD bx) (bx.map boxD) (fun _ => true) (fun d => match d with | .tup [_, .tup l] => .int l.length | _ => .non) rfl rfl (by have := g.n2; rw [List.length_map]; omega) (fun x hx => by
    obtain ⟨b, hb, rfl⟩ := List.mem_map.mp hx
    exact ⟨_, rfl, rfl, fun _ => rfl⟩)
  have ft : ∀ l : List D, l.filter (fun _ => true) = l := fun l => List.filter_eq_self.mpr (by simp)
  rw [ft, List.map_map] at e2
  have em : (bx.map ((fun d => match d with | D.tup [_, .tup l] => D.int l.length | _ => .non) ∘ boxD)) = (bx.map fun b => (b.2.length : Int)).map D.int := by
    rw [List.map_map]
    apply List.map_congr_left
    intro b _
    simp [boxD]
  rw [em] at e2
  refine wSeq (wAsg (wpo_eq e2 ?_))
  refine wSeq (wAsg (wpo_eq (dc_keys (i := 7) (E := [some (keysD ks), some (boxesD bx), some (.cell C.length), some (.cell C1.length), none, none, none, none, none, none, none, none, none]) (ks := ks) rfl g.nd (by simp) g.n1) ?_))
  have l3 : (C1 ++ [Cell.lst ((bx.map fun b => (b.2.length : Int)).map D.int)]).length = C1.length + 1 := by simp
  have c3 : (C1 ++ [Cell.lst ((bx.map fun b => (b.2.length : Int)).map D.int)] ++ [.dix (setD (ks.map .i))])[C1.length + 1]? = some (.dix (setD (ks.map .i))) := by rw [← l3]; exact last_get
  have eq := list_dix c3
  refine wSeq (wAsg (wCallB (wCons (wVar rfl (wNil (wpo_eq (by rw [l3]; exact eq) ?_))))))
  refine wSeq (wAsg (wLst0 ?_))
  refine wSeq (wAsg (wC ?_))
  have P2 : Pr C1 (C1 ++ [Cell.lst ((bx.map fun b => (b.2.length : Int)).map D.int)]) := (Pr.refl P1.wh).app (bnds_iff.mpr fun x hx => by
    obtain ⟨i, _, rfl⟩ := List.mem_map.mp hx
    rfl)
  have P3 := P2.app (c := .dix (setD (ks.map .i))) (by
    simp only [Cell.bnd, List.all_eq_true]
    intro p hp
    obtain ⟨y, _, rfl⟩ := List.mem_map.mp hp
    rfl)
  have P4 := P3.app (c := .lst ((ks.map MD.MK.i).map mkD)) (bnds_iff.mpr fun x hx => by
    obtain ⟨i, _, rfl⟩ := List.mem_map.mp hx
    exact mkD_bnd _ _)
  have P5 := P4.app (c := .lst []) rfl
  have L : LI bx ks (ks.map .i) C1 0 [] (C1 ++ [Cell.lst ((bx.map fun b => (b.2.length : Int)).map D.int)] ++ [.dix (setD (ks.map .i))] ++ [.lst ((ks.map MD.MK.i).map mkD)] ++ [.lst []]) (bx.map fun b => (b.2.length : Int)) (ks.map .i) [] := by
    refine ⟨oi_start ?_ ?_, P5, ?_, ?_, ?_, ?_⟩
    · exact List.Pairwise.map _ (fun a b hab q => hab (by cases q; rfl)) g.nd
    · intro x hx
      obtain ⟨k, hk, rfl⟩ := List.mem_map.mp hx
      exact ⟨k, hk, rfl⟩
    · exact get_app (get_app (get_app last_get))
    · exact get_app (get_app c3)
    · have : (C1 ++ [Cell.lst ((bx.map fun b => (b.2.length : Int)).map D.int)] ++ [Cell.dix (setD (ks.map .i))]).length = C1.length + 2 := by simp
      rw [← this]
      exact get_app last_get
    · have : (C1 ++ [Cell.lst ((bx.map fun b => (b.2.length : Int)).map D.int)] ++ [Cell.dix (setD (ks.map .i))] ++ [Cell.lst ((ks.map MD.MK.i).map mkD)]).length = C1.length + 3 := by simp
      rw [← this]
      exact last_get
  have e4l : (C1 ++ [Cell.lst ((bx.map fun b => (b.2.length : Int)).map D.int)] ++ [Cell.dix (setD (ks.map .i))]).length = C1.length + 2 := by simp
  have e5l : (C1 ++ [Cell.lst ((bx.map fun b => (b.2.length : Int)).map D.int)] ++ [Cell.dix (setD (ks.map .i))] ++ [Cell.lst ((ks.map MD.MK.i).map mkD)]).length = C1.length + 3 := by simp
  refine wSeq ?_
  have eE : (List.set (List.set (List.set (List.set [some (keysD ks), some (boxesD bx), some (D.cell C.length), some (D.cell C1.length), none, none, none, none, none, none, none, none, none] 6 (some (D.cell (C1 ++ [Cell.lst ((bx.map fun b => (b.2.length : Int)).map D.int)]).length))) 8 (some (D.cell (C1 ++ [Cell.lst ((bx.map fun b => (b.2.length : Int)).map D.int)] ++ [Cell.dix (setD (ks.map .i))]).length))) 9 (some (D.cell (C1 ++ [Cell.lst ((bx.map fun b => (b.2.length : Int)).map D.int)] ++ [Cell.dix (setD (ks.map .i))] ++ [Cell.lst ((ks.map MD.MK.i).map mkD)]).length))) 10 (some (D.int 0)) : Ev) = EL ks bx C.length C1 0 none none none none none := by
    rw [e4l, e5l, l3]; rfl
  have okq : ∀ x ∈ ks.map MD.MK.i, OkT x := fun x hx => by
    obtain ⟨k, hk, rfl⟩ := List.mem_map.mp hx
    exact g.k0 k hk
  have lq : (ks.map MD.MK.i).length + bx.length ≤ 5000 := by have := g.n1; have := g.n2; rw [List.length_map]; omega
  have res := walk_ok (ks := ks) (keys := ks) (bx := bx) (q0 := ks.map .i) (C1 := C1) (n1 := C.length) (x4 := none) (x5 := none) (x7 := none) okq g.okg lq hn1 w
    (Q := fun o => match o with | .nx E' C' => wpo (mRet (mVar 9) E' C') fun o => ∃ d C'', o = .rt d C'' ∧ ∃ (m : Nat) (C' : Hm) (ms : List Int) (qu : List Th) (od : List Nat), (d, C'') = (D.cell m, C') ∧ Pr C C' ∧ C.length ≤ m ∧ C'[m]? = some (.lst (wtD od)) ∧ OI bx ks (ks.map .i) qu.length [] ms qu od | _ => False)
    (fun C' ms' qu' od' x11 x12 L' => wRet (wVar rfl ⟨_, _, rfl, C1.length + 3, C', ms', qu', od', rfl, P1.trans L'.pr, by have := P1.len; omega, L'.c5, L'.oi⟩)) fuel 0 _ _ _ _ none none L (by unfold fuel; omega)
  rw [← eE] at res
  refine wpo_mono res ?_
  rintro o ho
  cases o with
  | nx E' C' => exact ho
  | _ => exact ho.elim
end G
set_option Elab.async false
set_option linter.all false
set_option maxRecDepth 100000
set_option maxHeartbeats 4000000
namespace G
open PySem L2 Mi
/-! ## what is opened -/
abbrev GOALT : ME := (mBin ixD (mBin ixD (mVar 1) (mVar 4)) (mC (.int 0)))
theorem things_ok {C : Hm} (W : WH C) {ks : List Int} {bx : List Box} (g : Gb ks bx) : wpo (M_things_opened [keysD ks, boxesD bx] C) fun r => ∃ (C' : Hm) (qu : List Th), r = (.cell C.length, C') ∧ Pr C C' ∧ C'[C.length]? = some (.dix (setD qu)) ∧ qu.Nodup ∧ (∀ x, x ∈ qu ↔ Cl ks bx x) ∧ (∀ x ∈ qu, OkT x) ∧ qu.length ≤ ks.length + bx.length := by
  have z := szL
  refine wFn rfl (show wpo (B_things_opened [some (keysD ks), some (boxesD bx), none, none, none] C) _ from ?_)
  refine wSeq (wAsg (wpo_eq (dc_keys (i := 3) (E := [some (keysD ks), some (boxesD bx), none, none, none]) (ks := ks) rfl g.nd (by simp) g.n1) ?_))
  have P1 : Pr C (C ++ [Cell.dix (setD (ks.map .i))]) := (Pr.refl W).app (by
    simp only [Cell.bnd, List.all_eq_true]
    intro p hp
    obtain ⟨y, _, rfl⟩ := List.mem_map.mp hp
    rfl)
  refine wSeq (wForC (wCall (wCons (wVar rfl (wCons (wVar rfl (wNil (wpo_mono (opening_order_ok P1.wh g) ?_))))))))
  rintro _ ⟨m, C2, ms, qu, od, rfl, P2, hm, hod, o⟩
  obtain ⟨l1, l2⟩ := oi_len o
  have n1 := g.n1
  have n2 := g.n2
  refine ⟨m, _, rfl, hod, ?_⟩
  have hd : C2[C.length]? = some (.dix (setD (ks.map .i))) := P2.get last_get
  have hml : C.length < m := by simp at hm; omega
  have qi := o.init
  refine for_at (wtD od) (fun i E C' => ∃ x4, E = [some (keysD ks), some (boxesD bx), some (.cell C.length), none, x4] ∧ Pr C C' ∧ C'[C.length]? = some (.dix (setD (ks.map .i ++ (od.take i).map (goalOf bx)))) ∧ C'[m]? = some (.lst (wtD od))) ?_ ?_ ?_ _ 0 _ _ (by simp) ⟨none, rfl, P1.trans P2, by simpa using hd, hod⟩
  · rintro i E C' ⟨x4, rfl, P, h1, h2⟩
    simp only [Itm.at, h2]
  · rintro i y E C' hy ⟨x4, rfl, P, h1, h2⟩
    rw [wtD, List.getElem?_map] at hy
    obtain ⟨b, eb, rfl⟩ := omap hy
    obtain ⟨hil, ebi⟩ := List.getElem?_eq_some_iff.mp eb
    have hb := o.olt b (by rw [← ebi]; exact List.getElem_mem hil)
    refine wpo_eq (show gN 4 (D.int (b : Int)) [some (keysD ks), some (boxesD bx), some (.cell C.length), none, x4] = some [some (keysD ks), some (boxesD bx), some (.cell C.length), none, some (.int (b : Int))] from rfl) ?_
    have ok : OkT (goalOf bx b) := by rw [goalOf_at hb]; exact g.okg _ (List.getElem_mem hb)
    have ge : GOALT [some (keysD ks), some (boxesD bx), some (.cell C.length), none, some (.int (b : Int))] C' = some (mkD (goalOf bx b), C') := by
      have e1 : (bx.map boxD)[b]? = some (boxD bx[b]) := by simp [hb]
      have e2 : mBin ixD (mVar 1) (mVar 4) [some (keysD ks), some (boxesD bx), some (.cell C.length), none, some (.int (b : Int))] C' = some (boxD bx[b], C') := by
        show ixD (boxesD bx) (.int (b : Int)) C' = _
        unfold ixD boxesD
        simp only
        rw [atI_nat e1]; rfl
      rw [show GOALT [some (keysD ks), some (boxesD bx), some (.cell C.length), none, some (.int (b : Int))] C' = ixD (boxD bx[b]) (.int 0) C' by unfold GOALT mBin at *; rw [e2]; rfl]
      rw [goalOf_at hb]
      unfold ixD boxD
      simp only
      rw [show atI [mkD bx[b].1, D.tup (bx[b].2.map .int)] 0 = some (mkD bx[b].1) from rfl]
      rfl
    have nin : goalOf bx b ∉ ks.map MD.MK.i ++ (od.take i).map (goalOf bx) := by
      have nd := o.nd
      rw [qi] at nd
      have e : od.map (goalOf bx) = (od.take i).map (goalOf bx) ++ goalOf bx b :: (od.drop (i + 1)).map (goalOf bx) := by
        rw [← List.map_cons, ← ebi, ← List.drop_eq_getElem_cons hil, ← List.map_append, List.take_append_drop]
      rw [e, ← List.append_assoc, List.nodup_append] at nd
      exact fun hin => nd.2.2 _ hin _ (by simp) rfl
    have s1 : mPut setX (mC (.bl true)) (mVar 2) GOALT [some (keysD ks), some (boxesD bx), some (.cell C.length), none, some (.int (b : Int))] C' = some (.nx [some (keysD ks), some (boxesD bx), some (.cell C.length), none, some (.int (b : Int))] (C'.set C.length (.dix (setD (ks.map .i ++ (od.take (i + 1)).map (goalOf bx)))))) := by
      have q : setX (.cell C.length) (mkD (goalOf bx b)) (.bl true) C' = some (C'.set C.length (.dix (setD (ks.map .i ++ (od.take (i + 1)).map (goalOf bx))))) := by
        unfold setX
        simp only [h1, mkOf_mkD ok, Option.bind_some]
        rw [if_pos (by simp; omega), show putM (setD (ks.map .i ++ (od.take i).map (goalOf bx))) (goalOf bx b) (.bl true) = _ from putM_set nin, List.take_succ_eq_append_getElem hil, ebi, List.map_append, ← List.append_assoc]
        rfl
      unfold mPut
      simp only [mC, Option.bind_some]
      rw [show mVar 2 [some (keysD ks), some (boxesD bx), some (.cell C.length), none, some (.int (b : Int))] C' = some (.cell C.length, C') from rfl]
      simp only [Option.bind_some]
      rw [ge]
      simp only [Option.bind_some]
      rw [q]; rfl
    refine wpo_eq s1 ⟨_, rfl, P.set (Nat.le_refl _) (by
      simp only [Cell.bnd, List.all_eq_true]
      intro p hp
      obtain ⟨y, _, rfl⟩ := List.mem_map.mp hp
      rfl), get_set_eq h1, get_set_ne h2 (by omega)⟩
  · rintro E C' ⟨x4, rfl, P, h1, h2⟩
    have e : ks.map MD.MK.i ++ (od.take (wtD od).length).map (goalOf bx) = qu := by
      rw [show (wtD od).length = od.length from List.length_map .., List.take_length]; exact qi.symm
    rw [e] at h1
    refine wRet (wVar rfl ⟨_, _, rfl, C', qu, rfl, P, h1, o.nd, oi_end o (fun k hk => List.mem_map.mpr ⟨k, hk, rfl⟩) g.ne, fun x hx => ?_, by rw [l2, List.length_map]; omega⟩)
    rw [qi] at hx
    rcases List.mem_append.mp hx with hx | hx
    · obtain ⟨k, hk, rfl⟩ := List.mem_map.mp hx
      exact g.k0 k hk
    · obtain ⟨b, hb, rfl⟩ := List.mem_map.mp hx
      have := o.olt b hb
      rw [goalOf_at this]; exact g.okg _ (List.getElem_mem this)
/-! ## things in order -/
def pyT : Th → PyData
  | .i k => .int k
  | .t ks => .tuple (ks.map MD.kData)
def tkT (x : Th) : List (Int ⊕ List Nat) := PySem.W.keyToks (pyT x)
def ltT (x y : Th) : Prop := PySem.W.dataLt (pyT x) (pyT y) = true
def isKeyT : Th → Bool
  | .i _ => true
  | .t _ => false
theorem ltT_asym {x y : Th} (h : ltT x y) (h' : ltT y x) : False := by
  have := PyProof.Rows.lex_trans (O := PyProof.Rows.itemOrd) _ _ _ h h'
  rw [PyProof.Rows.lex_irrefl] at this
  cases this
theorem ltT_irr {x : Th} (h : ltT x x) : False := by
  unfold ltT PySem.W.dataLt at h
  rw [PyProof.Rows.lex_irrefl] at h
  cases h
theorem tk_inj {x y : Th} (hx : OkT x) (hy : OkT y) (kx : isKeyT x = false) (ky : isKeyT y = false) (h : tkT x = tkT y) : x = y := by
  cases x with
  | i _ => cases kx
  | t ks =>
    cases y with
    | i _ => cases ky
    | t js =>
      obtain ⟨s, i, rfl, _⟩ := hx
      obtain ⟨s', i', rfl, _⟩ := hy
      simp [tkT, pyT, MD.kData, PySem.W.keyToks, PySem.W.keyToksAll] at h
      obtain ⟨h1, h2⟩ := h
      have : s = s' := PySem.W.str_of_cps (by rw [h1])
      rw [this, h2]
theorem uniq_lt {α : Type} {lt : α → α → Prop} (as : ∀ x y, lt x y → lt y x → False) : ∀ {l m : List α}, l.Pairwise lt → m.Pairwise lt → (∀ k, k ∈ l ↔ k ∈ m) → l = m
  | [], [], _, _, _ => rfl
  | [], b :: m, _, _, h => absurd ((h b).mpr (by simp)) (by simp)
  | a :: l, [], _, _, h => absurd ((h a).mp (by simp)) (by simp)
  | a :: l, b :: m, h1, h2, h => by
    have p1 := List.pairwise_cons.mp h1
    have p2 := List.pairwise_cons.mp h2
    have e : a = b := by
      have ha := (h a).mp (by simp)
      have hb := (h b).mpr (by simp)
      rcases List.mem_cons.mp ha with e | e
      · exact e
      · rcases List.mem_cons.mp hb with e' | e'
        · exact e'.symm
        · exact (as a b (p1.1 b e') (p2.1 a e)).elim
    subst e
    congr 1
    refine uniq_lt as p1.2 p2.2 fun k => ⟨fun hk => ?_, fun hk => ?_⟩
    · rcases List.mem_cons.mp ((h k).mp (List.mem_cons_of_mem _ hk)) with e | e
      · subst e; exact (as k k (p1.1 k hk) (p1.1 k hk)).elim
      · exact e
    · rcases List.mem_cons.mp ((h k).mpr (List.mem_cons_of_mem _ hk)) with e | e
      · subst e; exact (as k k (p2.1 k hk) (p2.1 k hk)).elim
      · exact e
/-- the pair that opened returns -/
structure Opn (ks : List Int) (bx : List Box) (K : List Int) (T : List Th) : Prop where
  up : K.Pairwise (· < ·)
  upT : T.Pairwise ltT
  mem : ∀ k, k ∈ K ↔ Cl ks bx (.i k)
  memT : ∀ x, x ∈ T ↔ Cl ks bx x ∧ isKeyT x = false
theorem Opn.eq {ks js : List Int} {bx cx : List Box} {K J : List Int} {T U : List Th} (h : Opn ks bx K T) (h' : Opn js cx J U) (e : ∀ x, Cl ks bx x ↔ Cl js cx x) : K = J ∧ T = U :=
  ⟨up_unique h.up h'.up fun k => by rw [h.mem, h'.mem, e], uniq_lt (fun _ _ => ltT_asym) h.upT h'.upT fun x => by rw [h.memT, h'.memT, e]⟩
def opnD (K : List Int) (T : List Th) : D := .tup [keysD K, .tup (T.map mkD)]
theorem py_mkD {C : Hm} {n : Nat} {x : Th} (h : OkT x) : py C (n + 2) (mkD x) = some (pyT x) := by
  cases x with
  | i k => rfl
  | t ks =>
    obtain ⟨s, i, rfl, _⟩ := h
    rfl
theorem gs_mkD {C : Hm} {n : Nat} {x : Th} (h : OkT x) : Gs C (n + 2) (mkD x) := by
  refine ⟨pyT x, py_mkD h, ?_, ?_⟩
  · cases x with
    | i k => rfl
    | t ks =>
      obtain ⟨s, i, rfl, _, hs, _⟩ := h
      simp [pyT, MD.kData, PyData.canLay0, PyData.canLayAll0, hs]
  · have z := szL
    cases x with
    | i k => simp [pyT, PyData.bulk]
    | t ks =>
      obtain ⟨s, i, rfl, hn, _⟩ := h
      simp only [kName, Bool.and_eq_true, decide_eq_true_eq] at hn
      have : s.cps.size = s.length := rfl
      simp [pyT, MD.kData, PyData.bulk, PyData.bulkAll]
      omega
theorem kNum_mkD {x : Th} (h : OkT x) : kNum (mkD x) = isKeyT x := by
  cases x with
  | i k => simp [mkD, kNum, isKeyT]; exact h
  | t ks => rfl
end G
set_option Elab.async false
set_option linter.all false
set_option maxRecDepth 100000
set_option maxHeartbeats 4000000
namespace G
open PySem L2 Mi
theorem eqv_pyT {x y : Th} (hx : OkT x) (hy : OkT y) : PyData.eqv (pyT x) (pyT y) = decide (x = y) := by
  cases x with
  | i k =>
    cases y with
    | i j =>
      rw [Bool.eq_iff_iff]
      simp [pyT, PyData.eqv]
    | t js => simp [pyT, PyData.eqv]
  | t ks =>
    cases y with
    | i j => simp [pyT, PyData.eqv]
    | t js =>
      obtain ⟨s, i, rfl, _⟩ := hx
      obtain ⟨s', i', rfl, _⟩ := hy
      rw [Bool.eq_iff_iff]
      simp [pyT, MD.kData, PyData.eqv, PyData.eqvAll]
/-- the keys among things, the names among them -/
def kys : List Th → List Int
  | [] => []
  | .i k :: r => k :: kys r
  | .t _ :: r => kys r
def tks (qu : List Th) : List Th := qu.filter fun x => !isKeyT x
theorem kys_mem {k : Int} : ∀ {qu : List Th}, k ∈ kys qu ↔ MD.MK.i k ∈ qu
  | [] => by simp [kys]
  | .i j :: r => by simp [kys, kys_mem (qu := r)]
  | .t _ :: r => by simp [kys, kys_mem (qu := r)]
theorem kys_nd : ∀ {qu : List Th}, qu.Nodup → (kys qu).Nodup
  | [], _ => by simp [kys]
  | .i j :: r, h => by
    have h := List.nodup_cons.mp h
    exact List.nodup_cons.mpr ⟨fun e => h.1 (kys_mem.mp e), kys_nd h.2⟩
  | .t _ :: r, h => by have := (List.nodup_cons.mp h).2; exact kys_nd (qu := r) this
theorem kys_len : ∀ {qu : List Th}, (kys qu).length + (tks qu).length = qu.length
  | [] => rfl
  | .i j :: r => by have := kys_len (qu := r); simp [kys, tks, isKeyT] at *; omega
  | .t _ :: r => by have := kys_len (qu := r); simp [kys, tks, isKeyT] at *; omega
theorem filt_keys : ∀ {qu : List Th}, (∀ x ∈ qu, OkT x) → (qu.map mkD).filter kNum = (kys qu).map .int
  | [], _ => rfl
  | .i j :: r, h => by
    have := kNum_mkD (h (.i j) (by simp))
    rw [List.map_cons, List.filter_cons_of_pos (by rw [this]; rfl), filt_keys fun x hx => h x (by simp [hx])]
    rfl
  | .t s :: r, h => by
    have := kNum_mkD (h (.t s) (by simp))
    rw [List.map_cons, List.filter_cons_of_neg (by rw [this]; exact Bool.false_ne_true), filt_keys fun x hx => h x (by simp [hx])]
    rfl
theorem filt_tks : ∀ {qu : List Th}, (∀ x ∈ qu, OkT x) → (qu.map mkD).filter (fun d => !kNum d) = (tks qu).map mkD
  | [], _ => rfl
  | x :: r, h => by
    have := kNum_mkD (h x (by simp))
    unfold tks
    rw [List.map_cons, List.filter_cons, List.filter_cons, this, filt_tks fun x hx => h x (by simp [hx])]
    cases isKeyT x <;> simp [tks]
theorem intsOf_ints : ∀ ns : List Int, intsOf (ns.map .int) = some ns
  | [] => rfl
  | n :: ns => by simp [intsOf, intsOf_ints ns]
/-- sorted keys -/
theorem up_of {l : List Int} (nd : l.Nodup) : (sortI l).Pairwise (· < ·) := by
  have h1 := sortI_up l
  have h2 : (sortI l).Nodup := ((sortI_perm l).nodup_iff).mpr nd
  exact (h1.and h2).imp fun {a b} h => by have := h.1; have := h.2; omega
/-- sorted names -/
def srtT (l : List Th) : List Th := l.mergeSort (PySem.W.dataLe false pyT)
theorem srtT_perm (l : List Th) : (srtT l).Perm l := List.mergeSort_perm l _
theorem srtT_up {l : List Th} (nd : l.Nodup) (ok : ∀ x ∈ l, OkT x) (kt : ∀ x ∈ l, isKeyT x = false) : (srtT l).Pairwise ltT := by
  have h1 : (srtT l).Pairwise (fun a b => PySem.W.dataLe false pyT a b = true) := PySem.W.sort_pairwise (PySem.W.sortLe_total (PyProof.Rows.listOrd PyProof.Rows.itemOrd) false fun b => PySem.W.keyToks (pyT b)) l
  have h2 : (srtT l).Nodup := ((srtT_perm l).nodup_iff).mpr nd
  have mem : ∀ x, x ∈ srtT l → x ∈ l := fun x hx => (srtT_perm l).mem_iff.mp hx
  refine (h1.and h2).imp_of_mem fun {a b} ha hb h => ?_
  have e1 : PySem.W.dataLt (pyT b) (pyT a) = false := by
    have := h.1
    rw [PySem.W.dataLe_eq] at this
    simpa using this
  cases q : PySem.W.dataLt (pyT a) (pyT b) with
  | true => exact q
  | false => exact absurd (tk_inj (ok a (mem a ha)) (ok b (mem b hb)) (kt a (mem a ha)) (kt b (mem b hb)) (PyProof.Rows.lex_total _ _ q e1)) h.2
theorem alike_pyT {x y : Th} (hx : OkT x) (hy : OkT y) (kx : isKeyT x = false) (ky : isKeyT y = false) : PySem.W.alike (pyT x) (pyT y) = true := by
  cases x with
  | i _ => cases kx
  | t ks =>
    cases y with
    | i _ => cases ky
    | t js =>
      obtain ⟨s, i, rfl, _⟩ := hx
      obtain ⟨s', i', rfl, _⟩ := hy
      rfl
theorem encD_mkD {C : Hm} {x : Th} (h : OkT x) : encD C (mkD x) = pyT x := by
  unfold encD; rw [show py C 70 (mkD x) = some (pyT x) from py_mkD (n := 68) h]; rfl
theorem sorted_tks {C : Hm} {n : Nat} {l : List Th} (hc : C[n]? = some (.lst (l.map mkD))) (ok : ∀ x ∈ l, OkT x) (kt : ∀ x ∈ l, isKeyT x = false) : sortedDX [.cell n] C = some (.cell C.length, C ++ [.lst ((srtT l).map mkD)]) := by
  unfold sortedDX
  simp only [hc]
  cases l with
  | nil => simp [intsOf, sortI, srtT]
  | cons x r =>
    have e0 : intsOf ((x :: r).map mkD) = none := by
      cases x with
      | i k => have := kt (.i k) (by simp); cases this
      | t ks => rfl
    have e1 : srtOk C ((x :: r).map mkD) = true := by
      unfold srtOk
      rw [Bool.and_eq_true]
      refine ⟨List.all_eq_true.mpr fun d hd => ?_, List.all_eq_true.mpr fun d hd => List.all_eq_true.mpr fun e he => ?_⟩
      · obtain ⟨y, hy, rfl⟩ := List.mem_map.mp hd
        have ko := kt y hy
        have oo := ok y hy
        cases y with
        | i k => cases ko
        | t ks =>
          obtain ⟨s, i, rfl, _⟩ := oo
          rfl
      · obtain ⟨y, hy, rfl⟩ := List.mem_map.mp hd
        obtain ⟨z, hz, rfl⟩ := List.mem_map.mp he
        rw [encD_mkD (ok y hy), encD_mkD (ok z hz)]
        exact alike_pyT (ok y hy) (ok z hz) (kt y hy) (kt z hz)
    rw [e0]
    simp only
    rw [if_pos e1]
    have e2 := List.map_mergeSort (r := PySem.W.dataLe false pyT) (s := PySem.W.dataLe false (encD C)) (f := mkD) (l := x :: r) fun a ha b hb => by
      rw [PySem.W.dataLe_eq, PySem.W.dataLe_eq]; simp only [encD_mkD (ok a ha), encD_mkD (ok b hb)]
    rw [← e2]; rfl
theorem sorted_kys {C : Hm} {n : Nat} {l : List Int} (hc : C[n]? = some (.lst (l.map .int))) : sortedDX [.cell n] C = some (.cell C.length, C ++ [.lst ((sortI l).map .int)]) := by
  unfold sortedDX
  simp only [hc, intsOf_ints]
/-- a comprehension over a locked dict -/
theorem lcX {C : Hm} {E : Ev} {j n i : Nat} {vs : List Nat} {qu : List Th} {tt : MT} (tb : D → Bool) (hj : E[j]? = some (some (.cell n))) (hc : C[n]? = some (.dxl (setD qu))) (hl : qu.length ≤ sizeLine) (hi : i < (wipeE E vs).length)
    (h : ∀ x ∈ qu, tt ((wipeE E vs).set i (some (mkD x))) C = some (tb (mkD x), C)) :
    mLc (mIAnyX (mVar j)) (gN i) tt (mVar i) vs E C = some (.cell C.length, C ++ [.lst ((qu.map mkD).filter tb)]) := by
  unfold mLc mIAnyX
  rw [show mVar j E C = some (.cell n, C) from var_at hj]
  simp only [Option.bind_some, iAnyDX, hc]
  have e : ((setD qu).map fun p => mkD p.1) = qu.map mkD := by rw [List.map_map]; rfl
  rw [e]
  have l1 : (setD qu).length = (qu.map mkD).length := by simp
  rw [l1, lc_at (qu.map mkD) tb id (fun i => rfl) (by simpa using hl) (fun x hx => by
    obtain ⟨y, hy, rfl⟩ := List.mem_map.mp hx
    exact ⟨_, rfl, h y hy, fun _ => set_get hi⟩) (qu.map mkD).length 0 [] (by omega) (by simp)]
  simp
theorem lockS {i n : Nat} {m : MS} {E E' : Ev} {C C' : Hm} {kvs kvs' : List (MD.MK × D)} (hi : E[i]? = some (some (.cell n))) (hc : C[n]? = some (.dix kvs)) (h : m E (C.set n (.dxl kvs)) = some (.nx E' C')) (hc' : C'[n]? = some (.dxl kvs')) : mLockS i m E C = some (.nx E' (C'.set n (.dix kvs'))) := by
  unfold mLockS
  simp only [hi, hc, h, Option.bind_some, hc']
/-- one of the two lists of pair_of -/
theorem lock_lc {C : Hm} {E : Ev} {n v : Nat} {qu : List Th} {tt : MT} (tb : D → Bool) (h2 : E[0]? = some (some (.cell n))) (hc : C[n]? = some (.dix (setD qu))) (hl : qu.length ≤ sizeLine) (h4 : 2 < E.length)
    (h : ∀ x ∈ qu, tt ((wipeE E [2]).set 2 (some (mkD x))) (C.set n (.dxl (setD qu))) = some (tb (mkD x), C.set n (.dxl (setD qu)))) :
    mLockS 0 (mAsg (mLc (mIAnyX (mVar 0)) (gN 2) tt (mVar 2) [2]) (gN v)) E C = some (.nx (E.set v (some (.cell C.length))) (C ++ [.lst ((qu.map mkD).filter tb)])) := by
  have hn := (List.getElem?_eq_some_iff.mp hc).1
  have e := lcX (C := C.set n (.dxl (setD qu))) (E := E) (j := 0) (i := 2) (vs := [2]) tb h2 (get_set_eq hc) hl (by show 2 < (List.set E 2 none).length; simpa using h4) h
  rw [lockS (kvs' := setD qu) h2 hc (E' := E.set v (some (.cell C.length))) (C' := C.set n (.dxl (setD qu)) ++ [.lst ((qu.map mkD).filter tb)]) (by
    unfold mAsg; rw [e]; simp only [List.length_set]; rfl) (get_app (get_set_eq hc))]
  rw [List.set_append_left _ _ (by simpa using hn), List.set_set]
  have : C.set n (.dix (setD qu)) = C := by
    obtain ⟨h1, h2⟩ := List.getElem?_eq_some_iff.mp hc
    rw [← h2]; exact List.set_getElem_self h1
  rw [this]
end G
set_option Elab.async false
set_option linter.all false
set_option maxRecDepth 100000
set_option maxHeartbeats 4000000
namespace G
open PySem L2 Mi
theorem cl_ok {ks : List Int} {bx : List Box} (g : Gb ks bx) {x : Th} (h : Cl ks bx x) : OkT x := cl_least (S := OkT) g.k0 (fun b hb _ => g.okg b hb) h
theorem setD_bnd (qu : List Th) (n : Nat) : (setD qu).all (fun p => p.2.bnd n) = true := by
  rw [List.all_eq_true]
  intro p hp
  obtain ⟨y, _, rfl⟩ := List.mem_map.mp hp
  rfl
theorem truB {m : ME} {E : Ev} {C C' : Hm} {b : Bool} (h : m E C = some (.bl b, C')) : mTru m E C = some (b, C') := by unfold mTru; rw [h]; rfl
theorem ntru {m : ME} {E : Ev} {C C' : Hm} {b : Bool} (h : m E C = some (.bl b, C')) : tNotM (mTru m) E C = some (!b, C') := by unfold tNotM; rw [truB h]; rfl
theorem pair_of_ok {C1 : Hm} (W : WH C1) {n : Nat} {qu : List Th} (hd : C1[n]? = some (.dix (setD qu))) (hl : qu.length ≤ sizeLine) (ok : ∀ x ∈ qu, OkT x) : wpo (M_pair_of [.cell n] C1) fun r => ∃ C', r = (opnD (sortI (kys qu)) (srtT (tks qu)), C') ∧ Pr C1 C' := by
  have z := szL
  refine wFn rfl (show wpo (B_pair_of [some (.cell n), none, none, none] C1) _ from ?_)
  have step : ∀ {C2 : Hm} {E : Ev}, Pr C1 C2 → C2[n]? = some (.dix (setD qu)) → 2 < E.length → ∀ x ∈ qu, mKeep (mCall M_is_key (mCons (mVar 2) mNil)) ((wipeE E [2]).set 2 (some (mkD x))) (C2.set n (.dxl (setD qu))) = some (.bl (kNum (mkD x)), C2.set n (.dxl (setD qu))) := fun {C2 E} P h h4 x hx => by
    refine k_is_key (P.wh.set (c := .dxl (setD qu)) (setD_bnd qu _)) (gs_mkD (n := 0) (ok x hx)) ?_
    unfold mCons mNil
    rw [show mVar 2 ((wipeE E [2]).set 2 (some (mkD x))) (C2.set n (.dxl (setD qu))) = some (mkD x, _) from set_get (by show 2 < (List.set E 2 none).length; simpa using h4)]
    rfl
  have s1 := lock_lc (v := 1) (E := [some (.cell n), none, none, none]) (tt := mTru (mKeep (mCall M_is_key (mCons (mVar 2) mNil)))) kNum rfl hd hl (by simp) fun x hx => truB (step (Pr.refl W) hd (by simp) x hx)
  refine wSeq (wpo_eq s1 ?_)
  have P2 : Pr C1 (C1 ++ [Cell.lst ((qu.map mkD).filter kNum)]) := (Pr.refl W).app (bnds_iff.mpr fun d hd => by
    obtain ⟨y, _, rfl⟩ := List.mem_map.mp (List.mem_filter.mp hd).1
    exact mkD_bnd _ _)
  have s2 := lock_lc (v := 3) (E := [some (.cell n), some (.cell C1.length), none, none]) (tt := tNotM (mTru (mKeep (mCall M_is_key (mCons (mVar 2) mNil))))) (fun d => !kNum d) rfl (get_app hd (x := .lst ((qu.map mkD).filter kNum))) hl (by simp) fun x hx => ntru (step P2 (get_app hd) (by simp) x hx)
  refine wSeq (wpo_eq s2 ?_)
  have P3 : Pr C1 (C1 ++ [Cell.lst ((qu.map mkD).filter kNum)] ++ [Cell.lst ((qu.map mkD).filter fun d => !kNum d)]) := P2.app (bnds_iff.mpr fun d hd => by
    obtain ⟨y, _, rfl⟩ := List.mem_map.mp (List.mem_filter.mp hd).1
    exact mkD_bnd _ _)
  rw [filt_keys ok] at *
  rw [filt_tks ok] at *
  have c3 : (C1 ++ [Cell.lst ((kys qu).map .int)] ++ [Cell.lst ((tks qu).map mkD)])[C1.length]? = some (.lst ((kys qu).map .int)) := get_app last_get
  have P4 := P3.app (c := .lst ((sortI (kys qu)).map .int)) (bnds_iff.mpr fun d hd => by
    obtain ⟨y, _, rfl⟩ := List.mem_map.mp hd
    rfl)
  have P5 := P4.app (c := .lst ((srtT (tks qu)).map mkD)) (bnds_iff.mpr fun d hd => by
    obtain ⟨y, _, rfl⟩ := List.mem_map.mp hd
    exact mkD_bnd _ _)
  have c5 : (C1 ++ [Cell.lst ((kys qu).map .int)] ++ [Cell.lst ((tks qu).map mkD)] ++ [.lst ((sortI (kys qu)).map .int)])[(C1 ++ [Cell.lst ((kys qu).map .int)]).length]? = some (.lst ((tks qu).map mkD)) := get_app last_get
  have okk : ∀ x ∈ tks qu, OkT x := fun x hx => ok x (List.mem_filter.mp hx).1
  have kt : ∀ x ∈ tks qu, isKeyT x = false := fun x hx => by simpa using (List.mem_filter.mp hx).2
  have sq : ∀ {C : Hm} {ds : List D}, tupleD [.cell C.length] (C ++ [.lst ds]) = some (.tup ds, C ++ [.lst ds]) := fun {C ds} => by
    unfold tupleD seqOf
    simp only [last_get, Option.map_some]
  refine wRet (wTup (wCons ?_))
  refine wCallB (wCons (wCallB (wCons (wVar rfl (wNil (wpo_eq (sorted_kys c3) (wNil (wpo_eq sq ?_))))))))
  refine wCons ?_
  refine wCallB (wCons (wCallB (wCons (wVar rfl (wNil (wpo_eq (sorted_tks c5 okk kt) (wNil (wpo_eq sq ?_))))))))
  refine wNil ?_
  exact ⟨by show 2 ≤ sizeLine; omega, _, _, rfl, _, rfl, P5⟩
theorem opnD_bnd (K : List Int) (T : List Th) (n : Nat) : (opnD K T).bnd n = true := by
  have h1 : bnds n (K.map D.int) = true := bnds_iff.mpr fun d hd => by
    obtain ⟨y, _, rfl⟩ := List.mem_map.mp hd
    rfl
  have h2 : bnds n (T.map mkD) = true := bnds_iff.mpr fun d hd => by
    obtain ⟨y, _, rfl⟩ := List.mem_map.mp hd
    exact mkD_bnd _ _
  simp [opnD, keysD, D.bnd, bnds, h1, h2]
theorem opened_ok {C : Hm} (W : WH C) {ks : List Int} {bx : List Box} (g : Gb ks bx) : wpo (M_opened [keysD ks, boxesD bx] C) fun r => ∃ (C' : Hm) (K : List Int) (T : List Th), r = (opnD K T, C') ∧ Pr C C' ∧ Opn ks bx K T ∧ K.length + T.length ≤ ks.length + bx.length := by
  have z := szL
  have n1 := g.n1
  have n2 := g.n2
  obtain ⟨_, e, C1, qu, rfl, P1, hd, nd, mem, ok, len⟩ := things_ok W g
  have hl : qu.length ≤ sizeLine := by omega
  obtain ⟨_, e2, C2, rfl, P2⟩ := pair_of_ok P1.wh hd hl ok
  have okk : ∀ x ∈ tks qu, OkT x := fun x hx => ok x (List.mem_filter.mp hx).1
  have kt : ∀ x ∈ tks qu, isKeyT x = false := fun x hx => by simpa using (List.mem_filter.mp hx).2
  have a1 : (mCons (mCall M_things_opened (mCons (mVar 0) (mCons (mVar 1) mNil))) mNil) [some (keysD ks), some (boxesD bx)] C = some ([.cell C.length], C1) := by
    show (mCall M_things_opened (mCons (mVar 0) (mCons (mVar 1) mNil)) [some (keysD ks), some (boxesD bx)] C).bind _ = _
    rw [show mCall M_things_opened (mCons (mVar 0) (mCons (mVar 1) mNil)) [some (keysD ks), some (boxesD bx)] C = some (.cell C.length, C1) from e]
    rfl
  have a2 : mCall M_pair_of (mCons (mCall M_things_opened (mCons (mVar 0) (mCons (mVar 1) mNil))) mNil) [some (keysD ks), some (boxesD bx)] C = some (opnD (sortI (kys qu)) (srtT (tks qu)), C2) := by
    unfold mCall at a1 ⊢
    rw [bind_eq a1]; exact e2
  have P := P1.trans P2
  have a3 : mKeep (mCall M_pair_of (mCons (mCall M_things_opened (mCons (mVar 0) (mCons (mVar 1) mNil))) mNil)) [some (keysD ks), some (boxesD bx)] C = some (opnD (sortI (kys qu)) (srtT (tks qu)), C) :=
    keep_eq (g := C2.drop C.length) (C' := C) (a2.trans (congrArg (fun h => some (opnD (sortI (kys qu)) (srtT (tks qu)), h)) P.split)) rfl W (opnD_bnd _ _ _)
  refine wpo_eq (fn_ret rfl (show B_opened [some (keysD ks), some (boxesD bx)] C = _ from ret_eq a3)) ⟨C, _, _, rfl, Pr.refl W, ⟨up_of (kys_nd nd), srtT_up (nd.filter _) okk kt, fun k => ?_, fun x => ?_⟩, ?_⟩
  · rw [(sortI_perm _).mem_iff, kys_mem, mem]
  · rw [(srtT_perm _).mem_iff, ← mem]
    simp [tks]
  · rw [(sortI_perm _).length_eq, (srtT_perm _).length_eq, kys_len]; exact len
theorem kcallD {m : MF} {ml : MA} {E : Ev} {C C' : Hm} {ds : List D} {d : D} (W : WH C) (he : ml E C = some (ds, C)) (h : m ds C = some (d, C')) (P : Pr C C') (hb : d.bnd C.length = true) : mKeep (mCall m ml) E C = some (d, C) := by
  refine keep_eq (g := C'.drop C.length) (C' := C) ?_ rfl W hb
  unfold mCall
  rw [bind_eq he, ← P.split]
  exact h
theorem opn_ex {C : Hm} (W : WH C) {ks : List Int} {bx : List Box} (g : Gb ks bx) : ∃ K T, Opn ks bx K T ∧ K.length + T.length ≤ ks.length + bx.length := by
  obtain ⟨_, _, _, K, T, _, _, o, l⟩ := opened_ok W g
  exact ⟨K, T, o, l⟩
theorem k_opened {C : Hm} (W : WH C) {ks : List Int} {bx : List Box} (g : Gb ks bx) {K : List Int} {T : List Th} (o : Opn ks bx K T) {ml : MA} {E : Ev} (he : ml E C = some ([keysD ks, boxesD bx], C)) : mKeep (mCall M_opened ml) E C = some (opnD K T, C) := by
  obtain ⟨r, e, C', K', T', rfl, P, o', _⟩ := opened_ok W g
  obtain ⟨rfl, rfl⟩ := o.eq o' fun x => Iff.rfl
  exact kcallD W he e P (opnD_bnd _ _ _)
/-! ## opens -/
theorem opens_ok {C : Hm} (W : WH C) {ks : List Int} {bx : List Box} (g : Gb ks bx) {x : Th} (hx : OkT x) : ∃ b C', M_opens [keysD ks, boxesD bx, mkD x] C = some (.bl b, C') ∧ Pr C C' ∧ (b = true ↔ Cl ks bx x) := by
  obtain ⟨_, e, C1, qu, rfl, P1, hd, nd, mem, ok, len⟩ := things_ok W g
  refine ⟨decide (x ∈ qu), C1, fn_ret rfl (show B_opens [some (keysD ks), some (boxesD bx), some (mkD x)] C = _ from ret_eq ?_), P1, by rw [decide_eq_true_iff]; exact mem x⟩
  have e2 : mCall M_things_opened (mCons (mVar 0) (mCons (mVar 1) mNil)) [some (keysD ks), some (boxesD bx), some (mkD x)] C = some (.cell C.length, C1) := e
  unfold mBin
  rw [show mVar 2 [some (keysD ks), some (boxesD bx), some (mkD x)] C = some (mkD x, C) from rfl]
  simp only [Option.bind_some]
  rw [e2]
  simp only [Option.bind_some]
  unfold inX mixOf
  simp only [hd, mkOf_mkD hx, Option.map_some, Bool.false_eq_true, if_false, hasM_set]
theorem k_opens {C : Hm} (W : WH C) {ks : List Int} {bx : List Box} (g : Gb ks bx) {x : Th} (hx : OkT x) {b : Bool} (hb : b = true ↔ Cl ks bx x) {ml : MA} {E : Ev} (he : ml E C = some ([keysD ks, boxesD bx, mkD x], C)) : mKeep (mCall M_opens ml) E C = some (.bl b, C) := by
  obtain ⟨b', C', e, P, hb'⟩ := opens_ok W g hx
  have : b = b' := Bool.eq_iff_iff.mpr (hb.trans hb'.symm)
  subst this
  exact kcallD W he e P rfl
end G
set_option Elab.async false
set_option linter.all false
set_option maxRecDepth 100000
set_option maxHeartbeats 4000000
namespace G
open PySem L2 Mi
theorem lc_st {it : Itm} {tg : MG} {tt : MT} {elt : ME} {E : Ev} (ds : List D) (Inv : Nat → List D → Hm → Prop) (hi : ∀ i acc C, Inv i acc C → it.at C i = some ds[i]?) (hl : ds.length ≤ sizeLine)
    (step : ∀ i x acc C, ds[i]? = some x → Inv i acc C → ∃ E1, tg x E = some E1 ∧ wpo (tt E1 C) fun p => if p.1 = true then wpo (elt E1 p.2) fun q => Inv (i + 1) (acc ++ [q.1]) q.2 else Inv (i + 1) acc p.2) :
    ∀ (n i : Nat) (acc : List D) (C : Hm), i + n = ds.length → acc.length ≤ i → Inv i acc C → wpo (lcLoop it tg tt elt E (n + 1) i acc C) fun r => Inv ds.length r.1 r.2
  | 0, i, acc, C, e, ha, h => by
    unfold lcLoop
    rw [hi i acc C h, bind_eq rfl]
    have : ds[i]? = none := List.getElem?_eq_none_iff.mpr (by omega)
    rw [this]
    have : i = ds.length := by omega
    subst this
    exact wpo_some.mpr h
  | n + 1, i, acc, C, e, ha, h => by
    have hlt : i < ds.length := by omega
    unfold lcLoop
    rw [hi i acc C h, bind_eq rfl]
    have e1 : ds[i]? = some ds[i] := by simp [hlt]
    rw [e1]
    obtain ⟨E1, q1, p, q2, q3⟩ := step i _ acc C e1 h
    simp only
    rw [q1, bind_eq rfl, q2, bind_eq rfl]
    cases q : p.1 with
    | true =>
      simp only [if_true]
      rw [q] at q3
      simp only [if_true] at q3
      obtain ⟨r, q4, q5⟩ := q3
      rw [q4, bind_eq rfl, if_pos (by omega)]
      exact lc_st ds Inv hi hl step n (i + 1) _ _ (by omega) (by simp; omega) q5
    | false =>
      simp only [Bool.false_eq_true, if_false]
      rw [q] at q3
      simp only [Bool.false_eq_true, if_false] at q3
      exact lc_st ds Inv hi hl step n (i + 1) _ _ (by omega) (by omega) q3
/-! ## openable -/
def opn1 (ks : List Int) (b : Box) : Bool := b.2.all fun k => decide (k ∈ ks)
def opbl (ks : List Int) (bx : List Box) : List Nat := (List.range bx.length).filter fun b => opn1 ks (bx.getD b (.i 0, []))
theorem opbl_mem {ks : List Int} {bx : List Box} {b : Nat} : b ∈ opbl ks bx ↔ ∃ h : b < bx.length, ∀ k ∈ bx[b].2, k ∈ ks := by
  simp only [opbl, List.mem_filter, List.mem_range, opn1, List.all_eq_true, decide_eq_true_iff]
  constructor
  · rintro ⟨h, k⟩
    refine ⟨h, ?_⟩
    simpa [h] using k
  · rintro ⟨h, k⟩
    refine ⟨h, ?_⟩
    simpa [h] using k
theorem blsOf_bls : ∀ bs : List Bool, blsOf (bs.map .bl) = some bs
  | [] => rfl
  | n :: ns => by simp [blsOf, blsOf_bls ns]
abbrev TSTO : MT := (mTru (mCallB (allD fun bs => bs.all id) (mCons (mLc (mIAny (mBin ixD (mVar 5) (mC (.int 1)))) (gN 3) mYes (mBin (inX false) (mVar 3) (mVar 2)) [3]) mNil)))
theorem tsto {C : Hm} {n : Nat} {ks : List Int} {b : Box} {x0 x1 x3 x4 : Option D} (hc : C[n]? = some (.dix (setD (ks.map .i)))) (hl : b.2.length ≤ 1000) :
    ∃ ds, (∀ d ∈ ds, ∃ c, d = D.bl c) ∧ TSTO [x0, x1, some (.cell n), x3, x4, some (boxD b)] C = some (opn1 ks b, C ++ [.lst ds]) := by
  have z := szL
  refine ⟨b.2.map fun k => .bl (decide (k ∈ ks)), fun d hd => ?_, ?_⟩
  · obtain ⟨k, _, rfl⟩ := List.mem_map.mp hd; exact ⟨_, rfl⟩
  have e1 := lc_any (me := mBin ixD (mVar 5) (mC (.int 1))) (tg := gN 3) (tt := mYes) (elt := mBin (inX false) (mVar 3) (mVar 2)) (vs := [3]) (E := [x0, x1, some (.cell n), x3, x4, some (boxD b)]) (C := C) (d := .tup (b.2.map .int)) (b.2.map .int) (fun _ => true) (fun d => match d with | .int k => .bl (decide (k ∈ ks)) | _ => .non) (by
      show ixD (boxD b) (.int 1) C = _
      unfold ixD boxD
      rfl) rfl (by rw [List.length_map]; omega) (fun x hx => by
      obtain ⟨k, hk, rfl⟩ := List.mem_map.mp hx
      refine ⟨_, rfl, rfl, fun _ => ?_⟩
      show inX false (.int k) (.cell n) C = _
      unfold inX mixOf
      simp only [hc]
      show some (D.bl (if false = true then _ else hasM (setD (ks.map .i)) (.i k)), C) = _
      rw [hasM_set]
      simp)
  have ft : ∀ l : List D, l.filter (fun _ => true) = l := fun l => List.filter_eq_self.mpr (by simp)
  rw [ft, List.map_map] at e1
  have em : (b.2.map ((fun d => match d with | D.int k => D.bl (decide (k ∈ ks)) | _ => .non) ∘ D.int)) = (b.2.map fun k => decide (k ∈ ks)).map .bl := by
    rw [List.map_map]; rfl
  rw [em] at e1
  have e2 : (b.2.map fun k => D.bl (decide (k ∈ ks))) = (b.2.map fun k => decide (k ∈ ks)).map .bl := by rw [List.map_map]; rfl
  rw [e2]
  refine truB ?_
  unfold mCallB
  show ((mLc _ _ _ _ _ _ C).bind fun p => _).bind _ = _
  rw [e1]
  simp only [mNil, Option.bind_some, Option.map_some]
  unfold allD
  simp only [last_get, blsOf_bls, Option.map_some]
  have : (b.2.map fun k => decide (k ∈ ks)).all id = opn1 ks b := by rw [List.all_map]; rfl
  rw [this]
theorem openable_ok {C : Hm} (W : WH C) {ks : List Int} {bx : List Box} (nd : ks.Nodup) (n1 : ks.length ≤ 1000) (n2 : bx.length ≤ 1000) (n3 : ∀ b ∈ bx, b.2.length ≤ 1000) : ∃ C', M_openable [keysD ks, boxesD bx] C = some (.tup (wtD (opbl ks bx)), C') ∧ Pr C C' := by
  have z := szL
  suffices h : wpo (M_openable [keysD ks, boxesD bx] C) fun r => r.1 = .tup (wtD (opbl ks bx)) ∧ Pr C r.2 by
    obtain ⟨⟨d, C'⟩, e, rfl, P⟩ := h
    exact ⟨C', e, P⟩
  refine wFn rfl (show wpo (B_openable [some (keysD ks), some (boxesD bx), none, none, none, none] C) _ from ?_)
  refine wSeq (wAsg (wpo_eq (dc_keys (i := 3) (E := [some (keysD ks), some (boxesD bx), none, none, none, none]) (ks := ks) rfl nd (by simp) n1) ?_))
  have P1 : Pr C (C ++ [Cell.dix (setD (ks.map .i))]) := (Pr.refl W).app (setD_bnd _ _)
  refine wRet (wCallB (wCons ?_))
  show wpo (mLc (mIEnum (mCons (mVar 1) mNil)) (gT 2 (gsCons (gN 4) (gsCons (gN 5) gsNil))) TSTO (mVar 4) [4, 5] [some (keysD ks), some (boxesD bx), some (.cell C.length), none, none, none] (C ++ [Cell.dix (setD (ks.map .i))])) _
  unfold mLc mIEnum
  rw [show mCons (mVar 1) mNil [some (keysD ks), some (boxesD bx), some (.cell C.length), none, none, none] (C ++ [Cell.dix (setD (ks.map .i))]) = some ([boxesD bx], C ++ [Cell.dix (setD (ks.map .i))]) from rfl]
  simp only [Option.bind_some, boxesD]
  have el : (enD 0 (bx.map boxD)).length = (bx.map boxD).length := by
    have key : ∀ (k : Int) (l : List D), (enD k l).length = l.length := by
      intro k l
      induction l generalizing k with
      | nil => rfl
      | cons d l ih => simp [enD, ih]
    exact key 0 _
  have ll := lc_st (it := .seq (enD 0 (bx.map boxD))) (tg := gT 2 (gsCons (gN 4) (gsCons (gN 5) gsNil))) (tt := TSTO) (elt := mVar 4) (E := wipeE [some (keysD ks), some (boxesD bx), some (.cell C.length), none, none, none] [4, 5]) (enD 0 (bx.map boxD)) (fun i acc C' => acc = wtD ((List.range i).filter fun b => opn1 ks (bx.getD b (.i 0, []))) ∧ Pr C C' ∧ C'[C.length]? = some (.dix (setD (ks.map .i)))) (fun _ _ _ _ => rfl) (by rw [el, List.length_map]; omega) (by
    rintro i x acc C' hx ⟨rfl, P, hc⟩
    rw [enD_map] at hx
    obtain ⟨b, hb, rfl⟩ := omap hx
    obtain ⟨hi, rfl⟩ := List.getElem?_eq_some_iff.mp hb
    refine ⟨_, rfl, ?_⟩
    obtain ⟨ds, hds, e⟩ := tsto (C := C') (n := C.length) (ks := ks) (b := bx[i]) (x0 := some (keysD ks)) (x1 := some (boxesD bx)) (x3 := none) (x4 := some (.int (i : Int))) hc (n3 _ (List.getElem_mem hi))
    refine wpo_eq e ?_
    have P' : Pr C (C' ++ [.lst ds]) := P.app (bnds_iff.mpr fun d hd => by obtain ⟨c, rfl⟩ := hds d hd; rfl)
    have eg : bx.getD i (.i 0, []) = bx[i] := by simp [hi]
    rw [List.range_succ, List.filter_append]
    cases q : opn1 ks bx[i] with
    | true =>
      simp only [if_true]
      refine wpo_eq (show mVar 4 _ _ = some (D.int (i : Int), C' ++ [.lst ds]) from rfl) ⟨?_, P', get_app hc⟩
      simp [wtD, hi, q]
    | false =>
      simp only [Bool.false_eq_true, if_false]
      refine ⟨?_, P', get_app hc⟩
      simp [wtD, hi, q]) (bx.map boxD).length 0 [] (C ++ [Cell.dix (setD (ks.map .i))]) (by omega) (by simp) ⟨rfl, P1, last_get⟩
  refine wpo_bind.mpr (wpo_mono ll ?_)
  rintro ⟨acc, C'⟩ ⟨e1, P, hc⟩
  simp only at e1 P hc
  subst e1
  rw [el, List.length_map]
  refine wpo_some.mpr (wNil ?_)
  refine wpo_eq (x := (.tup (wtD (opbl ks bx)), C' ++ [.lst (wtD (opbl ks bx))])) ?_ ⟨_, _, rfl, rfl, P.app (c := .lst (wtD (opbl ks bx))) (bnds_iff.mpr fun d hd => by obtain ⟨c, _, rfl⟩ := List.mem_map.mp hd; rfl)⟩
  unfold tupleD seqOf
  simp only [last_get, Option.map_some]
  rfl
theorem wtD_bnd (l : List Nat) (n : Nat) : (D.tup (wtD l)).bnd n = true := bnds_iff.mpr fun d hd => by obtain ⟨c, _, rfl⟩ := List.mem_map.mp hd; rfl
theorem k_openable {C : Hm} (W : WH C) {ks : List Int} {bx : List Box} (nd : ks.Nodup) (n1 : ks.length ≤ 1000) (n2 : bx.length ≤ 1000) (n3 : ∀ b ∈ bx, b.2.length ≤ 1000) {ml : MA} {E : Ev} (he : ml E C = some ([keysD ks, boxesD bx], C)) : mKeep (mCall M_openable ml) E C = some (.tup (wtD (opbl ks bx)), C) := by
  obtain ⟨C', e, P⟩ := openable_ok W nd n1 n2 n3
  exact kcallD W he e P (wtD_bnd _ _)
end G
set_option Elab.async false
set_option linter.all false
set_option maxRecDepth 100000
set_option maxHeartbeats 4000000
namespace G
open PySem L2 Mi
/-! ## slices, sums -/
theorem sl_back {E : Ev} {C : Hm} {i : Nat} {ds : List D} (h : E[i]? = some (some (.tup ds))) : mSl3 (mVar i) oNone oNone (oSome (mUn negD (mC (.int 1)))) E C = some (.tup ds.reverse, C) := by
  unfold mSl3
  rw [var_at h]
  simp only [Option.bind_some]
  show sl3D (.tup ds) none none (some (-1)) C = _
  unfold sl3D
  simp only
  rw [if_pos (by decide)]
theorem sl_lo {E : Ev} {C : Hm} {i : Nat} {ds : List D} {k : Int} {m : ME} (h : E[i]? = some (some (.tup ds))) (hm : m E C = some (.int k, C)) : mSl slD (mVar i) (oSome m) oNone E C = some (.tup (cutD ds (some k) none), C) := by
  unfold mSl oSome oNone
  rw [var_at h]
  simp only [Option.bind_some]
  rw [hm]
  rfl
theorem sl_hi {E : Ev} {C : Hm} {i : Nat} {ds : List D} {k : Int} {m : ME} (h : E[i]? = some (some (.tup ds))) (hm : m E C = some (.int k, C)) : mSl slD (mVar i) oNone (oSome m) E C = some (.tup (cutD ds none (some k)), C) := by
  unfold mSl oSome oNone
  rw [var_at h]
  simp only [Option.bind_some]
  rw [hm]
  rfl
theorem sl_at {E : Ev} {C : Hm} {i : Nat} {ds : List D} {k j : Int} {m m' : ME} (h : E[i]? = some (some (.tup ds))) (hm : m E C = some (.int k, C)) (hm' : m' E C = some (.int j, C)) : mSl slD (mVar i) (oSome m) (oSome m') E C = some (.tup (cutD ds (some k) (some j)), C) := by
  unfold mSl oSome
  rw [var_at h]
  simp only [Option.bind_some]
  rw [hm]
  simp only [Option.bind_some]
  rw [hm']
  rfl
theorem add_tt {C : Hm} {xs ys : List D} (h : xs.length + ys.length ≤ sizeLine) : addD (.tup xs) (.tup ys) C = some (.tup (xs ++ ys), C) := by
  unfold addD
  simp only
  rw [if_pos h]
theorem add_m {m n : ME} {E : Ev} {C : Hm} {xs ys : List D} (h1 : m E C = some (.tup xs, C)) (h2 : n E C = some (.tup ys, C)) (h : xs.length + ys.length ≤ sizeLine) : mBin addD m n E C = some (.tup (xs ++ ys), C) := by
  unfold mBin
  rw [h1]; simp only [Option.bind_some]; rw [h2]; simp only [Option.bind_some]
  exact add_tt h
theorem lo_take {ds : List D} {k : Nat} : cutD ds none (some (k : Int)) = ds.take k := by
  unfold cutD
  rw [HT.sIx_none, HT.sIx_nat]
  simp
theorem hi_drop {ds : List D} {k : Nat} : cutD ds (some (k : Int)) none = ds.drop k := by
  unfold cutD
  rw [HT.sIx_none, HT.sIx_nat]
  by_cases h : k ≤ ds.length
  · rw [Nat.min_eq_left h]
    exact List.take_of_length_le (by simp)
  · rw [Nat.min_eq_right (by omega), List.drop_eq_nil_of_le (Nat.le_refl _), List.drop_eq_nil_of_le (by omega)]
    simp
theorem cut_one {ds : List D} {k : Nat} (h : k < ds.length) : cutD ds (some (k : Int)) (some ((k + 1 : Nat) : Int)) = [ds[k]] := by
  unfold cutD
  rw [HT.sIx_nat, HT.sIx_nat, Nat.min_eq_left (by omega), Nat.min_eq_left (by omega), List.drop_eq_getElem_cons h, show k + 1 - k = 1 by omega]
  rfl
/-! ## membership -/
theorem mapM_pyT {C : Hm} {n : Nat} : ∀ {l : List Th}, (∀ x ∈ l, OkT x) → (l.map mkD).mapM (py C (n + 2)) = some (l.map pyT)
  | [], _ => rfl
  | x :: r, h => by
    rw [List.map_cons, List.mapM_cons, py_mkD (h x (by simp)), mapM_pyT (l := r) fun y hy => h y (by simp [hy])]
    rfl
theorem py_ths {C : Hm} {n : Nat} {l : List Th} (h : ∀ x ∈ l, OkT x) : py C (n + 3) (.tup (l.map mkD)) = some (.tuple (l.map pyT)) := by
  show ((l.map mkD).mapM (py C (n + 2))).map PyData.tuple = _
  rw [mapM_pyT h]; rfl
theorem lay_pyT {x : Th} (h : OkT x) : (pyT x).canLay0 = true := by
  cases x with
  | i k => rfl
  | t ks =>
    obtain ⟨s, i, rfl, _, hs, _⟩ := h
    simp [pyT, MD.kData, PyData.canLay0, PyData.canLayAll0, hs]
theorem any_pyT {x : Th} (hx : OkT x) : ∀ {l : List Th}, (∀ y ∈ l, OkT y) → ((l.map pyT).any fun z => PyData.eqv z (pyT x)) = decide (x ∈ l)
  | [], _ => by simp
  | y :: r, h => by
    rw [List.map_cons, List.any_cons, any_pyT hx fun z hz => h z (by simp [hz]), eqv_pyT (h y (by simp)) hx]
    by_cases e : y = x
    · subst e; simp
    · have : ¬ x = y := fun z => e z.symm
      simp [e, this]
theorem sh_list {n : Nat} {C : Hm} {l : List Th} (h : ∀ x ∈ l, OkT x) : SeqAt.shaped (.list (l.map pyT)) = true ∧ SeqAt.shaped (.tuple (l.map pyT)) = true := by
  have lay : PyData.canLayAll0 (l.map pyT) = true := layAll_iff.mpr fun p hp => by
    obtain ⟨x, hx, rfl⟩ := List.mem_map.mp hp
    exact lay_pyT (h x hx)
  have t : SeqAt.shaped (.tuple (l.map pyT)) = true := shaped_of (py_ths (C := C) (n := 0) h) (by simpa [PyData.canLay0] using lay) (by omega)
  refine ⟨?_, t⟩
  simp only [SeqAt.shaped, PyData.canLay0, PyData.depth, Bool.and_eq_true] at t ⊢
  exact t
theorem inD_th {C : Hm} {neg : Bool} {x : Th} {l : List Th} (hx : OkT x) (h : ∀ y ∈ l, OkT y) : inD neg (mkD x) (.tup (l.map mkD)) C = some (.bl (if neg = true then !decide (x ∈ l) else decide (x ∈ l)), C) := by
  unfold inD
  rw [show py C 70 (mkD x) = some (pyT x) from py_mkD (n := 68) hx, show py C 70 (.tup (l.map mkD)) = some (.tuple (l.map pyT)) from py_ths (n := 67) h]
  simp only [Option.bind_some, itemsP]
  rw [if_pos ⟨shaped_of (py_mkD (C := C) (n := 0) hx) (lay_pyT hx) (by omega), (sh_list (n := 0) (C := C) h).1⟩, any_pyT hx h]
theorem ints_ths (ks : List Int) : ks.map D.int = (ks.map MD.MK.i).map mkD := by rw [List.map_map]; rfl
theorem ok_ints {ks : List Int} (h : ∀ k ∈ ks, 0 ≤ k) : ∀ x ∈ ks.map MD.MK.i, OkT x := fun x hx => by
  obtain ⟨k, hk, rfl⟩ := List.mem_map.mp hx
  exact h k hk
/-- the pair's data -/
structure Gp (K : List Int) (T : List Th) : Prop where
  k0 : ∀ k ∈ K, 0 ≤ k
  ok : ∀ x ∈ T, OkT x
  nt : ∀ x ∈ T, isKeyT x = false
theorem Opn.gp {ks : List Int} {bx : List Box} {K : List Int} {T : List Th} (g : Gb ks bx) (o : Opn ks bx K T) : Gp K T :=
  ⟨fun k hk => cl_ok g ((o.mem k).mp hk), fun x hx => cl_ok g ((o.memT x).mp hx).1, fun x hx => ((o.memT x).mp hx).2⟩
theorem gd_ths {C : Hm} {n : Nat} {l : List Th} (h : ∀ x ∈ l, OkT x) : Gd C (n + 3) (.tup (l.map mkD)) := Gd.tup.mpr fun d hd => by
  obtain ⟨x, hx, rfl⟩ := List.mem_map.mp hd
  exact (gs_mkD (n := n) (h x hx)).gd
theorem gd_opn {C : Hm} {n : Nat} {K : List Int} {T : List Th} (g : Gp K T) : Gd C (n + 4) (opnD K T) := Gd.tup.mpr fun d hd => by
  simp only [List.mem_cons, List.not_mem_nil, or_false] at hd
  rcases hd with rfl | rfl
  · show Gd C (n + 3) (.tup (K.map .int))
    rw [ints_ths]
    exact gd_ths (ok_ints g.k0)
  · exact gd_ths g.ok
theorem cmp_same {C : Hm} {n : Nat} {f : PyData → PyData → Bool} {ds : List D} (g : Gd C n (.tup ds)) (hn : n ≤ 64) : ∃ p, PyData.eqv p p = true ∧ cmpD f (.tup ds) (.tup ds) C = some (.bl (f p p), C) := by
  obtain ⟨p, e, l⟩ := g
  refine ⟨p, PySem.SeqAt.eqv_refl p l, ?_⟩
  unfold cmpD
  rw [py_up LeH.refl (show n ≤ 70 by omega) e]
  simp only
  rw [if_pos ⟨shaped_of e l hn, shaped_of e l hn⟩]
theorem eq_same {C : Hm} {n : Nat} {ds : List D} (g : Gd C n (.tup ds)) (hn : n ≤ 64) : dEq (.tup ds) (.tup ds) C = some (.bl true, C) := by
  obtain ⟨p, e1, e2⟩ := cmp_same (f := fun p q => PyData.eqv p q) g hn
  show cmpD _ _ _ _ = _
  rw [e2, e1]
theorem ne_same {C : Hm} {n : Nat} {ds : List D} (g : Gd C n (.tup ds)) (hn : n ≤ 64) : dNe (.tup ds) (.tup ds) C = some (.bl false, C) := by
  obtain ⟨p, e1, e2⟩ := cmp_same (f := fun p q => !PyData.eqv p q) g hn
  show cmpD _ _ _ _ = _
  rw [e2, e1]; rfl
theorem eq_opn {C : Hm} {K : List Int} {T : List Th} (g : Gp K T) : dEq (opnD K T) (opnD K T) C = some (.bl true, C) := eq_same (gd_opn (n := 0) g) (by omega)
theorem ne_opn {C : Hm} {K : List Int} {T : List Th} (g : Gp K T) : dNe (opnD K T) (opnD K T) C = some (.bl false, C) := ne_same (gd_opn (n := 0) g) (by omega)
/-! ## names in order -/
theorem kText_mkD {x : Th} (h : OkT x) (k : isKeyT x = false) : kText (mkD x) = true := by
  cases x with
  | i _ => cases k
  | t ks =>
    obtain ⟨s, i, rfl, hn, _, hi⟩ := h
    show (kName (.str s) && kNum (.int i)) = true
    rw [hn]; simpa [kNum] using hi
theorem law_paged_true {C : Hm} (W : WH C) {T : List Th} (ok : ∀ x ∈ T, OkT x) (nt : ∀ x ∈ T, isKeyT x = false) (up : T.Pairwise ltT) (hl : T.length ≤ sizeLine) : ∃ k, M_law_paged [.tup (T.map mkD)] C = some (.bl true, C ++ k) := by
  have all : ∀ x ∈ T.map mkD, kText x = true := fun x hx => by
    obtain ⟨i, hi, rfl⟩ := List.mem_map.mp hx
    exact kText_mkD (ok i hi) (nt i hi)
  have a := emp_any (me := mVar 0) (i := 1) (vs := [1]) (E := [some (.tup (T.map mkD)), none]) (C := C) (tt := tNotM (mTru (mKeep (mCall M_law_page (mCons (mVar 1) mNil))))) (fun x => !kText x) rfl (show walkD C (.tup (T.map mkD)) = some (T.map mkD) from rfl) (by simpa using hl) (by simp [wipeE]) (by
    intro x hx
    obtain ⟨i, hi, rfl⟩ := List.mem_map.mp hx
    exact ntru (k_law_page W (gs_mkD (n := 0) (ok i hi)) (ml := mCons (mVar 1) mNil) (E := [some (.tup (T.map mkD)), some (mkD i)]) rfl)) (fun x hx => by
      obtain ⟨i, hi, rfl⟩ := List.mem_map.mp hx
      exact (gs_mkD (n := 58) (ok i hi)).gd)
  simp only [Bool.not_not] at a
  have e0 : (mCallB isiD (mCons (mVar 0) (mCons (mC (.ty .tup)) mNil))) [some (.tup (T.map mkD)), none] C = some (.bl true, C) := by simp [mCallB, mCons, mNil, mVar, mC, isiD, kyD, isiK, notNon]
  have W2 : WH (C ++ [.lst ((T.map mkD).filter fun x => !kText x)] ++ [.lst []]) := by
    refine (W.app ?_).app rfl
    refine bnds_iff.mpr fun x hx => ?_
    obtain ⟨i, hi, rfl⟩ := List.mem_map.mp (List.mem_filter.mp hx).1
    exact mkD_bnd _ _
  obtain ⟨_, r⟩ := law_rises_true (C := C ++ [.lst ((T.map mkD).filter fun x => !kText x)] ++ [.lst []]) (rowT (ds := T.map mkD)) (fun i a b h1 h2 => by
    rw [List.getElem?_map] at h1 h2
    obtain ⟨x, e1, rfl⟩ := omap h1
    obtain ⟨y, e2, rfl⟩ := omap h2
    have lt : ltT x y := by
      obtain ⟨l1, rfl⟩ := List.getElem?_eq_some_iff.mp e1
      obtain ⟨l2, rfl⟩ := List.getElem?_eq_some_iff.mp e2
      exact List.pairwise_iff_getElem.mp up i (i + 1) l1 l2 (Nat.lt_succ_self _)
    have ox := ok x (List.mem_of_getElem? e1)
    have oy := ok y (List.mem_of_getElem? e2)
    have nx := nt x (List.mem_of_getElem? e1)
    have ny := nt y (List.mem_of_getElem? e2)
    have ex := py_mkD (C := C ++ [.lst ((T.map mkD).filter fun x => !kText x)] ++ [.lst []]) (n := 58) ox
    have ey := py_mkD (C := C ++ [.lst ((T.map mkD).filter fun x => !kText x)] ++ [.lst []]) (n := 58) oy
    have al := alike_pyT ox oy nx ny
    have dp := Nat.le_trans (py_depth (py_mkD (C := C) (n := 0) ox)) (show 2 ≤ 60 by decide)
    cases x with
    | i _ => cases nx
    | t ks =>
      cases y with
      | i _ => cases ny
      | t js =>
        show ordX dGe (fun p q => !PySem.W.dataLt p q) (.tup (ks.map partD)) (.tup (js.map partD)) _ = _
        unfold ordX
        simp only
        rw [show py _ 60 (.tup (ks.map partD)) = _ from ex, show py _ 60 (.tup (js.map partD)) = _ from ey]
        simp only
        rw [if_pos ⟨al, dp⟩, show PySem.W.dataLt (pyT (.t ks)) (pyT (.t js)) = true from lt]
        rfl) (by simpa using hl)
  have q : (T.map mkD).all kText = true := List.all_eq_true.mpr all
  have key : B_law_paged [some (.tup (T.map mkD)), none] C = some (.rt (.bl true) (C ++ [.lst ((T.map mkD).filter fun x => !kText x)] ++ [.lst []])) := by
    refine ret_eq (mAnd_tf e0 (fun _ => mAnd_tf a (fun _ => ?_) fun q' => by rw [q] at q'; cases q') fun z => by cases z)
    exact kcall W2 (v0 (E := [none])) r
  rw [List.append_assoc] at key
  exact ⟨_, fn_ret rfl key⟩
/-! ## one within another -/
theorem law_within_true {C : Hm} {K K' : List Int} {T T' : List Th} (g : Gp K T) (g' : Gp K' T') (h1 : ∀ k ∈ K, k ∈ K') (h2 : ∀ x ∈ T, x ∈ T') (l1 : K.length ≤ sizeLine) (l2 : T.length ≤ sizeLine) : ∃ k, M_law_within [opnD K T, opnD K' T'] C = some (.bl true, C ++ k) := by
  have a := emp_any (me := mBin ixD (mVar 0) (mC (.int 0))) (i := 2) (vs := [2]) (E := [some (opnD K T), some (opnD K' T'), none, none]) (C := C) (d := keysD K) (ds := K.map .int) (tt := mTest (mBin (inD true) (mVar 2) (mBin ixD (mVar 1) (mC (.int 0))))) (fun x => false) jx0 rfl (by simpa using l1) (by simp [wipeE]) (by
    intro x hx
    obtain ⟨k, hk, rfl⟩ := List.mem_map.mp hx
    refine tst_bl ?_
    show inD true (mkD (.i k)) (keysD K') C = _
    unfold keysD
    rw [ints_ths, inD_th (x := .i k) (g.k0 k hk) (ok_ints g'.k0)]
    simp [h1 k hk]) (fun x hx => by
      obtain ⟨i, hi, rfl⟩ := List.mem_map.mp hx
      exact ⟨.int i, rfl, rfl⟩)
  have b := emp_any (me := mBin ixD (mVar 0) (mC (.int 1))) (i := 3) (vs := [3]) (E := [some (opnD K T), some (opnD K' T'), none, none]) (C := C ++ [.lst ((K.map D.int).filter fun _ => false)] ++ [.lst []]) (d := .tup (T.map mkD)) (ds := T.map mkD) (tt := mTest (mBin (inD true) (mVar 3) (mBin ixD (mVar 1) (mC (.int 1))))) (fun x => false) jx1 rfl (by simpa using l2) (by simp [wipeE]) (by
    intro x hx
    obtain ⟨k, hk, rfl⟩ := List.mem_map.mp hx
    refine tst_bl ?_
    show inD true (mkD k) (.tup (T'.map mkD)) _ = _
    rw [inD_th (g.ok k hk) g'.ok]
    simp [h2 k hk]) (fun x hx => by
      obtain ⟨i, hi, rfl⟩ := List.mem_map.mp hx
      exact (gs_mkD (n := 58) (g.ok i hi)).gd)
  have t : ∀ l : List D, l.all (fun _ => !false) = true := fun l => List.all_eq_true.mpr fun _ _ => rfl
  rw [t] at a b
  have key : B_law_within [some (opnD K T), some (opnD K' T'), none, none] C = some (.rt (.bl true) (C ++ [.lst ((K.map D.int).filter fun _ => false)] ++ [.lst []] ++ [.lst ((T.map mkD).filter fun _ => false)] ++ [.lst []])) :=
    ret_eq (mAnd_tf a (fun _ => b) fun q' => by cases q')
  rw [List.append_assoc, List.append_assoc, List.append_assoc] at key
  exact ⟨_, fn_ret rfl key⟩
end G
set_option Elab.async false
set_option linter.all false
set_option maxRecDepth 100000
set_option maxHeartbeats 4000000
namespace G
open PySem L2 Mi
/-! ## evaluation, where the heap stays -/
theorem cons_eq {m : ME} {ml : MA} {E : Ev} {C : Hm} {d : D} {ds : List D} (h1 : m E C = some (d, C)) (h2 : ml E C = some (ds, C)) : mCons m ml E C = some (d :: ds, C) := by
  unfold mCons; rw [h1]; simp only [Option.bind_some]; rw [h2]; rfl
theorem nil_eq {E : Ev} {C : Hm} : mNil E C = some ([], C) := rfl
theorem tup_eq {ml : MA} {E : Ev} {C : Hm} {ds : List D} (h : ml E C = some (ds, C)) (hl : ds.length ≤ sizeLine) : mTup ml E C = some (.tup ds, C) := by
  unfold mTup mkTup; rw [h]; simp only [Option.bind_some]; rw [if_pos hl]
theorem bin_eq {op : OD2} {ma mb : ME} {E : Ev} {C : Hm} {x y : D} {r : Option (D × Hm)} (h1 : ma E C = some (x, C)) (h2 : mb E C = some (y, C)) (h : op x y C = r) : mBin op ma mb E C = r := by
  unfold mBin; rw [h1]; simp only [Option.bind_some]; rw [h2]; exact h
theorem asg_eq {m : ME} {i : Nat} {E : Ev} {C C' : Hm} {d : D} (h : m E C = some (d, C')) : mAsg m (gN i) E C = some (.nx (E.set i (some d)) C') := by
  unfold mAsg gN; rw [h]; rfl
theorem or_ff {t u : MT} {E : Ev} {C : Hm} (h1 : t E C = some (false, C)) (h2 : u E C = some (false, C)) : tOrM t u E C = some (false, C) := by
  unfold tOrM; rw [h1]; exact h2
theorem and_ff {t u : MT} {E : Ev} {C : Hm} {b : Bool} (h1 : t E C = some (b, C)) (h2 : b = true → u E C = some (false, C)) : tAndM t u E C = some (false, C) := by
  cases b with
  | false => exact and_f h1
  | true => rw [and_t h1]; exact h2 rfl
theorem ifs_f {t : MT} {m : MS} {E : Ev} {C : Hm} (h : t E C = some (false, C)) : mIfS t m mNext E C = some (.nx E C) := by
  unfold mIfS; rw [h]; rfl
theorem not_t {m : ME} {E : Ev} {C : Hm} (h : m E C = some (.bl true, C)) : tNotM (mTru m) E C = some (false, C) := ntru h
theorem k_within {C : Hm} (W : WH C) {K K' : List Int} {T T' : List Th} (g : Gp K T) (g' : Gp K' T') (h1 : ∀ k ∈ K, k ∈ K') (h2 : ∀ x ∈ T, x ∈ T') (l1 : K.length ≤ 1000) (l2 : T.length ≤ 1000) {ml : MA} {E : Ev} (he : ml E C = some ([opnD K T, opnD K' T'], C)) : mKeep (mCall M_law_within ml) E C = some (.bl true, C) := by
  have z := szL
  obtain ⟨_, e⟩ := law_within_true (C := C) g g' h1 h2 (by omega) (by omega)
  exact kcall W he e
/-! ## small enough -/
structure Sm (ks : List Int) (bx : List Box) : Prop where
  nd : ks.Nodup
  k0 : ∀ k ∈ ks, 0 ≤ k
  okg : ∀ b ∈ bx, OkT b.1
  ne : ∀ b ∈ bx, b.2 ≠ []
  b10 : ∀ b ∈ bx, b.2.length ≤ 10
  n1 : ks.length ≤ 400
  n2 : bx.length ≤ 50
theorem needs_10 : ∀ {bx : List Box}, (∀ b ∈ bx, b.2.length ≤ 10) → needs bx ≤ 10 * bx.length
  | [], _ => by simp [needs]
  | b :: r, h => by
    have h1 := h b (by simp)
    have h2 := needs_10 (bx := r) fun c hc => h c (by simp [hc])
    unfold needs at *
    simp only [List.map_cons, List.sum_cons, List.length_cons]
    omega
theorem Sm.gb {ks : List Int} {bx : List Box} (s : Sm ks bx) : Gb ks bx :=
  ⟨s.nd, s.k0, s.okg, s.ne, by have := s.n1; omega, by have := s.n2; omega, by have := needs_10 s.b10; have := s.n2; omega⟩
theorem Sm.sub {ks : List Int} {bx cx : List Box} (s : Sm ks bx) (h : ∀ b ∈ cx, b ∈ bx) (hl : cx.length ≤ 50) : Sm ks cx :=
  ⟨s.nd, s.k0, fun b hb => s.okg b (h b hb), fun b hb => s.ne b (h b hb), fun b hb => s.b10 b (h b hb), s.n1, hl⟩
theorem Opn.sm {ks : List Int} {bx : List Box} {K : List Int} {T : List Th} (o : Opn ks bx K T) (s : Sm ks bx) (hl : K.length ≤ 400) : Sm K bx :=
  ⟨o.up.imp fun h => by omega, (o.gp s.gb).k0, s.okg, s.ne, s.b10, hl, s.n2⟩
/-- opening again -/
theorem Opn.again {ks : List Int} {bx : List Box} {K : List Int} {T : List Th} (o : Opn ks bx K T) : Opn K bx K T := by
  have e : ∀ x, Cl K bx x ↔ Cl ks bx x := cl_again (fun k hk => (o.mem k).mpr (cl_key hk)) fun k hk => (o.mem k).mp hk
  exact ⟨o.up, o.upT, fun k => by rw [o.mem, e], fun x => by rw [o.memT, e]⟩
theorem Opn.set {ks : List Int} {bx cx : List Box} {K : List Int} {T : List Th} (o : Opn ks bx K T) (h : ∀ x, Cl ks cx x ↔ Cl ks bx x) : Opn ks cx K T :=
  ⟨o.up, o.upT, fun k => by rw [o.mem, h], fun x => by rw [o.memT, h]⟩
theorem opn_none {ks : List Int} (up : ks.Pairwise (· < ·)) : Opn ks [] ks [] :=
  ⟨up, .nil, fun k => by
    rw [cl_none]
    exact ⟨fun h => ⟨k, h, rfl⟩, fun ⟨j, hj, e⟩ => by cases e; exact hj⟩, fun x => by
    rw [cl_none]
    constructor
    · intro h; cases h
    · rintro ⟨⟨k, _, rfl⟩, h⟩; cases h⟩
theorem Opn.all {ks : List Int} {bx : List Box} {K : List Int} {T : List Th} (o : Opn ks bx K T) (x : Th) : x ∈ K.map MD.MK.i ++ T ↔ Cl ks bx x := by
  rw [List.mem_append, o.memT]
  constructor
  · rintro (h | h)
    · obtain ⟨k, hk, rfl⟩ := List.mem_map.mp h
      exact (o.mem k).mp hk
    · exact h.1
  · intro h
    cases x with
    | i k => exact .inl (List.mem_map.mpr ⟨k, (o.mem k).mpr h, rfl⟩)
    | t js => exact .inr ⟨h, rfl⟩
theorem Gp.all {K : List Int} {T : List Th} (g : Gp K T) : ∀ x ∈ K.map MD.MK.i ++ T, OkT x := fun x hx => by
  rcases List.mem_append.mp hx with h | h
  · exact ok_ints g.k0 x h
  · exact g.ok x h
theorem wtD_ths (l : List Nat) : wtD l = (l.map fun (b : Nat) => MD.MK.i (b : Int)).map mkD := by unfold wtD; rw [List.map_map]; rfl
theorem in_wt {C : Hm} {b : Nat} {l : List Nat} : inD false (.int (b : Int)) (.tup (wtD l)) C = some (.bl (decide (b ∈ l)), C) := by
  rw [wtD_ths]
  rw [show inD false (.int (b : Int)) (.tup ((l.map fun (b : Nat) => MD.MK.i (b : Int)).map mkD)) C = _ from inD_th (neg := false) (x := .i (b : Int)) (show (0 : Int) ≤ b by omega) fun y hy => by
    obtain ⟨c, _, rfl⟩ := List.mem_map.mp hy
    show (0 : Int) ≤ c
    omega]
  have : decide (MD.MK.i (b : Int) ∈ l.map fun (b : Nat) => MD.MK.i (b : Int)) = decide (b ∈ l) := by
    apply decide_eq_decide.mpr
    rw [List.mem_map]
    constructor
    · rintro ⟨c, hc, e⟩
      have : (c : Int) = b := by cases e; rfl
      have : c = b := by omega
      exact this ▸ hc
    · exact fun h => ⟨b, h, rfl⟩
  rw [this]
  rfl
theorem ne_bl {C : Hm} {b : Bool} : dNe (.bl b) (.bl b) C = some (.bl false, C) := by cases b <;> rfl
/-- the boxes that late names -/
def lates (bx ls : List Box) : List (List Box) := [bx.reverse, bx ++ bx.take 2, bx.drop 2 ++ bx.take 2, ls ++ bx]
theorem lates_mem {bx ls cx : List Box} (h : ∀ b ∈ ls, b ∈ bx) (hc : cx ∈ lates bx ls) (b : Box) : b ∈ cx ↔ b ∈ bx := by
  simp only [lates, List.mem_cons, List.not_mem_nil, or_false] at hc
  rcases hc with rfl | rfl | rfl | rfl
  · exact List.mem_reverse
  · rw [List.mem_append]
    exact ⟨fun h => h.elim id List.mem_of_mem_take, .inl⟩
  · rw [List.mem_append, Or.comm, ← List.mem_append, List.take_append_drop]
  · rw [List.mem_append]
    exact ⟨fun k => k.elim (h b) id, .inr⟩
theorem lates_len {bx ls cx : List Box} (h1 : bx.length ≤ 7) (h2 : ls.length ≤ 7) (hc : cx ∈ lates bx ls) : cx.length ≤ 50 := by
  simp only [lates, List.mem_cons, List.not_mem_nil, or_false] at hc
  rcases hc with rfl | rfl | rfl | rfl <;> simp <;> omega
abbrev LATES : ME := (mTup (mCons (mSl3 (mVar 2) oNone oNone (oSome (mUn negD (mC (.int 1))))) (mCons (mBin addD (mVar 2) (mSl slD (mVar 2) oNone (oSome (mC (.int 2))))) (mCons (mBin addD (mSl slD (mVar 2) (oSome (mC (.int 2))) oNone) (mSl slD (mVar 2) oNone (oSome (mC (.int 2))))) (mCons (mBin addD (mVar 3) (mVar 2)) mNil)))))
theorem lates_ok {E : Ev} {C : Hm} {bx ls : List Box} (h2 : E[2]? = some (some (boxesD bx))) (h3 : E[3]? = some (some (boxesD ls))) (l1 : bx.length ≤ 7) (l2 : ls.length ≤ 7) : LATES E C = some (.tup ((lates bx ls).map boxesD), C) := by
  have z := szL
  refine (tup_eq (ds := (lates bx ls).map boxesD) ?_ (by simp [lates]; omega))
  have a1 : mSl slD (mVar 2) oNone (oSome (mC (.int 2))) E C = some (.tup ((bx.map boxD).take 2), C) := by
    rw [sl_hi (m := mC (.int 2)) (k := ((2 : Nat) : Int)) h2 rfl, lo_take]
  have a2 : mSl slD (mVar 2) (oSome (mC (.int 2))) oNone E C = some (.tup ((bx.map boxD).drop 2), C) := by
    rw [sl_lo (m := mC (.int 2)) (k := ((2 : Nat) : Int)) h2 rfl, hi_drop]
  have t2 : ((bx.map boxD).take 2).length ≤ 7 := by simp; omega
  have d2 : ((bx.map boxD).drop 2).length ≤ 7 := by simp; omega
  have m1 : (bx.map boxD).length ≤ 7 := by simpa using l1
  have m2 : (ls.map boxD).length ≤ 7 := by simpa using l2
  rw [show (lates bx ls).map boxesD = [.tup (bx.map boxD).reverse, .tup (bx.map boxD ++ (bx.map boxD).take 2), .tup ((bx.map boxD).drop 2 ++ (bx.map boxD).take 2), .tup (ls.map boxD ++ bx.map boxD)] by
    simp [lates, boxesD, List.map_reverse, List.map_append, List.map_take, List.map_drop]]
  exact cons_eq (sl_back h2) (cons_eq (add_m (var_at h2) a1 (by omega)) (cons_eq (add_m a2 a1 (by omega)) (cons_eq (add_m (var_at h3) (var_at h2) (by omega)) rfl)))
end G
set_option Elab.async false
set_option linter.all false
set_option maxRecDepth 100000
set_option maxHeartbeats 4000000
namespace G
open PySem L2 Mi
structure Rt (ks ms : List Int) (bx ls : List Box) : Prop where
  s : Sm ks bx
  up : ks.Pairwise (· < ·)
  m : Sm ms bx
  sub : ∀ k ∈ ks, k ∈ ms
  lb : ∀ b ∈ ls, b ∈ bx
  l1 : bx.length ≤ 7
  l2 : ls.length ≤ 7
  kl : ks.length ≤ 100
abbrev GB : ME := (mBin ixD (mBin ixD (mVar 2) (mVar 7)) (mC (.int 0)))
abbrev PAIRX : ME := (mBin addD (mBin ixD (mVar 4) (mC (.int 0))) (mBin ixD (mVar 4) (mC (.int 1))))
theorem gb_at {E : Ev} {C : Hm} {bx : List Box} {b : Nat} (h2 : E[2]? = some (some (boxesD bx))) (h7 : E[7]? = some (some (.int (b : Int)))) (hb : b < bx.length) : GB E C = some (mkD bx[b].1, C) := by
  refine bin_eq (x := boxD bx[b]) (y := .int 0) (bin_eq (var_at h2) (var_at h7) ?_) rfl rfl
  have e1 : (bx.map boxD)[b]? = some (boxD bx[b]) := by simp [hb]
  unfold ixD boxesD
  simp only
  rw [atI_nat e1]; rfl
theorem pairx {E : Ev} {C : Hm} {K : List Int} {T : List Th} (h4 : E[4]? = some (some (opnD K T))) (hl : K.length + T.length ≤ 1000) : PAIRX E C = some (.tup ((K.map MD.MK.i ++ T).map mkD), C) := by
  have z := szL
  have e1 : mBin ixD (mVar 4) (mC (.int 0)) E C = some (.tup (K.map .int), C) := bin_eq (var_at h4) rfl rfl
  have e2 : mBin ixD (mVar 4) (mC (.int 1)) E C = some (.tup (T.map mkD), C) := bin_eq (var_at h4) rfl rfl
  rw [List.map_append, ← ints_ths]
  exact add_m e1 e2 (by simp; omega)
abbrev BODYB : MS := (mSeq (mAsg (mBin addD (mSl slD (mVar 2) oNone (oSome (mVar 7))) (mSl slD (mVar 2) (oSome (mBin addD (mVar 7) (mC (.int 1)))) oNone)) (gN 8))
    (mSeq (mIfS (tOrM (mTest (mBin dNe (mBin dEq (mKeep (mCall M_openable (mCons (mVar 0) (mCons (mSl slD (mVar 2) (oSome (mVar 7)) (oSome (mBin addD (mVar 7) (mC (.int 1))))) mNil)))) (mTup (mCons (mC (.int 0)) mNil))) (mBin (inD false) (mVar 7) (mVar 6)))) (tAndM (mTest (mBin (inD false) (mVar 7) (mVar 6))) (tNotM (mTru (mKeep (mCall M_opens (mCons (mVar 0) (mCons (mVar 2) (mCons (mBin ixD (mBin ixD (mVar 2) (mVar 7)) (mC (.int 0))) mNil))))))))) (mRet (mC (.bl false))) mNext)
    (mSeq (mIfS (tAndM (mTru (mKeep (mCall M_opens (mCons (mVar 0) (mCons (mVar 8) (mCons (mBin ixD (mBin ixD (mVar 2) (mVar 7)) (mC (.int 0))) mNil)))))) (mTest (mBin dNe (mKeep (mCall M_opened (mCons (mVar 0) (mCons (mVar 8) mNil)))) (mVar 4)))) (mRet (mC (.bl false))) mNext)
    (mIfS (mTest (mBin dNe (mKeep (mCall M_opens (mCons (mVar 0) (mCons (mVar 2) (mCons (mBin ixD (mBin ixD (mVar 2) (mVar 7)) (mC (.int 0))) mNil))))) (mBin (inD false) (mBin ixD (mBin ixD (mVar 2) (mVar 7)) (mC (.int 0))) (mBin addD (mBin ixD (mVar 4) (mC (.int 0))) (mBin ixD (mVar 4) (mC (.int 1))))))) (mRet (mC (.bl false))) mNext))))
theorem opbl_one {ks : List Int} {c : Box} : opbl ks [c] = if opn1 ks c = true then [0] else [] := by
  simp [opbl, List.range_succ]
  split <;> simp_all
theorem bodyB_ok {ks ms : List Int} {bx ls : List Box} {K : List Int} {T : List Th} {C : Hm} {b : Nat} {x5 x8 x9 : Option D} (W : WH C) (r : Rt ks ms bx ls) (o : Opn ks bx K T) (hl : K.length + T.length ≤ 200) (hb : b < bx.length) :
    BODYB [some (keysD ks), some (keysD ms), some (boxesD bx), some (boxesD ls), some (opnD K T), x5, some (.tup (wtD (opbl ks bx))), some (.int (b : Int)), x8, x9] C = some (.nx [some (keysD ks), some (keysD ms), some (boxesD bx), some (boxesD ls), some (opnD K T), x5, some (.tup (wtD (opbl ks bx))), some (.int (b : Int)), some (boxesD (bx.take b ++ bx.drop (b + 1))), x9] C) := by
  have z := szL
  have l1 := r.l1
  have gp := o.gp r.s.gb
  have okg : OkT bx[b].1 := r.s.okg _ (List.getElem_mem hb)
  have d1 : ∀ {E : Ev}, E[7]? = some (some (.int (b : Int))) → mBin addD (mVar 7) (mC (.int 1)) E C = some (.int ((b + 1 : Nat) : Int), C) := fun {E} h => bin_eq (var_at h) rfl rfl
  have s8 : mBin addD (mSl slD (mVar 2) oNone (oSome (mVar 7))) (mSl slD (mVar 2) (oSome (mBin addD (mVar 7) (mC (.int 1)))) oNone) [some (keysD ks), some (keysD ms), some (boxesD bx), some (boxesD ls), some (opnD K T), x5, some (.tup (wtD (opbl ks bx))), some (.int (b : Int)), x8, x9] C = some (boxesD (bx.take b ++ bx.drop (b + 1)), C) := by
    have e1 : mSl slD (mVar 2) oNone (oSome (mVar 7)) [some (keysD ks), some (keysD ms), some (boxesD bx), some (boxesD ls), some (opnD K T), x5, some (.tup (wtD (opbl ks bx))), some (.int (b : Int)), x8, x9] C = some (.tup ((bx.map boxD).take b), C) := by
      rw [sl_hi (ds := bx.map boxD) (k := (b : Int)) (m := mVar 7) rfl rfl, lo_take]
    have e2 : mSl slD (mVar 2) (oSome (mBin addD (mVar 7) (mC (.int 1)))) oNone [some (keysD ks), some (keysD ms), some (boxesD bx), some (boxesD ls), some (opnD K T), x5, some (.tup (wtD (opbl ks bx))), some (.int (b : Int)), x8, x9] C = some (.tup ((bx.map boxD).drop (b + 1)), C) := by
      rw [sl_lo (ds := bx.map boxD) (k := ((b + 1 : Nat) : Int)) (m := mBin addD (mVar 7) (mC (.int 1))) rfl (d1 rfl), hi_drop]
    rw [add_m e1 e2 (by simp; omega), boxesD, List.map_append, List.map_take, List.map_drop]
  unfold BODYB
  rw [seq_nx (asg_eq s8)]
  let E : Ev := [some (keysD ks), some (keysD ms), some (boxesD bx), some (boxesD ls), some (opnD K T), x5, some (.tup (wtD (opbl ks bx))), some (.int (b : Int)), some (boxesD (bx.take b ++ bx.drop (b + 1))), x9]
  show mSeq _ _ E C = some (.nx E C)
  have goal : GB E C = some (mkD bx[b].1, C) := gb_at (bx := bx) rfl rfl hb
  -- openable on its own
  have one : mSl slD (mVar 2) (oSome (mVar 7)) (oSome (mBin addD (mVar 7) (mC (.int 1)))) E C = some (boxesD [bx[b]], C) := by
    rw [sl_at (ds := bx.map boxD) (k := (b : Int)) (j := ((b + 1 : Nat) : Int)) (m := mVar 7) (m' := mBin addD (mVar 7) (mC (.int 1))) rfl rfl (d1 rfl), cut_one (by simpa using hb)]
    simp [boxesD]
  have s1 : Sm ks [bx[b]] := r.s.sub (fun c hc => by rw [List.mem_singleton.mp hc]; exact List.getElem_mem hb) (by simp)
  have oe : mKeep (mCall M_openable (mCons (mVar 0) (mCons (mSl slD (mVar 2) (oSome (mVar 7)) (oSome (mBin addD (mVar 7) (mC (.int 1))))) mNil))) E C = some (.tup (wtD (opbl ks [bx[b]])), C) :=
    k_openable W s1.nd (by have := s1.n1; omega) (by simp) (fun c hc => Nat.le_trans (s1.b10 c hc) (by omega)) (cons_eq rfl (cons_eq one rfl))
  have eq1 : mBin dEq (mKeep (mCall M_openable (mCons (mVar 0) (mCons (mSl slD (mVar 2) (oSome (mVar 7)) (oSome (mBin addD (mVar 7) (mC (.int 1))))) mNil)))) (mTup (mCons (mC (.int 0)) mNil)) E C = some (.bl (opn1 ks bx[b]), C) := by
    refine bin_eq oe (tup_eq (ds := [.int 0]) rfl (by show 1 ≤ sizeLine; omega)) ?_
    rw [opbl_one]
    cases opn1 ks bx[b] <;> rfl
  have mem : decide (b ∈ opbl ks bx) = opn1 ks bx[b] := by
    rw [Bool.eq_iff_iff, decide_eq_true_iff, opbl_mem]
    simp [opn1, hb]
  have in1 : mBin (inD false) (mVar 7) (mVar 6) E C = some (.bl (opn1 ks bx[b]), C) := by
    refine bin_eq (x := .int (b : Int)) (y := .tup (wtD (opbl ks bx))) rfl rfl ?_
    rw [in_wt, mem]
  have opg : ∀ {q : Bool}, (q = true ↔ Cl ks bx bx[b].1) → mKeep (mCall M_opens (mCons (mVar 0) (mCons (mVar 2) (mCons GB mNil)))) E C = some (.bl q, C) := fun {q} hq =>
    k_opens W r.s.gb okg hq (cons_eq rfl (cons_eq rfl (cons_eq goal rfl)))
  have opn1c : opn1 ks bx[b] = true → Cl ks bx bx[b].1 := fun h => cl_closed ks bx _ (List.getElem_mem hb) fun k hk => cl_key (of_decide_eq_true (List.all_eq_true.mp h k hk))
  have t1 : (tOrM (mTest (mBin dNe (mBin dEq (mKeep (mCall M_openable (mCons (mVar 0) (mCons (mSl slD (mVar 2) (oSome (mVar 7)) (oSome (mBin addD (mVar 7) (mC (.int 1))))) mNil)))) (mTup (mCons (mC (.int 0)) mNil))) (mBin (inD false) (mVar 7) (mVar 6)))) (tAndM (mTest (mBin (inD false) (mVar 7) (mVar 6))) (tNotM (mTru (mKeep (mCall M_opens (mCons (mVar 0) (mCons (mVar 2) (mCons GB mNil))))))))) E C = some (false, C) :=
    or_ff (tst_bl (bin_eq eq1 in1 ne_bl)) (and_ff (tst_bl in1) fun h => not_t (opg (q := true) ⟨fun _ => opn1c h, fun _ => rfl⟩))
  rw [seq_nx (ifs_f t1)]
  -- the rest
  have rs : ∀ c ∈ bx.take b ++ bx.drop (b + 1), c ∈ bx := fun c hc => (List.mem_append.mp hc).elim List.mem_of_mem_take List.mem_of_mem_drop
  have rl : (bx.take b ++ bx.drop (b + 1)).length ≤ 50 := by simp; omega
  have sr := r.s.sub rs rl
  have cov : ∀ c ∈ bx, c = bx[b] ∨ c ∈ bx.take b ++ bx.drop (b + 1) := fun c hc => by
    have e : bx = bx.take b ++ bx[b] :: bx.drop (b + 1) := by rw [← List.drop_eq_getElem_cons hb, List.take_append_drop]
    rw [e] at hc
    rcases List.mem_append.mp hc with h | h
    · exact .inr (List.mem_append_left _ h)
    · rcases List.mem_cons.mp h with h | h
      · exact .inl h
      · exact .inr (List.mem_append_right _ h)
  obtain ⟨q, hq⟩ : ∃ q : Bool, q = true ↔ Cl ks (bx.take b ++ bx.drop (b + 1)) bx[b].1 := by
    by_cases h : Cl ks (bx.take b ++ bx.drop (b + 1)) bx[b].1
    · exact ⟨true, fun _ => h, fun _ => rfl⟩
    · exact ⟨false, fun e => (Bool.false_ne_true e).elim, fun e => (h e).elim⟩
  have t2 : (tAndM (mTru (mKeep (mCall M_opens (mCons (mVar 0) (mCons (mVar 8) (mCons GB mNil)))))) (mTest (mBin dNe (mKeep (mCall M_opened (mCons (mVar 0) (mCons (mVar 8) mNil)))) (mVar 4)))) E C = some (false, C) := by
    refine and_ff (truB (k_opens W sr.gb okg hq (cons_eq rfl (cons_eq rfl (cons_eq goal rfl))))) fun h => ?_
    have o' : Opn ks (bx.take b ++ bx.drop (b + 1)) K T := o.set fun x => (cl_drop cov rs (hq.mp h) x).symm
    exact tst_bl (bin_eq (k_opened W sr.gb o' (cons_eq rfl (cons_eq rfl rfl))) rfl (ne_opn gp))
  rw [seq_nx (ifs_f t2)]
  have t3 : mTest (mBin dNe (mKeep (mCall M_opens (mCons (mVar 0) (mCons (mVar 2) (mCons GB mNil))))) (mBin (inD false) GB PAIRX)) E C = some (false, C) := by
    refine tst_bl (bin_eq (opg (q := decide (bx[b].1 ∈ K.map MD.MK.i ++ T)) (by rw [decide_eq_true_iff]; exact o.all _)) (bin_eq goal (pairx (K := K) (T := T) rfl (by omega)) (inD_th okg gp.all)) ne_bl)
  exact ifs_f t3
end G
set_option Elab.async false
set_option linter.all false
set_option maxRecDepth 100000
set_option maxHeartbeats 4000000
namespace G
open PySem L2 Mi
theorem opbl_up (ks : List Int) (bx : List Box) : (opbl ks bx).Pairwise (· < ·) := List.Pairwise.filter _ (List.pairwise_lt_range)
theorem opbl_len (ks : List Int) (bx : List Box) : (opbl ks bx).length ≤ bx.length := by
  have := List.length_filter_le (fun b => opn1 ks (bx.getD b (.i 0, []))) (List.range bx.length)
  simpa [opbl] using this
theorem eq_lists {C : Hm} {a b n : Nat} {ds : List D} (h1 : C[a]? = some (.lst ds)) (h2 : C[b]? = some (.lst ds)) (g : ∀ d ∈ ds, Gd C n d) (hn : n ≤ 60) : dEq (.cell a) (.cell b) C = some (.bl true, C) := by
  obtain ⟨p, e, l⟩ := (Gd.cell h1).mpr g
  have e2 : py C (n + 1) (.cell b) = some p := by
    unfold py at e ⊢
    simp only [h1] at e
    simp only [h2]
    exact e
  show cmpD _ _ _ _ = _
  unfold cmpD
  rw [py_up LeH.refl (show n + 1 ≤ 70 by omega) e, py_up LeH.refl (show n + 1 ≤ 70 by omega) e2]
  simp only
  rw [if_pos ⟨shaped_of e l (by omega), shaped_of e l (by omega)⟩, PySem.SeqAt.eqv_refl p l]
theorem srt_wt {l : List Nat} (up : l.Pairwise (· < ·)) : dedup (sortI (l.map fun (b : Nat) => (b : Int))) = l.map fun (b : Nat) => (b : Int) := by
  have up' : (l.map fun (b : Nat) => (b : Int)).Pairwise (· < ·) := List.Pairwise.map _ (fun a b h => by omega) up
  refine up_unique (dedup_up _ (sortI_up _)) up' fun k => ?_
  rw [dedup_mem, (sortI_perm _).mem_iff]
theorem wForR {ml : MA} {tg : MG} {body : MS} {E : Ev} {C : Hm} {Q : Out → Prop} (h : wpo (ml E C) fun q => ∃ j : Int, q.1 = [.int j] ∧ -(2 ^ 62) ≤ j ∧ j < 2 ^ 62 ∧ wpo (forLoop (.seq (rngD 0 j.toNat)) tg body ((rngD 0 j.toNat).length + 1) 0 E q.2) Q) : wpo (mFor (mIRng1 ml) tg body E C) Q := by
  obtain ⟨⟨ds, C1⟩, e, j, h1, h2, h3, h⟩ := h
  simp only at h1
  subst h1
  unfold mFor mIRng1
  rw [e]
  simp only [Option.bind_some]
  unfold iRng1D
  simp only
  rw [if_pos ⟨h2, h3⟩]
  simp only [Option.bind_some]
  have el : (rngD 0 j.toNat).length = j.toNat := by simp [rngD]
  rw [el] at h
  exact h
section
variable {C : Hm} {ks ms : List Int} {bx ls : List Box} {K : List Int} {T : List Th}
abbrev ER (ks ms : List Int) (bx ls : List Box) (K : List Int) (T : List Th) (x5 x6 x7 x8 x9 : Option D) : Ev := [some (keysD ks), some (keysD ms), some (boxesD bx), some (boxesD ls), some (opnD K T), x5, x6, x7, x8, x9]
theorem keysNone (h : (2 : Nat) ≤ sizeLine) {E : Ev} (h0 : E[0]? = some (some (keysD ks))) : mTup (mCons (mVar 0) (mCons (mTup mNil) mNil)) E C = some (opnD ks [], C) :=
  tup_eq (ds := [keysD ks, .tup (([] : List Th).map mkD)]) (cons_eq (var_at h0) (cons_eq (tup_eq (ds := []) rfl (Nat.zero_le _)) rfl)) h
theorem sz2 : (2 : Nat) ≤ sizeLine := by have := szL; omega
theorem x0_ {E : Ev} (h : E[4]? = some (some (opnD K T))) : mBin ixD (mVar 4) (mC (.int 0)) E C = some (keysD K, C) := bin_eq (var_at h) rfl rfl
theorem x1_ {E : Ev} (h : E[4]? = some (some (opnD K T))) : mBin ixD (mVar 4) (mC (.int 1)) E C = some (.tup (T.map mkD), C) := bin_eq (var_at h) rfl rfl
theorem gp_none (h : ∀ k ∈ ks, 0 ≤ k) : Gp ks [] := ⟨h, fun _ h => (by cases h), fun _ h => (by cases h)⟩
theorem rt1 {E : Ev} (W : WH C) (r : Rt ks ms bx ls) (o : Opn ks bx K T) (hl : K.length + T.length ≤ 200) (h0 : E[0]? = some (some (keysD ks))) (h4 : E[4]? = some (some (opnD K T))) :
    tOrM (tNotM (mTru (mKeep (mCall M_law_keyed (mCons (mBin ixD (mVar 4) (mC (.int 0))) mNil))))) (tOrM (tNotM (mTru (mKeep (mCall M_law_paged (mCons (mBin ixD (mVar 4) (mC (.int 1))) mNil))))) (tNotM (mTru (mKeep (mCall M_law_within (mCons (mTup (mCons (mVar 0) (mCons (mTup mNil) mNil))) (mCons (mVar 4) mNil))))))) E C = some (false, C) := by
  have z := szL
  have kl := r.kl
  have gp := o.gp r.s.gb
  obtain ⟨_, ke⟩ := law_keyed_true W gp.k0 o.up (by omega)
  obtain ⟨_, pe⟩ := law_paged_true W gp.ok gp.nt o.upT (by omega)
  exact or_ff (not_t (kcall W (cons_eq (x0_ h4) rfl) ke)) (or_ff (not_t (kcall W (cons_eq (x1_ h4) rfl) pe)) (not_t (k_within W (gp_none r.s.k0) gp (fun k hk => (o.mem k).mpr (cl_key hk)) (fun _ h => by cases h) (by omega) (Nat.zero_le _) (cons_eq (keysNone sz2 h0) (cons_eq (var_at h4) rfl)))))
theorem rt2 {E : Ev} (W : WH C) (r : Rt ks ms bx ls) (o : Opn ks bx K T) (hl : K.length + T.length ≤ 200) (h1 : E[1]? = some (some (keysD ms))) (h2 : E[2]? = some (some (boxesD bx))) (h4 : E[4]? = some (some (opnD K T))) :
    tOrM (mTest (mBin dNe (mKeep (mCall M_opened (mCons (mBin ixD (mVar 4) (mC (.int 0))) (mCons (mVar 2) mNil)))) (mVar 4))) (tNotM (mTru (mKeep (mCall M_law_within (mCons (mVar 4) (mCons (mKeep (mCall M_opened (mCons (mVar 1) (mCons (mVar 2) mNil)))) mNil)))))) E C = some (false, C) := by
  have l1 := r.l1
  have gp := o.gp r.s.gb
  have sK : Sm K bx := o.sm r.s (by omega)
  obtain ⟨K2, T2, o2, lo2⟩ := opn_ex W r.m.gb
  have gp2 := o2.gp r.m.gb
  have mono : ∀ {x}, Cl ks bx x → Cl ms bx x := fun h => cl_mono (fun k hk => cl_key (r.sub k hk)) (fun b hb => hb) h
  exact or_ff (tst_bl (bin_eq (k_opened W sK.gb o.again (cons_eq (x0_ h4) (cons_eq (var_at h2) rfl))) (var_at h4) (ne_opn gp))) (not_t (k_within W gp gp2 (fun k hk => (o2.mem k).mpr (mono ((o.mem k).mp hk))) (fun x hx => (o2.memT x).mpr ⟨mono ((o.memT x).mp hx).1, ((o.memT x).mp hx).2⟩) (by omega) (by omega) (cons_eq (var_at h4) (cons_eq (k_opened W r.m.gb o2 (cons_eq (var_at h1) (cons_eq (var_at h2) rfl))) rfl))))
theorem rt3 {E : Ev} (W : WH C) (r : Rt ks ms bx ls) (o : Opn ks bx K T) (hl : K.length + T.length ≤ 200) (h0 : E[0]? = some (some (keysD ks))) (h3 : E[3]? = some (some (boxesD ls))) (h4 : E[4]? = some (some (opnD K T))) :
    tOrM (tNotM (mTru (mKeep (mCall M_law_within (mCons (mKeep (mCall M_opened (mCons (mVar 0) (mCons (mVar 3) mNil)))) (mCons (mVar 4) mNil)))))) (mTest (mBin dNe (mKeep (mCall M_opened (mCons (mVar 0) (mCons (mTup mNil) mNil)))) (mTup (mCons (mVar 0) (mCons (mTup mNil) mNil))))) E C = some (false, C) := by
  have kl := r.kl
  have l2 := r.l2
  have gp := o.gp r.s.gb
  have sl := r.s.sub r.lb (by omega)
  obtain ⟨K3, T3, o3, lo3⟩ := opn_ex W sl.gb
  have gp3 := o3.gp sl.gb
  have less : ∀ {x}, Cl ks ls x → Cl ks bx x := fun h => cl_mono (fun k hk => cl_key hk) r.lb h
  have s0 : Sm ks [] := r.s.sub (fun _ h => by cases h) (Nat.zero_le _)
  exact or_ff (not_t (k_within W gp3 gp (fun k hk => (o.mem k).mpr (less ((o3.mem k).mp hk))) (fun x hx => (o.memT x).mpr ⟨less ((o3.memT x).mp hx).1, ((o3.memT x).mp hx).2⟩) (by omega) (by omega) (cons_eq (k_opened W sl.gb o3 (cons_eq (var_at h0) (cons_eq (var_at h3) rfl))) (cons_eq (var_at h4) rfl)))) (tst_bl (bin_eq (k_opened W s0.gb (opn_none r.up) (cons_eq (var_at h0) (cons_eq (tup_eq (ds := ([] : List Box).map boxD) rfl (Nat.zero_le _)) rfl))) (keysNone sz2 h0) (ne_opn (gp_none r.s.k0))))
abbrev LATEB : MS := (mIfS (mTest (mBin dNe (mKeep (mCall M_opened (mCons (mVar 0) (mCons (mVar 5) mNil)))) (mVar 4))) (mRet (mC (.bl false))) mNext)
theorem rl4 (W : WH C) (r : Rt ks ms bx ls) (o : Opn ks bx K T) {Q : Out → Prop} (k : ∀ x5, Q (.nx (ER ks ms bx ls K T x5 none none none none) C)) : wpo (mFor (mIAny LATES) (gN 5) LATEB (ER ks ms bx ls K T none none none none none) C) Q := by
  have l1 := r.l1
  have l2 := r.l2
  have gp := o.gp r.s.gb
  refine wForA (wpo_eq (lates_ok (bx := bx) (ls := ls) rfl rfl l1 l2) ⟨(lates bx ls).map boxesD, rfl, ?_⟩)
  refine for_at ((lates bx ls).map boxesD) (fun i E C' => ∃ x5, E = ER ks ms bx ls K T x5 none none none none ∧ C' = C) (fun _ _ _ _ => rfl) ?_ ?_ _ 0 _ _ (Nat.zero_add _) ⟨none, rfl, rfl⟩
  · rintro i x E C' hx ⟨x5, rfl, rfl⟩
    obtain ⟨cx, hc, rfl⟩ := List.mem_map.mp (List.mem_of_getElem? hx)
    have sc := r.s.sub (fun b hb => (lates_mem r.lb hc b).mp hb) (lates_len l1 l2 hc)
    have oc : Opn ks cx K T := o.set fun x => cl_set (fun _ => Iff.rfl) (fun b => lates_mem r.lb hc b) x
    have e : LATEB (ER ks ms bx ls K T (some (boxesD cx)) none none none none) C' = some (.nx (ER ks ms bx ls K T (some (boxesD cx)) none none none none) C') := ifs_f (tst_bl (bin_eq (k_opened W sc.gb oc (cons_eq rfl (cons_eq rfl rfl))) rfl (ne_opn gp)))
    exact wpo_eq (show gN 5 (boxesD cx) (ER ks ms bx ls K T x5 none none none none) = some (ER ks ms bx ls K T (some (boxesD cx)) none none none none) from rfl) (wpo_eq e ⟨_, rfl, rfl⟩)
  · rintro E C' ⟨x5, rfl, rfl⟩
    exact k x5
theorem rl7 (W : WH C) (r : Rt ks ms bx ls) (o : Opn ks bx K T) (hl : K.length + T.length ≤ 200) {x5 : Option D} {Q : Out → Prop} (k : ∀ x7 x8, Q (.nx (ER ks ms bx ls K T x5 (some (.tup (wtD (opbl ks bx)))) x7 x8 none) C)) : wpo (mFor (mIRng1 (mCons (mCallB lenD (mCons (mVar 2) mNil)) mNil)) (gN 7) BODYB (ER ks ms bx ls K T x5 (some (.tup (wtD (opbl ks bx)))) none none none) C) Q := by
  have l1 := r.l1
  have p62 : (2 : Int) ^ 62 = 4611686018427387904 := by decide +kernel
  have lx : (bx.map boxD).length = bx.length := List.length_map ..
  refine wForR (wpo_eq (x := ([.int ((bx.map boxD).length : Nat)], C)) rfl ⟨((bx.map boxD).length : Nat), rfl, by rw [p62, lx]; omega, by rw [p62, lx]; omega, ?_⟩)
  rw [Int.toNat_natCast, lx]
  have rl : (rngD 0 bx.length).length = bx.length := by simp [rngD]
  have ll := for_at (it := .seq (rngD 0 bx.length)) (tg := gN 7) (body := BODYB) (Q := Q) (rngD 0 bx.length) (fun i E C2 => ∃ x7 x8, E = ER ks ms bx ls K T x5 (some (.tup (wtD (opbl ks bx)))) x7 x8 none ∧ C2 = C) (fun _ _ _ _ => rfl) (by
    rintro i x E C2 hx ⟨x7, x8, rfl, rfl⟩
    simp only [rngD, List.getElem?_map] at hx
    obtain ⟨b, hb, rfl⟩ := omap hx
    have hb := List.mem_range.mp (List.mem_of_getElem? hb)
    rw [show (0 : Int) + (b : Nat) = (b : Int) by omega]
    exact wpo_eq (show gN 7 (D.int (b : Int)) (ER ks ms bx ls K T x5 (some (.tup (wtD (opbl ks bx)))) x7 x8 none) = some (ER ks ms bx ls K T x5 (some (.tup (wtD (opbl ks bx)))) (some (.int (b : Int))) x8 none) from rfl) (wpo_eq (bodyB_ok W r o hl hb) ⟨_, _, rfl, rfl⟩)) (by
    rintro E C2 ⟨x7, x8, rfl, rfl⟩
    exact k x7 x8) bx.length 0 (ER ks ms bx ls K T x5 (some (.tup (wtD (opbl ks bx)))) none none none) C (by rw [rl]; omega) ⟨none, none, rfl, rfl⟩
  rw [rl]
  exact ll
abbrev LASTR : ME := (mAnd (mBin dEq (mLc (mIAny (mVar 9)) (gN 7) (mTest (mBin (inD true) GB PAIRX)) (mVar 7) [7]) (mLst mNil)) (mBin dEq (mCallB listD (mCons (mVar 6) mNil)) (mSrtSet (mVar 6))))
theorem rl9 (W : WH C) (r : Rt ks ms bx ls) (o : Opn ks bx K T) (hl : K.length + T.length ≤ 200) {x5 x7 x8 : Option D} : ∃ C', LASTR (ER ks ms bx ls K T x5 (some (.tup (wtD (opbl ks bx)))) x7 x8 (some (.tup (wtD (opbl K bx))))) C = some (.bl true, C') ∧ Pr C C' := by
  have z := szL
  have l1 := r.l1
  have gp := o.gp r.s.gb
  have ll := opbl_len K bx
  have a := emp_any (me := mVar 9) (i := 7) (vs := [7]) (E := ER ks ms bx ls K T x5 (some (.tup (wtD (opbl ks bx)))) x7 x8 (some (.tup (wtD (opbl K bx))))) (C := C) (tt := mTest (mBin (inD true) GB PAIRX)) (fun _ => false) rfl (show walkD C (.tup (wtD (opbl K bx))) = some (wtD (opbl K bx)) from rfl) (by simp [wtD]; omega) (by simp [wipeE]) (by
    intro x hx
    obtain ⟨b, hb, rfl⟩ := List.mem_map.mp hx
    obtain ⟨hbl, hk⟩ := opbl_mem.mp hb
    refine tst_bl (bin_eq (gb_at (bx := bx) (b := b) rfl rfl hbl) (pairx (K := K) (T := T) rfl (by omega)) ?_)
    rw [inD_th (r.s.okg _ (List.getElem_mem hbl)) gp.all]
    have : bx[b].1 ∈ K.map MD.MK.i ++ T := (o.all _).mpr (cl_closed ks bx _ (List.getElem_mem hbl) fun k hkb => (o.mem k).mp (hk k hkb))
    simp [this]) (fun x hx => by
      obtain ⟨b, hb, rfl⟩ := List.mem_map.mp hx
      exact ⟨.int b, rfl, rfl⟩)
  have t : ∀ l : List D, l.all (fun _ => !false) = true := fun l => List.all_eq_true.mpr fun _ _ => rfl
  rw [t] at a
  have P1 : Pr C (C ++ [.lst ((wtD (opbl K bx)).filter fun _ => false)]) := (Pr.refl W).app (bnds_iff.mpr fun d hd => by
    obtain ⟨c, _, rfl⟩ := List.mem_map.mp (List.mem_filter.mp hd).1
    rfl)
  have P2 : Pr C (C ++ [.lst ((wtD (opbl K bx)).filter fun _ => false)] ++ [.lst []]) := P1.app rfl
  have ew : wtD (opbl ks bx) = ((opbl ks bx).map fun (b : Nat) => (b : Int)).map D.int := by unfold wtD; rw [List.map_map]; rfl
  have lb := opbl_len ks bx
  generalize C ++ [Cell.lst ((wtD (opbl K bx)).filter fun _ => false)] ++ [.lst []] = D2 at *
  have m1 : mCallB listD (mCons (mVar 6) mNil) (ER ks ms bx ls K T x5 (some (.tup (wtD (opbl ks bx)))) x7 x8 (some (.tup (wtD (opbl K bx))))) D2 = some (.cell D2.length, D2 ++ [.lst (wtD (opbl ks bx))]) := rfl
  have m2 : mSrtSet (mVar 6) (ER ks ms bx ls K T x5 (some (.tup (wtD (opbl ks bx)))) x7 x8 (some (.tup (wtD (opbl K bx))))) (D2 ++ [.lst (wtD (opbl ks bx))]) = some (.cell (D2 ++ [Cell.lst (wtD (opbl ks bx))]).length, D2 ++ [.lst (wtD (opbl ks bx))] ++ [.lst (wtD (opbl ks bx))]) := by
    unfold mSrtSet
    rw [show mVar 6 (ER ks ms bx ls K T x5 (some (.tup (wtD (opbl ks bx)))) x7 x8 (some (.tup (wtD (opbl K bx))))) (D2 ++ [.lst (wtD (opbl ks bx))]) = some (.tup (wtD (opbl ks bx)), D2 ++ [.lst (wtD (opbl ks bx))]) from rfl]
    simp only [Option.bind_some, seqOf]
    rw [ew, intsOf_ints]
    simp only [Option.bind_some]
    rw [if_pos (by simp; omega), srt_wt (opbl_up ks bx)]
  have m3 : mBin dEq (mCallB listD (mCons (mVar 6) mNil)) (mSrtSet (mVar 6)) (ER ks ms bx ls K T x5 (some (.tup (wtD (opbl ks bx)))) x7 x8 (some (.tup (wtD (opbl K bx))))) D2 = some (.bl true, D2 ++ [.lst (wtD (opbl ks bx))] ++ [.lst (wtD (opbl ks bx))]) := by
    unfold mBin
    rw [m1]
    simp only [Option.bind_some]
    rw [m2]
    simp only [Option.bind_some]
    exact eq_lists (n := 1) (get_app last_get) last_get (fun d hd => by
      obtain ⟨c, _, rfl⟩ := List.mem_map.mp hd
      exact ⟨.int c, rfl, rfl⟩) (by omega)
  refine ⟨_, mAnd_tf a (fun _ => m3) (fun q => by cases q), ?_⟩
  exact (P2.app (c := .lst (wtD (opbl ks bx))) (wtD_bnd _ _)).app (c := .lst (wtD (opbl ks bx))) (wtD_bnd _ _)
theorem law_right_ok (W : WH C) (r : Rt ks ms bx ls) : ∃ C', M_law_right [keysD ks, keysD ms, boxesD bx, boxesD ls] C = some (.bl true, C') ∧ Pr C C' := by
  have l1 := r.l1
  have kl := r.kl
  obtain ⟨K, T, o, lo⟩ := opn_ex W r.s.gb
  have hl : K.length + T.length ≤ 200 := by omega
  have sK : Sm K bx := o.sm r.s (by omega)
  suffices h : wpo (M_law_right [keysD ks, keysD ms, boxesD bx, boxesD ls] C) fun r => r.1 = .bl true ∧ Pr C r.2 by
    obtain ⟨⟨d, C'⟩, e, rfl, P⟩ := h
    exact ⟨C', e, P⟩
  refine wFn rfl (show wpo (B_law_right [some (keysD ks), some (keysD ms), some (boxesD bx), some (boxesD ls), none, none, none, none, none, none] C) _ from ?_)
  have s0 := asg_eq (i := 4) (k_opened W r.s.gb o (ml := mCons (mVar 0) (mCons (mVar 2) mNil)) (E := [some (keysD ks), some (keysD ms), some (boxesD bx), some (boxesD ls), none, none, none, none, none, none]) (C := C) (cons_eq rfl (cons_eq rfl rfl)))
  refine wSeq (wpo_eq s0 ?_)
  show wpo (mSeq _ _ (ER ks ms bx ls K T none none none none none) C) _
  refine wSeq (wpo_eq (ifs_f (rt1 W r o hl rfl rfl)) ?_)
  refine wSeq (wpo_eq (ifs_f (rt2 W r o hl rfl rfl rfl)) ?_)
  refine wSeq (wpo_eq (ifs_f (rt3 W r o hl rfl rfl rfl)) ?_)
  refine wSeq (rl4 W r o fun x5 => ?_)
  have s6 := asg_eq (i := 6) (k_openable (C := C) W r.s.nd (by omega) (by omega) (fun c hc => Nat.le_trans (r.s.b10 c hc) (by omega)) (bx := bx) (ml := mCons (mVar 0) (mCons (mVar 2) mNil)) (E := ER ks ms bx ls K T x5 none none none none) rfl)
  refine wSeq (wpo_eq s6 ?_)
  show wpo (mSeq _ _ (ER ks ms bx ls K T x5 (some (.tup (wtD (opbl ks bx)))) none none none) C) _
  refine wSeq (rl7 W r o hl fun x7 x8 => ?_)
  have s9 := asg_eq (i := 9) (k_openable (C := C) W sK.nd (by omega) (by omega) (fun c hc => Nat.le_trans (r.s.b10 c hc) (by omega)) (bx := bx) (ml := mCons (mBin ixD (mVar 4) (mC (.int 0))) (mCons (mVar 2) mNil)) (E := ER ks ms bx ls K T x5 (some (.tup (wtD (opbl ks bx)))) x7 x8 none) rfl)
  refine wSeq (wpo_eq s9 ?_)
  obtain ⟨C', e, P⟩ := rl9 (x5 := x5) (x7 := x7) (x8 := x8) W r o hl
  exact wpo_eq (ret_eq e) ⟨_, _, rfl, rfl, P⟩
end
end G
set_option Elab.async false
set_option linter.all false
set_option maxRecDepth 100000
set_option maxHeartbeats 4000000
namespace G
open PySem L2 Mi
theorem ne1 : (Str.ofString "cells" = Str.ofString "at") = False := by simp; decide +kernel
theorem ne2 : (Str.ofString "cells" = Str.ofString "left") = False := by simp; decide +kernel
theorem ne3 : (Str.ofString "cells" = Str.ofString "count") = False := by simp; decide +kernel
theorem ne4 : (Str.ofString "at" = Str.ofString "left") = False := by simp; decide +kernel
theorem ne5 : (Str.ofString "at" = Str.ofString "count") = False := by simp; decide +kernel
theorem ne6 : (Str.ofString "left" = Str.ofString "count") = False := by simp; decide +kernel
theorem oe1 : (Str.ofString "at" = Str.ofString "cells") = False := by simp; decide +kernel
theorem oe2 : (Str.ofString "left" = Str.ofString "cells") = False := by simp; decide +kernel
theorem oe3 : (Str.ofString "count" = Str.ofString "cells") = False := by simp; decide +kernel
theorem oe4 : (Str.ofString "left" = Str.ofString "at") = False := by simp; decide +kernel
theorem oe5 : (Str.ofString "count" = Str.ofString "at") = False := by simp; decide +kernel
theorem oe6 : (Str.ofString "count" = Str.ofString "left") = False := by simp; decide +kernel
theorem sz4 : ((4 : Nat) < sizeLine) = True := by simp; decide
theorem sz0 : ((0 : Nat) ≤ sizeLine) = True := by simp
/-- the feed: a script's ints, the place, what is left of a great one, the count; behind it other cells -/
def feedH (c0 : Cell) (xs : List Int) (a l c : Int) (rest : Hm) : Hm :=
  c0 :: .lst (xs.map .int) :: .dic [(.inr (Str.ofString "cells"), .cell 1), (.inr (Str.ofString "at"), .int a), (.inr (Str.ofString "left"), .int l), (.inr (Str.ofString "count"), .int c)] :: rest
theorem draw_left {c0 xs a l c rest n} (hl : 0 < l) (hn : 0 < n) (hn2 : n < 1000000) : M_law_draw [.cell 2, .int n] (feedH c0 xs a l c rest) = some (.int (l.fmod n), feedH c0 xs a (l.fdiv n) (c + 1) rest) := by
  have e1 : n ≠ 0 := by omega
  have e2 : n.natAbs < 1073741824 := by omega
  simp [M_law_draw, B_law_draw, feedH, mFn, mSeq, mNext, mDPut, mBin, mVar, mC, dgetD, addD, subD, mulD, mulOk, keyD, valD, putD, mIfS, mTest, asB, dGt, dLt, dGe, dLe, ordD, mAsg, mCallB, mCons, mNil, intC, modD, powD, intD, gN, fdivD, mRet, mIf, lenD, mLst, mkLst, ixD, tAndM, tNotM, mDrop, hl, e1, e2, ne1, ne2, ne3, ne4, ne5, ne6, oe1, oe2, oe3, oe4, oe5, oe6, sz4, sz0]
theorem atI_mod {α : Type} {xs : List α} (h : xs ≠ []) (a : Int) : ∃ x, atI xs (a.fmod (xs.length : Int)) = some x ∧ x ∈ xs := by
  have hp : (0 : Int) < xs.length := by
    have : xs.length ≠ 0 := fun e => h (List.length_eq_zero_iff.mp e)
    omega
  have h0 := Int.fmod_nonneg_of_pos a hp
  have h1 := Int.fmod_lt_of_pos a hp
  unfold atI ixN
  rw [if_pos h0, if_pos h1]
  have hl : (a.fmod (xs.length : Int)).toNat < xs.length := by omega
  exact ⟨xs[(a.fmod (xs.length : Int)).toNat], by simp [hl], List.getElem_mem hl⟩
theorem atI_map {α β : Type} {xs : List α} {i : Int} {x : α} (f : α → β) (h : atI xs i = some x) : atI (xs.map f) i = some (f x) := by
  unfold atI at h ⊢
  rw [List.length_map]
  cases q : ixN xs.length i with
  | none => rw [q] at h; cases h
  | some j =>
    rw [q] at h
    have h : xs[j]? = some x := h
    show (xs.map f)[j]? = _
    rw [List.getElem?_map, h]; rfl
theorem feed_ne {c0 xs a l c rest} : dNe (.cell 1) (.cell (feedH c0 xs a l c rest).length) (feedH c0 xs a l c rest ++ [.lst []]) = some (.bl (!xs.isEmpty), feedH c0 xs a l c rest ++ [.lst []]) := by
  have z := Mi.ne_nil (C := feedH c0 xs a l c rest ++ [.lst []]) (k := 1) (j := (feedH c0 xs a l c rest).length) (ds := xs.map D.int) (by simp [feedH]) (by simp) (by
    intro d hd
    obtain ⟨i, _, rfl⟩ := List.mem_map.mp hd
    exact ⟨.int i, rfl, rfl⟩)
  rw [z]
  cases xs <;> rfl
def mix1 (cell c : Int) : Int := (cell.fmod 1000000427 + 130003 * c + 61).fmod 2147483399
def mix2 (cell c : Int) : Int := (mix1 cell c * mix1 cell c + 3900017 * c + 29).fmod 2147483353
def mix (cell c n : Int) : Int := (((mix2 cell c * mix2 cell c + 97 * mix2 cell c).fmod 2147483323).fdiv 16).fmod n
theorem fl1 (x : Int) : (-18446744073709551616 < x.fmod 2147483399) = True := by
  have h1 := Int.fmod_nonneg_of_pos x (show (0 : Int) < 2147483399 by decide)
  simp; omega
theorem fl2 (x : Int) : (x.fmod 2147483399 < 18446744073709551616) = True := by
  have h1 := Int.fmod_lt_of_pos x (show (0 : Int) < 2147483399 by decide)
  simp; omega
theorem fl3 (x : Int) : (-18446744073709551616 < x.fmod 2147483353) = True := by
  have h1 := Int.fmod_nonneg_of_pos x (show (0 : Int) < 2147483353 by decide)
  simp; omega
theorem fl4 (x : Int) : (x.fmod 2147483353 < 18446744073709551616) = True := by
  have h1 := Int.fmod_lt_of_pos x (show (0 : Int) < 2147483353 by decide)
  simp; omega
theorem draw_spec {c0 xs a l c rest n} (hn : 0 < n) (hn2 : n < 1000000) : ∃ r a' l' c' g, 0 ≤ r ∧ r < n ∧ M_law_draw [.cell 2, .int n] (feedH c0 xs a l c rest) = some (.int r, feedH c0 xs a' l' c' rest ++ g) ∧ (g = [] ∨ g = [.lst []]) := by
  have e1 : n ≠ 0 := by omega
  have e2 : n.natAbs < 1073741824 := by omega
  by_cases hl : 0 < l
  · exact ⟨l.fmod n, a, l.fdiv n, c + 1, [], Int.fmod_nonneg_of_pos _ hn, Int.fmod_lt_of_pos _ hn, by rw [draw_left hl hn hn2]; simp, .inl rfl⟩
  · have fn := @feed_ne c0 xs (a + 1) l (c + 1) rest
    simp only [feedH] at fn
    by_cases hx : xs = []
    · subst hx
      refine ⟨mix 59 (c + 1) n, a + 1, l, c + 1, [.lst []], Int.fmod_nonneg_of_pos _ hn, Int.fmod_lt_of_pos _ hn, ?_, .inr rfl⟩
      simp at fn
      simp [M_law_draw, B_law_draw, feedH, mFn, mSeq, mNext, mDPut, mBin, mVar, mC, dgetD, addD, subD, mulD, mulOk, keyD, valD, putD, mIfS, mTest, asB, dGt, dLt, dGe, dLe, ordD, mAsg, mCallB, mCons, mNil, intC, modD, powD, intD, gN, fdivD, mRet, mIf, lenD, mLst, mkLst, ixD, tAndM, tNotM, mDrop, hl, e1, e2, ne1, ne2, ne3, ne4, ne5, ne6, oe1, oe2, oe3, oe4, oe5, oe6, sz4, sz0, fn, fl1, fl2, fl3, fl4, mix, mix1, mix2]
    · obtain ⟨x, hx1, hx2⟩ := atI_mod hx a
      have hx3 := atI_map D.int hx1
      have hlen : ¬ ((xs.length : Int) = 0) := fun e => hx (List.length_eq_zero_iff.mp (by omega))
      have hxb : xs.isEmpty = false := by cases xs <;> simp_all
      simp [hxb] at fn
      by_cases hb : 1000000000000000000 ≤ x ∧ a < (xs.length : Int)
      · refine ⟨x.fmod n, a + 1, x.fdiv n, c + 1, [.lst []], Int.fmod_nonneg_of_pos _ hn, Int.fmod_lt_of_pos _ hn, ?_, .inr rfl⟩
        simp [M_law_draw, B_law_draw, feedH, mFn, mSeq, mNext, mDPut, mBin, mVar, mC, dgetD, addD, subD, mulD, mulOk, keyD, valD, putD, mIfS, mTest, asB, dGt, dLt, dGe, dLe, ordD, mAsg, mCallB, mCons, mNil, intC, modD, powD, intD, gN, fdivD, mRet, mIf, lenD, mLst, mkLst, ixD, tAndM, tNotM, mDrop, hl, e1, e2, ne1, ne2, ne3, ne4, ne5, ne6, oe1, oe2, oe3, oe4, oe5, oe6, sz4, sz0, fn, hx, hx3, hlen, hb.1, hb.2]
      · refine ⟨mix x (c + 1) n, a + 1, l, c + 1, [.lst []], Int.fmod_nonneg_of_pos _ hn, Int.fmod_lt_of_pos _ hn, ?_, .inr rfl⟩
        by_cases hb1 : 1000000000000000000 ≤ x
        · have hb2 : ¬ a < (xs.length : Int) := fun z => hb ⟨hb1, z⟩
          simp [M_law_draw, B_law_draw, feedH, mFn, mSeq, mNext, mDPut, mBin, mVar, mC, dgetD, addD, subD, mulD, mulOk, keyD, valD, putD, mIfS, mTest, asB, dGt, dLt, dGe, dLe, ordD, mAsg, mCallB, mCons, mNil, intC, modD, powD, intD, gN, fdivD, mRet, mIf, lenD, mLst, mkLst, ixD, tAndM, tNotM, mDrop, hl, e1, e2, ne1, ne2, ne3, ne4, ne5, ne6, oe1, oe2, oe3, oe4, oe5, oe6, sz4, sz0, fn, hx, hx3, hlen, hb1, hb2, fl1, fl2, fl3, fl4, mix, mix1, mix2]
        · simp [M_law_draw, B_law_draw, feedH, mFn, mSeq, mNext, mDPut, mBin, mVar, mC, dgetD, addD, subD, mulD, mulOk, keyD, valD, putD, mIfS, mTest, asB, dGt, dLt, dGe, dLe, ordD, mAsg, mCallB, mCons, mNil, intC, modD, powD, intD, gN, fdivD, mRet, mIf, lenD, mLst, mkLst, ixD, tAndM, tNotM, mDrop, hl, e1, e2, ne1, ne2, ne3, ne4, ne5, ne6, oe1, oe2, oe3, oe4, oe5, oe6, sz4, sz0, fn, hx, hx3, hlen, hb1, fl1, fl2, fl3, fl4, mix, mix1, mix2]
/-! ## draws -/
def Fd (C : Hm) : Prop := ∃ c0 xs a l c rest, C = feedH c0 xs a l c rest
structure Upd (C C' : Hm) : Prop where
  fd : Fd C'
  wh : WH C'
  len : C'.length = C.length
  old : ∀ k, k ≠ 2 → C'[k]? = C[k]?
theorem Upd.trans {A B C : Hm} (h : Upd A B) (k : Upd B C) : Upd A C := ⟨k.fd, k.wh, k.len.trans h.len, fun i hi => (k.old i hi).trans (h.old i hi)⟩
theorem Upd.le {C C' : Hm} (F : Fd C) (h : Upd C C') : LeH C C' := fun k ds e => by
  by_cases hk : k = 2
  · subst hk
    obtain ⟨c0, xs, a, l, c, rest, rfl⟩ := F
    simp [feedH] at e
  · rw [h.old k hk]; exact e
theorem Fd.refl {C : Hm} (F : Fd C) (W : WH C) : Upd C C := ⟨F, W, rfl, fun _ _ => rfl⟩
theorem Fd.app {C g : Hm} (F : Fd C) : Fd (C ++ g) := by
  obtain ⟨c0, xs, a, l, c, rest, rfl⟩ := F
  exact ⟨c0, xs, a, l, c, rest ++ g, by simp [feedH]⟩
theorem Fd.len {C : Hm} (F : Fd C) : 3 ≤ C.length := by
  obtain ⟨c0, xs, a, l, c, rest, rfl⟩ := F
  simp [feedH]
theorem Fd.set {C : Hm} {k : Nat} {x : Cell} (F : Fd C) (h : 3 ≤ k) : Fd (C.set k x) := by
  obtain ⟨c0, xs, a, l, c, rest, rfl⟩ := F
  obtain ⟨j, rfl⟩ : ∃ j, k = j + 3 := ⟨k - 3, by omega⟩
  exact ⟨c0, xs, a, l, c, rest.set j x, by simp [feedH]⟩
theorem draw_ok {C : Hm} (F : Fd C) (W : WH C) {n : Int} (hn : 0 < n) (hn2 : n < 1000000) : ∃ r C' g, 0 ≤ r ∧ r < n ∧ Upd C C' ∧ M_law_draw [.cell 2, .int n] C = some (.int r, C' ++ g) := by
  obtain ⟨c0, xs, a, l, c, rest, rfl⟩ := F
  obtain ⟨r, a', l', c', g, h1, h2, h3, _⟩ := draw_spec (c0 := c0) (xs := xs) (a := a) (l := l) (c := c) (rest := rest) hn hn2
  refine ⟨r, _, g, h1, h2, ⟨⟨c0, xs, a', l', c', rest, rfl⟩, ?_, by simp [feedH], ?_⟩, h3⟩
  · intro x hx
    have hl : (feedH c0 xs a' l' c' rest).length = (feedH c0 xs a l c rest).length := by simp [feedH]
    rw [hl]
    simp only [feedH, List.mem_cons] at hx
    rcases hx with rfl | rfl | rfl | hx
    · exact W _ (by simp [feedH])
    · exact W _ (by simp [feedH])
    · simp [Cell.bnd, D.bnd, feedH]
    · exact W _ (by simp [feedH, hx])
  · intro k hk
    match k with
    | 0 => rfl
    | 1 => rfl
    | 2 => exact absurd rfl hk
    | k + 3 => rfl
theorem kdraw {C : Hm} (F : Fd C) (W : WH C) {n : Int} {ml : MA} {E : Ev} (he : ml E C = some ([.cell 2, .int n], C)) (hn : 0 < n) (hn2 : n < 1000000) : ∃ r C', 0 ≤ r ∧ r < n ∧ Upd C C' ∧ mKeep (mCall M_law_draw ml) E C = some (.int r, C') := by
  obtain ⟨r, C', g, h1, h2, U, e⟩ := draw_ok F W hn hn2
  exact ⟨r, C', h1, h2, U, keep_eq (C' := C') (g := g) (by unfold mCall; rw [bind_eq he]; exact e) U.len U.wh rfl⟩
theorem wdraw {C : Hm} {n : Int} {ml : MA} {E : Ev} {Q : D × Hm → Prop} (he : ml E C = some ([.cell 2, .int n], C)) (F : Fd C) (W : WH C) (hn : 0 < n) (hn2 : n < 1000000) (k : ∀ r C', 0 ≤ r → r < n → Upd C C' → Q (.int r, C')) : wpo (mKeep (mCall M_law_draw ml) E C) Q := by
  obtain ⟨r, C', h1, h2, U, e⟩ := kdraw F W he hn hn2
  exact ⟨_, e, k r C' h1 h2 U⟩
end G
set_option Elab.async false
set_option linter.all false
set_option maxRecDepth 100000
set_option maxHeartbeats 4000000
namespace G
open PySem L2 Mi
theorem consE {m : ME} {ml : MA} {E : Ev} {C C1 C2 : Hm} {d : D} {ds : List D} (h : m E C = some (d, C1)) (h2 : ml E C1 = some (ds, C2)) : mCons m ml E C = some (d :: ds, C2) := by unfold mCons; rw [h]; simp only [Option.bind_some]; rw [h2]; rfl
theorem nilE {E : Ev} {C : Hm} : mNil E C = some ([], C) := rfl
theorem lstE {ml : MA} {E : Ev} {C C1 : Hm} {ds : List D} (h : ml E C = some (ds, C1)) (hl : ds.length ≤ sizeLine) : mLst ml E C = some (.cell C1.length, C1 ++ [.lst ds]) := by unfold mLst mkLst; rw [h]; simp only [Option.bind_some]; rw [if_pos hl]
theorem tupE {ml : MA} {E : Ev} {C C1 : Hm} {ds : List D} (h : ml E C = some (ds, C1)) (hl : ds.length ≤ sizeLine) : mTup ml E C = some (.tup ds, C1) := by unfold mTup mkTup; rw [h]; simp only [Option.bind_some]; rw [if_pos hl]
theorem mC_at {d : D} {E : Ev} {C : Hm} : mC d E C = some (d, C) := rfl
theorem cons1 {m : ME} {E : Ev} {C C1 : Hm} {d : D} (h : m E C = some (d, C1)) : mCons m mNil E C = some ([d], C1) := by unfold mCons; rw [h]; rfl
theorem at0 {a : D} {r : List D} {C : Hm} : ixD (.tup (a :: r)) (.int 0) C = some (a, C) := by simp [ixD, atI, ixN]
theorem binE {op : OD2} {ma mb : ME} {E : Ev} {C C1 C2 : Hm} {a b : D} (h1 : ma E C = some (a, C1)) (h2 : mb E C1 = some (b, C2)) : mBin op ma mb E C = op a b C2 := by unfold mBin; rw [h1]; simp only [Option.bind_some]; rw [h2]; rfl
theorem callB_eq {op : ODL} {ml : MA} {E : Ev} {C C1 : Hm} {ds : List D} (h1 : ml E C = some (ds, C1)) : mCallB op ml E C = op ds C1 := by unfold mCallB; rw [h1]; rfl
def fstD : D → D
  | .tup (a :: _) => a
  | d => d
theorem wMethE {T : String} {op : ODM} {mo : ME} {ml : MA} {E : Ev} {C : Hm} {o : D} {Q : D × Hm → Prop} (h1 : mo E C = some (o, C)) (h2 : tyD T o C = true) (h : wpo (ml E C) fun q => wpo (op o q.1 q.2) Q) : wpo (mMeth T op mo ml E C) Q := by
  obtain ⟨q, e, h⟩ := h
  unfold mMeth
  rw [h1]
  simp only [Option.bind_some]
  rw [if_pos h2, e]
  exact h
/-! ## the heap behind the feed -/
theorem upd_split {A g B : Hm} (F : Fd A) (W : WH A) (U : Upd (A ++ g) B) : ∃ A', B = A' ++ g ∧ Upd A A' := by
  have h3 := F.len
  have hl := U.len
  rw [List.length_append] at hl
  have hB : B = B.take A.length ++ B.drop A.length := (List.take_append_drop _ _).symm
  have hd : B.drop A.length = g := by
    apply List.ext_getElem?
    intro i
    rw [List.getElem?_drop, U.old _ (by omega), List.getElem?_append_right (by omega)]
    congr 1; omega
  have hget : ∀ k, k < A.length → (B.take A.length)[k]? = B[k]? := fun k hk => by rw [List.getElem?_take_of_lt hk]
  have hlen : (B.take A.length).length = A.length := by simp; omega
  have hold : ∀ k, k ≠ 2 → (B.take A.length)[k]? = A[k]? := fun k hk => by
    by_cases h : k < A.length
    · rw [hget k h, U.old k hk, List.getElem?_append_left h]
    · rw [List.getElem?_eq_none_iff.mpr (by omega), List.getElem?_eq_none_iff.mpr (by omega)]
  obtain ⟨c0, xs, a, l, c, rest, e⟩ := U.fd
  obtain ⟨n, hn⟩ : ∃ n, A.length = n + 3 := ⟨A.length - 3, by omega⟩
  have fd : Fd (B.take A.length) := ⟨c0, xs, a, l, c, rest.take n, by rw [e, hn]; simp [feedH]⟩
  refine ⟨B.take A.length, by rw [← hd]; exact hB, fd, ?_, hlen, hold⟩
  intro x hx
  rw [hlen]
  obtain ⟨k, hk, rfl⟩ := List.getElem_of_mem hx
  have hx2 : (B.take A.length)[k]? = some (B.take A.length)[k] := List.getElem?_eq_getElem hk
  by_cases h2 : k = 2
  · subst h2
    obtain ⟨c0, xs, a, l, c, rest, e⟩ := fd
    have : (B.take A.length)[2]? = some (.dic [(.inr (Str.ofString "cells"), .cell 1), (.inr (Str.ofString "at"), .int a), (.inr (Str.ofString "left"), .int l), (.inr (Str.ofString "count"), .int c)]) := by rw [e]; rfl
    rw [Option.some.inj (hx2.symm.trans this)]
    simp [Cell.bnd, D.bnd]; omega
  · rw [hold k h2] at hx2
    exact W _ (List.mem_of_getElem? hx2)
def intsIn (m : Nat) (is : List Int) : Prop := ∀ i ∈ is, 0 ≤ i ∧ i < (m : Int)
theorem bnds_ints (n : Nat) : ∀ is : List Int, bnds n (is.map D.int) = true
  | [] => rfl
  | i :: is => by simp only [List.map_cons, bnds, bnds_ints n is]; rfl
theorem wh_ints {C : Hm} (W : WH C) (is : List Int) : WH (C ++ [.lst (is.map D.int)]) := W.app (bnds_ints _ is)
def rngL (m : Nat) : List Int := (List.range m).map fun k : Nat => (k : Int)
theorem rng_ints (m : Nat) : rngD 0 m = (rngL m).map D.int := by simp [rngD, rngL, List.map_map, Function.comp_def]
theorem seqIx {r : Int} {n : Nat} (h0 : 0 ≤ r) (h1 : r < n) : seqIndex? r n = some r.toNat := (ixN_seq (show ixN n r = some r.toNat by unfold ixN; rw [if_pos h0, if_pos h1])).1
theorem intsOf_map (is : List Int) : intsOf (is.map D.int) = some is := intsOf_ints is
theorem get_a {A : Hm} {x y : Cell} : (A ++ [x] ++ [y])[A.length]? = some x := by simp
theorem get_b {A : Hm} {x y : Cell} : (A ++ [x] ++ [y])[A.length + 1]? = some y := by simp
theorem set_a {A : Hm} {x y z : Cell} : (A ++ [x] ++ [y]).set A.length z = A ++ [z] ++ [y] := by simp
theorem set_b {A : Hm} {x y z : Cell} : (A ++ [x] ++ [y]).set (A.length + 1) z = A ++ [x] ++ [z] := by simp
theorem map_erase {α β : Type} (f : α → β) : ∀ (l : List α) (k : Nat), (l.map f).eraseIdx k = (l.eraseIdx k).map f
  | [], _ => rfl
  | x :: l, 0 => rfl
  | x :: l, k + 1 => by simp [map_erase f l k]
theorem rgOk_nat {m : Nat} (hm : m < 1000) : rgOkB 0 (m : Int) = true := by
  unfold rgOkB
  refine decide_eq_true ?_
  have h1 : -(2 ^ 62) ≤ (0 : Int) := by omega
  have h2 : (0 : Int) < 2 ^ 62 := by omega
  have h3 : -(2 ^ 62) ≤ (m : Int) := by omega
  have h4 : (m : Int) < 2 ^ 62 := by omega
  have h5 : ((m : Int) - 0).toNat ≤ 2 ^ 24 := by omega
  exact ⟨h1, h2, h3, h4, h5⟩
theorem mR1_at {C : Hm} {E : Ev} {i : Nat} {a : Int} (hi : E[i]? = some (some (.int a))) : mR1 (mVar i) E C = some (0, a, C) := by
  unfold mR1
  rw [var_at hi]
theorem lstRg_gen {m : MR} {E : Ev} {C C' : Hm} {a b : Int} (h : m E C = some (a, b, C')) (ok : rgOkB a b = true) : mLstRg m E C = some (.cell C'.length, C' ++ [.lst (rngD a (b - a).toNat)]) := by
  unfold mLstRg
  rw [h]
  exact if_pos ok
theorem rng_sub (m : Nat) : rngD 0 ((m : Int) - 0).toNat = (rngL m).map D.int := by
  have : ((m : Int) - 0).toNat = m := by omega
  rw [this, rng_ints]
theorem lstRg_at {C : Hm} {E : Ev} {i m : Nat} (hm : m < 1000) (hi : E[i]? = some (some (.int m))) : mLstRg (mR1 (mVar i)) E C = some (.cell C.length, C ++ [.lst ((rngL m).map D.int)]) := by
  have e := lstRg_gen (mR1_at (C := C) hi) (rgOk_nat hm)
  rw [rng_sub] at e
  exact e
theorem grip_start {C : Hm} {m : Nat} {k : Int} (hm : m < 1000) : mPar 3 4 (mCons (mLstRg (mR1 (mVar 1))) (mCons (mLst mNil) mNil)) [some (.cell 2), some (.int m), some (.int k), none, none, none] C = some (.nx [some (.cell 2), some (.int m), some (.int k), some (.cell C.length), some (.cell (C.length + 1)), none] (C ++ [.lst ((rngL m).map D.int)] ++ [.lst (([] : List Int).map D.int)])) := by
  have e1 := lstRg_at (i := 1) (E := [some (.cell 2), some (.int m), some (.int k), none, none, none]) (C := C) hm rfl
  have e2 := lstE (E := [some (.cell 2), some (.int m), some (.int k), none, none, none]) (C := C ++ [.lst ((rngL m).map D.int)]) nilE (Nat.zero_le _)
  have e3 : mCons (mLstRg (mR1 (mVar 1))) (mCons (mLst mNil) mNil) [some (.cell 2), some (.int m), some (.int k), none, none, none] C = some ([.cell C.length, .cell (C.length + 1)], C ++ [.lst ((rngL m).map D.int)] ++ [.lst (([] : List Int).map D.int)]) := by
    have := consE e1 (cons1 e2)
    rw [List.length_append] at this
    exact this
  unfold mPar
  rw [e3]
  rfl
theorem pop_at {A : Hm} {ps : List Int} {y : Cell} {r : Int} (h0 : 0 ≤ r) (h1 : r < ps.length) (hl : ps.length < 1000) : ∃ x, x ∈ ps ∧ popD (.cell A.length) [.int r] (A ++ [.lst (ps.map D.int)] ++ [y]) = some (.int x, A ++ [.lst ((ps.eraseIdx r.toNat).map D.int)] ++ [y]) := by
  have hr : r.toNat < ps.length := by omega
  refine ⟨ps[r.toNat], List.getElem_mem hr, ?_⟩
  unfold popD
  simp only
  rw [get_a]
  simp only
  rw [if_pos (by omega), List.length_map, seqIx h0 h1]
  simp only [Option.bind_some]
  rw [set_a, map_erase]
  simp [hr]
theorem app_at {A : Hm} {x : Cell} {fs : List Int} {i : Int} (hl : fs.length < sizeLine) : appendD (.cell (A.length + 1)) [.int i] (A ++ [x] ++ [.lst (fs.map D.int)]) = some (.non, A ++ [x] ++ [.lst ((fs ++ [i]).map D.int)]) := by
  unfold appendD
  simp only
  rw [get_b]
  simp only
  rw [if_pos (by simpa using hl), set_b]
  simp
theorem sorted_at {A : Hm} {k : Nat} {fs : List Int} {E : Ev} {i : Nat} (hc : A[k]? = some (.lst (fs.map D.int))) (hi : E[i]? = some (some (.cell k))) : mCallB tupleD (mCons (mCallB sortedD (mCons (mVar i) mNil)) mNil) E A = some (.tup ((sortI fs).map D.int), A ++ [.lst ((sortI fs).map D.int)]) := by
  have e4 : sortedD [.cell k] A = some (.cell A.length, A ++ [.lst ((sortI fs).map D.int)]) := by
    unfold sortedD
    simp only
    rw [hc]
    simp [intsOf_map]
  rw [callB_eq (cons1 ((callB_eq (cons1 (var_at hi))).trans e4))]
  unfold tupleD seqOf
  simp only
  rw [last_get]
  rfl
theorem len_at {C : Hm} {k i : Nat} {n : Nat} {ds : List D} {E : Ev} (hc : C[k]? = some (.lst ds)) (h0 : E[0]? = some (some (.cell 2))) (hi : E[i]? = some (some (.cell k))) (hn : ds.length = n) : mCons (mVar 0) (mCons (mCallB lenD (mCons (mVar i) mNil)) mNil) E C = some ([.cell 2, .int n], C) := by
  have e : mCallB lenD (mCons (mVar i) mNil) E C = some (.int n, C) := by
    rw [callB_eq (cons1 (var_at hi))]
    unfold lenD
    simp only
    rw [hc, ← hn]
  exact consE (var_at h0) (cons1 e)
theorem grip_step {C : Hm} {m k : Nat} (hm : m < 1000) {A : Hm} {ps fs : List Int} {E : Ev} (U : Upd C A) (h0 : E[0]? = some (some (.cell 2))) (h3 : E[3]? = some (some (.cell C.length))) (h4 : E[4]? = some (some (.cell (C.length + 1)))) (hp : 0 < ps.length) (hp2 : ps.length ≤ m) (hf : fs.length < m) (ip : intsIn m ps) (iF : intsIn m fs) {Q : Out → Prop}
    (h : ∀ A ps' fs', Upd C A → ps'.length + 1 = ps.length → fs'.length = fs.length + 1 → intsIn m ps' → intsIn m fs' → Q (.nx E (A ++ [.lst (ps'.map D.int)] ++ [.lst (fs'.map D.int)]))) :
    wpo (mDrop (mMeth "list" appendD (mVar 4) (mCons (mMeth "list" popD (mVar 3) (mCons (mKeep (mCall M_law_draw (mCons (mVar 0) (mCons (mCallB lenD (mCons (mVar 3) mNil)) mNil)))) mNil)) mNil)) E (A ++ [.lst (ps.map D.int)] ++ [.lst (fs.map D.int)])) Q := by
  have z := szL
  have hA := U.len
  rw [← hA] at h3 h4
  refine wDrop (wMethE (var_at h4) (tyD_lst get_b) (wCons (wMethE (var_at h3) (tyD_lst get_a) (wCons (wdraw (n := (ps.length : Int)) (len_at get_a h0 h3 (by simp)) (Fd.app (Fd.app U.fd)) (wh_ints (wh_ints U.wh _) _) (by omega) (by omega) fun r C2 r0 r1 U2 => wNil ?_)))))
  obtain ⟨A2, rfl, UA2⟩ := upd_split U.fd U.wh (g := [.lst (ps.map D.int)] ++ [.lst (fs.map D.int)]) (by rw [← List.append_assoc]; exact U2)
  obtain ⟨x, hx, e1⟩ := pop_at (A := A2) (y := .lst (fs.map D.int)) r0 r1 (by omega)
  rw [UA2.len] at e1
  rw [← List.append_assoc]
  have e2 := app_at (A := A2) (x := .lst ((ps.eraseIdx r.toNat).map D.int)) (fs := fs) (i := x) (by omega)
  rw [UA2.len] at e2
  refine wpo_eq e1 (wNil (wpo_eq e2 (h A2 _ _ (U.trans UA2) ?_ (by simp) ?_ ?_)))
  · rw [List.length_eraseIdx, if_pos (by omega)]; omega
  · exact fun j hj => ip j (List.mem_of_mem_eraseIdx hj)
  · intro j hj
    rcases List.mem_append.mp hj with hj | hj
    · exact iF j hj
    · rw [List.mem_singleton.mp hj]; exact ip _ hx
theorem grip_ok {C : Hm} (F : Fd C) (W : WH C) {m k : Nat} (hk : k < m) (hm : m < 1000) : wpo (M_law_grip [.cell 2, .int m, .int k] C) fun r => ∃ is C' g, r = (.tup (is.map D.int), C' ++ g) ∧ intsIn m is ∧ is.length ≤ k ∧ Upd C C' := by
  refine wFn rfl (show wpo (B_law_grip [some (.cell 2), some (.int m), some (.int k), none, none, none] C) _ from ?_)
  refine wSeq (wpo_eq (grip_start hm) ?_)
  have a0 : ∀ C', mCons (mVar 0) (mCons (mBin addD (mVar 2) (mC (.int 1))) mNil) [some (.cell 2), some (.int m), some (.int k), some (.cell C.length), some (.cell (C.length + 1)), none] C' = some ([.cell 2, .int ((k : Int) + 1)], C') := fun C' => rfl
  refine wSeq (wForR (wCons (wdraw (n := (k : Int) + 1) (a0 _) (Fd.app (Fd.app F)) (wh_ints (wh_ints W _) _) (by omega) (by omega) fun n1 C1 h0 h1 U1 => wNil ⟨n1, rfl, by omega, by omega, ?_⟩)))
  obtain ⟨A1, rfl, UA⟩ := upd_split F W (g := [.lst ((rngL m).map D.int)] ++ [.lst (([] : List Int).map D.int)]) (by rw [← List.append_assoc]; exact U1)
  refine for_at (rngD 0 n1.toNat) (fun i E C' => ∃ A ps fs x, C' = A ++ [.lst (ps.map D.int)] ++ [.lst (fs.map D.int)] ∧ Upd C A ∧ E = [some (.cell 2), some (.int m), some (.int k), some (.cell C.length), some (.cell (C.length + 1)), x] ∧ ps.length + i = m ∧ fs.length = i ∧ intsIn m ps ∧ intsIn m fs) (fun _ _ _ _ => rfl) ?_ ?_ _ 0 _ _ (by simp) ⟨A1, _, [], none, by rw [List.append_assoc], UA, rfl, by simp [rngL], rfl, fun i hi => ?_, fun i hi => by cases hi⟩
  · rintro i x E _ hx ⟨A, ps, fs, y, rfl, U, rfl, hp, hf, ip, iF⟩
    have hi : i < n1.toNat := by
      have := (List.getElem?_eq_some_iff.mp hx).1
      simpa [rngD] using this
    refine wpo_eq rfl (grip_step (k := k) hm U rfl rfl rfl (by omega) (by omega) (by omega) ip iF ?_)
    intro A ps' fs' U' h1 h2 h3 h4
    exact ⟨A, ps', fs', some x, rfl, U', rfl, by omega, by omega, h3, h4⟩
  · rintro E _ ⟨A, ps, fs, y, rfl, U, rfl, hp, hf, ip, iF⟩
    have hA := U.len
    have e3 := sorted_at (A := A ++ [.lst (ps.map D.int)] ++ [.lst (fs.map D.int)]) (k := C.length + 1) (fs := fs) (E := [some (.cell 2), some (.int m), some (.int k), some (.cell C.length), some (.cell (C.length + 1)), y]) (i := 4) (by rw [← hA]; exact get_b) rfl
    refine wRet (wpo_eq e3 ⟨_, _, rfl, sortI fs, A, _, by rw [List.append_assoc, List.append_assoc], ?_, ?_, U⟩)
    · exact fun j hj => iF j ((sortI_perm fs).mem_iff.mp hj)
    · rw [(sortI_perm fs).length_eq, hf]
      simp [rngD]; omega
  · obtain ⟨j, hj, rfl⟩ := List.mem_map.mp hi
    have := List.mem_range.mp hj
    omega
end G
set_option Elab.async false
set_option linter.all false
set_option maxRecDepth 100000
set_option maxHeartbeats 4000000
namespace G
open PySem L2 Mi
/-! ## frames -/
structure Fr (C C' : Hm) (ks : List Nat) : Prop where
  fd : Fd C'
  wh : WH C'
  len : C.length ≤ C'.length
  old : ∀ k, k < C.length → k ≠ 2 → k ∉ ks → C'[k]? = C[k]?
theorem Fr.refl {C : Hm} {ks : List Nat} (F : Fd C) (W : WH C) : Fr C C ks := ⟨F, W, Nat.le_refl _, fun _ _ _ _ => rfl⟩
theorem Fr.app {C C' : Hm} {ks : List Nat} (h : Fr C C' ks) {c : Cell} (hb : c.bnd (C'.length + 1) = true) : Fr C (C' ++ [c]) ks :=
  ⟨h.fd.app, h.wh.app hb, by have := h.len; simp; omega, fun k hk h2 h3 => by rw [List.getElem?_append_left (by have := h.len; omega)]; exact h.old k hk h2 h3⟩
theorem Fr.upd {C C' C'' : Hm} {ks : List Nat} (h : Fr C C' ks) (U : Upd C' C'') : Fr C C'' ks :=
  ⟨U.fd, U.wh, by rw [U.len]; exact h.len, fun k hk h2 h3 => by rw [U.old k h2]; exact h.old k hk h2 h3⟩
theorem Fr.set {C C' : Hm} {ks : List Nat} (h : Fr C C' ks) {c : Cell} {k : Nat} (h3 : 3 ≤ k) (hk : k < C.length → k ∈ ks) (hb : c.bnd C'.length = true) : Fr C (C'.set k c) ks :=
  ⟨h.fd.set h3, h.wh.set hb, by rw [List.length_set]; exact h.len, fun j hj h2 hn => by
    have : k ≠ j := fun e => by subst e; exact hn (hk hj)
    rw [List.getElem?_set_ne this]; exact h.old j hj h2 hn⟩
theorem Fr.trans {A B C : Hm} {ks : List Nat} (h : Fr A B ks) (k : Fr B C ks) : Fr A C ks :=
  ⟨k.fd, k.wh, Nat.le_trans h.len k.len, fun j hj h2 hn => (k.old j (Nat.lt_of_lt_of_le hj h.len) h2 hn).trans (h.old j hj h2 hn)⟩
theorem Fr.wk {A B : Hm} {ks : List Nat} (h : Fr A B []) : Fr A B ks := ⟨h.fd, h.wh, h.len, fun j hj h2 _ => h.old j hj h2 (by simp)⟩
theorem Fr.get {C C' : Hm} {ks : List Nat} (h : Fr C C' ks) {k : Nat} {ds : List D} (hF : Fd C) (e : C[k]? = some (.lst ds)) (hn : k ∉ ks) : C'[k]? = some (.lst ds) := by
  have hk := (List.getElem?_eq_some_iff.mp e).1
  have h2 : k ≠ 2 := fun z => by
    subst z
    obtain ⟨c0, xs, a, l, c, rest, rfl⟩ := hF
    simp [feedH] at e
  rw [h.old k hk h2 hn]; exact e
theorem Fr.le {C C' : Hm} (h : Fr C C' []) (hF : Fd C) : LeH C C' := fun k ds e => h.get hF e (by simp)
theorem Fr.toUpd {C C' : Hm} (F : Fd C) (W : WH C) (h : Fr C C' []) : ∃ A g, C' = A ++ g ∧ Upd C A := by
  have e : C' = C'.take C.length ++ C'.drop C.length := (List.take_append_drop _ _).symm
  have hl : (C'.take C.length).length = C.length := by have := h.len; simp; omega
  -- as if the cells behind had been there before
  have U : Upd (C ++ C'.drop C.length) C' := by
    refine ⟨h.fd, h.wh, by have := h.len; simp; omega, fun k h2 => ?_⟩
    by_cases hk : k < C.length
    · rw [List.getElem?_append_left hk]; exact h.old k hk h2 (by simp)
    · rw [List.getElem?_append_right (by omega), List.getElem?_drop]
      congr 1; omega
  obtain ⟨A, e2, UA⟩ := upd_split F W U
  exact ⟨A, _, e2, UA⟩
theorem lst_ge {C : Hm} (F : Fd C) {k : Nat} {ds : List D} (e : C[k]? = some (.lst ds)) : k ≠ 2 := fun z => by
  subst z
  obtain ⟨c0, xs, a, l, c, rest, rfl⟩ := F
  simp [feedH] at e
/-! ## one key of a box -/
theorem ne_isE {C : Hm} {E : Ev} {i M : Nat} {ds : List D} (hc : C[M]? = some (.lst ds)) (hi : E[i]? = some (some (.cell M))) (g : ∀ d ∈ ds, Gd C 60 d) : mBin dNe (mVar i) (mLst mNil) E C = some (.bl (!ds.isEmpty), C ++ [.lst []]) := by
  rw [binE (var_at hi) (lstE nilE (Nat.zero_le _))]
  have up : (C ++ [Cell.lst []])[M]? = some (.lst ds) := by rw [List.getElem?_append_left (List.getElem?_eq_some_iff.mp hc).1]; exact hc
  exact Mi.ne_nil up last_get fun d hd => (g d hd).app
theorem gd_ints {C : Hm} {n : Nat} (is : List Int) : ∀ d ∈ is.map D.int, Gd C (n + 1) d := fun d hd => by
  obtain ⟨i, _, rfl⟩ := List.mem_map.mp hd
  exact ⟨.int i, rfl, rfl⟩
theorem in_near {C : Hm} {k : Int} {q : Nat} {near : List D} (hc : C[q]? = some (.lst near)) (g : ∀ d ∈ near, Gd C 60 d) : ∃ b, inD false (.int k) (.cell q) C = some (.bl b, C) := by
  obtain ⟨ps, e, l, hl⟩ := gds fun d hd => (g d hd).up LeH.refl (show 60 ≤ 63 by decide)
  have e1 : py C 64 (.cell q) = some (.list ps) := by unfold py; simp only [hc, e]; rfl
  have e2 : py C 70 (.cell q) = some (.list ps) := py_up LeH.refl (by decide) e1
  have e3 : py C 70 (.int k) = some (.int k) := rfl
  have s1 : SeqAt.shaped (.int k) = true := by simp [SeqAt.shaped, PyData.canLay0, PyData.depth]
  have s2 : SeqAt.shaped (.list ps) = true := shaped_of e1 (by simpa [PyData.canLay0] using l) (by decide)
  unfold inD
  rw [e3, e2]
  simp only [Option.bind_some, itemsP, s1, s2, and_self, if_true]
  exact ⟨_, rfl⟩
def inT (C : Hm) (q : Nat) (x : D) : Bool := match inD false x (.cell q) C with
  | some (.bl b, _) => b
  | _ => false
theorem filt_ints (f : D → Bool) : ∀ is : List Int, (is.map D.int).filter f = (is.filter fun i => f (.int i)).map D.int
  | [] => rfl
  | i :: is => by cases q : f (.int i) <;> simp [List.filter_cons, q, filt_ints f is]
theorem set_var {E : Ev} {i j : Nat} {x : D} {d : D} (h : E[j]? = some (some d)) (hij : i ≠ j) : (E.set i (some x))[j]? = some (some d) := by rw [List.getElem?_set_ne hij]; exact h
theorem wipe1 {E : Ev} {i j : Nat} {d : D} (h : E[j]? = some (some d)) (hij : i ≠ j) : (wipeE E [i])[j]? = some (some d) := by
  show (List.set E i none)[j]? = _
  rw [List.getElem?_set_ne hij]; exact h
theorem wipe_len {E : Ev} {i : Nat} : (wipeE E [i]).length = E.length := by
  show (List.set E i none).length = _
  rw [List.length_set]
abbrev MENU : ME := (mIf (mTest (mBin dGt (mKeep (mCall M_law_draw (mCons (mVar 0) (mCons (mC (.int 4)) mNil)))) (mC (.int 0)))) (mLc (mIAny (mVar 6)) (gN 8) (mTest (mBin (inD false) (mVar 8) (mVar 9))) (mVar 8) [8]) (mVar 6))
theorem menu_ok {C : Hm} {E : Ev} {p q : Nat} {ps : List Int} {near : List D} (F : Fd C) (W : WH C) (hE : E.length = 13) (h0 : E[0]? = some (some (.cell 2))) (h6 : E[6]? = some (some (.cell p))) (h9 : E[9]? = some (some (.cell q))) (hp : C[p]? = some (.lst (ps.map D.int))) (hq : C[q]? = some (.lst near)) (hl : ps.length ≤ 100) (g : ∀ d ∈ near, Gd C 60 d) :
    wpo (MENU E C) fun r => ∃ (M : Nat) (ms : List Int) (C' : Hm), r = (.cell M, C') ∧ Fr C C' [] ∧ C'[M]? = some (.lst (ms.map D.int)) ∧ (∀ x ∈ ms, x ∈ ps) ∧ ms.length ≤ ps.length := by
  have z := szL
  refine wIf (wTst (wBin (wdraw (n := 4) (consE (var_at h0) (cons1 mC_at)) F W (by omega) (by omega) fun r C1 r0 r1 U => wC (wpo_eq (show dGt (.int r) (.int 0) C1 = some (.bl (decide (0 < r)), C1) from rfl) ⟨_, rfl, ?_⟩))))
  have hp1 : C1[p]? = some (.lst (ps.map D.int)) := U.le F p _ hp
  have hq1 : C1[q]? = some (.lst near) := U.le F q _ hq
  split
  · have e := lc_any (me := mVar 6) (tg := gN 8) (tt := mTest (mBin (inD false) (mVar 8) (mVar 9))) (elt := mVar 8) (vs := [8]) (E := E) (C := C1) (d := .cell p) (ps.map D.int) (inT C1 q) (fun x => x) (var_at h6) (by simp only [walkD, hp1]) (by rw [List.length_map]; omega) (fun x hx => by
      obtain ⟨k, _, rfl⟩ := List.mem_map.mp hx
      refine ⟨_, rfl, ?_, fun _ => set_get (by rw [wipe_len, hE]; omega)⟩
      obtain ⟨b, eb⟩ := in_near (k := k) hq1 fun d hd => (g d hd).up (U.le F) (Nat.le_refl _)
      have : inT C1 q (.int k) = b := by unfold inT; rw [eb]
      rw [this]
      exact tst_bl ((binE (set_get (by rw [wipe_len, hE]; omega)) (var_at (set_var (wipe1 h9 (by omega)) (by omega)))).trans eb))
    rw [List.map_id', filt_ints] at e
    refine wpo_eq e ⟨_, _, _, rfl, ((Fr.refl F W).upd U).app (bnds_ints _ _), last_get, fun x hx => (List.mem_filter.mp hx).1, List.length_filter_le _ _⟩
  · exact wVar h6 ⟨p, ps, C1, rfl, (Fr.refl F W).upd U, hp1, fun x hx => hx, Nat.le_refl _⟩
theorem atI_in {α : Type} {xs : List α} {r : Int} (h0 : 0 ≤ r) (h1 : r < xs.length) : ∃ x, atI xs r = some x ∧ x ∈ xs := by
  have hl : r.toNat < xs.length := by omega
  refine ⟨xs[r.toNat], ?_, List.getElem_mem hl⟩
  unfold atI ixN
  rw [if_pos h0, if_pos h1]
  simp [hl]
theorem ix_ints {C : Hm} {k : Nat} {is : List Int} {r : Int} (hc : C[k]? = some (.lst (is.map D.int))) (h0 : 0 ≤ r) (h1 : r < is.length) : ∃ x, x ∈ is ∧ ixD (.cell k) (.int r) C = some (.int x, C) := by
  obtain ⟨x, e, hx⟩ := atI_in h0 h1
  refine ⟨x, hx, ?_⟩
  unfold ixD
  simp only
  rw [hc]
  simp only
  rw [atI_map D.int e]
  rfl
abbrev PICK : ME := (mIf (mTest (mBin dNe (mVar 12) (mLst mNil))) (mBin ixD (mVar 12) (mKeep (mCall M_law_draw (mCons (mVar 0) (mCons (mCallB lenD (mCons (mVar 12) mNil)) mNil))))) (mBin ixD (mVar 6) (mC (.int 0))))
theorem pick_ok {C : Hm} {E : Ev} {p M : Nat} {ps ms : List Int} (F : Fd C) (W : WH C) (h0 : E[0]? = some (some (.cell 2))) (h6 : E[6]? = some (some (.cell p))) (h12 : E[12]? = some (some (.cell M))) (hp : C[p]? = some (.lst (ps.map D.int))) (hM : C[M]? = some (.lst (ms.map D.int))) (hl : ps ≠ []) (hs : ∀ x ∈ ms, x ∈ ps) (hml : ms.length ≤ 100) :
    wpo (PICK E C) fun r => ∃ (v : Int) (C' : Hm), r = (.int v, C') ∧ v ∈ ps ∧ Fr C C' [] := by
  have fr := (Fr.refl (ks := []) F W).app (c := .lst []) rfl
  refine wIf (wpo_eq (tst_bl (ne_isE hM h12 (gd_ints ms))) ?_)
  split
  · rename_i h
    have hn : ms ≠ [] := fun e => by subst e; simp at h
    have hpos : 0 < ms.length := List.length_pos_iff.mpr hn
    refine wBin (wVar h12 (wdraw (n := (ms.length : Int)) (len_at (fr.get F hM (by simp)) h0 h12 (by simp)) fr.fd fr.wh (by omega) (by omega) fun r C1 r0 r1 U => ?_))
    have f1 := fr.upd U
    obtain ⟨v, hv, e⟩ := ix_ints (f1.get F hM (by simp)) r0 r1
    exact wpo_eq e ⟨v, C1, rfl, hs v hv, f1⟩
  · have hpos : 0 < ps.length := List.length_pos_iff.mpr hl
    obtain ⟨v, hv, e⟩ := ix_ints (r := 0) (fr.get F hp (by simp)) (by omega) (by omega)
    exact wBin (wVar h6 (wC (wpo_eq e ⟨v, _, rfl, hv, fr⟩)))
theorem at_last {xs : List D} {x : D} : atI (xs ++ [x]) (-1) = some x := by
  unfold atI ixN
  rw [if_neg (by omega), if_pos (by simp; omega)]
  have e : ((-1 : Int) + (((xs ++ [x]).length : Nat) : Int)).toNat = xs.length := by simp; omega
  simp only [Option.bind_some]
  rw [e]
  simp
abbrev INNER : MS := (mSeq (mAsg MENU (gN 12))
    (mSeq (mDrop (mMeth "list" appendD (mVar 7) (mCons PICK mNil)))
    (mDrop (mRem (mVar 6) (mBin ixD (mVar 7) (mUn negD (mC (.int 1))))))))
theorem inner_ok {C : Hm} {E : Ev} {p s q : Nat} {ps ss : List Int} {near : List D} (F : Fd C) (W : WH C) (hE : E.length = 13) (h0 : E[0]? = some (some (.cell 2))) (h6 : E[6]? = some (some (.cell p))) (h7 : E[7]? = some (some (.cell s))) (h9 : E[9]? = some (some (.cell q))) (hp : C[p]? = some (.lst (ps.map D.int))) (hs : C[s]? = some (.lst (ss.map D.int))) (hq : C[q]? = some (.lst near)) (p3 : 3 ≤ p) (s3 : 3 ≤ s) (hps : p ≠ s) (hl : ps.length ≤ 100) (hl2 : ss.length ≤ 100) (hne : ps ≠ []) (g : ∀ d ∈ near, Gd C 60 d) {Q : Out → Prop}
    (k : ∀ v C' x, v ∈ ps → Fr C C' [p, s] → C'[p]? = some (.lst ((ps.erase v).map D.int)) → C'[s]? = some (.lst ((ss ++ [v]).map D.int)) → Q (.nx (E.set 12 (some x)) C')) :
    wpo (INNER E C) Q := by
  have z := szL
  refine wSeq (wAsg (wpo_mono (menu_ok F W hE h0 h6 h9 hp hq hl g) ?_))
  rintro _ ⟨M, ms, C1, rfl, f1, hM, hms, hml⟩
  have h0' := set_var (x := .cell M) h0 (show 12 ≠ 0 by decide)
  have h6' := set_var (x := .cell M) h6 (show 12 ≠ 6 by decide)
  have h7' := set_var (x := .cell M) h7 (show 12 ≠ 7 by decide)
  have h12' : (E.set 12 (some (.cell M)))[12]? = some (some (.cell M)) := List.getElem?_set_self (by omega)
  have hs1 := f1.get F hs (by simp)
  refine wSeq (wDrop (wMethE (var_at h7') (tyD_lst hs1) (wCons (wpo_mono (pick_ok f1.fd f1.wh h0' h6' h12' (f1.get F hp (by simp)) hM hne hms (by omega)) ?_))))
  rintro _ ⟨v, C2, rfl, hv, f2⟩
  have f12 := f1.trans f2
  have hs2 := f12.get F hs (by simp)
  have hp2 := f12.get F hp (by simp)
  have hsl := (List.getElem?_eq_some_iff.mp hs2).1
  have hpl := (List.getElem?_eq_some_iff.mp hp2).1
  have e1 : appendD (.cell s) [.int v] C2 = some (.non, C2.set s (.lst ((ss ++ [v]).map D.int))) := by
    unfold appendD
    simp only
    rw [hs2]
    simp only
    rw [if_pos (by simp; omega)]
    simp
  refine wNil (wpo_eq e1 ?_)
  have f3 : Fr C (C2.set s (.lst ((ss ++ [v]).map D.int))) [p, s] := f12.wk.set s3 (fun _ => by simp) (bnds_ints _ _)
  have hs3 : (C2.set s (.lst ((ss ++ [v]).map D.int)))[s]? = some (.lst ((ss ++ [v]).map D.int)) := List.getElem?_set_self hsl
  have hp3 : (C2.set s (.lst ((ss ++ [v]).map D.int)))[p]? = some (.lst (ps.map D.int)) := by rw [List.getElem?_set_ne (by omega)]; exact hp2
  have e2 : mBin ixD (mVar 7) (mUn negD (mC (.int 1))) (E.set 12 (some (.cell M))) (C2.set s (.lst ((ss ++ [v]).map D.int))) = some (.int v, C2.set s (.lst ((ss ++ [v]).map D.int))) := by
    rw [binE (var_at h7') (show mUn negD (mC (.int 1)) _ _ = some (.int (-1), _) from rfl)]
    unfold ixD
    simp only
    rw [hs3]
    simp only
    rw [List.map_append, List.map_cons, List.map_nil, at_last]
    rfl
  have e3 : mRem (mVar 6) (mBin ixD (mVar 7) (mUn negD (mC (.int 1)))) (E.set 12 (some (.cell M))) (C2.set s (.lst ((ss ++ [v]).map D.int))) = some (.non, (C2.set s (.lst ((ss ++ [v]).map D.int))).set p (.lst ((ps.erase v).map D.int))) := by
    unfold mRem
    rw [var_at h6']
    simp only [Option.bind_some]
    rw [if_pos (tyD_lst hp3), e2]
    simp only [Option.bind_some]
    rw [hp3]
    simp only [intsOf_map, Option.bind_some]
    rw [if_pos hv]
  refine wDrop (wpo_eq e3 (k v _ _ hv (f3.set p3 (fun _ => by simp) (bnds_ints _ _)) (List.getElem?_set_self (by rw [List.length_set]; exact hpl)) ?_))
  rw [List.getElem?_set_ne hps]
  exact hs3
end G
set_option Elab.async false
set_option linter.all false
set_option maxRecDepth 100000
set_option maxHeartbeats 4000000
namespace G
open PySem L2 Mi
/-! ## boxes of a lot -/
def S3 (s : Str) : Prop := s = Str.ofString "memo" ∨ s = Str.ofString "a" ∨ s = Str.ofString "world"
theorem s3_ok {s : Str} (h : S3 s) : PyData.strOk s = true := by rcases h with rfl | rfl | rfl <;> decide +kernel
def LT (goal : D) : Prop := (∃ i : Int, goal = .int i ∧ 0 ≤ i ∧ i < 7) ∨ ∃ s i, goal = .tup [.str s, .int i] ∧ S3 s ∧ 0 ≤ i ∧ i < 2
def LB (d : D) : Prop := ∃ goal ks, d = .tup [goal, .tup (ks.map D.int)] ∧ LT goal ∧ intsIn 7 ks ∧ ks.length ≤ 3 ∧ ks ≠ []
theorem LT.gd {goal : D} (h : LT goal) {C : Hm} {n : Nat} : Gd C (n + 2) goal := by
  rcases h with ⟨i, rfl, _⟩ | ⟨s, i, rfl, hs, _⟩
  · exact ⟨.int i, rfl, rfl⟩
  · refine Gd.tup.mpr fun d hd => ?_
    simp only [List.mem_cons, List.not_mem_nil, or_false] at hd
    rcases hd with rfl | rfl
    · exact ⟨.str s, rfl, by simpa [PyData.canLay0] using s3_ok hs⟩
    · exact ⟨.int i, rfl, rfl⟩
theorem LT.bnd {goal : D} (h : LT goal) {n : Nat} : goal.bnd n = true := by
  rcases h with ⟨i, rfl, _⟩ | ⟨s, i, rfl, hs, _⟩ <;> rfl
theorem LB.bnd {d : D} (h : LB d) {n : Nat} : d.bnd n = true := by
  obtain ⟨goal, ks, rfl, hg, _⟩ := h
  simp only [D.bnd, bnds, hg.bnd, bnds_ints, Bool.and_self]
theorem LB.fst {d : D} (h : LB d) : LT (fstD d) := by
  obtain ⟨goal, ks, rfl, hg, _⟩ := h
  exact hg
def neB (goal x : D) : Bool := match x, goal with
  | .int k, .int i => !(k == i)
  | _, _ => true
theorem ne_goal {goal : D} (h : LT goal) {C : Hm} {k : Int} : dNe (.int k) goal C = some (.bl (neB goal (.int k)), C) := by
  have g := h.gd (C := C) (n := 0)
  rcases h with ⟨i, rfl, _⟩ | ⟨s, i, rfl, hs, _⟩
  · exact ne_int
  · obtain ⟨p, e, l⟩ := g
    obtain ⟨ps, _, e4⟩ := omap (show (([.str s, .int i] : List D).mapM (py C 1)).map PyData.tuple = some p from e)
    subst e4
    show cmpD (fun p q => !PyData.eqv p q) (.int k) (.tup [.str s, .int i]) C = _
    unfold cmpD
    rw [show py C 70 (.int k) = some (.int k) from rfl, py_up LeH.refl (show 2 ≤ 70 by decide) e]
    simp only
    rw [if_pos ⟨by simp [SeqAt.shaped, PyData.canLay0, PyData.depth], shaped_of e l (by decide)⟩]
    simp [PyData.eqv, neB]
theorem pool_len {goal : D} (h : LT goal) : 3 ≤ ((rngL 7).filter fun k => neB goal (.int k)).length := by
  rcases h with ⟨i, rfl, h0, h1⟩ | ⟨s, i, rfl, hs, _⟩
  · have : i = 0 ∨ i = 1 ∨ i = 2 ∨ i = 3 ∨ i = 4 ∨ i = 5 ∨ i = 6 := by omega
    rcases this with rfl | rfl | rfl | rfl | rfl | rfl | rfl <;> decide
  · have : ((rngL 7).filter fun k => neB (.tup [.str s, .int i]) (.int k)) = rngL 7 := List.filter_eq_self.mpr fun k _ => rfl
    rw [this]
    decide
theorem pool_in {goal : D} : intsIn 7 ((rngL 7).filter fun k => neB goal (.int k)) := fun k hk => by
  obtain ⟨j, hj, rfl⟩ := List.mem_map.mp (List.mem_filter.mp hk).1
  have := List.mem_range.mp hj
  omega
structure LE (E : Ev) (f : Nat) : Prop where
  len : E.length = 13
  h0 : E[0]? = some (some (.cell 2))
  h2 : E[2]? = some (some (.int 7))
  h3 : E[3]? = some (some (.cell f))
theorem LE.set {E : Ev} {f i : Nat} {x : D} (h : LE E f) (hi : 4 ≤ i) : LE (E.set i (some x)) f :=
  ⟨by rw [List.length_set]; exact h.len, set_var h.h0 (by omega), set_var h.h2 (by omega), set_var h.h3 (by omega)⟩
theorem LE.at {E : Ev} {f i : Nat} {x : D} (h : LE E f) (hi : i < 13) : (E.set i (some x))[i]? = some (some x) := List.getElem?_set_self (by rw [h.len]; exact hi)
theorem Fr.tr {A B C : Hm} {ks : List Nat} (h : Fr A B []) (k : Fr B C ks) (hk : ∀ j ∈ ks, A.length ≤ j) : Fr A C [] :=
  ⟨k.fd, k.wh, Nat.le_trans h.len k.len, fun j hj h2 hn => (k.old j (Nat.lt_of_lt_of_le hj h.len) h2 (fun z => by have := hk j z; omega)).trans (h.old j hj h2 hn)⟩
abbrev DR (n : Int) : ME := mKeep (mCall M_law_draw (mCons (mVar 0) (mCons (mC (.int n)) mNil)))
theorem wDR {n : Int} {E : Ev} {C : Hm} {Q : D × Hm → Prop} (h0 : E[0]? = some (some (.cell 2))) (F : Fd C) (W : WH C) (hn : 0 < n) (hn2 : n < 1000000) (k : ∀ r C', 0 ≤ r → r < n → Upd C C' → Q (.int r, C')) : wpo (DR n E C) Q :=
  wdraw (n := n) (consE (var_at h0) (cons1 mC_at)) F W hn hn2 k
/-- one of a row of values -/
theorem wOne {n : Int} {E : Ev} {C : Hm} {ml : MA} {xs : List D} {Q : D × Hm → Prop} (h0 : E[0]? = some (some (.cell 2))) (F : Fd C) (W : WH C) (hx : ∀ C, ml E C = some (xs, C)) (hl : (xs.length : Int) = n) (hn : 0 < n) (hn2 : n < 1000000) (hb : ∀ m, bnds m xs = true)
    (k : ∀ x C', x ∈ xs → Fr C C' [] → Q (x, C')) : wpo (mBin ixD (mLst ml) (DR n) E C) Q := by
  have z := szL
  have fr := (Fr.refl (ks := []) F W).app (c := .lst xs) (hb _)
  refine wBin (wpo_eq (lstE (hx C) (by omega)) (wDR h0 fr.fd fr.wh hn hn2 fun r C1 r0 r1 U => ?_))
  obtain ⟨x, e, hm⟩ := atI_in (xs := xs) r0 (by omega)
  have hc : C1[C.length]? = some (.lst xs) := U.le fr.fd _ _ last_get
  refine wpo_eq (x := (x, C1)) ?_ (k x C1 hm (fr.upd U))
  unfold ixD
  simp only
  rw [hc]
  simp only
  rw [e]
  rfl
abbrev GOAL (rest : MS) : MS := (mSeq (mAsg (mKeep (mCall M_law_draw (mCons (mVar 0) (mCons (mVar 2) mNil)))) (gN 5))
    (mSeq (mIfS (mTest (mBin dEq (DR 4) (mC (.int 0)))) (mAsg (mTup (mCons (mBin ixD (mLst (mCons (mC (.str (Str.ofString "memo"))) (mCons (mC (.str (Str.ofString "a"))) (mCons (mC (.str (Str.ofString "world"))) mNil)))) (DR 3)) (mCons (DR 2) mNil))) (gN 5)) mNext) rest))
theorem goal_ok {rest : MS} {E : Ev} {f : Nat} {C : Hm} (L : LE E f) (F : Fd C) (W : WH C) {Q : Out → Prop} (k : ∀ E' C' goal, LE E' f → E'[5]? = some (some goal) → LT goal → Fr C C' [] → wpo (rest E' C') Q) : wpo (GOAL rest E C) Q := by
  refine wSeq (wAsg (wdraw (n := 7) (consE (var_at L.h0) (cons1 (var_at L.h2))) F W (by omega) (by omega) fun r C1 r0 r1 U1 => ?_))
  have L1 := L.set (x := .int r) (show 4 ≤ 5 by decide)
  refine wSeq (wIfS (wTst (wBin (wDR L1.h0 U1.fd U1.wh (by omega) (by omega) fun r2 C2 _ _ U2 => wC (wpo_eq eq_int ⟨_, rfl, ?_⟩)))))
  have f2 := ((Fr.refl (ks := []) F W).upd U1).upd U2
  split
  · refine wAsg (wTup (wCons (wOne (xs := [.str (Str.ofString "memo"), .str (Str.ofString "a"), .str (Str.ofString "world")]) L1.h0 U2.fd U2.wh (fun C => rfl) rfl (by omega) (by omega) (fun _ => rfl) fun x C3 hx f3 => wCons (wDR L1.h0 f3.fd f3.wh (by omega) (by omega) fun r4 C4 r40 r41 U4 => wNil ⟨by simp [szL], ?_⟩))))
    have hs : ∃ s, x = .str s ∧ S3 s := by
      simp only [List.mem_cons, List.not_mem_nil, or_false] at hx
      rcases hx with rfl | rfl | rfl
      · exact ⟨_, rfl, .inl rfl⟩
      · exact ⟨_, rfl, .inr (.inl rfl)⟩
      · exact ⟨_, rfl, .inr (.inr rfl)⟩
    obtain ⟨s, rfl, hs⟩ := hs
    exact k _ C4 _ (L1.set (by decide)) (L1.at (by decide)) (.inr ⟨s, r4, rfl, hs, r40, r41⟩) ((f2.trans f3).upd U4)
  · exact wpo_eq rfl (k _ C2 _ L1 (L.at (by decide)) (.inl ⟨r, rfl, r0, r1⟩) f2)
abbrev POOL : MS := mPar 6 7 (mCons (mLc (mIRng1 (mCons (mVar 2) mNil)) (gN 8) (mTest (mBin dNe (mVar 8) (mVar 5))) (mVar 8) [8]) (mCons (mLst mNil) mNil))
theorem pool_ok {E : Ev} {f : Nat} {C : Hm} {goal : D} (L : LE E f) (h5 : E[5]? = some (some goal)) (g : LT goal) : POOL E C = some (.nx ((E.set 6 (some (.cell C.length))).set 7 (some (.cell (C.length + 1)))) (C ++ [.lst (((rngL 7).filter fun k => neB goal (.int k)).map D.int)] ++ [.lst (([] : List Int).map D.int)])) := by
  have z := szL
  have e := lc_rng1 (ml := mCons (mVar 2) mNil) (tg := gN 8) (tt := mTest (mBin dNe (mVar 8) (mVar 5))) (elt := mVar 8) (vs := [8]) (E := E) (C := C) (j := 7) (neB goal) (fun x => x) (cons1 (var_at L.h2)) (by omega) (by rw [z]; decide) (fun x hx => by
    rw [show (7 : Int).toNat = 7 from rfl, rng_ints] at hx
    obtain ⟨k, _, rfl⟩ := List.mem_map.mp hx
    refine ⟨_, rfl, ?_, fun _ => set_get (by rw [wipe_len, L.len]; decide)⟩
    exact tst_bl ((binE (set_get (by rw [wipe_len, L.len]; decide)) (var_at (set_var (wipe1 h5 (by decide)) (by decide)))).trans (ne_goal g)))
  rw [List.map_id', show (7 : Int).toNat = 7 from rfl, rng_ints, filt_ints] at e
  have e2 := lstE (E := E) (C := C ++ [.lst (((rngL 7).filter fun k => neB goal (.int k)).map D.int)]) nilE (Nat.zero_le _)
  have e3 := consE e (cons1 e2)
  rw [List.length_append] at e3
  unfold POOL mPar
  rw [e3]
  rfl
abbrev NEAR : ME := (mBin addD (mLst (mCons (mC (.int 0)) (mCons (mC (.int 1)) mNil))) (mLc (mIAny (mVar 3)) (gN 10) mYes (mBin ixD (mVar 10) (mC (.int 0))) [10]))
theorem near_ok {E : Ev} {f : Nat} {C : Hm} {found : List D} (L : LE E f) (F : Fd C) (W : WH C) (hf : C[f]? = some (.lst found)) (hl : found.length ≤ 50) (h : ∀ d ∈ found, LB d) : ∃ q C' near, NEAR E C = some (.cell q, C') ∧ Fr C C' [] ∧ C'[q]? = some (.lst near) ∧ C.length ≤ q ∧ ∀ C'', ∀ d ∈ near, Gd C'' 60 d := by
  have z := szL
  have e1 := lstE (E := E) (C := C) (ml := mCons (mC (.int 0)) (mCons (mC (.int 1)) mNil)) (ds := [.int 0, .int 1]) rfl (by simp [z])
  have fr := (Fr.refl (ks := []) F W).app (c := .lst [.int 0, .int 1]) rfl
  have hf1 := fr.get F hf (by simp)
  have e2 := lc_any (me := mVar 3) (tg := gN 10) (tt := mYes) (elt := mBin ixD (mVar 10) (mC (.int 0))) (vs := [10]) (E := E) (C := C ++ [.lst [.int 0, .int 1]]) (d := .cell f) found (fun _ => true) fstD (var_at L.h3) (by simp only [walkD, hf1]) (by omega) (fun x hx => by
    obtain ⟨goal, ks, rfl, _⟩ := h x hx
    refine ⟨_, rfl, rfl, fun _ => ?_⟩
    rw [binE (set_get (by rw [wipe_len, L.len]; decide)) mC_at]
    exact at0)
  have ft : ∀ l : List D, l.filter (fun _ => true) = l := fun l => List.filter_eq_self.mpr (by simp)
  rw [ft] at e2
  have fr2 := fr.app (c := .lst (found.map fstD)) (bnds_iff.mpr fun d hd => by
    obtain ⟨x, hx, rfl⟩ := List.mem_map.mp hd
    exact (h x hx).fst.bnd)
  have fr3 := fr2.app (c := .lst ([.int 0, .int 1] ++ found.map fstD)) (bnds_iff.mpr fun d hd => by
    rcases List.mem_append.mp hd with hd | hd
    · simp only [List.mem_cons, List.not_mem_nil, or_false] at hd
      rcases hd with rfl | rfl <;> rfl
    · obtain ⟨x, hx, rfl⟩ := List.mem_map.mp hd
      exact (h x hx).fst.bnd)
  refine ⟨_, _, [.int 0, .int 1] ++ found.map fstD, ?_, fr3, last_get, by simp, fun C'' d hd => ?_⟩
  · rw [NEAR, binE e1 e2]
    unfold addD
    simp only
    rw [show (C ++ [Cell.lst [.int 0, .int 1]] ++ [.lst (found.map fstD)])[C.length]? = some (.lst [.int 0, .int 1]) from last2_get, last_get]
    simp only
    rw [if_pos (by simp; omega)]
  · rcases List.mem_append.mp hd with hd | hd
    · simp only [List.mem_cons, List.not_mem_nil, or_false] at hd
      rcases hd with rfl | rfl
      · exact ⟨.int 0, rfl, rfl⟩
      · exact ⟨.int 1, rfl, rfl⟩
    · obtain ⟨x, hx, rfl⟩ := List.mem_map.mp hd
      exact (h x hx).fst.gd (n := 58)
end G
set_option Elab.async false
set_option linter.all false
set_option maxRecDepth 100000
set_option maxHeartbeats 4000000
namespace G
open PySem L2 Mi
abbrev KEYS : MS := (mFor (mIRng1 (mCons (mBin ixD (mLst (mCons (mC (.int 1)) (mCons (mC (.int 1)) (mCons (mC (.int 1)) (mCons (mC (.int 2)) (mCons (mC (.int 2)) (mCons (mC (.int 3)) mNil))))))) (DR 6)) mNil)) (gN 11) INNER)
theorem keys_ok {E : Ev} {f p s q : Nat} {C : Hm} {ps : List Int} {near : List D} {goal : D} (L : LE E f) (F : Fd C) (W : WH C) (h5 : E[5]? = some (some goal)) (h6 : E[6]? = some (some (.cell p))) (h7 : E[7]? = some (some (.cell s))) (h9 : E[9]? = some (some (.cell q))) (hp : C[p]? = some (.lst (ps.map D.int))) (hs : C[s]? = some (.lst (([] : List Int).map D.int))) (hq : C[q]? = some (.lst near)) (p3 : 3 ≤ p) (s3 : 3 ≤ s) (hps : p ≠ s) (hqp : q ≠ p) (hqs : q ≠ s) (hl : ps.length ≤ 100) (h3 : 3 ≤ ps.length) (ip : intsIn 7 ps) (g : ∀ C'', ∀ d ∈ near, Gd C'' 60 d) {Q : Out → Prop}
    (k : ∀ E' C' ss, LE E' f → E'[5]? = some (some goal) → E'[7]? = some (some (.cell s)) → Fr C C' [p, s] → C'[s]? = some (.lst (ss.map D.int)) → ss.length ≤ 3 → ss ≠ [] → intsIn 7 ss → Q (.nx E' C')) : wpo (KEYS E C) Q := by
  refine wForR (wCons (wOne (xs := [.int 1, .int 1, .int 1, .int 2, .int 2, .int 3]) L.h0 F W (fun C => rfl) rfl (by omega) (by omega) (fun _ => rfl) fun x C1 hx f1 => wNil ?_))
  have hj : ∃ j : Int, x = .int j ∧ 1 ≤ j ∧ j ≤ 3 := by
    simp only [List.mem_cons, List.not_mem_nil, or_false] at hx
    rcases hx with rfl | rfl | rfl | rfl | rfl | rfl <;> exact ⟨_, rfl, by omega, by omega⟩
  obtain ⟨j, rfl, j0, j3⟩ := hj
  refine ⟨j, rfl, by omega, by omega, ?_⟩
  refine for_at (rngD 0 j.toNat) (fun i E' C' => ∃ ps' ss, LE E' f ∧ E'[5]? = some (some goal) ∧ E'[6]? = some (some (.cell p)) ∧ E'[7]? = some (some (.cell s)) ∧ E'[9]? = some (some (.cell q)) ∧ Fr C C' [p, s] ∧ C'[p]? = some (.lst (ps'.map D.int)) ∧ C'[s]? = some (.lst (ss.map D.int)) ∧ ps'.length + i = ps.length ∧ ss.length = i ∧ intsIn 7 ps' ∧ intsIn 7 ss) (fun _ _ _ _ => rfl) ?_ ?_ _ 0 _ _ (by simp) ⟨ps, [], L, h5, h6, h7, h9, f1.wk, f1.get F hp (by simp), f1.get F hs (by simp), rfl, rfl, ip, fun i hi => by cases hi⟩
  · rintro i x E' C' hx ⟨ps', ss, L', h5', h6', h7', h9', f', hp', hs', hpl, hsl, ip', is'⟩
    have hi : i < j.toNat := by
      have := (List.getElem?_eq_some_iff.mp hx).1
      simpa [rngD] using this
    refine wpo_eq rfl ?_
    have L2 := L'.set (x := x) (show 4 ≤ 11 by decide)
    refine inner_ok f'.fd f'.wh L2.len L2.h0 (set_var h6' (by decide)) (set_var h7' (by decide)) (set_var h9' (by decide)) hp' hs' (f'.get F hq (by simp; omega)) p3 s3 hps (by omega) (by omega) (fun e => by subst e; simp at hpl; omega) (g _) ?_
    intro v C2 y hv f2 hp2 hs2
    refine ⟨ps'.erase v, ss ++ [v], L2.set (by decide), set_var (set_var h5' (by decide)) (by decide), set_var (set_var h6' (by decide)) (by decide), set_var (set_var h7' (by decide)) (by decide), set_var (set_var h9' (by decide)) (by decide), f'.trans f2, hp2, hs2, ?_, by simp; omega, fun z hz => ip' z (List.mem_of_mem_erase hz), fun z hz => ?_⟩
    · have := List.length_erase_of_mem hv
      have : 0 < ps'.length := List.length_pos_of_mem hv
      omega
    · rcases List.mem_append.mp hz with hz | hz
      · exact is' z hz
      · rw [List.mem_singleton.mp hz]; exact ip' v hv
  · rintro E' C' ⟨ps', ss, L', h5', h6', h7', h9', f', hp', hs', hpl, hsl, ip', is'⟩
    have hsl' : ss.length = j.toNat := by rw [hsl]; simp [rngD]
    refine k E' C' ss L' h5' h7' f' hs' (by omega) (fun e => ?_) is'
    subst e
    simp at hsl'
    omega
abbrev DONE : MS := (mDrop (mMeth "list" appendD (mVar 3) (mCons (mTup (mCons (mVar 5) (mCons (mCallB tupleD (mCons (mCallB sortedD (mCons (mVar 7) mNil)) mNil)) mNil))) mNil)))
abbrev AGAIN : MS := (mIfS (tAndM (mTest (mBin dNe (mVar 3) (mLst mNil))) (mTest (mBin dEq (DR 9) (mC (.int 0))))) (mSeq (mDrop (mMeth "list" appendD (mVar 3) (mCons (mBin ixD (mVar 3) (mKeep (mCall M_law_draw (mCons (mVar 0) (mCons (mCallB lenD (mCons (mVar 3) mNil)) mNil))))) mNil)))
    mCont) mNext)
abbrev TURN : MS := (mSeq AGAIN (GOAL (mSeq POOL (mSeq (mAsg NEAR (gN 9)) (mSeq KEYS DONE)))))
theorem append_cellE {C : Hm} {f : Nat} {ds : List D} {d : D} (hc : C[f]? = some (.lst ds)) (hl : ds.length < sizeLine) : appendD (.cell f) [d] C = some (.non, C.set f (.lst (ds ++ [d]))) := by
  unfold appendD
  simp only
  rw [hc]
  simp only
  rw [if_pos hl]
theorem LB.gd {d : D} (h : LB d) {C : Hm} {n : Nat} : Gd C (n + 3) d := by
  obtain ⟨goal, ks, rfl, hg, _⟩ := h
  refine Gd.tup.mpr fun x hx => ?_
  simp only [List.mem_cons, List.not_mem_nil, or_false] at hx
  rcases hx with rfl | rfl
  · exact hg.gd
  · exact Gd.tup.mpr (gd_ints ks)
theorem turn_ok {E : Ev} {C0 C : Hm} {found : List D} (L : LE E C0.length) (F0 : Fd C0) (f0 : Fr C0 C []) (hf : C[C0.length]? = some (.lst found)) (hl : found.length ≤ 40) (h : ∀ d ∈ found, LB d) {Q : Out → Prop}
    (k : ∀ E' C' d, LE E' C0.length → Fr C0 C' [] → C'[C0.length]? = some (.lst (found ++ [d])) → LB d → Q (.nx E' C') ∧ Q (.ct E' C')) : wpo (TURN E C) Q := by
  have z := szL
  have fl := (List.getElem?_eq_some_iff.mp hf).1
  -- the end of a turn
  have fin : ∀ E' C' d, LE E' C0.length → Fr C0 C' [] → C'[C0.length]? = some (.lst found) → LB d → Fr C0 (C'.set C0.length (.lst (found ++ [d]))) [] ∧ (C'.set C0.length (.lst (found ++ [d])))[C0.length]? = some (.lst (found ++ [d])) := by
    intro E' C' d L' f' hf' hd
    have := F0.len
    refine ⟨f'.set (by omega) (fun z => by omega) (bnds_iff.mpr fun x hx => ?_), List.getElem?_set_self (List.getElem?_eq_some_iff.mp hf').1⟩
    rcases List.mem_append.mp hx with hx | hx
    · exact (h x hx).bnd
    · rw [List.mem_singleton.mp hx]; exact hd.bnd
  refine wSeq (wIfS (wAndT (wpo_eq (tst_bl (ne_isE hf L.h3 fun d hd => (h d hd).gd (n := 57))) ?_)))
  have f1 := f0.app (c := .lst []) rfl
  have hf1 : (C ++ [Cell.lst []])[C0.length]? = some (.lst found) := by rw [List.getElem?_append_left fl]; exact hf
  -- a new box
  have new : ∀ C', Fr C0 C' [] → C'[C0.length]? = some (.lst found) → wpo (GOAL (mSeq POOL (mSeq (mAsg NEAR (gN 9)) (mSeq KEYS DONE))) E C') Q := by
    intro C1 f1 hf1
    refine goal_ok L f1.fd f1.wh fun E2 C2 goal L2 h5 hg f2 => ?_
    have fl1 := (List.getElem?_eq_some_iff.mp hf1).1
    have hf2 := f2.get f1.fd hf1 (by simp)
    have w1 := (f2.app (c := .lst (((rngL 7).filter fun k => neB goal (.int k)).map D.int)) (bnds_ints _ _)).app (c := .lst (([] : List Int).map D.int)) rfl
    refine wSeq (wpo_eq (pool_ok L2 h5 hg) ?_)
    have L3 := (L2.set (i := 6) (x := .cell C2.length) (by decide)).set (i := 7) (x := .cell (C2.length + 1)) (by decide)
    have hf3 := w1.get f1.fd hf1 (by simp)
    obtain ⟨q, C4, near, en, f4, hq, hql, gn⟩ := near_ok L3 w1.fd w1.wh hf3 (by omega) h
    refine wSeq (wAsg (wpo_eq en ?_))
    have L4 := L3.set (i := 9) (x := .cell q) (by decide)
    have hC2 := f2.len
    have h3 := F0.len
    have hc01 := f1.len
    have e6 : (((E2.set 6 (some (.cell C2.length))).set 7 (some (.cell (C2.length + 1)))).set 9 (some (.cell q)))[6]? = some (some (.cell C2.length)) := set_var (set_var (L2.at (by decide)) (by decide)) (by decide)
    have e7 : (((E2.set 6 (some (.cell C2.length))).set 7 (some (.cell (C2.length + 1)))).set 9 (some (.cell q)))[7]? = some (some (.cell (C2.length + 1))) := set_var ((L2.set (i := 6) (by decide)).at (by decide)) (by decide)
    have e9 := L3.at (i := 9) (x := .cell q) (by decide)
    have e5 : (((E2.set 6 (some (.cell C2.length))).set 7 (some (.cell (C2.length + 1)))).set 9 (some (.cell q)))[5]? = some (some goal) := set_var (set_var (set_var h5 (by decide)) (by decide)) (by decide)
    have hql' : C2.length + 2 ≤ q := by simpa using hql
    refine wSeq (keys_ok L4 f4.fd f4.wh e5 e6 e7 e9 (f4.get w1.fd get_a (by simp)) (f4.get w1.fd get_b (by simp)) hq (by omega) (by omega) (by omega) (by omega) (by omega) (by
      have := List.length_filter_le (fun k => neB goal (.int k)) (rngL 7)
      have : (rngL 7).length = 7 := rfl
      omega) (pool_len hg) pool_in gn ?_)
    intro E5 C5 ss L5 h55 h57 f5 hs5 hsl hsn is5
    have ft : Fr C0 C5 [] := (f1.trans (w1.trans f4)).tr f5 (by
      intro j hj
      simp only [List.mem_cons, List.not_mem_nil, or_false] at hj
      rcases hj with rfl | rfl <;> omega)
    have hf5 : C5[C0.length]? = some (.lst found) := f5.get f4.fd (f4.get w1.fd hf3 (by simp)) (by simp; omega)
    have e8 := sorted_at hs5 h57
    have ft6 := ft.app (c := .lst ((sortI ss).map D.int)) (bnds_ints _ _)
    have hf6 : (C5 ++ [Cell.lst ((sortI ss).map D.int)])[C0.length]? = some (.lst found) := by rw [List.getElem?_append_left (List.getElem?_eq_some_iff.mp hf5).1]; exact hf5
    have lb : LB (.tup [goal, .tup ((sortI ss).map D.int)]) := ⟨goal, sortI ss, rfl, hg, fun i hi => is5 i ((sortI_perm ss).mem_iff.mp hi), by rw [(sortI_perm ss).length_eq]; exact hsl, fun e => hsn (by have := (sortI_perm ss).length_eq; rw [e] at this; exact List.length_eq_zero_iff.mp this.symm)⟩
    obtain ⟨k1, k2⟩ := fin E5 _ _ L5 ft6 hf6 lb
    refine wDrop (wMethE (var_at L5.h3) (tyD_lst hf5) (wCons (wpo_eq (tupE (consE (var_at h55) (cons1 e8)) (by simp [z])) (wNil (wpo_eq (append_cellE hf6 (by omega)) ?_)))))
    exact (k E5 _ _ L5 k1 k2 lb).1
  split
  · rename_i hne
    refine wTst (wBin (wDR L.h0 f1.fd f1.wh (by omega) (by omega) fun r C2 _ _ U2 => wC (wpo_eq eq_int ⟨_, rfl, ?_⟩)))
    have f2 := f1.upd U2
    have hf2 : C2[C0.length]? = some (.lst found) := U2.le f1.fd _ _ hf1
    split
    · have hn : found ≠ [] := fun e => by subst e; simp at hne
      have hpos : 0 < found.length := List.length_pos_iff.mpr hn
      refine wSeq (wDrop (wMethE (var_at L.h3) (tyD_lst hf2) (wCons (wBin (wVar L.h3 (wdraw (n := (found.length : Int)) (len_at hf2 L.h0 L.h3 rfl) f2.fd f2.wh (by omega) (by omega) fun r C3 r0 r1 U3 => ?_))))))
      have f3 := f2.upd U3
      have hf3 : C3[C0.length]? = some (.lst found) := U3.le f2.fd _ _ hf2
      obtain ⟨x, e, hx⟩ := atI_in (xs := found) r0 r1
      have e1 : ixD (.cell C0.length) (.int r) C3 = some (x, C3) := by
        unfold ixD
        simp only
        rw [hf3]
        simp only
        rw [e]
        rfl
      refine wpo_eq e1 (wNil (wpo_eq (append_cellE hf3 (by omega)) ?_))
      obtain ⟨k1, k2⟩ := fin E C3 x L f3 hf3 (h x hx)
      exact wpo_eq rfl (k E _ x L k1 k2 (h x hx)).2
    · exact wpo_eq rfl (new C2 f2 hf2)
  · exact wpo_eq rfl (new _ f1 hf1)
theorem pick_back {α : Type} (l : List α) : pickL l none none (some (-1)) = l.reverse := by
  have eb : sliceBounds none none (some (-1)) l.length = ((l.length : Int) - 1, -1, -1) := rfl
  have er : sliceRange ((l.length : Int) - 1) (-1) (-1) = (List.range l.length).map fun (k : Nat) => (((l.length : Int) - 1) + (-1) * (k : Int)).toNat := by
    unfold sliceRange
    have : (if (-1 : Int) > 0 then (if ((l.length : Int) - 1) < -1 then (-1 - ((l.length : Int) - 1) + -1 - 1) / -1 else 0) else (if ((l.length : Int) - 1) > -1 then (((l.length : Int) - 1) - -1 - -1 - 1) / (-(-1)) else 0)) = (l.length : Int) := by
      rw [if_neg (by decide)]
      split
      · rw [show (-(-1) : Int) = 1 by decide, Int.ediv_one]; omega
      · omega
    simp only [this, Int.toNat_natCast]
  unfold pickL
  rw [eb]
  simp only
  rw [er, List.filterMap_map]
  apply List.ext_getElem?
  intro i
  cases l with
  | nil => rfl
  | cons a r =>
    have e : ∀ ms : List Nat, (∀ m ∈ ms, m < (a :: r).length) → (ms.filterMap ((fun i => (a :: r)[i]?) ∘ fun (k : Nat) => ((((a :: r).length : Int) - 1) + (-1) * (k : Int)).toNat)) = ms.map fun m => (a :: r).reverse.getD m a := by
      intro ms
      induction ms with
      | nil => intro _; rfl
      | cons m ms ih =>
        intro h
        have hm := h m (by simp)
        have e1 : ((((a :: r).length : Int) - 1) + (-1) * (m : Int)).toNat = (a :: r).length - 1 - m := by omega
        have hm2 : m < (a :: r).reverse.length := by simpa using hm
        rw [List.filterMap_cons, List.map_cons, ih fun m hm => h m (by simp [hm])]
        simp only [Function.comp, e1]
        rw [List.getElem?_eq_getElem (by omega), List.getD_eq_getElem?_getD, List.getElem?_eq_getElem hm2, List.getElem_reverse]
        rfl
    rw [e _ fun m hm => List.mem_range.mp hm, List.getElem?_map]
    by_cases hi : i < (a :: r).length
    · rw [List.getElem?_range hi]
      have hi2 : i < (a :: r).reverse.length := by simpa using hi
      simp only [Option.map_some, List.getD_eq_getElem?_getD, List.getElem?_eq_getElem hi2, Option.getD_some]
    · have h1 : (List.range (a :: r).length)[i]? = none := List.getElem?_eq_none (by simpa using hi)
      have h2 : (a :: r).reverse[i]? = none := List.getElem?_eq_none (by simpa using hi)
      rw [h1, h2]; rfl
theorem lot_ok {C : Hm} (F : Fd C) (W : WH C) {n : Int} (n0 : 0 ≤ n) (n1 : n ≤ 7) : wpo (M_law_lot [.cell 2, .int n, .int 7] C) fun r => ∃ ds C', r = (.tup ds, C') ∧ ds.length = n.toNat ∧ (∀ d ∈ ds, LB d) ∧ Fr C C' [] := by
  have z := szL
  have p62 : (2 : Int) ^ 62 = 4611686018427387904 := by decide +kernel
  refine wFn rfl (show wpo (B_law_lot [some (.cell 2), some (.int n), some (.int 7), none, none, none, none, none, none, none, none, none, none] C) _ from ?_)
  refine wSeq (wAsg (wpo_eq (lstE nilE (Nat.zero_le _)) ?_))
  have L0 : LE ([some (.cell 2), some (.int n), some (.int 7), some (.cell C.length), none, none, none, none, none, none, none, none, none]) C.length := ⟨rfl, rfl, rfl, rfl⟩
  refine wSeq (wForR (wCons (wVar rfl (wNil ⟨n, rfl, by rw [p62]; omega, by rw [p62]; omega, ?_⟩))))
  refine for_at (rngD 0 n.toNat) (fun i E' C' => ∃ found, LE E' C.length ∧ Fr C C' [] ∧ C'[C.length]? = some (.lst found) ∧ found.length = i ∧ ∀ d ∈ found, LB d) (fun _ _ _ _ => rfl) ?_ ?_ _ 0 _ _ (by simp) ⟨[], L0, (Fr.refl F W).app rfl, last_get, rfl, by simp⟩
  · rintro i x E' C' hx ⟨found, L', f', hf', hl, h'⟩
    have hi : i < n.toNat := by
      have := (List.getElem?_eq_some_iff.mp hx).1
      simpa [rngD] using this
    refine wpo_eq rfl (turn_ok (L'.set (by decide)) F f' hf' (by omega) h' ?_)
    intro E2 C2 d L2 f2 hf2 hd
    have key : ∃ found, LE E2 C.length ∧ Fr C C2 [] ∧ C2[C.length]? = some (.lst found) ∧ found.length = i + 1 ∧ ∀ d ∈ found, LB d := ⟨found ++ [d], L2, f2, hf2, by simp; omega, fun y hy => by
      rcases List.mem_append.mp hy with hy | hy
      · exact h' y hy
      · rw [List.mem_singleton.mp hy]; exact hd⟩
    exact ⟨key, key⟩
  · rintro E' C' ⟨found, L', f', hf', hl, h'⟩
    have hl : found.length = n.toNat := by rw [hl]; simp [rngD]
    have tupC : ∀ {k : Nat} {C2 : Hm} {ds : List D}, C2[k]? = some (.lst ds) → tupleD [.cell k] C2 = some (.tup ds, C2) := fun {k C2 ds} e => by
      unfold tupleD seqOf
      simp only
      rw [e]
      rfl
    refine wRet (wCallB (wCons (wIf (wTst (wBin (wDR L'.h0 f'.fd f'.wh (by omega) (by omega) fun r C2 _ _ U2 => wC (wpo_eq eq_int ⟨_, rfl, ?_⟩)))))))
    have f2 := f'.upd U2
    have hf2 : C2[C.length]? = some (.lst found) := U2.le f'.fd _ _ hf'
    split
    · have e1 : mSl3 (mVar 3) oNone oNone (oSome (mUn negD (mC (.int 1)))) E' C2 = some (.cell C2.length, C2 ++ [.lst found.reverse]) := by
        have e2 : sl3D (.cell C.length) none none (some (-1)) C2 = some (.cell C2.length, C2 ++ [.lst found.reverse]) := by
          unfold sl3D
          simp only
          rw [hf2]
          simp only
          rw [if_pos (by decide), pick_back]
        unfold mSl3
        rw [var_at L'.h3]
        exact e2
      have f3 := f2.app (c := .lst found.reverse) (bnds_iff.mpr fun y hy => (h' y (List.mem_reverse.mp hy)).bnd)
      refine wpo_eq e1 (wNil (wpo_eq (tupC last_get) ⟨_, _, rfl, _, _, rfl, by rw [List.length_reverse]; exact hl, fun y hy => h' y (List.mem_reverse.mp hy), f3⟩))
    · exact wVar L'.h3 (wNil (wpo_eq (tupC hf2) ⟨_, _, rfl, _, _, rfl, hl, h', f2⟩))
end G
set_option Elab.async false
set_option linter.all false
set_option maxRecDepth 100000
set_option maxHeartbeats 4000000
namespace G
open PySem L2 Mi
theorem asc_iff {x : Str} : x.cps.all (· < 128) = true ↔ ∀ c ∈ x.cps.toList, c < 128 := by
  rw [Array.all_eq_true_iff_forall_mem]
  simp
theorem log_small {n : Nat} (h : n ≤ 50) : n.log2 < 1920 := Nat.lt_of_le_of_lt (Nat.log2_le_self n) (by omega)
theorem lf_int {i : Int} (h : i.natAbs ≤ 50) : PyData.showable (.int i) = true ∧ PyData.leavesShort 64 (.int i) = true := by
  have e := PyProof.Rows.len_str_of_int i
  refine ⟨?_, ?_⟩
  · simp only [PyData.showable]; exact decide_eq_true (log_small h)
  · simp only [PyData.leavesShort]
    refine decide_eq_true ?_
    have e2 : (PyData.shown (.int i)).length = (Str.ofString (toString i)).length := by simp only [PyData.shown]
    omega
theorem feed_ok {ns : List Int} (hl : ns.length ≤ 63) : M_law_feed [.rol ns] [] = some (.cell 2, feedH (.lst (ns.map D.int)) ns 0 0 0 []) := by
  refine fn_ret rfl (show B_law_feed [some (.rol ns)] [] = _ from ret_eq ?_)
  have e1 : mSl slD (mVar 0) oNone (oSome (mC (.int 63))) [some (.rol ns)] [] = some (.cell 0, [.lst (ns.map D.int)]) := by
    have : cutD (ns.map D.int) none (some (63 : Int)) = ns.map D.int := by
      have := lo_take (ds := ns.map D.int) (k := 63)
      rw [show ((63 : Nat) : Int) = 63 from rfl] at this
      rw [this, List.take_of_length_le (by rw [List.length_map]; exact hl)]
    unfold mSl oNone oSome
    rw [var_at (d := .rol ns) rfl]
    simp only [Option.bind_some, mC]
    unfold slD
    simp only
    rw [this]
    rfl
  have e2 : mCallB listD (mCons (mSl slD (mVar 0) oNone (oSome (mC (.int 63)))) mNil) [some (.rol ns)] [] = some (.cell 1, [.lst (ns.map D.int), .lst (ns.map D.int)]) := by
    rw [callB_eq (cons1 e1)]
    rfl
  unfold mDisp
  rw [consE e2 (consE mC_at (consE mC_at (consE mC_at nilE)))]
  rfl
theorem wkeep {m : ME} {E : Ev} {C : Hm} {Q : D × Hm → Prop} (F : Fd C) (W : WH C) (h : wpo (m E C) fun r => Fr C r.2 [] ∧ r.1.bnd C.length = true ∧ ∀ A, Upd C A → Q (r.1, A)) : wpo (mKeep m E C) Q := by
  obtain ⟨⟨d, C'⟩, e, f, hb, k⟩ := h
  obtain ⟨A, g, rfl, U⟩ := f.toUpd F W
  exact ⟨_, keep_eq e U.len U.wh hb, k A U⟩
theorem wkeepU {m : ME} {E : Ev} {C : Hm} {Q : D × Hm → Prop} (h : wpo (m E C) fun r => ∃ C' g, r.2 = C' ++ g ∧ Upd C C' ∧ r.1.bnd C.length = true ∧ Q (r.1, C')) : wpo (mKeep m E C) Q := by
  obtain ⟨⟨d, C1⟩, e, C', g, rfl, U, hb, q⟩ := h
  exact ⟨_, keep_eq e U.len U.wh hb, q⟩
abbrev GR1 (m k : Int) : ME := mKeep (mCall M_law_grip (mCons (mVar 1) (mCons (mC (.int m)) (mCons (mC (.int k)) mNil))))
theorem wgripI {m k : Nat} {E : Ev} {C : Hm} {ml : MA} {Q : D × Hm → Prop} (he : ml E C = some ([.cell 2, .int m, .int k], C)) (F : Fd C) (W : WH C) (hk : k < m) (hm : m ≤ 20) (q : ∀ is C', Upd C C' → intsIn m is → is.length ≤ k → Q (.tup (is.map D.int), C')) : wpo (mKeep (mCall M_law_grip ml) E C) Q := by
  refine wkeepU (wCall (wpo_eq he (wpo_mono (grip_ok F W hk (by omega)) ?_)))
  rintro r ⟨is, C', g, rfl, hi, hl, U⟩
  exact ⟨C', g, rfl, U, bnds_ints _ _, q is C' U hi hl⟩
/-! ## the beginning: sorted keys -/
def srt (l : List Int) : List Int := dedup (sortI l)
theorem srt_up (l : List Int) : (srt l).Pairwise (· < ·) := dedup_up _ (sortI_up _)
theorem srt_mem {l : List Int} {k : Int} : k ∈ srt l ↔ k ∈ l := by unfold srt; rw [dedup_mem, (sortI_perm _).mem_iff]
theorem up_len : ∀ {l : List Int} {m : Nat}, l.Pairwise (· < ·) → (∀ k ∈ l, 0 ≤ k ∧ k < (m : Int)) → l.length ≤ m := by
  intro l m
  induction m generalizing l with
  | zero =>
    intro _ h
    cases l with
    | nil => simp
    | cons a r => have := h a (by simp); omega
  | succ m ih =>
    intro up h
    have nd : l.Nodup := up.imp fun h => by omega
    by_cases hm : (m : Int) ∈ l
    · have := ih (l := l.erase m) (up.sublist List.erase_sublist) fun k hk => by
        have h1 := h k (List.mem_of_mem_erase hk)
        have h2 : k ≠ m := fun e => by subst e; exact absurd hk (List.Nodup.not_mem_erase nd)
        omega
      rw [List.length_erase_of_mem hm] at this
      omega
    · have := ih (l := l) up fun k hk => by
        have h1 := h k hk
        have h2 : k ≠ m := fun e => hm (e ▸ hk)
        omega
      omega
theorem srtSet_eq {m : ME} {E : Ev} {C C' : Hm} {d : D} {ns : List Int} (h : m E C = some (d, C')) (hs : seqOf C' d = some (ns.map .int)) (hl : ns.length < 63) : mSrtSet m E C = some (.cell C'.length, C' ++ [.lst ((srt ns).map .int)]) := by
  unfold mSrtSet
  rw [h]
  simp only [Option.bind_some, hs, intsOf_ints]
  rw [if_pos hl]; rfl
theorem tupC {C2 : Hm} {ds : List D} : tupleD [.cell C2.length] (C2 ++ [.lst ds]) = some (.tup ds, C2 ++ [.lst ds]) := by
  unfold tupleD seqOf
  simp only [last_get, Option.map_some]
abbrev STARTS : ME := (mLst (mCons (mLst (mCons (mC (.int 0)) mNil)) (mCons (mLst (mCons (mC (.int 1)) mNil)) (mCons (mLst (mCons (mC (.int 0)) (mCons (mC (.int 1)) mNil))) (mCons (mLst mNil) mNil)))))
theorem starts_ok {E : Ev} {C : Hm} : STARTS E C = some (.cell (C.length + 4), C ++ [.lst [.int 0], .lst [.int 1], .lst [.int 0, .int 1], .lst []] ++ [.lst [.cell C.length, .cell (C.length + 1), .cell (C.length + 2), .cell (C.length + 3)]]) := by
  have z := szL
  have a1 := lstE (E := E) (C := C) (ml := mCons (mC (.int 0)) mNil) (ds := [.int 0]) rfl (by simp [z])
  have a2 := lstE (E := E) (C := C ++ [.lst [.int 0]]) (ml := mCons (mC (.int 1)) mNil) (ds := [.int 1]) rfl (by simp [z])
  have a3 := lstE (E := E) (C := C ++ [.lst [.int 0]] ++ [.lst [.int 1]]) (ml := mCons (mC (.int 0)) (mCons (mC (.int 1)) mNil)) (ds := [.int 0, .int 1]) rfl (by simp [z])
  have a4 := lstE (E := E) (C := C ++ [.lst [.int 0]] ++ [.lst [.int 1]] ++ [.lst [.int 0, .int 1]]) (ml := mNil) (ds := []) rfl (Nat.zero_le _)
  have e := lstE (consE a1 (consE a2 (consE a3 (consE a4 nilE)))) (by simp [z])
  rw [STARTS, e]
  simp [List.append_assoc, Nat.add_assoc]
theorem law_begin_ok {C : Hm} (F : Fd C) (W : WH C) : wpo (M_law_begin [.cell 2, .int 7] C) fun r => ∃ is, r.1 = .tup (is.map D.int) ∧ Fr C r.2 [] ∧ is.Pairwise (· < ·) ∧ intsIn 7 is := by
  have z := szL
  refine wFn rfl (show wpo (B_law_begin [some (.cell 2), some (.int 7), none] C) _ from ?_)
  have f0 : Fr C (C ++ [.lst [.int 0], .lst [.int 1], .lst [.int 0, .int 1], .lst []] ++ [.lst [.cell C.length, .cell (C.length + 1), .cell (C.length + 2), .cell (C.length + 3)]]) [] := by
    have f1 := ((((Fr.refl (ks := []) F W).app (c := .lst [.int 0]) rfl).app (c := .lst [.int 1]) rfl).app (c := .lst [.int 0, .int 1]) rfl).app (c := .lst []) rfl
    have f2 := f1.app (c := .lst [.cell C.length, .cell (C.length + 1), .cell (C.length + 2), .cell (C.length + 3)]) (by simp [Cell.bnd, bnds, D.bnd]; omega)
    simpa [List.append_assoc] using f2
  refine wSeq (wAsg (wBin (wpo_eq starts_ok (wDR rfl f0.fd f0.wh (by omega) (by omega) fun r C1 r0 r1 U => ?_))))
  have g0 : ∀ (k : Nat) (ds : List D), (C ++ [Cell.lst [.int 0], .lst [.int 1], .lst [.int 0, .int 1], .lst []] ++ [.lst [.cell C.length, .cell (C.length + 1), .cell (C.length + 2), .cell (C.length + 3)]])[k]? = some (.lst ds) → C1[k]? = some (.lst ds) := fun k ds e => U.le f0.fd _ _ e
  have gl : C1[C.length + 4]? = some (.lst [.cell C.length, .cell (C.length + 1), .cell (C.length + 2), .cell (C.length + 3)]) := g0 _ _ (by simp)
  have f1 := f0.upd U
  -- what is picked
  have pk : ∃ (k : Nat) (ns : List Int), ixD (.cell (C.length + 4)) (.int r) C1 = some (.cell k, C1) ∧ C1[k]? = some (.lst (ns.map D.int)) ∧ intsIn 7 ns ∧ ns.length ≤ 2 := by
    have hr : r = 0 ∨ r = 1 ∨ r = 2 ∨ r = 3 := by omega
    have ix : ∀ {d}, atI [D.cell C.length, .cell (C.length + 1), .cell (C.length + 2), .cell (C.length + 3)] r = some d → ixD (.cell (C.length + 4)) (.int r) C1 = some (d, C1) := fun {d} e => by
      unfold ixD; simp only [gl, e, Option.map_some]
    rcases hr with rfl | rfl | rfl | rfl
    · exact ⟨C.length, [0], ix rfl, g0 _ _ (by simp), by intro i hi; simp at hi; omega, by simp⟩
    · exact ⟨C.length + 1, [1], ix rfl, g0 _ _ (by simp), by intro i hi; simp at hi; omega, by simp⟩
    · exact ⟨C.length + 2, [0, 1], ix rfl, g0 _ _ (by simp), by intro i hi; simp at hi; omega, by simp⟩
    · exact ⟨C.length + 3, [], ix rfl, g0 _ _ (by simp), by intro i hi; simp at hi, by simp⟩
  obtain ⟨k, ns, e1, e2, hn, hln⟩ := pk
  refine wpo_eq e1 ?_
  show wpo (mRet _ [some (.cell 2), some (.int 7), some (.cell k)] C1) _
  refine wRet (wCallB (wCons ?_))
  have key : wpo (mBin addD (mVar 2) (mCallB listD (mCons (mKeep (mCall M_law_grip (mCons (mVar 0) (mCons (mVar 1) (mCons (mC (.int 1)) mNil))))) mNil)) [some (.cell 2), some (.int 7), some (.cell k)] C1) fun q => ∃ (C2 : Hm) (is : List Int), q.1 = .cell C2.length ∧ q.2 = C2 ++ [.lst ((ns ++ is).map D.int)] ∧ Fr C C2 [] ∧ intsIn 7 is ∧ is.length ≤ 1 := by
    refine wBin (wVar rfl (wCallB (wCons (wgripI (m := 7) (k := 1) (E := [some (.cell 2), some (.int 7), some (.cell k)]) rfl f1.fd f1.wh (by omega) (by omega) fun is C2 U2 hi hl => wNil ?_))))
    have f2 := f1.upd U2
    have f3 := f2.app (c := .lst (is.map D.int)) (bnds_ints _ _)
    have h2 : C2[k]? = some (.lst (ns.map D.int)) := U2.le f1.fd _ _ e2
    refine wpo_eq (x := (.cell C2.length, C2 ++ [.lst (is.map D.int)])) rfl ?_
    refine wpo_eq (x := (.cell (C2 ++ [Cell.lst (is.map D.int)]).length, C2 ++ [.lst (is.map D.int)] ++ [.lst ((ns ++ is).map D.int)])) ?_ ⟨C2 ++ [.lst (is.map D.int)], is, rfl, rfl, f3, hi, hl⟩
    unfold addD
    simp only
    rw [get_app h2, last_get]
    simp only
    rw [if_pos (by simp; omega), List.map_append]
  obtain ⟨⟨d, C3⟩, ek, C2, is, rfl, rfl, f2, hi, hl⟩ := key
  have f3 := f2.app (c := .lst ((ns ++ is).map D.int)) (bnds_ints _ _)
  refine wpo_eq (srtSet_eq ek (ns := ns ++ is) (by unfold seqOf; simp only [last_get]) (by simp; omega)) (wNil (wpo_eq tupC ⟨_, _, rfl, srt (ns ++ is), rfl, f3.app (bnds_ints _ _), srt_up _, fun i hi' => ?_⟩))
  rcases List.mem_append.mp (srt_mem.mp hi') with h | h
  · exact hn i h
  · exact hi i h
/-! ## what is shown -/
def Sh (m : Nat) (p : PyData) : Prop := p.showable = true ∧ p.leavesShort 64 = true ∧ p.bulk ≤ m
theorem sh_int {i : Int} (h : i.natAbs ≤ 50) : Sh 1 (.int i) := ⟨(lf_int h).1, (lf_int h).2, by simp [PyData.bulk]⟩
theorem sh_str {x : Str} (h : x.cps.all (· < 128) = true) (hl : x.length ≤ 10) : Sh 10 (.str x) := by
  refine ⟨by simp [PyData.showable], ?_, by simp only [PyData.bulk]; exact hl⟩
  simp only [PyData.leavesShort, List.all_eq_true]
  intro c hc
  have := asc_iff.mp h c hc
  exact decide_eq_true (by omega)
theorem sh_all {m : Nat} : ∀ {ps : List PyData}, (∀ p ∈ ps, Sh m p) → PyData.showableAll ps = true ∧ PyData.leavesShortAll 64 ps = true ∧ PyData.bulkAll ps ≤ ps.length * (m + 1)
  | [], _ => by simp [PyData.showableAll, PyData.leavesShortAll, PyData.bulkAll]
  | p :: ps, h => by
    obtain ⟨a1, a2, a3⟩ := h p (by simp)
    obtain ⟨b1, b2, b3⟩ := sh_all (ps := ps) fun q hq => h q (by simp [hq])
    refine ⟨by simp [PyData.showableAll, a1, b1], by simp [PyData.leavesShortAll, a2, b2], ?_⟩
    simp only [PyData.bulkAll, List.length_cons, Nat.add_mul, Nat.one_mul] at *
    omega
theorem sh_tup {m : Nat} {ps : List PyData} (h : ∀ p ∈ ps, Sh m p) : Sh (ps.length * (m + 1) + 1) (.tuple ps) := by
  obtain ⟨h1, h2, h3⟩ := sh_all h
  refine ⟨by simpa [PyData.showable] using h1, by simpa [PyData.leavesShort] using h2, ?_⟩
  simp only [PyData.bulk]
  omega
theorem Sh.up {m n : Nat} {p : PyData} (h : Sh m p) (k : m ≤ n) : Sh n p := ⟨h.1, h.2.1, Nat.le_trans h.2.2 k⟩
theorem sh_ints {is : List Int} (h : intsIn 7 is) : Sh (is.length * 2 + 1) (.tuple (is.map .int)) := by
  have := sh_tup (m := 1) (ps := is.map PyData.int) fun p hp => by
    obtain ⟨i, hi, rfl⟩ := List.mem_map.mp hp
    have := h i hi
    exact sh_int (by omega)
  simpa using this
/-! ## the boxes of a lot -/
structure Bx (b : Box) : Prop where
  okg : OkT b.1
  ne : b.2 ≠ []
  l3 : b.2.length ≤ 3
  k7 : intsIn 7 b.2
  sh : Sh 30 (pyT b.1)
theorem S3.nm {s : Str} (h : S3 s) : kName (.str s) = true ∧ PyData.strOk s = true ∧ s.cps.all (· < 128) = true ∧ s.length ≤ 10 := by rcases h with rfl | rfl | rfl <;> decide +kernel
theorem LB.box {d : D} (h : LB d) : ∃ b : Box, d = boxD b ∧ Bx b := by
  obtain ⟨goal, ks, rfl, hg, hk, hl, hn⟩ := h
  rcases hg with ⟨i, rfl, h0, h1⟩ | ⟨s, i, rfl, hs, h0, h1⟩
  · exact ⟨(.i i, ks), rfl, h0, hn, hl, hk, (sh_int (i := i) (by omega)).up (by omega)⟩
  · obtain ⟨a1, a2, a3, a4⟩ := hs.nm
    refine ⟨(.t [.inr s, .inl i], ks), rfl, ⟨s, i, rfl, a1, a2, h0⟩, hn, hl, hk, ?_⟩
    have := sh_tup (m := 10) (ps := [PyData.str s, .int i]) fun p hp => by
      simp only [List.mem_cons, List.not_mem_nil, or_false] at hp
      rcases hp with rfl | rfl
      · exact sh_str a3 a4
      · exact (sh_int (by omega)).up (by omega)
    exact this.up (by simp)
theorem lbs_boxes : ∀ {ds : List D}, (∀ d ∈ ds, LB d) → ∃ bx : List Box, ds = bx.map boxD ∧ bx.length = ds.length ∧ ∀ b ∈ bx, Bx b
  | [], _ => ⟨[], rfl, rfl, fun _ h => by cases h⟩
  | d :: ds, h => by
    obtain ⟨b, e, hb⟩ := (h d (by simp)).box
    obtain ⟨bx, e2, hl, hx⟩ := lbs_boxes (ds := ds) fun x hx => h x (by simp [hx])
    refine ⟨b :: bx, by rw [e, e2]; rfl, by simp [hl], fun c hc => ?_⟩
    rcases List.mem_cons.mp hc with rfl | hc
    · exact hb
    · exact hx c hc
def pyB (b : Box) : PyData := .tuple [pyT b.1, .tuple (b.2.map .int)]
theorem sh_box {b : Box} (h : Bx b) : Sh 63 (pyB b) := by
  have l3 := h.l3
  have := sh_tup (m := 30) (ps := [pyT b.1, .tuple (b.2.map PyData.int)]) fun p hp => by
    simp only [List.mem_cons, List.not_mem_nil, or_false] at hp
    rcases hp with rfl | rfl
    · exact h.sh
    · exact (sh_ints h.k7).up (by omega)
  exact this.up (by simp)
theorem py_ints {C : Hm} {n : Nat} : ∀ {is : List Int}, (is.map D.int).mapM (py C (n + 1)) = some (is.map PyData.int)
  | [] => rfl
  | i :: is => by rw [List.map_cons, List.mapM_cons, py_ints (is := is)]; rfl
theorem py_tints {C : Hm} {n : Nat} {is : List Int} : py C (n + 2) (.tup (is.map D.int)) = some (.tuple (is.map .int)) := by
  show ((is.map D.int).mapM (py C (n + 1))).map PyData.tuple = _
  rw [py_ints]; rfl
theorem py_box {C : Hm} {n : Nat} {b : Box} (h : OkT b.1) : py C (n + 3) (boxD b) = some (pyB b) := by
  show (([mkD b.1, .tup (b.2.map D.int)] : List D).mapM (py C (n + 2))).map PyData.tuple = _
  rw [List.mapM_cons, py_mkD h, List.mapM_cons, py_tints]; rfl
theorem py_boxes {C : Hm} {n : Nat} : ∀ {bx : List Box}, (∀ b ∈ bx, OkT b.1) → (bx.map boxD).mapM (py C (n + 3)) = some (bx.map pyB)
  | [], _ => rfl
  | b :: bx, h => by rw [List.map_cons, List.mapM_cons, py_box (h b (by simp)), py_boxes (bx := bx) fun c hc => h c (by simp [hc])]; rfl
theorem repr_pair {C : Hm} {ks : List Int} {bx : List Box} (hk : intsIn 7 ks) (kl : ks.length ≤ 100) (hb : ∀ b ∈ bx, Bx b) (bl : bx.length ≤ 50) : reprD [.tup [keysD ks, boxesD bx]] C = some (.str (PyData.shown (.tuple [.tuple (ks.map .int), .tuple (bx.map pyB)])), C) := by
  have z := szL
  have e : py C 70 (.tup [keysD ks, boxesD bx]) = some (.tuple [.tuple (ks.map .int), .tuple (bx.map pyB)]) := by
    show (([keysD ks, boxesD bx] : List D).mapM (py C 69)).map PyData.tuple = _
    have e1 : py C 69 (keysD ks) = some (.tuple (ks.map .int)) := py_tints (n := 67)
    have e2 : py C 69 (boxesD bx) = some (.tuple (bx.map pyB)) := by
      show ((bx.map boxD).mapM (py C 68)).map PyData.tuple = _
      rw [py_boxes (n := 65) fun b h => (hb b h).okg]; rfl
    rw [List.mapM_cons, e1, List.mapM_cons, e2]; rfl
  have e' : py C 5 (.tup [keysD ks, boxesD bx]) = some (.tuple [.tuple (ks.map .int), .tuple (bx.map pyB)]) := by
    show (([keysD ks, boxesD bx] : List D).mapM (py C 4)).map PyData.tuple = _
    have e1 : py C 4 (keysD ks) = some (.tuple (ks.map .int)) := py_tints (n := 2)
    have e2 : py C 4 (boxesD bx) = some (.tuple (bx.map pyB)) := by
      show ((bx.map boxD).mapM (py C 3)).map PyData.tuple = _
      rw [py_boxes (n := 0) fun b h => (hb b h).okg]; rfl
    rw [List.mapM_cons, e1, List.mapM_cons, e2]; rfl
  have dp := py_depth e'
  have s1 := sh_ints hk
  have s2 := sh_tup (m := 63) (ps := bx.map pyB) fun p hp => by
    obtain ⟨b, h, rfl⟩ := List.mem_map.mp hp
    exact sh_box (hb b h)
  have s3 := sh_tup (m := 4000) (ps := [.tuple (ks.map PyData.int), .tuple (bx.map pyB)]) fun p hp => by
    simp only [List.mem_cons, List.not_mem_nil, or_false] at hp
    rcases hp with rfl | rfl
    · exact s1.up (by omega)
    · exact s2.up (by simp; omega)
  have s3 := s3.up (show _ ≤ 9000 by simp)
  have h1 := PyData.shown_le_bulk 64 (by decide) _ s3.2.1
  have h3 := s3.2.2
  have hm := Nat.mul_le_mul_left (64 + 2) h3
  unfold reprD
  simp only [e]
  rw [if_pos ⟨s3.1, by omega, by omega⟩]
end G
set_option Elab.async false
set_option linter.all false
set_option maxRecDepth 100000
set_option maxHeartbeats 4000000
namespace G
open PySem L2 Mi
abbrev DR1 (n : Int) : ME := mKeep (mCall M_law_draw (mCons (mVar 1) (mCons (mC (.int n)) mNil)))
theorem wDR1 {n : Int} {E : Ev} {C : Hm} {Q : D × Hm → Prop} (h1 : E[1]? = some (some (.cell 2))) (F : Fd C) (W : WH C) (hn : 0 < n) (hn2 : n < 1000000) (k : ∀ r C', 0 ≤ r → r < n → Upd C C' → Q (.int r, C')) : wpo (DR1 n E C) Q :=
  wdraw (n := n) (consE (var_at h1) (cons1 mC_at)) F W hn hn2 k
abbrev LOTX : ME := (mKeep (mCall M_law_lot (mCons (mVar 1) (mCons (mBin addD (mC (.int 3)) (DR1 5)) (mCons (mC (.int 7)) mNil)))))
abbrev BEGX : ME := (mKeep (mCall M_law_begin (mCons (mVar 1) (mCons (mC (.int 7)) mNil))))
theorem boxes_bnd {bx : List Box} {n : Nat} : (boxesD bx).bnd n = true := by
  refine bnds_iff.mpr fun d hd => ?_
  obtain ⟨b, _, rfl⟩ := List.mem_map.mp hd
  have h2 : bnds n (b.2.map D.int) = true := bnds_ints _ _
  show bnds n [mkD b.1, D.tup (b.2.map D.int)] = true
  simp [bnds, D.bnd, mkD_bnd, h2]
theorem lotx_ok {E : Ev} {C : Hm} (h1 : E[1]? = some (some (.cell 2))) (F : Fd C) (W : WH C) {Q : D × Hm → Prop} (k : ∀ bx C', Upd C C' → bx.length ≤ 7 → (∀ b ∈ bx, Bx b) → Q (boxesD bx, C')) : wpo (LOTX E C) Q := by
  refine wkeep F W (wCall (wCons (wVar h1 (wCons (wBin (wC (wDR1 h1 F W (by omega) (by omega) fun r C1 r0 r1 U => wpo_eq (x := (.int (3 + r), C1)) rfl (wCons (wC (wNil (wpo_mono (lot_ok U.fd U.wh (n := 3 + r) (by omega) (by omega)) ?_)))))))))))
  rintro _ ⟨ds, C2, rfl, hl, hd, f⟩
  obtain ⟨bx, rfl, hb, hx⟩ := lbs_boxes hd
  exact ⟨((Fr.refl F W).upd U).trans f, boxes_bnd, fun A UA => k bx A UA (by omega) hx⟩
theorem begx_ok {E : Ev} {C : Hm} (h1 : E[1]? = some (some (.cell 2))) (F : Fd C) (W : WH C) {Q : D × Hm → Prop} (k : ∀ ks C', Upd C C' → ks.Pairwise (· < ·) → intsIn 7 ks → Q (keysD ks, C')) : wpo (BEGX E C) Q := by
  refine wkeep F W (wCall (wCons (wVar h1 (wCons (wC (wNil (wpo_mono (law_begin_ok F W) ?_)))))))
  rintro ⟨d, C'⟩ ⟨is, rfl, f, up, hi⟩
  exact ⟨f, bnds_ints _ _, fun A UA => k is A UA up hi⟩
theorem wPar {i j : Nat} {ml : MA} {E : Ev} {C : Hm} {Q : Out → Prop} (h : wpo (ml E C) fun q => ∃ a b, q.1 = [a, b] ∧ Q (.nx ((E.set i (some a)).set j (some b)) q.2)) : wpo (mPar i j ml E C) Q := by
  obtain ⟨⟨ds, C'⟩, e, a, b, rfl, q⟩ := h
  refine ⟨_, ?_, q⟩
  unfold mPar
  rw [e]; rfl
abbrev MOREX : ME := (mCallB tupleD (mCons (mSrtSet (mBin addD (mVar 4) (mKeep (mCall M_law_grip (mCons (mVar 1) (mCons (mC (.int 7)) (mCons (mC (.int 2)) mNil))))))) mNil))
theorem morex_ok {E : Ev} {C : Hm} {ks : List Int} (h1 : E[1]? = some (some (.cell 2))) (h4 : E[4]? = some (some (keysD ks))) (F : Fd C) (W : WH C) (hk : intsIn 7 ks) (up : ks.Pairwise (· < ·)) {Q : D × Hm → Prop} (k : ∀ ms C', Fr C C' [] → ms.Pairwise (· < ·) → intsIn 7 ms → (∀ k ∈ ks, k ∈ ms) → Q (keysD ms, C')) : wpo (MOREX E C) Q := by
  have z := szL
  have kl := up_len up hk
  have key : wpo (mBin addD (mVar 4) (mKeep (mCall M_law_grip (mCons (mVar 1) (mCons (mC (.int 7)) (mCons (mC (.int 2)) mNil))))) E C) fun q => ∃ is, q.1 = .tup ((ks ++ is).map D.int) ∧ Upd C q.2 ∧ intsIn 7 is ∧ is.length ≤ 2 := by
    refine wBin (wVar h4 (wgripI (m := 7) (k := 2) (consE (var_at h1) (consE mC_at (cons1 mC_at))) F W (by omega) (by omega) fun is C' U hi hl => ?_))
    refine wpo_eq (x := (.tup ((ks ++ is).map D.int), C')) ?_ ⟨is, rfl, U, hi, hl⟩
    unfold keysD addD
    simp only
    rw [if_pos (by simp; omega), List.map_append]
  obtain ⟨⟨d, C1⟩, e, is, rfl, U, hi, hl⟩ := key
  refine wCallB (wCons (wpo_eq (srtSet_eq e (ns := ks ++ is) rfl (by simp; omega)) (wNil (wpo_eq tupC (k (srt (ks ++ is)) _ (((Fr.refl F W).upd U).app (bnds_ints _ _)) (srt_up _) (fun i hi' => ?_) fun j hj => srt_mem.mpr (List.mem_append_left _ hj))))))
  rcases List.mem_append.mp (srt_mem.mp hi') with h | h
  · exact hk i h
  · exact hi i h
abbrev LESSX : ME := (mCallB tupleD (mCons (mLc (mIAny (mVar 3)) (gN 7) (mTest (mBin dEq (DR1 2) (mC (.int 0)))) (mVar 7) [7]) mNil))
theorem lessx_ok {E : Ev} {C : Hm} {bx : List Box} (h1 : E[1]? = some (some (.cell 2))) (h3 : E[3]? = some (some (boxesD bx))) (hE : 7 < E.length) (F : Fd C) (W : WH C) (bl : bx.length ≤ 7) {Q : D × Hm → Prop} (k : ∀ ls C', Fr C C' [] → (∀ b ∈ ls, b ∈ bx) → ls.length ≤ 7 → Q (boxesD ls, C')) : wpo (LESSX E C) Q := by
  have z := szL
  refine wCallB (wCons ?_)
  unfold mLc mIAny
  rw [var_at h3]
  simp only [Option.bind_some, boxesD, iAnyD]
  have w1 : ∀ x : D, ((wipeE E [7]).set 7 (some x))[1]? = some (some (.cell 2)) := fun x => set_var (wipe1 h1 (by omega)) (by omega)
  have ll := lc_st (it := .seq (bx.map boxD)) (tg := gN 7) (tt := mTest (mBin dEq (DR1 2) (mC (.int 0)))) (elt := mVar 7) (E := wipeE E [7]) (bx.map boxD) (fun i acc C' => Fr C C' [] ∧ ∃ ls : List Box, acc = ls.map boxD ∧ (∀ b ∈ ls, b ∈ bx) ∧ ls.length ≤ i) (fun _ _ _ _ => rfl) (by rw [List.length_map]; omega) (by
    rintro i x acc C' hx ⟨f, ls, rfl, hls, hll⟩
    obtain ⟨b, hb, rfl⟩ := List.mem_map.mp (List.mem_of_getElem? hx)
    refine ⟨_, rfl, wTst (wBin (wDR1 (w1 _) f.fd f.wh (by omega) (by omega) fun r C2 _ _ U => wC (wpo_eq eq_int ⟨_, rfl, ?_⟩)))⟩
    have f2 := f.upd U
    cases q : (r == 0) with
    | true =>
      simp only [if_true]
      refine wpo_eq (set_get (by rw [wipe_len]; exact hE)) ⟨f2, ls ++ [b], by simp, fun c hc => ?_, by simp; omega⟩
      rcases List.mem_append.mp hc with hc | hc
      · exact hls c hc
      · rw [List.mem_singleton.mp hc]; exact hb
    | false =>
      simp only [Bool.false_eq_true, if_false]
      exact ⟨f2, ls, rfl, hls, by omega⟩) (bx.map boxD).length 0 [] C (by omega) (by simp) ⟨Fr.refl F W, [], rfl, fun _ h => (by cases h), by simp⟩
  refine wpo_bind.mpr (wpo_mono ll ?_)
  rintro ⟨acc, C'⟩ ⟨f, ls, e, hls, hll⟩
  simp only at e f
  subst e
  refine wpo_some.mpr (wNil (wpo_eq tupC (k ls _ (f.app (boxes_bnd (bx := ls) (n := C'.length + 1))) hls (by rw [List.length_map] at hll; omega))))
theorem bx_sm {ks : List Int} {bx : List Box} (up : ks.Pairwise (· < ·)) (hk : intsIn 7 ks) (hb : ∀ b ∈ bx, Bx b) (bl : bx.length ≤ 7) : Sm ks bx :=
  ⟨up.imp fun h => by omega, fun k h => (hk k h).1, fun b h => (hb b h).okg, fun b h => (hb b h).ne, fun b h => by have := (hb b h).l3; omega, by have := up_len up hk; omega, by omega⟩
theorem k_right {C : Hm} (W : WH C) {ks ms : List Int} {bx ls : List Box} (r : Rt ks ms bx ls) {ml : MA} {E : Ev} (he : ml E C = some ([keysD ks, keysD ms, boxesD bx, boxesD ls], C)) : mKeep (mCall M_law_right ml) E C = some (.bl true, C) := by
  obtain ⟨C', e, P⟩ := law_right_ok W r
  exact kcallD W he e P rfl
structure LW (E : Ev) : Prop where
  len : E.length = 9
  h1 : E[1]? = some (some (.cell 2))
theorem LW.set {E : Ev} {i : Nat} {x : D} (h : LW E) (hi : 2 ≤ i) : LW (E.set i (some x)) := ⟨by rw [List.length_set]; exact h.len, set_var h.h1 (by omega)⟩
theorem LW.at {E : Ev} {i : Nat} {x : D} (h : LW E) (hi : i < 9) : (E.set i (some x))[i]? = some (some x) := List.getElem?_set_self (by rw [h.len]; exact hi)
abbrev ROUND : MS := (mSeq (mPar 3 4 (mCons LOTX (mCons BEGX mNil)))
    (mSeq (mAsg MOREX (gN 5))
    (mSeq (mAsg LESSX (gN 6))
    (mSeq (mAsg (mCallB reprD (mCons (mTup (mCons (mVar 4) (mCons (mVar 3) mNil))) mNil)) (gN 8))
    (mIfS (tOrM (tNotM (mTru (mKeep (mCall M_law_right (mCons (mVar 4) (mCons (mVar 5) (mCons (mVar 3) (mCons (mVar 6) mNil)))))))) (tOrM (tNotM (mTru (mKeep (mCall M_law_right (mCons (mVar 5) (mCons (mVar 5) (mCons (mVar 3) (mCons (mVar 6) mNil)))))))) (mTest (mBin dNe (mCallB reprD (mCons (mTup (mCons (mVar 4) (mCons (mVar 3) mNil))) mNil)) (mVar 8))))) (mRet (mC (.bl false))) mNext)))))
theorem repr_m {E : Ev} {C : Hm} {ks : List Int} {bx : List Box} (h3 : E[3]? = some (some (boxesD bx))) (h4 : E[4]? = some (some (keysD ks))) (hk : intsIn 7 ks) (kl : ks.length ≤ 100) (hb : ∀ b ∈ bx, Bx b) (bl : bx.length ≤ 50) : mCallB reprD (mCons (mTup (mCons (mVar 4) (mCons (mVar 3) mNil))) mNil) E C = some (.str (PyData.shown (.tuple [.tuple (ks.map .int), .tuple (bx.map pyB)])), C) := by
  rw [callB_eq (cons1 (tupE (consE (var_at h4) (cons1 (var_at h3))) sz2))]
  exact repr_pair hk kl hb bl
theorem round_ok {E : Ev} {C : Hm} (L : LW E) (F : Fd C) (W : WH C) {Q : Out → Prop} (k : ∀ E' C', LW E' → Fd C' → WH C' → Q (.nx E' C')) : wpo (ROUND E C) Q := by
  refine wSeq (wPar (wCons (lotx_ok L.h1 F W fun bx C1 U1 bl hb => wCons (begx_ok L.h1 U1.fd U1.wh fun ks C2 U2 up hk => wNil ⟨_, _, rfl, ?_⟩))))
  have kl := up_len up hk
  have L1 := (L.set (i := 3) (x := boxesD bx) (by omega)).set (i := 4) (x := keysD ks) (by omega)
  have a3 : ((E.set 3 (some (boxesD bx))).set 4 (some (keysD ks)))[3]? = some (some (boxesD bx)) := set_var (L.at (by omega)) (by omega)
  have a4 : ((E.set 3 (some (boxesD bx))).set 4 (some (keysD ks)))[4]? = some (some (keysD ks)) := (L.set (i := 3) (by omega)).at (by omega)
  generalize (E.set 3 (some (boxesD bx))).set 4 (some (keysD ks)) = E1 at *
  show wpo (mSeq _ _ E1 C2) Q
  refine wSeq (wAsg (morex_ok L1.h1 a4 U2.fd U2.wh hk up fun ms C3 f3 upm hm sub => ?_))
  have ml := up_len upm hm
  have L2 := L1.set (i := 5) (x := keysD ms) (by omega)
  have b3 := set_var (i := 5) (x := keysD ms) a3 (by omega)
  have b4 := set_var (i := 5) (x := keysD ms) a4 (by omega)
  have b5 := L1.at (i := 5) (x := keysD ms) (by omega)
  generalize E1.set 5 (some (keysD ms)) = E2 at *
  show wpo (mSeq _ _ E2 C3) Q
  refine wSeq (wAsg (lessx_ok L2.h1 b3 (by rw [L2.len]; omega) f3.fd f3.wh bl fun ls C4 f4 hls hll => ?_))
  have L3 := L2.set (i := 6) (x := boxesD ls) (by omega)
  have c3 := set_var (i := 6) (x := boxesD ls) b3 (by omega)
  have c4 := set_var (i := 6) (x := boxesD ls) b4 (by omega)
  have c5 := set_var (i := 6) (x := boxesD ls) b5 (by omega)
  have c6 := L2.at (i := 6) (x := boxesD ls) (by omega)
  generalize E2.set 6 (some (boxesD ls)) = E3 at *
  show wpo (mSeq _ _ E3 C4) Q
  refine wSeq (wAsg (wpo_eq (repr_m c3 c4 hk (by omega) hb (by omega)) ?_))
  generalize hS : PyData.shown (.tuple [.tuple (ks.map PyData.int), .tuple (bx.map pyB)]) = S
  have L4 := L3.set (i := 8) (x := .str S) (by omega)
  have d3 := set_var (i := 8) (x := .str S) c3 (by omega)
  have d4 := set_var (i := 8) (x := .str S) c4 (by omega)
  have d5 := set_var (i := 8) (x := .str S) c5 (by omega)
  have d6 := set_var (i := 8) (x := .str S) c6 (by omega)
  have d8 := L3.at (i := 8) (x := .str S) (by omega)
  generalize E3.set 8 (some (D.str S)) = E4 at *
  show wpo (mIfS _ _ _ E4 C4) Q
  have W4 := f4.wh
  have r1 : Rt ks ms bx ls := ⟨bx_sm up hk hb bl, up, bx_sm upm hm hb bl, sub, hls, bl, hll, by omega⟩
  have r2 : Rt ms ms bx ls := ⟨bx_sm upm hm hb bl, upm, bx_sm upm hm hb bl, fun _ h => h, hls, bl, hll, by omega⟩
  have t1 := k_right W4 r1 (ml := mCons (mVar 4) (mCons (mVar 5) (mCons (mVar 3) (mCons (mVar 6) mNil)))) (E := E4) (cons_eq (var_at d4) (cons_eq (var_at d5) (cons_eq (var_at d3) (cons_eq (var_at d6) rfl))))
  have t2 := k_right W4 r2 (ml := mCons (mVar 5) (mCons (mVar 5) (mCons (mVar 3) (mCons (mVar 6) mNil)))) (E := E4) (cons_eq (var_at d5) (cons_eq (var_at d5) (cons_eq (var_at d3) (cons_eq (var_at d6) rfl))))
  have t3 : mBin dNe (mCallB reprD (mCons (mTup (mCons (mVar 4) (mCons (mVar 3) mNil))) mNil)) (mVar 8) E4 C4 = some (.bl false, C4) := by
    have e := repr_m (C := C4) d3 d4 hk (by omega) hb (by omega)
    rw [hS] at e
    rw [binE e (var_at d8), ne_str, beq_self_eq_true]; rfl
  exact wpo_eq (ifs_f (or_ff (not_t t1) (or_ff (not_t t2) (tst_bl t3)))) (k E4 C4 L4 f4.fd f4.wh)
abbrev ENDX : ME := (mAnd (mBin dEq (mKeep (mCall M_opened (mCons (mTup mNil) (mCons (mTup mNil) mNil)))) (mTup (mCons (mTup mNil) (mCons (mTup mNil) mNil)))) (mBin dEq (mKeep (mCall M_openable (mCons (mTup (mCons (mC (.int 3)) mNil)) (mCons (mTup mNil) mNil)))) (mTup mNil)))
theorem end_ok {E : Ev} {C : Hm} (W : WH C) : ENDX E C = some (.bl true, C) := by
  have nil : ∀ {C : Hm}, mTup mNil E C = some (.tup [], C) := fun {C} => tup_eq rfl (Nat.zero_le _)
  have s0 : Sm [] [] := ⟨.nil, fun _ h => (by cases h), fun _ h => (by cases h), fun _ h => (by cases h), fun _ h => (by cases h), by simp, by simp⟩
  have e1 := k_opened W s0.gb (opn_none .nil) (E := E) (ml := mCons (mTup mNil) (mCons (mTup mNil) mNil)) (cons_eq nil (cons_eq nil rfl))
  have e2 : mTup (mCons (mTup mNil) (mCons (mTup mNil) mNil)) E C = some (opnD [] [], C) := tup_eq (cons_eq nil (cons_eq nil rfl)) sz2
  have e3 := k_openable W (ks := [3]) (bx := []) (by simp) (by simp) (by simp) (fun _ h => (by cases h)) (E := E) (ml := mCons (mTup (mCons (mC (.int 3)) mNil)) (mCons (mTup mNil) mNil)) (cons_eq (tup_eq (ds := [.int 3]) rfl (by have := szL; simp; omega)) (cons_eq nil rfl))
  refine mAnd_tf (bin_eq e1 e2 (eq_opn ⟨fun _ h => (by cases h), fun _ h => (by cases h), fun _ h => (by cases h)⟩)) (fun _ => ?_) fun q => by cases q
  refine bin_eq e3 nil ?_
  rfl
theorem law_true : ∀ ns : List Int, ns.length ≤ 63 → ∃ C', M_law [.rol ns] [] = some (.bl true, C') := by
  intro ns hl
  suffices h : wpo (B_law [some (.rol ns), none, none, none, none, none, none, none, none] []) fun o => ∃ C', o = .rt (.bl true) C' by
    obtain ⟨_, e, C', rfl⟩ := h
    exact ⟨C', fn_ret rfl e⟩
  have ef : mCall M_law_feed (mCons (mVar 0) mNil) [some (.rol ns), none, none, none, none, none, none, none, none] [] = some (.cell 2, feedH (.lst (ns.map D.int)) ns 0 0 0 []) := by
    unfold mCall
    rw [v0]
    exact feed_ok hl
  have F0 : Fd (feedH (.lst (ns.map D.int)) ns 0 0 0 []) := ⟨_, _, _, _, _, _, rfl⟩
  have W0 : WH (feedH (.lst (ns.map D.int)) ns 0 0 0 []) := by
    intro c hc
    simp only [feedH, List.mem_cons, List.not_mem_nil, or_false] at hc
    rcases hc with rfl | rfl | rfl
    · exact bnds_ints _ _
    · exact bnds_ints _ _
    · simp [Cell.bnd, D.bnd, feedH]
  have p62 : (2 : Int) ^ 62 = 4611686018427387904 := by decide +kernel
  refine wSeq (wAsg (wpo_eq ef ?_))
  refine wSeq (wForR (wCons (wC (wNil ⟨3, rfl, by rw [p62]; omega, by rw [p62]; omega, ?_⟩))))
  refine for_at (rngD 0 (3 : Int).toNat) (fun i E C => LW E ∧ Fd C ∧ WH C) (fun _ _ _ _ => rfl) ?_ ?_ _ 0 _ _ (by simp) ⟨⟨rfl, rfl⟩, F0, W0⟩
  · rintro i x E C hx ⟨L, F, W⟩
    exact wpo_eq rfl (round_ok (L.set (by decide)) F W fun E' C' L' F' W' => ⟨L', F', W'⟩)
  · rintro E C ⟨L, F, W⟩
    exact wpo_eq (ret_eq (end_ok W)) ⟨_, rfl⟩
end G
set_option Elab.async false
set_option linter.all false
set_option maxRecDepth 100000
set_option maxHeartbeats 4000000
namespace G
open PySem PySem.Spec PyProof.Rows L2 Mi
theorem all_mk {l : PySem.W.OpenLaw} {w : World} {K : PySem.W.Frag} {h : Heap} {mg : Str → Option Value} {fa : Addr} (X : K.In h) (G : h.Ns mainGlobals mg) (hfa : mg "law" = some (.ref fa))
    {od_is_number an_is_number : Option Addr} {sl_is_number : Array (Option Value)} {oc_is_number kV_is_number dc_is_number pm_is_number cd_is_number ct_is_number : Value} {a_is_number : Addr}
    (n_is_number : PySem.W.nsIn K mainGlobals "is_number" = some (some (.ref a_is_number))) (l_is_number : K.lookup a_is_number = some ⟨oc_is_number, od_is_number, .func (PySem.W.fnOf "is_number" "is_number" (defArgs S_is_number) (defBody S_is_number) (defScope S_is_number) .none kV_is_number dc_is_number pm_is_number an_is_number cd_is_number ct_is_number), sl_is_number⟩) (c_is_number : PySem.W.codeIn K cd_is_number "is_number" = true) (p_is_number : PySem.W.keepIn K (.ref a_is_number) = true)
    {od_is_key an_is_key : Option Addr} {sl_is_key : Array (Option Value)} {oc_is_key kV_is_key dc_is_key pm_is_key cd_is_key ct_is_key : Value} {a_is_key : Addr}
    (n_is_key : PySem.W.nsIn K mainGlobals "is_key" = some (some (.ref a_is_key))) (l_is_key : K.lookup a_is_key = some ⟨oc_is_key, od_is_key, .func (PySem.W.fnOf "is_key" "is_key" (defArgs S_is_key) (defBody S_is_key) (defScope S_is_key) .none kV_is_key dc_is_key pm_is_key an_is_key cd_is_key ct_is_key), sl_is_key⟩) (c_is_key : PySem.W.codeIn K cd_is_key "is_key" = true) (p_is_key : PySem.W.keepIn K (.ref a_is_key) = true)
    {od_pair_of an_pair_of : Option Addr} {sl_pair_of : Array (Option Value)} {oc_pair_of kV_pair_of dc_pair_of pm_pair_of cd_pair_of ct_pair_of : Value} {a_pair_of : Addr}
    (n_pair_of : PySem.W.nsIn K mainGlobals "pair_of" = some (some (.ref a_pair_of))) (l_pair_of : K.lookup a_pair_of = some ⟨oc_pair_of, od_pair_of, .func (PySem.W.fnOf "pair_of" "pair_of" (defArgs S_pair_of) (defBody S_pair_of) (defScope S_pair_of) .none kV_pair_of dc_pair_of pm_pair_of an_pair_of cd_pair_of ct_pair_of), sl_pair_of⟩) (c_pair_of : PySem.W.codeIn K cd_pair_of "pair_of" = true) (p_pair_of : PySem.W.keepIn K (.ref a_pair_of) = true)
    {od_boxes_by_key an_boxes_by_key : Option Addr} {sl_boxes_by_key : Array (Option Value)} {oc_boxes_by_key kV_boxes_by_key dc_boxes_by_key pm_boxes_by_key cd_boxes_by_key ct_boxes_by_key : Value} {a_boxes_by_key : Addr}
    (n_boxes_by_key : PySem.W.nsIn K mainGlobals "boxes_by_key" = some (some (.ref a_boxes_by_key))) (l_boxes_by_key : K.lookup a_boxes_by_key = some ⟨oc_boxes_by_key, od_boxes_by_key, .func (PySem.W.fnOf "boxes_by_key" "boxes_by_key" (defArgs S_boxes_by_key) (defBody S_boxes_by_key) (defScope S_boxes_by_key) .none kV_boxes_by_key dc_boxes_by_key pm_boxes_by_key an_boxes_by_key cd_boxes_by_key ct_boxes_by_key), sl_boxes_by_key⟩) (c_boxes_by_key : PySem.W.codeIn K cd_boxes_by_key "boxes_by_key" = true) (p_boxes_by_key : PySem.W.keepIn K (.ref a_boxes_by_key) = true)
    {od_opening_order an_opening_order : Option Addr} {sl_opening_order : Array (Option Value)} {oc_opening_order kV_opening_order dc_opening_order pm_opening_order cd_opening_order ct_opening_order : Value} {a_opening_order : Addr}
    (n_opening_order : PySem.W.nsIn K mainGlobals "opening_order" = some (some (.ref a_opening_order))) (l_opening_order : K.lookup a_opening_order = some ⟨oc_opening_order, od_opening_order, .func (PySem.W.fnOf "opening_order" "opening_order" (defArgs S_opening_order) (defBody S_opening_order) (defScope S_opening_order) .none kV_opening_order dc_opening_order pm_opening_order an_opening_order cd_opening_order ct_opening_order), sl_opening_order⟩) (c_opening_order : PySem.W.codeIn K cd_opening_order "opening_order" = true) (p_opening_order : PySem.W.keepIn K (.ref a_opening_order) = true)
    {od_things_opened an_things_opened : Option Addr} {sl_things_opened : Array (Option Value)} {oc_things_opened kV_things_opened dc_things_opened pm_things_opened cd_things_opened ct_things_opened : Value} {a_things_opened : Addr}
    (n_things_opened : PySem.W.nsIn K mainGlobals "things_opened" = some (some (.ref a_things_opened))) (l_things_opened : K.lookup a_things_opened = some ⟨oc_things_opened, od_things_opened, .func (PySem.W.fnOf "things_opened" "things_opened" (defArgs S_things_opened) (defBody S_things_opened) (defScope S_things_opened) .none kV_things_opened dc_things_opened pm_things_opened an_things_opened cd_things_opened ct_things_opened), sl_things_opened⟩) (c_things_opened : PySem.W.codeIn K cd_things_opened "things_opened" = true) (p_things_opened : PySem.W.keepIn K (.ref a_things_opened) = true)
    {od_opened an_opened : Option Addr} {sl_opened : Array (Option Value)} {oc_opened kV_opened dc_opened pm_opened cd_opened ct_opened : Value} {a_opened : Addr}
    (n_opened : PySem.W.nsIn K mainGlobals "opened" = some (some (.ref a_opened))) (l_opened : K.lookup a_opened = some ⟨oc_opened, od_opened, .func (PySem.W.fnOf "opened" "opened" (defArgs S_opened) (defBody S_opened) (defScope S_opened) .none kV_opened dc_opened pm_opened an_opened cd_opened ct_opened), sl_opened⟩) (c_opened : PySem.W.codeIn K cd_opened "opened" = true) (p_opened : PySem.W.keepIn K (.ref a_opened) = true)
    {od_opens an_opens : Option Addr} {sl_opens : Array (Option Value)} {oc_opens kV_opens dc_opens pm_opens cd_opens ct_opens : Value} {a_opens : Addr}
    (n_opens : PySem.W.nsIn K mainGlobals "opens" = some (some (.ref a_opens))) (l_opens : K.lookup a_opens = some ⟨oc_opens, od_opens, .func (PySem.W.fnOf "opens" "opens" (defArgs S_opens) (defBody S_opens) (defScope S_opens) .none kV_opens dc_opens pm_opens an_opens cd_opens ct_opens), sl_opens⟩) (c_opens : PySem.W.codeIn K cd_opens "opens" = true) (p_opens : PySem.W.keepIn K (.ref a_opens) = true)
    {od_openable an_openable : Option Addr} {sl_openable : Array (Option Value)} {oc_openable kV_openable dc_openable pm_openable cd_openable ct_openable : Value} {a_openable : Addr}
    (n_openable : PySem.W.nsIn K mainGlobals "openable" = some (some (.ref a_openable))) (l_openable : K.lookup a_openable = some ⟨oc_openable, od_openable, .func (PySem.W.fnOf "openable" "openable" (defArgs S_openable) (defBody S_openable) (defScope S_openable) .none kV_openable dc_openable pm_openable an_openable cd_openable ct_openable), sl_openable⟩) (c_openable : PySem.W.codeIn K cd_openable "openable" = true) (p_openable : PySem.W.keepIn K (.ref a_openable) = true)
    {od_law_feed an_law_feed : Option Addr} {sl_law_feed : Array (Option Value)} {oc_law_feed kV_law_feed dc_law_feed pm_law_feed cd_law_feed ct_law_feed : Value} {a_law_feed : Addr}
    (n_law_feed : PySem.W.nsIn K mainGlobals "_law_feed" = some (some (.ref a_law_feed))) (l_law_feed : K.lookup a_law_feed = some ⟨oc_law_feed, od_law_feed, .func (PySem.W.fnOf "_law_feed" "_law_feed" (defArgs S_law_feed) (defBody S_law_feed) (defScope S_law_feed) .none kV_law_feed dc_law_feed pm_law_feed an_law_feed cd_law_feed ct_law_feed), sl_law_feed⟩) (c_law_feed : PySem.W.codeIn K cd_law_feed "_law_feed" = true) (p_law_feed : PySem.W.keepIn K (.ref a_law_feed) = true)
    {od_law_draw an_law_draw : Option Addr} {sl_law_draw : Array (Option Value)} {oc_law_draw kV_law_draw dc_law_draw pm_law_draw cd_law_draw ct_law_draw : Value} {a_law_draw : Addr}
    (n_law_draw : PySem.W.nsIn K mainGlobals "_law_draw" = some (some (.ref a_law_draw))) (l_law_draw : K.lookup a_law_draw = some ⟨oc_law_draw, od_law_draw, .func (PySem.W.fnOf "_law_draw" "_law_draw" (defArgs S_law_draw) (defBody S_law_draw) (defScope S_law_draw) .none kV_law_draw dc_law_draw pm_law_draw an_law_draw cd_law_draw ct_law_draw), sl_law_draw⟩) (c_law_draw : PySem.W.codeIn K cd_law_draw "_law_draw" = true) (p_law_draw : PySem.W.keepIn K (.ref a_law_draw) = true)
    {od_law_key an_law_key : Option Addr} {sl_law_key : Array (Option Value)} {oc_law_key kV_law_key dc_law_key pm_law_key cd_law_key ct_law_key : Value} {a_law_key : Addr}
    (n_law_key : PySem.W.nsIn K mainGlobals "_law_key" = some (some (.ref a_law_key))) (l_law_key : K.lookup a_law_key = some ⟨oc_law_key, od_law_key, .func (PySem.W.fnOf "_law_key" "_law_key" (defArgs S_law_key) (defBody S_law_key) (defScope S_law_key) .none kV_law_key dc_law_key pm_law_key an_law_key cd_law_key ct_law_key), sl_law_key⟩) (c_law_key : PySem.W.codeIn K cd_law_key "_law_key" = true) (p_law_key : PySem.W.keepIn K (.ref a_law_key) = true)
    {od_law_named an_law_named : Option Addr} {sl_law_named : Array (Option Value)} {oc_law_named kV_law_named dc_law_named pm_law_named cd_law_named ct_law_named : Value} {a_law_named : Addr}
    (n_law_named : PySem.W.nsIn K mainGlobals "_law_named" = some (some (.ref a_law_named))) (l_law_named : K.lookup a_law_named = some ⟨oc_law_named, od_law_named, .func (PySem.W.fnOf "_law_named" "_law_named" (defArgs S_law_named) (defBody S_law_named) (defScope S_law_named) .none kV_law_named dc_law_named pm_law_named an_law_named cd_law_named ct_law_named), sl_law_named⟩) (c_law_named : PySem.W.codeIn K cd_law_named "_law_named" = true) (p_law_named : PySem.W.keepIn K (.ref a_law_named) = true)
    {od_law_page an_law_page : Option Addr} {sl_law_page : Array (Option Value)} {oc_law_page kV_law_page dc_law_page pm_law_page cd_law_page ct_law_page : Value} {a_law_page : Addr}
    (n_law_page : PySem.W.nsIn K mainGlobals "_law_page" = some (some (.ref a_law_page))) (l_law_page : K.lookup a_law_page = some ⟨oc_law_page, od_law_page, .func (PySem.W.fnOf "_law_page" "_law_page" (defArgs S_law_page) (defBody S_law_page) (defScope S_law_page) .none kV_law_page dc_law_page pm_law_page an_law_page cd_law_page ct_law_page), sl_law_page⟩) (c_law_page : PySem.W.codeIn K cd_law_page "_law_page" = true) (p_law_page : PySem.W.keepIn K (.ref a_law_page) = true)
    {od_law_rises an_law_rises : Option Addr} {sl_law_rises : Array (Option Value)} {oc_law_rises kV_law_rises dc_law_rises pm_law_rises cd_law_rises ct_law_rises : Value} {a_law_rises : Addr}
    (n_law_rises : PySem.W.nsIn K mainGlobals "_law_rises" = some (some (.ref a_law_rises))) (l_law_rises : K.lookup a_law_rises = some ⟨oc_law_rises, od_law_rises, .func (PySem.W.fnOf "_law_rises" "_law_rises" (defArgs S_law_rises) (defBody S_law_rises) (defScope S_law_rises) .none kV_law_rises dc_law_rises pm_law_rises an_law_rises cd_law_rises ct_law_rises), sl_law_rises⟩) (c_law_rises : PySem.W.codeIn K cd_law_rises "_law_rises" = true) (p_law_rises : PySem.W.keepIn K (.ref a_law_rises) = true)
    {od_law_keyed an_law_keyed : Option Addr} {sl_law_keyed : Array (Option Value)} {oc_law_keyed kV_law_keyed dc_law_keyed pm_law_keyed cd_law_keyed ct_law_keyed : Value} {a_law_keyed : Addr}
    (n_law_keyed : PySem.W.nsIn K mainGlobals "_law_keyed" = some (some (.ref a_law_keyed))) (l_law_keyed : K.lookup a_law_keyed = some ⟨oc_law_keyed, od_law_keyed, .func (PySem.W.fnOf "_law_keyed" "_law_keyed" (defArgs S_law_keyed) (defBody S_law_keyed) (defScope S_law_keyed) .none kV_law_keyed dc_law_keyed pm_law_keyed an_law_keyed cd_law_keyed ct_law_keyed), sl_law_keyed⟩) (c_law_keyed : PySem.W.codeIn K cd_law_keyed "_law_keyed" = true) (p_law_keyed : PySem.W.keepIn K (.ref a_law_keyed) = true)
    {od_law_paged an_law_paged : Option Addr} {sl_law_paged : Array (Option Value)} {oc_law_paged kV_law_paged dc_law_paged pm_law_paged cd_law_paged ct_law_paged : Value} {a_law_paged : Addr}
    (n_law_paged : PySem.W.nsIn K mainGlobals "_law_paged" = some (some (.ref a_law_paged))) (l_law_paged : K.lookup a_law_paged = some ⟨oc_law_paged, od_law_paged, .func (PySem.W.fnOf "_law_paged" "_law_paged" (defArgs S_law_paged) (defBody S_law_paged) (defScope S_law_paged) .none kV_law_paged dc_law_paged pm_law_paged an_law_paged cd_law_paged ct_law_paged), sl_law_paged⟩) (c_law_paged : PySem.W.codeIn K cd_law_paged "_law_paged" = true) (p_law_paged : PySem.W.keepIn K (.ref a_law_paged) = true)
    {od_law_grip an_law_grip : Option Addr} {sl_law_grip : Array (Option Value)} {oc_law_grip kV_law_grip dc_law_grip pm_law_grip cd_law_grip ct_law_grip : Value} {a_law_grip : Addr}
    (n_law_grip : PySem.W.nsIn K mainGlobals "_law_grip" = some (some (.ref a_law_grip))) (l_law_grip : K.lookup a_law_grip = some ⟨oc_law_grip, od_law_grip, .func (PySem.W.fnOf "_law_grip" "_law_grip" (defArgs S_law_grip) (defBody S_law_grip) (defScope S_law_grip) .none kV_law_grip dc_law_grip pm_law_grip an_law_grip cd_law_grip ct_law_grip), sl_law_grip⟩) (c_law_grip : PySem.W.codeIn K cd_law_grip "_law_grip" = true) (p_law_grip : PySem.W.keepIn K (.ref a_law_grip) = true)
    {od_law_begin an_law_begin : Option Addr} {sl_law_begin : Array (Option Value)} {oc_law_begin kV_law_begin dc_law_begin pm_law_begin cd_law_begin ct_law_begin : Value} {a_law_begin : Addr}
    (n_law_begin : PySem.W.nsIn K mainGlobals "_law_begin" = some (some (.ref a_law_begin))) (l_law_begin : K.lookup a_law_begin = some ⟨oc_law_begin, od_law_begin, .func (PySem.W.fnOf "_law_begin" "_law_begin" (defArgs S_law_begin) (defBody S_law_begin) (defScope S_law_begin) .none kV_law_begin dc_law_begin pm_law_begin an_law_begin cd_law_begin ct_law_begin), sl_law_begin⟩) (c_law_begin : PySem.W.codeIn K cd_law_begin "_law_begin" = true) (p_law_begin : PySem.W.keepIn K (.ref a_law_begin) = true)
    {od_law_lot an_law_lot : Option Addr} {sl_law_lot : Array (Option Value)} {oc_law_lot kV_law_lot dc_law_lot pm_law_lot cd_law_lot ct_law_lot : Value} {a_law_lot : Addr}
    (n_law_lot : PySem.W.nsIn K mainGlobals "_law_lot" = some (some (.ref a_law_lot))) (l_law_lot : K.lookup a_law_lot = some ⟨oc_law_lot, od_law_lot, .func (PySem.W.fnOf "_law_lot" "_law_lot" (defArgs S_law_lot) (defBody S_law_lot) (defScope S_law_lot) .none kV_law_lot dc_law_lot pm_law_lot an_law_lot cd_law_lot ct_law_lot), sl_law_lot⟩) (c_law_lot : PySem.W.codeIn K cd_law_lot "_law_lot" = true) (p_law_lot : PySem.W.keepIn K (.ref a_law_lot) = true)
    {od_law_within an_law_within : Option Addr} {sl_law_within : Array (Option Value)} {oc_law_within kV_law_within dc_law_within pm_law_within cd_law_within ct_law_within : Value} {a_law_within : Addr}
    (n_law_within : PySem.W.nsIn K mainGlobals "_law_within" = some (some (.ref a_law_within))) (l_law_within : K.lookup a_law_within = some ⟨oc_law_within, od_law_within, .func (PySem.W.fnOf "_law_within" "_law_within" (defArgs S_law_within) (defBody S_law_within) (defScope S_law_within) .none kV_law_within dc_law_within pm_law_within an_law_within cd_law_within ct_law_within), sl_law_within⟩) (c_law_within : PySem.W.codeIn K cd_law_within "_law_within" = true) (p_law_within : PySem.W.keepIn K (.ref a_law_within) = true)
    {od_law_right an_law_right : Option Addr} {sl_law_right : Array (Option Value)} {oc_law_right kV_law_right dc_law_right pm_law_right cd_law_right ct_law_right : Value} {a_law_right : Addr}
    (n_law_right : PySem.W.nsIn K mainGlobals "_law_right" = some (some (.ref a_law_right))) (l_law_right : K.lookup a_law_right = some ⟨oc_law_right, od_law_right, .func (PySem.W.fnOf "_law_right" "_law_right" (defArgs S_law_right) (defBody S_law_right) (defScope S_law_right) .none kV_law_right dc_law_right pm_law_right an_law_right cd_law_right ct_law_right), sl_law_right⟩) (c_law_right : PySem.W.codeIn K cd_law_right "_law_right" = true) (p_law_right : PySem.W.keepIn K (.ref a_law_right) = true)
    {od_law an_law : Option Addr} {sl_law : Array (Option Value)} {oc_law kV_law dc_law pm_law cd_law ct_law : Value} {a_law : Addr}
    (n_law : PySem.W.nsIn K mainGlobals "law" = some (some (.ref a_law))) (l_law : K.lookup a_law = some ⟨oc_law, od_law, .func (PySem.W.fnOf "law" "law" (defArgs S_law) (defBody S_law) (defScope S_law) .none kV_law dc_law pm_law an_law cd_law ct_law), sl_law⟩) (c_law : PySem.W.codeIn K cd_law "law" = true) (p_law : PySem.W.keepIn K (.ref a_law) = true)
    (z_all : PySem.W.nsIn K mainGlobals "all" = some none)
    (z_bool : PySem.W.nsIn K mainGlobals "bool" = some none)
    (z_enumerate : PySem.W.nsIn K mainGlobals "enumerate" = some none)
    (z_int : PySem.W.nsIn K mainGlobals "int" = some none)
    (z_isinstance : PySem.W.nsIn K mainGlobals "isinstance" = some none)
    (z_len : PySem.W.nsIn K mainGlobals "len" = some none)
    (z_list : PySem.W.nsIn K mainGlobals "list" = some none)
    (z_ord : PySem.W.nsIn K mainGlobals "ord" = some none)
    (z_range : PySem.W.nsIn K mainGlobals "range" = some none)
    (z_repr : PySem.W.nsIn K mainGlobals "repr" = some none)
    (z_set : PySem.W.nsIn K mainGlobals "set" = some none)
    (z_sorted : PySem.W.nsIn K mainGlobals "sorted" = some none)
    (z_str : PySem.W.nsIn K mainGlobals "str" = some none)
    (z_tuple : PySem.W.nsIn K mainGlobals "tuple" = some none)
    : ∃ fd : FuncData, (∀ (s : Shared) (v : Value), BindsTo s fd ⟨[v], []⟩ [("_law_script", v)]) ∧ ∀ base : Heap, K.In base → base.Ns mainGlobals mg → FnG l.prog w K mg base 6 fa fd ["_law_script"] (fun vs H Q => ∀ ft : Cfg, spM K ft 1 M_law vs H Q) := by
  have e := hfa.symm.trans (PySem.W.mg_of X G n_law)
  cases e
  let ft : Cfg := ⟨fun _ => 0, MD.MK.hash l.prog w⟩
  have T : Txt l.prog w mg ft := ⟨rfl, PySem.W.mg_none_of X G z_all, PySem.W.mg_none_of X G z_bool, PySem.W.mg_none_of X G z_enumerate, PySem.W.mg_none_of X G z_int, PySem.W.mg_none_of X G z_isinstance, PySem.W.mg_none_of X G z_len, PySem.W.mg_none_of X G z_list, PySem.W.mg_none_of X G z_ord, PySem.W.mg_none_of X G z_range, PySem.W.mg_none_of X G z_repr, PySem.W.mg_none_of X G z_set, PySem.W.mg_none_of X G z_sorted, PySem.W.mg_none_of X G z_str, PySem.W.mg_none_of X G z_tuple⟩
  have F_is_number := fun_mk (st := S_is_number) l_is_number c_is_number p_is_number
  have b_is_number := F_is_number.binds (ps := ["thing"]) fun _ _ _ _ _ _ us hl => match us, hl with | [_], _ => rfl
  have F_is_key := fun_mk (st := S_is_key) l_is_key c_is_key p_is_key
  have b_is_key := F_is_key.binds (ps := ["thing"]) fun _ _ _ _ _ _ us hl => match us, hl with | [_], _ => rfl
  have F_pair_of := fun_mk (st := S_pair_of) l_pair_of c_pair_of p_pair_of
  have b_pair_of := F_pair_of.binds (ps := ["things"]) fun _ _ _ _ _ _ us hl => match us, hl with | [_], _ => rfl
  have F_boxes_by_key := fun_mk (st := S_boxes_by_key) l_boxes_by_key c_boxes_by_key p_boxes_by_key
  have b_boxes_by_key := F_boxes_by_key.binds (ps := ["boxes"]) fun _ _ _ _ _ _ us hl => match us, hl with | [_], _ => rfl
  have F_opening_order := fun_mk (st := S_opening_order) l_opening_order c_opening_order p_opening_order
  have b_opening_order := F_opening_order.binds (ps := ["keys", "boxes"]) fun _ _ _ _ _ _ us hl => match us, hl with | [_, _], _ => rfl
  have F_things_opened := fun_mk (st := S_things_opened) l_things_opened c_things_opened p_things_opened
  have b_things_opened := F_things_opened.binds (ps := ["keys", "boxes"]) fun _ _ _ _ _ _ us hl => match us, hl with | [_, _], _ => rfl
  have F_opened := fun_mk (st := S_opened) l_opened c_opened p_opened
  have b_opened := F_opened.binds (ps := ["keys", "boxes"]) fun _ _ _ _ _ _ us hl => match us, hl with | [_, _], _ => rfl
  have F_opens := fun_mk (st := S_opens) l_opens c_opens p_opens
  have b_opens := F_opens.binds (ps := ["keys", "boxes", "thing"]) fun _ _ _ _ _ _ us hl => match us, hl with | [_, _, _], _ => rfl
  have F_openable := fun_mk (st := S_openable) l_openable c_openable p_openable
  have b_openable := F_openable.binds (ps := ["keys", "boxes"]) fun _ _ _ _ _ _ us hl => match us, hl with | [_, _], _ => rfl
  have F_law_feed := fun_mk (st := S_law_feed) l_law_feed c_law_feed p_law_feed
  have b_law_feed := F_law_feed.binds (ps := ["_law_script"]) fun _ _ _ _ _ _ us hl => match us, hl with | [_], _ => rfl
  have F_law_draw := fun_mk (st := S_law_draw) l_law_draw c_law_draw p_law_draw
  have b_law_draw := F_law_draw.binds (ps := ["_law_feed_here", "_law_many"]) fun _ _ _ _ _ _ us hl => match us, hl with | [_, _], _ => rfl
  have F_law_key := fun_mk (st := S_law_key) l_law_key c_law_key p_law_key
  have b_law_key := F_law_key.binds (ps := ["_law_item"]) fun _ _ _ _ _ _ us hl => match us, hl with | [_], _ => rfl
  have F_law_named := fun_mk (st := S_law_named) l_law_named c_law_named p_law_named
  have b_law_named := F_law_named.binds (ps := ["_law_item"]) fun _ _ _ _ _ _ us hl => match us, hl with | [_], _ => rfl
  have F_law_page := fun_mk (st := S_law_page) l_law_page c_law_page p_law_page
  have b_law_page := F_law_page.binds (ps := ["_law_item"]) fun _ _ _ _ _ _ us hl => match us, hl with | [_], _ => rfl
  have F_law_rises := fun_mk (st := S_law_rises) l_law_rises c_law_rises p_law_rises
  have b_law_rises := F_law_rises.binds (ps := ["_law_some"]) fun _ _ _ _ _ _ us hl => match us, hl with | [_], _ => rfl
  have F_law_keyed := fun_mk (st := S_law_keyed) l_law_keyed c_law_keyed p_law_keyed
  have b_law_keyed := F_law_keyed.binds (ps := ["_law_item"]) fun _ _ _ _ _ _ us hl => match us, hl with | [_], _ => rfl
  have F_law_paged := fun_mk (st := S_law_paged) l_law_paged c_law_paged p_law_paged
  have b_law_paged := F_law_paged.binds (ps := ["_law_item"]) fun _ _ _ _ _ _ us hl => match us, hl with | [_], _ => rfl
  have F_law_grip := fun_mk (st := S_law_grip) l_law_grip c_law_grip p_law_grip
  have b_law_grip := F_law_grip.binds (ps := ["_law_feed_here", "_law_many", "_law_most"]) fun _ _ _ _ _ _ us hl => match us, hl with | [_, _, _], _ => rfl
  have F_law_begin := fun_mk (st := S_law_begin) l_law_begin c_law_begin p_law_begin
  have b_law_begin := F_law_begin.binds (ps := ["_law_feed_here", "_law_many"]) fun _ _ _ _ _ _ us hl => match us, hl with | [_, _], _ => rfl
  have F_law_lot := fun_mk (st := S_law_lot) l_law_lot c_law_lot p_law_lot
  have b_law_lot := F_law_lot.binds (ps := ["_law_feed_here", "_law_size", "_law_many"]) fun _ _ _ _ _ _ us hl => match us, hl with | [_, _, _], _ => rfl
  have F_law_within := fun_mk (st := S_law_within) l_law_within c_law_within p_law_within
  have b_law_within := F_law_within.binds (ps := ["_law_one", "_law_two"]) fun _ _ _ _ _ _ us hl => match us, hl with | [_, _], _ => rfl
  have F_law_right := fun_mk (st := S_law_right) l_law_right c_law_right p_law_right
  have b_law_right := F_law_right.binds (ps := ["_law_grip_here", "_law_more", "_law_lot_here", "_law_less"]) fun _ _ _ _ _ _ us hl => match us, hl with | [_, _, _, _], _ => rfl
  have F_law := fun_mk (st := S_law) l_law c_law p_law
  have b_law := F_law.binds (ps := ["_law_script"]) fun _ _ _ _ _ _ us hl => match us, hl with | [_], _ => rfl
  refine ⟨PySem.W.fnOf "law" "law" (defArgs S_law) (defBody S_law) (defScope S_law) .none kV_law dc_law pm_law an_law cd_law ct_law, fun s v => .of_eq rfl, fun base _ _ => ?_⟩
  have g_is_number : FnG l.prog w K mg base 1 a_is_number _ ["thing"] (spM K ft 1 M_is_number) := fnG_of F_is_number scope_is_number (sb_is_number T)
  have cc_is_number : Callee l.prog w K mg base ft "is_number" 1 M_is_number 1 := calleeOf F_is_number (PySem.W.mg_of X G n_is_number) b_is_number g_is_number
  have g_is_key : FnG l.prog w K mg base 2 a_is_key _ ["thing"] (spM K ft 1 M_is_key) := fnG_of F_is_key scope_is_key (sb_is_key T cc_is_number)
  have cc_is_key : Callee l.prog w K mg base ft "is_key" 1 M_is_key 2 := calleeOf F_is_key (PySem.W.mg_of X G n_is_key) b_is_key g_is_key
  have g_pair_of : FnG l.prog w K mg base 3 a_pair_of _ ["things"] (spM K ft 1 M_pair_of) := fnG_of F_pair_of scope_pair_of (sb_pair_of T cc_is_key)
  have cc_pair_of : Callee l.prog w K mg base ft "pair_of" 1 M_pair_of 3 := calleeOf F_pair_of (PySem.W.mg_of X G n_pair_of) b_pair_of g_pair_of
  have g_boxes_by_key : FnG l.prog w K mg base 1 a_boxes_by_key _ ["boxes"] (spM K ft 1 M_boxes_by_key) := fnG_of F_boxes_by_key scope_boxes_by_key (sb_boxes_by_key T)
  have cc_boxes_by_key : Callee l.prog w K mg base ft "boxes_by_key" 1 M_boxes_by_key 1 := calleeOf F_boxes_by_key (PySem.W.mg_of X G n_boxes_by_key) b_boxes_by_key g_boxes_by_key
  have g_opening_order : FnG l.prog w K mg base 2 a_opening_order _ ["keys", "boxes"] (spM K ft 2 M_opening_order) := fnG_of F_opening_order scope_opening_order (sb_opening_order T cc_boxes_by_key)
  have cc_opening_order : Callee l.prog w K mg base ft "opening_order" 2 M_opening_order 2 := calleeOf F_opening_order (PySem.W.mg_of X G n_opening_order) b_opening_order g_opening_order
  have g_things_opened : FnG l.prog w K mg base 3 a_things_opened _ ["keys", "boxes"] (spM K ft 2 M_things_opened) := fnG_of F_things_opened scope_things_opened (sb_things_opened T cc_opening_order)
  have cc_things_opened : Callee l.prog w K mg base ft "things_opened" 2 M_things_opened 3 := calleeOf F_things_opened (PySem.W.mg_of X G n_things_opened) b_things_opened g_things_opened
  have g_opened : FnG l.prog w K mg base 4 a_opened _ ["keys", "boxes"] (spM K ft 2 M_opened) := fnG_of F_opened scope_opened (sb_opened T cc_pair_of cc_things_opened)
  have cc_opened : Callee l.prog w K mg base ft "opened" 2 M_opened 4 := calleeOf F_opened (PySem.W.mg_of X G n_opened) b_opened g_opened
  have g_openable : FnG l.prog w K mg base 1 a_openable _ ["keys", "boxes"] (spM K ft 2 M_openable) := fnG_of F_openable scope_openable (sb_openable T)
  have cc_openable : Callee l.prog w K mg base ft "openable" 2 M_openable 1 := calleeOf F_openable (PySem.W.mg_of X G n_openable) b_openable g_openable
  have g_opens : FnG l.prog w K mg base 4 a_opens _ ["keys", "boxes", "thing"] (spM K ft 3 M_opens) := fnG_of F_opens scope_opens (sb_opens T cc_things_opened)
  have cc_opens : Callee l.prog w K mg base ft "opens" 3 M_opens 4 := calleeOf F_opens (PySem.W.mg_of X G n_opens) b_opens g_opens
  have g_law_within : FnG l.prog w K mg base 1 a_law_within _ ["_law_one", "_law_two"] (spM K ft 2 M_law_within) := fnG_of F_law_within scope_law_within (sb_law_within T)
  have cc_law_within : Callee l.prog w K mg base ft "_law_within" 2 M_law_within 1 := calleeOf F_law_within (PySem.W.mg_of X G n_law_within) b_law_within g_law_within
  have g_law_key : FnG l.prog w K mg base 1 a_law_key _ ["_law_item"] (spM K ft 1 M_law_key) := fnG_of F_law_key scope_law_key (sb_law_key T)
  have cc_law_key : Callee l.prog w K mg base ft "_law_key" 1 M_law_key 1 := calleeOf F_law_key (PySem.W.mg_of X G n_law_key) b_law_key g_law_key
  have g_law_rises : FnG l.prog w K mg base 1 a_law_rises _ ["_law_some"] (spM K ft 1 M_law_rises) := fnG_of F_law_rises scope_law_rises (sb_law_rises T)
  have cc_law_rises : Callee l.prog w K mg base ft "_law_rises" 1 M_law_rises 1 := calleeOf F_law_rises (PySem.W.mg_of X G n_law_rises) b_law_rises g_law_rises
  have g_law_keyed : FnG l.prog w K mg base 2 a_law_keyed _ ["_law_item"] (spM K ft 1 M_law_keyed) := fnG_of F_law_keyed scope_law_keyed (sb_law_keyed T cc_law_key cc_law_rises)
  have cc_law_keyed : Callee l.prog w K mg base ft "_law_keyed" 1 M_law_keyed 2 := calleeOf F_law_keyed (PySem.W.mg_of X G n_law_keyed) b_law_keyed g_law_keyed
  have g_law_named : FnG l.prog w K mg base 1 a_law_named _ ["_law_item"] (spM K ft 1 M_law_named) := fnG_of F_law_named scope_law_named (sb_law_named T)
  have cc_law_named : Callee l.prog w K mg base ft "_law_named" 1 M_law_named 1 := calleeOf F_law_named (PySem.W.mg_of X G n_law_named) b_law_named g_law_named
  have g_law_page : FnG l.prog w K mg base 2 a_law_page _ ["_law_item"] (spM K ft 1 M_law_page) := fnG_of F_law_page scope_law_page (sb_law_page T cc_law_named cc_law_key)
  have cc_law_page : Callee l.prog w K mg base ft "_law_page" 1 M_law_page 2 := calleeOf F_law_page (PySem.W.mg_of X G n_law_page) b_law_page g_law_page
  have g_law_paged : FnG l.prog w K mg base 3 a_law_paged _ ["_law_item"] (spM K ft 1 M_law_paged) := fnG_of F_law_paged scope_law_paged (sb_law_paged T cc_law_page cc_law_rises)
  have cc_law_paged : Callee l.prog w K mg base ft "_law_paged" 1 M_law_paged 3 := calleeOf F_law_paged (PySem.W.mg_of X G n_law_paged) b_law_paged g_law_paged
  have g_law_right : FnG l.prog w K mg base 5 a_law_right _ ["_law_grip_here", "_law_more", "_law_lot_here", "_law_less"] (spM K ft 4 M_law_right) := fnG_of F_law_right scope_law_right (sb_law_right T cc_openable cc_opens cc_opened cc_law_within cc_law_keyed cc_law_paged)
  have cc_law_right : Callee l.prog w K mg base ft "_law_right" 4 M_law_right 5 := calleeOf F_law_right (PySem.W.mg_of X G n_law_right) b_law_right g_law_right
  have g_law_draw : FnG l.prog w K mg base 1 a_law_draw _ ["_law_feed_here", "_law_many"] (spM K ft 2 M_law_draw) := fnG_of F_law_draw scope_law_draw (sb_law_draw T)
  have cc_law_draw : Callee l.prog w K mg base ft "_law_draw" 2 M_law_draw 1 := calleeOf F_law_draw (PySem.W.mg_of X G n_law_draw) b_law_draw g_law_draw
  have g_law_grip : FnG l.prog w K mg base 2 a_law_grip _ ["_law_feed_here", "_law_many", "_law_most"] (spM K ft 3 M_law_grip) := fnG_of F_law_grip scope_law_grip (sb_law_grip T cc_law_draw)
  have cc_law_grip : Callee l.prog w K mg base ft "_law_grip" 3 M_law_grip 2 := calleeOf F_law_grip (PySem.W.mg_of X G n_law_grip) b_law_grip g_law_grip
  have g_law_begin : FnG l.prog w K mg base 3 a_law_begin _ ["_law_feed_here", "_law_many"] (spM K ft 2 M_law_begin) := fnG_of F_law_begin scope_law_begin (sb_law_begin T cc_law_grip cc_law_draw)
  have cc_law_begin : Callee l.prog w K mg base ft "_law_begin" 2 M_law_begin 3 := calleeOf F_law_begin (PySem.W.mg_of X G n_law_begin) b_law_begin g_law_begin
  have g_law_lot : FnG l.prog w K mg base 2 a_law_lot _ ["_law_feed_here", "_law_size", "_law_many"] (spM K ft 3 M_law_lot) := fnG_of F_law_lot scope_law_lot (sb_law_lot T cc_law_draw)
  have cc_law_lot : Callee l.prog w K mg base ft "_law_lot" 3 M_law_lot 2 := calleeOf F_law_lot (PySem.W.mg_of X G n_law_lot) b_law_lot g_law_lot
  have g_law_feed : FnG l.prog w K mg base 1 a_law_feed _ ["_law_script"] (spM K ft 1 M_law_feed) := fnG_of F_law_feed scope_law_feed (sb_law_feed T)
  have cc_law_feed : Callee l.prog w K mg base ft "_law_feed" 1 M_law_feed 1 := calleeOf F_law_feed (PySem.W.mg_of X G n_law_feed) b_law_feed g_law_feed
  have g_law : FnG l.prog w K mg base 6 fa _ ["_law_script"] (spM K ft 1 M_law) := fnG_of F_law scope_law (sb_law T cc_opened cc_openable cc_law_right cc_law_draw cc_law_grip cc_law_begin cc_law_lot cc_law_feed)
  exact g_law.imp fun vs H Q q => q ft
end G
open PySem PySem.W PyProof.Rows in
set_option maxRecDepth 100000 in
set_option maxHeartbeats 0 in
theorem PySem.Challenge.cw_sealshelf_k08_whole_opening_holds : PySem.Challenge.rw_sealshelf_k08_whole_opening.Holds := by
  w_on; o_law; k_head; (case hw => w_witness2)
  k_fill
  refine Mi.walkG (l := PySem.Challenge.rw_sealshelf_k08_whole_opening) (n := 63) (k := 6) (x := "_law_script") (sp := fun K vs H Q => ∀ ft : Mi.Cfg, Mi.spM K ft 1 G.M_law vs H Q) rfl (by decide) rfl ⟨rfl, by decide, by decide⟩ (fun w h Y => PySem.W.kIn_of Y) ?F fun K H a ns hl sq ft => Mi.spM_law G.law_true K H a ns hl sq
  case F =>
    intro w mg fa h KX GX hmg
    refine' G.all_mk KX GX hmg ?n_is_number ?l_is_number ?c_is_number ?p_is_number ?n_is_key ?l_is_key ?c_is_key ?p_is_key ?n_pair_of ?l_pair_of ?c_pair_of ?p_pair_of ?n_boxes_by_key ?l_boxes_by_key ?c_boxes_by_key ?p_boxes_by_key ?n_opening_order ?l_opening_order ?c_opening_order ?p_opening_order ?n_things_opened ?l_things_opened ?c_things_opened ?p_things_opened ?n_opened ?l_opened ?c_opened ?p_opened ?n_opens ?l_opens ?c_opens ?p_opens ?n_openable ?l_openable ?c_openable ?p_openable ?n_law_feed ?l_law_feed ?c_law_feed ?p_law_feed ?n_law_draw ?l_law_draw ?c_law_draw ?p_law_draw ?n_law_key ?l_law_key ?c_law_key ?p_law_key ?n_law_named ?l_law_named ?c_law_named ?p_law_named ?n_law_page ?l_law_page ?c_law_page ?p_law_page ?n_law_rises ?l_law_rises ?c_law_rises ?p_law_rises ?n_law_keyed ?l_law_keyed ?c_law_keyed ?p_law_keyed ?n_law_paged ?l_law_paged ?c_law_paged ?p_law_paged ?n_law_grip ?l_law_grip ?c_law_grip ?p_law_grip ?n_law_begin ?l_law_begin ?c_law_begin ?p_law_begin ?n_law_lot ?l_law_lot ?c_law_lot ?p_law_lot ?n_law_within ?l_law_within ?c_law_within ?p_law_within ?n_law_right ?l_law_right ?c_law_right ?p_law_right ?n_law ?l_law ?c_law ?p_law ?z_all ?z_bool ?z_enumerate ?z_int ?z_isinstance ?z_len ?z_list ?z_ord ?z_range ?z_repr ?z_set ?z_sorted ?z_str ?z_tuple
    (case n_is_number => k_is)
    (case l_is_number => k_is)
    (case c_is_number => k_is)
    (case p_is_number => k_is)
    (case n_is_key => k_is)
    (case l_is_key => k_is)
    (case c_is_key => k_is)
    (case p_is_key => k_is)
    (case n_pair_of => k_is)
    (case l_pair_of => k_is)
    (case c_pair_of => k_is)
    (case p_pair_of => k_is)
    (case n_boxes_by_key => k_is)
    (case l_boxes_by_key => k_is)
    (case c_boxes_by_key => k_is)
    (case p_boxes_by_key => k_is)
    (case n_opening_order => k_is)
    (case l_opening_order => k_is)
    (case c_opening_order => k_is)
    (case p_opening_order => k_is)
    (case n_things_opened => k_is)
    (case l_things_opened => k_is)
    (case c_things_opened => k_is)
    (case p_things_opened => k_is)
    (case n_opened => k_is)
    (case l_opened => k_is)
    (case c_opened => k_is)
    (case p_opened => k_is)
    (case n_opens => k_is)
    (case l_opens => k_is)
    (case c_opens => k_is)
    (case p_opens => k_is)
    (case n_openable => k_is)
    (case l_openable => k_is)
    (case c_openable => k_is)
    (case p_openable => k_is)
    (case n_law_feed => k_is)
    (case l_law_feed => k_is)
    (case c_law_feed => k_is)
    (case p_law_feed => k_is)
    (case n_law_draw => k_is)
    (case l_law_draw => k_is)
    (case c_law_draw => k_is)
    (case p_law_draw => k_is)
    (case n_law_key => k_is)
    (case l_law_key => k_is)
    (case c_law_key => k_is)
    (case p_law_key => k_is)
    (case n_law_named => k_is)
    (case l_law_named => k_is)
    (case c_law_named => k_is)
    (case p_law_named => k_is)
    (case n_law_page => k_is)
    (case l_law_page => k_is)
    (case c_law_page => k_is)
    (case p_law_page => k_is)
    (case n_law_rises => k_is)
    (case l_law_rises => k_is)
    (case c_law_rises => k_is)
    (case p_law_rises => k_is)
    (case n_law_keyed => k_is)
    (case l_law_keyed => k_is)
    (case c_law_keyed => k_is)
    (case p_law_keyed => k_is)
    (case n_law_paged => k_is)
    (case l_law_paged => k_is)
    (case c_law_paged => k_is)
    (case p_law_paged => k_is)
    (case n_law_grip => k_is)
    (case l_law_grip => k_is)
    (case c_law_grip => k_is)
    (case p_law_grip => k_is)
    (case n_law_begin => k_is)
    (case l_law_begin => k_is)
    (case c_law_begin => k_is)
    (case p_law_begin => k_is)
    (case n_law_lot => k_is)
    (case l_law_lot => k_is)
    (case c_law_lot => k_is)
    (case p_law_lot => k_is)
    (case n_law_within => k_is)
    (case l_law_within => k_is)
    (case c_law_within => k_is)
    (case p_law_within => k_is)
    (case n_law_right => k_is)
    (case l_law_right => k_is)
    (case c_law_right => k_is)
    (case p_law_right => k_is)
    (case n_law => k_is)
    (case l_law => k_is)
    (case c_law => k_is)
    (case p_law => k_is)
    (case z_all => k_is)
    (case z_bool => k_is)
    (case z_enumerate => k_is)
    (case z_int => k_is)
    (case z_isinstance => k_is)
    (case z_len => k_is)
    (case z_list => k_is)
    (case z_ord => k_is)
    (case z_range => k_is)
    (case z_repr => k_is)
    (case z_set => k_is)
    (case z_sorted => k_is)
    (case z_str => k_is)
    (case z_tuple => k_is)