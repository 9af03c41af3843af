import PyProof.Rows.All
import Wide.All
import OpenK.AllK
import Wide.FinOn
import HandS.ForMost
import HandS.IsInst
import HandS.Deep
import HandS.Conv
import PyProof.ReprRoads
import HandS.TupAny
import PyProof.Rows.IntBool
import HandS.TupMul
import HandS.SortInts
import HandS.Remove
import HandS.Style
import HandS.Text
import HandS.Codes
import KE.SortData
import KE.KSortedM
import HandS.RaiseMore
import HandS.WordsExc
import KE.KRevSl
import PySem.Challenge.RW_sealshelf_k01_kinds_told
set_option Elab.async false
set_option linter.all false
set_option maxRecDepth 100000
set_option maxHeartbeats 4000000
namespace Mi
open PySem PySem.Spec PyProof.Rows L2
/-! ## data, cells -/
/-- built-in types -/
inductive Ky where
  | non | bl | int | str | tup | lst | dic
def Ky.nm : Ky → String
  | .non => "NoneType" | .bl => "bool" | .int => "int" | .str => "str" | .tup => "tuple" | .lst => "list" | .dic => "dict"
inductive D where
  | non | bl (b : Bool) | int (i : Int) | str (x : Str) | tup (ds : List D) | cell (n : Nat) | fn (n : Nat) | rol (ns : List Int) | ty (t : Ky)
inductive Cell where
  | lst (ds : List D)
  | dic (kvs : List (Key × D))
abbrev Hm := List Cell
abbrev Ev := List (Option D)
/-- a list that nobody may change -/
def SqR (K : PySem.W.Frag) (H : Hp) (a : Addr) (xs : List V) : Prop :=
  SqL K H a xs ∧ ∀ H' : Hp, (∀ b o u, H b = some (.frz o u) → H' b = some (.frz o u)) → SqL K H' a xs
section
variable (K : PySem.W.Frag) (ft : Nat → Addr) (ρ : List Addr) (H : Hp)
mutual
inductive DV : D → V → Prop
  | non : DV .non .non
  | bl (b : Bool) : DV (.bl b) (.bl b)
  | int (i : Int) : DV (.int i) (.int i)
  | str (x : Str) : DV (.str x) (.str x)
  | tup {ds : List D} {a : Addr} {vs : List V} : SqT K H a vs → DVs ds vs → DV (.tup ds) (.ref a)
  | cell {n : Nat} {a : Addr} : ρ[n]? = some a → DV (.cell n) (.ref a)
  | fn (n : Nat) : DV (.fn n) (.ref (ft n))
  | rol {ns : List Int} {a : Addr} : SqR K H a (ns.map V.int) → DV (.rol ns) (.ref a)
  | ty (t : Ky) : DV (.ty t) (.ty t.nm)
inductive DVs : List D → List V → Prop
  | nil : DVs [] []
  | cons {d : D} {ds : List D} {v : V} {vs : List V} : DV d v → DVs ds vs → DVs (d :: ds) (v :: vs)
end
def COk (a : Addr) : Cell → Prop
  | .lst ds => ∃ vs, H a = some (.lst vs) ∧ DVs K ft ρ H ds vs
  | .dic kvs => ∃ ws, H a = some (.dK ws) ∧ Paired (fun (p : Key × D) (q : Key × V) => p.1 = q.1 ∧ DV K ft ρ H p.2 q.2) kvs ws
structure Rel (C : Hm) : Prop where
  len : ρ.length = C.length
  nd : ρ.Nodup
  ok : ∀ (n : Nat) (c : Cell), C[n]? = some c → ∃ a : Addr, ρ[n]? = some a ∧ COk K ft ρ H a c
structure EnvOk (E : Ev) (σ : L2.St) : Prop where
  len : E.length = σ.length
  at_ : ∀ (i : Nat) (d : D), E[i]? = some (some d) → ∃ v : V, σ[i]? = some (some v) ∧ DV K ft ρ H d v
end
structure Stp (ρ : List Addr) (H : Hp) (ρ' : List Addr) (H' : Hp) : Prop where
  pre : ∃ t, ρ' = ρ ++ t ∧ ∀ b ∈ t, H b = none
  keep : ∀ b o, H b = some o → b ∉ ρ → H' b = some o
  there : ∀ b o, H b = some o → ∃ o', H' b = some o'
  tups : ∀ b xs, H b = some (.tup xs) → H' b = some (.tup xs)
  frzs : ∀ b o u, H b = some (.frz o u) → H' b = some (.frz o u)
section
variable {K : PySem.W.Frag} {ft : Nat → Addr} {ρ ρ' ρ1 ρ2 : List Addr} {H H' H1 H2 : Hp} {C C' : Hm}
theorem Stp.refl : Stp ρ H ρ H := ⟨⟨[], by simp, by simp⟩, fun _ _ h _ => h, fun _ o h => ⟨o, h⟩, fun _ _ h => h, fun _ _ _ h => h⟩
theorem Stp.get (s : Stp ρ H ρ' H') {n : Nat} {a : Addr} (h : ρ[n]? = some a) : ρ'[n]? = some a := by
  obtain ⟨t, rfl, _⟩ := s.pre
  have := (List.getElem?_eq_some_iff.mp h).1
  rw [List.getElem?_append_left this]; exact h
theorem Stp.trans (s : Stp ρ H ρ1 H1) (r : Stp ρ1 H1 ρ2 H2) : Stp ρ H ρ2 H2 := by
  obtain ⟨t, rfl, ht⟩ := s.pre
  obtain ⟨u, rfl, hu⟩ := r.pre
  have fresh : ∀ b o, H b = some o → b ∉ ρ → b ∉ ρ ++ t := fun b o e hb z => by
    rcases List.mem_append.mp z with z | z
    · exact hb z
    · rw [ht b z] at e; cases e
  refine ⟨⟨t ++ u, by rw [List.append_assoc], fun b hb => ?_⟩, fun b o e hb => r.keep b o (s.keep b o e hb) (fresh b o e hb), fun b o e => ?_, fun b xs e => r.tups b xs (s.tups b xs e), fun b o u e => r.frzs b o u (s.frzs b o u e)⟩
  · rcases List.mem_append.mp hb with z | z
    · exact ht b z
    · cases q : H b with
      | none => rfl
      | some o =>
        obtain ⟨o', q'⟩ := s.there b o q
        rw [hu b z] at q'; cases q'
  · obtain ⟨o', q'⟩ := s.there b o e
    exact r.there b o' q'
/-- what data lean on -/
structure Wk (ρ : List Addr) (H : Hp) (ρ' : List Addr) (H' : Hp) : Prop where
  get : ∀ {n : Nat} {a : Addr}, ρ[n]? = some a → ρ'[n]? = some a
  tups : ∀ b xs, H b = some (.tup xs) → H' b = some (.tup xs)
  frzs : ∀ b o u, H b = some (.frz o u) → H' b = some (.frz o u)
theorem Stp.wk (s : Stp ρ H ρ' H') : Wk ρ H ρ' H' := ⟨s.get, s.tups, s.frzs⟩
theorem Wk.sqT (s : Wk ρ H ρ' H') {a : Addr} {xs : List V} (h : SqT K H a xs) : SqT K H' a xs := by
  rcases h with (h | ⟨o, h⟩) | h
  · exact .inl (.inl (s.tups _ _ h))
  · exact .inl (.inr ⟨o, s.frzs _ _ _ h⟩)
  · exact .inr h
theorem Wk.sqR (s : Wk ρ H ρ' H') {a : Addr} {xs : List V} (h : SqR K H a xs) : SqR K H' a xs :=
  ⟨h.2 H' s.frzs, fun H2 k => h.2 H2 fun b o u e => k b o u (s.frzs b o u e)⟩
mutual
theorem DV.monoW (s : Wk ρ H ρ' H') : ∀ {d : D} {v : V}, DV K ft ρ H d v → DV K ft ρ' H' d v
  | _, _, .non => .non
  | _, _, .bl b => .bl b
  | _, _, .int i => .int i
  | _, _, .str x => .str x
  | _, _, .tup h r => .tup (s.sqT h) (DVs.monoW s r)
  | _, _, .cell h => .cell (s.get h)
  | _, _, .fn n => .fn n
  | _, _, .rol h => .rol (s.sqR h)
  | _, _, .ty t => .ty t
theorem DVs.monoW (s : Wk ρ H ρ' H') : ∀ {ds : List D} {vs : List V}, DVs K ft ρ H ds vs → DVs K ft ρ' H' ds vs
  | _, _, .nil => .nil
  | _, _, .cons h t => .cons (DV.monoW s h) (DVs.monoW s t)
end
theorem DV.mono {d : D} {v : V} (h : DV K ft ρ H d v) (s : Stp ρ H ρ' H') : DV K ft ρ' H' d v := DV.monoW s.wk h
theorem DVs.mono {d : List D} {v : List V} (h : DVs K ft ρ H d v) (s : Stp ρ H ρ' H') : DVs K ft ρ' H' d v := DVs.monoW s.wk h
theorem EnvOk.mono {E : Ev} {σ : L2.St} (h : EnvOk K ft ρ H E σ) (s : Stp ρ H ρ' H') : EnvOk K ft ρ' H' E σ :=
  ⟨h.len, fun i d e => let ⟨v, a, b⟩ := h.at_ i d e; ⟨v, a, b.mono s⟩⟩
theorem DVs.length : ∀ {ds : List D} {vs : List V}, DVs K ft ρ H ds vs → ds.length = vs.length
  | _, _, .nil => rfl
  | _, _, .cons _ t => by simp [DVs.length t]
theorem DVs.get : ∀ {ds : List D} {vs : List V} {i : Nat} {d : D}, DVs K ft ρ H ds vs → ds[i]? = some d → ∃ v, vs[i]? = some v ∧ DV K ft ρ H d v
  | _, _, _, _, .nil, e => by simp at e
  | _, _, 0, _, .cons h _, e => by simp at e; subst e; exact ⟨_, rfl, h⟩
  | _, _, i + 1, d, .cons _ t, e => by
    obtain ⟨v, h1, h2⟩ := DVs.get (i := i) (d := d) t (by simpa using e)
    exact ⟨v, by simpa using h1, h2⟩
theorem DVs.get' : ∀ {ds : List D} {vs : List V} {i : Nat} {v : V}, DVs K ft ρ H ds vs → vs[i]? = some v → ∃ d, ds[i]? = some d ∧ DV K ft ρ H d v
  | _, _, _, _, .nil, e => by simp at e
  | _, _, 0, _, .cons h _, e => by simp at e; subst e; exact ⟨_, rfl, h⟩
  | _, _, i + 1, d, .cons _ t, e => by
    obtain ⟨v, h1, h2⟩ := DVs.get' (i := i) t (by simpa using e)
    exact ⟨v, by simpa using h1, h2⟩
theorem DVs.append : ∀ {ds es : List D} {vs ws : List V}, DVs K ft ρ H ds vs → DVs K ft ρ H es ws → DVs K ft ρ H (ds ++ es) (vs ++ ws)
  | _, _, _, _, .nil, r => r
  | _, _, _, _, .cons h t, r => .cons h (DVs.append t r)
theorem DVs.set {d : D} {v : V} (h : DV K ft ρ H d v) : ∀ {ds : List D} {vs : List V} (i : Nat), DVs K ft ρ H ds vs → DVs K ft ρ H (ds.set i d) (vs.set i v)
  | _, _, _, .nil => .nil
  | _, _, 0, .cons _ t => .cons h t
  | _, _, i + 1, .cons q t => .cons q (DVs.set h i t)
theorem DVs.eraseIdx : ∀ {ds : List D} {vs : List V} (i : Nat), DVs K ft ρ H ds vs → DVs K ft ρ H (ds.eraseIdx i) (vs.eraseIdx i)
  | _, _, _, .nil => .nil
  | _, _, 0, .cons _ t => t
  | _, _, i + 1, .cons q t => .cons q (DVs.eraseIdx i t)
theorem DVs.take : ∀ {ds : List D} {vs : List V} (i : Nat), DVs K ft ρ H ds vs → DVs K ft ρ H (ds.take i) (vs.take i)
  | _, _, 0, _ => .nil
  | _, _, _ + 1, .nil => .nil
  | _, _, i + 1, .cons q t => .cons q (DVs.take i t)
theorem DVs.drop : ∀ {ds : List D} {vs : List V} (i : Nat), DVs K ft ρ H ds vs → DVs K ft ρ H (ds.drop i) (vs.drop i)
  | _, _, 0, h => h
  | _, _, _ + 1, .nil => .nil
  | _, _, i + 1, .cons _ t => DVs.drop i t
theorem DVs.reverse : ∀ {ds : List D} {vs : List V}, DVs K ft ρ H ds vs → DVs K ft ρ H ds.reverse vs.reverse
  | _, _, .nil => .nil
  | _, _, .cons h t => by simp only [List.reverse_cons]; exact DVs.append (DVs.reverse t) (.cons h .nil)
theorem DVs.ints : ∀ (ns : List Int), DVs K ft ρ H (ns.map D.int) (ns.map V.int)
  | [] => .nil
  | n :: ns => .cons (.int n) (DVs.ints ns)
/-! ## the heap's steps -/
theorem Rel.nil : Rel K ft [] H [] := ⟨rfl, List.nodup_nil, fun n c e => by simp at e⟩
theorem Rel.has (R : Rel K ft ρ H C) {b : Addr} (hb : b ∈ ρ) : ∃ o, H b = some o := by
  obtain ⟨n, hn, e⟩ := List.getElem_of_mem hb
  have hc : n < C.length := by rw [← R.len]; exact hn
  obtain ⟨a, ha, k⟩ := R.ok n C[n] (List.getElem?_eq_getElem hc)
  rw [List.getElem?_eq_getElem hn, e] at ha
  cases ha
  cases h : C[n] with
  | lst ds => rw [h] at k; obtain ⟨vs, q, _⟩ := k; exact ⟨_, q⟩
  | dic ks => rw [h] at k; obtain ⟨vs, q, _⟩ := k; exact ⟨_, q⟩
theorem Rel.out (R : Rel K ft ρ H C) {p : Addr} (hp : H p = none) : p ∉ ρ := fun z => by
  obtain ⟨o, e⟩ := R.has z; rw [hp] at e; cases e
theorem COk.mono {a : Addr} {c : Cell} (s : Stp ρ H ρ' H') (h : H' a = H a) (k : COk K ft ρ H a c) : COk K ft ρ' H' a c := by
  cases c with
  | lst ds => obtain ⟨vs, q, r⟩ := k; exact ⟨vs, h.trans q, r.mono s⟩
  | dic ks => obtain ⟨vs, q, r⟩ := k; exact ⟨vs, h.trans q, Paired.mapP r fun p q z => ⟨z.1, z.2.mono s⟩⟩
/-- a fresh object, tracked by the abstract heap but by no cell -/
theorem Stp.fresh {p : Addr} {o : HO} (hp : H p = none) : Stp ρ H ρ (upd H p o) := by
  have ne : ∀ b u, H b = some u → b ≠ p := fun b u e z => by rw [z, hp] at e; cases e
  exact ⟨⟨[], by simp, by simp⟩, fun b u e _ => by rw [upd_ne (ne b u e)]; exact e, fun b u e => ⟨u, by rw [upd_ne (ne b u e)]; exact e⟩, fun b u e => by rw [upd_ne (ne _ _ e)]; exact e, fun b u v e => by rw [upd_ne (ne _ _ e)]; exact e⟩
theorem Rel.fresh (R : Rel K ft ρ H C) {p : Addr} {o : HO} (hp : H p = none) : Rel K ft ρ (upd H p o) C :=
  ⟨R.len, R.nd, fun n c e => by
    obtain ⟨a, ha, k⟩ := R.ok n c e
    refine ⟨a, ha, k.mono (Stp.fresh hp) (upd_ne fun z => ?_)⟩
    exact R.out hp (z ▸ List.mem_of_getElem? ha)⟩
/-- a tracked object becomes the newest cell -/
theorem Rel.push (R : Rel K ft ρ H C) {p : Addr} {c : Cell} (hp : p ∉ ρ) (k : COk K ft ρ H p c) : Rel K ft (ρ ++ [p]) H (C ++ [c]) := by
  have w : Wk ρ H (ρ ++ [p]) H := ⟨fun {n a} h => by rw [List.getElem?_append_left (List.getElem?_eq_some_iff.mp h).1]; exact h, fun _ _ h => h, fun _ _ _ h => h⟩
  have gc : ∀ {a c}, COk K ft ρ H a c → COk K ft (ρ ++ [p]) H a c := fun {a c} k => by
    cases c with
    | lst ds => obtain ⟨vs, q, r⟩ := k; exact ⟨vs, q, DVs.monoW w r⟩
    | dic ks => obtain ⟨vs, q, r⟩ := k; exact ⟨vs, q, Paired.mapP r fun p q z => ⟨z.1, DV.monoW w z.2⟩⟩
  refine ⟨by simp [R.len], ?_, fun n c' e => ?_⟩
  · rw [List.nodup_append]
    exact ⟨R.nd, by simp, fun a ha b hb z => by simp at hb; subst hb; subst z; exact hp ha⟩
  · by_cases hn : n < C.length
    · rw [List.getElem?_append_left hn] at e
      obtain ⟨a, ha, k'⟩ := R.ok n c' e
      exact ⟨a, by rw [List.getElem?_append_left (by rw [R.len]; exact hn)]; exact ha, gc k'⟩
    · have e1 : n = C.length := by
        have := (List.getElem?_eq_some_iff.mp e).1
        simp at this; omega
      subst e1
      simp at e
      subst e
      exact ⟨p, by rw [← R.len]; simp, gc k⟩
theorem Stp.push {p : Addr} {o : HO} (hp : H p = none) : Stp ρ H (ρ ++ [p]) (upd H p o) :=
  let s := Stp.fresh (ρ := ρ) (o := o) hp
  ⟨⟨[p], rfl, fun b hb => by simp at hb; rw [hb]; exact hp⟩, s.keep, s.there, s.tups, s.frzs⟩
/-- a new list -/
theorem Rel.newL (R : Rel K ft ρ H C) {p : Addr} {ds : List D} {vs : List V} (hp : H p = none) (h : DVs K ft ρ H ds vs) : Rel K ft (ρ ++ [p]) (upd H p (.lst vs)) (C ++ [.lst ds]) :=
  (R.fresh hp).push (R.out hp) ⟨vs, upd_same, h.mono (Stp.fresh hp)⟩
theorem DV.new (R : Rel K ft ρ H C) {p : Addr} {H' : Hp} : DV K ft (ρ ++ [p]) H' (.cell C.length) (.ref p) := .cell (by rw [← R.len]; simp)
/-- a cell is written -/
theorem Stp.write (R : Rel K ft ρ H C) {n : Nat} {a : Addr} {o : HO} {c : Cell} (hn : ρ[n]? = some a) (hc : C[n]? = some c) : Stp ρ H ρ (upd H a o) := by
  obtain ⟨a', ha', k⟩ := R.ok n c hc
  rw [hn] at ha'; cases ha'
  have nt : ∀ xs, H a ≠ some (.tup xs) := fun xs e => by
    cases c with
    | lst ds => obtain ⟨vs, q, _⟩ := k; rw [e] at q; cases q
    | dic ks => obtain ⟨vs, q, _⟩ := k; rw [e] at q; cases q
  have nf : ∀ ob u, H a ≠ some (.frz ob u) := fun ob u e => by
    cases c with
    | lst ds => obtain ⟨vs, q, _⟩ := k; rw [e] at q; cases q
    | dic ks => obtain ⟨vs, q, _⟩ := k; rw [e] at q; cases q
  refine ⟨⟨[], by simp, by simp⟩, fun b u e hb => ?_, fun b u e => ?_, fun b xs e => ?_, fun b ob u e => ?_⟩
  · rw [upd_ne (show b ≠ a from fun z => hb (z ▸ List.mem_of_getElem? hn))]; exact e
  · by_cases hb : b = a
    · subst hb; exact ⟨o, upd_same⟩
    · exact ⟨u, by rw [upd_ne hb]; exact e⟩
  · rw [upd_ne (show b ≠ a from fun z => nt xs (z ▸ e))]; exact e
  · rw [upd_ne (show b ≠ a from fun z => nf ob u (z ▸ e))]; exact e
theorem nodup_at {l : List Addr} (h : l.Nodup) {i j : Nat} {x : Addr} (hi : l[i]? = some x) (hj : l[j]? = some x) : i = j := by
  obtain ⟨h1, e1⟩ := List.getElem?_eq_some_iff.mp hi
  obtain ⟨h2, e2⟩ := List.getElem?_eq_some_iff.mp hj
  exact (List.getElem_inj h).mp (e1.trans e2.symm)
theorem Rel.write (R : Rel K ft ρ H C) {n : Nat} {a : Addr} {o : HO} {c c' : Cell} (hn : ρ[n]? = some a) (hc : C[n]? = some c) (k : COk K ft ρ (upd H a o) a c') : Rel K ft ρ (upd H a o) (C.set n c') := by
  have s := Stp.write (o := o) R hn hc
  refine ⟨by simp [R.len], R.nd, fun m u e => ?_⟩
  by_cases hm : m = n
  · subst hm
    have : m < C.length := (List.getElem?_eq_some_iff.mp hc).1
    rw [List.getElem?_set_self this] at e
    cases e
    exact ⟨a, hn, k⟩
  · rw [List.getElem?_set_ne (Ne.symm hm)] at e
    obtain ⟨b, hb, q⟩ := R.ok m u e
    refine ⟨b, hb, q.mono s (upd_ne fun z => hm ?_)⟩
    subst z
    exact nodup_at R.nd hb hn
theorem Rel.writeL (R : Rel K ft ρ H C) {n : Nat} {a : Addr} {ds : List D} {vs : List V} {c : Cell} (hn : ρ[n]? = some a) (hc : C[n]? = some c) (h : DVs K ft ρ H ds vs) : Rel K ft ρ (upd H a (.lst vs)) (C.set n (.lst ds)) :=
  R.write hn hc ⟨vs, upd_same, h.mono (Stp.write R hn hc)⟩
theorem Rel.lst (R : Rel K ft ρ H C) {n : Nat} {ds : List D} {v : V} (hc : C[n]? = some (.lst ds)) (h : DV K ft ρ H (.cell n) v) : ∃ a vs, v = .ref a ∧ ρ[n]? = some a ∧ H a = some (.lst vs) ∧ DVs K ft ρ H ds vs := by
  obtain ⟨a, ha, vs, q, r⟩ := R.ok n _ hc
  cases h with
  | cell h => rw [ha] at h; cases h; exact ⟨a, vs, rfl, ha, q, r⟩
theorem Rel.dic (R : Rel K ft ρ H C) {n : Nat} {kvs : List (Key × D)} {v : V} (hc : C[n]? = some (.dic kvs)) (h : DV K ft ρ H (.cell n) v) :
    ∃ a ws, v = .ref a ∧ ρ[n]? = some a ∧ H a = some (.dK ws) ∧ Paired (fun (p : Key × D) (q : Key × V) => p.1 = q.1 ∧ DV K ft ρ H p.2 q.2) kvs ws := by
  obtain ⟨a, ha, vs, q, r⟩ := R.ok n _ hc
  cases h with
  | cell h => rw [ha] at h; cases h; exact ⟨a, vs, rfl, ha, q, r⟩
end
end Mi
set_option Elab.async false
set_option linter.all false
set_option maxRecDepth 100000
set_option maxHeartbeats 4000000
namespace Mi
open PySem PySem.Spec PyProof.Rows L2
/-! ## where a text runs -/
structure Fm where
  prog : Program
  w : World
  K : PySem.W.Frag
  mg : Str → Option Value
  base : Heap
  ft : Nat → Addr
  sc : Scope
  N : List Str
  lv : Nat
  fn : Str → Bool
structure Fm.Is (F : Fm) (X : Cx) : Prop where
  prog : X.prog = F.prog
  w : X.w = F.w
  K : X.K = F.K
  mg : X.mg = F.mg
  base : X.base = F.base
  sc : X.env.scope = F.sc
  N : X.N = F.N
  fn : X.fn = F.fn
  nd : X.N.Nodup
  calm : X.calm = true
  gu : X.A.guards = some []
  rm : Room F.lv X.A
  xe : X.xe = fun _ _ => False
def Fm.blk (F : Fm) (scope : Scope) : Fm := { F with sc := relS scope F.sc, fn := fun x => scope.names.lookup x == some .cell }
theorem Fm.Is.blk {F : Fm} {X : Cx} (h : F.Is X) {scope : Scope} {s : Shared} {H : Hp} {C : Addr} {cl : List (Str × Addr)} {fp : List Addr} : (F.blk scope).Is (X.blk s H scope (compEnvC scope cl C X.env) fp) := by
  refine ⟨h.prog, h.w, h.K, h.mg, h.base, ?_, h.N, rfl, h.nd, h.calm, h.gu, h.rm, rfl⟩
  show relS scope X.env.scope = relS scope F.sc
  rw [h.sc]
abbrev ME := Ev → Hm → Option (D × Hm)
abbrev MT := Ev → Hm → Option (Bool × Hm)
abbrev MA := Ev → Hm → Option (List D × Hm)
inductive Out where
  | nx (E : Ev) (C : Hm) | rt (d : D) (C : Hm) | bk (E : Ev) (C : Hm) | ct (E : Ev) (C : Hm)
abbrev MS := Ev → Hm → Option Out
section
variable (F : Fm)
abbrev RelF (ρ : List Addr) (H : Hp) (C : Hm) : Prop := Rel F.K F.ft ρ H C
abbrev DVF (ρ : List Addr) (H : Hp) (d : D) (v : V) : Prop := DV F.K F.ft ρ H d v
abbrev DVsF (ρ : List Addr) (H : Hp) (d : List D) (v : List V) : Prop := DVs F.K F.ft ρ H d v
abbrev EnvF (ρ : List Addr) (H : Hp) (E : Ev) (σ : L2.St) : Prop := EnvOk F.K F.ft ρ H E σ
def Post (ρ : List Addr) (H : Hp) (d : D) (C' : Hm) (Q : VK) : Prop := ∀ ρ' H' v, RelF F ρ' H' C' → Stp ρ H ρ' H' → DVF F ρ' H' d v → Q v H'
def PostB (ρ : List Addr) (H : Hp) (b : Bool) (C' : Hm) (Q : Bool → Hp → Prop) : Prop := ∀ ρ' H', RelF F ρ' H' C' → Stp ρ H ρ' H' → Q b H'
def PostA (ρ : List Addr) (H : Hp) (ds : List D) (C' : Hm) (Q : List V → Hp → Prop) : Prop := ∀ ρ' H' vs, RelF F ρ' H' C' → Stp ρ H ρ' H' → DVsF F ρ' H' ds vs → Q vs H'
def PostS (ρ : List Addr) (H : Hp) (Z : Ends) : Out → Prop
  | .nx E' C' => ∀ ρ' H' σ', RelF F ρ' H' C' → Stp ρ H ρ' H' → EnvF F ρ' H' E' σ' → Z.nx σ' H'
  | .rt d C' => ∀ ρ' H' v, RelF F ρ' H' C' → Stp ρ H ρ' H' → DVF F ρ' H' d v → Z.rt v H'
  | .bk E' C' => ∀ ρ' H' σ', RelF F ρ' H' C' → Stp ρ H ρ' H' → EnvF F ρ' H' E' σ' → Z.bk σ' H'
  | .ct E' C' => ∀ ρ' H' σ', RelF F ρ' H' C' → Stp ρ H ρ' H' → EnvF F ρ' H' E' σ' → Z.ct σ' H'
def EvE (t : TE) (m : ME) : Prop := ∀ ρ C H E σ d C' Q, RelF F ρ H C → EnvF F ρ H E σ → m E C = some (d, C') → Post F ρ H d C' Q → t σ H Q
def EvT (t : TT) (m : MT) : Prop := ∀ ρ C H E σ b C' Q, RelF F ρ H C → EnvF F ρ H E σ → m E C = some (b, C') → PostB F ρ H b C' Q → t σ H Q
def EvA (t : TA) (m : MA) : Prop := ∀ ρ C H E σ ds C' Q, RelF F ρ H C → EnvF F ρ H E σ → m E C = some (ds, C') → PostA F ρ H ds C' Q → t σ H Q
def EvS (t : TS) (m : MS) : Prop := ∀ ρ C H E σ o Z, RelF F ρ H C → EnvF F ρ H E σ → m E C = some o → PostS F ρ H Z o → t Z σ H
def SE (e : Expr) (m : ME) : Prop := ∃ t, (∀ X, F.Is X → PE X e t) ∧ EvE F t m
def ST (e : Expr) (m : MT) : Prop := ∃ t, (∀ X, F.Is X → PT X e t) ∧ EvT F t m
def SW (e : Expr) (m : MT) : Prop := ∃ t, (∀ X, F.Is X → PW X e t) ∧ EvT F t m
def SA (es : List Expr) (m : MA) : Prop := ∃ t, (∀ X, F.Is X → PA X es t) ∧ EvA F t m
def SS (st : Stmt) (m : MS) : Prop := ∃ t, (∀ X, F.Is X → PS X st t) ∧ EvS F t m
def SB (sts : List Stmt) (m : MS) : Prop := ∃ t, (∀ X, F.Is X → PSs X sts t) ∧ EvS F t m
/-- an operator by values -/
abbrev OD2 := D → D → Hm → Option (D × Hm)
def SOp (f : Value → Value → Sem Value) (op : OD2) : Prop := ∃ r : R2, (∀ X, F.Is X → OpR X f r) ∧ ∀ ρ C H x y vx vy d C' Q, RelF F ρ H C → DVF F ρ H x vx → DVF F ρ H y vy → op x y C = some (d, C') → Post F ρ H d C' Q → r vx vy H Q
abbrev OD1 := D → Hm → Option (D × Hm)
def SUn (f : Value → Sem Value) (op : OD1) : Prop := ∃ r, (∀ X, F.Is X → UnR X f r) ∧ ∀ ρ C H x vx d C' Q, RelF F ρ H C → DVF F ρ H x vx → op x C = some (d, C') → Post F ρ H d C' Q → r vx H Q
abbrev ODL := List D → Hm → Option (D × Hm)
def SCall (f : Value) (op : ODL) : Prop := ∃ r, (∀ X, F.Is X → CallR X f r) ∧ ∀ ρ C H xs vs d C' Q, RelF F ρ H C → DVsF F ρ H xs vs → op xs C = some (d, C') → Post F ρ H d C' Q → r vs H Q
abbrev ODM := D → List D → Hm → Option (D × Hm)
/-- a method of a built-in type -/
def SMt (T id : String) (op : ODM) : Prop := ∃ r, (∀ X, F.Is X → MtR X id r) ∧
  (∀ ρ C H x xs vx vs d C' Q, RelF F ρ H C → DVF F ρ H x vx → DVsF F ρ H xs vs → op x xs C = some (d, C') → Post F ρ H d C' Q → r vx vs H Q)
end
section
variable {F : Fm} {X : Cx} {a b c e o : Expr} {es : List Expr} {pos p : Pos} {x : Str} {i : Nat} {ma mb mc me : ME} {mt mu : MT} {ml : MA}
theorem obind {α β : Type} {o : Option α} {f : α → Option β} {z : β} (h : o.bind f = some z) : ∃ y, o = some y ∧ f y = some z := by
  cases o with
  | none => simp at h
  | some y => exact ⟨y, rfl, h⟩
theorem Post.step {ρ ρ1 : List Addr} {H H1 : Hp} {d : D} {C' : Hm} {Q : VK} (k : Post F ρ H d C' Q) (s : Stp ρ H ρ1 H1) : Post F ρ1 H1 d C' Q := fun ρ' H' v R s' dv => k ρ' H' v R (s.trans s') dv
theorem PostB.step {ρ ρ1 : List Addr} {H H1 : Hp} {d : Bool} {C' : Hm} {Q} (k : PostB F ρ H d C' Q) (s : Stp ρ H ρ1 H1) : PostB F ρ1 H1 d C' Q := fun ρ' H' R s' => k ρ' H' R (s.trans s')
theorem PostA.step {ρ ρ1 : List Addr} {H H1 : Hp} {d : List D} {C' : Hm} {Q} (k : PostA F ρ H d C' Q) (s : Stp ρ H ρ1 H1) : PostA F ρ1 H1 d C' Q := fun ρ' H' v R s' dv => k ρ' H' v R (s.trans s') dv
theorem PostS.step {ρ ρ1 : List Addr} {H H1 : Hp} {o : Out} {Z : Ends} (k : PostS F ρ H Z o) (s : Stp ρ H ρ1 H1) : PostS F ρ1 H1 Z o := by
  cases o with
  | nx E C => exact fun ρ' H' v R s' dv => k ρ' H' v R (s.trans s') dv
  | rt E C => exact fun ρ' H' v R s' dv => k ρ' H' v R (s.trans s') dv
  | bk E C => exact fun ρ' H' v R s' dv => k ρ' H' v R (s.trans s') dv
  | ct E C => exact fun ρ' H' v R s' dv => k ρ' H' v R (s.trans s') dv
theorem Post.now {ρ : List Addr} {H : Hp} {d : D} {C : Hm} {Q : VK} {v : V} (k : Post F ρ H d C Q) (R : RelF F ρ H C) (h : DVF F ρ H d v) : Q v H := k ρ H v R .refl h
/-! ## names, constants -/
def mVar (i : Nat) : ME := fun E C => match E[i]? with | some (some d) => some (d, C) | _ => none
def mC (d : D) : ME := fun _ C => some (d, C)
theorem se_var (i : Nat) (hN : F.N[i]? = some x := by rfl) (hv : Vis F.sc x := by first | exact Or.inl rfl | exact Or.inr (Or.inl rfl) | exact Or.inr (Or.inr rfl)) (hd : (x == ("__debug__" : Str)) = false := by decide) (hcd : (x == ("__classdict__" : Str)) = false := by decide) : SE F (.Name x pos) (mVar i) := by
  refine ⟨tVar i, fun X h => pe_var (by rw [h.N]; exact hN) (by rw [h.sc]; exact hv) hd hcd, fun ρ C H E σ d C' Q R eo hm k => ?_⟩
  unfold mVar at hm
  split at hm
  · rename_i d' q
    cases hm
    obtain ⟨v, q1, q2⟩ := eo.at_ i _ q
    exact ⟨v, q1, k.now R q2⟩
  · cases hm
theorem se_int {i : Int} {j : Nat} : SE F (.Constant (.int i) j pos) (mC (.int i)) := ⟨_, fun _ _ => pe_int, fun ρ C H E σ d C' Q R eo hm k => by cases hm; exact k.now R (.int _)⟩
theorem se_bl {i : Bool} {j : Nat} : SE F (.Constant (.bool i) j pos) (mC (.bl i)) := ⟨_, fun _ _ => pe_bl, fun ρ C H E σ d C' Q R eo hm k => by cases hm; exact k.now R (.bl _)⟩
theorem se_non {j : Nat} : SE F (.Constant .none j pos) (mC .non) := ⟨_, fun _ _ => pe_non, fun ρ C H E σ d C' Q R eo hm k => by cases hm; exact k.now R .non⟩
theorem se_str {i : Str} {j : Nat} : SE F (.Constant (.str i) j pos) (mC (.str i)) := ⟨_, fun _ _ => pe_str, fun ρ C H E σ d C' Q R eo hm k => by cases hm; exact k.now R (.str _)⟩
/-- a def's name as a value -/
theorem se_fn (n : Nat) (hm : F.mg x = some (.ref (F.ft n))) (hg : F.sc.names.lookup x = some .globalImplicit := by rfl) (hd : (x == ("__debug__" : Str)) = false := by decide) : SE F (.Name x pos) (mC (.fn n)) :=
  ⟨tC (.ref (F.ft n)), fun X h => pe_glob (show X.env.scope.names.lookup x = some .globalImplicit by rw [h.sc]; exact hg) (by rw [h.mg]; exact hm) (show _ = _ from rfl) hd, fun ρ C H E σ d C' Q R eo hm k => by cases hm; exact k.now R (.fn _)⟩
/-! ## operators -/
def mBin (op : OD2) (ma mb : ME) : ME := fun E C => (ma E C).bind fun p => (mb E p.2).bind fun q => op p.1 q.1 q.2
theorem se_op {op : Operator} {f : OD2} (ho : SOp F (binaryOp op) f) (ha : SE F a ma) (hb : SE F b mb) : SE F (.BinOp a op b pos) (mBin f ma mb) := by
  obtain ⟨r, hr, sr⟩ := ho
  obtain ⟨ta, pa, sa⟩ := ha
  obtain ⟨tb, pb, sb⟩ := hb
  refine ⟨_, fun X h => pe_op (hr X h) (pa X h) (pb X h), fun ρ C H E σ d C' Q R eo hm k => ?_⟩
  obtain ⟨⟨x, C1⟩, h1, hm⟩ := obind hm
  obtain ⟨⟨y, C2⟩, h2, hm⟩ := obind hm
  refine sa ρ C H E σ x C1 _ R eo h1 fun ρ1 H1 v1 R1 s1 d1 => ?_
  refine sb ρ1 C1 H1 E σ y C2 _ R1 (eo.mono s1) h2 fun ρ2 H2 v2 R2 s2 d2 => ?_
  exact sr ρ2 C2 H2 x y v1 v2 d C' Q R2 (d1.mono s2) d2 hm (k.step (s1.trans s2))
def mUn (op : OD1) (ma : ME) : ME := fun E C => (ma E C).bind fun p => op p.1 p.2
theorem se_un {op : UnaryOp} {f : OD1} (ho : SUn F (unaryOp op) f) (ha : SE F a ma) : SE F (.UnaryOp op a pos) (mUn f ma) := by
  obtain ⟨r, hr, sr⟩ := ho
  obtain ⟨ta, pa, sa⟩ := ha
  refine ⟨_, fun X h => pe_un (hr X h) (pa X h), fun ρ C H E σ d C' Q R eo hm k => ?_⟩
  obtain ⟨⟨x, C1⟩, h1, hm⟩ := obind hm
  refine sa ρ C H E σ x C1 _ R eo h1 fun ρ1 H1 v1 R1 s1 d1 => ?_
  exact sr ρ1 C1 H1 x v1 d C' Q R1 d1 hm (k.step s1)
/-- a comparison as a value -/
theorem se_cmp {op : CmpOp} {f : OD2} (ho : SOp F (compareOp op) f) (ha : SE F a ma) (hb : SE F b mb) (hmk : behindInMarks op b = false := by first | exact nomark _ | rfl) : SE F (.Compare a [op] [b] pos) (mBin f ma mb) := by
  obtain ⟨r, hr, sr⟩ := ho
  obtain ⟨ta, pa, sa⟩ := ha
  obtain ⟨tb, pb, sb⟩ := hb
  refine ⟨_, fun X h => pe_cmpR (hr X h) (pa X h) (pb X h) hmk, fun ρ C H E σ d C' Q R eo hm k => ?_⟩
  obtain ⟨⟨x, C1⟩, h1, hm⟩ := obind hm
  obtain ⟨⟨y, C2⟩, h2, hm⟩ := obind hm
  refine sa ρ C H E σ x C1 _ R eo h1 fun ρ1 H1 v1 R1 s1 d1 => ?_
  refine sb ρ1 C1 H1 E σ y C2 _ R1 (eo.mono s1) h2 fun ρ2 H2 v2 R2 s2 d2 => ?_
  exact sr ρ2 C2 H2 x y v1 v2 d C' Q R2 (d1.mono s2) d2 hm (k.step (s1.trans s2))
/-- a value that is a bool, as a test -/
def asB : Option (D × Hm) → Option (Bool × Hm)
  | some (.bl b, C) => some (b, C)
  | _ => none
def mTest (m : ME) : MT := fun E C => asB (m E C)
theorem asB_some {o : Option (D × Hm)} {b : Bool} {C : Hm} (h : asB o = some (b, C)) : o = some (.bl b, C) := by
  unfold asB at h
  split at h
  · cases h; rfl
  · cases h
theorem st_cmp {op : CmpOp} {f : OD2} (ho : SOp F (compareOp op) f) (ha : SE F a ma) (hb : SE F b mb) (hmk : behindInMarks op b = false := by first | exact nomark _ | rfl) : ST F (.Compare a [op] [b] pos) (mTest (mBin f ma mb)) := by
  obtain ⟨r, hr, sr⟩ := ho
  obtain ⟨ta, pa, sa⟩ := ha
  obtain ⟨tb, pb, sb⟩ := hb
  refine ⟨_, fun X h => pt_cmpR (hr X h) (pa X h) (pb X h) hmk, fun ρ C H E σ d C' Q R eo hm k => ?_⟩
  have hm := asB_some hm
  obtain ⟨⟨x, C1⟩, h1, hm⟩ := obind hm
  obtain ⟨⟨y, C2⟩, h2, hm⟩ := obind hm
  refine sa ρ C H E σ x C1 _ R eo h1 fun ρ1 H1 v1 R1 s1 d1 => ?_
  refine sb ρ1 C1 H1 E σ y C2 _ R1 (eo.mono s1) h2 fun ρ2 H2 v2 R2 s2 d2 => ?_
  exact sr ρ2 C2 H2 x y v1 v2 _ C' _ R2 (d1.mono s2) d2 hm fun ρ3 H3 v R3 s3 dv => by
    cases dv
    exact ⟨d, rfl, k ρ3 H3 R3 ((s1.trans s2).trans s3)⟩
theorem st_val (he : SE F e me) (hw : ∀ (env : Env) whole, isTrue e env whole = (do let v ← whole; standAt e.pos; holding [v] (truthy v)) := by intro _ _; rfl) : ST F e (mTest me) := by
  obtain ⟨t, p, s⟩ := he
  refine ⟨_, fun X h => pt_val (p X h) (hw _), fun ρ C H E σ d C' Q R eo hm k => ?_⟩
  exact s ρ C H E σ _ C' _ R eo (asB_some hm) fun ρ3 H3 v R3 s3 dv => by
    cases dv
    exact ⟨d, rfl, k ρ3 H3 R3 s3⟩
/-! ## and, or, not, if else -/
def mAnd (ma mb : ME) : ME := fun E C => (asB (ma E C)).bind fun p => if p.1 = true then mb E p.2 else some (.bl false, p.2)
def mOr (ma mb : ME) : ME := fun E C => (asB (ma E C)).bind fun p => if p.1 = true then some (.bl true, p.2) else mb E p.2
def mNot (ma : ME) : ME := fun E C => (asB (ma E C)).bind fun p => some (.bl (!p.1), p.2)
theorem se_one {op : BoolOp} (ha : SE F a ma) : SE F (.BoolOp op [a] pos) ma := let ⟨t, p, s⟩ := ha; ⟨t, fun X h => pe_one (p X h), s⟩
theorem se_and {r : List Expr} (ha : SE F a ma) (hb : SE F (.BoolOp .And (b :: r) pos) mb) : SE F (.BoolOp .And (a :: b :: r) pos) (mAnd ma mb) := by
  obtain ⟨ta, pa, sa⟩ := ha
  obtain ⟨tb, pb, sb⟩ := hb
  refine ⟨_, fun X h => pe_and (pa X h) (pb X h), fun ρ C H E σ d C' Q R eo hm k => ?_⟩
  obtain ⟨⟨x, C1⟩, h1, hm⟩ := obind hm
  refine sa ρ C H E σ _ C1 _ R eo (asB_some h1) fun ρ1 H1 v1 R1 s1 d1 => ?_
  cases d1
  refine ⟨x, rfl, ?_⟩
  cases x with
  | true => exact sb ρ1 C1 H1 E σ d C' Q R1 (eo.mono s1) hm (k.step s1)
  | false => cases hm; exact (k.step s1).now R1 (.bl false)
theorem se_or {r : List Expr} (ha : SE F a ma) (hb : SE F (.BoolOp .Or (b :: r) pos) mb) : SE F (.BoolOp .Or (a :: b :: r) pos) (mOr ma mb) := by
  obtain ⟨ta, pa, sa⟩ := ha
  obtain ⟨tb, pb, sb⟩ := hb
  refine ⟨_, fun X h => pe_or (pa X h) (pb X h), fun ρ C H E σ d C' Q R eo hm k => ?_⟩
  obtain ⟨⟨x, C1⟩, h1, hm⟩ := obind hm
  refine sa ρ C H E σ _ C1 _ R eo (asB_some h1) fun ρ1 H1 v1 R1 s1 d1 => ?_
  cases d1
  refine ⟨x, rfl, ?_⟩
  cases x with
  | true => cases hm; exact (k.step s1).now R1 (.bl true)
  | false => exact sb ρ1 C1 H1 E σ d C' Q R1 (eo.mono s1) hm (k.step s1)
theorem se_not (ha : SE F a ma) : SE F (.UnaryOp .Not a pos) (mNot ma) := by
  obtain ⟨ta, pa, sa⟩ := ha
  refine ⟨_, fun X h => pe_not (pa X h), fun ρ C H E σ d C' Q R eo hm k => ?_⟩
  obtain ⟨⟨x, C1⟩, h1, hm⟩ := obind hm
  refine sa ρ C H E σ _ C1 _ R eo (asB_some h1) fun ρ1 H1 v1 R1 s1 d1 => ?_
  cases d1
  cases hm
  exact ⟨x, rfl, (k.step s1).now R1 (.bl _)⟩
def tAndM (mt mu : MT) : MT := fun E C => (mt E C).bind fun p => if p.1 = true then mu E p.2 else some (false, p.2)
def tOrM (mt mu : MT) : MT := fun E C => (mt E C).bind fun p => if p.1 = true then some (true, p.2) else mu E p.2
def tNotM (mt : MT) : MT := fun E C => (mt E C).bind fun p => some (!p.1, p.2)
theorem sw_and1 (h : ST F a mt) : SW F (.BoolOp .And [a] pos) mt := let ⟨t, p, s⟩ := h; ⟨t, fun X i => pw_and1 (p X i), s⟩
theorem sw_or1 (h : ST F a mt) : SW F (.BoolOp .Or [a] pos) mt := let ⟨t, p, s⟩ := h; ⟨t, fun X i => pw_or1 (p X i), s⟩
theorem evt_and {t u : TT} (sa : Mi.EvT F t mt) (sb : Mi.EvT F u mu) : Mi.EvT F (L2.tAnd t u) (tAndM mt mu) := fun ρ C H E σ d C' Q R eo hm k => by
  obtain ⟨⟨x, C1⟩, h1, hm⟩ := obind hm
  refine sa ρ C H E σ x C1 _ R eo h1 fun ρ1 H1 R1 s1 => ?_
  cases x with
  | true => exact sb ρ1 C1 H1 E σ d C' Q R1 (eo.mono s1) hm (k.step s1)
  | false => cases hm; exact k ρ1 H1 R1 s1
theorem evt_or {t u : TT} (sa : Mi.EvT F t mt) (sb : Mi.EvT F u mu) : Mi.EvT F (L2.tOr t u) (tOrM mt mu) := fun ρ C H E σ d C' Q R eo hm k => by
  obtain ⟨⟨x, C1⟩, h1, hm⟩ := obind hm
  refine sa ρ C H E σ x C1 _ R eo h1 fun ρ1 H1 R1 s1 => ?_
  cases x with
  | true => cases hm; exact k ρ1 H1 R1 s1
  | false => exact sb ρ1 C1 H1 E σ d C' Q R1 (eo.mono s1) hm (k.step s1)
theorem sw_and {r : List Expr} (ha : ST F a mt) (hb : SW F (.BoolOp .And (b :: r) pos) mu) : SW F (.BoolOp .And (a :: b :: r) pos) (tAndM mt mu) := by
  obtain ⟨ta, pa, sa⟩ := ha
  obtain ⟨tb, pb, sb⟩ := hb
  exact ⟨_, fun X h => pw_and (pa X h) (pb X h), evt_and sa sb⟩
theorem sw_or {r : List Expr} (ha : ST F a mt) (hb : SW F (.BoolOp .Or (b :: r) pos) mu) : SW F (.BoolOp .Or (a :: b :: r) pos) (tOrM mt mu) := by
  obtain ⟨ta, pa, sa⟩ := ha
  obtain ⟨tb, pb, sb⟩ := hb
  exact ⟨_, fun X h => pw_or (pa X h) (pb X h), evt_or sa sb⟩
theorem st_w (h : SW F e mt) : ST F e mt := let ⟨t, p, s⟩ := h; ⟨t, fun X i => (p X i).pt, s⟩
theorem st_not (ha : ST F a mt) : ST F (.UnaryOp .Not a pos) (tNotM mt) := by
  obtain ⟨ta, pa, sa⟩ := ha
  refine ⟨_, fun X h => pt_not (pa X h), fun ρ C H E σ d C' Q R eo hm k => ?_⟩
  obtain ⟨⟨x, C1⟩, h1, hm⟩ := obind hm
  cases hm
  exact sa ρ C H E σ x C1 _ R eo h1 fun ρ1 H1 R1 s1 => k ρ1 H1 R1 s1
def mIf (mt : MT) (ma mb : ME) : ME := fun E C => (mt E C).bind fun p => if p.1 = true then ma E p.2 else mb E p.2
theorem se_if (hc : ST F c mt) (ha : SE F a ma) (hb : SE F b mb) : SE F (.IfExp c a b pos) (mIf mt ma mb) := by
  obtain ⟨tc, pc, sc⟩ := hc
  obtain ⟨ta, pa, sa⟩ := ha
  obtain ⟨tb, pb, sb⟩ := hb
  refine ⟨_, fun X h => pe_ifExp (pc X h) (pa X h) (pb X h), fun ρ C H E σ d C' Q R eo hm k => ?_⟩
  obtain ⟨⟨x, C1⟩, h1, hm⟩ := obind hm
  refine sc ρ C H E σ x C1 _ R eo h1 fun ρ1 H1 R1 s1 => ?_
  cases x with
  | true => exact sa ρ1 C1 H1 E σ d C' Q R1 (eo.mono s1) hm (k.step s1)
  | false => exact sb ρ1 C1 H1 E σ d C' Q R1 (eo.mono s1) hm (k.step s1)
/-- a < b < c -/
def mChain (f g : OD2) (ma mb mc : ME) : ME := fun E C => (ma E C).bind fun p => (mb E p.2).bind fun q => (asB (f p.1 q.1 q.2)).bind fun z => if z.1 = true then (mc E z.2).bind fun r => g q.1 r.1 r.2 else some (.bl false, z.2)
/-! ## arguments, displays -/
def mNil : MA := fun _ C => some ([], C)
def mCons (ma : ME) (ml : MA) : MA := fun E C => (ma E C).bind fun p => (ml E p.2).bind fun q => some (p.1 :: q.1, q.2)
theorem sa_nil : SA F [] mNil := ⟨_, fun _ _ => pa_nil, fun ρ C H E σ d C' Q R eo hm k => by cases hm; exact k ρ H [] R .refl .nil⟩
theorem sa_cons (ha : SE F e me) (hl : SA F es ml) (hs : ∀ env : Env, starEach (e :: es) env = (false, eval e env) :: starEach es env := by intro _; rfl) : SA F (e :: es) (mCons me ml) := by
  obtain ⟨ta, pa, sa⟩ := ha
  obtain ⟨tl, pl, sl⟩ := hl
  refine ⟨_, fun X h => pa_cons (pa X h) (pl X h) (hs _), fun ρ C H E σ d C' Q R eo hm k => ?_⟩
  obtain ⟨⟨x, C1⟩, h1, hm⟩ := obind hm
  obtain ⟨⟨ys, C2⟩, h2, hm⟩ := obind hm
  cases hm
  refine sa ρ C H E σ x C1 _ R eo h1 fun ρ1 H1 v1 R1 s1 d1 => ?_
  refine sl ρ1 C1 H1 E σ ys C2 _ R1 (eo.mono s1) h2 fun ρ2 H2 v2 R2 s2 d2 => ?_
  exact k ρ2 H2 _ R2 (s1.trans s2) (.cons (d1.mono s2) d2)
/-- a length that a list may have -/
def okLen (n : Nat) : Bool := decide (n ≤ sizeLine)
def mkTup (ds : List D) (C : Hm) : Option (D × Hm) := if ds.length ≤ sizeLine then some (.tup ds, C) else none
def mkLst (ds : List D) (C : Hm) : Option (D × Hm) := if ds.length ≤ sizeLine then some (.cell C.length, C ++ [.lst ds]) else none
theorem mkTup_post {ρ : List Addr} {H : Hp} {C C' : Hm} {ds : List D} {vs : List V} {d : D} {Q : VK} (R : RelF F ρ H C) (h : DVsF F ρ H ds vs) (hm : mkTup ds C = some (d, C')) (k : Post F ρ H d C' Q) : vs.length ≤ sizeLine ∧ ∀ p, H p = none → Q (.ref p) (upd H p (.tup vs)) := by
  unfold mkTup at hm
  split at hm
  · rename_i hl
    cases hm
    refine ⟨h.length ▸ hl, fun p hp => ?_⟩
    exact k ρ _ _ (R.fresh hp) (Stp.fresh hp) (.tup (SqT.of upd_same) (h.mono (Stp.fresh hp)))
  · cases hm
theorem mkLst_post {ρ : List Addr} {H : Hp} {C C' : Hm} {ds : List D} {vs : List V} {d : D} {Q : VK} (R : RelF F ρ H C) (h : DVsF F ρ H ds vs) (hm : mkLst ds C = some (d, C')) (k : Post F ρ H d C' Q) : vs.length ≤ sizeLine ∧ ∀ p, H p = none → Q (.ref p) (upd H p (.lst vs)) := by
  unfold mkLst at hm
  split at hm
  · rename_i hl
    cases hm
    refine ⟨h.length ▸ hl, fun p hp => ?_⟩
    exact k _ _ _ (R.newL hp h) (Stp.push hp) (DV.new R)
  · cases hm
def mTup (ml : MA) : ME := fun E C => (ml E C).bind fun p => mkTup p.1 p.2
def mLst (ml : MA) : ME := fun E C => (ml E C).bind fun p => mkLst p.1 p.2
theorem se_tup {x1} (hl : SA F es ml) : SE F (.Tuple es x1 pos) (mTup ml) := by
  obtain ⟨tl, pl, sl⟩ := hl
  refine ⟨_, fun X h => pe_tup (pl X h), fun ρ C H E σ d C' Q R eo hm k => ?_⟩
  obtain ⟨⟨ds, C1⟩, h1, hm⟩ := obind hm
  exact sl ρ C H E σ ds C1 _ R eo h1 fun ρ1 H1 v1 R1 s1 d1 => mkTup_post R1 d1 hm (k.step s1)
theorem se_lst (hl : SA F es ml) : SE F (.List es pos) (mLst ml) := by
  obtain ⟨tl, pl, sl⟩ := hl
  refine ⟨_, fun X h => pe_lst (pl X h), fun ρ C H E σ d C' Q R eo hm k => ?_⟩
  obtain ⟨⟨ds, C1⟩, h1, hm⟩ := obind hm
  exact sl ρ C H E σ ds C1 _ R eo h1 fun ρ1 H1 v1 R1 s1 d1 => mkLst_post R1 d1 hm (k.step s1)
/-! ## calls of built-ins, methods, subscripts -/
def mCallB (op : ODL) (ml : MA) : ME := fun E C => (ml E C).bind fun p => op p.1 p.2
theorem Fm.Is.gl (h : F.Is X) (hg : F.sc.names.lookup x = some .globalImplicit) : Gl X x := show X.env.scope.names.lookup x = some .globalImplicit by rw [h.sc]; exact hg
theorem se_callB {id : String} {op : ODL} (hc : SCall F (.builtin id) op) (hm : F.mg x = none) (hv : bootBuiltins x = some (.builtin id)) (ha : SA F (e :: es) ml) (hg : F.sc.names.lookup x = some .globalImplicit := by rfl) (hn : x ≠ "__name__" := by decide) (hdb : (x == ("__debug__" : Str)) = false := by decide)
    (he : ∀ env : Env, starEach (e :: es) env = (false, eval e env) :: starEach es env := by intro _; rfl) (hpl : ∀ env : Env, (backTo pos (starEach es env)).any (·.1) = false := by intro _; rfl) : SE F (.Call (.Name x p) (e :: es) [] pos) (mCallB op ml) := by
  obtain ⟨r, hr, sr⟩ := hc
  obtain ⟨tl, pl, sl⟩ := ha
  refine ⟨_, fun X h => pe_callB (hr X h) (h.gl hg) (by rw [h.mg]; exact hm) hv (pl X h) hn hdb (he _) (hpl _), fun ρ C H E σ d C' Q R eo hm k => ?_⟩
  obtain ⟨⟨ds, C1⟩, h1, hm⟩ := obind hm
  exact sl ρ C H E σ ds C1 _ R eo h1 fun ρ1 H1 v1 R1 s1 d1 => sr ρ1 C1 H1 ds v1 d C' Q R1 d1 hm (k.step s1)
theorem se_callTy {T : String} {op : ODL} (hc : SCall F (.type T) op) (hm : F.mg x = none) (hv : bootBuiltins x = some (.type T)) (ha : SA F (e :: es) ml) (hg : F.sc.names.lookup x = some .globalImplicit := by rfl) (hn : x ≠ "__name__" := by decide) (hdb : (x == ("__debug__" : Str)) = false := by decide)
    (he : ∀ env : Env, starEach (e :: es) env = (false, eval e env) :: starEach es env := by intro _; rfl) (hpl : ∀ env : Env, (backTo pos (starEach es env)).any (·.1) = false := by intro _; rfl) : SE F (.Call (.Name x p) (e :: es) [] pos) (mCallB op ml) := by
  obtain ⟨r, hr, sr⟩ := hc
  obtain ⟨tl, pl, sl⟩ := ha
  refine ⟨_, fun X h => pe_callTy (hr X h) (h.gl hg) (by rw [h.mg]; exact hm) hv (pl X h) hn hdb (he _) (hpl _), fun ρ C H E σ d C' Q R eo hm k => ?_⟩
  obtain ⟨⟨ds, C1⟩, h1, hm⟩ := obind hm
  exact sl ρ C H E σ ds C1 _ R eo h1 fun ρ1 H1 v1 R1 s1 d1 => sr ρ1 C1 H1 ds v1 d C' Q R1 d1 hm (k.step s1)
/-- what kind a value is, for a method's look-up -/
def tyD (T : String) (d : D) (C : Hm) : Bool := match d with
  | .str _ => T == "str"
  | .cell n => match C[n]? with
    | some (.lst _) => T == "list"
    | some (.dic _) => T == "dict"
    | _ => false
  | _ => false
def mMeth (T : String) (op : ODM) (mo : ME) (ml : MA) : ME := fun E C => (mo E C).bind fun p => if tyD T p.1 p.2 = true then (ml E p.2).bind fun q => op p.1 q.1 q.2 else none
end
end Mi
set_option Elab.async false
set_option linter.all false
set_option maxRecDepth 100000
set_option maxHeartbeats 4000000
namespace Mi
open PySem PySem.Spec PyProof.Rows L2
section
variable {F : Fm} {X : Cx} {a b c e o : Expr} {es : List Expr} {pos p : Pos} {x : Str} {i : Nat} {ma mb mc me mo : ME} {mt mu : MT} {ml : MA}
/-! ## chains of comparisons -/
theorem se_chain {op op' : CmpOp} {f g : OD2} (ho : SOp F (compareOp op) f) (ho' : SOp F (compareOp op') g) (ha : SE F a ma) (hb : SE F b mb) (hc : SE F c mc) (hmk : lastMarks [op, op'] [b, c] = false := by with_unfolding_all rfl) :
    SE F (.Compare a [op, op'] [b, c] pos) (mChain f g ma mb mc) := by
  obtain ⟨r, hr, sr⟩ := ho
  obtain ⟨q, hq, sq⟩ := ho'
  obtain ⟨ta, pa, sa⟩ := ha
  obtain ⟨tb, pb, sb⟩ := hb
  obtain ⟨tc, pc, sc⟩ := hc
  refine ⟨_, fun X h => pe_chain (hr X h) (hq X h) (pa X h) (pb X h) (pc X h) hmk, fun ρ C H E σ d C' Q R eo hm k => ?_⟩
  obtain ⟨⟨x, C1⟩, h1, hm⟩ := obind hm
  obtain ⟨⟨y, C2⟩, h2, hm⟩ := obind hm
  obtain ⟨⟨z, C3⟩, h3, hm⟩ := obind hm
  refine sa ρ C H E σ x C1 _ R eo h1 fun ρ1 H1 v1 R1 s1 d1 => ?_
  refine sb ρ1 C1 H1 E σ y C2 _ R1 (eo.mono s1) h2 fun ρ2 H2 v2 R2 s2 d2 => ?_
  refine sr ρ2 C2 H2 x y v1 v2 _ C3 _ R2 (d1.mono s2) d2 (asB_some h3) fun ρ3 H3 v3 R3 s3 d3 => ?_
  cases d3
  refine ⟨z, rfl, ?_⟩
  have s := (s1.trans s2).trans s3
  cases z with
  | false => cases hm; exact (k.step s).now R3 (.bl false)
  | true =>
    obtain ⟨⟨w, C4⟩, h4, hm⟩ := obind hm
    refine sc ρ3 C3 H3 E σ w C4 _ R3 (eo.mono s) h4 fun ρ4 H4 v4 R4 s4 d4 => ?_
    exact sq ρ4 C4 H4 y w v2 v4 d C' Q R4 (d2.mono (s3.trans s4)) d4 hm (k.step (s.trans s4))
theorem st_chain {op op' : CmpOp} {f g : OD2} (ho : SOp F (compareOp op) f) (ho' : SOp F (compareOp op') g) (ha : SE F a ma) (hb : SE F b mb) (hc : SE F c mc) (hmk : lastMarks [op, op'] [b, c] = false := by with_unfolding_all rfl) :
    ST F (.Compare a [op, op'] [b, c] pos) (mTest (mChain f g ma mb mc)) := by
  obtain ⟨r, hr, sr⟩ := ho
  obtain ⟨q, hq, sq⟩ := ho'
  obtain ⟨ta, pa, sa⟩ := ha
  obtain ⟨tb, pb, sb⟩ := hb
  obtain ⟨tc, pc, sc⟩ := hc
  refine ⟨_, fun X h => pt_chain (hr X h) (hq X h) (pa X h) (pb X h) (pc X h) hmk, fun ρ C H E σ d C' Q R eo hm k => ?_⟩
  have hm := asB_some hm
  obtain ⟨⟨x, C1⟩, h1, hm⟩ := obind hm
  obtain ⟨⟨y, C2⟩, h2, hm⟩ := obind hm
  obtain ⟨⟨z, C3⟩, h3, hm⟩ := obind hm
  refine sa ρ C H E σ x C1 _ R eo h1 fun ρ1 H1 v1 R1 s1 d1 => ?_
  refine sb ρ1 C1 H1 E σ y C2 _ R1 (eo.mono s1) h2 fun ρ2 H2 v2 R2 s2 d2 => ?_
  refine sr ρ2 C2 H2 x y v1 v2 _ C3 _ R2 (d1.mono s2) d2 (asB_some h3) fun ρ3 H3 v3 R3 s3 d3 => ?_
  cases d3
  refine ⟨z, rfl, ?_⟩
  have s := (s1.trans s2).trans s3
  cases z with
  | false => cases hm; exact ⟨false, rfl, k ρ3 H3 R3 s⟩
  | true =>
    obtain ⟨⟨w, C4⟩, h4, hm⟩ := obind hm
    refine sc ρ3 C3 H3 E σ w C4 _ R3 (eo.mono s) h4 fun ρ4 H4 v4 R4 s4 d4 => ?_
    exact sq ρ4 C4 H4 y w v2 v4 _ C' _ R4 (d2.mono (s3.trans s4)) d4 hm fun ρ5 H5 v R5 s5 dv => by
      cases dv
      exact ⟨d, rfl, k ρ5 H5 R5 ((s.trans s4).trans s5)⟩
/-! ## truth of any value -/
def truD (d : D) (C : Hm) : Option Bool := match d with
  | .non => some false
  | .bl b => some b
  | .int i => some (i != 0)
  | .str y => if y.length ≤ sizeLine then some ((y.length : Int) != 0) else none
  | .tup ds => some (!ds.isEmpty)
  | .cell n => match C[n]? with
    | some (.lst ds) => some (!ds.isEmpty)
    | some (.dic ks) => some (!ks.isEmpty)
    | _ => none
  | .rol ns => some (!ns.isEmpty)
  | .fn _ => none
  | .ty _ => none
theorem DVs.isEmpty {K : PySem.W.Frag} {ft : Nat → Addr} {ρ : List Addr} {H : Hp} {ds : List D} {vs : List V} (h : DVs K ft ρ H ds vs) : ds.isEmpty = vs.isEmpty := by cases h <;> rfl
theorem truD_ok {ρ : List Addr} {H : Hp} {C : Hm} {d : D} {v : V} {k : Bool} (R : RelF F ρ H C) (h : DVF F ρ H d v) (e : truD d C = some k) : TruV F.K v H k := by
  cases h with
  | non => cases e; rfl
  | bl b => cases e; rfl
  | int i => cases e; rfl
  | str y =>
    unfold truD at e
    simp only at e
    split at e
    · rename_i hl; cases e; exact ⟨hl, rfl⟩
    · cases e
  | tup h r => cases e; exact .inr (.inl ⟨_, h, by rw [r.isEmpty]⟩)
  | @cell n a h =>
    unfold truD at e
    simp only at e
    split at e
    · rename_i ds q
      cases e
      obtain ⟨a', vs, e1, e2, e3, e4⟩ := R.lst q (.cell h)
      cases e1
      exact .inl ⟨vs, SqL.of e3, by rw [e4.isEmpty]⟩
    · rename_i ks q
      cases e
      obtain ⟨a', vs, e1, e2, e3, e4⟩ := R.dic q (.cell h)
      cases e1
      refine .inr (.inr ⟨_, e3, ?_⟩)
      cases e4 <;> rfl
    · cases e
  | fn n => cases e
  | rol h => cases e; exact .inl ⟨_, h.1, by simp⟩
  | ty t => cases e
def mTru (m : ME) : MT := fun E C => (m E C).bind fun p => (truD p.1 p.2).map fun b => (b, p.2)
theorem st_tru (he : SE F e me) (hw : ∀ (env : Env) whole, isTrue e env whole = (do let v ← whole; standAt e.pos; holding [v] (truthy v)) := by intro _ _; rfl) : ST F e (mTru me) := by
  obtain ⟨t, p, s⟩ := he
  refine ⟨fun σ H Q => t σ H fun x H' => ∃ k, TruV F.K x H' k ∧ Q k H', fun X h => by have z := pt_truth (p X h) (hw X.env); rw [h.K] at z; exact z, fun ρ C H E σ d C' Q R eo hm k => ?_⟩
  obtain ⟨⟨x, C1⟩, h1, hm⟩ := obind hm
  cases q : truD x C1 with
  | none => simp only [q] at hm; cases hm
  | some b =>
    simp only [q] at hm
    cases hm
    exact s ρ C H E σ _ _ _ R eo h1 fun ρ3 H3 v R3 s3 dv => ⟨_, truD_ok R3 dv q, k ρ3 H3 R3 s3⟩
/-! ## methods, subscripts, slices -/
theorem tyD_ok {ρ : List Addr} {H : Hp} {C : Hm} {d : D} {v : V} {T : String} (R : RelF F ρ H C) (h : DVF F ρ H d v) (e : tyD T d C = true) : tyV F.K T v H := by
  cases h with
  | str y => exact eq_of_beq e
  | @cell n a h =>
    unfold tyD at e
    simp only at e
    split at e
    · rename_i ds q
      obtain ⟨a', vs, e1, e2, e3, e4⟩ := R.lst q (.cell h)
      cases e1
      exact .inl ⟨eq_of_beq e, vs, SqL.of e3⟩
    · rename_i ks q
      obtain ⟨a', vs, e1, e2, e3, e4⟩ := R.dic q (.cell h)
      cases e1
      exact .inr (.inr (.inl ⟨eq_of_beq e, .inl ⟨_, e3⟩⟩))
    · cases e
  | _ => cases e
theorem se_bm {T id : String} {name : Str} {apos : Pos} {op : ODM} (pa : PlainAttrs T) (slot : Slot T name id) (hty : typeOf (.builtin id) = pure (.type "method_descriptor")) (hmt : SMt F T id op) (ho : SE F o mo) (ha : SA F (e :: es) ml)
    (hbase : ∀ env : Env, attributeBase o name env (eval o env) = eval o env := by intro _; rfl)
    (hfew : ∀ env : Env, ((backTo pos (starEach (e :: es) env)).all (fun x => !x.1) && (backToKw pos (keywordEach [] env)).all (fun x => x.1.isSome)
      && decide ((e :: es).length + ([] : List Keyword).length + (if ([] : List Keyword).isEmpty then 0 else 1) < 30)) = true := by intro _; rfl)
    (hline : (apos.endLine == pos.line) = true := by rfl) (hs : ∀ env : Env, starEach (e :: es) env = (false, eval e env) :: starEach es env := by intro _; rfl) (hplain : ∀ env : Env, (backTo pos (starEach es env)).any (·.1) = false := by intro _; rfl) :
    SE F (.Call (.Attribute o name apos) (e :: es) [] pos) (mMeth T op mo ml) := by
  obtain ⟨r, hr, sr⟩ := hmt
  obtain ⟨to, po, so⟩ := ho
  obtain ⟨tl, pl, sl⟩ := ha
  refine ⟨tBM F.K T r to tl, fun X h => by have z := pe_bm pa slot hty (hr X h) (po X h) (pl X h) (hbase _) (hfew _) hline (hs _) (hplain _); rw [h.K] at z; exact z, fun ρ C H E σ d C' Q R eo hm k => ?_⟩
  obtain ⟨⟨x, C1⟩, h1, hm⟩ := obind hm
  simp only at hm
  split at hm
  · rename_i ty
    obtain ⟨⟨ys, C2⟩, h2, hm⟩ := obind hm
    refine so ρ C H E σ x C1 _ R eo h1 fun ρ1 H1 v1 R1 s1 d1 => ⟨tyD_ok R1 d1 ty, ?_⟩
    refine sl ρ1 C1 H1 E σ ys C2 _ R1 (eo.mono s1) h2 fun ρ2 H2 v2 R2 s2 d2 => ?_
    exact sr ρ2 C2 H2 x ys v1 v2 d C' Q R2 (d1.mono s2) d2 hm (k.step (s1.trans s2))
  · cases hm
theorem se_bm0 {T id : String} {name : Str} {apos : Pos} {op : ODM} (pa : PlainAttrs T) (slot : Slot T name id) (hty : typeOf (.builtin id) = pure (.type "method_descriptor")) (hmt : SMt F T id op) (ho : SE F o mo)
    (hbase : ∀ env : Env, attributeBase o name env (eval o env) = eval o env := by intro _; rfl) (hline : (apos.endLine == pos.line) = true := by rfl) : SE F (.Call (.Attribute o name apos) [] [] pos) (mMeth T op mo mNil) := by
  obtain ⟨r, hr, sr⟩ := hmt
  obtain ⟨to, po, so⟩ := ho
  refine ⟨tBM0 F.K T r to, fun X h => by have z := pe_bm0 pa slot hty (hr X h) (po X h) (hbase _) hline; rw [h.K] at z; exact z, fun ρ C H E σ d C' Q R eo hm k => ?_⟩
  obtain ⟨⟨x, C1⟩, h1, hm⟩ := obind hm
  simp only at hm
  split at hm
  · rename_i ty
    obtain ⟨⟨ys, C2⟩, h2, hm⟩ := obind hm
    cases h2
    refine so ρ C H E σ x C1 _ R eo h1 fun ρ1 H1 v1 R1 s1 d1 => ⟨tyD_ok R1 d1 ty, ?_⟩
    exact sr ρ1 C1 H1 x [] v1 [] d C' Q R1 d1 .nil hm (k.step s1)
  · cases hm
/-- o[i] by values -/
def SIx (F : Fm) (op : OD2) : Prop := ∃ r : R2, (∀ X, F.Is X → IxR X r) ∧ ∀ ρ C H x y vx vy d C' Q, RelF F ρ H C → DVF F ρ H x vx → DVF F ρ H y vy → op x y C = some (d, C') → Post F ρ H d C' Q → r vx vy H Q
theorem se_ix {f : OD2} (ho : SIx F f) (ha : SE F a ma) (hb : SE F b mb) (hs : PlainIx b := by intro _ _; rfl) : SE F (.Subscript a b pos) (mBin f ma mb) := by
  obtain ⟨r, hr, sr⟩ := ho
  obtain ⟨ta, pa, sa⟩ := ha
  obtain ⟨tb, pb, sb⟩ := hb
  refine ⟨_, fun X h => pe_ix (hr X h) (pa X h) (pb X h) hs, fun ρ C H E σ d C' Q R eo hm k => ?_⟩
  obtain ⟨⟨x, C1⟩, h1, hm⟩ := obind hm
  obtain ⟨⟨y, C2⟩, h2, hm⟩ := obind hm
  refine sa ρ C H E σ x C1 _ R eo h1 fun ρ1 H1 v1 R1 s1 d1 => ?_
  refine sb ρ1 C1 H1 E σ y C2 _ R1 (eo.mono s1) h2 fun ρ2 H2 v2 R2 s2 d2 => ?_
  exact sr ρ2 C2 H2 x y v1 v2 d C' Q R2 (d1.mono s2) d2 hm (k.step (s1.trans s2))
abbrev MO := Ev → Hm → Option (Option Int × Hm)
def SO (F : Fm) (e : Option Expr) (m : MO) : Prop := ∃ t : TO, (∀ X, F.Is X → PO X e t) ∧ ∀ ρ C H E σ z C' Q, RelF F ρ H C → EnvF F ρ H E σ → m E C = some (z, C') → (∀ ρ' H', RelF F ρ' H' C' → Stp ρ H ρ' H' → Q z H') → t σ H Q
def oNone : MO := fun _ C => some (none, C)
def oSome (m : ME) : MO := fun E C => match m E C with | some (.int i, C') => some (some i, C') | _ => none
theorem so_none : SO F none oNone := ⟨_, fun _ _ => po_none, fun ρ C H E σ z C' Q R eo hm k => by cases hm; exact k ρ H R .refl⟩
theorem so_some (h : SE F e me) : SO F (some e) (oSome me) := by
  obtain ⟨t, p, s⟩ := h
  refine ⟨_, fun X h => po_some (p X h), fun ρ C H E σ z C' Q R eo hm k => ?_⟩
  unfold oSome at hm
  split at hm
  · rename_i i C1 q
    cases hm
    exact s ρ C H E σ _ _ _ R eo q fun ρ1 H1 v R1 s1 d1 => by cases d1; exact ⟨i, rfl, k ρ1 H1 R1 s1⟩
  · cases hm
abbrev ODS := D → Option Int → Option Int → Hm → Option (D × Hm)
def SSl (F : Fm) (op : ODS) : Prop := ∃ r, (∀ X, F.Is X → SlR X r) ∧ ∀ ρ C H x lo hi vx d C' Q, RelF F ρ H C → DVF F ρ H x vx → op x lo hi C = some (d, C') → Post F ρ H d C' Q → r vx lo hi H Q
def mSl (op : ODS) (ma : ME) (ml mh : MO) : ME := fun E C => (ma E C).bind fun p => (ml E p.2).bind fun q => (mh E q.2).bind fun r => op p.1 q.1 r.1 r.2
theorem se_slice {op : ODS} {lo hi : Option Expr} {p2 : Pos} {ml mh : MO} (hr : SSl F op) (he : SE F e me) (hl : SO F lo ml) (hu : SO F hi mh) : SE F (.Subscript e (.Slice lo hi none p2) pos) (mSl op me ml mh) := by
  obtain ⟨r, hr, sr⟩ := hr
  obtain ⟨te, pe, se⟩ := he
  obtain ⟨tl, pl, sl⟩ := hl
  obtain ⟨th, ph, sh⟩ := hu
  refine ⟨_, fun X h => pe_slice (hr X h) (pe X h) (pl X h) (ph X h), fun ρ C H E σ d C' Q R eo hm k => ?_⟩
  obtain ⟨⟨x, C1⟩, h1, hm⟩ := obind hm
  obtain ⟨⟨y, C2⟩, h2, hm⟩ := obind hm
  obtain ⟨⟨z, C3⟩, h3, hm⟩ := obind hm
  refine se ρ C H E σ x C1 _ R eo h1 fun ρ1 H1 v1 R1 s1 d1 => ?_
  refine sl ρ1 C1 H1 E σ y C2 _ R1 (eo.mono s1) h2 fun ρ2 H2 R2 s2 => ?_
  refine sh ρ2 C2 H2 E σ z C3 _ R2 (eo.mono (s1.trans s2)) h3 fun ρ3 H3 R3 s3 => ?_
  exact sr ρ3 C3 H3 x y z v1 d C' Q R3 (d1.mono (s2.trans s3)) hm (k.step ((s1.trans s2).trans s3))
/-! ## statements -/
def mSeq (m n : MS) : MS := fun E C => (m E C).bind fun o => match o with | .nx E' C' => n E' C' | o => some o
def mNext : MS := fun E C => some (.nx E C)
def mDrop (m : ME) : MS := fun E C => (m E C).bind fun p => some (.nx E p.2)
def mRet (m : ME) : MS := fun E C => (m E C).bind fun p => some (.rt p.1 p.2)
def mRetN : MS := fun E C => some (.rt .non C)
def mBreak : MS := fun E C => some (.bk E C)
def mCont : MS := fun E C => some (.ct E C)
def mIfS (mt : MT) (m n : MS) : MS := fun E C => (mt E C).bind fun p => if p.1 = true then m E p.2 else n E p.2
variable {st : Stmt} {rest sts : List Stmt} {ms ns : MS}
theorem sb_nil : SB F [] mNext := ⟨_, fun _ _ => pss_nil, fun ρ C H E σ o Z R eo hm k => by cases hm; exact k ρ H σ R .refl eo⟩
theorem evs_seq {t u : TS} (s1 : EvS F t ms) (s2 : EvS F u ns) : EvS F (tSeq t u) (mSeq ms ns) := fun ρ C H E σ o Z R eo hm k => by
  obtain ⟨o1, h1, hm⟩ := obind hm
  refine s1 ρ C H E σ o1 _ R eo h1 ?_
  cases o1 with
  | nx E1 C1 => exact fun ρ' H' σ' R' s' eo' => s2 ρ' C1 H' E1 σ' o Z R' eo' hm (k.step s')
  | rt d C1 => cases hm; exact k
  | bk E1 C1 => cases hm; exact k
  | ct E1 C1 => cases hm; exact k
theorem sb_cons (h1 : SS F st ms) (h2 : SB F rest ns) : SB F (st :: rest) (mSeq ms ns) := by
  obtain ⟨t, p, s⟩ := h1
  obtain ⟨u, q, r⟩ := h2
  exact ⟨_, fun X h => pss_cons (p X h) (q X h), evs_seq s r⟩
theorem sb_one (h1 : SS F st ms) : SB F [st] ms := by
  obtain ⟨t, p, s⟩ := h1
  exact ⟨_, fun X h => pss_one (p X h), s⟩
theorem ss_pass : SS F (.Pass pos) mNext := ⟨_, fun _ _ => ps_pass, fun ρ C H E σ o Z R eo hm k => by cases hm; exact k ρ H σ R .refl eo⟩
theorem ss_break : SS F (.Break pos) mBreak := ⟨_, fun _ _ => ps_break, fun ρ C H E σ o Z R eo hm k => by cases hm; exact k ρ H σ R .refl eo⟩
theorem ss_continue : SS F (.Continue pos) mCont := ⟨_, fun _ _ => ps_continue, fun ρ C H E σ o Z R eo hm k => by cases hm; exact k ρ H σ R .refl eo⟩
theorem ss_expr (he : SE F e me) (hs : ∀ env : Env, swapsWith e none pos.line env = pure false := by intro _; rfl) : SS F (.Expr e pos) (mDrop me) := by
  obtain ⟨t, p, s⟩ := he
  refine ⟨_, fun X h => ps_expr (p X h) (hs _), fun ρ C H E σ o Z R eo hm k => ?_⟩
  obtain ⟨⟨x, C1⟩, h1, hm⟩ := obind hm
  cases hm
  exact s ρ C H E σ x C1 _ R eo h1 fun ρ1 H1 v1 R1 s1 d1 => k ρ1 H1 σ R1 s1 (eo.mono s1)
theorem ss_ret (he : SE F e me) : SS F (.Return (some e) pos) (mRet me) := by
  obtain ⟨t, p, s⟩ := he
  refine ⟨_, fun X h => ps_ret (p X h), fun ρ C H E σ o Z R eo hm k => ?_⟩
  obtain ⟨⟨x, C1⟩, h1, hm⟩ := obind hm
  cases hm
  exact s ρ C H E σ x C1 _ R eo h1 fun ρ1 H1 v1 R1 s1 d1 => k ρ1 H1 v1 R1 s1 d1
theorem ss_retN : SS F (.Return none pos) mRetN := ⟨_, fun _ _ => ps_retN, fun ρ C H E σ o Z R eo hm k => by cases hm; exact k ρ H .non R .refl .non⟩
theorem ss_if (hc : ST F c mt) (ha : SB F sts ms) (hb : SB F rest ns) : SS F (.If c sts rest pos) (mIfS mt ms ns) := by
  obtain ⟨tc, pc, sc⟩ := hc
  obtain ⟨ta, pa, sa⟩ := ha
  obtain ⟨tb, pb, sb⟩ := hb
  refine ⟨_, fun X h => ps_if (pc X h) (pa X h) (pb X h), fun ρ C H E σ o Z R eo hm k => ?_⟩
  obtain ⟨⟨x, C1⟩, h1, hm⟩ := obind hm
  refine sc ρ C H E σ x C1 _ R eo h1 fun ρ1 H1 R1 s1 => ?_
  cases x with
  | true => exact sa ρ1 C1 H1 E σ o Z R1 (eo.mono s1) hm (k.step s1)
  | false => exact sb ρ1 C1 H1 E σ o Z R1 (eo.mono s1) hm (k.step s1)
/-! ## targets -/
abbrev MG := D → Ev → Option Ev
def EvG (F : Fm) (g : TG) (slots : List Nat) (m : MG) : Prop := ∀ ρ C H E σ d v E' Q, RelF F ρ H C → EnvF F ρ H E σ → DVF F ρ H d v → m d E = some E' →
  (∀ σ', EnvF F ρ H E' σ' → (∀ vs : List Nat, (∀ i ∈ slots, i ∈ vs) → wipe σ' vs = wipe σ vs) → Q σ' H) → g v σ H Q
def EvGs (F : Fm) (g : TGs) (slots : List Nat) (m : List D → Ev → Option Ev) : Prop := ∀ ρ C H E σ ds vs E' Q, RelF F ρ H C → EnvF F ρ H E σ → DVsF F ρ H ds vs → m ds E = some E' →
  (∀ σ', EnvF F ρ H E' σ' → (∀ vs : List Nat, (∀ i ∈ slots, i ∈ vs) → wipe σ' vs = wipe σ vs) → Q σ' H) → g vs σ H Q
def SG (F : Fm) (e : Expr) (slots : List Nat) (m : MG) : Prop := ∃ g, (∀ X, F.Is X → PG X e g) ∧ EvG F g slots m
def SGs (F : Fm) (es : List Expr) (slots : List Nat) (m : List D → Ev → Option Ev) : Prop := ∃ g, (∀ X, F.Is X → PGs X es g) ∧ EvGs F g slots m
theorem wipe_set {σ : L2.St} {i : Nat} {z : Option V} : ∀ {vs : List Nat}, i ∈ vs → wipe (σ.set i z) vs = wipe σ vs
  | [], h => by simp at h
  | v :: vs, h => by
    by_cases hv : i ∈ vs
    · unfold wipe; rw [wipe_set hv]
    · have e : i = v := by
        rcases List.mem_cons.mp h with e | e
        · exact e
        · exact absurd e hv
      subst e
      have aux : ∀ {ws : List Nat}, i ∉ ws → wipe (σ.set i z) ws = (wipe σ ws).set i z := by
        intro ws
        induction ws with
        | nil => intro _; rfl
        | cons w ws ih =>
          intro hw
          simp only [List.mem_cons, not_or] at hw
          unfold wipe
          rw [ih hw.2, List.set_comm _ _ hw.1]
      unfold wipe
      rw [aux hv, List.set_set]
theorem EnvOk.set {K : PySem.W.Frag} {ft : Nat → Addr} {ρ : List Addr} {H : Hp} {E : Ev} {σ : L2.St} {i : Nat} {d : D} {v : V} (h : EnvOk K ft ρ H E σ) (hd : DV K ft ρ H d v) : EnvOk K ft ρ H (E.set i (some d)) (σ.set i (some v)) := by
  refine ⟨by simp [h.len], fun j z e => ?_⟩
  by_cases hj : i = j
  · subst hj
    have hi : i < E.length := by
      have := (List.getElem?_eq_some_iff.mp e).1
      simpa using this
    rw [List.getElem?_set_self hi] at e
    cases e
    exact ⟨v, List.getElem?_set_self (by rw [← h.len]; exact hi), hd⟩
  · rw [List.getElem?_set_ne hj] at e
    obtain ⟨w, q1, q2⟩ := h.at_ j z e
    exact ⟨w, by rw [List.getElem?_set_ne hj]; exact q1, q2⟩
def gN (i : Nat) : MG := fun d E => some (E.set i (some d))
theorem sg_name (i : Nat) (hN : F.N[i]? = some x := by rfl) (hx : Loc F.sc x := by first | exact Or.inl rfl | exact Or.inr rfl) (hf : F.fn x = true ∨ F.sc.names.lookup x = some .local := by first | exact .inl rfl | exact .inr rfl) : SG F (.Name x pos) [i] (gN i) := by
  refine ⟨gName i, fun X h => pg_name h.nd (by rw [h.N]; exact hN) (by rw [h.sc]; exact hx) (by rw [h.sc, h.fn]; exact hf), fun ρ C H E σ d v E' Q R eo dv hm k => ?_⟩
  cases hm
  exact k _ (eo.set dv) fun vs hs => wipe_set (hs i (by simp))
def gsNil : List D → Ev → Option Ev := fun ds E => match ds with | [] => some E | _ => none
def gsCons (m : MG) (n : List D → Ev → Option Ev) : List D → Ev → Option Ev := fun ds E => match ds with | d :: r => (m d E).bind fun E' => n r E' | [] => none
theorem sgs_nil : SGs F [] [] gsNil := by
  refine ⟨gNil, fun _ _ => pgs_nil, fun ρ C H E σ ds vs E' Q R eo dv hm k => ?_⟩
  cases dv with
  | nil => cases hm; exact ⟨rfl, k σ eo fun _ _ => rfl⟩
  | cons _ _ => cases hm
theorem sgs_cons {s1 s2 : List Nat} {m : MG} {n : List D → Ev → Option Ev} (h1 : SG F e s1 m) (h2 : SGs F es s2 n) (hs : ∀ X, F.Is X → ∀ (g : TG) (u : TGs), PG X e g → PGs X es u → PGs X (e :: es) (gCons g u) := by intro X _ g u a b; exact pgs_cons a b) : SGs F (e :: es) (s1 ++ s2) (gsCons m n) := by
  obtain ⟨g, p, q⟩ := h1
  obtain ⟨u, p2, q2⟩ := h2
  refine ⟨gCons g u, fun X h => hs X h g u (p X h) (p2 X h), fun ρ C H E σ ds vs E' Q R eo dv hm k => ?_⟩
  cases dv with
  | nil => cases hm
  | @cons d ds v vs dh dt =>
    obtain ⟨E1, e1, hm⟩ := obind hm
    refine ⟨v, vs, rfl, q ρ C H E σ d v E1 _ R eo dh e1 fun σ1 eo1 w1 => ?_⟩
    refine q2 ρ C H E1 σ1 ds vs E' _ R eo1 dt hm fun σ2 eo2 w2 => ?_
    exact k σ2 eo2 fun ws hw => (w2 ws fun i hi => hw i (List.mem_append_right _ hi)).trans (w1 ws fun i hi => hw i (List.mem_append_left _ hi))
def gT (n : Nat) (m : List D → Ev → Option Ev) : MG := fun d E => match d with | .tup ds => if ds.length = n then m ds E else none | _ => none
end
end Mi
set_option Elab.async false
set_option linter.all false
set_option maxRecDepth 100000
set_option maxHeartbeats 4000000
namespace Mi
open PySem PySem.Spec PyProof.Rows L2
section
variable {F : Fm} {X : Cx} {a b c e o tg iter value : Expr} {es : List Expr} {pos pos' p : Pos} {x y : Str} {i j : Nat} {ma mb mc me mo mv : ME} {mt mu : MT} {ml : MA} {st : Stmt} {rest sts body : List Stmt} {ms ns : MS}
theorem sg_tup {k : Nat} {slots : List Nat} {n : Nat} {m : List D → Ev → Option Ev} (h : SGs F es slots m) (hn : ∀ env : Env, (assignEach es env).length = n := by intro _; rfl) (hst : ∀ env : Env, (assignEach es env).findIdx? (·.1) = none := by intro _; rfl) : SG F (.Tuple es k pos) slots (gT n m) := by
  obtain ⟨g, q, s⟩ := h
  refine ⟨gTup F.K n g, fun X h => by have z := pg_tup (pos := pos) (k := k) h.calm (q X h) (hn _) (hst _); rw [h.K] at z; exact z, fun ρ C H E σ d v E' Q R eo dv hm kk => ?_⟩
  unfold gT at hm
  split at hm
  · rename_i ds
    split at hm
    · rename_i hl
      cases dv with
      | tup hs hd => exact ⟨_, _, rfl, hs, by rw [← hd.length]; exact hl, s ρ C H E σ ds _ E' Q R eo hd hm kk⟩
    · cases hm
  · cases hm
/-! ## assignments -/
def mAsg (me : ME) (g : MG) : MS := fun E C => (me E C).bind fun p => (g p.1 E).bind fun E' => some (.nx E' p.2)
theorem ss_set (i : Nat) (he : SE F e me) (hN : F.N[i]? = some x := by rfl) (hx : Loc F.sc x := by first | exact Or.inl rfl | exact Or.inr rfl) (hf : F.fn x = true ∨ F.sc.names.lookup x = some .local := by first | exact .inl rfl | exact .inr rfl)
    (hs : ∀ env : Env, swapsWith e (some (.Name x pos')) pos.line env = pure false := by intro _; rfl) : SS F (.Assign [.Name x pos'] e pos) (mAsg me (gN i)) := by
  obtain ⟨t, q, s⟩ := he
  refine ⟨_, fun X h => ps_set h.nd (by rw [h.N]; exact hN) (by rw [h.sc]; exact hx) (q X h) (hs _) (by rw [h.sc, h.fn]; exact hf), fun ρ C H E σ o Z R eo hm k => ?_⟩
  obtain ⟨⟨x, C1⟩, h1, hm⟩ := obind hm
  cases hm
  exact s ρ C H E σ x C1 _ R eo h1 fun ρ1 H1 v1 R1 s1 d1 => k ρ1 H1 _ R1 s1 ((eo.mono s1).set d1)
theorem ss_asg {slots : List Nat} {g : MG} (he : SE F e me) (hg : SG F tg slots g) (hs : ∀ env : Env, swapsWithSole [tg] e pos.line env = pure false := by intro _; rfl) (hw : ∀ env : Env, swappedStores [tg] e env = pure none := by intro _; rfl)
    (h1 : ∀ env : Env, (assignEach [tg] env).map (·.2) = [assign tg env] := by intro _; rfl) : SS F (.Assign [tg] e pos) (mAsg me g) := by
  obtain ⟨t, q, s⟩ := he
  obtain ⟨u, q2, s2⟩ := hg
  refine ⟨_, fun X h => ps_asg (q X h) (q2 X h) (hs _) (hw _) (h1 _), fun ρ C H E σ o Z R eo hm k => ?_⟩
  obtain ⟨⟨x, C1⟩, e1, hm⟩ := obind hm
  obtain ⟨E1, e2, hm⟩ := obind hm
  cases hm
  exact s ρ C H E σ x C1 _ R eo e1 fun ρ1 H1 v1 R1 s1 d1 => s2 ρ1 C1 H1 E σ x v1 E1 _ R1 (eo.mono s1) d1 e2 fun σ' eo' _ => k ρ1 H1 σ' R1 s1 eo'
def mPar (i j : Nat) (ml : MA) : MS := fun E C => (ml E C).bind fun p => match p.1 with | [d, e] => some (.nx ((E.set i (some d)).set j (some e)) p.2) | _ => none
theorem ss_par {px py pt pt2 : Pos} {kt k2 : Nat} (i j : Nat) (ha : SA F [a, b] ml) (hij : i ≠ j) (hN : F.N[i]? = some x := by rfl) (hM : F.N[j]? = some y := by rfl)
    (hx : F.sc.names.lookup x = some .local := by rfl) (hy : F.sc.names.lookup y = some .local := by rfl)
    (hw : ∀ env : Env, env.scope = F.sc → swappedStores [.Tuple [.Name x px, .Name y py] kt pt] (.Tuple [a, b] k2 pt2) env = pure (some [x, y]))
    (hs : ∀ env : Env, swapsWithSole [.Tuple [.Name x px, .Name y py] kt pt] (.Tuple [a, b] k2 pt2) pos.line env = pure false := by intro _; rfl) :
    SS F (.Assign [.Tuple [.Name x px, .Name y py] kt pt] (.Tuple [a, b] k2 pt2) pos) (mPar i j ml) := by
  obtain ⟨t, q, s⟩ := ha
  refine ⟨_, fun X h => ps_par h.calm h.nd (by rw [h.N]; exact hN) (by rw [h.N]; exact hM) hij (by rw [h.sc]; exact hx) (by rw [h.sc]; exact hy) (q X h) (hw _ h.sc) (hs _), fun ρ C H E σ o Z R eo hm k => ?_⟩
  obtain ⟨⟨ds, C1⟩, h1, hm⟩ := obind hm
  refine s ρ C H E σ ds C1 _ R eo h1 fun ρ1 H1 v1 R1 s1 d1 => ?_
  simp only at hm
  split at hm
  · rename_i d e
    cases hm
    cases d1 with
    | cons dh dt => cases dt with
      | cons dh2 dt2 =>
        cases dt2
        exact ⟨_, _, rfl, k ρ1 H1 _ R1 s1 (((eo.mono s1).set dh).set dh2)⟩
  · cases hm
/-- x op= e -/
def SIp (F : Fm) (op : Operator) (f : OD2) : Prop := ∃ r : TIp, (∀ X, F.Is X → PIp X op r) ∧ ∀ ρ C H x y vx vy d C' Q, RelF F ρ H C → DVF F ρ H x vx → DVF F ρ H y vy → f x y C = some (d, C') → Post F ρ H d C' Q → r vx vy H Q
def mAug (i : Nat) (f : OD2) (me : ME) : MS := fun E C => match E[i]? with
  | some (some d) => (me E C).bind fun p => (f d p.1 p.2).bind fun q => some (.nx (E.set i (some q.1)) q.2)
  | _ => none
theorem ss_aug {op : Operator} {f : OD2} (i : Nat) (ho : SIp F op f) (he : SE F e me) (hN : F.N[i]? = some x := by rfl) (hx : Loc F.sc x := by first | exact Or.inl rfl | exact Or.inr rfl) (hf : F.fn x = true ∨ F.sc.names.lookup x = some .local := by first | exact .inl rfl | exact .inr rfl) : SS F (.AugAssign (.Name x pos') op e pos) (mAug i f me) := by
  obtain ⟨r, hr, sr⟩ := ho
  obtain ⟨t, q, s⟩ := he
  refine ⟨_, fun X h => ps_aug h.nd (by rw [h.N]; exact hN) (by rw [h.sc]; exact hx) (q X h) (hr X h) (by rw [h.sc, h.fn]; exact hf), fun ρ C H E σ o Z R eo hm k => ?_⟩
  unfold mAug at hm
  split at hm
  · rename_i d q
    obtain ⟨v, q1, q2⟩ := eo.at_ i _ q
    obtain ⟨⟨x, C1⟩, h1, hm⟩ := obind hm
    obtain ⟨⟨z, C2⟩, h2, hm⟩ := obind hm
    cases hm
    refine ⟨v, q1, s ρ C H E σ x C1 _ R eo h1 fun ρ1 H1 v1 R1 s1 d1 => ?_⟩
    exact sr ρ1 C1 H1 d x v v1 z C2 _ R1 (q2.mono s1) d1 h2 fun ρ2 H2 v2 R2 s2 d2 => k ρ2 H2 _ R2 (s1.trans s2) ((eo.mono (s1.trans s2)).set d2)
  · cases hm
/-! ## what is walked -/
inductive Itm where
  | seq (ds : List D) | live (n : Nat)
def Itm.at (it : Itm) (C : Hm) (i : Nat) : Option (Option D) := match it with
  | .seq ds => some ds[i]?
  | .live n => match C[n]? with | some (.lst ds) => some ds[i]? | _ => none
abbrev MI := Ev → Hm → Option (Itm × Nat × Hm)
def ItAt (F : Fm) (ρ1 : List Addr) (H1 : Hp) (C1 : Hm) (J : It) (i : Nat) : Option D → Prop
  | none => J.stop i H1
  | some x => J.go i H1 ∧ ∀ v H', J.yld i H1 v H' → RelF F ρ1 H' C1 ∧ Stp ρ1 H1 ρ1 H' ∧ DVF F ρ1 H' x v
def ItOk (F : Fm) (ρ : List Addr) (H : Hp) (it : Itm) (J : It) : Prop := ∀ ρ1 H1 C1, RelF F ρ1 H1 C1 → Wk ρ H ρ1 H1 → ∀ i r, it.at C1 i = some r → ItAt F ρ1 H1 C1 J i r
def SI (F : Fm) (tg iter : Expr) (m : MI) : Prop := ∃ wi, (∀ X, F.Is X → PI X tg iter wi) ∧ ∀ ρ C H E σ it n C' R, RelF F ρ H C → EnvF F ρ H E σ → m E C = some (it, n, C') → (∀ ρ' H' J, RelF F ρ' H' C' → Stp ρ H ρ' H' → ItOk F ρ' H' it J → R J H') → wi σ H R
def iSeqD (d : D) (C : Hm) : Option (Itm × Nat × Hm) := match d with
  | .tup ds => some (.seq ds, ds.length, C)
  | _ => none
def iLstD (d : D) (C : Hm) : Option (Itm × Nat × Hm) := match d with
  | .cell n => match C[n]? with | some (.lst ds) => some (.live n, ds.length, C) | _ => none
  | .rol ns => some (.seq (ns.map D.int), ns.length, C)
  | _ => none
def mITup (m : ME) : MI := fun E C => (m E C).bind fun p => iSeqD p.1 p.2
def mILst (m : ME) : MI := fun E C => (m E C).bind fun p => iLstD p.1 p.2
theorem Wk.mono_dvs {ρ ρ1 : List Addr} {H H1 : Hp} {K : PySem.W.Frag} {ft : Nat → Addr} {ds : List D} {vs : List V} (h : DVs K ft ρ H ds vs) (s : Wk ρ H ρ1 H1) : DVs K ft ρ1 H1 ds vs := DVs.monoW s h
theorem itOk_tup {ρ : List Addr} {H : Hp} {a : Addr} {ds : List D} {vs : List V} (hs : SqT F.K H a vs) (hd : DVsF F ρ H ds vs) (inj : ∀ H1 xs ys, SqT F.K H1 a xs → SqT F.K H1 a ys → True) : ItOk F ρ H (.seq ds) (Itt F.K a) := by
  intro ρ1 H1 C1 R1 s1 i r hr
  simp only [Itm.at, Option.some.injEq] at hr
  have hs1 := s1.sqT hs
  have hd1 := DVs.monoW s1 hd
  subst hr
  cases q : ds[i]? with
  | none =>
    refine ⟨vs, hs1, ?_⟩
    rw [← hd1.length]
    exact List.getElem?_eq_none_iff.mp q
  | some x =>
    obtain ⟨v, e1, e2⟩ := hd1.get q
    refine ⟨⟨vs, v, hs1, e1⟩, fun w H' hy => ?_⟩
    obtain ⟨rfl, hy⟩ := hy
    have := hy vs hs1
    rw [e1] at this
    cases this
    exact ⟨R1, .refl, e2⟩
theorem si_tup (hl : SE F iter me) : SI F tg iter (mITup me) := by
  obtain ⟨t, q, s⟩ := hl
  refine ⟨iTup F.K t, fun X h => by have z := pi_tup (tg := tg) (q X h); rw [h.K] at z; exact z, fun ρ C H E σ it n C' Q R eo hm k => ?_⟩
  obtain ⟨⟨x, C1⟩, h1, hm⟩ := obind hm
  refine s ρ C H E σ x C1 _ R eo h1 fun ρ1 H1 v1 R1 s1 d1 => ?_
  simp only at hm
  unfold iSeqD at hm
  split at hm
  · rename_i ds
    cases hm
    cases d1 with
    | tup hs hd => exact ⟨_, rfl, ⟨_, hs⟩, k ρ1 H1 _ R1 s1 (itOk_tup hs hd fun _ _ _ _ _ => trivial)⟩
  · cases hm
theorem si_lst (hl : SE F iter me) : SI F tg iter (mILst me) := by
  obtain ⟨t, q, s⟩ := hl
  refine ⟨iList F.K t, fun X h => by have z := pi_list (tg := tg) (q X h); rw [h.K] at z; exact z, fun ρ C H E σ it n C' Q R eo hm k => ?_⟩
  obtain ⟨⟨x, C1⟩, h1, hm⟩ := obind hm
  refine s ρ C H E σ x C1 _ R eo h1 fun ρ1 H1 v1 R1 s1 d1 => ?_
  simp only at hm
  unfold iLstD at hm
  split at hm
  · rename_i n1
    split at hm
    · rename_i ds qc
      cases hm
      obtain ⟨a, vs, rfl, ea, e3, e4⟩ := R1.lst qc d1
      refine ⟨a, rfl, ⟨vs, SqL.of e3⟩, k ρ1 H1 _ R1 s1 ?_⟩
      intro ρ2 H2 C2 R2 s2 i r hr
      simp only [Itm.at] at hr
      split at hr
      · rename_i ds2 qc2
        cases hr
        obtain ⟨a2, vs2, e5, ea2, e6, e7⟩ := R2.lst qc2 (DV.monoW s2 d1)
        cases e5
        cases qq : ds2[i]? with
        | none => exact ⟨vs2, SqL.of e6, by rw [← e7.length]; exact List.getElem?_eq_none_iff.mp qq⟩
        | some x =>
          obtain ⟨v, e8, e9⟩ := e7.get qq
          refine ⟨⟨vs2, v, SqL.of e6, e8⟩, fun w H' hy => ?_⟩
          obtain ⟨rfl, hy⟩ := hy
          have := hy vs2 (SqL.of e6)
          rw [e8] at this
          cases this
          exact ⟨R2, .refl, e9⟩
      · cases hr
    · cases hm
  · rename_i ns1
    cases hm
    cases d1 with
    | rol h =>
      refine ⟨_, rfl, ⟨_, h.1⟩, k ρ1 H1 _ R1 s1 ?_⟩
      intro ρ2 H2 C2 R2 s2 i r hr
      simp only [Itm.at, Option.some.injEq] at hr
      have h2 := (s2.sqR h).1
      subst hr
      have e7 : DVsF F ρ2 H2 (ns1.map D.int) (ns1.map V.int) := DVs.ints ns1
      cases qq : (ns1.map D.int)[i]? with
      | none => exact ⟨_, h2, by rw [← e7.length]; exact List.getElem?_eq_none_iff.mp qq⟩
      | some x =>
        obtain ⟨v, e8, e9⟩ := e7.get qq
        refine ⟨⟨_, v, h2, e8⟩, fun w H' hy => ?_⟩
        obtain ⟨rfl, hy⟩ := hy
        have := hy _ h2
        rw [e8] at this
        cases this
        exact ⟨R2, .refl, e9⟩
  · cases hm
def rngD (lo : Int) (n : Nat) : List D := (List.range n).map fun k => D.int (lo + (k : Nat))
theorem itOk_rng {ρ : List Addr} {H : Hp} {lo : Int} {n : Nat} : ItOk F ρ H (.seq (rngD lo n)) (Itr lo n) := by
  intro ρ1 H1 C1 R1 s1 i r hr
  simp only [Itm.at, Option.some.injEq] at hr
  subst hr
  by_cases hi : i < n
  · have : (rngD lo n)[i]? = some (.int (lo + (i : Nat))) := by simp [rngD, hi]
    rw [this]
    refine ⟨hi, fun w H' hy => ?_⟩
    obtain ⟨rfl, rfl⟩ := hy
    exact ⟨R1, .refl, .int _⟩
  · have : (rngD lo n)[i]? = none := by simp [rngD]; omega
    rw [this]
    exact Nat.le_of_not_lt hi
def iRng1D (ds : List D) (C : Hm) : Option (Itm × Nat × Hm) := match ds with
  | [.int j] => if -(2 ^ 62) ≤ j ∧ j < 2 ^ 62 then some (.seq (rngD 0 j.toNat), j.toNat, C) else none
  | _ => none
def iRng2D (ds : List D) (C : Hm) : Option (Itm × Nat × Hm) := match ds with
  | [.int i, .int j] => if -(2 ^ 62) ≤ i ∧ i < 2 ^ 62 ∧ -(2 ^ 62) ≤ j ∧ j < 2 ^ 62 then some (.seq (rngD i (j - i).toNat), (j - i).toNat, C) else none
  | _ => none
def mIRng1 (ml : MA) : MI := fun E C => (ml E C).bind fun p => iRng1D p.1 p.2
def mIRng2 (ml : MA) : MI := fun E C => (ml E C).bind fun p => iRng2D p.1 p.2
theorem si_range1 {p : Pos} (hm : F.mg "range" = none) (ha : SA F [a] ml) (hg : F.sc.names.lookup (Str.ofString "range") = some .globalImplicit := by rfl) (hs : ∀ env : Env, starEach [a] env = [(false, eval a env)] := by intro _; rfl) : SI F tg (.Call (.Name "range" p) [a] [] pos) (mIRng1 ml) := by
  obtain ⟨t, q, s⟩ := ha
  refine ⟨_, fun X h => pi_range1 (h.gl hg) (by rw [h.mg]; exact hm) (q X h) (hs _), fun ρ C H E σ it n C' Q R eo hm k => ?_⟩
  obtain ⟨⟨ds, C1⟩, h1, hm⟩ := obind hm
  refine s ρ C H E σ ds C1 _ R eo h1 fun ρ1 H1 v1 R1 s1 d1 => ?_
  simp only at hm
  unfold iRng1D at hm
  split at hm
  · rename_i jv
    split at hm
    · rename_i hj
      cases hm
      cases d1 with | cons dh dt => cases dh; cases dt; exact ⟨_, rfl, hj.1, hj.2, k ρ1 H1 _ R1 s1 itOk_rng⟩
    · cases hm
  · cases hm
theorem si_range2 {p : Pos} (hm : F.mg "range" = none) (ha : SA F [a, b] ml) (hg : F.sc.names.lookup (Str.ofString "range") = some .globalImplicit := by rfl) (hs : ∀ env : Env, starEach [a, b] env = [(false, eval a env), (false, eval b env)] := by intro _; rfl) (hs2 : ∀ env : Env, starEach [b] env = [(false, eval b env)] := by intro _; rfl) :
    SI F tg (.Call (.Name "range" p) [a, b] [] pos) (mIRng2 ml) := by
  obtain ⟨t, q, s⟩ := ha
  refine ⟨_, fun X h => pi_range2 (h.gl hg) (by rw [h.mg]; exact hm) (q X h) (hs _) (hs2 _), fun ρ C H E σ it n C' Q R eo hm k => ?_⟩
  obtain ⟨⟨ds, C1⟩, h1, hm⟩ := obind hm
  refine s ρ C H E σ ds C1 _ R eo h1 fun ρ1 H1 v1 R1 s1 d1 => ?_
  simp only at hm
  unfold iRng2D at hm
  split at hm
  · rename_i iv jv
    split at hm
    · rename_i hj
      cases hm
      cases d1 with | cons dh dt => cases dh; cases dt with | cons dh dt => cases dh; cases dt; exact ⟨_, _, rfl, hj, k ρ1 H1 _ R1 s1 itOk_rng⟩
    · cases hm
  · cases hm
def strD (x : Str) : List D := x.cps.toList.map fun c => D.str ⟨#[c]⟩
def iStrD (d : D) (C : Hm) : Option (Itm × Nat × Hm) := match d with
  | .str x => some (.seq (strD x), x.cps.size, C)
  | _ => none
def mIStr (m : ME) : MI := fun E C => (m E C).bind fun p => iStrD p.1 p.2
theorem itOk_str {ρ : List Addr} {H : Hp} {x : Str} : ItOk F ρ H (.seq (strD x)) (Its x) := by
  intro ρ1 H1 C1 R1 s1 i r hr
  simp only [Itm.at, Option.some.injEq] at hr
  subst hr
  by_cases hi : i < x.cps.size
  · have : (strD x)[i]? = some (.str ⟨#[x.cps[i]]⟩) := by simp [strD, hi]
    rw [this]
    refine ⟨hi, fun w H' hy => ?_⟩
    obtain ⟨rfl, c, hc, rfl⟩ := hy
    have : x.cps[i] = c := by simpa [hi] using hc
    rw [this]
    exact ⟨R1, .refl, .str _⟩
  · have : (strD x)[i]? = none := by simp [strD]; omega
    rw [this]
    exact Nat.le_of_not_lt hi
theorem si_str (hl : SE F iter me) : SI F tg iter (mIStr me) := by
  obtain ⟨t, q, s⟩ := hl
  refine ⟨iStr t, fun X h => pi_str (q X h), fun ρ C H E σ it n C' Q R eo hm k => ?_⟩
  obtain ⟨⟨x, C1⟩, h1, hm⟩ := obind hm
  refine s ρ C H E σ x C1 _ R eo h1 fun ρ1 H1 v1 R1 s1 d1 => ?_
  simp only at hm
  unfold iStrD at hm
  split at hm
  · cases hm
    cases d1
    exact ⟨_, rfl, k ρ1 H1 _ R1 s1 itOk_str⟩
  · cases hm
/-! ## any sequence -/
def iAnyD (d : D) (C : Hm) : Option (Itm × Nat × Hm) := match d with
  | .tup ds => some (.seq ds, ds.length, C)
  | .str x => some (.seq (strD x), x.cps.size, C)
  | .cell n => match C[n]? with | some (.lst ds) => some (.live n, ds.length, C) | _ => none
  | .rol ns => some (.seq (ns.map D.int), ns.length, C)
  | _ => none
def mIAny (m : ME) : MI := fun E C => (m E C).bind fun p => iAnyD p.1 p.2
def iAnyR (K : PySem.W.Frag) (tl : TE) : TI := fun σ H R => tl σ H fun x H1 => (∃ a, x = .ref a ∧ (∃ xs, SqT K H1 a xs) ∧ R (Itt K a) H1) ∨ (∃ a, x = .ref a ∧ (∃ xs, SqL K H1 a xs) ∧ R (Itl K a) H1) ∨ ∃ z, x = .str z ∧ R (Its z) H1
/-- a value that is walked, whatever its kind: by the three rules at a name that holds it -/
theorem pi_any {X : Cx} {l : Expr} {tl : TE} (hl : PE X l tl) : PI X tg l (iAnyR X.K tl) := by
  constructor
  intro pins s σ H R I h
  refine thn (hl.run pins s σ H _ I h) fun v s1 hv => ?_
  obtain ⟨x, H1, I1, r1, q1⟩ := hv
  have pushed : ∀ (o : Obj), Inv X pins σ H1 { s1 with heap := s1.heap.push o } := fun o => I1.kept (t' := s1.toks) fun b u e => Heap.get?_push_of_some _ e
  have own : ∀ b ∈ [s1.heap.objs.size], FpOk X pins H1 b := fun b hb => by
    obtain rfl : b = s1.heap.objs.size := by simpa using hb
    exact I1.fpOk (Nat.le_refl _) I1.fresh
  rcases q1 with ⟨a, rfl, ⟨xs, hq⟩, q⟩ | ⟨a, rfl, ⟨xs, hq⟩, q⟩ | ⟨z, rfl, q⟩
  · obtain rfl : v = Value.ref a := r1
    obtain ⟨its, rv, p, hz⟩ := I1.tuple hq
    exact wpAny_pyIter_tuple (show s1.heap.IsTuple a its.toArray from p) ⟨_, [s1.heap.objs.size], _, _, H1, rfl, pushed _, turn_tuple a _, ⟨_, Heap.get?_push_size _ rfl, rfl, rfl⟩, own, q⟩
  · obtain rfl : v = Value.ref a := r1
    obtain ⟨its, rv, p, hz⟩ := I1.list hq
    exact wpAny_pyIter_list p.isList ⟨_, [s1.heap.objs.size], _, _, H1, rfl, pushed _, turn_list a _, ⟨_, Heap.get?_push_size _ rfl, rfl, rfl⟩, own, q⟩
  · obtain ⟨t, rfl⟩ := (show ∃ t, v = Value.str z t from r1)
    by_cases small : z.cps.all (· < 128) = true
    · exact wpAny_pyIter_ascii small (pi_one (tk := s1.toks) I1 _ (turn_str _ z t _ (.inl rfl)) ⟨_, Heap.get?_push_size _ rfl, rfl, rfl⟩ q)
    · exact wpAny_pyIter_wide (by simpa using small) (pi_one (tk := s1.toks) I1 _ (turn_str _ z t _ (.inr rfl)) ⟨_, Heap.get?_push_size _ rfl, rfl, rfl⟩ q)
theorem itOk_live {ρ : List Addr} {H : Hp} {n : Nat} {a : Addr} (ha : ρ[n]? = some a) : ItOk F ρ H (.live n) (Itl F.K a) := by
  intro ρ2 H2 C2 R2 s2 i r hr
  simp only [Itm.at] at hr
  split at hr
  · rename_i ds2 qc2
    cases hr
    obtain ⟨a2, vs2, e5, ea2, e6, e7⟩ := R2.lst qc2 (.cell (s2.get ha))
    cases e5
    cases qq : ds2[i]? with
    | none => exact ⟨vs2, SqL.of e6, by rw [← e7.length]; exact List.getElem?_eq_none_iff.mp qq⟩
    | some x =>
      obtain ⟨v, e8, e9⟩ := e7.get qq
      refine ⟨⟨vs2, v, SqL.of e6, e8⟩, fun w H' hy => ?_⟩
      obtain ⟨rfl, hy⟩ := hy
      have := hy vs2 (SqL.of e6)
      rw [e8] at this
      cases this
      exact ⟨R2, .refl, e9⟩
  · cases hr
theorem itOk_rol {ρ : List Addr} {H : Hp} {ns : List Int} {a : Addr} (h : SqR F.K H a (ns.map V.int)) : ItOk F ρ H (.seq (ns.map D.int)) (Itl F.K a) := by
  intro ρ2 H2 C2 R2 s2 i r hr
  simp only [Itm.at, Option.some.injEq] at hr
  have h2 := (s2.sqR h).1
  subst hr
  have e7 : DVsF F ρ2 H2 (ns.map D.int) (ns.map V.int) := DVs.ints ns
  cases qq : (ns.map D.int)[i]? with
  | none => exact ⟨_, h2, by rw [← e7.length]; exact List.getElem?_eq_none_iff.mp qq⟩
  | some x =>
    obtain ⟨v, e8, e9⟩ := e7.get qq
    refine ⟨⟨_, v, h2, e8⟩, fun w H' hy => ?_⟩
    obtain ⟨rfl, hy⟩ := hy
    have := hy _ h2
    rw [e8] at this
    cases this
    exact ⟨R2, .refl, e9⟩
theorem si_any (hl : SE F iter me) : SI F tg iter (mIAny me) := by
  obtain ⟨t, q, s⟩ := hl
  refine ⟨iAnyR F.K t, fun X h => by have z := pi_any (tg := tg) (q X h); rw [h.K] at z; exact z, fun ρ C H E σ it n C' Q R eo hm k => ?_⟩
  obtain ⟨⟨x, C1⟩, h1, hm⟩ := obind hm
  refine s ρ C H E σ x C1 _ R eo h1 fun ρ1 H1 v1 R1 s1 d1 => ?_
  simp only at hm
  unfold iAnyD at hm
  split at hm
  · cases hm
    cases d1 with
    | tup hs hd => exact .inl ⟨_, rfl, ⟨_, hs⟩, k ρ1 H1 _ R1 s1 (itOk_tup hs hd fun _ _ _ _ _ => trivial)⟩
  · cases hm
    cases d1
    exact .inr (.inr ⟨_, rfl, k ρ1 H1 _ R1 s1 itOk_str⟩)
  · split at hm
    · rename_i ds qc
      cases hm
      obtain ⟨a, vs, rfl, ea, e3, e4⟩ := R1.lst qc d1
      exact .inr (.inl ⟨a, rfl, ⟨vs, SqL.of e3⟩, k ρ1 H1 _ R1 s1 (itOk_live ea)⟩)
    · cases hm
  · cases hm
    cases d1 with
    | rol h => exact .inr (.inl ⟨_, rfl, ⟨_, h.1⟩, k ρ1 H1 _ R1 s1 (itOk_rol h)⟩)
  · cases hm
/-! ## for, while -/
def forLoop (it : Itm) (tg : MG) (body : MS) : Nat → Nat → Ev → Hm → Option Out
  | 0, _, _, _ => none
  | fuel + 1, i, E, C => (it.at C i).bind fun r => match r with
    | none => some (.nx E C)
    | some x => (tg x E).bind fun E1 => (body E1 C).bind fun o => match o with
      | .nx E2 C2 => forLoop it tg body fuel (i + 1) E2 C2
      | .ct E2 C2 => forLoop it tg body fuel (i + 1) E2 C2
      | .bk E2 C2 => some (.nx E2 C2)
      | .rt d C2 => some (.rt d C2)
def mFor (src : MI) (tg : MG) (body : MS) : MS := fun E C => (src E C).bind fun p => forLoop p.1 tg body (p.2.1 + 1) 0 E p.2.2
theorem ss_for {src : MI} {g : MG} {slots : List Nat} (hi : SI F tg iter src) (hg : SG F tg slots g) (hb : SB F body ms) (hs : ∀ (env : Env) x, foldedSetIterable iter env x = pure x := by intro _ _; rfl) : SS F (.For tg iter body [] pos) (mFor src g ms) := by
  obtain ⟨wi, pi, si⟩ := hi
  obtain ⟨gg, pg, sg⟩ := hg
  obtain ⟨tb, pb, sb⟩ := hb
  refine ⟨tFor wi gg tb, fun X h => ps_for (by rw [h.xe]; exact PassesOwn.never) h.calm (pi X h) (pg X h) (pb X h) (hs _), fun ρ C H E σ o Z R eo hm k => ?_⟩
  obtain ⟨⟨it, n, C1⟩, h1, hm⟩ := obind hm
  refine si ρ C H E σ it n C1 _ R eo h1 fun ρ0 H0 J R0 s0 ok => ?_
  simp only at hm
  refine ⟨fun i m σ' Hc => ∃ ρ1 Cc E1, RelF F ρ1 Hc Cc ∧ Stp ρ0 H0 ρ1 Hc ∧ EnvF F ρ1 Hc E1 σ' ∧ forLoop it g ms m i E1 Cc = some o, ⟨_, ρ0, C1, E, R0, .refl, eo.mono s0, hm⟩, ?_⟩
  rintro i m σ' Hc ⟨ρ1, Cc, E1, R1, s1, eo1, hf⟩
  cases m with
  | zero => cases hf
  | succ fuel =>
    unfold forLoop at hf
    obtain ⟨r, e1, hf⟩ := obind hf
    have oki := ok ρ1 Hc Cc R1 s1.wk i r e1
    cases r with
    | none =>
      cases hf
      exact .inl ⟨oki, k ρ1 Hc σ' R1 (s0.trans s1) eo1⟩
    | some x =>
      refine .inr ⟨oki.1, fun σ2 H2 => ∃ ρ2 C2 E2, RelF F ρ2 H2 C2 ∧ Stp ρ0 H0 ρ2 H2 ∧ EnvF F ρ2 H2 E2 σ2 ∧ forLoop it g ms fuel (i + 1) E2 C2 = some o, fun σ2 H2 z => ⟨fuel, Nat.lt_succ_self _, z⟩, fun v H' hy => ?_⟩
      obtain ⟨R2, s2, dv⟩ := oki.2 v H' hy
      obtain ⟨E2, e2, hf⟩ := obind hf
      obtain ⟨o1, e3, hf⟩ := obind hf
      refine sg ρ1 Cc H' E1 σ' x v E2 _ R2 (eo1.mono s2) dv e2 fun σ3 eo3 _ => ?_
      refine sb ρ1 Cc H' E2 σ3 o1 _ R2 eo3 e3 ?_
      have s3 := s1.trans s2
      cases o1 with
      | nx E4 C4 => exact fun ρ4 H4 σ4 R4 s4 eo4 => ⟨ρ4, C4, E4, R4, s3.trans s4, eo4, hf⟩
      | ct E4 C4 => exact fun ρ4 H4 σ4 R4 s4 eo4 => ⟨ρ4, C4, E4, R4, s3.trans s4, eo4, hf⟩
      | bk E4 C4 => cases hf; exact fun ρ4 H4 σ4 R4 s4 eo4 => k ρ4 H4 σ4 R4 ((s0.trans s3).trans s4) eo4
      | rt d C4 => cases hf; exact fun ρ4 H4 v4 R4 s4 d4 => k ρ4 H4 v4 R4 ((s0.trans s3).trans s4) d4
def whLoop (c : MT) (body : MS) : Nat → Ev → Hm → Option Out
  | 0, _, _ => none
  | fuel + 1, E, C => (c E C).bind fun p => if p.1 = true then (body E p.2).bind fun o => match o with
      | .nx E2 C2 => whLoop c body fuel E2 C2
      | .ct E2 C2 => whLoop c body fuel E2 C2
      | .bk E2 C2 => some (.nx E2 C2)
      | .rt d C2 => some (.rt d C2)
    else some (.nx E p.2)
theorem ss_while (n : Nat) (hc : ST F c mt) (hb : SB F body ms) : SS F (.While c body [] pos) (whLoop mt ms n) := by
  obtain ⟨tc, pc, sc⟩ := hc
  obtain ⟨tb, pb, sb⟩ := hb
  refine ⟨tWhile tc tb, fun X h => ps_while (by rw [h.xe]; exact PassesOwn.never) (pc X h) (pb X h), fun ρ C H E σ o Z R eo hm k => ?_⟩
  refine ⟨fun m σ' Hc => ∃ ρ1 Cc E1, RelF F ρ1 Hc Cc ∧ Stp ρ H ρ1 Hc ∧ EnvF F ρ1 Hc E1 σ' ∧ whLoop mt ms m E1 Cc = some o, ⟨n, ρ, C, E, R, .refl, eo, hm⟩, ?_⟩
  rintro m σ' Hc ⟨ρ1, Cc, E1, R1, s1, eo1, hf⟩
  cases m with
  | zero => cases hf
  | succ fuel =>
    unfold whLoop at hf
    obtain ⟨⟨b, C2⟩, e1, hf⟩ := obind hf
    refine sc ρ1 Cc Hc E1 σ' b C2 _ R1 eo1 e1 fun ρ2 H2 R2 s2 => ?_
    cases b with
    | false => cases hf; exact k ρ2 H2 σ' R2 (s1.trans s2) (eo1.mono s2)
    | true =>
      refine ⟨fun σ2 H2 => ∃ ρ2 C2 E2, RelF F ρ2 H2 C2 ∧ Stp ρ H ρ2 H2 ∧ EnvF F ρ2 H2 E2 σ2 ∧ whLoop mt ms fuel E2 C2 = some o, fun σ2 H2 z => ⟨fuel, Nat.lt_succ_self _, z⟩, ?_⟩
      obtain ⟨o1, e3, hf⟩ := obind (show (ms E1 C2).bind _ = some o from hf)
      refine sb ρ2 C2 H2 E1 σ' o1 _ R2 (eo1.mono s2) e3 ?_
      have s3 := s1.trans s2
      cases o1 with
      | nx E4 C4 => exact fun ρ4 H4 σ4 R4 s4 eo4 => ⟨ρ4, C4, E4, R4, s3.trans s4, eo4, hf⟩
      | ct E4 C4 => exact fun ρ4 H4 σ4 R4 s4 eo4 => ⟨ρ4, C4, E4, R4, s3.trans s4, eo4, hf⟩
      | bk E4 C4 => cases hf; exact fun ρ4 H4 σ4 R4 s4 eo4 => k ρ4 H4 σ4 R4 (s3.trans s4) eo4
      | rt d C4 => cases hf; exact fun ρ4 H4 v4 R4 s4 d4 => k ρ4 H4 v4 R4 (s3.trans s4) d4
/-! ## list comprehensions -/
def wipeE (E : Ev) : List Nat → Ev
  | [] => E
  | v :: vs => (wipeE E vs).set v none
theorem EnvOk.wipe {K : PySem.W.Frag} {ft : Nat → Addr} {ρ : List Addr} {H : Hp} {E : Ev} {σ : L2.St} (h : EnvOk K ft ρ H E σ) : ∀ vs, EnvOk K ft ρ H (wipeE E vs) (L2.wipe σ vs)
  | [] => h
  | v :: vs => by
    have ih := EnvOk.wipe h vs
    refine ⟨by simp [wipeE, L2.wipe, ih.len], fun j z e => ?_⟩
    unfold wipeE at e
    by_cases hj : v = j
    · subst hj
      have hl : v < (wipeE E vs).length := by
        have := (List.getElem?_eq_some_iff.mp e).1
        simpa using this
      rw [List.getElem?_set_self hl] at e
      cases e
    · rw [List.getElem?_set_ne hj] at e
      obtain ⟨w, q1, q2⟩ := ih.at_ j z e
      exact ⟨w, by unfold L2.wipe; rw [List.getElem?_set_ne hj]; exact q1, q2⟩
theorem wipe_idem (σ : L2.St) : ∀ vs : List Nat, L2.wipe (L2.wipe σ vs) vs = L2.wipe σ vs := by
  have key : ∀ (vs : List Nat) (τ : L2.St), (∀ i ∈ vs, i < τ.length → τ[i]? = some none) → L2.wipe τ vs = τ := by
    intro vs
    induction vs with
    | nil => intro τ _; rfl
    | cons v vs ih =>
      intro τ h
      unfold L2.wipe
      rw [ih τ fun i hi hl => h i (List.mem_cons_of_mem _ hi) hl]
      apply List.ext_getElem?
      intro j
      by_cases hj : v = j
      · subst hj
        by_cases hl : v < τ.length
        · rw [List.getElem?_set_self hl, h v List.mem_cons_self hl]
        · rw [List.getElem?_eq_none (by simp; omega), List.getElem?_eq_none (by omega)]
      · rw [List.getElem?_set_ne hj]
  have wn : ∀ (vs : List Nat) (i : Nat), i ∈ vs → i < σ.length → (L2.wipe σ vs)[i]? = some none := by
    intro vs
    induction vs with
    | nil => intro i h; simp at h
    | cons v vs ih =>
      intro i hi hl
      unfold L2.wipe
      by_cases hv : v = i
      · subst hv; rw [List.getElem?_set_self (by rw [wipe_length]; exact hl)]
      · rw [List.getElem?_set_ne hv]
        rcases List.mem_cons.mp hi with e | e
        · exact absurd e.symm hv
        · exact ih i e hl
  intro vs
  exact key vs _ fun i hi hl => wn vs i hi (by rw [wipe_length] at hl; exact hl)
def lcLoop (it : Itm) (tg : MG) (tt : MT) (elt : ME) (E : Ev) : Nat → Nat → List D → Hm → Option (List D × Hm)
  | 0, _, _, _ => none
  | fuel + 1, i, acc, C => (it.at C i).bind fun r => match r with
    | none => some (acc, C)
    | some x => (tg x E).bind fun E1 => (tt E1 C).bind fun p => if p.1 = true then (elt E1 p.2).bind fun q => if acc.length < sizeLine then lcLoop it tg tt elt E fuel (i + 1) (acc ++ [q.1]) q.2 else none
      else lcLoop it tg tt elt E fuel (i + 1) acc p.2
def mLc (src : MI) (tg : MG) (tt : MT) (elt : ME) (vs : List Nat) : ME := fun E C => (src E C).bind fun p => (lcLoop p.1 tg tt elt (wipeE E vs) (p.2.1 + 1) 0 [] p.2.2).bind fun q => some (.cell q.2.length, q.2 ++ [.lst q.1])
def SPT (F : Fm) (ifs : List Expr) (m : MT) : Prop := ∃ t, (∀ X, F.Is X → PTs X ifs t) ∧ EvT F t m
def mYes : MT := fun _ C => some (true, C)
theorem spt_nil : SPT F [] mYes := ⟨_, fun _ _ => pts_nil, fun ρ C H E σ b C' Q R eo hm k => by cases hm; exact k ρ H R .refl⟩
theorem spt_one (h : ST F c mt) : SPT F [c] mt := let ⟨t, p, s⟩ := h; ⟨_, fun X i => pts_one (p X i), s⟩
theorem Rel.other {K : PySem.W.Frag} {ft : Nat → Addr} {ρ : List Addr} {H : Hp} {C : Hm} {P : Addr} {vs : List V} {o : HO} (R : Rel K ft ρ H C) (hP : P ∉ ρ) (e : H P = some (.lst vs)) : Rel K ft ρ (upd H P o) C ∧ Wk ρ H ρ (upd H P o) := by
  have w : Wk ρ H ρ (upd H P o) := ⟨fun h => h, fun b xs q => by rw [upd_ne (show b ≠ P from fun z => by rw [z, e] at q; cases q)]; exact q, fun b ob u q => by rw [upd_ne (show b ≠ P from fun z => by rw [z, e] at q; cases q)]; exact q⟩
  refine ⟨⟨R.len, R.nd, fun n c q => ?_⟩, w⟩
  obtain ⟨a, ha, k⟩ := R.ok n c q
  have ne : a ≠ P := fun z => hP (z ▸ List.mem_of_getElem? ha)
  refine ⟨a, ha, ?_⟩
  cases c with
  | lst ds => obtain ⟨ws, q, r⟩ := k; exact ⟨ws, (upd_ne ne).trans q, DVs.monoW w r⟩
  | dic ks => obtain ⟨ws, q, r⟩ := k; exact ⟨ws, (upd_ne ne).trans q, Paired.mapP r fun p q z => ⟨z.1, DV.monoW w z.2⟩⟩
end
section
variable {F : Fm} {tg iter elt : Expr} {ifs : List Expr} {scope : Scope} {own : List (Str × Nat)} {src : MI} {g : MG} {mt : MT} {me : ME} {slots : List Nat} {pos : Pos}
theorem evl_lc {wi : TI} {gg : TG} {tt : TT} {te : TE} (si : ∀ ρ C H E σ it n C' R, RelF F ρ H C → EnvF F ρ H E σ → src E C = some (it, n, C') → (∀ ρ' H' J, RelF F ρ' H' C' → Stp ρ H ρ' H' → ItOk F ρ' H' it J → R J H') → wi σ H R)
    (sg : EvG F gg slots g) (st : EvT F tt mt) (se : EvE F te me) (vs : List Nat) (hsl : ∀ i ∈ slots, i ∈ vs) : EvE F (tLc wi gg tt te vs) (mLc src g mt me vs) := by
  intro ρ C H E σ d C' Q R eo hm k
  obtain ⟨⟨it, n, C1⟩, h1, hm⟩ := obind hm
  obtain ⟨⟨accF, CF⟩, h2, hm⟩ := obind hm
  cases hm
  simp only at h2
  refine si ρ C H E σ it n C1 _ R eo h1 fun ρ0 H0 J R0 s0 ok => ?_
  intro P hP
  have outP : ∀ {ρ1 Hc}, Stp ρ0 H0 ρ1 Hc → P ∉ ρ1 → ∀ {o}, Stp ρ0 H0 ρ1 (upd Hc P o) := fun {ρ1 Hc} s hp {o} => by
    have ne : ∀ b u, H0 b = some u → b ≠ P := fun b u e z => by rw [z, hP] at e; cases e
    exact ⟨s.pre, fun b u e hb => by rw [upd_ne (ne b u e)]; exact s.keep b u e hb, fun b u e => by rw [upd_ne (ne b u e)]; exact s.there b u e, fun b u e => by rw [upd_ne (ne _ _ e)]; exact s.tups b u e, fun b u w e => by rw [upd_ne (ne _ _ e)]; exact s.frzs b u w e⟩
  refine ⟨fun i m Hc => ∃ ρ1 Cc accD accV, RelF F ρ1 Hc Cc ∧ P ∉ ρ1 ∧ Stp ρ0 H0 ρ1 Hc ∧ Hc P = some (.lst accV) ∧ DVsF F ρ1 Hc accD accV ∧ lcLoop it g mt me (wipeE E vs) m i accD Cc = some (accF, CF),
    ⟨n + 1, ρ0, C1, [], [], R0.fresh hP, R0.out hP, Stp.fresh hP, upd_same, .nil, h2⟩, ?_⟩
  rintro i m Hc ⟨ρ1, Cc, accD, accV, R1, nP, s1, eP, dA, hf⟩
  cases m with
  | zero => cases hf
  | succ fuel =>
    unfold lcLoop at hf
    obtain ⟨r, e1, hf⟩ := obind hf
    have oki := ok ρ1 Hc Cc R1 s1.wk i r e1
    cases r with
    | none =>
      cases hf
      refine .inl ⟨oki, k (ρ1 ++ [P]) Hc (.ref P) (R1.push nP ⟨accV, eP, dA⟩) ?_ (DV.new R1)⟩
      have s := s0.trans s1
      obtain ⟨t, e, ht⟩ := s.pre
      refine ⟨⟨t ++ [P], by rw [e, List.append_assoc], fun b hb => ?_⟩, s.keep, s.there, s.tups, s.frzs⟩
      rcases List.mem_append.mp hb with z | z
      · exact ht b z
      · have z : b = P := by simpa using z
        subst z
        cases q : H b with
        | none => rfl
        | some u => obtain ⟨u', q'⟩ := s0.there b u q; rw [hP] at q'; cases q'
    | some x =>
      refine .inr ⟨oki.1, fun H2 => ∃ ρ2 C2 accD accV, RelF F ρ2 H2 C2 ∧ P ∉ ρ2 ∧ Stp ρ0 H0 ρ2 H2 ∧ H2 P = some (.lst accV) ∧ DVsF F ρ2 H2 accD accV ∧ lcLoop it g mt me (wipeE E vs) fuel (i + 1) accD C2 = some (accF, CF), fun H2 z => ⟨fuel, Nat.lt_succ_self _, z⟩, fun v H' hy => ?_⟩
      obtain ⟨R2, s2, dv⟩ := oki.2 v H' hy
      obtain ⟨E2, e2, hf⟩ := obind hf
      obtain ⟨⟨b, C3⟩, e3, hf⟩ := obind hf
      have eo2 : EnvF F ρ1 H' (wipeE E vs) (L2.wipe σ vs) := (eo.wipe vs).mono ((s0.trans s1).trans s2)
      have keepP : ∀ {ρa Ha ρb Hb accV}, Stp ρa Ha ρb Hb → P ∉ ρa → Ha P = some (.lst accV) → P ∉ ρb ∧ Hb P = some (.lst accV) := fun {ρa Ha ρb Hb accV} s hn e => by
        refine ⟨fun z => ?_, s.keep _ _ e hn⟩
        obtain ⟨t, et, ht⟩ := s.pre
        rw [et] at z
        rcases List.mem_append.mp z with z | z
        · exact hn z
        · rw [ht _ z] at e; cases e
      obtain ⟨nP2, eP2⟩ := keepP s2 nP eP
      refine sg ρ1 Cc H' (wipeE E vs) (L2.wipe σ vs) x v E2 _ R2 eo2 dv e2 fun σ3 eo3 w3 => ?_
      refine ⟨by rw [w3 vs hsl, wipe_idem], ?_⟩
      refine st ρ1 Cc H' E2 σ3 b C3 _ R2 eo3 e3 fun ρ3 H3 R3 s3 => ?_
      obtain ⟨nP3, eP3⟩ := keepP s3 nP2 eP2
      cases b with
      | false =>
        exact ⟨ρ3, C3, accD, accV, R3, nP3, (s1.trans s2).trans s3, eP3, (dA.mono s2).mono s3, hf⟩
      | true =>
        obtain ⟨⟨y, C4⟩, e4, hf⟩ := obind (show (me E2 C3).bind _ = some (accF, CF) from hf)
        simp only at hf
        split at hf
        · rename_i hlen
          refine se ρ3 C3 H3 E2 σ3 y C4 _ R3 (eo3.mono s3) e4 fun ρ4 H4 v4 R4 s4 d4 => ?_
          obtain ⟨nP4, eP4⟩ := keepP s4 nP3 eP3
          have dA4 : DVsF F ρ4 H4 accD accV := ((dA.mono s2).mono s3).mono s4
          refine ⟨accV, eP4, by rw [← dA4.length]; exact hlen, ?_⟩
          obtain ⟨R5, w5⟩ := R4.other nP4 eP4 (o := .lst (accV ++ [v4]))
          exact ⟨ρ4, C4, accD ++ [y], accV ++ [v4], R5, nP4, outP (((s1.trans s2).trans s3).trans s4) nP4, upd_same, DVs.monoW w5 (dA4.append (.cons d4 .nil)), hf⟩
        · cases hf
theorem se_lc (own : List (Str × Nat)) (hi : SI F tg iter src) (ok : BlkOk F.N F.sc scope own) (hg : SG (F.blk scope) tg slots g) (ht : SPT (F.blk scope) ifs mt) (he : SE (F.blk scope) elt me) (hsl : ∀ i ∈ slots, i ∈ own.map (·.2) := by decide)
    (hs : ∀ (env : Env) x, foldedSetIterable iter env x = pure x := by intro _ _; rfl) : SE F (.ListComp elt [⟨tg, iter, ifs, 0⟩] scope pos) (mLc src g mt me (own.map (·.2))) := by
  obtain ⟨wi, pi, si⟩ := hi
  obtain ⟨gg, pg, sg⟩ := hg
  obtain ⟨tt, pt, st⟩ := ht
  obtain ⟨te, pe, se⟩ := he
  refine ⟨tLc wi gg tt te (own.map (·.2)), fun X h => ?_, evl_lc si sg st se _ hsl⟩
  exact pe_lc h.calm h.nd (pi X h) (by rw [h.N, h.sc]; exact ok) (fun _ _ _ _ _ => pg _ h.blk) (fun _ _ _ _ _ => pt _ h.blk) (fun _ _ _ _ _ => pe _ h.blk) (hs _)
theorem ss_setLc {x : Str} {py spos : Pos} (i : Nat) (own : List (Str × Nat)) (hsw : ∀ env : Env, env.scope = F.sc → swapsWith (.ListComp elt [⟨tg, iter, ifs, 0⟩] scope pos) (some (.Name x py)) spos.line env = pure true)
    (hi : SI F tg iter src) (ok : BlkOk F.N F.sc scope own) (hg : SG (F.blk scope) tg slots g) (ht : SPT (F.blk scope) ifs mt) (he : SE (F.blk scope) elt me) (hN : F.N[i]? = some x := by rfl) (hl : F.sc.names.lookup x = some .local := by rfl) (hsl : ∀ i ∈ slots, i ∈ own.map (·.2) := by decide)
    (hs : ∀ (env : Env) x, foldedSetIterable iter env x = pure x := by intro _ _; rfl) : SS F (.Assign [.Name x py] (.ListComp elt [⟨tg, iter, ifs, 0⟩] scope pos) spos) (mAsg (mLc src g mt me (own.map (·.2))) (gN i)) := by
  obtain ⟨wi, pi, si⟩ := hi
  obtain ⟨gg, pg, sg⟩ := hg
  obtain ⟨tt, pt, st⟩ := ht
  obtain ⟨te, pe, se⟩ := he
  refine ⟨tAsg (tLc wi gg tt te (own.map (·.2))) (gName i), fun X h => ?_, fun ρ C H E σ o Z R eo hm k => ?_⟩
  · exact ps_setLc h.calm h.nd (by rw [h.N]; exact hN) (by rw [h.sc]; exact hl) (hsw _ h.sc) (pi X h) (by rw [h.N, h.sc]; exact ok) (fun _ _ _ _ _ => pg _ h.blk) (fun _ _ _ _ _ => pt _ h.blk) (fun _ _ _ _ _ => pe _ h.blk) (hs _)
  · obtain ⟨⟨x, C1⟩, h1, hm⟩ := obind hm
    cases hm
    exact evl_lc si sg st se _ hsl ρ C H E σ x C1 _ R eo h1 fun ρ1 H1 v1 R1 s1 d1 => k ρ1 H1 _ R1 s1 ((eo.mono s1).set d1)
end
end Mi
set_option Elab.async false
set_option linter.all false
set_option maxRecDepth 100000
set_option maxHeartbeats 4000000
namespace Mi
open PySem PySem.Spec PyProof.Rows L2
/-! ## a def that is called where nothing is under way -/
abbrev SpG := List V → Hp → VK → Prop
structure FnG (P : Program) (w : World) (K : PySem.W.Frag) (mg : Str → Option Value) (base : Heap) (k : Nat) (f : Addr) (fd : FuncData) (ps : List Str) (sp : SpG) : Prop where
  len : ∀ vs H Q, sp vs H Q → vs.length = ps.length
  run : ∀ (A : Around) (outer : List Env) (s : Shared) (H : Hp) (args : Args) (us : List Value) (vs : List V) (Q : VK), Room k A → A.guards = some [] → Env0 P w K mg base A outer s H → BindsTo s fd args (ps.zip us) → Vals vs us → sp vs H Q →
    codeAny (model P w) A (.call (.ref f) args) (CR CX0 outer P w H s Q E0) s
/-- a mirror: what a def makes of data -/
abbrev MF := List D → Hm → Option (D × Hm)
def spM (K : PySem.W.Frag) (ft : Nat → Addr) (n : Nat) (m : MF) : SpG := fun vs H Q => ∃ ρ C ds d C', Rel K ft ρ H C ∧ DVs K ft ρ H ds vs ∧ ds.length = n ∧ m ds C = some (d, C') ∧ ∀ ρ' H' v, Rel K ft ρ' H' C' → Stp ρ H ρ' H' → DV K ft ρ' H' d v → Q v H'
def mFn (n N : Nat) (body : MS) : MF := fun ds C => if ds.length = n then (body (ds.map some ++ List.replicate (N - n) none) C).bind fun o => match o with
  | .rt d C' => some (d, C')
  | .nx _ C' => some (.non, C')
  | _ => none else none
section
variable {P : Program} {w : World} {K : PySem.W.Frag} {mg : Str → Option Value} {base : Heap} {ft : Nat → Addr}
theorem envOk_start {ρ : List Addr} {H : Hp} : ∀ {ds : List D} {vs : List V} {N : Nat}, DVs K ft ρ H ds vs → EnvOk K ft ρ H (ds.map some ++ List.replicate N none) (vs.map some ++ List.replicate N none)
  | ds, vs, N, h => by
    refine ⟨by simp [h.length], fun i d e => ?_⟩
    by_cases hi : i < ds.length
    · rw [List.getElem?_append_left (by simpa using hi), List.getElem?_map] at e
      cases q : ds[i]? with
      | none => rw [q] at e; cases e
      | some z =>
        rw [q] at e
        cases e
        obtain ⟨v, q1, q2⟩ := h.get q
        refine ⟨v, ?_, q2⟩
        rw [List.getElem?_append_left (by simpa [← h.length] using hi), List.getElem?_map, q1]
        rfl
    · rw [List.getElem?_append_right (by simpa using hi)] at e
      have := List.mem_of_getElem? e
      simp at this
/-- where the body of a def runs -/
def fmOf (P : Program) (w : World) (K : PySem.W.Frag) (mg : Str → Option Value) (base : Heap) (ft : Nat → Addr) (st : Stmt) (N : List Str) (lv : Nat) : Fm := ⟨P, w, K, mg, base, ft, defScope st, N, lv, fun _ => true⟩
theorem fnG_of {x qual : Str} {st : Stmt} {f : Addr} {fd : FuncData} {N ps : List Str} {k : Nat} {m : MS} (F : Fun K x qual st f fd) (S : FnScope N ps (defScope st)) (hb : SB (fmOf P w K mg base ft st N k) (defBody st) m) :
    FnG P w K mg base (k + 1) f fd ps (spM K ft ps.length (mFn ps.length N.length m)) := by
  obtain ⟨t, pt, ev⟩ := hb
  refine ⟨fun vs H Q h => ?_, fun A outer s H args us vs Q hr hg e0 hbd r h => ?_⟩
  · obtain ⟨ρ, C, ds, d, C', _, h2, h3, _⟩ := h
    rw [← h2.length, h3]
  obtain ⟨oc, od, kV, doc, pm, an, cdv, ct, osl, rfl, lk, hcd⟩ := F.ex
  obtain ⟨ρ, C, ds, d, C', hR, hD, hl, hm, kk⟩ := h
  have hlv : vs.length = ps.length := by rw [← hD.length, hl]
  have inH : K.In s.heap := e0.mod.kin.keeps fun b o e => (e0.bs b o e).1
  have free : s.heap.NoLimit := e0.mod.nolimit.keeps fun b o e => (e0.bs b o e).1
  refine codeAny_call_function hr.depth (inH _ _ lk) rfl S.co S.gen rfl (PySem.W.codeRec_of inH hcd) (hbd _ _ _ _ ?_)
  refine wpAny_newFunctionEnv_cells S.kind (fun y hy => (S.par y.1 (List.of_mem_zip hy).1).elim .inl fun q => .inr ⟨q, PySem.W.cellsFrom_some _ _ _ (.inl q)⟩) fun env he s1 z => ?_
  subst he
  refine ⟨free.keeps z.toInCall.keep, codeAny_func ?_⟩
  have I := inv_start (CX := CX0) (E := E0) S hr.hd e0 hlv r z
  have is : (fmOf P w K mg base ft st N k).Is (cxOf CX0 P w K mg base N qual (defScope st) f cdv A outer s H E0).nox := ⟨rfl, rfl, rfl, rfl, rfl, rfl, rfl, rfl, S.nd, rfl, hg, hr.deeper _, rfl⟩
  have env0 : EnvF (fmOf P w K mg base ft st N k) ρ H (ds.map some ++ List.replicate (N.length - ps.length) none) (L2.start N vs) := by
    unfold L2.start
    rw [hlv]
    exact envOk_start hD
  unfold mFn at hm
  rw [if_pos hl] at hm
  obtain ⟨o, ho, hm⟩ := obind hm
  have wish : t { nx := fun _ H' => Q .non H', rt := Q } (L2.start N vs) H := by
    refine ev ρ C H _ _ o _ hR env0 ho ?_
    cases o with
    | nx E2 C2 => cases hm; exact fun ρ' H' σ' R' s' _ => kk ρ' H' .non R' s' .non
    | rt d2 C2 => cases hm; exact fun ρ' H' v R' s' dv => kk ρ' H' v R' s' dv
    | bk E2 C2 => cases hm
    | ct E2 C2 => cases hm
  have run := (pt _ is).nox.run [] s1 (L2.start N vs) H _ I wish
  refine wpAny_mono run (fun fl s' hs => ?_) fun e s' hs => hs
  cases fl with
  | ret u => obtain ⟨v, σ', H', J, rv, q⟩ := hs; exact ⟨v, H', J.os, J.bare, J.base, J.hok, rv, q⟩
  | next => obtain ⟨σ', H', J, q⟩ := hs; exact ⟨.non, H', J.os, J.bare, J.base, J.hok, rfl, q⟩
  | brk => obtain ⟨_, _, _, q⟩ := hs; exact q.elim
  | cont => obtain ⟨_, _, _, q⟩ := hs; exact q.elim
theorem FnG.mono {j k : Nat} {f : Addr} {fd : FuncData} {ps : List Str} {sp : SpG} (F : FnG P w K mg base j f fd ps sp) (h : j ≤ k) : FnG P w K mg base k f fd ps sp := ⟨F.len, fun A outer s H args us vs Q hr => F.run A outer s H args us vs Q (hr.mono h)⟩
end
/-- the callee runs -/
theorem runG {X : Cx} {k : Nat} {f : Addr} {fd : FuncData} {ps : List Str} {sp : SpG} {ds : List Value} {dvs : List V} {pins : List (Addr × Obj)} {σ : L2.St} {H : Hp} {s : Shared} {Q : VK} {us : List Value} {vs : List V} (F : FnG X.prog X.w X.K X.mg X.base k f fd ps sp) (hr : Room k X.A) (hg : X.A.guards = some []) (hb : Binds X.K fd ps ds) (hd : Vals dvs ds)
    (I : Inv X pins σ H s) (r : Vals vs us) (h : sp (vs ++ dvs) H Q) : wpAny (model X.prog X.w) X.A (call (.ref f) us) (EP X pins σ Q) X.xe s := by
  have r2 := r.append hd
  have lenOk : (us ++ ds).length = ps.length := r2.length ▸ F.len _ _ _ h
  have go := F.run X.A X.stack s H ⟨us, []⟩ (us ++ ds) (vs ++ dvs) Q hr hg I.env0 (hb s us I.kIn lenOk) r2 h
  refine wpAny_call (codeAny_mono go fun r s' hq => ?_)
  match r, hq with
  | .ok (.ret u), hq => exact I.after hq
  | .ok .next, hq => exact (show False from hq).elim
  | .ok .brk, hq => exact (show False from hq).elim
  | .ok .cont, hq => exact (show False from hq).elim
  | .error e, hq => exact (show False from hq).elim
section
variable {F : Fm} {e : Expr} {es : List Expr} {pos p : Pos} {x : Str} {i : Nat} {ml : MA}
/-- a def called by its global name -/
structure Callee (P : Program) (w : World) (K : PySem.W.Frag) (mg : Str → Option Value) (base : Heap) (ft : Nat → Addr) (x : Str) (n : Nat) (m : MF) (k : Nat) : Prop where
  ex : ∃ (f : Addr) (fd : FuncData) (ps : List Str) (ds : List Value) (dvs : List V) (dds : List D), mg x = some (.ref f) ∧ PySem.W.keepIn K (.ref f) = true ∧ Binds K fd ps ds ∧ Vals dvs ds ∧ (∀ ρ H, DVs K ft ρ H dds dvs) ∧
    ∃ m0 : MF, FnG P w K mg base k f fd ps (spM K ft ps.length m0) ∧ n + dds.length = ps.length ∧ ∀ xs C, xs.length = n → m0 (xs ++ dds) C = m xs C
def mCall (m : MF) (ml : MA) : ME := fun E C => (ml E C).bind fun q => m q.1 q.2
def tCallG (sp : SpG) (dvs : List V) (t : TA) : TE := fun σ H Q => t σ H fun vs H1 => sp (vs ++ dvs) H1 Q
theorem pe_callG {X : Cx} {k : Nat} {f : Addr} {fd : FuncData} {ps : List Str} {sp : SpG} {ds : List Value} {dvs : List V} {t : TA} (G : FnG X.prog X.w X.K X.mg X.base k f fd ps sp) (hr : Room k X.A) (hgu : X.A.guards = some []) (hg : Gl X x) (hm : X.mg x = some (.ref f)) (hk : PySem.W.keepIn X.K (.ref f) = true) (hb : Binds X.K fd ps ds) (hd : Vals dvs ds)
    (ha : PA X (e :: es) t) (hdb : (x == ("__debug__" : Str)) = false) (he : starEach (e :: es) X.env = (false, eval e X.env) :: starEach es X.env) (hpl : (backTo pos (starEach es X.env)).any (·.1) = false) : PE X (.Call (.Name x p) (e :: es) [] pos) (tCallG sp dvs t) := by
  constructor
  intro pins s σ H Q I h
  have inner := thn (ha.run pos pins s σ H _ I h) (Q' := fun us s1 => X.K.In s1.heap ∧ wpAny (model X.prog X.w) X.A (call (.ref f) us) (EP X pins σ Q) X.xe s1) fun us s1 ⟨vs, H1, I1, r, q⟩ => ⟨I1.kIn, runG G hr hgu hb hd I1 r q⟩
  exact wpAny_Call_Name_kw (ld_glob I hg hm (PySem.W.callWith_K (h₀ := X.base) I.ok.mod.kin hk inner he hpl) hdb)
theorem pe_callG0 {X : Cx} {k : Nat} {f : Addr} {fd : FuncData} {ps : List Str} {sp : SpG} {ds : List Value} {dvs : List V} (G : FnG X.prog X.w X.K X.mg X.base k f fd ps sp) (hr : Room k X.A) (hgu : X.A.guards = some []) (hg : Gl X x) (hm : X.mg x = some (.ref f)) (hk : PySem.W.keepIn X.K (.ref f) = true) (hb : Binds X.K fd ps ds) (hd : Vals dvs ds)
    (hdb : (x == ("__debug__" : Str)) = false) : PE X (.Call (.Name x p) [] [] pos) (tCallG sp dvs tNil) := by
  constructor
  intro pins s σ H Q I h
  exact wpAny_Call_Name_kw (ld_glob I hg hm (PySem.W.callWith_K0 I.kIn hk (runG (us := []) G hr hgu hb hd I .nil h)) hdb)
theorem evA_call {t : TA} {m m0 : MF} {n : Nat} {ps : List Str} {dvs : List V} {dds : List D} (sl : EvA F t ml) (hn : n + dds.length = ps.length) (hd : ∀ ρ H, DVsF F ρ H dds dvs) (hmm : ∀ xs C, xs.length = n → m0 (xs ++ dds) C = m xs C) (hlen : ∀ E C q, ml E C = some q → q.1.length = n) :
    EvE F (tCallG (spM F.K F.ft ps.length m0) dvs t) (mCall m ml) := by
  intro ρ C H E σ d C' Q R eo hm k
  obtain ⟨⟨xs, C1⟩, h1, hm⟩ := obind hm
  have hl := hlen _ _ _ h1
  refine sl ρ C H E σ xs C1 _ R eo h1 fun ρ1 H1 vs R1 s1 d1 => ?_
  refine ⟨ρ1, C1, xs ++ dds, d, C', R1, d1.append (hd ρ1 H1), by simp [hl, hn], by rw [hmm xs C1 hl]; exact hm, fun ρ' H' v R' s' dv => k ρ' H' v R' (s1.trans s') dv⟩
theorem se_call {n : Nat} {m : MF} (k : Nat) (c : Callee F.prog F.w F.K F.mg F.base F.ft x n m k) (ha : SA F (e :: es) ml) (hlen : ∀ E C q, ml E C = some q → q.1.length = n) (hk : k ≤ F.lv := by exact Nat.le_of_ble_eq_true rfl) (hg : F.sc.names.lookup x = some .globalImplicit := by rfl) (hdb : (x == ("__debug__" : Str)) = false := by decide)
    (he : ∀ env : Env, starEach (e :: es) env = (false, eval e env) :: starEach es env := by intro _; rfl) (hpl : ∀ env : Env, (backTo pos (starEach es env)).any (·.1) = false := by intro _; rfl) : SE F (.Call (.Name x p) (e :: es) [] pos) (mCall m ml) := by
  obtain ⟨f, fd, ps, ds, dvs, dds, hm, hkp, hb, hd, hdd, m0, G, hn, hmm⟩ := c.ex
  obtain ⟨t, pt, st⟩ := ha
  refine ⟨tCallG (spM F.K F.ft ps.length m0) dvs t, fun X h => ?_, evA_call st hn hdd hmm hlen⟩
  exact pe_callG (by rw [h.prog, h.w, h.K, h.mg, h.base]; exact G) (h.rm.mono hk) h.gu (h.gl hg) (by rw [h.mg]; exact hm) (by rw [h.K]; exact hkp) (by rw [h.K]; exact hb) hd (pt X h) hdb (he _) (hpl _)
theorem se_call0 {m : MF} (k : Nat) (c : Callee F.prog F.w F.K F.mg F.base F.ft x 0 m k) (hk : k ≤ F.lv := by exact Nat.le_of_ble_eq_true rfl) (hg : F.sc.names.lookup x = some .globalImplicit := by rfl) (hdb : (x == ("__debug__" : Str)) = false := by decide) : SE F (.Call (.Name x p) [] [] pos) (mCall m mNil) := by
  obtain ⟨f, fd, ps, ds, dvs, dds, hm, hkp, hb, hd, hdd, m0, G, hn, hmm⟩ := c.ex
  refine ⟨tCallG (spM F.K F.ft ps.length m0) dvs tNil, fun X h => ?_, evA_call (F := F) (fun ρ C H E σ d C' Q R eo hm k => by cases hm; exact k ρ H [] R .refl .nil) hn hdd hmm (fun E C q h => by cases h; rfl)⟩
  exact pe_callG0 (by rw [h.prog, h.w, h.K, h.mg, h.base]; exact G) (h.rm.mono hk) h.gu (h.gl hg) (by rw [h.mg]; exact hm) (by rw [h.K]; exact hkp) (by rw [h.K]; exact hb) hd hdb
/-! ## calls that keep the cells apart -/
mutual
/-- every cell within is below n, no def within -/
def D.bnd (n : Nat) : D → Bool
  | .non | .bl _ | .int _ | .str _ | .fn _ | .rol _ | .ty _ => true
  | .cell k => decide (k < n)
  | .tup ds => bnds n ds
def bnds (n : Nat) : List D → Bool
  | [] => true
  | d :: ds => d.bnd n && bnds n ds
end
def Cell.bnd (n : Nat) : Cell → Bool
  | .lst ds => bnds n ds
  | .dic kvs => kvs.all fun p => p.2.bnd n
end
section
variable {K : PySem.W.Frag} {ft : Nat → Addr} {ρ t : List Addr} {H : Hp}
mutual
theorem DV.cut : ∀ {d : D} {v : V}, DV K ft (ρ ++ t) H d v → d.bnd ρ.length = true → DV K ft ρ H d v
  | _, _, .non, _ => .non
  | _, _, .bl b, _ => .bl b
  | _, _, .int i, _ => .int i
  | _, _, .str x, _ => .str x
  | _, _, .tup h r, e => .tup h (DVs.cut r (by simpa [D.bnd] using e))
  | _, _, .cell h, e => .cell (by rw [← List.getElem?_append_left (by simpa [D.bnd] using e)]; exact h)
  | _, _, .fn n, _ => .fn n
  | _, _, .rol h, _ => .rol h
  | _, _, .ty t, _ => .ty t
theorem DVs.cut : ∀ {ds : List D} {vs : List V}, DVs K ft (ρ ++ t) H ds vs → bnds ρ.length ds = true → DVs K ft ρ H ds vs
  | _, _, .nil, _ => .nil
  | _, _, .cons h r, e => by
    simp only [bnds, Bool.and_eq_true] at e
    exact .cons (DV.cut h e.1) (DVs.cut r e.2)
end
theorem Rel.cut {C : Hm} (R : Rel K ft (ρ ++ t) H C) (hb : ∀ c ∈ C.take ρ.length, c.bnd ρ.length = true) : Rel K ft ρ H (C.take ρ.length) := by
  have hl : ρ.length ≤ C.length := by have := R.len; simp at this; omega
  refine ⟨by simp; omega, (List.nodup_append.mp R.nd).1, fun n c e => ?_⟩
  have hn : n < ρ.length := by
    have := (List.getElem?_eq_some_iff.mp e).1
    simp at this; omega
  have e' : C[n]? = some c := by rw [List.getElem?_take_of_lt hn] at e; exact e
  obtain ⟨a, ha, k⟩ := R.ok n c e'
  rw [List.getElem?_append_left hn] at ha
  have hc := hb c (List.mem_of_getElem? e)
  refine ⟨a, ha, ?_⟩
  cases c with
  | lst ds => obtain ⟨vs, q, r⟩ := k; exact ⟨vs, q, r.cut hc⟩
  | dic kvs =>
    obtain ⟨ws, q, r⟩ := k
    refine ⟨ws, q, ?_⟩
    have hc' : ∀ p ∈ kvs, p.2.bnd ρ.length = true := by simpa [Cell.bnd, List.all_eq_true] using hc
    clear q hc e' e
    induction r with
    | nil => exact .nil
    | cons z r ih => exact .cons ⟨z.1, z.2.cut (hc' _ (by simp))⟩ (ih fun p hp => hc' p (by simp [hp]))
end
/-- the cells that the call has made are let go -/
def cutC (n : Nat) (r : D × Hm) : Option (D × Hm) := if r.1.bnd n = true ∧ (r.2.take n).all (·.bnd n) = true then some (r.1, r.2.take n) else none
def mKeep (m : ME) : ME := fun E C => (m E C).bind fun r => cutC C.length r
theorem evE_keep {F : Fm} {t : TE} {m : ME} (s : EvE F t m) : EvE F t (mKeep m) := by
  intro ρ C H E σ d C' Q R eo hm k
  obtain ⟨⟨d1, C1⟩, h1, hm⟩ := obind hm
  unfold cutC at hm
  split at hm
  · rename_i hb
    cases hm
    refine s ρ C H E σ d1 C1 _ R eo h1 fun ρ1 H1 v R1 s1 dv1 => ?_
    obtain ⟨t, e, ht⟩ := s1.pre
    subst e
    have hb1 : D.bnd ρ.length d1 = true := by rw [R.len]; exact hb.1
    have hb2 : ∀ c ∈ C1.take ρ.length, c.bnd ρ.length = true := by rw [R.len]; simpa [List.all_eq_true] using hb.2
    have R2 := R1.cut hb2
    rw [R.len] at R2
    exact k ρ H1 v R2 ⟨⟨[], by simp, by simp⟩, s1.keep, s1.there, s1.tups, s1.frzs⟩ (dv1.cut hb1)
  · cases hm
theorem se_keep {F : Fm} {e : Expr} {m : ME} (h : SE F e m) : SE F e (mKeep m) := let ⟨t, p, s⟩ := h; ⟨t, p, evE_keep s⟩
end Mi
set_option Elab.async false
set_option linter.all false
set_option maxRecDepth 100000
set_option maxHeartbeats 4000000
namespace Mi
open PySem PySem.Spec PyProof.Rows L2
/-! ## data as the model's own data -/
def py (C : Hm) : Nat → D → Option PyData
  | 0, _ => none
  | n + 1, d => match d with
    | .non => some .none
    | .bl b => some (.bool b)
    | .int i => some (.int i)
    | .str x => some (.str x)
    | .tup ds => (ds.mapM (py C n)).map PyData.tuple
    | .cell k => match C[k]? with | some (.lst ds) => (ds.mapM (py C n)).map PyData.list | _ => none
    | .rol ns => some (.list (ns.map PyData.int))
    | .fn _ => none
    | .ty _ => none
theorem mapM_cons' {α β : Type} {f : α → Option β} {a : α} {l : List α} {r : List β} (h : (a :: l).mapM f = some r) : ∃ b bs, f a = some b ∧ l.mapM f = some bs ∧ r = b :: bs := by
  rw [List.mapM_cons] at h
  cases q : f a with
  | none => rw [q] at h; cases h
  | some b =>
    rw [q] at h
    cases q2 : l.mapM f with
    | none => rw [q2] at h; cases h
    | some bs => rw [q2] at h; cases h; exact ⟨b, bs, rfl, rfl, rfl⟩
section
variable {F : Fm}
theorem dp_ints {K : PySem.W.Frag} {H : Hp} : ∀ ns : List Int, DpAll K H (ns.map V.int) (ns.map PyData.int)
  | [] => .nil
  | n :: ns => .cons (.int n) (dp_ints ns)
theorem py_ok {ρ : List Addr} {H : Hp} {C : Hm} (R : RelF F ρ H C) : ∀ (n : Nat) {d : D} {v : V} {p : PyData}, DVF F ρ H d v → py C n d = some p → Dp F.K H v p
  | 0, _, _, _, _, e => by cases e
  | n + 1, d, v, p, h, e => by
    have all : ∀ {ds : List D} {vs : List V} {ps : List PyData}, DVsF F ρ H ds vs → ds.mapM (py C n) = some ps → DpAll F.K H vs ps := by
      intro ds
      induction ds with
      | nil => intro vs ps h e; cases h; cases e; exact .nil
      | cons d ds ih =>
        intro vs ps h e
        obtain ⟨b, bs, e1, e2, rfl⟩ := mapM_cons' e
        cases h with
        | cons h t => exact .cons (py_ok R n h e1) (ih t e2)
    cases d with
    | non => cases h; cases e; exact .non
    | bl b => cases h; cases e; exact .bl _
    | int b => cases h; cases e; exact .int _
    | str b => cases h; cases e; exact .str _
    | fn b => cases e
    | ty b => cases e
    | rol ns => cases h with | rol h => cases e; exact .lst h.1 (dp_ints ns)
    | tup ds =>
      unfold py at e
      simp only at e
      cases q : ds.mapM (py C n) with
      | none => rw [q] at e; cases e
      | some ps =>
        rw [q] at e
        cases e
        cases h with
        | tup hs hd => exact .tup hs (all hd q)
    | cell k =>
      unfold py at e
      simp only at e
      split at e
      · rename_i ds qc
        obtain ⟨a, vs, rfl, ea, e3, e4⟩ := R.lst qc h
        cases q : ds.mapM (py C n) with
        | none => rw [q] at e; cases e
        | some ps =>
          rw [q] at e
          cases e
          exact .lst (SqL.of e3) (all e4 q)
      · cases e
theorem Room.u64 {k : Nat} {A : Around} (r : Room k A) : A.units + 65 < cLine := by have := r.un; omega
def cmpD (f : PyData → PyData → Bool) : OD2 := fun x y C => match py C 70 x, py C 70 y with
  | some p, some q => if SeqAt.shaped p = true ∧ SeqAt.shaped q = true then some (.bl (f p q), C) else none
  | _, _ => none
theorem cmpD_some {f : PyData → PyData → Bool} {x y d : D} {C C' : Hm} (h : cmpD f x y C = some (d, C')) : ∃ p q, py C 70 x = some p ∧ py C 70 y = some q ∧ SeqAt.shaped p = true ∧ SeqAt.shaped q = true ∧ d = .bl (f p q) ∧ C' = C := by
  unfold cmpD at h
  split at h
  · rename_i p q e1 e2
    split at h
    · rename_i hs
      cases h
      exact ⟨p, q, e1, e2, hs.1, hs.2, rfl, rfl⟩
    · cases h
  · cases h
/-- two strings are compared as such -/
def cmpS (neg : Bool) (f : PyData → PyData → Bool) : OD2 := fun x y C => match x, y with
  | .str i, .str j => some (.bl (if neg = true then !(i == j) else i == j), C)
  | x, y => cmpD f x y C
abbrev dEq : OD2 := cmpS false fun p q => PyData.eqv p q
abbrev dNe : OD2 := cmpS true fun p q => !PyData.eqv p q
theorem so_eq : SOp F (compareOp .Eq) dEq := by
  refine ⟨_, fun X h => (op_eq (X := X)).or (show OpR X _ (rEqD F.K) by have z := op_eqD (X := X) h.rm.units; rw [h.K] at z; exact z), fun ρ C H x y vx vy d C' Q R hx hy hm k => ?_⟩
  unfold dEq cmpS at hm
  split at hm
  · cases hm; cases hx; cases hy
    rename_i i j
    exact .inl ⟨rfl, by rw [dec_str]; exact k.now R (.bl _)⟩
  · obtain ⟨p, q, e1, e2, s1, s2, rfl, rfl⟩ := cmpD_some hm
    exact .inr ⟨p, q, py_ok R _ hx e1, py_ok R _ hy e2, s1, s2, k.now R (.bl _)⟩
theorem so_ne : SOp F (compareOp .NotEq) dNe := by
  refine ⟨_, fun X h => (op_ne (X := X)).or (show OpR X _ (rNeD F.K) by have z := op_neD (X := X) h.rm.units; rw [h.K] at z; exact z), fun ρ C H x y vx vy d C' Q R hx hy hm k => ?_⟩
  unfold dNe cmpS at hm
  split at hm
  · cases hm; cases hx; cases hy
    rename_i i j
    exact .inl ⟨rfl, by rw [dec_str]; exact k.now R (.bl _)⟩
  · obtain ⟨p, q, e1, e2, s1, s2, rfl, rfl⟩ := cmpD_some hm
    exact .inr ⟨p, q, py_ok R _ hx e1, py_ok R _ hy e2, s1, s2, k.now R (.bl _)⟩
/-- x in a list or a tuple, by values -/
def rInS (K : PySem.W.Frag) (neg : Bool) : R2 := fun x y H Q => ∃ d ds, Dp K H x d ∧ (Dp K H y (.list ds) ∨ Dp K H y (.tuple ds)) ∧ SeqAt.shaped d = true ∧ SeqAt.shaped (.list ds) = true ∧ Q (.bl (if neg then !(ds.any fun z => PyData.eqv z d) else ds.any fun z => PyData.eqv z d)) H
theorem op_inS {X : Cx} (hu : X.A.units + 65 < cLine) : OpR X (compareOp .In) (rInS X.K false) := by
  intro pins s σ H x y v u Q I rx ry h
  obtain ⟨d, ds, hd, he, sd, se, q⟩ := h
  obtain ⟨as, r1⟩ := Dp.reads I d x v hd rx
  rcases he with he | he
  · obtain ⟨bs, r2⟩ := Dp.reads I (.list ds) y u he ry
    exact SeqAt.in_list_reads r2 r1 (SeqAt.canLay_of_shaped se) (SeqAt.canLay_of_shaped sd) (room_in_shaped sd hu) ⟨.bl _, H, I, rfl, q⟩
  · obtain ⟨bs, r2⟩ := Dp.reads I (.tuple ds) y u he ry
    exact SeqAt.in_tuple_reads r2 r1 (SeqAt.canLay_of_shaped se) (SeqAt.canLay_of_shaped sd) (room_in_shaped sd hu) ⟨.bl _, H, I, rfl, q⟩
theorem op_notInS {X : Cx} (hu : X.A.units + 65 < cLine) : OpR X (compareOp .NotIn) (rInS X.K true) := by
  intro pins s σ H x y v u Q I rx ry h
  obtain ⟨d, ds, hd, he, sd, se, q⟩ := h
  obtain ⟨as, r1⟩ := Dp.reads I d x v hd rx
  rcases he with he | he
  · obtain ⟨bs, r2⟩ := Dp.reads I (.list ds) y u he ry
    exact SeqAt.notIn_list_reads r2 r1 (SeqAt.canLay_of_shaped se) (SeqAt.canLay_of_shaped sd) (room_in_shaped sd hu) ⟨.bl _, H, I, rfl, q⟩
  · obtain ⟨bs, r2⟩ := Dp.reads I (.tuple ds) y u he ry
    exact SeqAt.notIn_tuple_reads r2 r1 (SeqAt.canLay_of_shaped se) (SeqAt.canLay_of_shaped sd) (room_in_shaped sd hu) ⟨.bl _, H, I, rfl, q⟩
def itemsP : PyData → Option (List PyData)
  | .list ds => some ds
  | .tuple ds => some ds
  | _ => none
def inD (neg : Bool) : OD2 := fun x y C => match py C 70 x, (py C 70 y).bind itemsP with
  | some p, some qs => if SeqAt.shaped p = true ∧ SeqAt.shaped (.list qs) = true then some (.bl (if neg then !(qs.any fun z => PyData.eqv z p) else qs.any fun z => PyData.eqv z p), C) else none
  | _, _ => none
theorem inD_post {neg : Bool} {ρ : List Addr} {C C' : Hm} {H : Hp} {x y d : D} {vx vy : V} {Q : VK} (R : RelF F ρ H C) (hx : DVF F ρ H x vx) (hy : DVF F ρ H y vy) (hm : inD neg x y C = some (d, C')) (k : Post F ρ H d C' Q) : rInS F.K neg vx vy H Q := by
  unfold inD at hm
  split at hm
  · rename_i p qs e1 e2
    split at hm
    · rename_i hs
      cases hm
      obtain ⟨q, e3, e4⟩ := obind e2
      refine ⟨p, qs, py_ok R _ hx e1, ?_, hs.1, hs.2, k.now R (.bl _)⟩
      have z := py_ok R _ hy e3
      cases q with
      | list l => cases e4; exact .inl z
      | tuple l => cases e4; exact .inr z
      | _ => cases e4
    · cases hm
  · cases hm
theorem so_in : SOp F (compareOp .In) (inD false) := ⟨rInS F.K false, fun X h => by have z := op_inS (X := X) (Room.u64 h.rm); rw [h.K] at z; exact z, fun ρ C H x y vx vy d C' Q R hx hy hm k => inD_post R hx hy hm k⟩
theorem so_notIn : SOp F (compareOp .NotIn) (inD true) := ⟨rInS F.K true, fun X h => by have z := op_notInS (X := X) (Room.u64 h.rm); rw [h.K] at z; exact z, fun ρ C H x y vx vy d C' Q R hx hy hm k => inD_post R hx hy hm k⟩
/-! ## order -/
def ordD (fi : Int → Int → Bool) (fs : List Nat → List Nat → Bool) : OD2 := fun x y C => match x, y with
  | .int i, .int j => some (.bl (fi i j), C)
  | .str i, .str j => some (.bl (fs i.cps.toList j.cps.toList), C)
  | _, _ => none
theorem ord_ok {op : CmpOp} {fi : Int → Int → Bool} {fs : List Nat → List Nat → Bool} (h1 : ∀ X, F.Is X → OpR X (compareOp op) (rI0 fun i j => .bl (fi i j))) (h2 : ∀ X, F.Is X → OpR X (compareOp op) (fun x y H Q => ∃ i j : Str, x = .str i ∧ y = .str j ∧ Q (.bl (fs i.cps.toList j.cps.toList)) H)) : SOp F (compareOp op) (ordD fi fs) := by
  refine ⟨_, fun X h => (h1 X h).or (h2 X h), fun ρ C H x y vx vy d C' Q R hx hy hm k => ?_⟩
  unfold ordD at hm
  split at hm
  · cases hm; cases hx; cases hy; exact .inl ⟨_, _, rfl, rfl, k.now R (.bl _)⟩
  · cases hm; cases hx; cases hy; exact .inr ⟨_, _, rfl, rfl, k.now R (.bl _)⟩
  · cases hm
abbrev dLt : OD2 := ordD (fun i j => decide (i < j)) (fun i j => decide (i < j))
abbrev dLe : OD2 := ordD (fun i j => decide (i ≤ j)) (fun i j => !decide (j < i))
abbrev dGt : OD2 := ordD (fun i j => decide (j < i)) (fun i j => decide (j < i))
abbrev dGe : OD2 := ordD (fun i j => decide (j ≤ i)) (fun i j => !decide (i < j))
theorem so_lt : SOp F (compareOp .Lt) dLt := ord_ok (fun _ _ => op_lt) fun _ _ => op_lt_str
theorem so_le : SOp F (compareOp .LtE) dLe := ord_ok (fun _ _ => op_le) fun _ _ => op_le_str
theorem so_gt : SOp F (compareOp .Gt) dGt := ord_ok (fun _ _ => op_gt) fun _ _ => op_gt_str
theorem so_ge : SOp F (compareOp .GtE) dGe := ord_ok (fun _ _ => op_ge) fun _ _ => op_ge_str
def isNonD : D → Bool
  | .non => true
  | _ => false
theorem isNon_ok {ρ : List Addr} {H : Hp} {d : D} {v : V} (h : DVF F ρ H d v) : decide (v = .non) = isNonD d := by
  cases h <;> simp [isNonD]
def isD (neg : Bool) : OD2 := fun x y C => match y with
  | .non => some (.bl (if neg then !isNonD x else isNonD x), C)
  | _ => none
theorem so_is : SOp F (compareOp .Is) (isD false) := by
  refine ⟨_, fun X h => op_isN, fun ρ C H x y vx vy d C' Q R hx hy hm k => ?_⟩
  unfold isD at hm
  split at hm
  · cases hm; cases hy; exact ⟨rfl, by rw [isNon_ok hx]; exact k.now R (.bl _)⟩
  · cases hm
theorem so_isnot : SOp F (compareOp .IsNot) (isD true) := by
  refine ⟨_, fun X h => op_notN, fun ρ C H x y vx vy d C' Q R hx hy hm k => ?_⟩
  unfold isD at hm
  split at hm
  · cases hm; cases hy; exact ⟨rfl, by rw [isNon_ok hx]; exact k.now R (.bl _)⟩
  · cases hm
/-! ## arithmetic, joining -/
def b2z (b : Bool) : Int := if b = true then 1 else 0
theorem op_add_bi {X : Cx} : OpR X (binaryOp .Add) (fun x y H Q => ∃ k i, x = .bl k ∧ y = .int i ∧ Q (.int ((if k = true then 1 else 0) + i)) H) := by
  intro pins s σ H x y v u Q I rx ry h
  obtain ⟨k, i, rfl, rfl, q⟩ := h
  obtain ⟨t, rfl⟩ := ry
  cases rx
  exact PySem.IntBool.add_bool_int ⟨.int _, H, I.tok _, ⟨_, rfl⟩, q⟩
theorem op_sub_bi {X : Cx} : OpR X (binaryOp .Sub) (fun x y H Q => ∃ k i, x = .bl k ∧ y = .int i ∧ Q (.int ((if k = true then 1 else 0) - i)) H) := by
  intro pins s σ H x y v u Q I rx ry h
  obtain ⟨k, i, rfl, rfl, q⟩ := h
  obtain ⟨t, rfl⟩ := ry
  cases rx
  exact PySem.IntBool.sub_bool_int ⟨.int _, H, I.tok _, ⟨_, rfl⟩, q⟩
theorem op_sub_ib {X : Cx} : OpR X (binaryOp .Sub) (fun x y H Q => ∃ i k, x = .int i ∧ y = .bl k ∧ Q (.int (i - (if k = true then 1 else 0))) H) := by
  intro pins s σ H x y v u Q I rx ry h
  obtain ⟨i, k, rfl, rfl, q⟩ := h
  obtain ⟨t, rfl⟩ := rx
  cases ry
  exact PySem.IntBool.sub_int_bool ⟨.int _, H, I.tok _, ⟨_, rfl⟩, q⟩
def addD : OD2 := fun x y C => match x, y with
  | .int i, .int j => some (.int (i + j), C)
  | .bl k, .int j => some (.int (b2z k + j), C)
  | .str i, .str j => if i.length + j.length ≤ sizeLine then some (.str (i ++ j), C) else none
  | .tup a, .tup b => if a.length + b.length ≤ sizeLine then some (.tup (a ++ b), C) else none
  | .cell m, .cell n => match C[m]?, C[n]? with
    | some (.lst a), some (.lst b) => if a.length + b.length ≤ sizeLine then some (.cell C.length, C ++ [.lst (a ++ b)]) else none
    | _, _ => none
  | _, _ => none
theorem so_add : SOp F (binaryOp .Add) addD := by
  refine ⟨_, fun X h => (op_add.or (op_add_bi.or (op_add_str.or ((show OpR X (binaryOp .Add) (rCatA F.K) by rw [← h.K]; exact op_catA).or op_cat)))), fun ρ C H x y vx vy d C' Q R hx hy hm k => ?_⟩
  unfold addD at hm
  split at hm
  · cases hm; cases hx; cases hy; exact .inl ⟨_, _, rfl, rfl, k.now R (.int _)⟩
  · cases hm; cases hx; cases hy; exact .inr (.inl ⟨_, _, rfl, rfl, k.now R (.int _)⟩)
  · split at hm
    · rename_i hl
      cases hm; cases hx; cases hy; exact .inr (.inr (.inl ⟨_, _, rfl, rfl, hl, k.now R (.str _)⟩))
    · cases hm
  · split at hm
    · rename_i a b hl
      cases hm
      cases hx with | tup h1 h2 => cases hy with | tup h3 h4 =>
        rename_i ax vsx ay vsy
        have e2 := h2.length
        have e4 := h4.length
        refine .inr (.inr (.inr (.inl ⟨_, _, _, _, rfl, rfl, h1, h3, by omega, fun z => ?_, fun _ z => ?_, fun _ _ p hp => ?_⟩)))
        · subst z
          cases h2
          exact k.now R (.tup h3 h4)
        · subst z
          cases h4
          rw [List.append_nil] at k
          exact k.now R (.tup h1 h2)
        · exact k ρ _ _ (R.fresh hp) (Stp.fresh hp) (.tup (SqT.of upd_same) ((h2.append h4).mono (Stp.fresh hp)))
    · cases hm
  · split at hm
    · rename_i m n a b c1 c2
      split at hm
      · rename_i hl
        cases hm
        obtain ⟨p, vs, rfl, ep, e3, e4⟩ := R.lst c1 hx
        obtain ⟨q, ws, rfl, eq, e5, e6⟩ := R.lst c2 hy
        have l4 := e4.length
        have l6 := e6.length
        refine .inr (.inr (.inr (.inr ⟨_, _, _, _, rfl, rfl, e3, e5, by omega, fun r hr => ?_⟩)))
        exact k _ _ _ (R.newL hr (e4.append e6)) (Stp.push hr) (DV.new R)
      · cases hm
    · cases hm
  · cases hm
def subD : OD2 := fun x y C => match x, y with
  | .int i, .int j => some (.int (i - j), C)
  | .bl k, .int j => some (.int (b2z k - j), C)
  | .int i, .bl k => some (.int (i - b2z k), C)
  | _, _ => none
theorem so_sub : SOp F (binaryOp .Sub) subD := by
  refine ⟨_, fun X h => op_sub.or (op_sub_bi.or op_sub_ib), fun ρ C H x y vx vy d C' Q R hx hy hm k => ?_⟩
  unfold subD at hm
  split at hm
  · cases hm; cases hx; cases hy; exact .inl ⟨_, _, rfl, rfl, k.now R (.int _)⟩
  · cases hm; cases hx; cases hy; exact .inr (.inl ⟨_, _, rfl, rfl, k.now R (.int _)⟩)
  · cases hm; cases hx; cases hy; exact .inr (.inr ⟨_, _, rfl, rfl, k.now R (.int _)⟩)
  · cases hm
def mulOk (i j : Int) : Bool := decide ((-(2 ^ 64) < i ∧ i < 2 ^ 64) ∨ (-(2 ^ 64) < j ∧ j < 2 ^ 64))
def mulD : OD2 := fun x y C => match x, y with
  | .int i, .int j => if mulOk i j = true then some (.int (i * j), C) else none
  | .cell m, .int k => match C[m]? with
    | some (.lst a) => if -(2 ^ 63) ≤ k ∧ k < 2 ^ 63 ∧ a.length * k.toNat ≤ sizeLine then some (.cell C.length, C ++ [.lst (List.replicate k.toNat a).flatten]) else none
    | _ => none
  | .tup a, .int k => if a ≠ [] ∧ 2 ≤ k ∧ k ≤ 1000 ∧ a.length ≤ 1000 then some (.tup (List.replicate k.toNat a).flatten, C) else none
  | _, _ => none
theorem DVs.rep {K : PySem.W.Frag} {ft : Nat → Addr} {ρ : List Addr} {H : Hp} {ds : List D} {vs : List V} (h : DVs K ft ρ H ds vs) : ∀ n : Nat, DVs K ft ρ H (List.replicate n ds).flatten (List.replicate n vs).flatten
  | 0 => .nil
  | n + 1 => by simp only [List.replicate_succ, List.flatten_cons]; exact h.append (DVs.rep h n)
theorem so_mul : SOp F (binaryOp .Mult) mulD := by
  refine ⟨_, fun X h => op_mul.or (op_rep.or (show OpR X (binaryOp .Mult) (rRepT F.K) by rw [← h.K]; exact op_repT)), fun ρ C H x y vx vy d C' Q R hx hy hm k => ?_⟩
  unfold mulD at hm
  split at hm
  · split at hm
    · rename_i hc
      cases hm; cases hx; cases hy
      have hc' := of_decide_eq_true hc
      exact .inl ⟨_, _, rfl, rfl, hc', k.now R (.int _)⟩
    · cases hm
  · split at hm
    · rename_i m z a c1
      split at hm
      · rename_i hc
        cases hm; cases hy
        obtain ⟨p, vs, rfl, ep, e3, e4⟩ := R.lst c1 hx
        have l4 := e4.length
        refine .inr (.inl ⟨_, _, _, rfl, rfl, e3, hc.1, hc.2.1, by rw [← l4]; exact hc.2.2, fun r hr => ?_⟩)
        exact k _ _ _ (R.newL hr (e4.rep _)) (Stp.push hr) (DV.new R)
      · cases hm
    · cases hm
  · split at hm
    · rename_i a z hc
      cases hm; cases hy
      cases hx with | tup h1 h2 =>
        have l2 := h2.length
        refine .inr (.inr ⟨_, _, _, rfl, rfl, h1, fun q => ?_, hc.2.1, hc.2.2.1, by rw [← l2]; exact hc.2.2.2, fun p hp => ?_⟩)
        · subst q; exact hc.1 (List.length_eq_zero_iff.mp (by simpa using l2))
        · exact k ρ _ _ (R.fresh hp) (Stp.fresh hp) (.tup (SqT.of upd_same) ((h2.rep _).mono (Stp.fresh hp)))
    · cases hm
  · cases hm
def intD (c : Int → Int → Bool) (f : Int → Int → Int) : OD2 := fun x y C => match x, y with
  | .int i, .int j => if c i j = true then some (.int (f i j), C) else none
  | _, _ => none
theorem int_ok {g : Value → Value → Sem Value} {c : Int → Int → Bool} {f : Int → Int → Int} {P : Int → Int → Prop} (h : ∀ X, F.Is X → OpR X g (rI P fun i j => .int (f i j))) (hc : ∀ i j, c i j = true → P i j) : SOp F g (intD c f) := by
  refine ⟨_, h, fun ρ C H x y vx vy d C' Q R hx hy hm k => ?_⟩
  unfold intD at hm
  split at hm
  · split at hm
    · rename_i q
      cases hm; cases hx; cases hy
      exact ⟨_, _, rfl, rfl, hc _ _ q, k.now R (.int _)⟩
    · cases hm
  · cases hm
abbrev modD : OD2 := intD (fun _ j => decide (j ≠ 0)) fun i j => i.fmod j
abbrev fdivD : OD2 := intD (fun _ j => decide (j ≠ 0 ∧ j.natAbs < 1073741824)) fun i j => i.fdiv j
abbrev powD : OD2 := intD (fun i j => decide (0 ≤ j ∧ j ≤ 1000000 ∧ i.natAbs < 2 ^ 64)) fun i j => i ^ j.toNat
abbrev shlD : OD2 := intD (fun i j => decide (0 ≤ j ∧ j ≤ 1000000 ∧ i.natAbs < 2 ^ 64)) fun i j => i * 2 ^ j.toNat
abbrev shrD : OD2 := intD (fun _ j => decide (0 ≤ j)) fun i j => i / 2 ^ j.toNat
theorem so_mod : SOp F (binaryOp .Mod) modD := int_ok (fun _ _ => op_modN) fun i j q => by have z := of_decide_eq_true q; exact z
theorem so_fdiv : SOp F (binaryOp .FloorDiv) fdivD := int_ok (fun _ _ => op_fdivN) fun i j q => by have z := of_decide_eq_true q; exact z
theorem so_pow : SOp F (binaryOp .Pow) powD := int_ok (fun _ _ => op_pow) fun i j q => by have z := of_decide_eq_true q; exact z
theorem so_shl : SOp F (binaryOp .LShift) shlD := int_ok (fun _ _ => op_shl) fun i j q => by have z := of_decide_eq_true q; exact z
theorem so_shr : SOp F (binaryOp .RShift) shrD := int_ok (fun _ _ => op_shr) fun i j q => by have z := of_decide_eq_true q; exact z
def int0D (f : Int → Int → Int) : OD2 := fun x y C => match x, y with
  | .int i, .int j => some (.int (f i j), C)
  | _, _ => none
theorem int0_ok {g : Value → Value → Sem Value} {f : Int → Int → Int} (h : ∀ X, F.Is X → OpR X g (rI0 fun i j => .int (f i j))) : SOp F g (int0D f) := by
  refine ⟨_, h, fun ρ C H x y vx vy d C' Q R hx hy hm k => ?_⟩
  unfold int0D at hm
  split at hm
  · cases hm; cases hx; cases hy; exact ⟨_, _, rfl, rfl, k.now R (.int _)⟩
  · cases hm
theorem so_band : SOp F (binaryOp .BitAnd) (int0D Builtin.bitAnd) := int0_ok fun _ _ => op_and
theorem so_bor : SOp F (binaryOp .BitOr) (int0D Builtin.bitOr) := int0_ok fun _ _ => op_or
def negD : OD1 := fun x C => match x with | .int i => some (.int (-i), C) | _ => none
theorem su_neg : SUn F (unaryOp .USub) negD := by
  refine ⟨_, fun X h => un_neg, fun ρ C H x vx d C' Q R hx hm k => ?_⟩
  unfold negD at hm
  split at hm
  · cases hm; cases hx; exact ⟨_, rfl, k.now R (.int _)⟩
  · cases hm
theorem sp_of {op : Operator} {f : OD2} (h : SOp F (inplaceOp op) f) : SIp F op f := by
  obtain ⟨r, hr, s⟩ := h
  exact ⟨r, fun X i => fun pins s σ H x y v u Q I rx ry q => hr X i pins s σ H x y v u Q I rx ry q, s⟩
theorem sip_add : SIp F .Add (int0D fun i j => i + j) := sp_of (int0_ok fun _ _ => iop_add)
theorem sip_sub : SIp F .Sub (int0D fun i j => i - j) := sp_of (int0_ok fun _ _ => iop_sub)
/-! ## subscripts, slices -/
def codeD (c : Nat) : D := .str ⟨#[c]⟩
def ixD : OD2 := fun x y C => match y with
  | .int i => match x with
    | .tup ds => (atI ds i).map fun d => (d, C)
    | .rol ns => (atI ns i).map fun d => (.int d, C)
    | .cell n => match C[n]? with | some (.lst ds) => (atI ds i).map fun d => (d, C) | _ => none
    | .str z => if z.length ≤ sizeLine then (atI z.cps.toList i).map fun c => (codeD c, C) else none
    | _ => none
  | _ => none
theorem atI_dvs {K : PySem.W.Frag} {ft : Nat → Addr} {ρ : List Addr} {H : Hp} {ds : List D} {vs : List V} {i : Int} {d : D} (h : DVs K ft ρ H ds vs) (e : atI ds i = some d) : ∃ v, atI vs i = some v ∧ DV K ft ρ H d v := by
  unfold atI at e ⊢
  rw [h.length] at e
  cases q : ixN vs.length i with
  | none => rw [q] at e; cases e
  | some j =>
    rw [q] at e
    exact h.get e
theorem omap {α β : Type} {o : Option α} {f : α → β} {z : β} (h : o.map f = some z) : ∃ y, o = some y ∧ f y = z := by
  cases o with
  | none => cases h
  | some y => exact ⟨y, rfl, by simpa using h⟩
theorem six : SIx F ixD := by
  refine ⟨rIx F.K, fun X h => by have z := ix_seq (X := X); rw [h.K] at z; exact z, fun ρ C H x y vx vy d C' Q R hx hy hm k => ?_⟩
  unfold ixD at hm
  split at hm
  · rename_i i
    cases hy
    split at hm
    · obtain ⟨e, q1, q2⟩ := omap hm
      cases q2
      cases hx with | tup h1 h2 =>
        obtain ⟨v, e1, e2⟩ := atI_dvs h2 q1
        exact .inr (.inl ⟨_, _, _, _, rfl, rfl, h1, e1, k.now R e2⟩)
    · obtain ⟨e, q1, q2⟩ := omap hm
      cases q2
      cases hx with | rol h1 =>
        obtain ⟨v, e1, e2⟩ := atI_dvs (K := F.K) (ft := F.ft) (ρ := ρ) (H := H) (d := .int e) (i := i) (DVs.ints _) (by
          unfold atI at q1 ⊢
          rw [List.length_map]
          cases q : ixN _ i with
          | none => rw [q] at q1; cases q1
          | some j =>
            rw [q] at q1
            have q2 : _ = some e := q1
            show (List.map D.int _)[j]? = _
            rw [List.getElem?_map]
            exact (congrArg (Option.map D.int) q2))
        exact .inl ⟨_, _, _, _, rfl, rfl, h1.1, e1, k.now R e2⟩
    · split at hm
      · rename_i c1
        obtain ⟨e, q1, q2⟩ := omap hm
        cases q2
        obtain ⟨p, vs, rfl, ep, e3, e4⟩ := R.lst c1 hx
        obtain ⟨v, e1, e2⟩ := atI_dvs e4 q1
        exact .inl ⟨_, _, _, _, rfl, rfl, SqL.of e3, e1, k.now R e2⟩
      · cases hm
    · split at hm
      · rename_i z hl
        obtain ⟨e, q1, q2⟩ := omap hm
        cases q2
        cases hx
        exact .inr (.inr ⟨_, _, _, rfl, rfl, hl, q1, k.now R (.str _)⟩)
      · cases hm
    · cases hm
  · cases hm
def cutD (xs : List D) (lo hi : Option Int) : List D := (xs.drop (HT.sIx xs.length 0 lo)).take (HT.sIx xs.length xs.length hi - HT.sIx xs.length 0 lo)
theorem cut_dvs {K : PySem.W.Frag} {ft : Nat → Addr} {ρ : List Addr} {H : Hp} {ds : List D} {vs : List V} (lo hi : Option Int) (h : DVs K ft ρ H ds vs) : DVs K ft ρ H (cutD ds lo hi) (cutV vs lo hi) := by
  unfold cutD cutV
  rw [h.length]
  exact (h.drop _).take _
def slD : ODS := fun x lo hi C => match x with
  | .tup ds => some (.tup (cutD ds lo hi), C)
  | .rol ns => some (.cell C.length, C ++ [.lst (cutD (ns.map D.int) lo hi)])
  | .cell n => match C[n]? with | some (.lst ds) => some (.cell C.length, C ++ [.lst (cutD ds lo hi)]) | _ => none
  | .str z => if z.length ≤ sizeLine then some (.str (Txt.slice z lo hi), C) else none
  | _ => none
theorem cut_whole {α : Type} (ds : List α) {a b : Nat} (h1 : a = 0) (h2 : b = ds.length) : (ds.drop a).take (b - a) = ds := by subst h1; subst h2; simp
theorem ssl : SSl F slD := by
  refine ⟨_, fun X h => ((show SlR X (rSlA F.K) by rw [← h.K]; exact sl_tupA).or ((show SlR X (rSlL F.K) by rw [← h.K]; exact sl_list).or C8.sl_txt)), fun ρ C H x lo hi vx d C' Q R hx hm k => ?_⟩
  unfold slD at hm
  split at hm
  · cases hm
    cases hx with | tup h1 h2 =>
      refine .inl ⟨_, _, rfl, h1, fun z => ?_, fun _ p hp => ?_⟩
      · have e := cut_dvs lo hi h2
        have e2 : cutV _ lo hi = _ := cut_whole _ z.1 z.2
        rw [e2] at e
        exact k.now R (.tup h1 e)
      · exact k ρ _ _ (R.fresh hp) (Stp.fresh hp) (.tup (SqT.of upd_same) ((cut_dvs lo hi h2).mono (Stp.fresh hp)))
  · cases hm
    cases hx with | rol h1 =>
      refine .inr (.inl ⟨_, _, rfl, h1.1, fun p hp => ?_⟩)
      exact k _ _ _ (R.newL hp (cut_dvs lo hi (DVs.ints _))) (Stp.push hp) (DV.new R)
  · split at hm
    · rename_i c1
      cases hm
      obtain ⟨p, vs, rfl, ep, e3, e4⟩ := R.lst c1 hx
      refine .inr (.inl ⟨_, _, rfl, SqL.of e3, fun p hp => ?_⟩)
      exact k _ _ _ (R.newL hp (cut_dvs lo hi e4)) (Stp.push hp) (DV.new R)
    · cases hm
  · split at hm
    · rename_i hl
      cases hm; cases hx
      exact .inr (.inr ⟨_, rfl, hl, k.now R (.str _)⟩)
    · cases hm
  · cases hm
end
end Mi
set_option Elab.async false
set_option linter.all false
set_option maxRecDepth 100000
set_option maxHeartbeats 4000000
namespace Mi
open PySem PySem.Spec PyProof.Rows L2
section
variable {F : Fm} {pos : Pos} {x : Str}
/-- a built-in type's name as a value -/
theorem se_ty (t : Ky) (hm : F.mg x = none) (hv : bootBuiltins x = some (.type t.nm)) (hg : F.sc.names.lookup x = some .globalImplicit := by rfl) (hn : x ≠ "__name__" := by decide) (hd : (x == ("__debug__" : Str)) = false := by decide) : SE F (.Name x pos) (mC (.ty t)) :=
  ⟨tC (.ty t.nm), fun X h => pe_bltn (h.gl hg) (by rw [h.mg]; exact hm) hv (show _ = _ from rfl) hn hd, fun ρ C H E σ d C' Q R eo hm k => by cases hm; exact k.now R (.ty _)⟩
def kyD (C : Hm) : D → Option Ky
  | .non => some .non
  | .bl _ => some .bl
  | .int _ => some .int
  | .str _ => some .str
  | .tup _ => some .tup
  | .rol _ => some .lst
  | .cell n => match C[n]? with | some (.lst _) => some .lst | some (.dic _) => some .dic | none => none
  | _ => none
theorem kyD_ok {ρ : List Addr} {H : Hp} {C : Hm} {d : D} {v : V} {t : Ky} (R : RelF F ρ H C) (h : DVF F ρ H d v) (e : kyD C d = some t) : TyX F.K H v (.type t.nm) := by
  have lst : ∀ {a xs}, SqL F.K H a xs → TyX F.K H (.ref a) (.type "list") := fun {a xs} q => by
    rcases q with (q | ⟨o, q⟩) | ⟨o, its, n, hk, hc, _⟩
    · exact .base (.lst q)
    · exact .base (.frz q)
    · exact .kList hk hc
  cases h with
  | non => cases e; exact .base .non
  | bl b => cases e; exact .base (.bl b)
  | int b => cases e; exact .base (.int b)
  | str b => cases e; exact .base (.str b)
  | tup h _ =>
    cases e
    rcases h with (q | ⟨o, q⟩) | ⟨o, its, n, hk, hc, _⟩
    · exact .base (.tup q)
    · exact .fTuple q
    · exact .kTuple hk hc
  | rol h => cases e; exact lst h.1
  | fn n => cases e
  | ty t => cases e
  | @cell n a h =>
    unfold kyD at e
    simp only at e
    split at e
    · rename_i ds q
      cases e
      obtain ⟨a', vs, e1, e2, e3, e4⟩ := R.lst q (.cell h)
      cases e1
      exact .base (.lst e3)
    · rename_i ds q
      cases e
      obtain ⟨a', vs, e1, e2, e3, e4⟩ := R.dic q (.cell h)
      cases e1
      exact .base (.dK e3)
    · cases e
def isiK : Ky → Ky → Bool
  | .bl, .int => true
  | .non, .non => true
  | .bl, .bl => true
  | .int, .int => true
  | .str, .str => true
  | .tup, .tup => true
  | .lst, .lst => true
  | .dic, .dic => true
  | _, _ => false
theorem isiK_ok (a b : Ky) (hb : b ≠ .non) : kitB a.nm b.nm = some (isiK a b) := by
  cases a <;> cases b <;> first | exact absurd rfl hb | decide +kernel
def notNon : Ky → Bool
  | .non => false
  | _ => true
def isiD : ODL := fun xs C => match xs with
  | [x, .ty t] => match kyD C x with
    | some k => if notNon t = true then some (.bl (isiK k t), C) else none
    | none => none
  | _ => none
theorem sc_isi : SCall F (.builtin "isinstance") isiD := by
  refine ⟨rIsi F.K, fun X h => by have z := call_isi (X := X); rw [h.K] at z; exact z, fun ρ C H xs vs d C' Q R hx hm k => ?_⟩
  unfold isiD at hm
  split at hm
  · rename_i x t
    split at hm
    · rename_i kk q
      split at hm
      · rename_i hn
        cases hm
        cases hx with | cons h1 h2 => cases h2 with | cons h3 h4 => cases h4; cases h3; exact ⟨_, _, _, _, _, rfl, .ty _, kyD_ok R h1 q, kit_ty (isiK_ok kk t (by intro e; subst e; cases hn)), k.now R (.bl _)⟩
      · cases hm
    · cases hm
  · cases hm
def lenD : ODL := fun xs C => match xs with
  | [.str z] => if z.length ≤ sizeLine then some (.int z.length, C) else none
  | [.tup ds] => some (.int ds.length, C)
  | [.rol ds] => some (.int ds.length, C)
  | [.cell n] => match C[n]? with | some (.lst ds) => some (.int ds.length, C) | _ => none
  | _ => none
theorem sc_len : SCall F (.builtin "len") lenD := by
  refine ⟨fun xs H Q => ∃ x n, xs = [x] ∧ LenV F.K x H n ∧ Q (.int n) H, fun X h => by have z := call_len (X := X); rw [h.K] at z; exact z, fun ρ C H xs vs d C' Q R hx hm k => ?_⟩
  unfold lenD at hm
  split at hm
  · split at hm
    · rename_i hl
      cases hm
      cases hx with | cons h1 h2 => cases h2; cases h1; exact ⟨_, _, rfl, ⟨hl, rfl⟩, k.now R (.int _)⟩
    · cases hm
  · cases hm
    cases hx with | cons h1 h2 => cases h2; cases h1 with | tup h3 h4 => exact ⟨_, _, rfl, .inr ⟨_, h3, rfl⟩, by rw [← h4.length]; exact k.now R (.int _)⟩
  · cases hm
    cases hx with | cons h1 h2 => cases h2; cases h1 with | rol h3 => exact ⟨_, _, rfl, .inl ⟨_, h3.1, rfl⟩, by rw [List.length_map]; exact k.now R (.int _)⟩
  · split at hm
    · rename_i ds q
      cases hm
      cases hx with | cons h1 h2 =>
        cases h2
        obtain ⟨p, vs, rfl, ep, e3, e4⟩ := R.lst q h1
        exact ⟨_, _, rfl, .inl ⟨_, SqL.of e3, rfl⟩, by rw [← e4.length]; exact k.now R (.int _)⟩
    · cases hm
  · cases hm
/-- the truth values of a list of them -/
def blsOf : List D → Option (List Bool)
  | [] => some []
  | .bl b :: ds => (blsOf ds).map (b :: ·)
  | _ :: _ => none
theorem blsOf_ok {K : PySem.W.Frag} {ft : Nat → Addr} {ρ : List Addr} {H : Hp} : ∀ {ds : List D} {vs : List V} {bs : List Bool}, DVs K ft ρ H ds vs → blsOf ds = some bs → vs = bs.map V.bl
  | [], _, _, .nil, e => by cases e; rfl
  | d :: ds, _, bs, .cons h t, e => by
    cases d with
    | bl b =>
      obtain ⟨cs, e1, e2⟩ := omap (show (blsOf ds).map (b :: ·) = some bs from e)
      cases e2
      cases h
      rw [blsOf_ok t e1]
      rfl
    | _ => cases e
def allD (f : List Bool → Bool) : ODL := fun xs C => match xs with
  | [.cell n] => match C[n]? with | some (.lst ds) => (blsOf ds).map fun bs => (.bl (f bs), C) | _ => none
  | _ => none
theorem allD_ok {id : String} {f : List Bool → Bool} (h : ∀ X, F.Is X → CallR X (.builtin id) (fun vs H Q => ∃ (a : Addr) (bs : List Bool), vs = [V.ref a] ∧ SqL F.K H a (bs.map V.bl) ∧ Q (.bl (f bs)) H)) : SCall F (.builtin id) (allD f) := by
  refine ⟨_, h, fun ρ C H xs vs d C' Q R hx hm k => ?_⟩
  unfold allD at hm
  split at hm
  · split at hm
    · rename_i ds q
      obtain ⟨bs, e1, e2⟩ := omap hm
      cases e2
      cases hx with | cons h1 h2 =>
        cases h2
        obtain ⟨p, vs, rfl, ep, e3, e4⟩ := R.lst q h1
        exact ⟨_, _, rfl, by rw [← blsOf_ok e4 e1]; exact SqL.of e3, k.now R (.bl _)⟩
    · cases hm
  · cases hm
theorem sc_all : SCall F (.builtin "all") (allD fun bs => bs.all id) := allD_ok fun X h => by have z := cr_all (X := X) h.calm; unfold rAll at z; rw [h.K] at z; exact z
theorem sc_any : SCall F (.builtin "any") (allD fun bs => bs.any id) := allD_ok fun X h => by have z := cr_any (X := X) h.calm; unfold rAny at z; rw [h.K] at z; exact z
def ordC : ODL := fun xs C => match xs with
  | [.str z] => if z.length = 1 then some (.int (z.cps.getD 0 0 : Nat), C) else none
  | _ => none
theorem sc_ord : SCall F (.builtin "ord") ordC := by
  refine ⟨_, fun X h => call_ord, fun ρ C H xs vs d C' Q R hx hm k => ?_⟩
  unfold ordC at hm
  split at hm
  · split at hm
    · rename_i hl
      cases hm
      cases hx with | cons h1 h2 => cases h2; cases h1; exact ⟨_, rfl, hl, k.now R (.int _)⟩
    · cases hm
  · cases hm
def intC : ODL := fun xs C => match xs with
  | [.int i] => some (.int i, C)
  | [.bl b] => some (.int (if b then 1 else 0), C)
  | _ => none
theorem sc_int : SCall F (.type "int") intC := by
  refine ⟨_, fun X h => call_int1, fun ρ C H xs vs d C' Q R hx hm k => ?_⟩
  unfold intC at hm
  split at hm
  · cases hm; cases hx with | cons h1 h2 => cases h2; cases h1; exact .inl ⟨_, rfl, k.now R (.int _)⟩
  · cases hm; cases hx with | cons h1 h2 => cases h2; cases h1; exact .inr ⟨_, rfl, k.now R (.int _)⟩
  · cases hm
/-! ## repr -/
def rRepr (K : PySem.W.Frag) : List V → Hp → VK → Prop := fun vs H Q => ∃ v p, vs = [v] ∧ Dp K H v p ∧ p.showable = true ∧ p.depth ≤ 64 ∧ p.shown.length ≤ sizeLine ∧ Q (.str p.shown) H
theorem dp_nodict {K : PySem.W.Frag} {H : Hp} : (∀ {v : V} {p : PyData}, Dp K H v p → p.hasDict = false) ∧ ∀ {vs : List V} {ps : List PyData}, DpAll K H vs ps → PyData.hasDictAll ps = false := by
  have a : ∀ {v : V} {p : PyData}, Dp K H v p → p.hasDict = false := by
    intro v p h
    induction h using Dp.rec (motive_2 := fun vs ps _ => PyData.hasDictAll ps = false) with
    | non => rfl
    | bl b => rfl
    | int i => rfl
    | str x => rfl
    | lst _ _ ih => exact ih
    | tup _ _ ih => exact ih
    | nil => rfl
    | cons _ _ a b => simp only [PyData.hasDictAll, a, b, Bool.or_self]
  refine ⟨a, fun {vs ps} h => ?_⟩
  induction ps generalizing vs with
  | nil => rfl
  | cons p ps ih => cases h with | cons h t => simp only [PyData.hasDictAll, a h, ih t, Bool.or_self]
theorem call_repr {X : Cx} (hg : X.A.guards = some []) (hu : X.A.units + 66 < cLine) : CallR X (.builtin "repr") (rRepr X.K) := by
  intro pins s σ H xs us Q I r h
  obtain ⟨v, p, rfl, hd, sh, dp, hl, q⟩ := h
  obtain ⟨u, rfl, rv⟩ := vals1 r
  obtain ⟨as, rd⟩ := Dp.reads I p v u hd rv
  have nd := dp_nodict.1 hd
  cases hd with
  | non => cases (show u = Value.none from rv); exact PySem.P.repr_of_none ⟨.str _, H, I.tok _, ⟨_, rfl⟩, q⟩
  | bl b => cases (show u = Value.bool b from rv); exact PySem.P.repr_of_bool ⟨.str _, H, I.tok _, ⟨_, rfl⟩, q⟩
  | int i =>
    obtain ⟨t, e⟩ := (show ∃ t, u = Value.int i t from rv)
    subst e
    exact PySem.P.repr_of_int (of_decide_eq_true sh) ⟨.str _, H, I.tok _, ⟨_, rfl⟩, q⟩
  | str y =>
    obtain ⟨t, e⟩ := (show ∃ t, u = Value.str y t from rv)
    subst e
    exact PySem.P.repr_of_str ⟨.str _, H, I.tok _, ⟨_, rfl⟩, q⟩ hl
  | lst _ _ =>
    cases rv
    exact repr_of_reads' rd sh (fun e => by rw [nd] at e; cases e) hg (by omega) (fun _ _ e => e) (fun h' t tk kp => ⟨.str _, H, I.kept (t' := tk) kp, ⟨_, rfl⟩, q⟩) hl
  | tup _ _ =>
    cases rv
    exact repr_of_reads' rd sh (fun e => by rw [nd] at e; cases e) hg (by omega) (fun _ _ e => e) (fun h' t tk kp => ⟨.str _, H, I.kept (t' := tk) kp, ⟨_, rfl⟩, q⟩) hl
def reprD : ODL := fun xs C => match xs with
  | [x] => match py C 70 x with
    | some p => if p.showable = true ∧ p.depth ≤ 64 ∧ p.shown.length ≤ sizeLine then some (.str p.shown, C) else none
    | none => none
  | _ => none
theorem Room.u66 {k : Nat} {A : Around} (r : Room k A) : A.units + 66 < cLine := by have := r.un; omega
theorem sc_repr : SCall F (.builtin "repr") reprD := by
  refine ⟨rRepr F.K, fun X h => by have z := call_repr h.gu (Room.u66 h.rm); rw [h.K] at z; exact z, fun ρ C H xs vs d C' Q R hx hm k => ?_⟩
  unfold reprD at hm
  split at hm
  · split at hm
    · rename_i p e
      split at hm
      · rename_i hc
        cases hm
        cases hx with | cons h1 h2 => cases h2; exact ⟨_, _, rfl, py_ok R _ h1 e, hc.1, hc.2.1, hc.2.2, k.now R (.str _)⟩
      · cases hm
    · cases hm
  · cases hm
/-! ## list, tuple, sorted, str -/
def seqOf (C : Hm) : D → Option (List D)
  | .tup ds => some ds
  | .rol ns => some (ns.map D.int)
  | .cell n => match C[n]? with | some (.lst ds) => some ds | _ => none
  | _ => none
theorem seqOf_ok {ρ : List Addr} {H : Hp} {C : Hm} {d : D} {v : V} {ds : List D} (R : RelF F ρ H C) (h : DVF F ρ H d v) (e : seqOf C d = some ds) : ∃ a vs, v = .ref a ∧ (SqL F.K H a vs ∨ SqT F.K H a vs) ∧ DVsF F ρ H ds vs := by
  cases d with
  | tup ds => cases e; cases h with | tup h1 h2 => exact ⟨_, _, rfl, .inr h1, h2⟩
  | rol ns => cases e; cases h with | rol h1 => exact ⟨_, _, rfl, .inl h1.1, DVs.ints _⟩
  | cell n =>
    unfold seqOf at e
    simp only at e
    split at e
    · rename_i ds q
      cases e
      obtain ⟨p, vs, rfl, ep, e3, e4⟩ := R.lst q h
      exact ⟨_, _, rfl, .inl (SqL.of e3), e4⟩
    · cases e
  | _ => cases e
def listD : ODL := fun xs C => match xs with
  | [x] => (seqOf C x).map fun ds => (.cell C.length, C ++ [.lst ds])
  | _ => none
theorem sc_list : SCall F (.type "list") listD := by
  refine ⟨fun xs H Q => ∃ p ys, xs = [.ref p] ∧ (SqL F.K H p ys ∨ SqT F.K H p ys) ∧ ∀ l, H l = none → Q (.ref l) (upd H l (.lst ys)), fun X h => by have z := call_list_of (X := X); rw [h.K] at z; exact z, fun ρ C H xs vs d C' Q R hx hm k => ?_⟩
  unfold listD at hm
  split at hm
  · obtain ⟨ds, e1, e2⟩ := omap hm
    cases e2
    cases hx with | cons h1 h2 =>
      cases h2
      obtain ⟨a, vs, rfl, hs, hd⟩ := seqOf_ok R h1 e1
      exact ⟨_, _, rfl, hs, fun p hp => k _ _ _ (R.newL hp hd) (Stp.push hp) (DV.new R)⟩
  · cases hm
def tupleD : ODL := fun xs C => match xs with
  | [x] => (seqOf C x).map fun ds => (.tup ds, C)
  | _ => none
theorem sc_tuple : SCall F (.type "tuple") tupleD := by
  refine ⟨fun xs H Q => ∃ p ys, xs = [.ref p] ∧ ((SqL F.K H p ys ∧ ∀ l, H l = none → Q (.ref l) (upd H l (.tup ys))) ∨ (SqT F.K H p ys ∧ Q (.ref p) H)), fun X h => by have z := call_tuple_of (X := X); rw [h.K] at z; exact z, fun ρ C H xs vs d C' Q R hx hm k => ?_⟩
  unfold tupleD at hm
  split at hm
  · obtain ⟨ds, e1, e2⟩ := omap hm
    cases e2
    cases hx with | cons h1 h2 =>
      cases h2
      obtain ⟨a, vs, rfl, hs, hd⟩ := seqOf_ok R h1 e1
      refine ⟨_, vs, rfl, ?_⟩
      rcases hs with hs | hs
      · exact .inl ⟨hs, fun p hp => k ρ _ _ (R.fresh hp) (Stp.fresh hp) (.tup (SqT.of upd_same) (hd.mono (Stp.fresh hp)))⟩
      · exact .inr ⟨hs, k.now R (.tup hs hd)⟩
  · cases hm
end
end Mi
set_option Elab.async false
set_option linter.all false
set_option maxRecDepth 100000
set_option maxHeartbeats 4000000
namespace Mi
open PySem PySem.Spec PyProof.Rows L2
section
variable {F : Fm} {a b c e o tg iter value : Expr} {es : List Expr} {pos pos' p : Pos} {x y : Str} {i j : Nat} {ma mb mc me mo mv mi : ME} {mt mu : MT} {ml : MA}
/-! ## dicts -/
def keyD : D → Option Key
  | .int i => some (.inl i)
  | .str x => some (.inr x)
  | _ => none
theorem keyD_ok {ρ : List Addr} {H : Hp} {d : D} {v : V} {k : Key} (h : DVF F ρ H d v) (e : keyD d = some k) : v = kV k := by
  cases h <;> cases e <;> rfl
def valD (kvs : List (Key × D)) (k : Key) : Option D := (kvs.find? fun kv => decide (kv.1 = k)).map (·.2)
def putD (kvs : List (Key × D)) (k : Key) (v : D) : List (Key × D) := if (valD kvs k).isSome = true then kvs.map fun kv => if kv.1 = k then (kv.1, v) else kv else kvs ++ [(k, v)]
abbrev DKs (F : Fm) (ρ : List Addr) (H : Hp) : List (Key × D) → List (Key × V) → Prop := Paired fun (p : Key × D) (q : Key × V) => p.1 = q.1 ∧ DVF F ρ H p.2 q.2
theorem valD_ok {ρ : List Addr} {H : Hp} {k : Key} : ∀ {kvs : List (Key × D)} {ws : List (Key × V)}, DKs F ρ H kvs ws → (∀ d, valD kvs k = some d → ∃ v, valV ws k = some v ∧ DVF F ρ H d v) ∧ (valD kvs k = none → valV ws k = none)
  | _, _, .nil => ⟨(fun d h => by simp [valD] at h), (fun _ => rfl)⟩
  | p :: kvs, q :: ws, .cons h t => by
    have ih := valD_ok (k := k) t
    by_cases hk : p.1 = k
    · have hq : q.1 = k := h.1 ▸ hk
      refine ⟨fun d e => ?_, fun e => ?_⟩
      · rw [valV_pos hq]
        have e' : valD (p :: kvs) k = some p.2 := by simp [valD, List.find?_cons, hk]
        rw [e'] at e
        cases e
        exact ⟨_, rfl, h.2⟩
      · simp [valD, List.find?_cons, hk] at e
    · have hq : ¬ q.1 = k := h.1 ▸ hk
      have e' : valD (p :: kvs) k = valD kvs k := by simp [valD, List.find?_cons, hk]
      rw [e', valV_neg hq]
      exact ih
theorem putD_ok {ρ : List Addr} {H : Hp} {k : Key} {d : D} {v : V} {kvs : List (Key × D)} {ws : List (Key × V)} (h : DKs F ρ H kvs ws) (hd : DVF F ρ H d v) : DKs F ρ H (putD kvs k d) (putK ws k v) := by
  have hv := valD_ok (k := k) h
  unfold putD putK
  rw [valV_any]
  have snoc : ∀ {kvs : List (Key × D)} {ws : List (Key × V)}, DKs F ρ H kvs ws → DKs F ρ H (kvs ++ [(k, d)]) (ws ++ [(k, v)]) := by
    intro kvs ws h
    induction h with
    | nil => exact .cons ⟨rfl, hd⟩ .nil
    | cons z _ ih => exact .cons z ih
  have repl : ∀ {kvs : List (Key × D)} {ws : List (Key × V)}, DKs F ρ H kvs ws → DKs F ρ H (kvs.map fun kv => if kv.1 = k then (kv.1, d) else kv) (ws.map fun kv => if kv.1 = k then (kv.1, v) else kv) := by
    intro kvs ws h
    induction h with
    | nil => exact .nil
    | @cons p q _ _ z _ ih =>
      refine .cons ?_ ih
      by_cases hk : p.1 = k
      · dsimp only; rw [if_pos hk, if_pos (z.1 ▸ hk)]; exact ⟨z.1, hd⟩
      · dsimp only; rw [if_neg hk, if_neg (z.1 ▸ hk)]; exact z
  cases q : valD kvs k with
  | none =>
    rw [hv.2 q]
    simp only [Option.isSome_none, Bool.false_eq_true, if_false]
    exact snoc h
  | some z =>
    obtain ⟨w, e1, _⟩ := hv.1 z q
    rw [e1]
    simp only [Option.isSome_some, if_true]
    exact repl h
def dgetD : OD2 := fun x y C => match x with
  | .cell n => match C[n]? with | some (.dic kvs) => (keyD y).bind fun k => (valD kvs k).map fun d => (d, C) | _ => none
  | _ => none
theorem Room.u1 {k : Nat} {A : Around} (r : Room k A) : A.units + 1 < cLine := by have := r.un; omega
theorem se_dget (ho : SE F o mo) (hi : SE F e mi) (hs : NoSl e := by intro _ _; rfl) : SE F (.Subscript o e pos) (mBin dgetD mo mi) := by
  obtain ⟨to, po, so⟩ := ho
  obtain ⟨ti, pi, si⟩ := hi
  refine ⟨_, fun X h => pe_dget (Room.u1 h.rm) (po X h) (pi X h) hs, fun ρ C H E σ d C' Q R eo hm k => ?_⟩
  obtain ⟨⟨x, C1⟩, h1, hm⟩ := obind hm
  obtain ⟨⟨y, C2⟩, h2, hm⟩ := obind hm
  refine so ρ C H E σ x C1 _ R eo h1 fun ρ1 H1 v1 R1 s1 d1 => ?_
  refine si ρ1 C1 H1 E σ y C2 _ R1 (eo.mono s1) h2 fun ρ2 H2 v2 R2 s2 d2 => ?_
  simp only at hm
  unfold dgetD at hm
  split at hm
  · split at hm
    · rename_i kvs q
      obtain ⟨kk, e1, hm⟩ := obind hm
      obtain ⟨z, e2, e3⟩ := omap hm
      cases e3
      obtain ⟨p, ws, rfl, ep, e4, e5⟩ := R2.dic q (d1.mono s2)
      obtain ⟨v, e6, e7⟩ := (valD_ok (k := kk) e5).1 _ e2
      rw [keyD_ok d2 e1]
      exact ⟨p, v, rfl, by rw [← e6]; exact DGet.k e4, (k.step (s1.trans s2)).now R2 e7⟩
    · cases hm
  · cases hm
def mDPut (mv mo mi : ME) : MS := fun E C => (mv E C).bind fun r => (mo E r.2).bind fun p => (mi E p.2).bind fun q => match p.1 with
  | .cell n => match q.2[n]? with
    | some (.dic kvs) => (keyD q.1).bind fun k => if kvs.length < sizeLine then some (.nx E (q.2.set n (.dic (putD kvs k r.1)))) else none
    | _ => none
  | _ => none
theorem DKs.len {ρ : List Addr} {H : Hp} {kvs : List (Key × D)} {ws : List (Key × V)} (h : DKs F ρ H kvs ws) : kvs.length = ws.length := Paired.length h
theorem ss_dput (ho : SE F o mo) (hi : SE F e mi) (hv : SE F value mv) (hs : ∀ env : Env, swapsWith value (some (.Subscript o e pos')) pos.line env = pure false := by intro _; rfl) : SS F (.Assign [.Subscript o e pos'] value pos) (mDPut mv mo mi) := by
  obtain ⟨to, po, so⟩ := ho
  obtain ⟨ti, pi, si⟩ := hi
  obtain ⟨tv, pv, sv⟩ := hv
  refine ⟨_, fun X h => ps_dput (Room.u1 h.rm) (po X h) (pi X h) (pv X h) (hs _), fun ρ C H E σ o Z R eo hm k => ?_⟩
  obtain ⟨⟨r, C0⟩, h0, hm⟩ := obind hm
  obtain ⟨⟨x, C1⟩, h1, hm⟩ := obind hm
  obtain ⟨⟨y, C2⟩, h2, hm⟩ := obind hm
  refine sv ρ C H E σ r C0 _ R eo h0 fun ρ0 H0 v0 R0 s0 d0 => ?_
  refine so ρ0 C0 H0 E σ x C1 _ R0 (eo.mono s0) h1 fun ρ1 H1 v1 R1 s1 d1 => ?_
  refine si ρ1 C1 H1 E σ y C2 _ R1 (eo.mono (s0.trans s1)) h2 fun ρ2 H2 v2 R2 s2 d2 => ?_
  simp only at hm
  split at hm
  · split at hm
    · rename_i n kvs q
      obtain ⟨kk, e1, hm⟩ := obind hm
      split at hm
      · rename_i hl
        cases hm
        obtain ⟨p, ws, rfl, ep, e4, e5⟩ := R2.dic q (d1.mono s2)
        rw [keyD_ok d2 e1]
        have st := Stp.write (o := .dK (putK ws kk v0)) R2 ep q
        refine ⟨p, _, rfl, DPut.k e4 (by rw [← DKs.len e5]; exact hl), ?_⟩
        have s := ((s0.trans s1).trans s2).trans st
        refine k ρ2 _ σ (R2.write ep q ⟨_, upd_same, ?_⟩) s (eo.mono s)
        exact Paired.mapP (putD_ok e5 (d0.mono (s1.trans s2))) fun p q z => ⟨z.1, z.2.mono st⟩
      · cases hm
    · cases hm
  · cases hm
/-- {'a': e, ..} with written texts as keys -/
def SDs (F : Fm) (pos : Pos) (ks : List (Option Expr)) (vs : List Expr) (names : List Str) (m : MA) : Prop := ∃ trs, (∀ X, F.Is X → PPs X pos ks vs trs) ∧ ∀ ρ C H E σ ds C' Q, RelF F ρ H C → EnvF F ρ H E σ → m E C = some (ds, C') →
  (∀ ρ' H' vs, RelF F ρ' H' C' → Stp ρ H ρ' H' → DVsF F ρ' H' ds vs → ds.length = names.length → Q ((names.map V.str).zip vs) H') → tPairs trs σ H Q
theorem sds_nil : SDs F pos [] [] [] mNil := ⟨[], fun _ _ => pps_nil, fun ρ C H E σ ds C' Q R eo hm k => by cases hm; exact k ρ H [] R .refl .nil rfl⟩
theorem sds_cons {z : Str} {n : Nat} {kp : Pos} {ks : List (Option Expr)} {vs : List Expr} {names : List Str} {m : MA} (he : SE F e me) (hr : SDs F pos ks vs names m) : SDs F pos (some (.Constant (.str z) n kp) :: ks) (e :: vs) (z :: names) (mCons me m) := by
  obtain ⟨t, p, s⟩ := he
  obtain ⟨trs, q, r⟩ := hr
  refine ⟨(tC (.str z), t) :: trs, fun X h => pps_cons pe_str (p X h) (q X h), fun ρ C H E σ ds C' Q R eo hm k => ?_⟩
  obtain ⟨⟨x, C1⟩, h1, hm⟩ := obind hm
  obtain ⟨⟨ys, C2⟩, h2, hm⟩ := obind hm
  cases hm
  refine s ρ C H E σ x C1 _ R eo h1 fun ρ1 H1 v1 R1 s1 d1 => ?_
  refine r ρ1 C1 H1 E σ ys C2 _ R1 (eo.mono s1) h2 fun ρ2 H2 vs R2 s2 d2 hl => ?_
  exact k ρ2 H2 (v1 :: vs) R2 (s1.trans s2) (.cons (d1.mono s2) d2) (by simp [hl])
def mDisp (names : List Str) (m : MA) : ME := fun E C => (m E C).bind fun p => some (.cell p.2.length, p.2 ++ [.dic ((names.zip p.1).map fun q => (Sum.inr q.1, q.2))])
theorem merge_new : ∀ (more kvs : List (Key × V)), (kvs.map (·.1) ++ more.map (·.1)).Nodup → mergeK kvs more = kvs ++ more
  | [], kvs, _ => by simp [mergeK]
  | p :: more, kvs, h => by
    have hn : valV kvs p.1 = none := by
      cases q : valV kvs p.1 with
      | none => rfl
      | some v =>
        have : p.1 ∈ kvs.map (·.1) := by
          unfold valV at q
          cases r : kvs.find? (fun kv => decide (kv.1 = p.1)) with
          | none => rw [r] at q; cases q
          | some kv =>
            have h1 := List.find?_some r
            have h2 := List.mem_of_find?_eq_some r
            exact List.mem_map.mpr ⟨kv, h2, of_decide_eq_true h1⟩
        rw [List.nodup_append] at h
        exact absurd rfl (h.2.2 p.1 this p.1 (by simp))
    have e : mergeK kvs (p :: more) = mergeK (putK kvs p.1 p.2) more := rfl
    rw [e, putK_new _ hn, merge_new more (kvs ++ [(p.1, p.2)]) (by simpa using h)]
    simp
theorem se_disp {ks : List (Option Expr)} {vs : List Expr} {names : List Str} {m : MA} (h : SDs F pos ks vs names m) (hall : ks.all (·.isSome) = true) (hl : ks.length = vs.length) (h0 : ks ≠ []) (h15 : ks.length ≤ 15) (hn : names.Nodup) (hc : names.length ≤ 15) : SE F (.Dict ks vs pos) (mDisp names m) := by
  obtain ⟨trs, q, r⟩ := h
  refine ⟨tDisp trs, fun X h => pe_disp (q X h) hall hl h0 h15, fun ρ C H E σ d C' Q R eo hm k => ?_⟩
  obtain ⟨⟨ds, C1⟩, h1, hm⟩ := obind hm
  cases hm
  intro P hP
  refine r ρ C (upd H P (.dK [])) E σ ds C1 _ (R.fresh hP) (eo.mono (Stp.fresh hP)) h1 fun ρ1 H1 vs R1 s1 d1 hlen => ?_
  have nP : P ∉ ρ := R.out hP
  have eP : H1 P = some (.dK []) := s1.keep P _ upd_same nP
  have nP1 : P ∉ ρ1 := fun z => by
    obtain ⟨t, et, ht⟩ := s1.pre
    rw [et] at z
    rcases List.mem_append.mp z with z | z
    · exact nP z
    · have := ht P z; rw [upd_same] at this; cases this
  have lv : vs.length = names.length := by rw [← d1.length, hlen]
  have zipEq : (names.map V.str).zip vs = ((names.zip vs).map fun q => ((Sum.inr q.1 : Key), q.2)).map fun kv => (kV kv.1, kv.2) := by
    rw [List.map_map, List.zip_map_left]
    rfl
  refine ⟨eP, (names.zip vs).map fun q => ((Sum.inr q.1 : Key), q.2), zipEq, by rw [List.length_map, List.length_zip, lv]; omega, ?_⟩
  have mg : mergeK [] ((names.zip vs).map fun q => ((Sum.inr q.1 : Key), q.2)) = (names.zip vs).map fun q => ((Sum.inr q.1 : Key), q.2) := by
    rw [merge_new]
    · rfl
    · have e : ((names.zip vs).map fun q => ((Sum.inr q.1 : Key), q.2)).map (·.1) = names.map fun z => (Sum.inr z : Key) := by
        rw [List.map_map]
        have : (names.zip vs).map ((fun z => (Sum.inr z : Key)) ∘ Prod.fst) = names.map fun z => (Sum.inr z : Key) := by
          rw [← List.map_map, List.map_fst_zip (by omega)]
        exact this
      simp only [List.map_nil, List.nil_append, e]
      exact List.Pairwise.map _ (fun a b hab q => hab (Sum.inr.inj q)) hn
  rw [mg]
  have w1 : Wk ρ1 H1 ρ1 (upd H1 P (.dK ((names.zip vs).map fun q => ((Sum.inr q.1 : Key), q.2)))) := ⟨fun h => h, fun b xs e => by rw [upd_ne (show b ≠ P from fun z => by rw [z, eP] at e; cases e)]; exact e, fun b ob u e => by rw [upd_ne (show b ≠ P from fun z => by rw [z, eP] at e; cases e)]; exact e⟩
  have R2 : RelF F ρ1 (upd H1 P (.dK ((names.zip vs).map fun q => ((Sum.inr q.1 : Key), q.2)))) C1 := by
    refine ⟨R1.len, R1.nd, fun n c q => ?_⟩
    obtain ⟨a, ha, kk⟩ := R1.ok n c q
    have ne : a ≠ P := fun z => nP1 (z ▸ List.mem_of_getElem? ha)
    refine ⟨a, ha, ?_⟩
    cases c with
    | lst ds => obtain ⟨ws, q, r⟩ := kk; exact ⟨ws, (upd_ne ne).trans q, DVs.monoW w1 r⟩
    | dic ks => obtain ⟨ws, q, r⟩ := kk; exact ⟨ws, (upd_ne ne).trans q, Paired.mapP r fun p q z => ⟨z.1, DV.monoW w1 z.2⟩⟩
  have d2 := DVs.monoW w1 d1
  refine k (ρ1 ++ [P]) _ (.ref P) (R2.push nP1 ⟨_, upd_same, ?_⟩) ?_ (DV.new R2)
  · have go : ∀ {names : List Str} {ds : List D} {vs : List V} {H2 : Hp}, DVsF F ρ1 H2 ds vs → Paired (fun (p : Key × D) (q : Key × V) => p.1 = q.1 ∧ DV F.K F.ft ρ1 H2 p.2 q.2) ((names.zip ds).map fun q => (Sum.inr q.1, q.2)) ((names.zip vs).map fun q => (Sum.inr q.1, q.2)) := by
      intro names
      induction names with
      | nil => intro ds vs H2 h; exact .nil
      | cons z names ih =>
        intro ds vs H2 h
        cases h with
        | nil => exact .nil
        | cons a t => exact .cons ⟨rfl, a⟩ (ih t)
    exact go d2
  · have s := s1
    obtain ⟨t, e, ht⟩ := s.pre
    have ne : ∀ b u, H b = some u → b ≠ P := fun b u e z => by rw [z, hP] at e; cases e
    refine ⟨⟨t ++ [P], by rw [e, List.append_assoc], fun b hb => ?_⟩, fun b u e hb => ?_, fun b u e => ?_, fun b xs e => ?_, fun b ob u e => ?_⟩
    · rcases List.mem_append.mp hb with z | z
      · have := ht b z
        by_cases hbP : b = P
        · subst hbP; exact hP
        · rw [upd_ne hbP] at this; exact this
      · have z : b = P := by simpa using z
        subst z; exact hP
    · rw [upd_ne (ne b u e)]; exact s.keep b u (by rw [upd_ne (ne b u e)]; exact e) hb
    · rw [upd_ne (ne b u e)]; exact s.there b u (by rw [upd_ne (ne b u e)]; exact e)
    · rw [upd_ne (ne b _ e)]; exact s.tups b xs (by rw [upd_ne (ne b _ e)]; exact e)
    · rw [upd_ne (ne b _ e)]; exact s.frzs b ob u (by rw [upd_ne (ne b _ e)]; exact e)
/-! ## sorted of ints -/
def insI (n : Int) : List Int → List Int
  | [] => [n]
  | m :: r => if n ≤ m then n :: m :: r else m :: insI n r
def sortI : List Int → List Int
  | [] => []
  | n :: r => insI n (sortI r)
theorem insI_perm (n : Int) : ∀ l : List Int, (insI n l).Perm (n :: l)
  | [] => .refl _
  | m :: r => by
    unfold insI
    split
    · exact .refl _
    · exact ((insI_perm n r).cons m).trans (.swap n m r)
theorem sortI_perm : ∀ l : List Int, (sortI l).Perm l
  | [] => .refl _
  | n :: r => (insI_perm n (sortI r)).trans ((sortI_perm r).cons n)
theorem insI_up (n : Int) : ∀ {l : List Int}, l.Pairwise (· ≤ ·) → (insI n l).Pairwise (· ≤ ·)
  | [], _ => by simp [insI]
  | m :: r, h => by
    unfold insI
    have h' := List.pairwise_cons.mp h
    split
    · rename_i hle
      refine List.pairwise_cons.mpr ⟨fun b hb => ?_, h⟩
      rcases List.mem_cons.mp hb with e | e
      · exact e ▸ hle
      · exact Int.le_trans hle (h'.1 b e)
    · rename_i hle
      refine List.pairwise_cons.mpr ⟨fun b hb => ?_, insI_up n h'.2⟩
      have := (insI_perm n r).mem_iff.mp hb
      rcases List.mem_cons.mp this with e | e
      · subst e; omega
      · exact h'.1 b e
theorem sortI_up : ∀ l : List Int, (sortI l).Pairwise (· ≤ ·)
  | [] => .nil
  | n :: r => insI_up n (sortI_up r)
def intsOf : List D → Option (List Int)
  | [] => some []
  | .int b :: ds => (intsOf ds).map (b :: ·)
  | _ :: _ => none
theorem intsOf_ok {K : PySem.W.Frag} {ft : Nat → Addr} {ρ : List Addr} {H : Hp} : ∀ {ds : List D} {vs : List V} {bs : List Int}, DVs K ft ρ H ds vs → intsOf ds = some bs → vs = bs.map V.int
  | [], _, _, .nil, e => by cases e; rfl
  | d :: ds, _, bs, .cons h t, e => by
    cases d with
    | int b =>
      obtain ⟨cs, e1, e2⟩ := omap (show (intsOf ds).map (b :: ·) = some bs from e)
      cases e2
      cases h
      rw [intsOf_ok t e1]
      rfl
    | _ => cases e
def sortedD : ODL := fun xs C => match xs with
  | [.cell n] => match C[n]? with | some (.lst ds) => (intsOf ds).map fun ns => (.cell C.length, C ++ [.lst ((sortI ns).map D.int)]) | _ => none
  | _ => none
theorem sc_sorted : SCall F (.builtin "sorted") sortedD := by
  refine ⟨rSortedI F.K, fun X h => by have z := cr_sortedI (X := X); rw [h.K] at z; exact z, fun ρ C H xs vs d C' Q R hx hm k => ?_⟩
  unfold sortedD at hm
  split at hm
  · split at hm
    · rename_i ds q
      obtain ⟨ns, e1, e2⟩ := omap hm
      cases e2
      cases hx with | cons h1 h2 =>
        cases h2
        obtain ⟨p, vs, rfl, ep, e3, e4⟩ := R.lst q h1
        have ev := intsOf_ok e4 e1
        subst ev
        refine ⟨_, ns, rfl, SqL.of e3, fun ns' r hp hup hr => ?_⟩
        have : ns' = sortI ns := PySem.W.ksm_same (hp.trans (sortI_perm ns).symm) hup (sortI_up ns)
        subst this
        exact k _ _ _ (R.newL hr (DVs.ints _)) (Stp.push hr) (DV.new R)
    · cases hm
  · cases hm
end
end Mi
set_option Elab.async false
set_option linter.all false
set_option maxRecDepth 100000
set_option maxHeartbeats 4000000
namespace Mi
open PySem PySem.Spec PyProof.Rows L2
section
variable {F : Fm} {a b c e o tg iter value : Expr} {es : List Expr} {pos pos' p : Pos} {x y : Str} {i j : Nat} {ma mb mc me mo mv mi : ME} {mt mu : MT} {ml : MA}
/-! ## list(range(..)), tuple(range(..)) -/
def rgOkB (a b : Int) : Bool := decide (-(2 ^ 62) ≤ a ∧ a < 2 ^ 62 ∧ -(2 ^ 62) ≤ b ∧ b < 2 ^ 62 ∧ (b - a).toNat ≤ 2 ^ 24)
abbrev MR := Ev → Hm → Option (Int × Int × Hm)
def SR (F : Fm) (e : Expr) (m : MR) : Prop := ∃ t, (∀ X, F.Is X → PRg X e t) ∧ ∀ ρ C H E σ a b C' Q, RelF F ρ H C → EnvF F ρ H E σ → m E C = some (a, b, C') → (∀ ρ' H', RelF F ρ' H' C' → Stp ρ H ρ' H' → Q a b H') → t σ H Q
def mR1 (m : ME) : MR := fun E C => match m E C with | some (.int n, C') => some (0, n, C') | _ => none
def mR2 (m n : ME) : MR := fun E C => match m E C with | some (.int i, C1) => (match n E C1 with | some (.int j, C2) => some (i, j, C2) | _ => none) | _ => none
theorem sr_1 {p : Pos} (hm : F.mg "range" = none) (ha : SE F a ma) (hg : F.sc.names.lookup (Str.ofString "range") = some .globalImplicit := by rfl) (na : ∀ env : Env, starEach [a] env = (false, eval a env) :: starEach [] env := by intro _; rfl) : SR F (.Call (.Name "range" p) [a] [] pos) (mR1 ma) := by
  obtain ⟨t, q, s⟩ := ha
  refine ⟨tRg1 t, fun X h => prg_1 (h.gl hg) (by rw [h.mg]; exact hm) (q X h) (na _), fun ρ C H E σ a b C' Q R eo hm k => ?_⟩
  unfold mR1 at hm
  split at hm
  · rename_i n C1 q1
    cases hm
    exact s ρ C H E σ _ _ _ R eo q1 fun ρ1 H1 v R1 s1 d1 => by cases d1; exact ⟨_, rfl, k ρ1 H1 R1 s1⟩
  · cases hm
theorem sr_2 {p : Pos} (hm : F.mg "range" = none) (ha : SE F a ma) (hb : SE F b mb) (hg : F.sc.names.lookup (Str.ofString "range") = some .globalImplicit := by rfl) (na : ∀ env : Env, starEach [a, b] env = (false, eval a env) :: starEach [b] env := by intro _; rfl) (nb : ∀ env : Env, starEach [b] env = (false, eval b env) :: starEach [] env := by intro _; rfl)
    (hp : ∀ env : Env, (backTo pos (starEach [b] env)).any (·.1) = false := by intro _; rfl) : SR F (.Call (.Name "range" p) [a, b] [] pos) (mR2 ma mb) := by
  obtain ⟨t, q, s⟩ := ha
  obtain ⟨u, q2, s2⟩ := hb
  refine ⟨tRg2 t u, fun X h => prg_2 (h.gl hg) (by rw [h.mg]; exact hm) (q X h) (q2 X h) (na _) (nb _) (hp _), fun ρ C H E σ a b C' Q R eo hm k => ?_⟩
  unfold mR2 at hm
  split at hm
  · rename_i n C1 q1
    split at hm
    · rename_i n2 C2 q3
      cases hm
      refine s ρ C H E σ _ _ _ R eo q1 fun ρ1 H1 v R1 s1 d1 => ?_
      refine s2 ρ1 C1 H1 E σ _ _ _ R1 (eo.mono s1) q3 fun ρ2 H2 v2 R2 s3 d2 => ?_
      cases d1; cases d2
      exact ⟨_, _, rfl, rfl, k ρ2 H2 R2 (s1.trans s3)⟩
    · cases hm
  · cases hm
theorem rg_dvs {K : PySem.W.Frag} {ft : Nat → Addr} {ρ : List Addr} {H : Hp} (a b : Int) : DVs K ft ρ H (rngD a (b - a).toNat) (rgV a b) := by
  have e1 : rngD a (b - a).toNat = ((List.range (b - a).toNat).map fun k => a + (k : Nat)).map D.int := by unfold rngD; rw [List.map_map]; rfl
  have e2 : rgV a b = ((List.range (b - a).toNat).map fun k => a + (k : Nat)).map V.int := by unfold rgV; rw [List.map_map]; rfl
  rw [e1, e2]
  exact DVs.ints _
def mLstRg (m : MR) : ME := fun E C => (m E C).bind fun p => if rgOkB p.1 p.2.1 = true then some (.cell p.2.2.length, p.2.2 ++ [.lst (rngD p.1 (p.2.1 - p.1).toNat)]) else none
def mTupRg (m : MR) : ME := fun E C => (m E C).bind fun p => if rgOkB p.1 p.2.1 = true then some (.tup (rngD p.1 (p.2.1 - p.1).toNat), p.2.2) else none
theorem se_listRg {m : MR} {p : Pos} (hm : F.mg "list" = none) (he : SR F e m) (hg : F.sc.names.lookup (Str.ofString "list") = some .globalImplicit := by rfl) (na : ∀ env : Env, starEach [e] env = (false, eval e env) :: starEach [] env := by intro _; rfl) : SE F (.Call (.Name "list" p) [e] [] pos) (mLstRg m) := by
  obtain ⟨t, q, s⟩ := he
  refine ⟨tLstRg t, fun X h => pe_listRg h.calm (h.gl hg) (by rw [h.mg]; exact hm) (q X h) (na _), fun ρ C H E σ d C' Q R eo hm k => ?_⟩
  obtain ⟨⟨a, b, C1⟩, h1, hm⟩ := obind hm
  simp only at hm
  split at hm
  · rename_i hr
    cases hm
    have hr' := of_decide_eq_true hr
    refine s ρ C H E σ _ _ _ _ R eo h1 fun ρ1 H1 R1 s1 => ⟨hr', fun p hp => ?_⟩
    exact k _ _ _ (R1.newL hp (rg_dvs a b)) (s1.trans (Stp.push hp)) (DV.new R1)
  · cases hm
theorem se_tupRg {m : MR} {p : Pos} (hm : F.mg "tuple" = none) (he : SR F e m) (hg : F.sc.names.lookup (Str.ofString "tuple") = some .globalImplicit := by rfl) (na : ∀ env : Env, starEach [e] env = (false, eval e env) :: starEach [] env := by intro _; rfl) : SE F (.Call (.Name "tuple" p) [e] [] pos) (mTupRg m) := by
  obtain ⟨t, q, s⟩ := he
  refine ⟨tTupRg t, fun X h => pe_tupRg h.calm (h.gl hg) (by rw [h.mg]; exact hm) (q X h) (na _), fun ρ C H E σ d C' Q R eo hm k => ?_⟩
  obtain ⟨⟨a, b, C1⟩, h1, hm⟩ := obind hm
  simp only at hm
  split at hm
  · rename_i hr
    cases hm
    have hr' := of_decide_eq_true hr
    refine s ρ C H E σ _ _ _ _ R eo h1 fun ρ1 H1 R1 s1 => ⟨hr', fun p hp => ?_⟩
    exact k ρ1 _ _ (R1.fresh hp) (s1.trans (Stp.fresh hp)) (.tup (SqT.of upd_same) ((rg_dvs a b).mono (Stp.fresh hp)))
  · cases hm
/-! ## str -/
theorem call_str_bool {X : Cx} : CallR X (.type "str") (fun xs H Q => ∃ k, xs = [.bl k] ∧ Q (.str (if k then "True" else "False")) H) := by
  intro pins s σ H xs us Q I r h
  obtain ⟨k, rfl, q⟩ := h
  obtain ⟨u, rfl, ru⟩ := vals1 r
  obtain rfl : u = Value.bool k := ru
  refine PySem.P.str_of_bool ?_
  exact ⟨V.str _, H, I.tok _, ⟨_, rfl⟩, q⟩
def strC : ODL := fun xs C => match xs with
  | [.int i] => if i.natAbs.log2 < 1920 then some (.str (toString i), C) else none
  | [.str z] => some (.str z, C)
  | [.bl k] => some (.str (if k then "True" else "False"), C)
  | _ => none
theorem sc_str : SCall F (.type "str") strC := by
  refine ⟨_, fun X h => call_str_int.or (SkE.call_str_str.or call_str_bool), fun ρ C H xs vs d C' Q R hx hm k => ?_⟩
  unfold strC at hm
  split at hm
  · split at hm
    · rename_i hl
      cases hm; cases hx with | cons h1 h2 => cases h2; cases h1; exact .inl ⟨_, rfl, hl, k.now R (.str _)⟩
    · cases hm
  · cases hm; cases hx with | cons h1 h2 => cases h2; cases h1; exact .inr (.inl ⟨_, rfl, k.now R (.str _)⟩)
  · cases hm; cases hx with | cons h1 h2 => cases h2; cases h1; exact .inr (.inr ⟨_, rfl, k.now R (.str _)⟩)
  · cases hm
/-! ## methods of lists and texts -/
def appendD : ODM := fun x xs C => match x, xs with
  | .cell n, [d] => match C[n]? with
    | some (.lst ds) => if ds.length < sizeLine then some (.non, C.set n (.lst (ds ++ [d]))) else none
    | _ => none
  | _, _ => none
theorem sm_append : SMt F "list" "list.append" appendD := by
  refine ⟨rAppend, fun X h => mt_append, fun ρ C H x xs vx vs d C' Q R hx hxs hm k => ?_⟩
  unfold appendD at hm
  split at hm
  · split at hm
    · rename_i n dd ds q
      split at hm
      · rename_i hl
        cases hm
        obtain ⟨p, ws, rfl, ep, e3, e4⟩ := R.lst q hx
        cases hxs with | cons h1 h2 =>
          cases h2
          refine ⟨_, _, _, rfl, rfl, e3, by rw [← e4.length]; exact hl, ?_⟩
          exact k ρ _ _ (R.writeL ep q (e4.append (.cons h1 .nil))) (Stp.write R ep q) .non
      · cases hm
    · cases hm
  · cases hm
def extendD : ODM := fun x xs C => match x, xs with
  | .cell n, [.cell m] => match C[n]?, C[m]? with
    | some (.lst ds), some (.lst es) => if ds.length + es.length ≤ sizeLine then some (.non, C.set n (.lst (ds ++ es))) else none
    | _, _ => none
  | _, _ => none
theorem sm_extend : SMt F "list" "list.extend" extendD := by
  refine ⟨rExtend, fun X h => mt_extend, fun ρ C H x xs vx vs d C' Q R hx hxs hm k => ?_⟩
  unfold extendD at hm
  split at hm
  · split at hm
    · rename_i n m ds es q q2
      split at hm
      · rename_i hl
        cases hm
        obtain ⟨p, ws, rfl, ep, e3, e4⟩ := R.lst q hx
        cases hxs with | cons h1 h2 =>
          cases h2
          obtain ⟨p2, ws2, rfl, ep2, e5, e6⟩ := R.lst q2 h1
          refine ⟨_, _, _, _, rfl, rfl, e3, e5, by rw [← e4.length, ← e6.length]; exact hl, ?_⟩
          exact k ρ _ _ (R.writeL ep q (e4.append e6)) (Stp.write R ep q) .non
      · cases hm
    · cases hm
  · cases hm
def popD : ODM := fun x xs C => match x, xs with
  | .cell n, [.int i] => match C[n]? with
    | some (.lst ds) => if -(2 ^ 63) ≤ i ∧ i < 2 ^ 63 then (seqIndex? i ds.length).bind fun k => ds[k]?.map fun d => (d, C.set n (.lst (ds.eraseIdx k))) else none
    | _ => none
  | .cell n, [] => match C[n]? with
    | some (.lst ds) => ds[ds.length - 1]?.map fun d => (d, C.set n (.lst ds.dropLast))
    | _ => none
  | _, _ => none
theorem DVs.dropLast {K : PySem.W.Frag} {ft : Nat → Addr} {ρ : List Addr} {H : Hp} {ds : List D} {vs : List V} (h : DVs K ft ρ H ds vs) : DVs K ft ρ H ds.dropLast vs.dropLast := by
  rw [List.dropLast_eq_take, List.dropLast_eq_take, h.length]
  exact h.take _
theorem sm_pop : SMt F "list" "list.pop" popD := by
  refine ⟨_, fun X h => (show MtR X "list.pop" rPopAt from mt_popAt).or (show MtR X "list.pop" rPop from mt_pop), fun ρ C H x xs vx vs d C' Q R hx hxs hm k => ?_⟩
  unfold popD at hm
  split at hm
  · split at hm
    · rename_i n i ds q
      split at hm
      · rename_i hb
        obtain ⟨j, e1, hm⟩ := obind hm
        obtain ⟨z, e2, e3⟩ := omap hm
        cases e3
        obtain ⟨p, ws, rfl, ep, e4, e5⟩ := R.lst q hx
        obtain ⟨v, e6, e7⟩ := e5.get e2
        cases hxs with | cons h1 h2 =>
          cases h2; cases h1
          have st := Stp.write (o := .lst (ws.eraseIdx j)) R ep q
          exact .inl ⟨_, _, _, j, v, rfl, rfl, e4, hb.1, hb.2, by rw [← e5.length]; exact e1, e6, k ρ _ _ (R.writeL ep q (e5.eraseIdx j)) st (e7.mono st)⟩
      · cases hm
    · cases hm
  · split at hm
    · rename_i n ds q
      obtain ⟨z, e2, e3⟩ := omap hm
      cases e3
      obtain ⟨p, ws, rfl, ep, e4, e5⟩ := R.lst q hx
      obtain ⟨v, e6, e7⟩ := e5.get e2
      cases hxs
      have st := Stp.write (o := .lst ws.dropLast) R ep q
      exact .inr ⟨_, _, v, rfl, rfl, e4, by rw [← e5.length]; exact e6, k ρ _ _ (R.writeL ep q e5.dropLast) st (e7.mono st)⟩
    · cases hm
  · cases hm
def mRem (mo me : ME) : ME := fun E C => (mo E C).bind fun p => if tyD "list" p.1 p.2 = true then (me E p.2).bind fun q => match p.1, q.1 with
  | .cell n, .int k => (match q.2[n]? with
    | some (.lst ds) => (intsOf ds).bind fun ns => if k ∈ ns then some (.non, q.2.set n (.lst ((ns.erase k).map D.int))) else none
    | _ => none)
  | _, _ => none else none
theorem noTake {X : Cx} : Takes X (fun _ _ _ _ => False) := fun _ _ z => by
  obtain ⟨_, _, _, _, _, _, _, _, _, _, _, _, _, _, _, _, z⟩ := z
  exact z.elim
theorem se_remove {apos : Pos} (ho : SE F o mo) (he : SE F e me) (hbase : ∀ env : Env, attributeBase o "remove" env (eval o env) = eval o env := by intro _; rfl)
    (hfew : ∀ env : Env, ((backTo pos (starEach [e] env)).all (fun x => !x.1) && (backToKw pos (keywordEach [] env)).all (fun x => x.1.isSome) && decide (([e] : List Expr).length + ([] : List Keyword).length + (if ([] : List Keyword).isEmpty then 0 else 1) < 30)) = true := by intro _; rfl)
    (hline : (apos.endLine == pos.line) = true := by rfl) (hs : ∀ env : Env, starEach [e] env = (false, eval e env) :: starEach [] env := by intro _; rfl) (hpl : ∀ env : Env, (backTo pos (starEach [] env)).any (·.1) = false := by intro _; rfl) :
    SE F (.Call (.Attribute o "remove" apos) [e] [] pos) (mRem mo me) := by
  obtain ⟨to, po, so⟩ := ho
  obtain ⟨te, pe, se⟩ := he
  refine ⟨tRemX F.K (fun _ _ _ _ => False) to te, fun X h => by have z := pe_remX h.calm noTake (po X h) (pe X h) (hbase _) (hfew _) hline (hs _) (hpl _); rw [h.K] at z; exact z, fun ρ C H E σ d C' Q R eo hm k => ?_⟩
  obtain ⟨⟨x, C1⟩, h1, hm⟩ := obind hm
  simp only at hm
  split at hm
  · rename_i ty
    obtain ⟨⟨y, C2⟩, h2, hm⟩ := obind hm
    refine so ρ C H E σ x C1 _ R eo h1 fun ρ1 H1 v1 R1 s1 d1 => ⟨tyD_ok R1 d1 ty, ?_⟩
    refine se ρ1 C1 H1 E σ y C2 _ R1 (eo.mono s1) h2 fun ρ2 H2 v2 R2 s2 d2 => ?_
    simp only at hm
    split at hm
    · rename_i n kk _
      split at hm
      · rename_i ds q
        obtain ⟨ns, e1, hm⟩ := obind hm
        split at hm
        · rename_i hk
          cases hm
          obtain ⟨p, ws, rfl, ep, e4, e5⟩ := R2.lst q (d1.mono s2)
          have ev := intsOf_ok e5 e1
          subst ev
          cases d2
          have st := Stp.write (o := .lst ((ns.erase kk).map V.int)) R2 ep q
          exact ⟨p, ns, kk, rfl, rfl, e4, fun _ => k ρ2 _ _ (R2.writeL ep q (DVs.ints _)) ((s1.trans s2).trans st) .non, fun q => absurd hk q⟩
        · cases hm
      · cases hm
    · cases hm
  · cases hm
def upperD : ODM := fun x xs C => match x, xs with
  | .str z, [] => if z.length ≤ 5592405 then some (.str (Txt.upper z), C) else none
  | _, _ => none
theorem sm_upper : SMt F "str" "str.upper" upperD := by
  refine ⟨_, fun X h => mt_upper, fun ρ C H x xs vx vs d C' Q R hx hxs hm k => ?_⟩
  unfold upperD at hm
  split at hm
  · split at hm
    · rename_i hl
      cases hm; cases hx; cases hxs
      exact ⟨_, rfl, rfl, hl, k.now R (.str _)⟩
    · cases hm
  · cases hm
/-! ## a call of a parameter that holds a def -/
/-- f(e, ..), f the parameter in slot i; tab says what each def does -/
def mCallV (i : Nat) (tab : Nat → Option MF) (ml : MA) : ME := fun E C => match E[i]? with
  | some (some (.fn n)) => (tab n).bind fun m => (ml E C).bind fun q => m q.1 q.2
  | _ => none
def tCallV (ft : Nat → Addr) (S : Nat → Option SpG) (i : Nat) (t : TA) : TE := fun σ H Q => ∃ n sp, σ[i]? = some (some (.ref (ft n))) ∧ S n = some sp ∧ t σ H fun vs H1 => sp vs H1 Q
theorem pe_callV {X : Cx} {k : Nat} {ft : Nat → Addr} {S : Nat → Option SpG} {t : TA} (hS : ∀ n sp, S n = some sp → ∃ (fd : FuncData) (ps : List Str), PySem.W.keepIn X.K (.ref (ft n)) = true ∧ Binds X.K fd ps [] ∧ FnG X.prog X.w X.K X.mg X.base k (ft n) fd ps sp) (hr : Room k X.A) (hgu : X.A.guards = some [])
    (hN : X.N[i]? = some x) (hv : Vis X.env.scope x) (ha : PA X (e :: es) t) (hdb : (x == ("__debug__" : Str)) = false) (hcd : (x == ("__classdict__" : Str)) = false) (he : starEach (e :: es) X.env = (false, eval e X.env) :: starEach es X.env) (hpl : (backTo pos (starEach es X.env)).any (·.1) = false) :
    PE X (.Call (.Name x p) (e :: es) [] pos) (tCallV ft S i t) := by
  constructor
  intro pins s σ H Q I h
  obtain ⟨n, sp, hs, hSn, ht⟩ := h
  obtain ⟨fd, ps, hk, hb, G⟩ := hS n sp hSn
  have nm := (pe_var (pos := p) hN hv hdb hcd).run pins s σ H (fun v H1 => v = .ref (ft n) ∧ H1 = H) I ⟨.ref (ft n), hs, rfl, rfl⟩
  refine wpAny_Call_Name_kw (thn nm fun u s1 hu => ?_)
  obtain ⟨v, H1, I1, r1, rfl, rfl⟩ := hu
  obtain rfl : u = Value.ref (ft n) := r1
  have inner := thn (ha.run pos pins s1 σ H1 _ I1 ht) (Q' := fun us s1 => X.K.In s1.heap ∧ wpAny (model X.prog X.w) X.A (call (.ref (ft n)) us) (EP X pins σ Q) X.xe s1) fun us s2 ⟨vs, H2, I2, r, q⟩ => ⟨I2.kIn, runG (dvs := []) G hr hgu hb .nil I2 r (by rw [List.append_nil]; exact q)⟩
  exact PySem.W.callWith_K (h₀ := X.base) I.ok.mod.kin hk inner he hpl
structure Tab (P : Program) (w : World) (K : PySem.W.Frag) (mg : Str → Option Value) (base : Heap) (ft : Nat → Addr) (n : Nat) (tab : Nat → Option MF) (k : Nat) : Prop where
  at_ : ∀ j m, tab j = some m → ∃ (fd : FuncData) (ps : List Str), PySem.W.keepIn K (.ref (ft j)) = true ∧ Binds K fd ps [] ∧ ps.length = n ∧ FnG P w K mg base k (ft j) fd ps (spM K ft ps.length m)
def tab1 (i : Nat) (m : MF) : Nat → Option MF := fun j => if j = i then some m else none
theorem se_callV {tab : Nat → Option MF} (i : Nat) (k : Nat) (n : Nat) (hc : Tab F.prog F.w F.K F.mg F.base F.ft n tab k) (ha : SA F (e :: es) ml) (hlen : ∀ E C q, ml E C = some q → q.1.length = n) (hk : k ≤ F.lv := by exact Nat.le_of_ble_eq_true rfl)
    (hN : F.N[i]? = some x := by rfl) (hv : Vis F.sc x := by first | exact Or.inl rfl | exact Or.inr (Or.inl rfl) | exact Or.inr (Or.inr rfl)) (hdb : (x == ("__debug__" : Str)) = false := by decide) (hcd : (x == ("__classdict__" : Str)) = false := by decide)
    (he : ∀ env : Env, starEach (e :: es) env = (false, eval e env) :: starEach es env := by intro _; rfl) (hpl : ∀ env : Env, (backTo pos (starEach es env)).any (·.1) = false := by intro _; rfl) : SE F (.Call (.Name x p) (e :: es) [] pos) (mCallV i tab ml) := by
  obtain ⟨t, pt, st⟩ := ha
  refine ⟨tCallV F.ft (fun j => (tab j).map fun m => spM F.K F.ft n m) i t, fun X h => ?_, fun ρ C H E σ d C' Q R eo hm kk => ?_⟩
  · refine pe_callV (k := k) (fun j sp q => ?_) (h.rm.mono hk) h.gu (by rw [h.N]; exact hN) (by rw [h.sc]; exact hv) (pt X h) hdb hcd (he _) (hpl _)
    obtain ⟨m, e1, e2⟩ := omap q
    obtain ⟨fd, ps, h1, h2, h3, h4⟩ := hc.at_ j m e1
    subst e2
    rw [h.prog, h.w, h.K, h.mg, h.base]
    exact ⟨fd, ps, h1, h2, by rw [← h3]; exact h4⟩
  · unfold mCallV at hm
    split at hm
    · rename_i j q
      obtain ⟨m, e1, hm⟩ := obind hm
      obtain ⟨⟨xs, C1⟩, h1, hm⟩ := obind hm
      obtain ⟨v, q1, q2⟩ := eo.at_ i _ q
      cases q2
      refine ⟨j, spM F.K F.ft n m, q1, by simp only [e1, Option.map_some], ?_⟩
      exact st ρ C H E σ xs C1 _ R eo h1 fun ρ1 H1 vs R1 s1 d1 => ⟨ρ1, C1, xs, d, C', R1, d1, hlen _ _ _ h1, hm, fun ρ' H' v R' s' dv => kk ρ' H' v R' (s1.trans s') dv⟩
    · cases hm
end
end Mi
set_option Elab.async false
set_option linter.all false
set_option maxRecDepth 100000
set_option maxHeartbeats 4000000
namespace Mi
open PySem PySem.Spec PyProof.Rows L2
/-! ## slices with a step -/
def pickL {α : Type} (xs : List α) (lo hi st : Option Int) : List α :=
  (sliceRange (sliceBounds lo hi st xs.length).1 (sliceBounds lo hi st xs.length).2.1 (sliceBounds lo hi st xs.length).2.2).filterMap fun i => xs[i]?
theorem pickL_vals {xs : List V} {us : List Value} (r : Vals xs us) (lo hi st : Option Int) : Vals (pickL xs lo hi st) (slicePick us.toArray lo hi st).toList := by
  unfold pickL slicePick
  rw [List.size_toArray, ← r.length]
  generalize sliceRange _ _ _ = l
  show Vals _ (l.filterMap (us.toArray[·]?))
  induction l with
  | nil => exact .nil
  | cons i l ih =>
    rw [List.filterMap_cons, List.filterMap_cons]
    cases q : xs[i]? with
    | none =>
      have e : us.toArray[i]? = none := by simpa using r.none_of q
      rw [e]
      exact ih
    | some x =>
      obtain ⟨u, e, ru⟩ := r.get q
      have e : us.toArray[i]? = some u := by simpa using e
      rw [e]
      exact .cons ru ih
theorem pickL_dvs {K : PySem.W.Frag} {ft : Nat → Addr} {ρ : List Addr} {H : Hp} {ds : List D} {vs : List V} (h : DVs K ft ρ H ds vs) (lo hi st : Option Int) : DVs K ft ρ H (pickL ds lo hi st) (pickL vs lo hi st) := by
  unfold pickL
  rw [← h.length]
  generalize sliceRange _ _ _ = l
  induction l with
  | nil => exact .nil
  | cons i l ih =>
    rw [List.filterMap_cons, List.filterMap_cons]
    cases q : ds[i]? with
    | none =>
      have e : vs[i]? = none := by
        rw [List.getElem?_eq_none_iff] at q ⊢
        rw [← h.length]; exact q
      rw [e]
      exact ih
    | some x =>
      obtain ⟨u, e, ru⟩ := h.get q
      rw [e]
      exact .cons ru ih
/-- a slice with a step, by values -/
def Sl3R (X : Cx) (r : V → Option Int → Option Int → Option Int → Hp → VK → Prop) : Prop :=
  ∀ (pins : List (Addr × Obj)) (s : Shared) (σ : L2.St) (H : Hp) (x : V) (v vl vu vs : Value) (lo hi st : Option Int) (sl : Addr) (Q : VK), Inv X pins σ H s → RelV x v → s.heap.IsSliceOf sl vl vu vs → IsPart vl lo → IsPart vu hi → IsPart vs st → r x lo hi st H Q →
    ∃ T id, typeLookup (.type T) "__getitem__" = pure (some (.builtin id)) ∧ s.TypeIs v T ∧ wpAny (model X.prog X.w) X.A (getItem v (.ref sl)) (EP X pins σ Q) X.xe s
def rSl3L (K : PySem.W.Frag) : V → Option Int → Option Int → Option Int → Hp → VK → Prop := fun x lo hi st H Q => ∃ a xs, x = .ref a ∧ SqL K H a xs ∧ st ≠ some 0 ∧ ∀ p, H p = none → Q (.ref p) (upd H p (.lst (pickL xs lo hi st)))
theorem sl3_list {X : Cx} : Sl3R X (rSl3L X.K) := by
  intro pins s σ H x v vl vu vs lo hi st sl Q I rx hs pl pu ps h
  obtain ⟨a, xs, rfl, hx, h0, q⟩ := h
  obtain rfl : v = Value.ref a := rx
  obtain ⟨its, r, ht, hz⟩ := I.list hx
  have hlen := r.length
  refine ⟨"list", _, slot_list_getitem.lookup, ht.isList.typeIs, ?_⟩
  refine wpAny_getItem_list_slice ht.isList hs pl pu ps h0 ?_ (by rw [List.size_toArray] <;> omega)
  have rv := pickL_vals r lo hi st
  have lz : (pickL xs lo hi st).length ≤ sizeLine := by
    rw [rv.length, Array.length_toList]
    exact Nat.le_trans (slicePick_size_le _ _ _ _) (by rw [List.size_toArray]; omega)
  refine ⟨.ref s.heap.objs.size, _, I.laid (t' := s.toks) (o := .lst (pickL xs lo hi st)) (fun b ob q => Heap.get?_push_of_some _ q) (Nat.le_refl _) ?_, rfl, q _ (I.hok.fresh (Nat.le_refl _))⟩
  exact ⟨lz, _, 0, rv, by rw [Array.toArray_toList]; exact Heap.get?_push_size _ rfl⟩
theorem Sl3R.or {X : Cx} {r r' : V → Option Int → Option Int → Option Int → Hp → VK → Prop} (h : Sl3R X r) (h' : Sl3R X r') : Sl3R X (fun x lo hi st H Q => r x lo hi st H Q ∨ r' x lo hi st H Q) := by
  intro pins s σ H x v vl vu vs lo hi st sl Q I rx hs pl pu ps q
  rcases q with q | q
  · exact h pins s σ H x v vl vu vs lo hi st sl Q I rx hs pl pu ps q
  · exact h' pins s σ H x v vl vu vs lo hi st sl Q I rx hs pl pu ps q
section
variable {prog : Program} {w : World} {A : Around} {E : Value → Shared → Prop} {s : Shared}
theorem rev_pick (xs : Array Value) : ((List.range xs.size).filterMap fun (m : Nat) => xs[(((xs.size : Nat) : Int) - 1 + (m : Int) * (-1)).toNat]?).toArray = xs.toList.reverse.toArray := by
  congr 1
  have key : ∀ l : List Value, ((List.range l.length).filterMap fun (m : Nat) => l[(((l.length : Nat) : Int) - 1 + (m : Int) * (-1)).toNat]?) = l.reverse := by
    intro l
    have e : ∀ m ∈ List.range l.length, l[(((l.length : Nat) : Int) - 1 + (m : Int) * (-1)).toNat]? = some (l.reverse.getD m (l.reverse.headD .none)) := by
      intro m hm
      have hm := List.mem_range.mp hm
      have e1 : (((l.length : Nat) : Int) - 1 + (m : Int) * (-1)).toNat = l.length - 1 - m := by omega
      have hm2 : m < l.reverse.length := by simpa using hm
      rw [e1, List.getElem?_eq_getElem (by omega), List.getD_eq_getElem?_getD, List.getElem?_eq_getElem hm2]
      simp [List.getElem_reverse]
    apply List.ext_getElem?
    intro i
    have fm : ∀ (ms : List Nat), (∀ m ∈ ms, m < l.length) → (ms.filterMap fun (m : Nat) => l[(((l.length : Nat) : Int) - 1 + (m : Int) * (-1)).toNat]?) = ms.map fun m => l.reverse.getD m (l.reverse.headD .none) := by
      intro ms
      induction ms with
      | nil => intro _; rfl
      | cons a ms ih =>
        intro h
        rw [List.filterMap_cons, e a (List.mem_range.mpr (h a (by simp))), List.map_cons, ih fun m hm => h m (by simp [hm])]
    rw [fm _ fun m hm => List.mem_range.mp hm, List.getElem?_map]
    by_cases hi : i < l.length
    · rw [List.getElem?_range hi]
      have hi2 : i < l.reverse.length := by simpa using hi
      simp [List.getElem?_eq_getElem hi2, List.getD_eq_getElem?_getD]
    · rw [List.getElem?_eq_none (by simp; omega), List.getElem?_eq_none (by simp; omega)]
      rfl
  have := key xs.toList
  rw [Array.length_toList] at this
  simpa using this
theorem getItem_tuple_back {t sl : Addr} {items : Array Value} {vs : Value} {Q : Value → Shared → Prop} (ht : IsTup s.heap t items) (hs : s.heap.IsSliceOf sl .none .none vs) (ps : IsPart vs (some (-1)))
    (h : Q (.ref s.heap.objs.size) { s with heap := s.heap.push { cls := .type "tuple", data := .seq items.toList.reverse.toArray } }) (hsz : items.size ≤ sizeLine) : wpAny (model prog w) A (getItem (.ref t) (.ref sl)) Q E s := by
  have fits : sizeOk (.seq items.toList.reverse.toArray) := by
    show items.toList.reverse.toArray.size ≤ sizeLine
    rw [List.size_toArray, List.length_reverse, Array.length_toList]
    exact hsz
  obtain ⟨os, hos, hcs, hds⟩ := id hs
  have isSl : s.TypeIs (.ref sl) "slice" := ⟨os, hos, hcs⟩
  unfold getItem
  try with_reducible refine wpAny_holding ?_
  first | refine wpAny_bind (wpAny_pure ?_) | skip
  refine wpAny_bind (wpAny_sequenceKey ht.typeIs (by decide) ?_)
  refine wpAny_bind (wpAny_callSpecial?_slot (name := Str.ofString "__getitem__") ht.typeIs PyProof.Rows.slot_tuple_getitem (wpAny_call_entry PyProof.Rows.slot_tuple_getitem ht.typeIs entry_tuple_getitem ?_ (args_tuple_getitem _ _)))
  show wpAny _ _ (Builtin.Tuple.tupleItemsOf (.ref t) >>= _) _ _ s
  refine wpAny_bind (PyProof.Rows.tupleItemsOf_ ht ?_)
  refine wpAny_bind (wpAny_typeOf isSl ?_)
  rw [if_pos (by decide)]
  have app : ∀ {R : Int × Int × Nat → Shared → Prop} {E' : Value → Shared → Prop} {A' : Around}, R (((items.size : Nat) : Int) - 1, -1, items.size) s → wpAny (model prog w) A' (Builtin.Slice.sliceApplied (.ref sl) (pure (items.size : Int))) R E' s := by
    intro R E' A' hR
    unfold Builtin.Slice.sliceApplied Builtin.Slice.sliceFields
    refine wpAny_bind (wpAny_bind (wpAny_field hos hds (x := .none) rfl (wpAny_bind (wpAny_field hos hds (x := .none) rfl (wpAny_bind (wpAny_field hos hds (x := vs) rfl (wpAny_pure ?_)))))))
    refine wpAny_bind (HT.slicePart_ ps ?_)
    show wpAny _ _ (if ((-1 : Int) == 0) = true then _ else _) _ _ s
    rw [if_neg (by decide)]
    refine wpAny_bind (slicePart_none (wpAny_bind (slicePart_none (wpAny_bind (wpAny_pure ?_)))))
    have e : Builtin.Slice.slicePlaces (((items.size : Nat) : Int) - 1) (-1) (-1) = items.size := by
      unfold Builtin.Slice.slicePlaces
      rw [if_neg (by decide)]
      split
      · have e1 : (-(-1) : Int) = 1 := by decide
        rw [e1, Int.ediv_one]; omega
      · omega
    show wpAny _ _ (pure (((items.size : Nat) : Int) - 1, (-1 : Int), Builtin.Slice.slicePlaces (((items.size : Nat) : Int) - 1) (-1) (-1))) _ _ s
    rw [e]
    exact wpAny_pure hR
  refine wpAny_bind (app ?_)
  have hno : ¬ (((((items.size : Nat) : Int) - 1) == 0 && (-1 : Int) == 1 && items.size == items.size) = true) := by simp
  show wpAny _ _ (if ((((items.size : Nat) : Int) - 1) == 0 && (-1 : Int) == 1 && items.size == items.size) = true then _ else _) _ _ s
  rw [if_neg hno, rev_pick]
  first
    | exact wpAny_bind (m := Builtin.Tuple.tupleExact _) (wpAny_newObj_type (wpAny_pure ⟨_, rfl, wpAny_pure h⟩) fits)
    | exact wpAny_bind (m := Builtin.Tuple.tupleExact _) (wpAny_newObj_type (wpAny_bind (wpAny_pure (wpAny_pure ⟨_, rfl, wpAny_pure h⟩))) fits)
    | exact wpAny_bind (wpAny_bind (m := Builtin.Tuple.tupleExact _) (wpAny_newObj_type (wpAny_pure (wpAny_pure ⟨_, rfl, wpAny_pure h⟩)) fits))
    | exact wpAny_bind (wpAny_bind (m := Builtin.Tuple.tupleExact _) (wpAny_newObj_type (wpAny_pure ⟨_, rfl, wpAny_pure h⟩) fits))
end
def rSl3T (K : PySem.W.Frag) : V → Option Int → Option Int → Option Int → Hp → VK → Prop := fun x lo hi st H Q => ∃ a xs, x = .ref a ∧ SqT K H a xs ∧ lo = none ∧ hi = none ∧ st = some (-1) ∧ ∀ p, H p = none → Q (.ref p) (upd H p (.tup xs.reverse))
theorem sl3_tup {X : Cx} : Sl3R X (rSl3T X.K) := by
  intro pins s σ H x v vl vu vs lo hi st sl Q I rx hs pl pu ps h
  obtain ⟨a, xs, rfl, hx, rfl, rfl, rfl, q⟩ := h
  obtain rfl : v = Value.ref a := rx
  obtain ⟨its, r, ht, hz⟩ := I.tuple hx
  cases pl
  cases pu
  have hl := r.length
  refine ⟨"tuple", _, PyProof.Rows.slot_tuple_getitem.lookup, ht.typeIs, getItem_tuple_back ht hs ps ?_ (by rw [List.size_toArray]; omega)⟩
  refine ⟨.ref s.heap.objs.size, _, I.laid (t' := s.toks) (o := .tup xs.reverse) (fun b ob q => Heap.get?_push_of_some _ q) (Nat.le_refl _) ?_, rfl, q _ (I.hok.fresh (Nat.le_refl _))⟩
  refine ⟨by rw [List.length_reverse]; exact hz, its.reverse, r.reverse, ?_⟩
  have e : its.toArray.toList = its := by simp
  rw [e]
  exact IsTup.new _ _
section
variable {X : Cx} {e : Expr} {te : TE} {lo hi : Option Expr} {st : Expr} {tl th ts : TO} {pos p2 : Pos}
def tSl3 (r : V → Option Int → Option Int → Option Int → Hp → VK → Prop) (te : TE) (tl th ts : TO) : TE := fun σ H Q => te σ H fun x H1 => tl σ H1 fun l H2 => th σ H2 fun u H3 => ts σ H3 fun z H4 => r x l u z H4 Q
theorem pe_sl3 {r : V → Option Int → Option Int → Option Int → Hp → VK → Prop} (hr : Sl3R X r) (he : PE X e te) (hl : PO X lo tl) (hu : PO X hi th) (hs : PO X (some st) ts)
    (hsub : ∀ o i, subscripted (.Slice lo hi (some st) p2) false o i = operate [o, i] (getItem o i)) : PE X (.Subscript e (.Slice lo hi (some st) p2) pos) (tSl3 r te tl th ts) := by
  constructor
  intro pins s σ H Q I h
  refine Subscript_ (thn (he.run pins s σ H _ I h) fun v s1 ⟨x, H1, I1, r1, q1⟩ => ?_)
  refine wpAny_Slice (thn (hl.run pins s1 σ H1 _ I1 q1) fun vl s2 ⟨l, H2, I2, pl, q2⟩ => thn (hu.run pins s2 σ H2 _ I2 q2) fun vu s3 ⟨u, H3, I3, pu, q3⟩ => thn (hs.run pins s3 σ H3 _ I3 q3) fun vs s4 ⟨z, H4, I4, ps, q4⟩ => ?_)
  have I5 : Inv X pins σ H4 { s4 with heap := s4.heap.push { cls := .type "slice", data := .fields #[vl, vu, vs] } } := I4.kept (t' := s4.toks) fun b ob q => Heap.get?_push_of_some _ q
  obtain ⟨T, id, hT, ht, hg⟩ := hr pins _ σ H4 x v vl vu vs l u z s4.heap.objs.size Q I5 r1 (Heap.IsSliceOf.new ..) pl pu ps q4
  exact tail_any ht hT hg (hsub _ _)
end
section
variable {F : Fm} {e : Expr} {lo hi : Option Expr} {st : Expr} {me : ME} {ml mh ms : MO} {pos p2 : Pos}
def sl3D (x : D) (lo hi st : Option Int) (C : Hm) : Option (D × Hm) := match x with
  | .cell n => match C[n]? with
    | some (.lst ds) => if st ≠ some 0 then some (.cell C.length, C ++ [.lst (pickL ds lo hi st)]) else none
    | _ => none
  | .tup ds => if lo = none ∧ hi = none ∧ st = some (-1) then some (.tup ds.reverse, C) else none
  | _ => none
def mSl3 (me : ME) (ml mh ms : MO) : ME := fun E C => (me E C).bind fun p => (ml E p.2).bind fun q => (mh E q.2).bind fun r => (ms E r.2).bind fun z => sl3D p.1 q.1 r.1 z.1 z.2
theorem se_sl3 (he : SE F e me) (hl : SO F lo ml) (hu : SO F hi mh) (hs : SO F (some st) ms) (hsub : ∀ o i, subscripted (.Slice lo hi (some st) p2) false o i = operate [o, i] (getItem o i) := by intro _ _; with_unfolding_all rfl) : SE F (.Subscript e (.Slice lo hi (some st) p2) pos) (mSl3 me ml mh ms) := by
  obtain ⟨te, pe, se⟩ := he
  obtain ⟨tl, pl, sl⟩ := hl
  obtain ⟨th, ph, sh⟩ := hu
  obtain ⟨ts, ps, ss⟩ := hs
  refine ⟨tSl3 (fun x lo hi st H Q => rSl3L F.K x lo hi st H Q ∨ rSl3T F.K x lo hi st H Q) te tl th ts, fun X h => by have z := pe_sl3 (pos := pos) (sl3_list.or sl3_tup) (pe X h) (pl X h) (ph X h) (ps X h) hsub; rw [h.K] at z; exact z, fun ρ C H E σ d C' Q R eo hm k => ?_⟩
  obtain ⟨⟨x, C1⟩, h1, hm⟩ := obind hm
  obtain ⟨⟨y, C2⟩, h2, hm⟩ := obind hm
  obtain ⟨⟨z, C3⟩, h3, hm⟩ := obind hm
  obtain ⟨⟨w, C4⟩, h4, hm⟩ := obind hm
  refine se ρ C H E σ x C1 _ R eo h1 fun ρ1 H1 v1 R1 s1 d1 => ?_
  refine sl ρ1 C1 H1 E σ y C2 _ R1 (eo.mono s1) h2 fun ρ2 H2 R2 s2 => ?_
  refine sh ρ2 C2 H2 E σ z C3 _ R2 (eo.mono (s1.trans s2)) h3 fun ρ3 H3 R3 s3 => ?_
  refine ss ρ3 C3 H3 E σ w C4 _ R3 (eo.mono ((s1.trans s2).trans s3)) h4 fun ρ4 H4 R4 s4 => ?_
  have s := ((s1.trans s2).trans s3).trans s4
  have d4 := d1.mono ((s2.trans s3).trans s4)
  simp only at hm
  unfold sl3D at hm
  split at hm
  · split at hm
    · rename_i n ds q
      split at hm
      · rename_i h0
        cases hm
        obtain ⟨p, vs, rfl, ep, e3, e4⟩ := R4.lst q d4
        exact .inl ⟨_, _, rfl, SqL.of e3, h0, fun p hp => k _ _ _ (R4.newL hp (pickL_dvs e4 _ _ _)) (s.trans (Stp.push hp)) (DV.new R4)⟩
      · cases hm
    · cases hm
  · split at hm
    · rename_i ds hc
      cases hm
      cases d4 with | tup h5 h6 => exact .inr ⟨_, _, rfl, h5, hc.1, hc.2.1, hc.2.2, fun p hp => k ρ4 _ _ (R4.fresh hp) (s.trans (Stp.fresh hp)) (.tup (SqT.of upd_same) (h6.reverse.mono (Stp.fresh hp)))⟩
    · cases hm
  · cases hm
end
/-! ## keywords alone -/
section
variable {F : Fm} {e : Expr} {es : List Expr} {pos p : Pos} {x : Str} {kws : List Keyword} {ks : List Str}
def SK (F : Fm) (kws : List Keyword) (m : MA) : Prop := ∃ t, (∀ X, F.Is X → PK X kws t) ∧ EvA F t m
theorem sk_nil : SK F [] mNil := ⟨_, fun _ _ => pk_nil, fun ρ C H E σ d C' Q R eo hm k => by cases hm; exact k ρ H [] R .refl .nil⟩
theorem sk_cons {nm : Option Str} {kp : Pos} {me : ME} {ml : MA} (ha : SE F e me) (hl : SK F kws ml) (hc : ∀ (X : Cx) (te : TE) (t : TA), PE X e te → PK X kws t → PK X (⟨nm, e, kp⟩ :: kws) (tCons te t) := by intro X te t a b; exact pk_cons a b) : SK F (⟨nm, e, kp⟩ :: kws) (mCons me ml) := by
  obtain ⟨ta, pa, sa⟩ := ha
  obtain ⟨tl, pl, sl⟩ := hl
  refine ⟨_, fun X h => hc X _ _ (pa X h) (pl X h), fun ρ C H E σ d C' Q R eo hm k => ?_⟩
  obtain ⟨⟨x, C1⟩, h1, hm⟩ := obind hm
  obtain ⟨⟨ys, C2⟩, h2, hm⟩ := obind hm
  cases hm
  refine sa ρ C H E σ x C1 _ R eo h1 fun ρ1 H1 v1 R1 s1 d1 => ?_
  refine sl ρ1 C1 H1 E σ ys C2 _ R1 (eo.mono s1) h2 fun ρ2 H2 v2 R2 s2 d2 => ?_
  exact k ρ2 H2 _ R2 (s1.trans s2) (.cons (d1.mono s2) d2)
/-- how keywords (all the parameters, in some order) come to the parameters -/
structure KwB (K : PySem.W.Frag) (fd : FuncData) (ps ks : List Str) (g : {α : Type} → List α → List α) : Prop where
  to : ∀ (s : Shared) (ws : List Value), K.In s.heap → ws.length = ks.length → BindsTo s fd ⟨[], ks.zip ws⟩ (ps.zip (g ws))
  vals : ∀ {zs : List V} {ws : List Value}, zs.length = ks.length → Vals zs ws → Vals (g zs) (g ws)
  dvs : ∀ {K : PySem.W.Frag} {ft : Nat → Addr} {ρ : List Addr} {H : Hp} {ds : List D} {zs : List V}, ds.length = ks.length → DVs K ft ρ H ds zs → DVs K ft ρ H (g ds) (g zs)
  len : ∀ {ds : List D}, ds.length = ks.length → (g ds).length = ps.length
structure CalleeK (P : Program) (w : World) (K : PySem.W.Frag) (mg : Str → Option Value) (base : Heap) (ft : Nat → Addr) (x : Str) (ks : List Str) (g : {α : Type} → List α → List α) (m : MF) (k : Nat) : Prop where
  ex : ∃ (f : Addr) (fd : FuncData) (ps : List Str), mg x = some (.ref f) ∧ PySem.W.keepIn K (.ref f) = true ∧ KwB K fd ps ks g ∧ FnG P w K mg base k f fd ps (spM K ft ps.length m)
def mCallK (g : {α : Type} → List α → List α) (m : MF) (ml : MA) : ME := fun E C => (ml E C).bind fun q => m (g q.1) q.2
def tCallK0 (sp : SpG) (n : Nat) (g : {α : Type} → List α → List α) (t : TA) : TE := fun σ H Q => t σ H fun vs H1 => vs.length = n ∧ sp (g vs) H1 Q
theorem pe_callK0 {X : Cx} {k : Nat} {f : Addr} {fd : FuncData} {ps : List Str} {sp : SpG} {g : {α : Type} → List α → List α} {t : TA} (G : FnG X.prog X.w X.K X.mg X.base k f fd ps sp) (hr : Room k X.A) (hgu : X.A.guards = some []) (hg : Gl X x) (hm : X.mg x = some (.ref f)) (hk : PySem.W.keepIn X.K (.ref f) = true) (hb : KwB X.K fd ps ks g)
    (hkw : PK X kws t) (hall : (backToKw pos (keywordEach kws X.env)).all (·.1.isSome) = true) (hks : (backToKw pos (keywordEach kws X.env)).filterMap (·.1) = ks) (hdb : (x == ("__debug__" : Str)) = false)
    (hpl : ((backTo pos (starEach [] X.env)).any (·.1) || (backToKw pos (keywordEach kws X.env)).any (·.1.isNone)) = false) : PE X (.Call (.Name x p) [] kws pos) (tCallK0 sp ks.length g t) := by
  constructor
  intro pins s σ H Q I h
  refine wpAny_Call_Name_kw (ld_glob I hg hm ?_ hdb)
  refine PySem.W.callWith_KW0 (h₀ := X.base) I.ok.mod.kin hk hall (thn (hkw.run pos pins s σ H _ I h) fun ws s1 ⟨zs, H1, I1, rz, hl, q⟩ => ⟨I1.kIn, ?_⟩) hpl
  rw [hks]
  have hlw : ws.length = ks.length := by rw [← rz.length]; exact hl
  have go := G.run X.A X.stack s1 H1 ⟨[], ks.zip ws⟩ (g ws) (g zs) Q hr hgu I1.env0 (hb.to s1 ws I1.kIn hlw) (hb.vals hl rz) q
  refine wpAny_call (codeAny_mono go fun r s' hq => ?_)
  match r, hq with
  | .ok (.ret u), hq => exact I1.after hq
  | .ok .next, hq => exact (show False from hq).elim
  | .ok .brk, hq => exact (show False from hq).elim
  | .ok .cont, hq => exact (show False from hq).elim
  | .error e, hq => exact (show False from hq).elim
theorem se_callK0 {g : {α : Type} → List α → List α} {m : MF} {ml : MA} (k : Nat) (c : CalleeK F.prog F.w F.K F.mg F.base F.ft x ks g m k) (ha : SK F kws ml) (hlen : ∀ E C q, ml E C = some q → q.1.length = ks.length) (hk : k ≤ F.lv := by exact Nat.le_of_ble_eq_true rfl) (hg : F.sc.names.lookup x = some .globalImplicit := by rfl) (hdb : (x == ("__debug__" : Str)) = false := by decide)
    (hall : ∀ env : Env, (backToKw pos (keywordEach kws env)).all (·.1.isSome) = true := by intro _; rfl) (hks : ∀ env : Env, (backToKw pos (keywordEach kws env)).filterMap (·.1) = ks := by intro _; rfl)
    (hpl : ∀ env : Env, ((backTo pos (starEach [] env)).any (·.1) || (backToKw pos (keywordEach kws env)).any (·.1.isNone)) = false := by intro _; rfl) : SE F (.Call (.Name x p) [] kws pos) (mCallK g m ml) := by
  obtain ⟨f, fd, ps, hm, hkp, hb, G⟩ := c.ex
  obtain ⟨t, pt, st⟩ := ha
  refine ⟨tCallK0 (spM F.K F.ft ps.length m) ks.length g t, fun X h => ?_, fun ρ C H E σ d C' Q R eo hm2 kk => ?_⟩
  · exact pe_callK0 (by rw [h.prog, h.w, h.K, h.mg, h.base]; exact G) (h.rm.mono hk) h.gu (h.gl hg) (by rw [h.mg]; exact hm) (by rw [h.K]; exact hkp) (by rw [h.K]; exact hb) (pt X h) (hall _) (hks _) hdb (hpl _)
  · obtain ⟨⟨xs, C1⟩, h1, hm2⟩ := obind hm2
    have hl := hlen _ _ _ h1
    refine st ρ C H E σ xs C1 _ R eo h1 fun ρ1 H1 vs R1 s1 d1 => ?_
    refine ⟨by rw [← d1.length]; exact hl, ρ1, C1, g xs, d, C', R1, hb.dvs hl d1, hb.len hl, hm2, fun ρ' H' v R' s' dv => kk ρ' H' v R' (s1.trans s') dv⟩
end
end Mi
set_option Elab.async false
set_option linter.all false
set_option maxRecDepth 100000
set_option maxHeartbeats 4000000
namespace Mi
open PySem PySem.Spec PyProof.Rows L2
/-! ## the law's own call -/
section
variable {P : Program} {w : World} {K : PySem.W.Frag} {mg mb : Str → Option Value} {k : Nat} {fa a : Addr} {fd : FuncData} {x : Str} {sp : SpG} {s₁ : Shared} {vs : List Value} {ns : List Int}
abbrev LawEnd (s₁ : Shared) (r : Result) (s' : Shared) : Prop := r = .ok (.ret (.bool true)) ∧ OldK s₁.heap s'.heap ∧ s'.os = s₁.os ∧ AllBare s'.gens
/-- from an abstract heap that tracks nothing but, perhaps, the locked script -/
theorem law_core (KX : K.In s₁.heap) (hns : s₁.heap.Ns mainGlobals mg) (hb : s₁.heap.Ns builtinsNs mb) (hbb : ∀ x : Str, x ≠ "__name__" → mb x = bootBuiltins x) (hlim : s₁.heap.NoLimit) (hg : s₁.gens = #[])
    (ha : s₁.heap.get? a = some { cls := .type "list", data := .seq vs.toArray }) (hr : Room k callerA) (F : ∀ base : Heap, K.In base → base.Ns mainGlobals mg → FnG P w K mg base k fa fd [x] sp) (hbind : ∀ (s : Shared) (u : Value), BindsTo s fd ⟨[u], []⟩ [(x, u)])
    {H : Hp} (hO : Only H) (ok : HOk P w H s₁.heap) (hA : ∀ b, H b ≠ none → b = a) (hK : H a ≠ none → K.lookup a = none) (hsp : sp [.ref a] H fun v _ => v = .bl true) : codeAny (model P w) callerA (.call (.ref fa) ⟨[.ref a], []⟩) (LawEnd s₁) s₁ := by
  let B := hidT s₁.heap H
  have toB : ∀ {b o}, s₁.heap.get? b = some o → H b = none → B.get? b = some o := fun e n => hidT_get e n
  have only : ∀ {b}, H b ≠ none → s₁.heap.get? b = some { cls := .type "list", data := .seq vs.toArray } := fun h => hA _ h ▸ ha
  have dictFree : ∀ {b o es ep}, s₁.heap.get? b = some o → o.data = .dict es ep → H b = none := fun {b o es ep} e d => Classical.byContradiction fun h => by
    rw [only h] at e
    cases e
    exact nomatch d
  have nsB : ∀ {b m}, s₁.heap.Ns b m → B.Ns b m := fun {b m} q => by
    obtain ⟨o, es, ep, e, d, r⟩ := q
    exact ⟨o, es, ep, toB e (dictFree e d), d, r⟩
  have kB : K.In B := fun b o e => toB (KX b o e) (Classical.byContradiction fun h => by
    have hb := hA b h
    subst hb
    rw [hK h] at e
    cases e)
  obtain ⟨mc, c1, c2⟩ := hlim
  have e0 : Env0 P w K mg B callerA [] s₁ H := ⟨rfl, ⟨kB, nsB hns, ⟨mb, nsB hb, hbb⟩, ⟨mc, nsB c1, c2⟩⟩, fun b o e => of_hidT e, Nat.le_of_eq (hidT_size _ _), trivial, (fun b hb => by cases hb), ok, .of_eq hg⟩
  have go := (F B kB (nsB hns)).run callerA [] s₁ H ⟨[.ref a], []⟩ [.ref a] [.ref a] _ hr rfl e0 (hbind s₁ (.ref a)) (.cons rfl .nil) hsp
  refine codeAny_mono go fun r s' h => ?_
  match r, h with
  | .error e, h => exact (show False from h).elim
  | .ok .next, h => exact (show False from h).elim
  | .ok .brk, h => exact (show False from h).elim
  | .ok .cont, h => exact (show False from h).elim
  | .ok (.ret u), h =>
    obtain ⟨v, H', os, bare, un, ok', rv, rfl⟩ := h
    obtain rfl : u = Value.bool true := rv
    refine ⟨rfl, OldK.of_keep fun b o e => ?_, os, bare⟩
    rcases hO b with z | ⟨ob, xs, z⟩
    · exact un.keep b o e z (by intro q; cases q) (by simp)
    · have e1 := (ok b _ z).1
      have e2 := (ok' b _ (un.frzs b ob _ z)).1
      rw [e] at e1
      cases e1
      exact e2
theorem law_callG (KX : K.In s₁.heap) (hns : s₁.heap.Ns mainGlobals mg) (hb : s₁.heap.Ns builtinsNs mb) (hbb : ∀ x : Str, x ≠ "__name__" → mb x = bootBuiltins x) (hlim : s₁.heap.NoLimit) (hg : s₁.gens = #[])
    (ha : s₁.heap.get? a = some { cls := .type "list", data := .seq vs.toArray }) (hi : IntsAre vs ns) (hl : ns.length ≤ sizeLine) (hr : Room k callerA) (F : ∀ base : Heap, K.In base → base.Ns mainGlobals mg → FnG P w K mg base k fa fd [x] sp) (hbind : ∀ (s : Shared) (u : Value), BindsTo s fd ⟨[u], []⟩ [(x, u)])
    (hsp : ∀ H : Hp, SqR K H a (ns.map V.int) → sp [.ref a] H fun v _ => v = .bl true) : codeAny (model P w) callerA (.call (.ref fa) ⟨[.ref a], []⟩) (LawEnd s₁) s₁ := by
  have rv := vals_ints hi
  have hlen : vs.toArray.size ≤ sizeLine := by rw [List.size_toArray, hi.length]; exact hl
  cases hk : K.lookup a with
  | some o =>
    have e := KX a o hk
    rw [ha] at e
    cases e
    have sq : ∀ H : Hp, SqL K H a (ns.map V.int) := fun H => .inr ⟨_, vs.toArray, _, hk, rfl, rfl, rfl, hlen, by simpa using rv⟩
    exact law_core KX hns hb hbb hlim hg ha hr F hbind (H := fun _ => none) (fun _ => .inl rfl) (fun b u z => by cases z) (fun b z => absurd rfl z) (fun z => absurd rfl z) (hsp _ ⟨sq _, fun H' _ => sq H'⟩)
  | none =>
    have at_ : ∀ b, (fun b => if b = a then some (HO.frz { cls := .type "list", data := .seq vs.toArray } (.lst (ns.map V.int))) else none : Hp) b ≠ none → b = a := fun b h => Classical.byContradiction fun q => h (if_neg q)
    refine law_core KX hns hb hbb hlim hg ha hr F hbind (H := fun b => if b = a then some (.frz { cls := .type "list", data := .seq vs.toArray } (.lst (ns.map V.int))) else none) (fun b => ?_) (fun b u z => ?_) at_ (fun _ => hk) (hsp _ ⟨.inl (.inr ⟨_, if_pos rfl⟩), fun H' kp => .inl (.inr ⟨_, kp a _ _ (if_pos rfl)⟩)⟩)
    · by_cases h : b = a
      · exact .inr ⟨_, _, if_pos h⟩
      · exact .inl (if_neg h)
    · have h := at_ b (by rw [z]; simp)
      subst h
      have z' := (if_pos rfl).symm.trans z
      cases z'
      exact ⟨ha, by rw [List.length_map]; exact hl, vs, _, rv, ha⟩
end
/-- the end of a row: the law's def keeps its promise -/
theorem walkG {l : PySem.W.OpenLaw} {n k : Nat} {q : Program} {loose : List Str} {XP : (Str → Option Value) → Heap → Prop} {YP : World → Heap → Prop} {d : DefRec} {K : Params → PySem.W.Frag} {sp : PySem.W.Frag → SpG} {x : Str}
    (hn : l.most = some n) (hn2 : n ≤ sizeLine) (hdf : d.params.defaults = []) (hr : Room k callerA) (hY : ∀ (w : World) (h : Heap), YP w h → (K w.params).In h)
    (F : ∀ (w : World) (mg : Str → Option Value) (fa : Addr) (h : Heap), (K w.params).In h → h.Ns mainGlobals mg → mg d.name = some (.ref fa) → ∃ fd : FuncData, (∀ (s : Shared) (u : Value), BindsTo s fd ⟨[u], []⟩ [(x, u)]) ∧
        ∀ base : Heap, (K w.params).In base → base.Ns mainGlobals mg → FnG l.prog w (K w.params) mg base k fa fd [x] (sp (K w.params)))
    (hsp : ∀ (K : PySem.W.Frag) (H : Hp) (a : Addr) (ns : List Int), ns.length ≤ n → SqR K H a (ns.map V.int) → sp K [.ref a] H fun v _ => v = .bl true) : PySem.W.WalkO q loose XP YP l.row.toRowW d [] (fun f vs => PySem.call f vs) := by
  refine Att.attach_call hn hdf fun w s₀ s₁ mg mb fa o pm cd doc a vs ns G Y ho hd hcd hmg hobj hints hlen hg => ?_
  obtain ⟨fd, hb, hF⟩ := F w mg fa _ (hY w _ Y) G.T.g hmg
  exact law_callG (hY w _ Y) G.T.g G.T.b G.T.builtins G.T.nolimit hg hobj hints (Nat.le_trans hlen hn2) hr hF hb fun H sq => hsp _ H a ns hlen sq
/-- a law's def: its mirror gives True for every script -/
theorem spM_law {ft : Nat → Addr} {m : MF} {n : Nat} (h : ∀ ns : List Int, ns.length ≤ n → ∃ C', m [.rol ns] [] = some (.bl true, C')) (K : PySem.W.Frag) (H : Hp) (a : Addr) (ns : List Int) (hl : ns.length ≤ n) (sq : SqR K H a (ns.map V.int)) : spM K ft 1 m [.ref a] H fun v _ => v = .bl true := by
  obtain ⟨C', e⟩ := h ns hl
  exact ⟨[], [], [.rol ns], .bl true, C', Rel.nil, .cons (.rol sq) .nil, rfl, e, fun ρ' H' v _ _ dv => by cases dv; rfl⟩
/-! ## from a def of the text to what callers want -/
section
variable {F : Fm} {P : Program} {w : World} {K : PySem.W.Frag} {mg : Str → Option Value} {base : Heap} {ft : Nat → Addr}
theorem calleeOf {x qual : Str} {st : Stmt} {f : Addr} {fd : FuncData} {ps : List Str} {m : MF} {k : Nat} (Fu : Fun K x qual st f fd) (hm : mg x = some (.ref f)) (hb : Binds K fd ps []) (G : FnG P w K mg base k f fd ps (spM K ft ps.length m)) : Callee P w K mg base ft x ps.length m k :=
  ⟨f, fd, ps, [], [], [], hm, Fu.kp, hb, .nil, fun _ _ => .nil, m, G, rfl, fun xs C _ => by rw [List.append_nil]⟩
theorem tabOf {x qual : Str} {st : Stmt} {f : Addr} {fd : FuncData} {ps : List Str} {m : MF} {k : Nat} (i : Nat) (hf : ft i = f) (Fu : Fun K x qual st f fd) (hb : Binds K fd ps []) (G : FnG P w K mg base k f fd ps (spM K ft ps.length m)) : Tab P w K mg base ft ps.length (tab1 i m) k := by
  refine ⟨fun j m' e => ?_⟩
  unfold tab1 at e
  split at e
  · rename_i hj
    cases e
    subst hj
    rw [hf]
    exact ⟨fd, ps, Fu.kp, hb, rfl, G⟩
  · cases e
end
theorem mNil_len {E : Ev} {C : Hm} {q : List D × Hm} (h : mNil E C = some q) : q.1.length = 0 := by cases h; rfl
theorem mCons_len {me : ME} {ml : MA} {n : Nat} (hl : ∀ E C q, ml E C = some q → q.1.length = n) : ∀ E C q, mCons me ml E C = some q → q.1.length = n + 1 := fun E C q h => by
  obtain ⟨p, _, h⟩ := obind h
  obtain ⟨r, h2, h⟩ := obind h
  cases h
  simp [hl _ _ _ h2]
theorem len0 : ∀ E C q, mNil E C = some q → q.1.length = 0 := fun _ _ _ h => mNil_len h
end Mi
set_option Elab.async false
set_option linter.all false
set_option maxRecDepth 100000
set_option maxHeartbeats 4000000
namespace Mi
open PySem PySem.Spec PyProof.Rows L2
abbrev gId : {α : Type} → List α → List α := fun l => l
section
variable {P : Program} {w : World} {K : PySem.W.Frag} {mg : Str → Option Value} {base : Heap} {ft : Nat → Addr}
/-- nothing is promised -/
theorem fnG_none {f : Addr} {fd : FuncData} {ps : List Str} {k : Nat} : FnG P w K mg base k f fd ps (spM K ft ps.length fun _ _ => none) :=
  ⟨(fun vs H Q h => by obtain ⟨_, _, _, _, _, _, _, _, e, _⟩ := h; cases e), fun A outer s H args us vs Q _ _ _ _ _ h => by obtain ⟨_, _, _, _, _, _, _, _, e, _⟩ := h; cases e⟩
theorem calleeK_of {x qual : Str} {st : Stmt} {f : Addr} {fd : FuncData} {ps ks : List Str} {g : {α : Type} → List α → List α} {m : MF} {k : Nat} (Fu : Fun K x qual st f fd) (hm : mg x = some (.ref f)) (hb : KwB K fd ps ks g) (G : FnG P w K mg base k f fd ps (spM K ft ps.length m)) : CalleeK P w K mg base ft x ks g m k := ⟨f, fd, ps, hm, Fu.kp, hb, G⟩
end
/-- how many steps a loop of a mirror may take -/
abbrev fuel : Nat := 1000000
end Mi
namespace Mi
open PySem PySem.Spec PyProof.Rows L2
theorem FnG.imp {P : Program} {w : World} {K : PySem.W.Frag} {mg : Str → Option Value} {base : Heap} {k : Nat} {f : Addr} {fd : FuncData} {ps : List Str} {sp sp' : SpG} (F : FnG P w K mg base k f fd ps sp) (h : ∀ vs H Q, sp' vs H Q → sp vs H Q) : FnG P w K mg base k f fd ps sp' :=
  ⟨fun vs H Q q => F.len vs H Q (h _ _ _ q), fun A outer s H args us vs Q hr hg e b r q => F.run A outer s H args us vs Q hr hg e b r (h _ _ _ q)⟩
end Mi
set_option Elab.async false
set_option linter.all false
set_option maxRecDepth 100000
set_option maxHeartbeats 4000000
namespace G
open PySem PySem.Spec PyProof.Rows L2 Mi
def top (i : Nat) : Stmt := PySem.Challenge.pw_sealshelf_k01_kinds_told.main.body.getD i (.Pass ⟨0, 0, 0, 0⟩)
structure Txt (mg : Str → Option Value) (ft : Nat → Addr) : Prop where
  b_all : mg "all" = none
  b_bool : mg "bool" = none
  b_int : mg "int" = none
  b_isinstance : mg "isinstance" = none
  b_len : mg "len" = none
  b_list : mg "list" = none
  b_ord : mg "ord" = none
  b_range : mg "range" = none
  b_repr : mg "repr" = none
  b_sorted : mg "sorted" = none
  b_str : mg "str" = none
  b_tuple : mg "tuple" = none
  f_is_box : mg "is_box" = some (.ref (ft 1))
  f_is_hand : mg "is_hand" = some (.ref (ft 2))
  f_is_key : mg "is_key" = some (.ref (ft 0))
/-! is_number -/
abbrev S_is_number : Stmt := top 1
abbrev N_is_number : List Str := ["thing"]
abbrev P_is_number : List Str := ["thing"]
theorem scope_is_number : FnScope N_is_number P_is_number (defScope S_is_number) := ⟨rfl, rfl, rfl, by decide +kernel, rfl, by decide +kernel, by decide +kernel⟩
def B_is_number : MS :=
    (mRet (mAnd (mCallB isiD (mCons (mVar 0) (mCons (mC (.ty .int)) mNil))) (mAnd (mNot (mCallB isiD (mCons (mVar 0) (mCons (mC (.ty .bl)) mNil)))) (mBin dGe (mVar 0) (mC (.int 0))))))
def M_is_number : MF := mFn 1 1 (B_is_number)
theorem sb_is_number {P : Program} {w : World} {K : PySem.W.Frag} {mg : Str → Option Value} {base : Heap} {ft : Nat → Addr} (T : Txt mg ft)  : SB (fmOf P w K mg base ft S_is_number N_is_number 0) (defBody S_is_number) B_is_number :=
    (sb_one (ss_ret (se_and (se_callB sc_isi T.b_isinstance (by decide +kernel) (sa_cons (se_var 0) (sa_cons (se_ty .int T.b_int (by decide +kernel)) sa_nil))) (se_and (se_not (se_callB sc_isi T.b_isinstance (by decide +kernel) (sa_cons (se_var 0) (sa_cons (se_ty .bl T.b_bool (by decide +kernel)) sa_nil)))) (se_one (se_cmp so_ge (se_var 0) se_int))))))
/-! is_name -/
abbrev S_is_name : Stmt := top 2
abbrev N_is_name : List Str := ["thing", "letter"]
abbrev P_is_name : List Str := ["thing"]
theorem scope_is_name : FnScope N_is_name P_is_name (defScope S_is_name) := ⟨rfl, rfl, rfl, by decide +kernel, rfl, by decide +kernel, by decide +kernel⟩
def B_is_name : MS :=
    (mSeq (mIfS (tOrM (tNotM (mTru (mCallB isiD (mCons (mVar 0) (mCons (mC (.ty .str)) mNil))))) (tNotM (mTest (mChain dLe dLe (mC (.int 1)) (mCallB lenD (mCons (mVar 0) mNil)) (mC (.int 8)))))) (mRet (mC (.bl false))) mNext)
    (mRet (mCallB (allD fun bs => bs.all id) (mCons (mLc (mIAny (mVar 0)) (gN 1) mYes (mChain dLe dLe (mC (.str (Str.ofString "a"))) (mVar 1) (mC (.str (Str.ofString "z")))) [1]) mNil))))
def M_is_name : MF := mFn 1 2 (B_is_name)
theorem sb_is_name {P : Program} {w : World} {K : PySem.W.Frag} {mg : Str → Option Value} {base : Heap} {ft : Nat → Addr} (T : Txt mg ft)  : SB (fmOf P w K mg base ft S_is_name N_is_name 0) (defBody S_is_name) B_is_name :=
    (sb_cons (ss_if (st_w (sw_or (st_not (st_tru (se_callB sc_isi T.b_isinstance (by decide +kernel) (sa_cons (se_var 0) (sa_cons (se_ty .str T.b_str (by decide +kernel)) sa_nil))))) (sw_or1 (st_not (st_chain so_le so_le se_int (se_callB sc_len T.b_len (by decide +kernel) (sa_cons (se_var 0) sa_nil)) se_int))))) (sb_one (ss_ret se_bl)) sb_nil)
    (sb_one (ss_ret (se_callB sc_all T.b_all (by decide +kernel) (sa_cons (se_lc [((Str.ofString "letter"), 1)] (si_any (se_var 0)) (blkOk_by (by dsimp only [fmOf, Fm.blk]; decide +kernel)) (sg_name 1) spt_nil (se_chain so_le so_le se_str (se_var 1) se_str)) sa_nil)))))
/-! is_holder -/
abbrev S_is_holder : Stmt := top 3
abbrev N_is_holder : List Str := ["thing"]
abbrev P_is_holder : List Str := ["thing"]
theorem scope_is_holder : FnScope N_is_holder P_is_holder (defScope S_is_holder) := ⟨rfl, rfl, rfl, by decide +kernel, rfl, by decide +kernel, by decide +kernel⟩
def B_is_holder : MS :=
    (mRet (mAnd (mKeep (mCall M_is_name (mCons (mVar 0) mNil))) (mBin dNe (mVar 0) (mC (.str (Str.ofString "world"))))))
def M_is_holder : MF := mFn 1 1 (B_is_holder)
theorem sb_is_holder {P : Program} {w : World} {K : PySem.W.Frag} {mg : Str → Option Value} {base : Heap} {ft : Nat → Addr} (T : Txt mg ft) (c_is_name : Callee P w K mg base ft "is_name" 1 M_is_name 1) : SB (fmOf P w K mg base ft S_is_holder N_is_holder 1) (defBody S_is_holder) B_is_holder :=
    (sb_one (ss_ret (se_and (se_keep (se_call _ c_is_name (sa_cons (se_var 0) sa_nil) (mCons_len len0))) (se_one (se_cmp so_ne (se_var 0) se_str)))))
/-! is_key -/
abbrev S_is_key : Stmt := top 4
abbrev N_is_key : List Str := ["thing"]
abbrev P_is_key : List Str := ["thing"]
theorem scope_is_key : FnScope N_is_key P_is_key (defScope S_is_key) := ⟨rfl, rfl, rfl, by decide +kernel, rfl, by decide +kernel, by decide +kernel⟩
def B_is_key : MS :=
    (mRet (mKeep (mCall M_is_number (mCons (mVar 0) mNil))))
def M_is_key : MF := mFn 1 1 (B_is_key)
theorem sb_is_key {P : Program} {w : World} {K : PySem.W.Frag} {mg : Str → Option Value} {base : Heap} {ft : Nat → Addr} (T : Txt mg ft) (c_is_number : Callee P w K mg base ft "is_number" 1 M_is_number 1) : SB (fmOf P w K mg base ft S_is_key N_is_key 1) (defBody S_is_key) B_is_key :=
    (sb_one (ss_ret (se_keep (se_call _ c_is_number (sa_cons (se_var 0) sa_nil) (mCons_len len0)))))
/-! is_pair -/
abbrev S_is_pair : Stmt := top 7
abbrev N_is_pair : List Str := ["thing"]
abbrev P_is_pair : List Str := ["thing"]
theorem scope_is_pair : FnScope N_is_pair P_is_pair (defScope S_is_pair) := ⟨rfl, rfl, rfl, by decide +kernel, rfl, by decide +kernel, by decide +kernel⟩
def B_is_pair : MS :=
    (mRet (mAnd (mCallB isiD (mCons (mVar 0) (mCons (mC (.ty .tup)) mNil))) (mBin dEq (mCallB lenD (mCons (mVar 0) mNil)) (mC (.int 2)))))
def M_is_pair : MF := mFn 1 1 (B_is_pair)
theorem sb_is_pair {P : Program} {w : World} {K : PySem.W.Frag} {mg : Str → Option Value} {base : Heap} {ft : Nat → Addr} (T : Txt mg ft)  : SB (fmOf P w K mg base ft S_is_pair N_is_pair 0) (defBody S_is_pair) B_is_pair :=
    (sb_one (ss_ret (se_and (se_callB sc_isi T.b_isinstance (by decide +kernel) (sa_cons (se_var 0) (sa_cons (se_ty .tup T.b_tuple (by decide +kernel)) sa_nil))) (se_one (se_cmp so_eq (se_callB sc_len T.b_len (by decide +kernel) (sa_cons (se_var 0) sa_nil)) se_int)))))
/-! is_text -/
abbrev S_is_text : Stmt := top 5
abbrev N_is_text : List Str := ["thing"]
abbrev P_is_text : List Str := ["thing"]
theorem scope_is_text : FnScope N_is_text P_is_text (defScope S_is_text) := ⟨rfl, rfl, rfl, by decide +kernel, rfl, by decide +kernel, by decide +kernel⟩
def B_is_text : MS :=
    (mRet (mAnd (mKeep (mCall M_is_pair (mCons (mVar 0) mNil))) (mAnd (mKeep (mCall M_is_name (mCons (mBin ixD (mVar 0) (mC (.int 0))) mNil))) (mKeep (mCall M_is_number (mCons (mBin ixD (mVar 0) (mC (.int 1))) mNil))))))
def M_is_text : MF := mFn 1 1 (B_is_text)
theorem sb_is_text {P : Program} {w : World} {K : PySem.W.Frag} {mg : Str → Option Value} {base : Heap} {ft : Nat → Addr} (T : Txt mg ft) (c_is_pair : Callee P w K mg base ft "is_pair" 1 M_is_pair 1) (c_is_name : Callee P w K mg base ft "is_name" 1 M_is_name 1) (c_is_number : Callee P w K mg base ft "is_number" 1 M_is_number 1) : SB (fmOf P w K mg base ft S_is_text N_is_text 1) (defBody S_is_text) B_is_text :=
    (sb_one (ss_ret (se_and (se_keep (se_call _ c_is_pair (sa_cons (se_var 0) sa_nil) (mCons_len len0))) (se_and (se_keep (se_call _ c_is_name (sa_cons (se_ix six (se_var 0) se_int) sa_nil) (mCons_len len0))) (se_one (se_keep (se_call _ c_is_number (sa_cons (se_ix six (se_var 0) se_int) sa_nil) (mCons_len len0))))))))
/-! is_thing -/
abbrev S_is_thing : Stmt := top 6
abbrev N_is_thing : List Str := ["thing"]
abbrev P_is_thing : List Str := ["thing"]
theorem scope_is_thing : FnScope N_is_thing P_is_thing (defScope S_is_thing) := ⟨rfl, rfl, rfl, by decide +kernel, rfl, by decide +kernel, by decide +kernel⟩
def B_is_thing : MS :=
    (mRet (mOr (mKeep (mCall M_is_key (mCons (mVar 0) mNil))) (mKeep (mCall M_is_text (mCons (mVar 0) mNil)))))
def M_is_thing : MF := mFn 1 1 (B_is_thing)
theorem sb_is_thing {P : Program} {w : World} {K : PySem.W.Frag} {mg : Str → Option Value} {base : Heap} {ft : Nat → Addr} (T : Txt mg ft) (c_is_key : Callee P w K mg base ft "is_key" 1 M_is_key 2) (c_is_text : Callee P w K mg base ft "is_text" 1 M_is_text 2) : SB (fmOf P w K mg base ft S_is_thing N_is_thing 2) (defBody S_is_thing) B_is_thing :=
    (sb_one (ss_ret (se_or (se_keep (se_call _ c_is_key (sa_cons (se_var 0) sa_nil) (mCons_len len0))) (se_one (se_keep (se_call _ c_is_text (sa_cons (se_var 0) sa_nil) (mCons_len len0)))))))
/-! is_tuple_of -/
abbrev S_is_tuple_of : Stmt := top 8
abbrev N_is_tuple_of : List Str := ["is_kind", "thing", "part"]
abbrev P_is_tuple_of : List Str := ["is_kind", "thing"]
theorem scope_is_tuple_of : FnScope N_is_tuple_of P_is_tuple_of (defScope S_is_tuple_of) := ⟨rfl, rfl, rfl, by decide +kernel, rfl, by decide +kernel, by decide +kernel⟩
def B_is_tuple_of (tab : Nat → Option MF) : MS :=
    (mRet (mAnd (mCallB isiD (mCons (mVar 1) (mCons (mC (.ty .tup)) mNil))) (mCallB (allD fun bs => bs.all id) (mCons (mLc (mIAny (mVar 1)) (gN 2) mYes (mCallV 0 tab (mCons (mVar 2) mNil)) [2]) mNil))))
def M_is_tuple_of (tab : Nat → Option MF) : MF := mFn 2 3 (B_is_tuple_of tab)
theorem sb_is_tuple_of {P : Program} {w : World} {K : PySem.W.Frag} {mg : Str → Option Value} {base : Heap} {ft : Nat → Addr} {tab : Nat → Option MF} (T : Txt mg ft) (kt : Nat) (ht : Tab P w K mg base ft 1 tab kt) : SB (fmOf P w K mg base ft S_is_tuple_of N_is_tuple_of kt) (defBody S_is_tuple_of) (B_is_tuple_of tab) :=
    (sb_one (ss_ret (se_and (se_callB sc_isi T.b_isinstance (by decide +kernel) (sa_cons (se_var 1) (sa_cons (se_ty .tup T.b_tuple (by decide +kernel)) sa_nil))) (se_one (se_callB sc_all T.b_all (by decide +kernel) (sa_cons (se_lc [((Str.ofString "part"), 2)] (si_any (se_var 1)) (blkOk_by (by dsimp only [fmOf, Fm.blk]; decide +kernel)) (sg_name 2) spt_nil (se_callV 0 kt 1 ht (sa_cons (se_var 2) sa_nil) (mCons_len len0) (by exact Nat.le_refl _))) sa_nil))))))
/-! ascends -/
abbrev S_ascends : Stmt := top 9
abbrev N_ascends : List Str := ["row", "k"]
abbrev P_ascends : List Str := ["row"]
theorem scope_ascends : FnScope N_ascends P_ascends (defScope S_ascends) := ⟨rfl, rfl, rfl, by decide +kernel, rfl, by decide +kernel, by decide +kernel⟩
def B_ascends : MS :=
    (mRet (mCallB (allD fun bs => bs.all id) (mCons (mLc (mIRng2 (mCons (mC (.int 1)) (mCons (mCallB lenD (mCons (mVar 0) mNil)) mNil))) (gN 1) mYes (mBin dLt (mBin ixD (mVar 0) (mBin subD (mVar 1) (mC (.int 1)))) (mBin ixD (mVar 0) (mVar 1))) [1]) mNil)))
def M_ascends : MF := mFn 1 2 (B_ascends)
theorem sb_ascends {P : Program} {w : World} {K : PySem.W.Frag} {mg : Str → Option Value} {base : Heap} {ft : Nat → Addr} (T : Txt mg ft)  : SB (fmOf P w K mg base ft S_ascends N_ascends 0) (defBody S_ascends) B_ascends :=
    (sb_one (ss_ret (se_callB sc_all T.b_all (by decide +kernel) (sa_cons (se_lc [((Str.ofString "k"), 1)] (si_range2 T.b_range (sa_cons se_int (sa_cons (se_callB sc_len T.b_len (by decide +kernel) (sa_cons (se_var 0) sa_nil)) sa_nil))) (blkOk_by (by dsimp only [fmOf, Fm.blk]; decide +kernel)) (sg_name 1) spt_nil (se_cmp so_lt (se_ix six (se_var 0) (se_op so_sub (se_var 1) se_int)) (se_ix six (se_var 0) (se_var 1)))) sa_nil))))
/-! is_keys -/
abbrev S_is_keys : Stmt := top 10
abbrev N_is_keys : List Str := ["thing"]
abbrev P_is_keys : List Str := ["thing"]
theorem scope_is_keys : FnScope N_is_keys P_is_keys (defScope S_is_keys) := ⟨rfl, rfl, rfl, by decide +kernel, rfl, by decide +kernel, by decide +kernel⟩
def B_is_keys : MS :=
    (mRet (mAnd (mKeep (mCall (M_is_tuple_of (tab1 0 M_is_key)) (mCons (mC (.fn 0)) (mCons (mVar 0) mNil)))) (mKeep (mCall M_ascends (mCons (mVar 0) mNil)))))
def M_is_keys : MF := mFn 1 1 (B_is_keys)
theorem sb_is_keys {P : Program} {w : World} {K : PySem.W.Frag} {mg : Str → Option Value} {base : Heap} {ft : Nat → Addr} (T : Txt mg ft) (c_is_tuple_of_at_is_key : Callee P w K mg base ft "is_tuple_of" 2 (M_is_tuple_of (tab1 0 M_is_key)) 3) (c_ascends : Callee P w K mg base ft "ascends" 1 M_ascends 1) : SB (fmOf P w K mg base ft S_is_keys N_is_keys 3) (defBody S_is_keys) B_is_keys :=
    (sb_one (ss_ret (se_and (se_keep (se_call _ c_is_tuple_of_at_is_key (sa_cons (se_fn 0 T.f_is_key) (sa_cons (se_var 0) sa_nil)) (mCons_len (mCons_len len0)))) (se_one (se_keep (se_call _ c_ascends (sa_cons (se_var 0) sa_nil) (mCons_len len0)))))))
/-! is_box -/
abbrev S_is_box : Stmt := top 11
abbrev N_is_box : List Str := ["thing"]
abbrev P_is_box : List Str := ["thing"]
theorem scope_is_box : FnScope N_is_box P_is_box (defScope S_is_box) := ⟨rfl, rfl, rfl, by decide +kernel, rfl, by decide +kernel, by decide +kernel⟩
def B_is_box : MS :=
    (mSeq (mIfS (tOrM (tNotM (mTru (mKeep (mCall M_is_pair (mCons (mVar 0) mNil))))) (tOrM (tNotM (mTru (mKeep (mCall M_is_thing (mCons (mBin ixD (mVar 0) (mC (.int 0))) mNil))))) (tNotM (mTru (mKeep (mCall M_is_keys (mCons (mBin ixD (mVar 0) (mC (.int 1))) mNil))))))) (mRet (mC (.bl false))) mNext)
    (mRet (mAnd (mBin dGt (mCallB lenD (mCons (mBin ixD (mVar 0) (mC (.int 1))) mNil)) (mC (.int 0))) (mBin (inD true) (mBin ixD (mVar 0) (mC (.int 0))) (mBin ixD (mVar 0) (mC (.int 1)))))))
def M_is_box : MF := mFn 1 1 (B_is_box)
theorem sb_is_box {P : Program} {w : World} {K : PySem.W.Frag} {mg : Str → Option Value} {base : Heap} {ft : Nat → Addr} (T : Txt mg ft) (c_is_pair : Callee P w K mg base ft "is_pair" 1 M_is_pair 1) (c_is_thing : Callee P w K mg base ft "is_thing" 1 M_is_thing 3) (c_is_keys : Callee P w K mg base ft "is_keys" 1 M_is_keys 4) : SB (fmOf P w K mg base ft S_is_box N_is_box 4) (defBody S_is_box) B_is_box :=
    (sb_cons (ss_if (st_w (sw_or (st_not (st_tru (se_keep (se_call _ c_is_pair (sa_cons (se_var 0) sa_nil) (mCons_len len0))))) (sw_or (st_not (st_tru (se_keep (se_call _ c_is_thing (sa_cons (se_ix six (se_var 0) se_int) sa_nil) (mCons_len len0))))) (sw_or1 (st_not (st_tru (se_keep (se_call _ c_is_keys (sa_cons (se_ix six (se_var 0) se_int) sa_nil) (mCons_len len0))))))))) (sb_one (ss_ret se_bl)) sb_nil)
    (sb_one (ss_ret (se_and (se_cmp so_gt (se_callB sc_len T.b_len (by decide +kernel) (sa_cons (se_ix six (se_var 0) se_int) sa_nil)) se_int) (se_one (se_cmp so_notIn (se_ix six (se_var 0) se_int) (se_ix six (se_var 0) se_int)))))))
/-! is_boxes -/
abbrev S_is_boxes : Stmt := top 12
abbrev N_is_boxes : List Str := ["thing"]
abbrev P_is_boxes : List Str := ["thing"]
theorem scope_is_boxes : FnScope N_is_boxes P_is_boxes (defScope S_is_boxes) := ⟨rfl, rfl, rfl, by decide +kernel, rfl, by decide +kernel, by decide +kernel⟩
def B_is_boxes : MS :=
    (mRet (mKeep (mCall (M_is_tuple_of (tab1 1 M_is_box)) (mCons (mC (.fn 1)) (mCons (mVar 0) mNil)))))
def M_is_boxes : MF := mFn 1 1 (B_is_boxes)
theorem sb_is_boxes {P : Program} {w : World} {K : PySem.W.Frag} {mg : Str → Option Value} {base : Heap} {ft : Nat → Addr} (T : Txt mg ft) (c_is_tuple_of_at_is_box : Callee P w K mg base ft "is_tuple_of" 2 (M_is_tuple_of (tab1 1 M_is_box)) 6) : SB (fmOf P w K mg base ft S_is_boxes N_is_boxes 6) (defBody S_is_boxes) B_is_boxes :=
    (sb_one (ss_ret (se_keep (se_call _ c_is_tuple_of_at_is_box (sa_cons (se_fn 1 T.f_is_box) (sa_cons (se_var 0) sa_nil)) (mCons_len (mCons_len len0))))))
/-! is_hand -/
abbrev S_is_hand : Stmt := top 13
abbrev N_is_hand : List Str := ["thing"]
abbrev P_is_hand : List Str := ["thing"]
theorem scope_is_hand : FnScope N_is_hand P_is_hand (defScope S_is_hand) := ⟨rfl, rfl, rfl, by decide +kernel, rfl, by decide +kernel, by decide +kernel⟩
def B_is_hand : MS :=
    (mRet (mAnd (mKeep (mCall M_is_pair (mCons (mVar 0) mNil))) (mAnd (mKeep (mCall M_is_holder (mCons (mBin ixD (mVar 0) (mC (.int 0))) mNil))) (mKeep (mCall M_is_keys (mCons (mBin ixD (mVar 0) (mC (.int 1))) mNil))))))
def M_is_hand : MF := mFn 1 1 (B_is_hand)
theorem sb_is_hand {P : Program} {w : World} {K : PySem.W.Frag} {mg : Str → Option Value} {base : Heap} {ft : Nat → Addr} (T : Txt mg ft) (c_is_pair : Callee P w K mg base ft "is_pair" 1 M_is_pair 1) (c_is_holder : Callee P w K mg base ft "is_holder" 1 M_is_holder 2) (c_is_keys : Callee P w K mg base ft "is_keys" 1 M_is_keys 4) : SB (fmOf P w K mg base ft S_is_hand N_is_hand 4) (defBody S_is_hand) B_is_hand :=
    (sb_one (ss_ret (se_and (se_keep (se_call _ c_is_pair (sa_cons (se_var 0) sa_nil) (mCons_len len0))) (se_and (se_keep (se_call _ c_is_holder (sa_cons (se_ix six (se_var 0) se_int) sa_nil) (mCons_len len0))) (se_one (se_keep (se_call _ c_is_keys (sa_cons (se_ix six (se_var 0) se_int) sa_nil) (mCons_len len0))))))))
/-! is_shelf -/
abbrev S_is_shelf : Stmt := top 14
abbrev N_is_shelf : List Str := ["thing", "hand"]
abbrev P_is_shelf : List Str := ["thing"]
theorem scope_is_shelf : FnScope N_is_shelf P_is_shelf (defScope S_is_shelf) := ⟨rfl, rfl, rfl, by decide +kernel, rfl, by decide +kernel, by decide +kernel⟩
def B_is_shelf : MS :=
    (mSeq (mIfS (tOrM (tNotM (mTru (mKeep (mCall M_is_pair (mCons (mVar 0) mNil))))) (tOrM (tNotM (mTru (mKeep (mCall (M_is_tuple_of (tab1 2 M_is_hand)) (mCons (mC (.fn 2)) (mCons (mBin ixD (mVar 0) (mC (.int 0))) mNil)))))) (tNotM (mTru (mKeep (mCall M_is_boxes (mCons (mBin ixD (mVar 0) (mC (.int 1))) mNil))))))) (mRet (mC (.bl false))) mNext)
    (mRet (mKeep (mCall M_ascends (mCons (mLc (mIAny (mBin ixD (mVar 0) (mC (.int 0)))) (gN 1) mYes (mBin ixD (mVar 1) (mC (.int 0))) [1]) mNil)))))
def M_is_shelf : MF := mFn 1 2 (B_is_shelf)
theorem sb_is_shelf {P : Program} {w : World} {K : PySem.W.Frag} {mg : Str → Option Value} {base : Heap} {ft : Nat → Addr} (T : Txt mg ft) (c_ascends : Callee P w K mg base ft "ascends" 1 M_ascends 1) (c_is_pair : Callee P w K mg base ft "is_pair" 1 M_is_pair 1) (c_is_tuple_of_at_is_hand : Callee P w K mg base ft "is_tuple_of" 2 (M_is_tuple_of (tab1 2 M_is_hand)) 6) (c_is_boxes : Callee P w K mg base ft "is_boxes" 1 M_is_boxes 7) : SB (fmOf P w K mg base ft S_is_shelf N_is_shelf 7) (defBody S_is_shelf) B_is_shelf :=
    (sb_cons (ss_if (st_w (sw_or (st_not (st_tru (se_keep (se_call _ c_is_pair (sa_cons (se_var 0) sa_nil) (mCons_len len0))))) (sw_or (st_not (st_tru (se_keep (se_call _ c_is_tuple_of_at_is_hand (sa_cons (se_fn 2 T.f_is_hand) (sa_cons (se_ix six (se_var 0) se_int) sa_nil)) (mCons_len (mCons_len len0)))))) (sw_or1 (st_not (st_tru (se_keep (se_call _ c_is_boxes (sa_cons (se_ix six (se_var 0) se_int) sa_nil) (mCons_len len0))))))))) (sb_one (ss_ret se_bl)) sb_nil)
    (sb_one (ss_ret (se_keep (se_call _ c_ascends (sa_cons (se_lc [((Str.ofString "hand"), 1)] (si_any (se_ix six (se_var 0) se_int)) (blkOk_by (by dsimp only [fmOf, Fm.blk]; decide +kernel)) (sg_name 1) spt_nil (se_ix six (se_var 1) se_int)) sa_nil) (mCons_len len0))))))
/-! _law_feed -/
abbrev S_law_feed : Stmt := top 16
abbrev N_law_feed : List Str := ["_law_script"]
abbrev P_law_feed : List Str := ["_law_script"]
theorem scope_law_feed : FnScope N_law_feed P_law_feed (defScope S_law_feed) := ⟨rfl, rfl, rfl, by decide +kernel, rfl, by decide +kernel, by decide +kernel⟩
def B_law_feed : MS :=
    (mRet (mDisp [(Str.ofString "cells"), (Str.ofString "at"), (Str.ofString "left"), (Str.ofString "count")] (mCons (mCallB listD (mCons (mSl slD (mVar 0) oNone (oSome (mC (.int 63)))) mNil)) (mCons (mC (.int 0)) (mCons (mC (.int 0)) (mCons (mC (.int 0)) mNil))))))
def M_law_feed : MF := mFn 1 1 (B_law_feed)
theorem sb_law_feed {P : Program} {w : World} {K : PySem.W.Frag} {mg : Str → Option Value} {base : Heap} {ft : Nat → Addr} (T : Txt mg ft)  : SB (fmOf P w K mg base ft S_law_feed N_law_feed 0) (defBody S_law_feed) B_law_feed :=
    (sb_one (ss_ret (se_disp (sds_cons (se_callTy sc_list T.b_list (by decide +kernel) (sa_cons (se_slice ssl (se_var 0) so_none (so_some se_int)) sa_nil)) (sds_cons se_int (sds_cons se_int (sds_cons se_int sds_nil)))) rfl rfl (by simp) (by decide) (by decide +kernel) (by decide))))
/-! _law_draw -/
abbrev S_law_draw : Stmt := top 17
abbrev N_law_draw : List Str := ["_law_feed_here", "_law_many", "_law_digit", "_law_spot", "_law_cell", "_law_mixed"]
abbrev P_law_draw : List Str := ["_law_feed_here", "_law_many"]
theorem scope_law_draw : FnScope N_law_draw P_law_draw (defScope S_law_draw) := ⟨rfl, rfl, rfl, by decide +kernel, rfl, by decide +kernel, by decide +kernel⟩
def B_law_draw : MS :=
    (mSeq (mDPut (mBin addD (mBin dgetD (mVar 0) (mC (.str (Str.ofString "count")))) (mC (.int 1))) (mVar 0) (mC (.str (Str.ofString "count"))))
    (mSeq (mIfS (mTest (mBin dGt (mBin dgetD (mVar 0) (mC (.str (Str.ofString "left")))) (mC (.int 0)))) (mSeq (mAsg (mBin modD (mCallB intC (mCons (mBin dgetD (mVar 0) (mC (.str (Str.ofString "left")))) mNil)) (mVar 1)) (gN 2))
    (mSeq (mDPut (mBin fdivD (mBin dgetD (mVar 0) (mC (.str (Str.ofString "left")))) (mVar 1)) (mVar 0) (mC (.str (Str.ofString "left"))))
    (mRet (mVar 2)))) mNext)
    (mSeq (mAsg (mBin dgetD (mVar 0) (mC (.str (Str.ofString "at")))) (gN 3))
    (mSeq (mDPut (mBin addD (mVar 3) (mC (.int 1))) (mVar 0) (mC (.str (Str.ofString "at"))))
    (mSeq (mAsg (mIf (mTest (mBin dNe (mBin dgetD (mVar 0) (mC (.str (Str.ofString "cells")))) (mLst mNil))) (mBin ixD (mBin dgetD (mVar 0) (mC (.str (Str.ofString "cells")))) (mBin modD (mCallB intC (mCons (mVar 3) mNil)) (mCallB lenD (mCons (mBin dgetD (mVar 0) (mC (.str (Str.ofString "cells")))) mNil)))) (mC (.int 59))) (gN 4))
    (mSeq (mIfS (tAndM (mTest (mBin dGe (mVar 4) (mBin powD (mC (.int 10)) (mC (.int 18))))) (mTest (mBin dLt (mVar 3) (mCallB lenD (mCons (mBin dgetD (mVar 0) (mC (.str (Str.ofString "cells")))) mNil))))) (mSeq (mDPut (mBin fdivD (mVar 4) (mVar 1)) (mVar 0) (mC (.str (Str.ofString "left"))))
    (mRet (mBin modD (mCallB intC (mCons (mVar 4) mNil)) (mVar 1)))) mNext)
    (mSeq (mAsg (mBin modD (mCallB intC (mCons (mBin addD (mBin addD (mBin modD (mCallB intC (mCons (mVar 4) mNil)) (mC (.int 1000000427))) (mBin mulD (mC (.int 130003)) (mBin dgetD (mVar 0) (mC (.str (Str.ofString "count")))))) (mC (.int 61))) mNil)) (mC (.int 2147483399))) (gN 5))
    (mSeq (mAsg (mBin modD (mCallB intC (mCons (mBin addD (mBin addD (mBin mulD (mVar 5) (mVar 5)) (mBin mulD (mC (.int 3900017)) (mBin dgetD (mVar 0) (mC (.str (Str.ofString "count")))))) (mC (.int 29))) mNil)) (mC (.int 2147483353))) (gN 5))
    (mRet (mBin modD (mCallB intC (mCons (mBin fdivD (mBin modD (mCallB intC (mCons (mBin addD (mBin mulD (mVar 5) (mVar 5)) (mBin mulD (mC (.int 97)) (mVar 5))) mNil)) (mC (.int 2147483323))) (mC (.int 16))) mNil)) (mVar 1)))))))))))
def M_law_draw : MF := mFn 2 6 (B_law_draw)
theorem sb_law_draw {P : Program} {w : World} {K : PySem.W.Frag} {mg : Str → Option Value} {base : Heap} {ft : Nat → Addr} (T : Txt mg ft)  : SB (fmOf P w K mg base ft S_law_draw N_law_draw 0) (defBody S_law_draw) B_law_draw :=
    (sb_cons (ss_dput (se_var 0) se_str (se_op so_add (se_dget (se_var 0) se_str) se_int))
    (sb_cons (ss_if (st_cmp so_gt (se_dget (se_var 0) se_str) se_int) (sb_cons (ss_set 2 (se_op so_mod (se_callTy sc_int T.b_int (by decide +kernel) (sa_cons (se_dget (se_var 0) se_str) sa_nil)) (se_var 1)))
    (sb_cons (ss_dput (se_var 0) se_str (se_op so_fdiv (se_dget (se_var 0) se_str) (se_var 1)))
    (sb_one (ss_ret (se_var 2))))) sb_nil)
    (sb_cons (ss_set 3 (se_dget (se_var 0) se_str))
    (sb_cons (ss_dput (se_var 0) se_str (se_op so_add (se_var 3) se_int))
    (sb_cons (ss_set 4 (se_if (st_cmp so_ne (se_dget (se_var 0) se_str) (se_lst sa_nil)) (se_ix six (se_dget (se_var 0) se_str) (se_op so_mod (se_callTy sc_int T.b_int (by decide +kernel) (sa_cons (se_var 3) sa_nil)) (se_callB sc_len T.b_len (by decide +kernel) (sa_cons (se_dget (se_var 0) se_str) sa_nil)))) se_int))
    (sb_cons (ss_if (st_w (sw_and (st_cmp so_ge (se_var 4) (se_op so_pow se_int se_int)) (sw_and1 (st_cmp so_lt (se_var 3) (se_callB sc_len T.b_len (by decide +kernel) (sa_cons (se_dget (se_var 0) se_str) sa_nil)))))) (sb_cons (ss_dput (se_var 0) se_str (se_op so_fdiv (se_var 4) (se_var 1)))
    (sb_one (ss_ret (se_op so_mod (se_callTy sc_int T.b_int (by decide +kernel) (sa_cons (se_var 4) sa_nil)) (se_var 1))))) sb_nil)
    (sb_cons (ss_set 5 (se_op so_mod (se_callTy sc_int T.b_int (by decide +kernel) (sa_cons (se_op so_add (se_op so_add (se_op so_mod (se_callTy sc_int T.b_int (by decide +kernel) (sa_cons (se_var 4) sa_nil)) se_int) (se_op so_mul se_int (se_dget (se_var 0) se_str))) se_int) sa_nil)) se_int))
    (sb_cons (ss_set 5 (se_op so_mod (se_callTy sc_int T.b_int (by decide +kernel) (sa_cons (se_op so_add (se_op so_add (se_op so_mul (se_var 5) (se_var 5)) (se_op so_mul se_int (se_dget (se_var 0) se_str))) se_int) sa_nil)) se_int))
    (sb_one (ss_ret (se_op so_mod (se_callTy sc_int T.b_int (by decide +kernel) (sa_cons (se_op so_fdiv (se_op so_mod (se_callTy sc_int T.b_int (by decide +kernel) (sa_cons (se_op so_add (se_op so_mul (se_var 5) (se_var 5)) (se_op so_mul se_int (se_var 5))) sa_nil)) se_int) se_int) sa_nil)) (se_var 1))))))))))))
/-! _law_key -/
abbrev S_law_key : Stmt := top 18
abbrev N_law_key : List Str := ["_law_item"]
abbrev P_law_key : List Str := ["_law_item"]
theorem scope_law_key : FnScope N_law_key P_law_key (defScope S_law_key) := ⟨rfl, rfl, rfl, by decide +kernel, rfl, by decide +kernel, by decide +kernel⟩
def B_law_key : MS :=
    (mRet (mAnd (mCallB isiD (mCons (mVar 0) (mCons (mC (.ty .int)) mNil))) (mAnd (mNot (mCallB isiD (mCons (mVar 0) (mCons (mC (.ty .bl)) mNil)))) (mBin dGe (mVar 0) (mC (.int 0))))))
def M_law_key : MF := mFn 1 1 (B_law_key)
theorem sb_law_key {P : Program} {w : World} {K : PySem.W.Frag} {mg : Str → Option Value} {base : Heap} {ft : Nat → Addr} (T : Txt mg ft)  : SB (fmOf P w K mg base ft S_law_key N_law_key 0) (defBody S_law_key) B_law_key :=
    (sb_one (ss_ret (se_and (se_callB sc_isi T.b_isinstance (by decide +kernel) (sa_cons (se_var 0) (sa_cons (se_ty .int T.b_int (by decide +kernel)) sa_nil))) (se_and (se_not (se_callB sc_isi T.b_isinstance (by decide +kernel) (sa_cons (se_var 0) (sa_cons (se_ty .bl T.b_bool (by decide +kernel)) sa_nil)))) (se_one (se_cmp so_ge (se_var 0) se_int))))))
/-! _law_named -/
abbrev S_law_named : Stmt := top 19
abbrev N_law_named : List Str := ["_law_item", "_law_sign"]
abbrev P_law_named : List Str := ["_law_item"]
theorem scope_law_named : FnScope N_law_named P_law_named (defScope S_law_named) := ⟨rfl, rfl, rfl, by decide +kernel, rfl, by decide +kernel, by decide +kernel⟩
def B_law_named : MS :=
    (mSeq (mIfS (tOrM (tNotM (mTru (mCallB isiD (mCons (mVar 0) (mCons (mC (.ty .str)) mNil))))) (tNotM (mTest (mChain dLt dLt (mC (.int 0)) (mCallB lenD (mCons (mVar 0) mNil)) (mC (.int 9)))))) (mRet (mC (.bl false))) mNext)
    (mRet (mBin dEq (mLc (mIAny (mVar 0)) (gN 1) (tNotM (mTest (mChain dLe dLe (mC (.int 97)) (mCallB ordC (mCons (mVar 1) mNil)) (mC (.int 122))))) (mVar 1) [1]) (mLst mNil))))
def M_law_named : MF := mFn 1 2 (B_law_named)
theorem sb_law_named {P : Program} {w : World} {K : PySem.W.Frag} {mg : Str → Option Value} {base : Heap} {ft : Nat → Addr} (T : Txt mg ft)  : SB (fmOf P w K mg base ft S_law_named N_law_named 0) (defBody S_law_named) B_law_named :=
    (sb_cons (ss_if (st_w (sw_or (st_not (st_tru (se_callB sc_isi T.b_isinstance (by decide +kernel) (sa_cons (se_var 0) (sa_cons (se_ty .str T.b_str (by decide +kernel)) sa_nil))))) (sw_or1 (st_not (st_chain so_lt so_lt se_int (se_callB sc_len T.b_len (by decide +kernel) (sa_cons (se_var 0) sa_nil)) se_int))))) (sb_one (ss_ret se_bl)) sb_nil)
    (sb_one (ss_ret (se_cmp so_eq (se_lc [((Str.ofString "_law_sign"), 1)] (si_any (se_var 0)) (blkOk_by (by dsimp only [fmOf, Fm.blk]; decide +kernel)) (sg_name 1) (spt_one (st_not (st_chain so_le so_le se_int (se_callB sc_ord T.b_ord (by decide +kernel) (sa_cons (se_var 1) sa_nil)) se_int))) (se_var 1)) (se_lst sa_nil)))))
/-! _law_page -/
abbrev S_law_page : Stmt := top 20
abbrev N_law_page : List Str := ["_law_item"]
abbrev P_law_page : List Str := ["_law_item"]
theorem scope_law_page : FnScope N_law_page P_law_page (defScope S_law_page) := ⟨rfl, rfl, rfl, by decide +kernel, rfl, by decide +kernel, by decide +kernel⟩
def B_law_page : MS :=
    (mRet (mAnd (mCallB isiD (mCons (mVar 0) (mCons (mC (.ty .tup)) mNil))) (mAnd (mBin dEq (mCallB lenD (mCons (mVar 0) mNil)) (mC (.int 2))) (mAnd (mKeep (mCall M_law_named (mCons (mBin ixD (mVar 0) (mC (.int 0))) mNil))) (mKeep (mCall M_law_key (mCons (mBin ixD (mVar 0) (mC (.int 1))) mNil)))))))
def M_law_page : MF := mFn 1 1 (B_law_page)
theorem sb_law_page {P : Program} {w : World} {K : PySem.W.Frag} {mg : Str → Option Value} {base : Heap} {ft : Nat → Addr} (T : Txt mg ft) (c_law_named : Callee P w K mg base ft "_law_named" 1 M_law_named 1) (c_law_key : Callee P w K mg base ft "_law_key" 1 M_law_key 1) : SB (fmOf P w K mg base ft S_law_page N_law_page 1) (defBody S_law_page) B_law_page :=
    (sb_one (ss_ret (se_and (se_callB sc_isi T.b_isinstance (by decide +kernel) (sa_cons (se_var 0) (sa_cons (se_ty .tup T.b_tuple (by decide +kernel)) sa_nil))) (se_and (se_cmp so_eq (se_callB sc_len T.b_len (by decide +kernel) (sa_cons (se_var 0) sa_nil)) se_int) (se_and (se_keep (se_call _ c_law_named (sa_cons (se_ix six (se_var 0) se_int) sa_nil) (mCons_len len0))) (se_one (se_keep (se_call _ c_law_key (sa_cons (se_ix six (se_var 0) se_int) sa_nil) (mCons_len len0)))))))))
/-! _law_rises -/
abbrev S_law_rises : Stmt := top 21
abbrev N_law_rises : List Str := ["_law_some", "_law_k"]
abbrev P_law_rises : List Str := ["_law_some"]
theorem scope_law_rises : FnScope N_law_rises P_law_rises (defScope S_law_rises) := ⟨rfl, rfl, rfl, by decide +kernel, rfl, by decide +kernel, by decide +kernel⟩
def B_law_rises : MS :=
    (mRet (mBin dEq (mLc (mIRng2 (mCons (mC (.int 1)) (mCons (mCallB lenD (mCons (mVar 0) mNil)) mNil))) (gN 1) (mTest (mBin dGe (mBin ixD (mVar 0) (mBin subD (mVar 1) (mC (.int 1)))) (mBin ixD (mVar 0) (mVar 1)))) (mVar 1) [1]) (mLst mNil)))
def M_law_rises : MF := mFn 1 2 (B_law_rises)
theorem sb_law_rises {P : Program} {w : World} {K : PySem.W.Frag} {mg : Str → Option Value} {base : Heap} {ft : Nat → Addr} (T : Txt mg ft)  : SB (fmOf P w K mg base ft S_law_rises N_law_rises 0) (defBody S_law_rises) B_law_rises :=
    (sb_one (ss_ret (se_cmp so_eq (se_lc [((Str.ofString "_law_k"), 1)] (si_range2 T.b_range (sa_cons se_int (sa_cons (se_callB sc_len T.b_len (by decide +kernel) (sa_cons (se_var 0) sa_nil)) sa_nil))) (blkOk_by (by dsimp only [fmOf, Fm.blk]; decide +kernel)) (sg_name 1) (spt_one (st_cmp so_ge (se_ix six (se_var 0) (se_op so_sub (se_var 1) se_int)) (se_ix six (se_var 0) (se_var 1)))) (se_var 1)) (se_lst sa_nil))))
/-! _law_keyed -/
abbrev S_law_keyed : Stmt := top 22
abbrev N_law_keyed : List Str := ["_law_item", "_law_one"]
abbrev P_law_keyed : List Str := ["_law_item"]
theorem scope_law_keyed : FnScope N_law_keyed P_law_keyed (defScope S_law_keyed) := ⟨rfl, rfl, rfl, by decide +kernel, rfl, by decide +kernel, by decide +kernel⟩
def B_law_keyed : MS :=
    (mRet (mAnd (mCallB isiD (mCons (mVar 0) (mCons (mC (.ty .tup)) mNil))) (mAnd (mBin dEq (mLc (mIAny (mVar 0)) (gN 1) (tNotM (mTru (mKeep (mCall M_law_key (mCons (mVar 1) mNil))))) (mVar 1) [1]) (mLst mNil)) (mKeep (mCall M_law_rises (mCons (mVar 0) mNil))))))
def M_law_keyed : MF := mFn 1 2 (B_law_keyed)
theorem sb_law_keyed {P : Program} {w : World} {K : PySem.W.Frag} {mg : Str → Option Value} {base : Heap} {ft : Nat → Addr} (T : Txt mg ft) (c_law_key : Callee P w K mg base ft "_law_key" 1 M_law_key 1) (c_law_rises : Callee P w K mg base ft "_law_rises" 1 M_law_rises 1) : SB (fmOf P w K mg base ft S_law_keyed N_law_keyed 1) (defBody S_law_keyed) B_law_keyed :=
    (sb_one (ss_ret (se_and (se_callB sc_isi T.b_isinstance (by decide +kernel) (sa_cons (se_var 0) (sa_cons (se_ty .tup T.b_tuple (by decide +kernel)) sa_nil))) (se_and (se_cmp so_eq (se_lc [((Str.ofString "_law_one"), 1)] (si_any (se_var 0)) (blkOk_by (by dsimp only [fmOf, Fm.blk]; decide +kernel)) (sg_name 1) (spt_one (st_not (st_tru (se_keep (se_call _ c_law_key (sa_cons (se_var 1) sa_nil) (mCons_len len0)))))) (se_var 1)) (se_lst sa_nil)) (se_one (se_keep (se_call _ c_law_rises (sa_cons (se_var 0) sa_nil) (mCons_len len0))))))))
/-! _law_boxed -/
abbrev S_law_boxed : Stmt := top 23
abbrev N_law_boxed : List Str := ["_law_item"]
abbrev P_law_boxed : List Str := ["_law_item"]
theorem scope_law_boxed : FnScope N_law_boxed P_law_boxed (defScope S_law_boxed) := ⟨rfl, rfl, rfl, by decide +kernel, rfl, by decide +kernel, by decide +kernel⟩
def B_law_boxed : MS :=
    (mSeq (mIfS (tOrM (tNotM (mTru (mCallB isiD (mCons (mVar 0) (mCons (mC (.ty .tup)) mNil))))) (tOrM (mTest (mBin dNe (mCallB lenD (mCons (mVar 0) mNil)) (mC (.int 2)))) (tOrM (tNotM (mTru (mKeep (mCall M_law_keyed (mCons (mBin ixD (mVar 0) (mC (.int 1))) mNil))))) (mTest (mBin dEq (mBin ixD (mVar 0) (mC (.int 1))) (mTup mNil)))))) (mRet (mC (.bl false))) mNext)
    (mRet (mOr (mKeep (mCall M_law_page (mCons (mBin ixD (mVar 0) (mC (.int 0))) mNil))) (mAnd (mKeep (mCall M_law_key (mCons (mBin ixD (mVar 0) (mC (.int 0))) mNil))) (mBin (inD true) (mBin ixD (mVar 0) (mC (.int 0))) (mBin ixD (mVar 0) (mC (.int 1))))))))
def M_law_boxed : MF := mFn 1 1 (B_law_boxed)
theorem sb_law_boxed {P : Program} {w : World} {K : PySem.W.Frag} {mg : Str → Option Value} {base : Heap} {ft : Nat → Addr} (T : Txt mg ft) (c_law_page : Callee P w K mg base ft "_law_page" 1 M_law_page 2) (c_law_key : Callee P w K mg base ft "_law_key" 1 M_law_key 1) (c_law_keyed : Callee P w K mg base ft "_law_keyed" 1 M_law_keyed 2) : SB (fmOf P w K mg base ft S_law_boxed N_law_boxed 2) (defBody S_law_boxed) B_law_boxed :=
    (sb_cons (ss_if (st_w (sw_or (st_not (st_tru (se_callB sc_isi T.b_isinstance (by decide +kernel) (sa_cons (se_var 0) (sa_cons (se_ty .tup T.b_tuple (by decide +kernel)) sa_nil))))) (sw_or (st_cmp so_ne (se_callB sc_len T.b_len (by decide +kernel) (sa_cons (se_var 0) sa_nil)) se_int) (sw_or (st_not (st_tru (se_keep (se_call _ c_law_keyed (sa_cons (se_ix six (se_var 0) se_int) sa_nil) (mCons_len len0))))) (sw_or1 (st_cmp so_eq (se_ix six (se_var 0) se_int) (se_tup sa_nil))))))) (sb_one (ss_ret se_bl)) sb_nil)
    (sb_one (ss_ret (se_or (se_keep (se_call _ c_law_page (sa_cons (se_ix six (se_var 0) se_int) sa_nil) (mCons_len len0))) (se_one (se_and (se_keep (se_call _ c_law_key (sa_cons (se_ix six (se_var 0) se_int) sa_nil) (mCons_len len0))) (se_one (se_cmp so_notIn (se_ix six (se_var 0) se_int) (se_ix six (se_var 0) se_int)))))))))
/-! _law_grip -/
abbrev S_law_grip : Stmt := top 24
abbrev N_law_grip : List Str := ["_law_feed_here", "_law_many", "_law_most", "_law_pool", "_law_found", "_law_k"]
abbrev P_law_grip : List Str := ["_law_feed_here", "_law_many", "_law_most"]
theorem scope_law_grip : FnScope N_law_grip P_law_grip (defScope S_law_grip) := ⟨rfl, rfl, rfl, by decide +kernel, rfl, by decide +kernel, by decide +kernel⟩
def B_law_grip : MS :=
    (mSeq (mPar 3 4 (mCons (mLstRg (mR1 (mVar 1))) (mCons (mLst mNil) mNil)))
    (mSeq (mFor (mIRng1 (mCons (mKeep (mCall M_law_draw (mCons (mVar 0) (mCons (mBin addD (mVar 2) (mC (.int 1))) mNil)))) mNil)) (gN 5) (mDrop (mMeth "list" appendD (mVar 4) (mCons (mMeth "list" popD (mVar 3) (mCons (mKeep (mCall M_law_draw (mCons (mVar 0) (mCons (mCallB lenD (mCons (mVar 3) mNil)) mNil)))) mNil)) mNil))))
    (mRet (mCallB tupleD (mCons (mCallB sortedD (mCons (mVar 4) mNil)) mNil)))))
def M_law_grip : MF := mFn 3 6 (B_law_grip)
theorem sb_law_grip {P : Program} {w : World} {K : PySem.W.Frag} {mg : Str → Option Value} {base : Heap} {ft : Nat → Addr} (T : Txt mg ft) (c_law_draw : Callee P w K mg base ft "_law_draw" 2 M_law_draw 1) : SB (fmOf P w K mg base ft S_law_grip N_law_grip 1) (defBody S_law_grip) B_law_grip :=
    (sb_cons (ss_par 3 4 (sa_cons (se_listRg T.b_list (sr_1 T.b_range (se_var 1))) (sa_cons (se_lst sa_nil) sa_nil)) (by decide) (hw := fun env h => by cases env; cases h; rfl))
    (sb_cons (ss_for (si_range1 T.b_range (sa_cons (se_keep (se_call _ c_law_draw (sa_cons (se_var 0) (sa_cons (se_op so_add (se_var 2) se_int) sa_nil)) (mCons_len (mCons_len len0)))) sa_nil)) (sg_name 5) (sb_one (ss_expr (se_bm PySem.F.plainAttrs_list PySem.F.slot_list_append PySem.F.type_list_append sm_append (se_var 4) (sa_cons (se_bm PySem.F.plainAttrs_list PySem.F.slot_list_pop PySem.F.type_list_pop sm_pop (se_var 3) (sa_cons (se_keep (se_call _ c_law_draw (sa_cons (se_var 0) (sa_cons (se_callB sc_len T.b_len (by decide +kernel) (sa_cons (se_var 3) sa_nil)) sa_nil)) (mCons_len (mCons_len len0)))) sa_nil)) sa_nil)))))
    (sb_one (ss_ret (se_callTy sc_tuple T.b_tuple (by decide +kernel) (sa_cons (se_callB sc_sorted T.b_sorted (by decide +kernel) (sa_cons (se_var 4) sa_nil)) sa_nil))))))
/-! _law_lot -/
abbrev S_law_lot : Stmt := top 25
abbrev N_law_lot : List Str := ["_law_feed_here", "_law_size", "_law_many", "_law_found", "_law_k", "_law_goal", "_law_pool", "_law_some", "_law_key_in", "_law_near", "_law_one", "_law_j", "_law_menu"]
abbrev P_law_lot : List Str := ["_law_feed_here", "_law_size", "_law_many"]
theorem scope_law_lot : FnScope N_law_lot P_law_lot (defScope S_law_lot) := ⟨rfl, rfl, rfl, by decide +kernel, rfl, by decide +kernel, by decide +kernel⟩
def B_law_lot : MS :=
    (mSeq (mAsg (mLst mNil) (gN 3))
    (mSeq (mFor (mIRng1 (mCons (mVar 1) mNil)) (gN 4) (mSeq (mIfS (tAndM (mTest (mBin dNe (mVar 3) (mLst mNil))) (mTest (mBin dEq (mKeep (mCall M_law_draw (mCons (mVar 0) (mCons (mC (.int 9)) mNil)))) (mC (.int 0))))) (mSeq (mDrop (mMeth "list" appendD (mVar 3) (mCons (mBin ixD (mVar 3) (mKeep (mCall M_law_draw (mCons (mVar 0) (mCons (mCallB lenD (mCons (mVar 3) mNil)) mNil))))) mNil)))
    mCont) mNext)
    (mSeq (mAsg (mKeep (mCall M_law_draw (mCons (mVar 0) (mCons (mVar 2) mNil)))) (gN 5))
    (mSeq (mIfS (mTest (mBin dEq (mKeep (mCall M_law_draw (mCons (mVar 0) (mCons (mC (.int 4)) mNil)))) (mC (.int 0)))) (mAsg (mTup (mCons (mBin ixD (mLst (mCons (mC (.str (Str.ofString "memo"))) (mCons (mC (.str (Str.ofString "a"))) (mCons (mC (.str (Str.ofString "world"))) mNil)))) (mKeep (mCall M_law_draw (mCons (mVar 0) (mCons (mC (.int 3)) mNil))))) (mCons (mKeep (mCall M_law_draw (mCons (mVar 0) (mCons (mC (.int 2)) mNil)))) mNil))) (gN 5)) mNext)
    (mSeq (mPar 6 7 (mCons (mLc (mIRng1 (mCons (mVar 2) mNil)) (gN 8) (mTest (mBin dNe (mVar 8) (mVar 5))) (mVar 8) [8]) (mCons (mLst mNil) mNil)))
    (mSeq (mAsg (mBin addD (mLst (mCons (mC (.int 0)) (mCons (mC (.int 1)) mNil))) (mLc (mIAny (mVar 3)) (gN 10) mYes (mBin ixD (mVar 10) (mC (.int 0))) [10])) (gN 9))
    (mSeq (mFor (mIRng1 (mCons (mBin ixD (mLst (mCons (mC (.int 1)) (mCons (mC (.int 1)) (mCons (mC (.int 1)) (mCons (mC (.int 2)) (mCons (mC (.int 2)) (mCons (mC (.int 3)) mNil))))))) (mKeep (mCall M_law_draw (mCons (mVar 0) (mCons (mC (.int 6)) mNil))))) mNil)) (gN 11) (mSeq (mAsg (mIf (mTest (mBin dGt (mKeep (mCall M_law_draw (mCons (mVar 0) (mCons (mC (.int 4)) mNil)))) (mC (.int 0)))) (mLc (mIAny (mVar 6)) (gN 8) (mTest (mBin (inD false) (mVar 8) (mVar 9))) (mVar 8) [8]) (mVar 6)) (gN 12))
    (mSeq (mDrop (mMeth "list" appendD (mVar 7) (mCons (mIf (mTest (mBin dNe (mVar 12) (mLst mNil))) (mBin ixD (mVar 12) (mKeep (mCall M_law_draw (mCons (mVar 0) (mCons (mCallB lenD (mCons (mVar 12) mNil)) mNil))))) (mBin ixD (mVar 6) (mC (.int 0)))) mNil)))
    (mDrop (mRem (mVar 6) (mBin ixD (mVar 7) (mUn negD (mC (.int 1)))))))))
    (mDrop (mMeth "list" appendD (mVar 3) (mCons (mTup (mCons (mVar 5) (mCons (mCallB tupleD (mCons (mCallB sortedD (mCons (mVar 7) mNil)) mNil)) mNil))) mNil))))))))))
    (mRet (mCallB tupleD (mCons (mIf (mTest (mBin dEq (mKeep (mCall M_law_draw (mCons (mVar 0) (mCons (mC (.int 2)) mNil)))) (mC (.int 0)))) (mSl3 (mVar 3) oNone oNone (oSome (mUn negD (mC (.int 1))))) (mVar 3)) mNil)))))
def M_law_lot : MF := mFn 3 13 (B_law_lot)
theorem sb_law_lot {P : Program} {w : World} {K : PySem.W.Frag} {mg : Str → Option Value} {base : Heap} {ft : Nat → Addr} (T : Txt mg ft) (c_law_draw : Callee P w K mg base ft "_law_draw" 2 M_law_draw 1) : SB (fmOf P w K mg base ft S_law_lot N_law_lot 1) (defBody S_law_lot) B_law_lot :=
    (sb_cons (ss_set 3 (se_lst sa_nil))
    (sb_cons (ss_for (si_range1 T.b_range (sa_cons (se_var 1) sa_nil)) (sg_name 4) (sb_cons (ss_if (st_w (sw_and (st_cmp so_ne (se_var 3) (se_lst sa_nil)) (sw_and1 (st_cmp so_eq (se_keep (se_call _ c_law_draw (sa_cons (se_var 0) (sa_cons se_int sa_nil)) (mCons_len (mCons_len len0)))) se_int)))) (sb_cons (ss_expr (se_bm PySem.F.plainAttrs_list PySem.F.slot_list_append PySem.F.type_list_append sm_append (se_var 3) (sa_cons (se_ix six (se_var 3) (se_keep (se_call _ c_law_draw (sa_cons (se_var 0) (sa_cons (se_callB sc_len T.b_len (by decide +kernel) (sa_cons (se_var 3) sa_nil)) sa_nil)) (mCons_len (mCons_len len0))))) sa_nil)))
    (sb_one ss_continue)) sb_nil)
    (sb_cons (ss_set 5 (se_keep (se_call _ c_law_draw (sa_cons (se_var 0) (sa_cons (se_var 2) sa_nil)) (mCons_len (mCons_len len0)))))
    (sb_cons (ss_if (st_cmp so_eq (se_keep (se_call _ c_law_draw (sa_cons (se_var 0) (sa_cons se_int sa_nil)) (mCons_len (mCons_len len0)))) se_int) (sb_one (ss_set 5 (se_tup (sa_cons (se_ix six (se_lst (sa_cons se_str (sa_cons se_str (sa_cons se_str sa_nil)))) (se_keep (se_call _ c_law_draw (sa_cons (se_var 0) (sa_cons se_int sa_nil)) (mCons_len (mCons_len len0))))) (sa_cons (se_keep (se_call _ c_law_draw (sa_cons (se_var 0) (sa_cons se_int sa_nil)) (mCons_len (mCons_len len0)))) sa_nil))))) sb_nil)
    (sb_cons (ss_par 6 7 (sa_cons (se_lc [((Str.ofString "_law_key_in"), 8)] (si_range1 T.b_range (sa_cons (se_var 2) sa_nil)) (blkOk_by (by dsimp only [fmOf, Fm.blk]; decide +kernel)) (sg_name 8) (spt_one (st_cmp so_ne (se_var 8) (se_var 5))) (se_var 8)) (sa_cons (se_lst sa_nil) sa_nil)) (by decide) (hw := fun env h => by cases env; cases h; rfl))
    (sb_cons (ss_set 9 (se_op so_add (se_lst (sa_cons se_int (sa_cons se_int sa_nil))) (se_lc [((Str.ofString "_law_one"), 10)] (si_any (se_var 3)) (blkOk_by (by dsimp only [fmOf, Fm.blk]; decide +kernel)) (sg_name 10) spt_nil (se_ix six (se_var 10) se_int))))
    (sb_cons (ss_for (si_range1 T.b_range (sa_cons (se_ix six (se_lst (sa_cons se_int (sa_cons se_int (sa_cons se_int (sa_cons se_int (sa_cons se_int (sa_cons se_int sa_nil))))))) (se_keep (se_call _ c_law_draw (sa_cons (se_var 0) (sa_cons se_int sa_nil)) (mCons_len (mCons_len len0))))) sa_nil)) (sg_name 11) (sb_cons (ss_set 12 (se_if (st_cmp so_gt (se_keep (se_call _ c_law_draw (sa_cons (se_var 0) (sa_cons se_int sa_nil)) (mCons_len (mCons_len len0)))) se_int) (se_lc [((Str.ofString "_law_key_in"), 8)] (si_any (se_var 6)) (blkOk_by (by dsimp only [fmOf, Fm.blk]; decide +kernel)) (sg_name 8) (spt_one (st_cmp so_in (se_var 8) (se_var 9))) (se_var 8)) (se_var 6)))
    (sb_cons (ss_expr (se_bm PySem.F.plainAttrs_list PySem.F.slot_list_append PySem.F.type_list_append sm_append (se_var 7) (sa_cons (se_if (st_cmp so_ne (se_var 12) (se_lst sa_nil)) (se_ix six (se_var 12) (se_keep (se_call _ c_law_draw (sa_cons (se_var 0) (sa_cons (se_callB sc_len T.b_len (by decide +kernel) (sa_cons (se_var 12) sa_nil)) sa_nil)) (mCons_len (mCons_len len0))))) (se_ix six (se_var 6) se_int)) sa_nil)))
    (sb_one (ss_expr (se_remove (se_var 6) (se_ix six (se_var 7) (se_un su_neg se_int))))))))
    (sb_one (ss_expr (se_bm PySem.F.plainAttrs_list PySem.F.slot_list_append PySem.F.type_list_append sm_append (se_var 3) (sa_cons (se_tup (sa_cons (se_var 5) (sa_cons (se_callTy sc_tuple T.b_tuple (by decide +kernel) (sa_cons (se_callB sc_sorted T.b_sorted (by decide +kernel) (sa_cons (se_var 7) sa_nil)) sa_nil)) sa_nil))) sa_nil)))))))))))
    (sb_one (ss_ret (se_callTy sc_tuple T.b_tuple (by decide +kernel) (sa_cons (se_if (st_cmp so_eq (se_keep (se_call _ c_law_draw (sa_cons (se_var 0) (sa_cons se_int sa_nil)) (mCons_len (mCons_len len0)))) se_int) (se_sl3 (se_var 3) so_none so_none (so_some (se_un su_neg se_int))) (se_var 3)) sa_nil))))))
/-! _law_odd -/
abbrev S_law_odd : Stmt := top 26
abbrev N_law_odd : List Str := ["_law_feed_here", "_law_odd_here"]
abbrev P_law_odd : List Str := ["_law_feed_here"]
theorem scope_law_odd : FnScope N_law_odd P_law_odd (defScope S_law_odd) := ⟨rfl, rfl, rfl, by decide +kernel, rfl, by decide +kernel, by decide +kernel⟩
def B_law_odd : MS :=
    (mSeq (mAsg (mLst (mCons (mC .non) (mCons (mC (.bl true)) (mCons (mC (.bl false)) (mCons (mC (.int 0)) (mCons (mUn negD (mC (.int 1))) (mCons (mC (.int 1)) (mCons (mC (.str (Str.ofString ""))) (mCons (mC (.str (Str.ofString "a"))) (mCons (mC (.str (Str.ofString "world"))) (mCons (mTup mNil) (mCons (mLst mNil) (mCons (mTup (mCons (mTup mNil) (mCons (mTup mNil) mNil))) (mCons (mTup (mCons (mC (.str (Str.ofString "memo"))) (mCons (mC (.int 0)) mNil))) (mCons (mC (.int 9)) (mCons (mTup (mCons (mC (.int 0)) mNil)) (mCons (mTup (mCons (mC (.str (Str.ofString "a"))) mNil)) mNil))))))))))))))))) (gN 1))
    (mRet (mBin ixD (mVar 1) (mKeep (mCall M_law_draw (mCons (mVar 0) (mCons (mC (.int 16)) mNil)))))))
def M_law_odd : MF := mFn 1 2 (B_law_odd)
theorem sb_law_odd {P : Program} {w : World} {K : PySem.W.Frag} {mg : Str → Option Value} {base : Heap} {ft : Nat → Addr} (T : Txt mg ft) (c_law_draw : Callee P w K mg base ft "_law_draw" 2 M_law_draw 1) : SB (fmOf P w K mg base ft S_law_odd N_law_odd 1) (defBody S_law_odd) B_law_odd :=
    (sb_cons (ss_set 1 (se_lst (sa_cons se_non (sa_cons se_bl (sa_cons se_bl (sa_cons se_int (sa_cons (se_un su_neg se_int) (sa_cons se_int (sa_cons se_str (sa_cons se_str (sa_cons se_str (sa_cons (se_tup sa_nil) (sa_cons (se_lst sa_nil) (sa_cons (se_tup (sa_cons (se_tup sa_nil) (sa_cons (se_tup sa_nil) sa_nil))) (sa_cons (se_tup (sa_cons se_str (sa_cons se_int sa_nil))) (sa_cons se_int (sa_cons (se_tup (sa_cons se_int sa_nil)) (sa_cons (se_tup (sa_cons se_str sa_nil)) sa_nil))))))))))))))))))
    (sb_one (ss_ret (se_ix six (se_var 1) (se_keep (se_call _ c_law_draw (sa_cons (se_var 0) (sa_cons se_int sa_nil)) (mCons_len (mCons_len len0))))))))
/-! _law_bent -/
abbrev S_law_bent : Stmt := top 27
abbrev N_law_bent : List Str := ["_law_feed_here", "_law_item", "_law_spot", "_law_way", "_law_some"]
abbrev P_law_bent : List Str := ["_law_feed_here", "_law_item"]
theorem scope_law_bent : FnScope N_law_bent P_law_bent (defScope S_law_bent) := ⟨rfl, rfl, rfl, by decide +kernel, rfl, by decide +kernel, by decide +kernel⟩
def B_law_bent (M_law_bent : Nat → MF) (n : Nat) : MS :=
    (mSeq (mIfS (tAndM (mTru (mCallB isiD (mCons (mVar 1) (mCons (mC (.ty .tup)) mNil)))) (tAndM (mTest (mBin dNe (mVar 1) (mTup mNil))) (mTest (mBin dGt (mKeep (mCall M_law_draw (mCons (mVar 0) (mCons (mC (.int 5)) mNil)))) (mC (.int 0)))))) (mSeq (mAsg (mKeep (mCall M_law_draw (mCons (mVar 0) (mCons (mCallB lenD (mCons (mVar 1) mNil)) mNil)))) (gN 2))
    (mRet (mBin addD (mBin addD (mSl slD (mVar 1) oNone (oSome (mVar 2))) (mTup (mCons (mCall (M_law_bent n) (mCons (mVar 0) (mCons (mBin ixD (mVar 1) (mVar 2)) mNil))) mNil))) (mSl slD (mVar 1) (oSome (mBin addD (mVar 2) (mC (.int 1)))) oNone)))) mNext)
    (mSeq (mAsg (mKeep (mCall M_law_draw (mCons (mVar 0) (mCons (mC (.int 9)) mNil)))) (gN 3))
    (mSeq (mIfS (tAndM (mTru (mCallB isiD (mCons (mVar 1) (mCons (mC (.ty .tup)) mNil)))) (mTest (mBin dLt (mVar 3) (mC (.int 7))))) (mSeq (mAsg (mLst (mCons (mCallB listD (mCons (mVar 1) mNil)) (mCons (mSl slD (mVar 1) (oSome (mC (.int 1))) oNone) (mCons (mSl slD (mVar 1) oNone (oSome (mUn negD (mC (.int 1))))) (mCons (mBin addD (mVar 1) (mSl slD (mVar 1) (oSome (mUn negD (mC (.int 1)))) oNone)) mNil))))) (gN 4))
    (mRet (mBin ixD (mBin addD (mVar 4) (mLst (mCons (mSl3 (mVar 1) oNone oNone (oSome (mUn negD (mC (.int 1))))) (mCons (mTup (mCons (mVar 1) mNil)) (mCons (mBin addD (mVar 1) (mTup (mCons (mC .non) mNil))) mNil))))) (mVar 3)))) mNext)
    (mSeq (mIfS (tAndM (mTru (mCallB isiD (mCons (mVar 1) (mCons (mC (.ty .str)) mNil)))) (mTest (mBin dLt (mVar 3) (mC (.int 6))))) (mRet (mBin ixD (mLst (mCons (mBin addD (mVar 1) (mC (.str (Str.ofString "a")))) (mCons (mSl slD (mVar 1) oNone (oSome (mUn negD (mC (.int 1))))) (mCons (mMeth "str" upperD (mVar 1) mNil) (mCons (mBin addD (mVar 1) (mC (.str (Str.ofString " ")))) (mCons (mLst (mCons (mVar 1) mNil)) (mCons (mBin addD (mVar 1) (mC (.str (Str.ofString "abcdefgh")))) mNil))))))) (mVar 3))) mNext)
    (mSeq (mIfS (tAndM (mTru (mCallB isiD (mCons (mVar 1) (mCons (mC (.ty .int)) mNil)))) (mTest (mBin dLt (mVar 3) (mC (.int 6))))) (mRet (mBin ixD (mLst (mCons (mBin addD (mVar 1) (mC (.int 1))) (mCons (mBin subD (mVar 1) (mC (.int 1))) (mCons (mBin dEq (mVar 1) (mC (.int 1))) (mCons (mCallB strC (mCons (mVar 1) mNil)) (mCons (mBin subD (mC (.int 0)) (mVar 1)) (mCons (mLst (mCons (mVar 1) mNil)) mNil))))))) (mVar 3))) mNext)
    (mRet (mCall M_law_odd (mCons (mVar 0) mNil))))))))
def M_law_bent : Nat → MF
  | 0 => fun _ _ => none
  | n + 1 => mFn 2 5 (B_law_bent (fun _ => M_law_bent n) n)
theorem sb_law_bent {P : Program} {w : World} {K : PySem.W.Frag} {mg : Str → Option Value} {base : Heap} {ft : Nat → Addr} (T : Txt mg ft) {n : Nat} (c_law_bent : Callee P w K mg base ft "_law_bent" 2 (M_law_bent n) (2 + n)) (c_law_odd : Callee P w K mg base ft "_law_odd" 1 M_law_odd 2) (c_law_draw : Callee P w K mg base ft "_law_draw" 2 M_law_draw 1) : SB (fmOf P w K mg base ft S_law_bent N_law_bent (2 + n)) (defBody S_law_bent) (B_law_bent (fun _ => M_law_bent n) n) :=
    (sb_cons (ss_if (st_w (sw_and (st_tru (se_callB sc_isi T.b_isinstance (by decide +kernel) (sa_cons (se_var 1) (sa_cons (se_ty .tup T.b_tuple (by decide +kernel)) sa_nil)))) (sw_and (st_cmp so_ne (se_var 1) (se_tup sa_nil)) (sw_and1 (st_cmp so_gt (se_keep (se_call (hk := by show _ ≤ 2 + n; omega) _ c_law_draw (sa_cons (se_var 0) (sa_cons se_int sa_nil)) (mCons_len (mCons_len len0)))) se_int))))) (sb_cons (ss_set 2 (se_keep (se_call (hk := by show _ ≤ 2 + n; omega) _ c_law_draw (sa_cons (se_var 0) (sa_cons (se_callB sc_len T.b_len (by decide +kernel) (sa_cons (se_var 1) sa_nil)) sa_nil)) (mCons_len (mCons_len len0)))))
    (sb_one (ss_ret (se_op so_add (se_op so_add (se_slice ssl (se_var 1) so_none (so_some (se_var 2))) (se_tup (sa_cons (se_call (hk := by show _ ≤ 2 + n; omega) _ c_law_bent (sa_cons (se_var 0) (sa_cons (se_ix six (se_var 1) (se_var 2)) sa_nil)) (mCons_len (mCons_len len0))) sa_nil))) (se_slice ssl (se_var 1) (so_some (se_op so_add (se_var 2) se_int)) so_none))))) sb_nil)
    (sb_cons (ss_set 3 (se_keep (se_call (hk := by show _ ≤ 2 + n; omega) _ c_law_draw (sa_cons (se_var 0) (sa_cons se_int sa_nil)) (mCons_len (mCons_len len0)))))
    (sb_cons (ss_if (st_w (sw_and (st_tru (se_callB sc_isi T.b_isinstance (by decide +kernel) (sa_cons (se_var 1) (sa_cons (se_ty .tup T.b_tuple (by decide +kernel)) sa_nil)))) (sw_and1 (st_cmp so_lt (se_var 3) se_int)))) (sb_cons (ss_set 4 (se_lst (sa_cons (se_callTy sc_list T.b_list (by decide +kernel) (sa_cons (se_var 1) sa_nil)) (sa_cons (se_slice ssl (se_var 1) (so_some se_int) so_none) (sa_cons (se_slice ssl (se_var 1) so_none (so_some (se_un su_neg se_int))) (sa_cons (se_op so_add (se_var 1) (se_slice ssl (se_var 1) (so_some (se_un su_neg se_int)) so_none)) sa_nil))))))
    (sb_one (ss_ret (se_ix six (se_op so_add (se_var 4) (se_lst (sa_cons (se_sl3 (se_var 1) so_none so_none (so_some (se_un su_neg se_int))) (sa_cons (se_tup (sa_cons (se_var 1) sa_nil)) (sa_cons (se_op so_add (se_var 1) (se_tup (sa_cons se_non sa_nil))) sa_nil))))) (se_var 3))))) sb_nil)
    (sb_cons (ss_if (st_w (sw_and (st_tru (se_callB sc_isi T.b_isinstance (by decide +kernel) (sa_cons (se_var 1) (sa_cons (se_ty .str T.b_str (by decide +kernel)) sa_nil)))) (sw_and1 (st_cmp so_lt (se_var 3) se_int)))) (sb_one (ss_ret (se_ix six (se_lst (sa_cons (se_op so_add (se_var 1) se_str) (sa_cons (se_slice ssl (se_var 1) so_none (so_some (se_un su_neg se_int))) (sa_cons (se_bm0 PySem.F.plainAttrs_str PySem.F.slot_str_upper PySem.F.type_str_upper sm_upper (se_var 1)) (sa_cons (se_op so_add (se_var 1) se_str) (sa_cons (se_lst (sa_cons (se_var 1) sa_nil)) (sa_cons (se_op so_add (se_var 1) se_str) sa_nil))))))) (se_var 3)))) sb_nil)
    (sb_cons (ss_if (st_w (sw_and (st_tru (se_callB sc_isi T.b_isinstance (by decide +kernel) (sa_cons (se_var 1) (sa_cons (se_ty .int T.b_int (by decide +kernel)) sa_nil)))) (sw_and1 (st_cmp so_lt (se_var 3) se_int)))) (sb_one (ss_ret (se_ix six (se_lst (sa_cons (se_op so_add (se_var 1) se_int) (sa_cons (se_op so_sub (se_var 1) se_int) (sa_cons (se_cmp so_eq (se_var 1) se_int) (sa_cons (se_callTy sc_str T.b_str (by decide +kernel) (sa_cons (se_var 1) sa_nil)) (sa_cons (se_op so_sub se_int (se_var 1)) (sa_cons (se_lst (sa_cons (se_var 1) sa_nil)) sa_nil))))))) (se_var 3)))) sb_nil)
    (sb_one (ss_ret (se_call (hk := by show _ ≤ 2 + n; omega) _ c_law_odd (sa_cons (se_var 0) sa_nil) (mCons_len len0)))))))))
/-! _law_shelved -/
abbrev S_law_shelved : Stmt := top 28
abbrev N_law_shelved : List Str := ["_law_item", "_law_one", "_law_names"]
abbrev P_law_shelved : List Str := ["_law_item"]
theorem scope_law_shelved : FnScope N_law_shelved P_law_shelved (defScope S_law_shelved) := ⟨rfl, rfl, rfl, by decide +kernel, rfl, by decide +kernel, by decide +kernel⟩
def B_law_shelved : MS :=
    (mSeq (mIfS (tOrM (tNotM (mTru (mCallB isiD (mCons (mVar 0) (mCons (mC (.ty .tup)) mNil))))) (mTest (mBin dNe (mCallB lenD (mCons (mVar 0) mNil)) (mC (.int 2))))) (mRet (mC (.bl false))) mNext)
    (mSeq (mIfS (tOrM (tNotM (mTru (mCallB isiD (mCons (mBin ixD (mVar 0) (mC (.int 0))) (mCons (mC (.ty .tup)) mNil))))) (tNotM (mTru (mCallB isiD (mCons (mBin ixD (mVar 0) (mC (.int 1))) (mCons (mC (.ty .tup)) mNil)))))) (mRet (mC (.bl false))) mNext)
    (mSeq (mFor (mIAny (mBin ixD (mVar 0) (mC (.int 0)))) (gN 1) (mIfS (tOrM (tNotM (mTru (mCallB isiD (mCons (mVar 1) (mCons (mC (.ty .tup)) mNil))))) (tOrM (mTest (mBin dNe (mCallB lenD (mCons (mVar 1) mNil)) (mC (.int 2)))) (tOrM (tNotM (mTru (mKeep (mCall M_law_named (mCons (mBin ixD (mVar 1) (mC (.int 0))) mNil))))) (tNotM (mTru (mKeep (mCall M_law_keyed (mCons (mBin ixD (mVar 1) (mC (.int 1))) mNil)))))))) (mRet (mC (.bl false))) mNext))
    (mSeq (mAsg (mLc (mIAny (mBin ixD (mVar 0) (mC (.int 0)))) (gN 1) mYes (mBin ixD (mVar 1) (mC (.int 0))) [1]) (gN 2))
    (mRet (mAnd (mKeep (mCall M_law_rises (mCons (mVar 2) mNil))) (mAnd (mBin (inD true) (mC (.str (Str.ofString "world"))) (mVar 2)) (mBin dEq (mLc (mIAny (mBin ixD (mVar 0) (mC (.int 1)))) (gN 1) (tNotM (mTru (mKeep (mCall M_law_boxed (mCons (mVar 1) mNil))))) (mVar 1) [1]) (mLst mNil)))))))))
def M_law_shelved : MF := mFn 1 3 (B_law_shelved)
theorem sb_law_shelved {P : Program} {w : World} {K : PySem.W.Frag} {mg : Str → Option Value} {base : Heap} {ft : Nat → Addr} (T : Txt mg ft) (c_law_rises : Callee P w K mg base ft "_law_rises" 1 M_law_rises 1) (c_law_boxed : Callee P w K mg base ft "_law_boxed" 1 M_law_boxed 3) (c_law_named : Callee P w K mg base ft "_law_named" 1 M_law_named 1) (c_law_keyed : Callee P w K mg base ft "_law_keyed" 1 M_law_keyed 2) : SB (fmOf P w K mg base ft S_law_shelved N_law_shelved 3) (defBody S_law_shelved) B_law_shelved :=
    (sb_cons (ss_if (st_w (sw_or (st_not (st_tru (se_callB sc_isi T.b_isinstance (by decide +kernel) (sa_cons (se_var 0) (sa_cons (se_ty .tup T.b_tuple (by decide +kernel)) sa_nil))))) (sw_or1 (st_cmp so_ne (se_callB sc_len T.b_len (by decide +kernel) (sa_cons (se_var 0) sa_nil)) se_int)))) (sb_one (ss_ret se_bl)) sb_nil)
    (sb_cons (ss_if (st_w (sw_or (st_not (st_tru (se_callB sc_isi T.b_isinstance (by decide +kernel) (sa_cons (se_ix six (se_var 0) se_int) (sa_cons (se_ty .tup T.b_tuple (by decide +kernel)) sa_nil))))) (sw_or1 (st_not (st_tru (se_callB sc_isi T.b_isinstance (by decide +kernel) (sa_cons (se_ix six (se_var 0) se_int) (sa_cons (se_ty .tup T.b_tuple (by decide +kernel)) sa_nil)))))))) (sb_one (ss_ret se_bl)) sb_nil)
    (sb_cons (ss_for (si_any (se_ix six (se_var 0) se_int)) (sg_name 1) (sb_one (ss_if (st_w (sw_or (st_not (st_tru (se_callB sc_isi T.b_isinstance (by decide +kernel) (sa_cons (se_var 1) (sa_cons (se_ty .tup T.b_tuple (by decide +kernel)) sa_nil))))) (sw_or (st_cmp so_ne (se_callB sc_len T.b_len (by decide +kernel) (sa_cons (se_var 1) sa_nil)) se_int) (sw_or (st_not (st_tru (se_keep (se_call _ c_law_named (sa_cons (se_ix six (se_var 1) se_int) sa_nil) (mCons_len len0))))) (sw_or1 (st_not (st_tru (se_keep (se_call _ c_law_keyed (sa_cons (se_ix six (se_var 1) se_int) sa_nil) (mCons_len len0)))))))))) (sb_one (ss_ret se_bl)) sb_nil)))
    (sb_cons (ss_setLc 2 [((Str.ofString "_law_one"), 1)] (fun env h => sw_true (by rw [h]; rfl) (by rw [h]; rfl) rfl (by decide +kernel)) (si_any (se_ix six (se_var 0) se_int)) (blkOk_by (by dsimp only [fmOf, Fm.blk]; decide +kernel)) (sg_name 1) spt_nil (se_ix six (se_var 1) se_int))
    (sb_one (ss_ret (se_and (se_keep (se_call _ c_law_rises (sa_cons (se_var 2) sa_nil) (mCons_len len0))) (se_and (se_cmp so_notIn se_str (se_var 2)) (se_one (se_cmp so_eq (se_lc [((Str.ofString "_law_one"), 1)] (si_any (se_ix six (se_var 0) se_int)) (blkOk_by (by dsimp only [fmOf, Fm.blk]; decide +kernel)) (sg_name 1) (spt_one (st_not (st_tru (se_keep (se_call _ c_law_boxed (sa_cons (se_var 1) sa_nil) (mCons_len len0)))))) (se_var 1)) (se_lst sa_nil)))))))))))
/-! _law_right -/
abbrev S_law_right : Stmt := top 29
abbrev N_law_right : List Str := ["_law_item", "_law_boxed_here", "_law_one", "_law_due_in", "_law_told"]
abbrev P_law_right : List Str := ["_law_item"]
theorem scope_law_right : FnScope N_law_right P_law_right (defScope S_law_right) := ⟨rfl, rfl, rfl, by decide +kernel, rfl, by decide +kernel, by decide +kernel⟩
def B_law_right : MS :=
    (mSeq (mAsg (mAnd (mCallB isiD (mCons (mVar 0) (mCons (mC (.ty .tup)) mNil))) (mBin dEq (mLc (mIAny (mVar 0)) (gN 2) (tNotM (mTru (mKeep (mCall M_law_boxed (mCons (mVar 2) mNil))))) (mVar 2) [2]) (mLst mNil))) (gN 1))
    (mSeq (mAsg (mLst (mCons (mKeep (mCall M_law_named (mCons (mVar 0) mNil))) (mCons (mKeep (mCall M_law_key (mCons (mVar 0) mNil))) (mCons (mKeep (mCall M_law_page (mCons (mVar 0) mNil))) (mCons (mOr (mKeep (mCall M_law_page (mCons (mVar 0) mNil))) (mKeep (mCall M_law_key (mCons (mVar 0) mNil)))) (mCons (mKeep (mCall M_law_keyed (mCons (mVar 0) mNil))) mNil)))))) (gN 3))
    (mSeq (mAsg (mLst (mCons (mKeep (mCall M_is_name (mCons (mVar 0) mNil))) (mCons (mKeep (mCall M_is_key (mCons (mVar 0) mNil))) (mCons (mKeep (mCall M_is_text (mCons (mVar 0) mNil))) (mCons (mKeep (mCall M_is_thing (mCons (mVar 0) mNil))) (mCons (mKeep (mCall M_is_keys (mCons (mVar 0) mNil))) mNil)))))) (gN 4))
    (mSeq (mDrop (mMeth "list" extendD (mVar 3) (mCons (mLst (mCons (mKeep (mCall M_law_boxed (mCons (mVar 0) mNil))) (mCons (mVar 1) (mCons (mKeep (mCall M_law_shelved (mCons (mVar 0) mNil))) mNil)))) mNil)))
    (mRet (mBin dEq (mCallB reprD (mCons (mBin addD (mVar 4) (mLst (mCons (mKeep (mCall M_is_box (mCons (mVar 0) mNil))) (mCons (mKeep (mCall M_is_boxes (mCons (mVar 0) mNil))) (mCons (mKeep (mCall M_is_shelf (mCons (mVar 0) mNil))) mNil))))) mNil)) (mCallB reprD (mCons (mVar 3) mNil))))))))
def M_law_right : MF := mFn 1 5 (B_law_right)
theorem sb_law_right {P : Program} {w : World} {K : PySem.W.Frag} {mg : Str → Option Value} {base : Heap} {ft : Nat → Addr} (T : Txt mg ft) (c_is_shelf : Callee P w K mg base ft "is_shelf" 1 M_is_shelf 8) (c_is_boxes : Callee P w K mg base ft "is_boxes" 1 M_is_boxes 7) (c_is_box : Callee P w K mg base ft "is_box" 1 M_is_box 5) (c_law_shelved : Callee P w K mg base ft "_law_shelved" 1 M_law_shelved 4) (c_law_boxed : Callee P w K mg base ft "_law_boxed" 1 M_law_boxed 3) (c_is_keys : Callee P w K mg base ft "is_keys" 1 M_is_keys 4) (c_is_thing : Callee P w K mg base ft "is_thing" 1 M_is_thing 3) (c_is_text : Callee P w K mg base ft "is_text" 1 M_is_text 2) (c_is_key : Callee P w K mg base ft "is_key" 1 M_is_key 2) (c_is_name : Callee P w K mg base ft "is_name" 1 M_is_name 1) (c_law_keyed : Callee P w K mg base ft "_law_keyed" 1 M_law_keyed 2) (c_law_page : Callee P w K mg base ft "_law_page" 1 M_law_page 2) (c_law_key : Callee P w K mg base ft "_law_key" 1 M_law_key 1) (c_law_named : Callee P w K mg base ft "_law_named" 1 M_law_named 1) : SB (fmOf P w K mg base ft S_law_right N_law_right 8) (defBody S_law_right) B_law_right :=
    (sb_cons (ss_set 1 (se_and (se_callB sc_isi T.b_isinstance (by decide +kernel) (sa_cons (se_var 0) (sa_cons (se_ty .tup T.b_tuple (by decide +kernel)) sa_nil))) (se_one (se_cmp so_eq (se_lc [((Str.ofString "_law_one"), 2)] (si_any (se_var 0)) (blkOk_by (by dsimp only [fmOf, Fm.blk]; decide +kernel)) (sg_name 2) (spt_one (st_not (st_tru (se_keep (se_call _ c_law_boxed (sa_cons (se_var 2) sa_nil) (mCons_len len0)))))) (se_var 2)) (se_lst sa_nil)))))
    (sb_cons (ss_set 3 (se_lst (sa_cons (se_keep (se_call _ c_law_named (sa_cons (se_var 0) sa_nil) (mCons_len len0))) (sa_cons (se_keep (se_call _ c_law_key (sa_cons (se_var 0) sa_nil) (mCons_len len0))) (sa_cons (se_keep (se_call _ c_law_page (sa_cons (se_var 0) sa_nil) (mCons_len len0))) (sa_cons (se_or (se_keep (se_call _ c_law_page (sa_cons (se_var 0) sa_nil) (mCons_len len0))) (se_one (se_keep (se_call _ c_law_key (sa_cons (se_var 0) sa_nil) (mCons_len len0))))) (sa_cons (se_keep (se_call _ c_law_keyed (sa_cons (se_var 0) sa_nil) (mCons_len len0))) sa_nil)))))))
    (sb_cons (ss_set 4 (se_lst (sa_cons (se_keep (se_call _ c_is_name (sa_cons (se_var 0) sa_nil) (mCons_len len0))) (sa_cons (se_keep (se_call _ c_is_key (sa_cons (se_var 0) sa_nil) (mCons_len len0))) (sa_cons (se_keep (se_call _ c_is_text (sa_cons (se_var 0) sa_nil) (mCons_len len0))) (sa_cons (se_keep (se_call _ c_is_thing (sa_cons (se_var 0) sa_nil) (mCons_len len0))) (sa_cons (se_keep (se_call _ c_is_keys (sa_cons (se_var 0) sa_nil) (mCons_len len0))) sa_nil)))))))
    (sb_cons (ss_expr (se_bm PySem.F.plainAttrs_list PySem.F.slot_list_extend PySem.F.type_list_extend sm_extend (se_var 3) (sa_cons (se_lst (sa_cons (se_keep (se_call _ c_law_boxed (sa_cons (se_var 0) sa_nil) (mCons_len len0))) (sa_cons (se_var 1) (sa_cons (se_keep (se_call _ c_law_shelved (sa_cons (se_var 0) sa_nil) (mCons_len len0))) sa_nil)))) sa_nil)))
    (sb_one (ss_ret (se_cmp so_eq (se_callB sc_repr T.b_repr (by decide +kernel) (sa_cons (se_op so_add (se_var 4) (se_lst (sa_cons (se_keep (se_call _ c_is_box (sa_cons (se_var 0) sa_nil) (mCons_len len0))) (sa_cons (se_keep (se_call _ c_is_boxes (sa_cons (se_var 0) sa_nil) (mCons_len len0))) (sa_cons (se_keep (se_call _ c_is_shelf (sa_cons (se_var 0) sa_nil) (mCons_len len0))) sa_nil))))) sa_nil)) (se_callB sc_repr T.b_repr (by decide +kernel) (sa_cons (se_var 3) sa_nil)))))))))
/-! _law_values -/
abbrev S_law_values : Stmt := top 30
abbrev N_law_values : List Str := ["_law_far", "_law_found", "_law_hands", "_law_name", "_law_many"]
abbrev P_law_values : List Str := []
theorem scope_law_values : FnScope N_law_values P_law_values (defScope S_law_values) := ⟨rfl, rfl, rfl, by decide +kernel, rfl, by decide +kernel, by decide +kernel⟩
def B_law_values : MS :=
    (mSeq (mAsg (mBin powD (mC (.int 10)) (mC (.int 59))) (gN 0))
    (mSeq (mAsg (mLst (mCons (mC (.int 0)) (mCons (mC (.int 1)) (mCons (mUn negD (mC (.int 1))) (mCons (mVar 0) (mCons (mUn negD (mVar 0)) (mCons (mC (.bl true)) (mCons (mC (.bl false)) (mCons (mC .non) (mCons (mC (.str (Str.ofString ""))) (mCons (mC (.str (Str.ofString "a"))) (mCons (mC (.str (Str.ofString "world"))) (mCons (mC (.str (Str.ofString "abcdefgh"))) (mCons (mC (.str (Str.ofString "abcdefghi"))) (mCons (mC (.str (Str.ofString "A"))) (mCons (mC (.str (Str.ofString "a b"))) (mCons (mC (.str (Str.ofString "a1"))) (mCons (mC (.str (Str.ofString "`"))) mNil)))))))))))))))))) (gN 1))
    (mSeq (mDrop (mMeth "list" extendD (mVar 1) (mCons (mLst (mCons (mTup mNil) (mCons (mLst mNil) (mCons (mTup (mCons (mC (.int 1)) mNil)) (mCons (mTup (mCons (mC (.int 0)) (mCons (mVar 0) mNil))) (mCons (mTup (mCons (mC (.int 2)) (mCons (mC (.int 1)) mNil))) (mCons (mTup (mCons (mC (.int 1)) (mCons (mC (.int 1)) mNil))) (mCons (mTup (mCons (mC (.bl true)) mNil)) (mCons (mTup (mCons (mC (.int 0)) (mCons (mUn negD (mC (.int 1))) mNil))) (mCons (mLst (mCons (mC (.int 1)) (mCons (mC (.int 2)) mNil))) (mCons (mTup (mCons (mC (.int 1)) (mCons (mC .non) mNil))) (mCons (mTup (mCons (mC (.int 1)) (mCons (mC (.str (Str.ofString "a"))) mNil))) (mCons (mTup (mCons (mC (.str (Str.ofString "a"))) mNil)) mNil))))))))))))) mNil)))
    (mSeq (mDrop (mMeth "list" extendD (mVar 1) (mCons (mLst (mCons (mTup (mCons (mC (.str (Str.ofString "a"))) (mCons (mC (.int 0)) mNil))) (mCons (mTup (mCons (mC (.str (Str.ofString "a"))) (mCons (mC (.int 1)) mNil))) (mCons (mTup (mCons (mC (.str (Str.ofString "world"))) (mCons (mC (.int 0)) mNil))) (mCons (mTup (mCons (mC (.str (Str.ofString "a"))) (mCons (mUn negD (mC (.int 1))) mNil))) (mCons (mTup (mCons (mC (.str (Str.ofString "a"))) (mCons (mC (.bl true)) mNil))) (mCons (mTup (mCons (mC (.str (Str.ofString "A"))) (mCons (mC (.int 0)) mNil))) (mCons (mTup (mCons (mC (.str (Str.ofString ""))) (mCons (mC (.int 0)) mNil))) (mCons (mTup (mCons (mC (.str (Str.ofString "a"))) (mCons (mC (.int 0)) (mCons (mC (.int 0)) mNil)))) (mCons (mLst (mCons (mC (.str (Str.ofString "a"))) (mCons (mC (.int 0)) mNil))) mNil)))))))))) mNil)))
    (mSeq (mDrop (mMeth "list" extendD (mVar 1) (mCons (mLst (mCons (mTup (mCons (mC (.str (Str.ofString "a"))) (mCons (mVar 0) mNil))) (mCons (mTup (mCons (mC (.int 0)) (mCons (mC (.str (Str.ofString "a"))) mNil))) (mCons (mTup (mCons (mC (.str (Str.ofString "a"))) (mCons (mC .non) mNil))) (mCons (mTup (mCons (mC (.int 1)) (mCons (mTup (mCons (mC (.int 0)) mNil)) mNil))) (mCons (mTup (mCons (mC (.int 1)) (mCons (mTup (mCons (mC (.int 1)) mNil)) mNil))) (mCons (mTup (mCons (mC (.int 1)) (mCons (mTup (mCons (mC (.int 0)) (mCons (mC (.int 1)) mNil))) mNil))) mNil))))))) mNil)))
    (mSeq (mDrop (mMeth "list" extendD (mVar 1) (mCons (mLst (mCons (mTup (mCons (mC (.int 1)) (mCons (mTup mNil) mNil))) (mCons (mTup (mCons (mC (.int 1)) (mCons (mTup (mCons (mC (.int 2)) (mCons (mC (.int 0)) mNil))) mNil))) (mCons (mTup (mCons (mC (.int 1)) (mCons (mTup (mCons (mC (.int 0)) (mCons (mC (.int 0)) mNil))) mNil))) mNil)))) mNil)))
    (mSeq (mDrop (mMeth "list" extendD (mVar 1) (mCons (mLst (mCons (mTup (mCons (mTup (mCons (mC (.str (Str.ofString "a"))) (mCons (mC (.int 0)) mNil))) (mCons (mTup (mCons (mC (.int 0)) mNil)) mNil))) (mCons (mTup (mCons (mTup (mCons (mC (.str (Str.ofString "a"))) (mCons (mC (.int 0)) mNil))) (mCons (mTup (mCons (mC (.int 0)) (mCons (mVar 0) mNil))) mNil))) (mCons (mTup (mCons (mTup (mCons (mC (.str (Str.ofString "a"))) (mCons (mC (.int 0)) mNil))) (mCons (mTup mNil) mNil))) (mCons (mTup (mCons (mTup (mCons (mC (.str (Str.ofString "a"))) mNil)) (mCons (mTup (mCons (mC (.int 0)) mNil)) mNil))) (mCons (mTup (mCons (mC (.str (Str.ofString "a"))) (mCons (mTup (mCons (mC (.int 0)) mNil)) mNil))) (mCons (mTup (mCons (mC .non) (mCons (mTup (mCons (mC (.int 0)) mNil)) mNil))) mNil))))))) mNil)))
    (mSeq (mDrop (mMeth "list" extendD (mVar 1) (mCons (mLst (mCons (mTup (mCons (mC (.bl true)) (mCons (mTup (mCons (mC (.int 0)) mNil)) mNil))) (mCons (mTup (mCons (mC (.int 0)) (mCons (mTup (mCons (mC (.bl true)) mNil)) mNil))) (mCons (mTup (mCons (mC (.int 1)) (mCons (mLst (mCons (mC (.int 0)) mNil)) mNil))) (mCons (mLst (mCons (mC (.int 1)) (mCons (mTup (mCons (mC (.int 0)) mNil)) mNil))) (mCons (mTup (mCons (mC (.int 1)) (mCons (mTup (mCons (mC (.int 0)) mNil)) (mCons (mC (.int 0)) mNil)))) (mCons (mTup (mCons (mC (.int 1)) (mCons (mTup (mCons (mUn negD (mC (.int 1))) mNil)) mNil))) (mCons (mTup (mCons (mUn negD (mC (.int 1))) (mCons (mTup (mCons (mC (.int 0)) mNil)) mNil))) (mCons (mTup (mCons (mC (.int 1)) (mCons (mTup (mCons (mC (.str (Str.ofString "a"))) mNil)) mNil))) mNil))))))))) mNil)))
    (mSeq (mDrop (mMeth "list" extendD (mVar 1) (mCons (mLst (mCons (mTup (mCons (mTup (mCons (mC (.int 1)) (mCons (mTup (mCons (mC (.int 0)) mNil)) mNil))) mNil)) (mCons (mTup (mCons (mTup (mCons (mC (.int 1)) (mCons (mTup (mCons (mC (.int 0)) mNil)) mNil))) (mCons (mTup (mCons (mC (.int 1)) (mCons (mTup (mCons (mC (.int 0)) mNil)) mNil))) mNil))) (mCons (mTup (mCons (mTup (mCons (mC (.int 1)) (mCons (mTup (mCons (mC (.int 0)) mNil)) mNil))) (mCons (mC (.int 1)) mNil))) (mCons (mLst (mCons (mTup (mCons (mC (.int 1)) (mCons (mTup (mCons (mC (.int 0)) mNil)) mNil))) mNil)) (mCons (mTup (mCons (mTup (mCons (mC (.int 1)) (mCons (mTup (mCons (mC (.int 1)) mNil)) mNil))) mNil)) (mCons (mTup (mCons (mTup mNil) (mCons (mTup mNil) mNil))) mNil))))))) mNil)))
    (mSeq (mDrop (mMeth "list" extendD (mVar 1) (mCons (mLst (mCons (mTup (mCons (mTup (mCons (mTup mNil) (mCons (mTup mNil) mNil))) mNil)) (mCons (mTup (mCons (mTup (mCons (mTup (mCons (mC (.str (Str.ofString "a"))) (mCons (mTup mNil) mNil))) mNil)) (mCons (mTup mNil) mNil))) (mCons (mTup (mCons (mTup (mCons (mTup (mCons (mC (.str (Str.ofString "a"))) (mCons (mTup (mCons (mC (.int 0)) mNil)) mNil))) (mCons (mTup (mCons (mC (.str (Str.ofString "b"))) (mCons (mTup mNil) mNil))) mNil))) (mCons (mTup (mCons (mTup (mCons (mC (.int 1)) (mCons (mTup (mCons (mC (.int 0)) mNil)) mNil))) mNil)) mNil))) (mCons (mTup (mCons (mTup (mCons (mTup (mCons (mC (.str (Str.ofString "world"))) (mCons (mTup mNil) mNil))) mNil)) (mCons (mTup mNil) mNil))) mNil))))) mNil)))
    (mSeq (mDrop (mMeth "list" extendD (mVar 1) (mCons (mLst (mCons (mTup (mCons (mTup (mCons (mTup (mCons (mC (.str (Str.ofString "b"))) (mCons (mTup mNil) mNil))) (mCons (mTup (mCons (mC (.str (Str.ofString "a"))) (mCons (mTup mNil) mNil))) mNil))) (mCons (mTup mNil) mNil))) (mCons (mTup (mCons (mTup (mCons (mTup (mCons (mC (.str (Str.ofString "a"))) (mCons (mTup mNil) mNil))) (mCons (mTup (mCons (mC (.str (Str.ofString "a"))) (mCons (mTup mNil) mNil))) mNil))) (mCons (mTup mNil) mNil))) (mCons (mTup (mCons (mTup (mCons (mTup (mCons (mC (.str (Str.ofString "a"))) (mCons (mTup (mCons (mC (.int 1)) (mCons (mC (.int 0)) mNil))) mNil))) mNil)) (mCons (mTup mNil) mNil))) mNil)))) mNil)))
    (mSeq (mDrop (mMeth "list" appendD (mVar 1) (mCons (mTup (mCons (mTup (mCons (mTup (mCons (mC (.str (Str.ofString "A"))) (mCons (mTup mNil) mNil))) mNil)) (mCons (mTup mNil) mNil))) mNil)))
    (mSeq (mDrop (mMeth "list" extendD (mVar 1) (mCons (mLst (mCons (mTup (mCons (mTup (mCons (mTup (mCons (mC (.str (Str.ofString "a"))) (mCons (mLst (mCons (mC (.int 0)) mNil)) mNil))) mNil)) (mCons (mTup mNil) mNil))) (mCons (mTup (mCons (mLst (mCons (mTup (mCons (mC (.str (Str.ofString "a"))) (mCons (mTup (mCons (mC (.int 0)) mNil)) mNil))) mNil)) (mCons (mTup mNil) mNil))) (mCons (mTup (mCons (mTup (mCons (mTup (mCons (mC (.str (Str.ofString "a"))) (mCons (mTup (mCons (mC (.int 0)) mNil)) mNil))) mNil)) (mCons (mLst (mCons (mTup (mCons (mC (.int 1)) (mCons (mTup (mCons (mC (.int 0)) mNil)) mNil))) mNil)) mNil))) mNil)))) mNil)))
    (mSeq (mDrop (mMeth "list" appendD (mVar 1) (mCons (mTup (mCons (mTup (mCons (mTup (mCons (mC (.str (Str.ofString "a"))) (mCons (mTup (mCons (mC (.int 0)) mNil)) mNil))) mNil)) (mCons (mTup (mCons (mTup (mCons (mC (.int 0)) (mCons (mTup (mCons (mC (.int 0)) mNil)) mNil))) mNil)) mNil))) mNil)))
    (mSeq (mDrop (mMeth "list" extendD (mVar 1) (mCons (mLst (mCons (mTup (mCons (mTup (mCons (mLst (mCons (mC (.str (Str.ofString "a"))) (mCons (mTup (mCons (mC (.int 0)) mNil)) mNil))) mNil)) (mCons (mTup mNil) mNil))) (mCons (mTup (mCons (mTup (mCons (mTup (mCons (mC (.str (Str.ofString "a"))) (mCons (mTup (mCons (mC (.int 0)) mNil)) (mCons (mC (.int 0)) mNil)))) mNil)) (mCons (mTup mNil) mNil))) (mCons (mTup (mCons (mTup (mCons (mTup (mCons (mC (.str (Str.ofString "a"))) (mCons (mTup (mCons (mC (.int 0)) mNil)) mNil))) mNil)) (mCons (mTup mNil) (mCons (mTup mNil) mNil)))) (mCons (mTup (mCons (mTup (mCons (mTup (mCons (mC (.str (Str.ofString "a"))) (mCons (mC .non) mNil))) mNil)) (mCons (mTup mNil) mNil))) mNil))))) mNil)))
    (mSeq (mAsg (mCallB tupleD (mCons (mLc (mIAny (mTup (mCons (mC (.str (Str.ofString "a"))) (mCons (mC (.str (Str.ofString "b"))) (mCons (mC (.str (Str.ofString "c"))) (mCons (mC (.str (Str.ofString "d"))) (mCons (mC (.str (Str.ofString "e"))) mNil))))))) (gN 3) mYes (mTup (mCons (mVar 3) (mCons (mTup (mCons (mC (.int 0)) mNil)) mNil))) [3]) mNil)) (gN 2))
    (mSeq (mDrop (mMeth "list" extendD (mVar 1) (mCons (mLst (mCons (mTup (mCons (mVar 2) (mCons (mTup mNil) mNil))) (mCons (mTup (mCons (mBin addD (mSl slD (mVar 2) oNone (oSome (mC (.int 3)))) (mTup (mCons (mBin ixD (mVar 2) (mC (.int 4))) (mCons (mBin ixD (mVar 2) (mC (.int 3))) mNil)))) (mCons (mTup mNil) mNil))) (mCons (mTup (mCons (mBin addD (mVar 2) (mSl slD (mVar 2) (oSome (mC (.int 4))) oNone)) (mCons (mTup mNil) mNil))) mNil)))) mNil)))
    (mSeq (mDrop (mMeth "list" appendD (mVar 1) (mCons (mTup (mCons (mBin addD (mSl slD (mVar 2) oNone (oSome (mC (.int 4)))) (mTup (mCons (mTup (mCons (mC (.str (Str.ofString "d"))) (mCons (mTup mNil) mNil))) mNil))) (mCons (mTup mNil) mNil))) mNil)))
    (mSeq (mAsg (mTupRg (mR1 (mC (.int 60)))) (gN 4))
    (mSeq (mDrop (mMeth "list" extendD (mVar 1) (mCons (mLst (mCons (mVar 4) (mCons (mBin addD (mVar 4) (mTup (mCons (mC (.int 59)) mNil))) (mCons (mTup (mCons (mC (.int 60)) (mCons (mVar 4) mNil))) (mCons (mTup (mCons (mC (.int 59)) (mCons (mVar 4) mNil))) (mCons (mBin mulD (mTup (mCons (mTup (mCons (mC (.int 60)) (mCons (mVar 4) mNil))) mNil)) (mC (.int 40))) (mCons (mBin addD (mBin mulD (mTup (mCons (mTup (mCons (mC (.int 60)) (mCons (mVar 4) mNil))) mNil)) (mC (.int 39))) (mTup (mCons (mTup (mCons (mC (.int 5)) (mCons (mVar 4) mNil))) mNil))) mNil))))))) mNil)))
    (mRet (mVar 1))))))))))))))))))))))
def M_law_values : MF := mFn 0 5 (B_law_values)
theorem sb_law_values {P : Program} {w : World} {K : PySem.W.Frag} {mg : Str → Option Value} {base : Heap} {ft : Nat → Addr} (T : Txt mg ft)  : SB (fmOf P w K mg base ft S_law_values N_law_values 0) (defBody S_law_values) B_law_values :=
    (sb_cons (ss_set 0 (se_op so_pow se_int se_int))
    (sb_cons (ss_set 1 (se_lst (sa_cons se_int (sa_cons se_int (sa_cons (se_un su_neg se_int) (sa_cons (se_var 0) (sa_cons (se_un su_neg (se_var 0)) (sa_cons se_bl (sa_cons se_bl (sa_cons se_non (sa_cons se_str (sa_cons se_str (sa_cons se_str (sa_cons se_str (sa_cons se_str (sa_cons se_str (sa_cons se_str (sa_cons se_str (sa_cons se_str sa_nil)))))))))))))))))))
    (sb_cons (ss_expr (se_bm PySem.F.plainAttrs_list PySem.F.slot_list_extend PySem.F.type_list_extend sm_extend (se_var 1) (sa_cons (se_lst (sa_cons (se_tup sa_nil) (sa_cons (se_lst sa_nil) (sa_cons (se_tup (sa_cons se_int sa_nil)) (sa_cons (se_tup (sa_cons se_int (sa_cons (se_var 0) sa_nil))) (sa_cons (se_tup (sa_cons se_int (sa_cons se_int sa_nil))) (sa_cons (se_tup (sa_cons se_int (sa_cons se_int sa_nil))) (sa_cons (se_tup (sa_cons se_bl sa_nil)) (sa_cons (se_tup (sa_cons se_int (sa_cons (se_un su_neg se_int) sa_nil))) (sa_cons (se_lst (sa_cons se_int (sa_cons se_int sa_nil))) (sa_cons (se_tup (sa_cons se_int (sa_cons se_non sa_nil))) (sa_cons (se_tup (sa_cons se_int (sa_cons se_str sa_nil))) (sa_cons (se_tup (sa_cons se_str sa_nil)) sa_nil))))))))))))) sa_nil)))
    (sb_cons (ss_expr (se_bm PySem.F.plainAttrs_list PySem.F.slot_list_extend PySem.F.type_list_extend sm_extend (se_var 1) (sa_cons (se_lst (sa_cons (se_tup (sa_cons se_str (sa_cons se_int sa_nil))) (sa_cons (se_tup (sa_cons se_str (sa_cons se_int sa_nil))) (sa_cons (se_tup (sa_cons se_str (sa_cons se_int sa_nil))) (sa_cons (se_tup (sa_cons se_str (sa_cons (se_un su_neg se_int) sa_nil))) (sa_cons (se_tup (sa_cons se_str (sa_cons se_bl sa_nil))) (sa_cons (se_tup (sa_cons se_str (sa_cons se_int sa_nil))) (sa_cons (se_tup (sa_cons se_str (sa_cons se_int sa_nil))) (sa_cons (se_tup (sa_cons se_str (sa_cons se_int (sa_cons se_int sa_nil)))) (sa_cons (se_lst (sa_cons se_str (sa_cons se_int sa_nil))) sa_nil)))))))))) sa_nil)))
    (sb_cons (ss_expr (se_bm PySem.F.plainAttrs_list PySem.F.slot_list_extend PySem.F.type_list_extend sm_extend (se_var 1) (sa_cons (se_lst (sa_cons (se_tup (sa_cons se_str (sa_cons (se_var 0) sa_nil))) (sa_cons (se_tup (sa_cons se_int (sa_cons se_str sa_nil))) (sa_cons (se_tup (sa_cons se_str (sa_cons se_non sa_nil))) (sa_cons (se_tup (sa_cons se_int (sa_cons (se_tup (sa_cons se_int sa_nil)) sa_nil))) (sa_cons (se_tup (sa_cons se_int (sa_cons (se_tup (sa_cons se_int sa_nil)) sa_nil))) (sa_cons (se_tup (sa_cons se_int (sa_cons (se_tup (sa_cons se_int (sa_cons se_int sa_nil))) sa_nil))) sa_nil))))))) sa_nil)))
    (sb_cons (ss_expr (se_bm PySem.F.plainAttrs_list PySem.F.slot_list_extend PySem.F.type_list_extend sm_extend (se_var 1) (sa_cons (se_lst (sa_cons (se_tup (sa_cons se_int (sa_cons (se_tup sa_nil) sa_nil))) (sa_cons (se_tup (sa_cons se_int (sa_cons (se_tup (sa_cons se_int (sa_cons se_int sa_nil))) sa_nil))) (sa_cons (se_tup (sa_cons se_int (sa_cons (se_tup (sa_cons se_int (sa_cons se_int sa_nil))) sa_nil))) sa_nil)))) sa_nil)))
    (sb_cons (ss_expr (se_bm PySem.F.plainAttrs_list PySem.F.slot_list_extend PySem.F.type_list_extend sm_extend (se_var 1) (sa_cons (se_lst (sa_cons (se_tup (sa_cons (se_tup (sa_cons se_str (sa_cons se_int sa_nil))) (sa_cons (se_tup (sa_cons se_int sa_nil)) sa_nil))) (sa_cons (se_tup (sa_cons (se_tup (sa_cons se_str (sa_cons se_int sa_nil))) (sa_cons (se_tup (sa_cons se_int (sa_cons (se_var 0) sa_nil))) sa_nil))) (sa_cons (se_tup (sa_cons (se_tup (sa_cons se_str (sa_cons se_int sa_nil))) (sa_cons (se_tup sa_nil) sa_nil))) (sa_cons (se_tup (sa_cons (se_tup (sa_cons se_str sa_nil)) (sa_cons (se_tup (sa_cons se_int sa_nil)) sa_nil))) (sa_cons (se_tup (sa_cons se_str (sa_cons (se_tup (sa_cons se_int sa_nil)) sa_nil))) (sa_cons (se_tup (sa_cons se_non (sa_cons (se_tup (sa_cons se_int sa_nil)) sa_nil))) sa_nil))))))) sa_nil)))
    (sb_cons (ss_expr (se_bm PySem.F.plainAttrs_list PySem.F.slot_list_extend PySem.F.type_list_extend sm_extend (se_var 1) (sa_cons (se_lst (sa_cons (se_tup (sa_cons se_bl (sa_cons (se_tup (sa_cons se_int sa_nil)) sa_nil))) (sa_cons (se_tup (sa_cons se_int (sa_cons (se_tup (sa_cons se_bl sa_nil)) sa_nil))) (sa_cons (se_tup (sa_cons se_int (sa_cons (se_lst (sa_cons se_int sa_nil)) sa_nil))) (sa_cons (se_lst (sa_cons se_int (sa_cons (se_tup (sa_cons se_int sa_nil)) sa_nil))) (sa_cons (se_tup (sa_cons se_int (sa_cons (se_tup (sa_cons se_int sa_nil)) (sa_cons se_int sa_nil)))) (sa_cons (se_tup (sa_cons se_int (sa_cons (se_tup (sa_cons (se_un su_neg se_int) sa_nil)) sa_nil))) (sa_cons (se_tup (sa_cons (se_un su_neg se_int) (sa_cons (se_tup (sa_cons se_int sa_nil)) sa_nil))) (sa_cons (se_tup (sa_cons se_int (sa_cons (se_tup (sa_cons se_str sa_nil)) sa_nil))) sa_nil))))))))) sa_nil)))
    (sb_cons (ss_expr (se_bm PySem.F.plainAttrs_list PySem.F.slot_list_extend PySem.F.type_list_extend sm_extend (se_var 1) (sa_cons (se_lst (sa_cons (se_tup (sa_cons (se_tup (sa_cons se_int (sa_cons (se_tup (sa_cons se_int sa_nil)) sa_nil))) sa_nil)) (sa_cons (se_tup (sa_cons (se_tup (sa_cons se_int (sa_cons (se_tup (sa_cons se_int sa_nil)) sa_nil))) (sa_cons (se_tup (sa_cons se_int (sa_cons (se_tup (sa_cons se_int sa_nil)) sa_nil))) sa_nil))) (sa_cons (se_tup (sa_cons (se_tup (sa_cons se_int (sa_cons (se_tup (sa_cons se_int sa_nil)) sa_nil))) (sa_cons se_int sa_nil))) (sa_cons (se_lst (sa_cons (se_tup (sa_cons se_int (sa_cons (se_tup (sa_cons se_int sa_nil)) sa_nil))) sa_nil)) (sa_cons (se_tup (sa_cons (se_tup (sa_cons se_int (sa_cons (se_tup (sa_cons se_int sa_nil)) sa_nil))) sa_nil)) (sa_cons (se_tup (sa_cons (se_tup sa_nil) (sa_cons (se_tup sa_nil) sa_nil))) sa_nil))))))) sa_nil)))
    (sb_cons (ss_expr (se_bm PySem.F.plainAttrs_list PySem.F.slot_list_extend PySem.F.type_list_extend sm_extend (se_var 1) (sa_cons (se_lst (sa_cons (se_tup (sa_cons (se_tup (sa_cons (se_tup sa_nil) (sa_cons (se_tup sa_nil) sa_nil))) sa_nil)) (sa_cons (se_tup (sa_cons (se_tup (sa_cons (se_tup (sa_cons se_str (sa_cons (se_tup sa_nil) sa_nil))) sa_nil)) (sa_cons (se_tup sa_nil) sa_nil))) (sa_cons (se_tup (sa_cons (se_tup (sa_cons (se_tup (sa_cons se_str (sa_cons (se_tup (sa_cons se_int sa_nil)) sa_nil))) (sa_cons (se_tup (sa_cons se_str (sa_cons (se_tup sa_nil) sa_nil))) sa_nil))) (sa_cons (se_tup (sa_cons (se_tup (sa_cons se_int (sa_cons (se_tup (sa_cons se_int sa_nil)) sa_nil))) sa_nil)) sa_nil))) (sa_cons (se_tup (sa_cons (se_tup (sa_cons (se_tup (sa_cons se_str (sa_cons (se_tup sa_nil) sa_nil))) sa_nil)) (sa_cons (se_tup sa_nil) sa_nil))) sa_nil))))) sa_nil)))
    (sb_cons (ss_expr (se_bm PySem.F.plainAttrs_list PySem.F.slot_list_extend PySem.F.type_list_extend sm_extend (se_var 1) (sa_cons (se_lst (sa_cons (se_tup (sa_cons (se_tup (sa_cons (se_tup (sa_cons se_str (sa_cons (se_tup sa_nil) sa_nil))) (sa_cons (se_tup (sa_cons se_str (sa_cons (se_tup sa_nil) sa_nil))) sa_nil))) (sa_cons (se_tup sa_nil) sa_nil))) (sa_cons (se_tup (sa_cons (se_tup (sa_cons (se_tup (sa_cons se_str (sa_cons (se_tup sa_nil) sa_nil))) (sa_cons (se_tup (sa_cons se_str (sa_cons (se_tup sa_nil) sa_nil))) sa_nil))) (sa_cons (se_tup sa_nil) sa_nil))) (sa_cons (se_tup (sa_cons (se_tup (sa_cons (se_tup (sa_cons se_str (sa_cons (se_tup (sa_cons se_int (sa_cons se_int sa_nil))) sa_nil))) sa_nil)) (sa_cons (se_tup sa_nil) sa_nil))) sa_nil)))) sa_nil)))
    (sb_cons (ss_expr (se_bm PySem.F.plainAttrs_list PySem.F.slot_list_append PySem.F.type_list_append sm_append (se_var 1) (sa_cons (se_tup (sa_cons (se_tup (sa_cons (se_tup (sa_cons se_str (sa_cons (se_tup sa_nil) sa_nil))) sa_nil)) (sa_cons (se_tup sa_nil) sa_nil))) sa_nil)))
    (sb_cons (ss_expr (se_bm PySem.F.plainAttrs_list PySem.F.slot_list_extend PySem.F.type_list_extend sm_extend (se_var 1) (sa_cons (se_lst (sa_cons (se_tup (sa_cons (se_tup (sa_cons (se_tup (sa_cons se_str (sa_cons (se_lst (sa_cons se_int sa_nil)) sa_nil))) sa_nil)) (sa_cons (se_tup sa_nil) sa_nil))) (sa_cons (se_tup (sa_cons (se_lst (sa_cons (se_tup (sa_cons se_str (sa_cons (se_tup (sa_cons se_int sa_nil)) sa_nil))) sa_nil)) (sa_cons (se_tup sa_nil) sa_nil))) (sa_cons (se_tup (sa_cons (se_tup (sa_cons (se_tup (sa_cons se_str (sa_cons (se_tup (sa_cons se_int sa_nil)) sa_nil))) sa_nil)) (sa_cons (se_lst (sa_cons (se_tup (sa_cons se_int (sa_cons (se_tup (sa_cons se_int sa_nil)) sa_nil))) sa_nil)) sa_nil))) sa_nil)))) sa_nil)))
    (sb_cons (ss_expr (se_bm PySem.F.plainAttrs_list PySem.F.slot_list_append PySem.F.type_list_append sm_append (se_var 1) (sa_cons (se_tup (sa_cons (se_tup (sa_cons (se_tup (sa_cons se_str (sa_cons (se_tup (sa_cons se_int sa_nil)) sa_nil))) sa_nil)) (sa_cons (se_tup (sa_cons (se_tup (sa_cons se_int (sa_cons (se_tup (sa_cons se_int sa_nil)) sa_nil))) sa_nil)) sa_nil))) sa_nil)))
    (sb_cons (ss_expr (se_bm PySem.F.plainAttrs_list PySem.F.slot_list_extend PySem.F.type_list_extend sm_extend (se_var 1) (sa_cons (se_lst (sa_cons (se_tup (sa_cons (se_tup (sa_cons (se_lst (sa_cons se_str (sa_cons (se_tup (sa_cons se_int sa_nil)) sa_nil))) sa_nil)) (sa_cons (se_tup sa_nil) sa_nil))) (sa_cons (se_tup (sa_cons (se_tup (sa_cons (se_tup (sa_cons se_str (sa_cons (se_tup (sa_cons se_int sa_nil)) (sa_cons se_int sa_nil)))) sa_nil)) (sa_cons (se_tup sa_nil) sa_nil))) (sa_cons (se_tup (sa_cons (se_tup (sa_cons (se_tup (sa_cons se_str (sa_cons (se_tup (sa_cons se_int sa_nil)) sa_nil))) sa_nil)) (sa_cons (se_tup sa_nil) (sa_cons (se_tup sa_nil) sa_nil)))) (sa_cons (se_tup (sa_cons (se_tup (sa_cons (se_tup (sa_cons se_str (sa_cons se_non sa_nil))) sa_nil)) (sa_cons (se_tup sa_nil) sa_nil))) sa_nil))))) sa_nil)))
    (sb_cons (ss_set 2 (se_callTy sc_tuple T.b_tuple (by decide +kernel) (sa_cons (se_lc [((Str.ofString "_law_name"), 3)] (si_any (se_tup (sa_cons se_str (sa_cons se_str (sa_cons se_str (sa_cons se_str (sa_cons se_str sa_nil))))))) (blkOk_by (by dsimp only [fmOf, Fm.blk]; decide +kernel)) (sg_name 3) spt_nil (se_tup (sa_cons (se_var 3) (sa_cons (se_tup (sa_cons se_int sa_nil)) sa_nil)))) sa_nil)))
    (sb_cons (ss_expr (se_bm PySem.F.plainAttrs_list PySem.F.slot_list_extend PySem.F.type_list_extend sm_extend (se_var 1) (sa_cons (se_lst (sa_cons (se_tup (sa_cons (se_var 2) (sa_cons (se_tup sa_nil) sa_nil))) (sa_cons (se_tup (sa_cons (se_op so_add (se_slice ssl (se_var 2) so_none (so_some se_int)) (se_tup (sa_cons (se_ix six (se_var 2) se_int) (sa_cons (se_ix six (se_var 2) se_int) sa_nil)))) (sa_cons (se_tup sa_nil) sa_nil))) (sa_cons (se_tup (sa_cons (se_op so_add (se_var 2) (se_slice ssl (se_var 2) (so_some se_int) so_none)) (sa_cons (se_tup sa_nil) sa_nil))) sa_nil)))) sa_nil)))
    (sb_cons (ss_expr (se_bm PySem.F.plainAttrs_list PySem.F.slot_list_append PySem.F.type_list_append sm_append (se_var 1) (sa_cons (se_tup (sa_cons (se_op so_add (se_slice ssl (se_var 2) so_none (so_some se_int)) (se_tup (sa_cons (se_tup (sa_cons se_str (sa_cons (se_tup sa_nil) sa_nil))) sa_nil))) (sa_cons (se_tup sa_nil) sa_nil))) sa_nil)))
    (sb_cons (ss_set 4 (se_tupRg T.b_tuple (sr_1 T.b_range se_int)))
    (sb_cons (ss_expr (se_bm PySem.F.plainAttrs_list PySem.F.slot_list_extend PySem.F.type_list_extend sm_extend (se_var 1) (sa_cons (se_lst (sa_cons (se_var 4) (sa_cons (se_op so_add (se_var 4) (se_tup (sa_cons se_int sa_nil))) (sa_cons (se_tup (sa_cons se_int (sa_cons (se_var 4) sa_nil))) (sa_cons (se_tup (sa_cons se_int (sa_cons (se_var 4) sa_nil))) (sa_cons (se_op so_mul (se_tup (sa_cons (se_tup (sa_cons se_int (sa_cons (se_var 4) sa_nil))) sa_nil)) se_int) (sa_cons (se_op so_add (se_op so_mul (se_tup (sa_cons (se_tup (sa_cons se_int (sa_cons (se_var 4) sa_nil))) sa_nil)) se_int) (se_tup (sa_cons (se_tup (sa_cons se_int (sa_cons (se_var 4) sa_nil))) sa_nil))) sa_nil))))))) sa_nil)))
    (sb_one (ss_ret (se_var 1)))))))))))))))))))))))
/-! law -/
abbrev S_law : Stmt := top 31
abbrev N_law : List Str := ["_law_script", "_law_feed_here", "_law_items", "_law_turn", "_law_lot_here", "_law_shelf_in", "_law_item", "_law_once", "_law_kept", "_law_told"]
abbrev P_law : List Str := ["_law_script"]
theorem scope_law : FnScope N_law P_law (defScope S_law) := ⟨rfl, rfl, rfl, by decide +kernel, rfl, by decide +kernel, by decide +kernel⟩
def B_law : MS :=
    (mSeq (mAsg (mCall M_law_feed (mCons (mVar 0) mNil)) (gN 1))
    (mSeq (mAsg (mSl3 (mCall M_law_values mNil) (oSome (mKeep (mCall M_law_draw (mCons (mVar 1) (mCons (mC (.int 3)) mNil))))) oNone (oSome (mC (.int 3)))) (gN 2))
    (mSeq (mFor (mIRng1 (mCons (mC (.int 2)) mNil)) (gN 3) (mSeq (mAsg (mKeep (mCall M_law_lot (mCons (mVar 1) (mCons (mC (.int 3)) (mCons (mC (.int 6)) mNil))))) (gN 4))
    (mSeq (mAsg (mTup (mCons (mTup (mCons (mTup (mCons (mC (.str (Str.ofString "ann"))) (mCons (mKeep (mCall M_law_grip (mCons (mVar 1) (mCons (mC (.int 6)) (mCons (mC (.int 2)) mNil))))) mNil))) (mCons (mTup (mCons (mC (.str (Str.ofString "bob"))) (mCons (mKeep (mCall M_law_grip (mCons (mVar 1) (mCons (mC (.int 6)) (mCons (mC (.int 2)) mNil))))) mNil))) mNil))) (mCons (mVar 4) mNil))) (gN 5))
    (mFor (mIAny (mTup (mCons (mBin ixD (mVar 4) (mC (.int 0))) (mCons (mVar 4) (mCons (mVar 5) (mCons (mBin ixD (mVar 5) (mC (.int 0))) (mCons (mKeep (mCall M_law_grip (mCons (mVar 1) (mCons (mC (.int 9)) (mCons (mC (.int 4)) mNil))))) mNil))))))) (gN 6) (mSeq (mAsg (mCall (M_law_bent 12) (mCons (mVar 1) (mCons (mVar 6) mNil))) (gN 7))
    (mDrop (mMeth "list" extendD (mVar 2) (mCons (mLst (mCons (mVar 6) (mCons (mVar 7) (mCons (mCall (M_law_bent 12) (mCons (mVar 1) (mCons (mVar 7) mNil))) mNil)))) mNil))))))))
    (mSeq (mAsg (mCallB reprD (mCons (mVar 2) mNil)) (gN 8))
    (mSeq (mIfS (tOrM (mTest (mBin dNe (mLc (mIAny (mVar 2)) (gN 6) (tNotM (mTru (mKeep (mCall M_law_right (mCons (mVar 6) mNil))))) (mVar 6) [6]) (mLst mNil))) (mTest (mBin dNe (mCallB reprD (mCons (mVar 2) mNil)) (mVar 8)))) (mRet (mC (.bl false))) mNext)
    (mSeq (mAsg (mLst (mCons (mKeep (mCallK gId M_is_name (mCons (mC (.str (Str.ofString "a"))) mNil))) (mCons (mKeep (mCallK gId M_is_key (mCons (mC (.int 3)) mNil))) (mCons (mKeep (mCallK gId M_is_text (mCons (mTup (mCons (mC (.str (Str.ofString "a"))) (mCons (mC (.int 0)) mNil))) mNil))) (mCons (mKeep (mCallK gId M_is_thing (mCons (mC (.int 0)) mNil))) (mCons (mKeep (mCallK gId M_is_keys (mCons (mTup mNil) mNil))) mNil)))))) (gN 9))
    (mSeq (mDrop (mMeth "list" extendD (mVar 9) (mCons (mLst (mCons (mKeep (mCallK gId M_is_box (mCons (mTup (mCons (mC (.int 1)) (mCons (mTup (mCons (mC (.int 0)) mNil)) mNil))) mNil))) (mCons (mKeep (mCallK gId M_is_boxes (mCons (mTup mNil) mNil))) (mCons (mKeep (mCallK gId M_is_shelf (mCons (mTup (mCons (mTup mNil) (mCons (mTup mNil) mNil))) mNil))) mNil)))) mNil)))
    (mRet (mBin dEq (mCallB reprD (mCons (mVar 9) mNil)) (mCallB reprD (mCons (mBin mulD (mLst (mCons (mC (.bl true)) mNil)) (mC (.int 8))) mNil)))))))))))
def M_law : MF := mFn 1 10 (B_law)
theorem sb_law {P : Program} {w : World} {K : PySem.W.Frag} {mg : Str → Option Value} {base : Heap} {ft : Nat → Addr} (T : Txt mg ft) (k_is_shelf_thing : CalleeK P w K mg base ft "is_shelf" ["thing"] gId M_is_shelf 8) (k_is_boxes_thing : CalleeK P w K mg base ft "is_boxes" ["thing"] gId M_is_boxes 7) (k_is_box_thing : CalleeK P w K mg base ft "is_box" ["thing"] gId M_is_box 5) (k_is_keys_thing : CalleeK P w K mg base ft "is_keys" ["thing"] gId M_is_keys 4) (k_is_thing_thing : CalleeK P w K mg base ft "is_thing" ["thing"] gId M_is_thing 3) (k_is_text_thing : CalleeK P w K mg base ft "is_text" ["thing"] gId M_is_text 2) (k_is_key_thing : CalleeK P w K mg base ft "is_key" ["thing"] gId M_is_key 2) (k_is_name_thing : CalleeK P w K mg base ft "is_name" ["thing"] gId M_is_name 1) (c_law_right : Callee P w K mg base ft "_law_right" 1 M_law_right 9) (c_law_grip : Callee P w K mg base ft "_law_grip" 3 M_law_grip 2) (c_law_bent : Callee P w K mg base ft "_law_bent" 2 (M_law_bent 12) 14) (c_law_lot : Callee P w K mg base ft "_law_lot" 3 M_law_lot 2) (c_law_values : Callee P w K mg base ft "_law_values" 0 M_law_values 1) (c_law_draw : Callee P w K mg base ft "_law_draw" 2 M_law_draw 1) (c_law_feed : Callee P w K mg base ft "_law_feed" 1 M_law_feed 1) : SB (fmOf P w K mg base ft S_law N_law 14) (defBody S_law) B_law :=
    (sb_cons (ss_set 1 (se_call _ c_law_feed (sa_cons (se_var 0) sa_nil) (mCons_len len0)))
    (sb_cons (ss_set 2 (se_sl3 (se_call0 _ c_law_values) (so_some (se_keep (se_call _ c_law_draw (sa_cons (se_var 1) (sa_cons se_int sa_nil)) (mCons_len (mCons_len len0))))) so_none (so_some se_int)))
    (sb_cons (ss_for (si_range1 T.b_range (sa_cons se_int sa_nil)) (sg_name 3) (sb_cons (ss_set 4 (se_keep (se_call _ c_law_lot (sa_cons (se_var 1) (sa_cons se_int (sa_cons se_int sa_nil))) (mCons_len (mCons_len (mCons_len len0))))))
    (sb_cons (ss_set 5 (se_tup (sa_cons (se_tup (sa_cons (se_tup (sa_cons se_str (sa_cons (se_keep (se_call _ c_law_grip (sa_cons (se_var 1) (sa_cons se_int (sa_cons se_int sa_nil))) (mCons_len (mCons_len (mCons_len len0))))) sa_nil))) (sa_cons (se_tup (sa_cons se_str (sa_cons (se_keep (se_call _ c_law_grip (sa_cons (se_var 1) (sa_cons se_int (sa_cons se_int sa_nil))) (mCons_len (mCons_len (mCons_len len0))))) sa_nil))) sa_nil))) (sa_cons (se_var 4) sa_nil))))
    (sb_one (ss_for (si_any (se_tup (sa_cons (se_ix six (se_var 4) se_int) (sa_cons (se_var 4) (sa_cons (se_var 5) (sa_cons (se_ix six (se_var 5) se_int) (sa_cons (se_keep (se_call _ c_law_grip (sa_cons (se_var 1) (sa_cons se_int (sa_cons se_int sa_nil))) (mCons_len (mCons_len (mCons_len len0))))) sa_nil))))))) (sg_name 6) (sb_cons (ss_set 7 (se_call _ c_law_bent (sa_cons (se_var 1) (sa_cons (se_var 6) sa_nil)) (mCons_len (mCons_len len0))))
    (sb_one (ss_expr (se_bm PySem.F.plainAttrs_list PySem.F.slot_list_extend PySem.F.type_list_extend sm_extend (se_var 2) (sa_cons (se_lst (sa_cons (se_var 6) (sa_cons (se_var 7) (sa_cons (se_call _ c_law_bent (sa_cons (se_var 1) (sa_cons (se_var 7) sa_nil)) (mCons_len (mCons_len len0))) sa_nil)))) sa_nil))))))))))
    (sb_cons (ss_set 8 (se_callB sc_repr T.b_repr (by decide +kernel) (sa_cons (se_var 2) sa_nil)))
    (sb_cons (ss_if (st_w (sw_or (st_cmp so_ne (se_lc [((Str.ofString "_law_item"), 6)] (si_any (se_var 2)) (blkOk_by (by dsimp only [fmOf, Fm.blk]; decide +kernel)) (sg_name 6) (spt_one (st_not (st_tru (se_keep (se_call _ c_law_right (sa_cons (se_var 6) sa_nil) (mCons_len len0)))))) (se_var 6)) (se_lst sa_nil)) (sw_or1 (st_cmp so_ne (se_callB sc_repr T.b_repr (by decide +kernel) (sa_cons (se_var 2) sa_nil)) (se_var 8))))) (sb_one (ss_ret se_bl)) sb_nil)
    (sb_cons (ss_set 9 (se_lst (sa_cons (se_keep (se_callK0 _ k_is_name_thing (sk_cons se_str sk_nil) (mCons_len len0))) (sa_cons (se_keep (se_callK0 _ k_is_key_thing (sk_cons se_int sk_nil) (mCons_len len0))) (sa_cons (se_keep (se_callK0 _ k_is_text_thing (sk_cons (se_tup (sa_cons se_str (sa_cons se_int sa_nil))) sk_nil) (mCons_len len0))) (sa_cons (se_keep (se_callK0 _ k_is_thing_thing (sk_cons se_int sk_nil) (mCons_len len0))) (sa_cons (se_keep (se_callK0 _ k_is_keys_thing (sk_cons (se_tup sa_nil) sk_nil) (mCons_len len0))) sa_nil)))))))
    (sb_cons (ss_expr (se_bm PySem.F.plainAttrs_list PySem.F.slot_list_extend PySem.F.type_list_extend sm_extend (se_var 9) (sa_cons (se_lst (sa_cons (se_keep (se_callK0 _ k_is_box_thing (sk_cons (se_tup (sa_cons se_int (sa_cons (se_tup (sa_cons se_int sa_nil)) sa_nil))) sk_nil) (mCons_len len0))) (sa_cons (se_keep (se_callK0 _ k_is_boxes_thing (sk_cons (se_tup sa_nil) sk_nil) (mCons_len len0))) (sa_cons (se_keep (se_callK0 _ k_is_shelf_thing (sk_cons (se_tup (sa_cons (se_tup sa_nil) (sa_cons (se_tup sa_nil) sa_nil))) sk_nil) (mCons_len len0))) sa_nil)))) sa_nil)))
    (sb_one (ss_ret (se_cmp so_eq (se_callB sc_repr T.b_repr (by decide +kernel) (sa_cons (se_var 9) sa_nil)) (se_callB sc_repr T.b_repr (by decide +kernel) (sa_cons (se_op so_mul (se_lst (sa_cons se_bl sa_nil)) se_int) sa_nil))))))))))))
end G
set_option Elab.async false
set_option linter.all false
set_option maxRecDepth 100000
set_option maxHeartbeats 4000000
namespace Mi
open PySem L2
/-! ## what a mirror comes to -/
def wpo {α : Type} (o : Option α) (Q : α → Prop) : Prop := ∃ x, o = some x ∧ Q x
theorem wpo_some {α : Type} {x : α} {Q : α → Prop} : wpo (some x) Q ↔ Q x := ⟨fun ⟨y, e, q⟩ => by cases e; exact q, fun q => ⟨x, rfl, q⟩⟩
theorem wpo_none {α : Type} {Q : α → Prop} : wpo (none : Option α) Q ↔ False := ⟨(fun h => by obtain ⟨y, e, q⟩ := h; cases e), fun q => False.elim q⟩
theorem wpo_bind {α β : Type} {o : Option α} {f : α → Option β} {Q : β → Prop} : wpo (o.bind f) Q ↔ wpo o fun x => wpo (f x) Q := by
  cases o with
  | none => exact ⟨(fun h => by obtain ⟨y, e, q⟩ := h; cases e), (fun h => by obtain ⟨y, e, q⟩ := h; cases e)⟩
  | some x => exact (wpo_some (Q := fun x => wpo (f x) Q)).symm
theorem wpo_map {α β : Type} {o : Option α} {f : α → β} {Q : β → Prop} : wpo (o.map f) Q ↔ wpo o fun x => Q (f x) := by
  cases o with
  | none => exact ⟨(fun h => by obtain ⟨y, e, q⟩ := h; cases e), (fun h => by obtain ⟨y, e, q⟩ := h; cases e)⟩
  | some x => rw [Option.map_some, wpo_some, wpo_some]
theorem wpo_mono {α : Type} {o : Option α} {P Q : α → Prop} (h : wpo o P) (k : ∀ x, P x → Q x) : wpo o Q := let ⟨x, e, p⟩ := h; ⟨x, e, k x p⟩
theorem wpo_eq {α : Type} {o : Option α} {x : α} {Q : α → Prop} (h : o = some x) (q : Q x) : wpo o Q := ⟨x, h, q⟩
theorem bind_eq {α β : Type} {o : Option α} {x : α} {f : α → Option β} (h : o = some x) : o.bind f = f x := by rw [h]; rfl
/-! ## heaps: what points inside -/
def WH (C : Hm) : Prop := ∀ c ∈ C, c.bnd C.length = true
mutual
theorem bnd_up {n m : Nat} (h : n ≤ m) : ∀ {d : D}, d.bnd n = true → d.bnd m = true
  | .non, _ => rfl
  | .bl _, _ => rfl
  | .int _, _ => rfl
  | .str _, _ => rfl
  | .fn _, _ => rfl
  | .rol _, _ => rfl
  | .ty _, _ => rfl
  | .cell k, e => by simp [D.bnd] at e ⊢; omega
  | .tup ds, e => by simp only [D.bnd] at e ⊢; exact bnds_up h e
theorem bnds_up {n m : Nat} (h : n ≤ m) : ∀ {ds : List D}, bnds n ds = true → bnds m ds = true
  | [], _ => rfl
  | d :: ds, e => by simp only [bnds, Bool.and_eq_true] at e ⊢; exact ⟨bnd_up h e.1, bnds_up h e.2⟩
end
theorem bnds_iff {n : Nat} : ∀ {ds : List D}, bnds n ds = true ↔ ∀ d ∈ ds, d.bnd n = true
  | [] => by simp [bnds]
  | d :: ds => by simp [bnds, bnds_iff (ds := ds)]
theorem Cell.bnd_up {n m : Nat} (h : n ≤ m) {c : Cell} (e : c.bnd n = true) : c.bnd m = true := by
  cases c with
  | lst ds => exact bnds_up h e
  | dic ks => simp only [Cell.bnd, List.all_eq_true] at e ⊢; exact fun p hp => Mi.bnd_up h (e p hp)
theorem WH.app {C : Hm} (W : WH C) {c : Cell} (h : c.bnd (C.length + 1) = true) : WH (C ++ [c]) := by
  intro x hx
  simp only [List.length_append, List.length_cons, List.length_nil]
  rcases List.mem_append.mp hx with z | z
  · exact Cell.bnd_up (by omega) (W x z)
  · rw [List.mem_singleton.mp z]; exact h
theorem WH.set {C : Hm} (W : WH C) {c : Cell} {k : Nat} (h : c.bnd C.length = true) : WH (C.set k c) := by
  intro x hx
  rw [List.length_set]
  rcases List.mem_or_eq_of_mem_set hx with z | z
  · exact W x z
  · rw [z]; exact h
theorem take_len {C g : Hm} : (C ++ g).take C.length = C := by simp
/-- a call that leaves the heap as it is, but for new cells behind -/
theorem keep_eq {m : ME} {E : Ev} {C C' g : Hm} {d : D} (h : m E C = some (d, C' ++ g)) (hl : C'.length = C.length) (W : WH C') (hb : d.bnd C.length = true) : mKeep m E C = some (d, C') := by
  unfold mKeep
  rw [bind_eq h]
  unfold cutC
  have e : (C' ++ g).take C.length = C' := by rw [← hl, take_len]
  simp only [e]
  rw [if_pos ⟨hb, by rw [List.all_eq_true, ← hl]; exact W⟩]
theorem keep_bl {m : ME} {E : Ev} {C : Hm} {b : Bool} (h : ∃ g, m E C = some (.bl b, C ++ g)) (W : WH C) : mKeep m E C = some (.bl b, C) := by
  obtain ⟨g, h⟩ := h
  exact keep_eq h rfl W rfl
/-- a call with a relation between the heaps -/
theorem keep_wp {m : ME} {E : Ev} {C : Hm} {Q : D × Hm → Prop} (h : wpo (m E C) fun r => r.1.bnd C.length = true ∧ (∀ c ∈ r.2.take C.length, c.bnd C.length = true) ∧ Q (r.1, r.2.take C.length)) : wpo (mKeep m E C) Q := by
  obtain ⟨r, e, h1, h2, q⟩ := h
  refine ⟨(r.1, r.2.take C.length), ?_, q⟩
  unfold mKeep
  rw [bind_eq e]
  unfold cutC
  rw [if_pos ⟨h1, List.all_eq_true.mpr h2⟩]
/-! ## data as the model's own data -/
/-- the lists of a heap stay -/
def LeH (C C' : Hm) : Prop := ∀ (k : Nat) (ds : List D), C[k]? = some (.lst ds) → C'[k]? = some (.lst ds)
theorem LeH.refl {C : Hm} : LeH C C := fun _ _ h => h
theorem LeH.trans {A B C : Hm} (h : LeH A B) (k : LeH B C) : LeH A C := fun i ds e => k i ds (h i ds e)
theorem LeH.app {C g : Hm} : LeH C (C ++ g) := fun k ds e => by
  rw [List.getElem?_append_left (List.getElem?_eq_some_iff.mp e).1]; exact e
inductive All2 {α β : Type} (R : α → β → Prop) : List α → List β → Prop
  | nil : All2 R [] []
  | cons {a b l r} : R a b → All2 R l r → All2 R (a :: l) (b :: r)
theorem mapM_some_iff {α β : Type} {f : α → Option β} : ∀ {l : List α} {r : List β}, l.mapM f = some r ↔ All2 (fun a b => f a = some b) l r
  | [], r => by
    constructor
    · intro h; cases h; exact .nil
    · intro h; cases h; rfl
  | a :: l, r => by
    constructor
    · intro h
      obtain ⟨b, bs, e1, e2, rfl⟩ := mapM_cons' h
      exact .cons e1 (mapM_some_iff.mp e2)
    · intro h
      cases h with
      | cons e1 e2 => rw [List.mapM_cons, e1, mapM_some_iff.mpr e2]; rfl
theorem mapM_imp {α β : Type} {f g : α → Option β} {l : List α} {r : List β} (k : ∀ a b, f a = some b → g a = some b) (h : l.mapM f = some r) : l.mapM g = some r := by
  rw [mapM_some_iff] at h ⊢
  induction h with
  | nil => exact .nil
  | cons e _ ih => exact .cons (k _ _ e) ih
theorem py_up {C C' : Hm} (L : LeH C C') : ∀ {n m : Nat} {d : D} {p : PyData}, n ≤ m → py C n d = some p → py C' m d = some p
  | 0, _, _, _, _, e => by cases e
  | n + 1, 0, _, _, h, _ => by omega
  | n + 1, m + 1, d, p, h, e => by
    have k : ∀ a b, py C n a = some b → py C' m a = some b := fun a b e => py_up L (by omega) e
    cases d with
    | tup ds =>
      obtain ⟨ps, e1, e2⟩ := omap (show (ds.mapM (py C n)).map PyData.tuple = some p from e)
      show (ds.mapM (py C' m)).map PyData.tuple = some p
      rw [mapM_imp k e1, ← e2]; rfl
    | cell j =>
      unfold py at e
      simp only at e
      split at e
      · rename_i ds q
        obtain ⟨ps, e1, e2⟩ := omap e
        unfold py
        simp only [L _ _ q]
        rw [mapM_imp k e1, ← e2]; rfl
      · cases e
    | _ => exact e
theorem py_bnd {C : Hm} : ∀ {n : Nat} {d : D} {p : PyData}, py C n d = some p → d.bnd C.length = true
  | 0, _, _, e => by cases e
  | n + 1, d, p, e => by
    cases d with
    | tup ds =>
      obtain ⟨ps, e1, e2⟩ := omap (show (ds.mapM (py C n)).map PyData.tuple = some p from e)
      rw [mapM_some_iff] at e1
      show bnds C.length ds = true
      clear e e2
      induction e1 with
      | nil => rfl
      | cons e _ ih => simp only [bnds, Bool.and_eq_true]; exact ⟨py_bnd e, ih⟩
    | cell j =>
      unfold py at e
      simp only at e
      split at e
      · rename_i ds q
        have := (List.getElem?_eq_some_iff.mp q).1
        simp [D.bnd]; omega
      · cases e
    | _ => rfl
theorem py_depth {C : Hm} : ∀ {n : Nat} {d : D} {p : PyData}, py C n d = some p → p.depth ≤ n
  | 0, _, _, e => by cases e
  | n + 1, d, p, e => by
    have k : ∀ {ds : List D} {ps : List PyData}, ds.mapM (py C n) = some ps → PyData.depthAll ps ≤ n := by
      intro ds ps h
      rw [mapM_some_iff] at h
      induction h with
      | nil => simp [PyData.depthAll]
      | cons e _ ih => have := py_depth e; simp only [PyData.depthAll]; omega
    cases d with
    | tup ds =>
      obtain ⟨ps, e1, e2⟩ := omap (show (ds.mapM (py C n)).map PyData.tuple = some p from e)
      subst e2
      have := k e1
      simp only [PyData.depth]; omega
    | cell j =>
      unfold py at e
      simp only at e
      split at e
      · obtain ⟨ps, e1, e2⟩ := omap e
        subst e2
        have := k e1
        simp only [PyData.depth]; omega
      · cases e
    | non => cases e; simp [PyData.depth]
    | bl b => cases e; simp [PyData.depth]
    | int b => cases e; simp [PyData.depth]
    | str b => cases e; simp [PyData.depth]
    | rol b =>
      cases e
      have : PyData.depthAll (b.map PyData.int) = 0 := by
        induction b with
        | nil => simp [PyData.depthAll]
        | cons x b ih => simp [PyData.depthAll, PyData.depth, ih]
      simp only [PyData.depth, this]; omega
    | fn b => cases e
    | ty b => cases e
/-- good data: what a value is, within so many levels -/
def Gd (C : Hm) (n : Nat) (d : D) : Prop := ∃ p, py C n d = some p ∧ p.canLay0 = true
theorem Gd.up {C C' : Hm} {n m : Nat} {d : D} (g : Gd C n d) (L : LeH C C') (h : n ≤ m) : Gd C' m d := let ⟨p, e, l⟩ := g; ⟨p, py_up L h e, l⟩
theorem Gd.app {C g : Hm} {n : Nat} {d : D} (h : Gd C n d) : Gd (C ++ g) n d := h.up LeH.app (Nat.le_refl _)
theorem layAll_iff : ∀ {ps : List PyData}, PyData.canLayAll0 ps = true ↔ ∀ p ∈ ps, p.canLay0 = true
  | [] => by simp [PyData.canLayAll0]
  | p :: ps => by simp [PyData.canLayAll0, layAll_iff (ps := ps)]
theorem gds {C : Hm} {n : Nat} : ∀ {ds : List D}, (∀ d ∈ ds, Gd C n d) → ∃ ps, ds.mapM (py C n) = some ps ∧ PyData.canLayAll0 ps = true ∧ ps.length = ds.length
  | [], _ => ⟨[], rfl, by simp [PyData.canLayAll0], rfl⟩
  | d :: ds, h => by
    obtain ⟨p, e, l⟩ := h d (by simp)
    obtain ⟨ps, e2, l2, h2⟩ := gds (ds := ds) fun x hx => h x (by simp [hx])
    exact ⟨p :: ps, by rw [List.mapM_cons, e, e2]; rfl, by simp [PyData.canLayAll0, l, l2], by simp [h2]⟩
theorem Gd.tup {C : Hm} {n : Nat} {ds : List D} : Gd C (n + 1) (.tup ds) ↔ ∀ d ∈ ds, Gd C n d := by
  constructor
  · rintro ⟨p, e, l⟩
    obtain ⟨ps, e1, e2⟩ := omap (show (ds.mapM (py C n)).map PyData.tuple = some p from e)
    subst e2
    have l' : PyData.canLayAll0 ps = true := by simpa [PyData.canLay0] using l
    rw [mapM_some_iff] at e1
    clear e l
    induction e1 with
    | nil => simp
    | cons e _ ih =>
      simp only [PyData.canLayAll0, Bool.and_eq_true] at l'
      intro d hd
      rcases List.mem_cons.mp hd with z | z
      · rw [z]; exact ⟨_, e, l'.1⟩
      · exact ih l'.2 d z
  · intro h
    obtain ⟨ps, e, l, _⟩ := gds h
    exact ⟨.tuple ps, by show (ds.mapM (py C n)).map PyData.tuple = _; rw [e]; rfl, by simpa [PyData.canLay0] using l⟩
theorem Gd.cell {C : Hm} {n k : Nat} {ds : List D} (hc : C[k]? = some (.lst ds)) : Gd C (n + 1) (.cell k) ↔ ∀ d ∈ ds, Gd C n d := by
  have ep : py C (n + 1) (.cell k) = (ds.mapM (py C n)).map PyData.list := by unfold py; simp only [hc]
  constructor
  · rintro ⟨p, e, l⟩
    rw [ep] at e
    obtain ⟨ps, e1, e2⟩ := omap e
    subst e2
    have l' : PyData.canLayAll0 ps = true := by simpa [PyData.canLay0] using l
    rw [mapM_some_iff] at e1
    clear e l ep hc
    induction e1 with
    | nil => simp
    | cons e _ ih =>
      simp only [PyData.canLayAll0, Bool.and_eq_true] at l'
      intro d hd
      rcases List.mem_cons.mp hd with z | z
      · rw [z]; exact ⟨_, e, l'.1⟩
      · exact ih l'.2 d z
  · intro h
    obtain ⟨ps, e, l, _⟩ := gds h
    exact ⟨.list ps, by rw [ep, e]; rfl, by simpa [PyData.canLay0] using l⟩
/-- the kinds that good data has -/
theorem Gd.kinds {C : Hm} {n : Nat} {d : D} (g : Gd C (n + 1) d) : d = .non ∨ (∃ b, d = .bl b) ∨ (∃ i, d = .int i) ∨ (∃ x, d = .str x ∧ PyData.strOk x = true) ∨ (∃ ds, d = .tup ds ∧ ∀ x ∈ ds, Gd C n x) ∨ (∃ k ds, d = .cell k ∧ C[k]? = some (.lst ds) ∧ ∀ x ∈ ds, Gd C n x) ∨ ∃ ns, d = .rol ns := by
  obtain ⟨p, e, l⟩ := g
  cases d with
  | non => exact .inl rfl
  | bl b => exact .inr (.inl ⟨b, rfl⟩)
  | int b => exact .inr (.inr (.inl ⟨b, rfl⟩))
  | str b => cases e; exact .inr (.inr (.inr (.inl ⟨b, rfl, by simpa [PyData.canLay0] using l⟩)))
  | tup ds => exact .inr (.inr (.inr (.inr (.inl ⟨ds, rfl, Gd.tup.mp ⟨p, e, l⟩⟩))))
  | cell k =>
    cases q : C[k]? with
    | none => unfold py at e; simp only [q] at e; cases e
    | some c =>
      cases c with
      | dic ks => unfold py at e; simp only [q] at e; cases e
      | lst ds => exact .inr (.inr (.inr (.inr (.inr (.inl ⟨k, ds, rfl, q, (Gd.cell q).mp ⟨p, e, l⟩⟩)))))
  | rol ns => exact .inr (.inr (.inr (.inr (.inr (.inr ⟨ns, rfl⟩)))))
  | fn b => cases e
  | ty b => cases e
theorem shaped_of {C : Hm} {n : Nat} {d : D} {p : PyData} (e : py C n d = some p) (l : p.canLay0 = true) (hn : n ≤ 64) : SeqAt.shaped p = true := by
  have := py_depth e
  simp [SeqAt.shaped, l]; omega
/-! ## comparisons -/
theorem isEmp_list {ps : List PyData} : PyData.eqv (.list ps) (.list []) = ps.isEmpty := by cases ps <;> simp [PyData.eqv, PyData.eqvAll]
theorem isEmp_tup {ps : List PyData} : PyData.eqv (.tuple ps) (.tuple []) = ps.isEmpty := by cases ps <;> simp [PyData.eqv, PyData.eqvAll]
theorem len_isEmpty {α β : Type} {xs : List α} {ys : List β} (h : xs.length = ys.length) : xs.isEmpty = ys.isEmpty := by cases xs <;> cases ys <;> simp_all
theorem cmp_nil {f : PyData → PyData → Bool} {C : Hm} {k j : Nat} {ds : List D} (h1 : C[k]? = some (.lst ds)) (h2 : C[j]? = some (.lst [])) (g : ∀ d ∈ ds, Gd C 60 d) : ∃ ps : List PyData, ps.isEmpty = ds.isEmpty ∧ cmpD f (.cell k) (.cell j) C = some (.bl (f (.list ps) (.list [])), C) := by
  obtain ⟨ps, e, l, hl⟩ := gds fun d hd => (g d hd).up LeH.refl (show 60 ≤ 63 by decide)
  have e1 : py C 64 (.cell k) = some (.list ps) := by unfold py; simp only [h1, e]; rfl
  have e1' : py C 70 (.cell k) = some (.list ps) := py_up LeH.refl (by decide) e1
  have e2 : py C 70 (.cell j) = some (.list []) := by unfold py; simp only [h2]; rfl
  refine ⟨ps, len_isEmpty hl, ?_⟩
  show cmpD _ _ _ _ = _
  unfold cmpD
  rw [e1', e2]
  simp only
  rw [if_pos ⟨shaped_of e1 (by simpa [PyData.canLay0] using l) (by decide), by rfl⟩]
theorem eq_nil {C : Hm} {k j : Nat} {ds : List D} (h1 : C[k]? = some (.lst ds)) (h2 : C[j]? = some (.lst [])) (g : ∀ d ∈ ds, Gd C 60 d) : dEq (.cell k) (.cell j) C = some (.bl ds.isEmpty, C) := by
  show cmpD _ _ _ _ = _
  obtain ⟨ps, e1, e2⟩ := cmp_nil (f := fun p q => PyData.eqv p q) h1 h2 g
  show cmpD _ _ _ _ = _
  rw [e2, isEmp_list, e1]
theorem ne_nil {C : Hm} {k j : Nat} {ds : List D} (h1 : C[k]? = some (.lst ds)) (h2 : C[j]? = some (.lst [])) (g : ∀ d ∈ ds, Gd C 60 d) : dNe (.cell k) (.cell j) C = some (.bl (!ds.isEmpty), C) := by
  obtain ⟨ps, e1, e2⟩ := cmp_nil (f := fun p q => !PyData.eqv p q) h1 h2 g
  show cmpD _ _ _ _ = _
  rw [e2, isEmp_list, e1]
theorem cmp_tnil {f : PyData → PyData → Bool} {C : Hm} {ds : List D} (g : ∀ d ∈ ds, Gd C 60 d) : ∃ ps : List PyData, ps.isEmpty = ds.isEmpty ∧ cmpD f (.tup ds) (.tup []) C = some (.bl (f (.tuple ps) (.tuple [])), C) := by
  obtain ⟨ps, e, l, hl⟩ := gds fun d hd => (g d hd).up LeH.refl (show 60 ≤ 63 by decide)
  have e1 : py C 64 (.tup ds) = some (.tuple ps) := by unfold py; simp only [e]; rfl
  have e1' : py C 70 (.tup ds) = some (.tuple ps) := py_up LeH.refl (by decide) e1
  have e2 : py C 70 (.tup []) = some (.tuple []) := rfl
  refine ⟨ps, len_isEmpty hl, ?_⟩
  show cmpD _ _ _ _ = _
  unfold cmpD
  rw [e1', e2]
  simp only
  rw [if_pos ⟨shaped_of e1 (by simpa [PyData.canLay0] using l) (by decide), by rfl⟩]
theorem eq_tnil {C : Hm} {ds : List D} (g : ∀ d ∈ ds, Gd C 60 d) : dEq (.tup ds) (.tup []) C = some (.bl ds.isEmpty, C) := by
  obtain ⟨ps, e1, e2⟩ := cmp_tnil (f := fun p q => PyData.eqv p q) g
  show cmpD _ _ _ _ = _
  rw [e2, isEmp_tup, e1]
theorem ne_tnil {C : Hm} {ds : List D} (g : ∀ d ∈ ds, Gd C 60 d) : dNe (.tup ds) (.tup []) C = some (.bl (!ds.isEmpty), C) := by
  obtain ⟨ps, e1, e2⟩ := cmp_tnil (f := fun p q => !PyData.eqv p q) g
  show cmpD _ _ _ _ = _
  rw [e2, isEmp_tup, e1]
theorem eq_int {C : Hm} {i j : Int} : dEq (.int i) (.int j) C = some (.bl (i == j), C) := by
  simp [dEq, cmpS, cmpD, py, SeqAt.shaped, PyData.canLay0, PyData.depth, PyData.eqv]
theorem ne_int {C : Hm} {i j : Int} : dNe (.int i) (.int j) C = some (.bl (!(i == j)), C) := by
  simp [dNe, cmpS, cmpD, py, SeqAt.shaped, PyData.canLay0, PyData.depth, PyData.eqv]
theorem eq_str {C : Hm} {i j : Str} : dEq (.str i) (.str j) C = some (.bl (i == j), C) := rfl
theorem ne_str {C : Hm} {i j : Str} : dNe (.str i) (.str j) C = some (.bl (!(i == j)), C) := rfl
/-! ## comprehensions, loops -/
theorem lc_at {it : Itm} {tg : MG} {tt : MT} {elt : ME} {E : Ev} {C : Hm} (ds : List D) (tb : D → Bool) (ev : D → D) (hi : ∀ i, it.at C i = some ds[i]?) (hl : ds.length ≤ sizeLine)
    (h : ∀ x ∈ ds, ∃ E1, tg x E = some E1 ∧ tt E1 C = some (tb x, C) ∧ (tb x = true → elt E1 C = some (ev x, C))) :
    ∀ (n i : Nat) (acc : List D), i + n = ds.length → acc.length ≤ i → lcLoop it tg tt elt E (n + 1) i acc C = some (acc ++ ((ds.drop i).filter tb).map ev, C)
  | 0, i, acc, e, ha => by
    unfold lcLoop
    rw [hi, bind_eq rfl]
    have : ds[i]? = none := List.getElem?_eq_none_iff.mpr (by omega)
    rw [this, List.drop_eq_nil_of_le (by omega)]
    simp
  | n + 1, i, acc, e, ha => by
    have hlt : i < ds.length := by omega
    unfold lcLoop
    rw [hi, bind_eq rfl]
    have e1 : ds[i]? = some ds[i] := by simp [hlt]
    rw [e1]
    obtain ⟨E1, q1, q2, q3⟩ := h ds[i] (List.getElem_mem hlt)
    simp only
    rw [q1, bind_eq rfl, q2, bind_eq rfl]
    rw [List.drop_eq_getElem_cons hlt]
    cases q : tb ds[i] with
    | true =>
      simp only [if_true]
      rw [q3 q, bind_eq rfl, if_pos (by omega), lc_at ds tb ev hi hl h n (i + 1) _ (by omega) (by simp; omega), List.filter_cons_of_pos q, List.map_cons, List.append_assoc]
      rfl
    | false =>
      simp only [Bool.false_eq_true, if_false]
      rw [lc_at ds tb ev hi hl h n (i + 1) _ (by omega) (by omega), List.filter_cons_of_neg (by rw [q]; decide)]
/-- what a walk of any value goes through -/
def walkD (C : Hm) : D → Option (List D)
  | .tup ds => some ds
  | .str x => some (strD x)
  | .cell n => match C[n]? with | some (.lst ds) => some ds | _ => none
  | .rol ns => some (ns.map D.int)
  | _ => none
theorem lc_any {me : ME} {tg : MG} {tt : MT} {elt : ME} {vs : List Nat} {E : Ev} {C : Hm} {d : D} (ds : List D) (tb : D → Bool) (ev : D → D) (he : me E C = some (d, C)) (hw : walkD C d = some ds) (hl : ds.length ≤ sizeLine)
    (h : ∀ x ∈ ds, ∃ E1, tg x (wipeE E vs) = some E1 ∧ tt E1 C = some (tb x, C) ∧ (tb x = true → elt E1 C = some (ev x, C))) :
    mLc (mIAny me) tg tt elt vs E C = some (.cell C.length, C ++ [.lst ((ds.filter tb).map ev)]) := by
  unfold mLc mIAny
  rw [he, bind_eq (x := (d, C)) rfl]
  have key : ∃ it, iAnyD d C = some (it, ds.length, C) ∧ ∀ i, it.at C i = some ds[i]? := by
    cases d with
    | tup ds' => cases hw; exact ⟨_, rfl, fun i => rfl⟩
    | str x => cases hw; exact ⟨_, by simp [iAnyD, strD]; rfl, fun i => rfl⟩
    | rol ns => cases hw; exact ⟨_, by simp [iAnyD]; rfl, fun i => rfl⟩
    | cell n =>
      unfold walkD at hw
      simp only at hw
      split at hw
      · rename_i ds' q
        cases hw
        exact ⟨.live n, by unfold iAnyD; simp only [q], fun i => by unfold Itm.at; simp only [q]⟩
      · cases hw
    | _ => cases hw
  obtain ⟨it, k1, k2⟩ := key
  rw [bind_eq k1]
  simp only
  rw [lc_at ds tb ev k2 hl h ds.length 0 [] (by omega) (by simp)]
  simp
theorem lc_rng {ml : MA} {tg : MG} {tt : MT} {elt : ME} {vs : List Nat} {E : Ev} {C : Hm} {i j : Int} (tb : D → Bool) (ev : D → D) (he : ml E C = some ([.int i, .int j], C)) (hb : -(2 ^ 62) ≤ i ∧ i < 2 ^ 62 ∧ -(2 ^ 62) ≤ j ∧ j < 2 ^ 62) (hl : (j - i).toNat ≤ sizeLine)
    (h : ∀ x ∈ rngD i (j - i).toNat, ∃ E1, tg x (wipeE E vs) = some E1 ∧ tt E1 C = some (tb x, C) ∧ (tb x = true → elt E1 C = some (ev x, C))) :
    mLc (mIRng2 ml) tg tt elt vs E C = some (.cell C.length, C ++ [.lst (((rngD i (j - i).toNat).filter tb).map ev)]) := by
  unfold mLc mIRng2
  rw [he]
  simp only [Option.bind_some]
  unfold iRng2D
  simp only
  rw [if_pos hb, bind_eq rfl]
  simp only
  have el : (rngD i (j - i).toNat).length = (j - i).toNat := by simp [rngD]
  rw [lc_at (rngD i (j - i).toNat) tb ev (fun i => rfl) (by rw [el]; exact hl) h (j - i).toNat 0 [] (by rw [el]; omega) (by simp)]
  simp
theorem lc_rng1 {ml : MA} {tg : MG} {tt : MT} {elt : ME} {vs : List Nat} {E : Ev} {C : Hm} {j : Int} (tb : D → Bool) (ev : D → D) (he : ml E C = some ([.int j], C)) (hb : -(2 ^ 62) ≤ j ∧ j < 2 ^ 62) (hl : j.toNat ≤ sizeLine)
    (h : ∀ x ∈ rngD 0 j.toNat, ∃ E1, tg x (wipeE E vs) = some E1 ∧ tt E1 C = some (tb x, C) ∧ (tb x = true → elt E1 C = some (ev x, C))) :
    mLc (mIRng1 ml) tg tt elt vs E C = some (.cell C.length, C ++ [.lst (((rngD 0 j.toNat).filter tb).map ev)]) := by
  unfold mLc mIRng1
  rw [he]
  simp only [Option.bind_some]
  unfold iRng1D
  simp only
  rw [if_pos hb, bind_eq rfl]
  simp only
  have el : (rngD 0 j.toNat).length = j.toNat := by simp [rngD]
  rw [lc_at (rngD 0 j.toNat) tb ev (fun i => rfl) (by rw [el]; exact hl) h j.toNat 0 [] (by rw [el]; omega) (by simp)]
  simp
/-- a for loop over a row of values, by an invariant -/
theorem for_at {it : Itm} {tg : MG} {body : MS} (ds : List D) (Inv : Nat → Ev → Hm → Prop) {Q : Out → Prop} (hi : ∀ i E C, Inv i E C → it.at C i = some ds[i]?)
    (step : ∀ i x E C, ds[i]? = some x → Inv i E C → wpo (tg x E) fun E1 => wpo (body E1 C) fun o => match o with | .nx E2 C2 => Inv (i + 1) E2 C2 | .ct E2 C2 => Inv (i + 1) E2 C2 | .bk E2 C2 => Q (.nx E2 C2) | .rt d C2 => Q (.rt d C2))
    (fin : ∀ E C, Inv ds.length E C → Q (.nx E C)) : ∀ (n i : Nat) (E : Ev) (C : Hm), i + n = ds.length → Inv i E C → wpo (forLoop it tg body (n + 1) i E C) Q
  | 0, i, E, C, e, h => by
    unfold forLoop
    rw [hi i E C h, bind_eq rfl]
    have : ds[i]? = none := List.getElem?_eq_none_iff.mpr (by omega)
    rw [this]
    have : i = ds.length := by omega
    subst this
    exact wpo_some.mpr (fin E C h)
  | n + 1, i, E, C, e, h => by
    have hlt : i < ds.length := by omega
    unfold forLoop
    rw [hi i E C h, bind_eq rfl]
    have e1 : ds[i]? = some ds[i] := by simp [hlt]
    rw [e1]
    simp only
    refine wpo_bind.mpr (wpo_mono (step i _ E C e1 h) fun E1 k => wpo_bind.mpr (wpo_mono k fun o q => ?_))
    cases o with
    | nx E2 C2 => exact for_at ds Inv hi step fin n (i + 1) E2 C2 (by omega) q
    | ct E2 C2 => exact for_at ds Inv hi step fin n (i + 1) E2 C2 (by omega) q
    | bk E2 C2 => exact wpo_some.mpr q
    | rt d C2 => exact wpo_some.mpr q
end Mi
set_option Elab.async false
set_option linter.all false
set_option maxRecDepth 100000
set_option maxHeartbeats 4000000
namespace G
open PySem L2 Mi
theorem fn_ret {n N : Nat} {body : MS} {ds : List D} {C C' : Hm} {d : D} (hl : ds.length = n) (h : body (ds.map some ++ List.replicate (N - n) none) C = some (.rt d C')) : mFn n N body ds C = some (d, C') := by
  unfold mFn
  rw [if_pos hl, h]
  rfl
theorem seq_nx {m n : MS} {E E' : Ev} {C C' : Hm} (h : m E C = some (.nx E' C')) : mSeq m n E C = n E' C' := by unfold mSeq; rw [h]; rfl
theorem seq_rt {m n : MS} {E : Ev} {C C' : Hm} {d : D} (h : m E C = some (.rt d C')) : mSeq m n E C = some (.rt d C') := by unfold mSeq; rw [h]; rfl
theorem ret_eq {m : ME} {E : Ev} {C C' : Hm} {d : D} (h : m E C = some (d, C')) : mRet m E C = some (.rt d C') := by unfold mRet; rw [h]; rfl
/-- good data of bounded size -/
def Gs (C : Hm) (n : Nat) (d : D) : Prop := ∃ p, py C n d = some p ∧ p.canLay0 = true ∧ p.bulk ≤ sizeLine
theorem Gs.gd {C : Hm} {n : Nat} {d : D} (g : Gs C n d) : Gd C n d := let ⟨p, e, l, _⟩ := g; ⟨p, e, l⟩
theorem Gs.up {C C' : Hm} {n m : Nat} {d : D} (g : Gs C n d) (L : LeH C C') (h : n ≤ m) : Gs C' m d := let ⟨p, e, l⟩ := g; ⟨p, py_up L h e, l⟩
theorem bulk_sub {C : Hm} {n : Nat} {ds : List D} {ps : List PyData} (e : ds.mapM (py C n) = some ps) (l : PyData.canLayAll0 ps = true) : ∀ b, PyData.bulkAll ps ≤ b → b ≤ sizeLine → ds.length ≤ b ∧ ∀ x ∈ ds, Gs C n x := by
  rw [mapM_some_iff] at e
  induction e with
  | nil => intro b h1 h2; simp
  | cons e _ ih =>
    intro b h1 h2
    simp only [PyData.canLayAll0, Bool.and_eq_true] at l
    simp only [PyData.bulkAll] at h1
    obtain ⟨k1, k2⟩ := ih l.2 (b - 1) (by omega) (by omega)
    refine ⟨by simp; omega, fun x hx => ?_⟩
    rcases List.mem_cons.mp hx with z | z
    · rw [z]; exact ⟨_, e, l.1, by omega⟩
    · exact k2 x z
inductive Kd (C : Hm) (n : Nat) : D → Prop
  | non : Kd C n .non
  | bl b : Kd C n (.bl b)
  | int i : Kd C n (.int i)
  | str x : PyData.strOk x = true → x.length ≤ sizeLine → Kd C n (.str x)
  | tup ds : ds.length ≤ sizeLine → (∀ x ∈ ds, Gs C n x) → Kd C n (.tup ds)
  | cell k ds : C[k]? = some (.lst ds) → Kd C n (.cell k)
  | rol ns : Kd C n (.rol ns)
theorem Gs.kd {C : Hm} {n : Nat} {d : D} (g : Gs C (n + 1) d) : Kd C n d := by
  obtain ⟨p, e, l, b⟩ := g
  cases d with
  | non => exact .non
  | bl b => exact .bl b
  | int b => exact .int b
  | str x => cases e; exact .str x (by simpa [PyData.canLay0] using l) (show x.cps.size ≤ sizeLine by simpa [PyData.bulk] using b)
  | tup ds =>
    obtain ⟨ps, e1, e2⟩ := omap (show (ds.mapM (py C n)).map PyData.tuple = some p from e)
    subst e2
    obtain ⟨k1, k2⟩ := bulk_sub e1 (by simpa [PyData.canLay0] using l) _ (by simpa [PyData.bulk] using b) (Nat.le_refl _)
    exact .tup ds k1 k2
  | cell k =>
    cases q : C[k]? with
    | none => unfold py at e; simp only [q] at e; cases e
    | some c =>
      cases c with
      | dic ks => unfold py at e; simp only [q] at e; cases e
      | lst ds => exact .cell k ds q
  | rol ns => exact .rol ns
  | fn b => cases e
  | ty b => cases e
/-- the kind of good data -/
def kyN : D → Ky
  | .non => .non
  | .bl _ => .bl
  | .int _ => .int
  | .str _ => .str
  | .tup _ => .tup
  | _ => .lst
theorem isi_eq {C : Hm} {n : Nat} {d : D} {t : Ky} (g : Gs C (n + 1) d) (h : notNon t = true) : isiD [d, .ty t] C = some (.bl (isiK (kyN d) t), C) := by
  cases g.kd <;> simp [isiD, kyD, kyN, h, *]
theorem blsOf_map {α : Type} (f : α → Bool) : ∀ l : List α, blsOf (l.map fun x => D.bl (f x)) = some (l.map f)
  | [] => rfl
  | x :: l => by simp [blsOf, blsOf_map f l]
theorem set_get {E : Ev} {i : Nat} {x : D} (h : i < E.length) {C : Hm} : mVar i (E.set i (some x)) C = some (x, C) := by
  unfold mVar; rw [List.getElem?_set_self h]
theorem last_get {C : Hm} {c : Cell} : (C ++ [c])[C.length]? = some c := by simp
theorem all_any {me elt : ME} {i : Nat} {vs : List Nat} {E : Ev} {C : Hm} {d : D} {ds : List D} (f : D → Bool) (he : me E C = some (d, C)) (hw : walkD C d = some ds) (hl : ds.length ≤ sizeLine)
    (h : ∀ x ∈ ds, elt ((wipeE E vs).set i (some x)) C = some (.bl (f x), C)) :
    mCallB (allD fun bs => bs.all id) (mCons (mLc (mIAny me) (gN i) mYes elt vs) mNil) E C = some (.bl (ds.all f), C ++ [.lst (ds.map fun x => .bl (f x))]) := by
  have e := lc_any (tg := gN i) (tt := mYes) (elt := elt) (vs := vs) ds (fun _ => true) (fun x => .bl (f x)) he hw hl fun x hx => ⟨_, rfl, rfl, fun _ => h x hx⟩
  have ft : ∀ l : List D, l.filter (fun _ => true) = l := fun l => List.filter_eq_self.mpr (by simp)
  rw [ft] at e
  simp only [mCallB, mCons, mNil, e, Option.bind_some, allD, last_get, blsOf_map, Option.map_some]
  simp [List.all_map]
theorem all_rng {ml : MA} {elt : ME} {i : Nat} {vs : List Nat} {E : Ev} {C : Hm} {a b : Int} (f : D → Bool) (he : ml E C = some ([.int a, .int b], C)) (hb : -(2 ^ 62) ≤ a ∧ a < 2 ^ 62 ∧ -(2 ^ 62) ≤ b ∧ b < 2 ^ 62) (hl : (b - a).toNat ≤ sizeLine)
    (h : ∀ x ∈ rngD a (b - a).toNat, elt ((wipeE E vs).set i (some x)) C = some (.bl (f x), C)) :
    ∃ g, mCallB (allD fun bs => bs.all id) (mCons (mLc (mIRng2 ml) (gN i) mYes elt vs) mNil) E C = some (.bl ((rngD a (b - a).toNat).all f), C ++ g) := by
  have e := lc_rng (tg := gN i) (tt := mYes) (elt := elt) (vs := vs) (fun _ => true) (fun x => .bl (f x)) he hb hl fun x hx => ⟨_, rfl, rfl, fun _ => h x hx⟩
  have ft : ∀ l : List D, l.filter (fun _ => true) = l := fun l => List.filter_eq_self.mpr (by simp)
  rw [ft] at e
  refine ⟨[.lst ((rngD a (b - a).toNat).map fun x => .bl (f x))], ?_⟩
  simp only [mCallB, mCons, mNil, e, Option.bind_some, allD, last_get, blsOf_map, Option.map_some]
  simp [List.all_map]
theorem filt_all {ds : List D} {tb : D → Bool} : ((ds.filter tb).map fun x => x).isEmpty = ds.all fun x => !tb x := by
  induction ds with
  | nil => rfl
  | cons x ds ih => cases q : tb x <;> simp_all [List.filter_cons]
theorem last2_get {C : Hm} {c c' : Cell} : (C ++ [c] ++ [c'])[C.length]? = some c := by simp
theorem emp_any {me : ME} {tt : MT} {i : Nat} {vs : List Nat} {E : Ev} {C : Hm} {d : D} {ds : List D} (tb : D → Bool) (he : me E C = some (d, C)) (hw : walkD C d = some ds) (hl : ds.length ≤ sizeLine) (hi : i < (wipeE E vs).length)
    (h : ∀ x ∈ ds, tt ((wipeE E vs).set i (some x)) C = some (tb x, C)) (g : ∀ x ∈ ds, Gd C 60 x) :
    mBin dEq (mLc (mIAny me) (gN i) tt (mVar i) vs) (mLst mNil) E C = some (.bl (ds.all fun x => !tb x), C ++ [.lst (ds.filter tb)] ++ [.lst []]) := by
  have e := lc_any (tg := gN i) (tt := tt) (elt := mVar i) (vs := vs) ds tb (fun x => x) he hw hl fun x hx => ⟨_, rfl, h x hx, fun _ => set_get hi⟩
  rw [List.map_id'] at e
  have e2 : dEq (.cell C.length) (.cell (C ++ [Cell.lst (ds.filter tb)]).length) (C ++ [.lst (ds.filter tb)] ++ [.lst []]) = some (.bl (ds.filter tb).isEmpty, C ++ [.lst (ds.filter tb)] ++ [.lst []]) :=
    eq_nil last2_get last_get fun x hx => ((g x (List.mem_filter.mp hx).1).up LeH.app (Nat.le_refl _)).up LeH.app (Nat.le_refl _)
  unfold mBin
  rw [e]
  simp only [Option.bind_some, mLst, mNil, mkLst, List.length_nil, Nat.zero_le, if_true, e2]
  rw [← filt_all, List.map_id']
theorem emp_rng {ml : MA} {tt : MT} {i : Nat} {vs : List Nat} {E : Ev} {C : Hm} {a b : Int} (tb : D → Bool) (he : ml E C = some ([.int a, .int b], C)) (hb : -(2 ^ 62) ≤ a ∧ a < 2 ^ 62 ∧ -(2 ^ 62) ≤ b ∧ b < 2 ^ 62) (hl : (b - a).toNat ≤ sizeLine) (hi : i < (wipeE E vs).length)
    (h : ∀ x ∈ rngD a (b - a).toNat, tt ((wipeE E vs).set i (some x)) C = some (tb x, C)) :
    ∃ g, mBin dEq (mLc (mIRng2 ml) (gN i) tt (mVar i) vs) (mLst mNil) E C = some (.bl ((rngD a (b - a).toNat).all fun x => !tb x), C ++ g) := by
  have e := lc_rng (tg := gN i) (tt := tt) (elt := mVar i) (vs := vs) tb (fun x => x) he hb hl fun x hx => ⟨_, rfl, h x hx, fun _ => set_get hi⟩
  rw [List.map_id'] at e
  have e2 : dEq (.cell C.length) (.cell (C ++ [Cell.lst ((rngD a (b - a).toNat).filter tb)]).length) (C ++ [.lst ((rngD a (b - a).toNat).filter tb)] ++ [.lst []]) = some (.bl ((rngD a (b - a).toNat).filter tb).isEmpty, C ++ [.lst ((rngD a (b - a).toNat).filter tb)] ++ [.lst []]) :=
    eq_nil last2_get last_get fun x hx => by
      have := (List.mem_filter.mp hx).1
      simp only [rngD, List.mem_map] at this
      obtain ⟨k, _, rfl⟩ := this
      exact ⟨.int _, rfl, rfl⟩
  refine ⟨[.lst ((rngD a (b - a).toNat).filter tb)] ++ [.lst []], ?_⟩
  unfold mBin
  rw [e]
  simp only [Option.bind_some, mLst, mNil, mkLst, List.length_nil, Nat.zero_le, if_true, e2]
  rw [← filt_all, List.map_id', List.append_assoc]
/-! ## numbers -/
def kNum : D → Bool
  | .int i => decide (0 ≤ i)
  | _ => false
theorem is_number_ok {C : Hm} {n : Nat} {d : D} (g : Gs C (n + 1) d) : M_is_number [d] C = some (.bl (kNum d), C) := by
  refine fn_ret rfl (show B_is_number [some d] C = _ from ?_)
  have i1 := isi_eq (t := .int) g rfl
  have i2 := isi_eq (t := .bl) g rfl
  cases g.kd <;> simp [B_is_number, mFn, mSeq, mNext, mBin, mVar, mC, mIfS, mTest, asB, mAsg, mCallB, mCons, mNil, gN, mRet, mIf, mAnd, mOr, mNot, tAndM, tOrM, tNotM, mTru, truD, mDrop, mYes, i1, i2, kyN, isiK, kNum, ordD]
theorem law_key_ok {C : Hm} {n : Nat} {d : D} (g : Gs C (n + 1) d) : M_law_key [d] C = some (.bl (kNum d), C) := by
  refine fn_ret rfl (show B_law_key [some d] C = _ from ?_)
  have i1 := isi_eq (t := .int) g rfl
  have i2 := isi_eq (t := .bl) g rfl
  cases g.kd <;> simp [B_law_key, mFn, mSeq, mNext, mBin, mVar, mC, mIfS, mTest, asB, mAsg, mCallB, mCons, mNil, gN, mRet, mIf, mAnd, mOr, mNot, tAndM, tOrM, tNotM, mTru, truD, mDrop, mYes, i1, i2, kyN, isiK, kNum, ordD]
/-- a kept call whose arguments are at hand -/
theorem kcall {m : MF} {ml : MA} {E : Ev} {C : Hm} {ds : List D} {b : Bool} {g : Hm} (W : WH C) (he : ml E C = some (ds, C)) (h : m ds C = some (.bl b, C ++ g)) : mKeep (mCall m ml) E C = some (.bl b, C) :=
  keep_bl ⟨g, by unfold mCall; rw [bind_eq he]; exact h⟩ W
theorem kcall0 {m : MF} {ml : MA} {E : Ev} {C : Hm} {ds : List D} {b : Bool} (W : WH C) (he : ml E C = some (ds, C)) (h : m ds C = some (.bl b, C)) : mKeep (mCall m ml) E C = some (.bl b, C) :=
  kcall W he (g := []) (by simpa using h)
theorem is_key_ok {C : Hm} (W : WH C) {n : Nat} {d : D} (g : Gs C (n + 1) d) : M_is_key [d] C = some (.bl (kNum d), C) := by
  refine fn_ret rfl (show B_is_key [some d] C = _ from ?_)
  simp [B_is_key, mRet, kcall0 (ml := mCons (mVar 0) mNil) (E := [some d]) W rfl (is_number_ok g)]
/-! ## names -/
def kName : D → Bool
  | .str x => decide (1 ≤ x.length ∧ x.length ≤ 8) && x.cps.toList.all fun c => decide (97 ≤ c ∧ c ≤ 122)
  | _ => false
theorem cps_a : (Str.ofString "a").cps.toList = [97] := by decide +kernel
theorem cps_z : (Str.ofString "z").cps.toList = [122] := by decide +kernel
theorem lt1 {a b : Nat} : (([a] : List Nat) < [b]) = (a < b) := by
  simp [List.cons_lt_cons_iff]
theorem strD_all {x : Str} {f : D → Bool} {g : Nat → Bool} (h : ∀ c, f (.str ⟨#[c]⟩) = g c) : (strD x).all f = x.cps.toList.all g := by
  simp [strD, List.all_map, Function.comp_def, h]
def letterD : D → Bool
  | .str y => decide (97 ≤ y.cps.getD 0 0 ∧ y.cps.getD 0 0 ≤ 122)
  | _ => false
theorem letter_all (x : Str) : (strD x).all letterD = x.cps.toList.all fun c => decide (97 ≤ c ∧ c ≤ 122) := strD_all fun c => rfl
theorem letter_not (x : Str) : ((strD x).all fun d => !(!letterD d)) = x.cps.toList.all fun c => decide (97 ≤ c ∧ c ≤ 122) := strD_all fun c => by simp [letterD]
theorem is_name_ok {C : Hm} {n : Nat} {d : D} (g : Gs C (n + 1) d) : ∃ k, M_is_name [d] C = some (.bl (kName d), C ++ k) := by
  have i1 := isi_eq (t := .str) g rfl
  cases g.kd with
  | str x hs hl =>
    by_cases h1 : 1 ≤ x.length ∧ x.length ≤ 8
    · have e1 : (1 : Int) ≤ x.length := by omega
      have e2 : (x.length : Int) ≤ 8 := by omega
      have a := all_any (me := mVar 0) (i := 1) (vs := [1]) (E := [some (.str x), none]) (C := C) (elt := mChain dLe dLe (mC (.str (Str.ofString "a"))) (mVar 1) (mC (.str (Str.ofString "z")))) letterD rfl (show walkD C (.str x) = some (strD x) from rfl) (by simp [strD]; exact hl) (by
          intro y hy
          simp only [strD, List.mem_map] at hy
          obtain ⟨c, _, rfl⟩ := hy
          by_cases c1 : c < 97 <;> by_cases c2 : 122 < c <;> simp [mChain, mC, mVar, wipeE, asB, ordD, cps_a, cps_z, lt1, c1, c2, letterD] <;> omega)
      rw [letter_all] at a
      have key : B_is_name [some (.str x), none] C = some (.rt (.bl (kName (.str x))) (C ++ [.lst ((strD x).map fun x => .bl (letterD x))])) := by
        unfold B_is_name
        rw [seq_nx (E' := [some (.str x), none]) (C' := C) (by simp [mIfS, tOrM, tNotM, mTru, mTest, mChain, mCallB, mCons, mNil, mVar, mC, truD, asB, mNext, i1, kyN, isiK, lenD, hl, ordD, e1, e2])]
        refine (ret_eq a).trans ?_
        simp [kName, h1]
      exact ⟨_, fn_ret rfl key⟩
    · refine ⟨[], fn_ret rfl (show B_is_name [some (.str x), none] C = _ from ?_)⟩
      by_cases c1 : (1 : Int) ≤ x.length
      · have c2 : ¬ (x.length : Int) ≤ 8 := by omega
        simp [B_is_name, mFn, mSeq, mNext, mBin, mVar, mC, mIfS, mTest, asB, mAsg, mCallB, mCons, mNil, gN, mRet, mIf, mAnd, mOr, mNot, tAndM, tOrM, tNotM, mTru, truD, mDrop, mYes, i1, kyN, isiK, lenD, hl, mChain, ordD, c1, c2, kName]
        omega
      · simp [B_is_name, mFn, mSeq, mNext, mBin, mVar, mC, mIfS, mTest, asB, mAsg, mCallB, mCons, mNil, gN, mRet, mIf, mAnd, mOr, mNot, tAndM, tOrM, tNotM, mTru, truD, mDrop, mYes, i1, kyN, isiK, lenD, hl, mChain, ordD, c1, kName]
        omega
  | _ => exact ⟨[], fn_ret rfl (show B_is_name [some _, none] C = _ from by simp [B_is_name, mFn, mSeq, mNext, mBin, mVar, mC, mIfS, mTest, asB, mAsg, mCallB, mCons, mNil, gN, mRet, mIf, mAnd, mOr, mNot, tAndM, tOrM, tNotM, mTru, truD, mDrop, mYes, i1, kyN, isiK, kName])⟩
theorem law_named_ok {C : Hm} {n : Nat} {d : D} (g : Gs C (n + 1) d) : ∃ k, M_law_named [d] C = some (.bl (kName d), C ++ k) := by
  have i1 := isi_eq (t := .str) g rfl
  cases g.kd with
  | str x hs hl =>
    by_cases h1 : 1 ≤ x.length ∧ x.length ≤ 8
    · have e1 : (0 : Int) < x.length := by omega
      have e2 : (x.length : Int) < 9 := by omega
      have e3 : 0 < x.length := by omega
      have a := emp_any (me := mVar 0) (i := 1) (vs := [1]) (E := [some (.str x), none]) (C := C) (tt := tNotM (mTest (mChain dLe dLe (mC (.int 97)) (mCallB ordC (mCons (mVar 1) mNil)) (mC (.int 122))))) (fun d => !letterD d) rfl (show walkD C (.str x) = some (strD x) from rfl) (by simp [strD]; exact hl) (by simp [wipeE]) (by
          intro y hy
          simp only [strD, List.mem_map] at hy
          obtain ⟨c, _, rfl⟩ := hy
          have k1 : (97 : Int) ≤ c ↔ 97 ≤ c := by omega
          have k2 : (c : Int) ≤ 122 ↔ c ≤ 122 := by omega
          by_cases c1 : 97 ≤ c <;> by_cases c2 : c ≤ 122 <;> simp [tNotM, mTest, mChain, mC, mVar, mCallB, mCons, mNil, ordC, Str.length, wipeE, asB, ordD, k1, k2, c1, c2, letterD] <;> omega) (by
          intro y hy
          simp only [strD, List.mem_map] at hy
          obtain ⟨c, hc, rfl⟩ := hy
          refine ⟨.str ⟨#[c]⟩, rfl, ?_⟩
          simp only [PyData.strOk, Array.all_eq_true_iff_forall_mem] at hs
          have := hs c (by simpa using hc)
          simpa [PyData.canLay0, PyData.strOk] using this)
      rw [letter_not] at a
      have key : B_law_named [some (.str x), none] C = some (.rt (.bl (kName (.str x))) (C ++ ([.lst ((strD x).filter fun x => !letterD x)] ++ [.lst []]))) := by
        unfold B_law_named
        rw [seq_nx (E' := [some (.str x), none]) (C' := C) (by simp [mIfS, tOrM, tNotM, mTru, mTest, mChain, mCallB, mCons, mNil, mVar, mC, truD, asB, mNext, i1, kyN, isiK, lenD, hl, ordD, e1, e2, e3])]
        refine (ret_eq a).trans ?_
        simp [kName, h1]
      exact ⟨_, fn_ret rfl key⟩
    · refine ⟨[], fn_ret rfl (show B_law_named [some (.str x), none] C = _ from ?_)⟩
      by_cases c1 : (0 : Int) < x.length
      · have c2 : ¬ (x.length : Int) < 9 := by omega
        simp [B_law_named, mFn, mSeq, mNext, mBin, mVar, mC, mIfS, mTest, asB, mAsg, mCallB, mCons, mNil, gN, mRet, mIf, mAnd, mOr, mNot, tAndM, tOrM, tNotM, mTru, truD, mDrop, mYes, i1, kyN, isiK, lenD, hl, mChain, ordD, c1, c2, kName]
        omega
      · have c3 : x.length = 0 := by omega
        simp [B_law_named, mFn, mSeq, mNext, mBin, mVar, mC, mIfS, mTest, asB, mAsg, mCallB, mCons, mNil, gN, mRet, mIf, mAnd, mOr, mNot, tAndM, tOrM, tNotM, mTru, truD, mDrop, mYes, i1, kyN, isiK, lenD, mChain, ordD, c3, kName]
  | _ => exact ⟨[], fn_ret rfl (show B_law_named [some _, none] C = _ from by simp [B_law_named, mFn, mSeq, mNext, mBin, mVar, mC, mIfS, mTest, asB, mAsg, mCallB, mCons, mNil, gN, mRet, mIf, mAnd, mOr, mNot, tAndM, tOrM, tNotM, mTru, truD, mDrop, mYes, i1, kyN, isiK, kName])⟩
end G
set_option Elab.async false
set_option linter.all false
set_option maxRecDepth 100000
set_option maxHeartbeats 4000000
namespace G
open PySem L2 Mi
/-! ## pairs, texts, things -/
def isPair : D → Bool
  | .tup [_, _] => true
  | _ => false
theorem dEq_len {C : Hm} {n : Nat} {j : Int} : dEq (.int n) (.int j) C = some (.bl ((n : Int) == j), C) := eq_int
theorem is_pair_ok {C : Hm} {n : Nat} {d : D} (g : Gs C (n + 1) d) : M_is_pair [d] C = some (.bl (isPair d), C) := by
  refine fn_ret rfl (show B_is_pair [some d] C = _ from ?_)
  have i1 := isi_eq (t := .tup) g rfl
  cases g.kd with
  | tup ds h1 h2 =>
    rcases ds with _ | ⟨a, _ | ⟨b, _ | ⟨c, r⟩⟩⟩ <;> simp [B_is_pair, mRet, mAnd, mCallB, mCons, mNil, mVar, mC, mBin, asB, i1, kyN, isiK, isPair, lenD, eq_int]
    omega
  | _ => simp [B_is_pair, mRet, mAnd, mCallB, mCons, mNil, mVar, mC, asB, i1, kyN, isiK, isPair]
theorem isPair_iff {d : D} (h : isPair d = true) : ∃ a b, d = .tup [a, b] := by
  unfold isPair at h
  split at h
  · exact ⟨_, _, rfl⟩
  · cases h
theorem ix0 {C : Hm} {a : D} {r : List D} {E : Ev} : mCons (mBin ixD (mVar 0) (mC (.int 0))) mNil (some (.tup (a :: r)) :: E) C = some ([a], C) := by
  simp [mCons, mNil, mBin, mVar, mC, ixD, atI, ixN]
theorem ix1 {C : Hm} {a b : D} {r : List D} {E : Ev} : mCons (mBin ixD (mVar 0) (mC (.int 1))) mNil (some (.tup (a :: b :: r)) :: E) C = some ([b], C) := by
  have e : (1 : Int) < (r.length : Int) + 1 + 1 := by omega
  simp [mCons, mNil, mBin, mVar, mC, ixD, atI, ixN, e]
theorem jx0 {C : Hm} {a : D} {r : List D} {E : Ev} : mBin ixD (mVar 0) (mC (.int 0)) (some (.tup (a :: r)) :: E) C = some (a, C) := by
  simp [mBin, mVar, mC, ixD, atI, ixN]
theorem jx1 {C : Hm} {a b : D} {r : List D} {E : Ev} : mBin ixD (mVar 0) (mC (.int 1)) (some (.tup (a :: b :: r)) :: E) C = some (b, C) := by
  have e : (1 : Int) < (r.length : Int) + 1 + 1 := by omega
  simp [mBin, mVar, mC, ixD, atI, ixN, e]
theorem v0 {C : Hm} {a : D} {E : Ev} : mCons (mVar 0) mNil (some a :: E) C = some ([a], C) := rfl
def kText : D → Bool
  | .tup [a, b] => kName a && kNum b
  | _ => false
theorem sub2 {C : Hm} {n : Nat} {a b : D} (g : Gs C (n + 1) (.tup [a, b])) : Gs C n a ∧ Gs C n b := by
  cases g.kd with | tup ds h1 h2 => exact ⟨h2 a (by simp), h2 b (by simp)⟩
theorem subs {C : Hm} {n : Nat} {ds : List D} (g : Gs C (n + 1) (.tup ds)) : ds.length ≤ sizeLine ∧ ∀ x ∈ ds, Gs C n x := by
  cases g.kd with | tup ds h1 h2 => exact ⟨h1, h2⟩
theorem k_is_name {C : Hm} (W : WH C) {n : Nat} {d : D} (g : Gs C (n + 1) d) {ml : MA} {E : Ev} (he : ml E C = some ([d], C)) : mKeep (mCall M_is_name ml) E C = some (.bl (kName d), C) := let ⟨_, h⟩ := is_name_ok g; kcall W he h
theorem k_law_named {C : Hm} (W : WH C) {n : Nat} {d : D} (g : Gs C (n + 1) d) {ml : MA} {E : Ev} (he : ml E C = some ([d], C)) : mKeep (mCall M_law_named ml) E C = some (.bl (kName d), C) := let ⟨_, h⟩ := law_named_ok g; kcall W he h
theorem k_is_number {C : Hm} (W : WH C) {n : Nat} {d : D} (g : Gs C (n + 1) d) {ml : MA} {E : Ev} (he : ml E C = some ([d], C)) : mKeep (mCall M_is_number ml) E C = some (.bl (kNum d), C) := kcall0 W he (is_number_ok g)
theorem k_law_key {C : Hm} (W : WH C) {n : Nat} {d : D} (g : Gs C (n + 1) d) {ml : MA} {E : Ev} (he : ml E C = some ([d], C)) : mKeep (mCall M_law_key ml) E C = some (.bl (kNum d), C) := kcall0 W he (law_key_ok g)
theorem k_is_key {C : Hm} (W : WH C) {n : Nat} {d : D} (g : Gs C (n + 1) d) {ml : MA} {E : Ev} (he : ml E C = some ([d], C)) : mKeep (mCall M_is_key ml) E C = some (.bl (kNum d), C) := kcall0 W he (is_key_ok W g)
theorem k_is_pair {C : Hm} (W : WH C) {n : Nat} {d : D} (g : Gs C (n + 1) d) {ml : MA} {E : Ev} (he : ml E C = some ([d], C)) : mKeep (mCall M_is_pair ml) E C = some (.bl (isPair d), C) := kcall0 W he (is_pair_ok g)
theorem noPair_text {d : D} (h : isPair d = false) : kText d = false := by
  unfold isPair at h
  unfold kText
  split <;> simp_all
theorem is_text_ok {C : Hm} (W : WH C) {n : Nat} {d : D} (g : Gs C (n + 2) d) : M_is_text [d] C = some (.bl (kText d), C) := by
  refine fn_ret rfl (show B_is_text [some d] C = _ from ?_)
  have p1 := k_is_pair W g (ml := mCons (mVar 0) mNil) (E := [some d]) rfl
  cases q : isPair d with
  | false => simp [B_is_text, mRet, mAnd, asB, p1, q, noPair_text q]
  | true =>
    obtain ⟨a, b, rfl⟩ := isPair_iff q
    obtain ⟨ga, gb⟩ := sub2 g
    have p2 := k_is_name W ga (ix0 (r := [b]) (E := []))
    have p3 := k_is_number W gb (ix1 (a := a) (r := []) (E := []))
    cases q2 : kName a <;> simp [B_is_text, mRet, mAnd, asB, p1, p2, p3, q, q2, kText]
theorem k_is_text {C : Hm} (W : WH C) {n : Nat} {d : D} (g : Gs C (n + 2) d) {ml : MA} {E : Ev} (he : ml E C = some ([d], C)) : mKeep (mCall M_is_text ml) E C = some (.bl (kText d), C) := kcall0 W he (is_text_ok W g)
theorem law_page_ok {C : Hm} (W : WH C) {n : Nat} {d : D} (g : Gs C (n + 2) d) : M_law_page [d] C = some (.bl (kText d), C) := by
  refine fn_ret rfl (show B_law_page [some d] C = _ from ?_)
  have i1 := isi_eq (t := .tup) g rfl
  cases g.kd with
  | tup ds h1 h2 =>
    rcases ds with _ | ⟨a, _ | ⟨b, _ | ⟨c, r⟩⟩⟩
    · simp [B_law_page, mRet, mAnd, mCallB, mCons, mNil, mVar, mC, mBin, asB, i1, kyN, isiK, kText, lenD, eq_int]
    · simp [B_law_page, mRet, mAnd, mCallB, mCons, mNil, mVar, mC, mBin, asB, i1, kyN, isiK, kText, lenD, eq_int]
    · have p2 := k_law_named W (h2 a (by simp)) (ix0 (r := [b]) (E := []))
      have p3 := k_law_key W (h2 b (by simp)) (ix1 (a := a) (r := []) (E := []))
      have e1 : (mBin dEq (mCallB lenD (mCons (mVar 0) mNil)) (mC (.int 2))) [some (.tup [a, b])] C = some (.bl true, C) := by simp [mCallB, mCons, mNil, mVar, mC, mBin, lenD, eq_int]
      have e2 : (mCallB isiD (mCons (mVar 0) (mCons (mC (.ty .tup)) mNil))) [some (.tup [a, b])] C = some (.bl true, C) := by simp [mCallB, mCons, mNil, mVar, mC, i1, kyN, isiK]
      cases q2 : kName a <;> simp [B_law_page, mRet, mAnd, asB, p2, p3, q2, kText, e1, e2]
    · have e1 : ((r.length : Int) + 1 + 1 + 1 == 2) = false := by simp; omega
      simp [B_law_page, mRet, mAnd, mCallB, mCons, mNil, mVar, mC, mBin, asB, i1, kyN, isiK, kText, lenD, eq_int, e1]
  | _ => simp [B_law_page, mRet, mAnd, mCallB, mCons, mNil, mVar, mC, asB, i1, kyN, isiK, kText]
theorem k_law_page {C : Hm} (W : WH C) {n : Nat} {d : D} (g : Gs C (n + 2) d) {ml : MA} {E : Ev} (he : ml E C = some ([d], C)) : mKeep (mCall M_law_page ml) E C = some (.bl (kText d), C) := kcall0 W he (law_page_ok W g)
def kThing (d : D) : Bool := kNum d || kText d
theorem is_thing_ok {C : Hm} (W : WH C) {n : Nat} {d : D} (g : Gs C (n + 2) d) : M_is_thing [d] C = some (.bl (kThing d), C) := by
  refine fn_ret rfl (show B_is_thing [some d] C = _ from ?_)
  have p1 := k_is_key W g (ml := mCons (mVar 0) mNil) (E := [some d]) rfl
  have p2 := k_is_text W g (ml := mCons (mVar 0) mNil) (E := [some d]) rfl
  cases q : kNum d <;> simp [B_is_thing, mRet, mOr, asB, p1, p2, q, kThing]
theorem k_is_thing {C : Hm} (W : WH C) {n : Nat} {d : D} (g : Gs C (n + 2) d) {ml : MA} {E : Ev} (he : ml E C = some ([d], C)) : mKeep (mCall M_is_thing ml) E C = some (.bl (kThing d), C) := kcall0 W he (is_thing_ok W g)
/-! ## rows in order -/
def ltD : D → D → Bool
  | .int i, .int j => decide (i < j)
  | .str i, .str j => decide (i.cps.toList < j.cps.toList)
  | _, _ => false
def ascT (ds : List D) : D → Bool
  | .int k => match atI ds (k - 1), atI ds k with | some x, some y => ltD x y | _, _ => false
  | _ => false
def ascB (ds : List D) : Bool := (rngD 1 ((ds.length : Int) - 1).toNat).all (ascT ds)
def OrdL (ds : List D) : Prop := (∀ x ∈ ds, ∃ i, x = .int i) ∨ ∀ x ∈ ds, ∃ s, x = .str s
theorem asc_at {ds : List D} (o : OrdL ds) {x : D} (hx : x ∈ rngD 1 ((ds.length : Int) - 1).toNat) : ∃ k a b, x = .int k ∧ atI ds (k - 1) = some a ∧ atI ds k = some b ∧ (∀ C, dLt a b C = some (.bl (ltD a b), C)) ∧ ∀ C, dGe a b C = some (.bl (!ltD a b), C) := by
  simp only [rngD, List.mem_map, List.mem_range] at hx
  obtain ⟨m, hm, rfl⟩ := hx
  have h1 : m < ds.length := by omega
  have h2 : m + 1 < ds.length := by omega
  refine ⟨1 + (m : Int), ds[m], ds[m + 1], rfl, ?_, ?_, ?_⟩
  · have e : (1 + (m : Int) - 1) = (m : Nat) := by omega
    rw [e]
    unfold atI ixN
    rw [if_pos (by omega), if_pos (by omega)]
    simp [h1]
  · unfold atI ixN
    rw [if_pos (by omega), if_pos (by omega)]
    have e : (1 + (m : Int)).toNat = m + 1 := by omega
    simp [e, h2]
  · have m1 := List.getElem_mem h1
    have m2 := List.getElem_mem h2
    rcases o with o | o
    · obtain ⟨i, e1⟩ := o _ m1
      obtain ⟨j, e2⟩ := o _ m2
      rw [e1, e2]
      refine ⟨fun C => rfl, fun C => ?_⟩
      by_cases hh : j ≤ i
      · have : ¬ i < j := by omega
        simp [dGe, ordD, ltD, hh, this]
      · have : i < j := by omega
        simp [dGe, ordD, ltD, hh, this]
    · obtain ⟨i, e1⟩ := o _ m1
      obtain ⟨j, e2⟩ := o _ m2
      rw [e1, e2]
      exact ⟨fun C => rfl, fun C => rfl⟩
/-- a row: its length and its places -/
def RowD (C : Hm) (d : D) (ds : List D) : Prop := lenD [d] C = some (.int ds.length, C) ∧ ∀ i, ixD d (.int i) C = (atI ds i).map fun x => (x, C)
theorem rowT {C : Hm} {ds : List D} : RowD C (.tup ds) ds := ⟨rfl, fun _ => rfl⟩
theorem rowC {C : Hm} {k : Nat} {ds : List D} (h : C[k]? = some (.lst ds)) : RowD C (.cell k) ds := by
  refine ⟨?_, fun i => ?_⟩
  · unfold lenD; simp only [h]
  · unfold ixD; simp only [h]
theorem szL : sizeLine = 16777216 := by decide
theorem ascends_ok {C : Hm} {d : D} {ds : List D} (r : RowD C d ds) (o : OrdL ds) (hl : ds.length ≤ sizeLine) : ∃ k, M_ascends [d] C = some (.bl (ascB ds), C ++ k) := by
  have z := szL
  obtain ⟨g, a⟩ := all_rng (ml := mCons (mC (.int 1)) (mCons (mCallB lenD (mCons (mVar 0) mNil)) mNil)) (i := 1) (vs := [1]) (E := [some d, none]) (C := C) (a := 1) (b := ds.length) (elt := mBin dLt (mBin ixD (mVar 0) (mBin subD (mVar 1) (mC (.int 1)))) (mBin ixD (mVar 0) (mVar 1))) (ascT ds)
    (by simp [mCons, mNil, mC, mCallB, mVar, r.1]) (by omega) (by omega) (by
      intro x hx
      obtain ⟨k, a, b, rfl, h1, h2, h3, h4⟩ := asc_at o hx
      simp [mBin, mVar, mC, wipeE, subD, r.2, h1, h2, h3, ascT])
  exact ⟨g, fn_ret rfl (show B_ascends [some d, none] C = _ from ret_eq a)⟩
theorem law_rises_ok {C : Hm} {d : D} {ds : List D} (r : RowD C d ds) (o : OrdL ds) (hl : ds.length ≤ sizeLine) : ∃ k, M_law_rises [d] C = some (.bl (ascB ds), C ++ k) := by
  have z := szL
  obtain ⟨g, a⟩ := emp_rng (ml := mCons (mC (.int 1)) (mCons (mCallB lenD (mCons (mVar 0) mNil)) mNil)) (i := 1) (vs := [1]) (E := [some d, none]) (C := C) (a := 1) (b := ds.length) (tt := mTest (mBin dGe (mBin ixD (mVar 0) (mBin subD (mVar 1) (mC (.int 1)))) (mBin ixD (mVar 0) (mVar 1)))) (fun x => !ascT ds x)
    (by simp [mCons, mNil, mC, mCallB, mVar, r.1]) (by omega) (by omega) (by simp [wipeE]) (by
      intro x hx
      obtain ⟨k, a, b, rfl, h1, h2, h3, h4⟩ := asc_at o hx
      simp [mTest, mBin, mVar, mC, wipeE, subD, r.2, h1, h2, h4, ascT, asB])
  simp only [Bool.not_not] at a
  exact ⟨g, fn_ret rfl (show B_law_rises [some d, none] C = _ from ret_eq a)⟩
theorem mAnd_tf {ma mb : ME} {E : Ev} {C C1 : Hm} {b : Bool} {r : Option (D × Hm)} (h : ma E C = some (.bl b, C1)) (h1 : b = true → mb E C1 = r) (h2 : b = false → r = some (.bl false, C1)) : mAnd ma mb E C = r := by
  unfold mAnd
  rw [h]
  cases b with
  | true => simp only [asB, Option.bind_some, if_true]; exact h1 rfl
  | false => simp only [asB, Option.bind_some, Bool.false_eq_true, if_false]; exact (h2 rfl).symm
/-! ## tuples of a kind, keys -/
def isTupOf (f : D → Bool) : D → Bool
  | .tup ds => ds.all f
  | _ => false
theorem tuple_of_ok {C : Hm} {n : Nat} {d : D} {m : MF} {f : D → Bool} {j : Nat} (g : Gs C (n + 1) d) (h : ∀ x, Gs C n x → m [x] C = some (.bl (f x), C)) : ∃ k, M_is_tuple_of (tab1 j m) [.fn j, d] C = some (.bl (isTupOf f d), C ++ k) := by
  have i1 := isi_eq (t := .tup) g rfl
  cases g.kd with
  | tup ds h1 h2 =>
    have a := all_any (me := mVar 1) (i := 2) (vs := [2]) (E := [some (.fn j), some (.tup ds), none]) (C := C) (elt := mCallV 0 (tab1 j m) (mCons (mVar 2) mNil)) f rfl (show walkD C (.tup ds) = some ds from rfl) h1 (by
      intro x hx
      simp [mCallV, wipeE, tab1, mCons, mNil, mVar, h x (h2 x hx)])
    have e0 : (mCallB isiD (mCons (mVar 1) (mCons (mC (.ty .tup)) mNil))) [some (.fn j), some (.tup ds), none] C = some (.bl true, C) := by simp [mCallB, mCons, mNil, mVar, mC, i1, kyN, isiK]
    exact ⟨_, fn_ret rfl (show B_is_tuple_of _ [some (.fn j), some (.tup ds), none] C = _ from ret_eq (mAnd_tf e0 (fun _ => a) fun z => by cases z))⟩
  | _ => exact ⟨[], fn_ret rfl (show B_is_tuple_of _ [some (.fn j), some _, none] C = _ from by simp [B_is_tuple_of, mRet, mAnd, mCallB, mCons, mNil, mVar, mC, asB, i1, kyN, isiK, isTupOf])⟩
def kKeys : D → Bool
  | .tup ds => ds.all kNum && ascB ds
  | _ => false
theorem ord_num {ds : List D} (h : ds.all kNum = true) : OrdL ds := by
  refine .inl fun x hx => ?_
  have := List.all_eq_true.mp h x hx
  cases x <;> first | exact ⟨_, rfl⟩ | cases this
theorem keys_no {d : D} (q : isTupOf kNum d = false) : kKeys d = false := by
  cases d with
  | tup ds => simp only [kKeys]; rw [show ds.all kNum = false from q]; rfl
  | _ => rfl
theorem keys_yes {ds : List D} (q : ds.all kNum = true) : kKeys (.tup ds) = ascB ds := by
  simp only [kKeys]; rw [q]; rfl
theorem is_keys_ok {C : Hm} (W : WH C) {n : Nat} {d : D} (g : Gs C (n + 2) d) : M_is_keys [d] C = some (.bl (kKeys d), C) := by
  obtain ⟨_, p⟩ := tuple_of_ok (j := 0) g fun x hx => is_key_ok W hx
  have e1 : mCons (mC (.fn 0)) (mCons (mVar 0) mNil) [some d] C = some ([.fn 0, d], C) := rfl
  have p1 := kcall W e1 p
  have key : B_is_keys [some d] C = some (.rt (.bl (kKeys d)) C) := by
    refine ret_eq (mAnd_tf p1 (fun q => ?_) fun q => by rw [keys_no q])
    cases d with
    | tup ds =>
      obtain ⟨_, r⟩ := ascends_ok (C := C) (rowT (ds := ds)) (ord_num q) (subs g).1
      rw [keys_yes q]
      exact kcall W (v0 (E := [])) r
    | _ => cases q
  exact fn_ret rfl key
theorem k_is_keys {C : Hm} (W : WH C) {n : Nat} {d : D} (g : Gs C (n + 2) d) {ml : MA} {E : Ev} (he : ml E C = some ([d], C)) : mKeep (mCall M_is_keys ml) E C = some (.bl (kKeys d), C) := kcall0 W he (is_keys_ok W g)
theorem wh_two {C : Hm} (W : WH C) {ds : List D} {f : D → Bool} {n : Nat} (g : ∀ x ∈ ds, Gs C n x) : WH (C ++ [.lst (ds.filter f)] ++ [.lst []]) := by
  refine (W.app ?_).app rfl
  refine bnds_iff.mpr fun x hx => ?_
  obtain ⟨p, e, _⟩ := g x (List.mem_filter.mp hx).1
  exact bnd_up (by omega) (py_bnd e)
theorem law_keyed_ok {C : Hm} (W : WH C) {n : Nat} (hn : n ≤ 59) {d : D} (g : Gs C (n + 2) d) : ∃ k, M_law_keyed [d] C = some (.bl (kKeys d), C ++ k) := by
  have i1 := isi_eq (t := .tup) g rfl
  cases g.kd with
  | tup ds h1 h2 =>
    have a := emp_any (me := mVar 0) (i := 1) (vs := [1]) (E := [some (.tup ds), none]) (C := C) (tt := tNotM (mTru (mKeep (mCall M_law_key (mCons (mVar 1) mNil))))) (fun x => !kNum x) rfl (show walkD C (.tup ds) = some ds from rfl) h1 (by simp [wipeE]) (by
      intro x hx
      have p := k_law_key W (h2 x hx) (ml := mCons (mVar 1) mNil) (E := [some (.tup ds), some x]) rfl
      simp [tNotM, mTru, wipeE, p, truD]) (fun x hx => (h2 x hx).gd.up LeH.refl (by omega))
    simp only [Bool.not_not] at a
    have e0 : (mCallB isiD (mCons (mVar 0) (mCons (mC (.ty .tup)) mNil))) [some (.tup ds), none] C = some (.bl true, C) := by simp [mCallB, mCons, mNil, mVar, mC, i1, kyN, isiK]
    have key : B_law_keyed [some (.tup ds), none] C = some (.rt (.bl (kKeys (.tup ds))) (C ++ [.lst (ds.filter fun x => !kNum x)] ++ [.lst []])) := by
      refine ret_eq (mAnd_tf e0 (fun _ => mAnd_tf a (fun q => ?_) fun q => by rw [keys_no (d := .tup ds) q]) fun z => by cases z)
      obtain ⟨_, r⟩ := law_rises_ok (C := C ++ [.lst (ds.filter fun x => !kNum x)] ++ [.lst []]) (rowT (ds := ds)) (ord_num q) h1
      rw [keys_yes q]
      exact kcall (wh_two W h2) (v0 (E := [none])) r
    rw [List.append_assoc] at key
    exact ⟨_, fn_ret rfl key⟩
  | _ => exact ⟨[], fn_ret rfl (show B_law_keyed [some _, none] C = _ from by simp [B_law_keyed, mRet, mAnd, mCallB, mCons, mNil, mVar, mC, asB, i1, kyN, isiK, kKeys])⟩
theorem k_law_keyed {C : Hm} (W : WH C) {n : Nat} (hn : n ≤ 59) {d : D} (g : Gs C (n + 2) d) {ml : MA} {E : Ev} (he : ml E C = some ([d], C)) : mKeep (mCall M_law_keyed ml) E C = some (.bl (kKeys d), C) := let ⟨_, h⟩ := law_keyed_ok W hn g; kcall W he h
end G
set_option Elab.async false
set_option linter.all false
set_option maxRecDepth 100000
set_option maxHeartbeats 4000000
namespace G
open PySem L2 Mi
/-! ## steps -/
theorem bin_eq {op : OD2} {ma mb : ME} {E : Ev} {C C1 C2 : Hm} {a b : D} (h1 : ma E C = some (a, C1)) (h2 : mb E C1 = some (b, C2)) : mBin op ma mb E C = op a b C2 := by unfold mBin; rw [h1]; simp only [Option.bind_some]; rw [h2]; rfl
theorem callB_eq {op : ODL} {ml : MA} {E : Ev} {C C1 : Hm} {ds : List D} (h1 : ml E C = some (ds, C1)) : mCallB op ml E C = op ds C1 := by unfold mCallB; rw [h1]; rfl
theorem or_t {t u : MT} {E : Ev} {C C1 : Hm} (h : t E C = some (true, C1)) : tOrM t u E C = some (true, C1) := by unfold tOrM; rw [h]; rfl
theorem or_f {t u : MT} {E : Ev} {C C1 : Hm} (h : t E C = some (false, C1)) : tOrM t u E C = u E C1 := by unfold tOrM; rw [h]; rfl
theorem and_t {t u : MT} {E : Ev} {C C1 : Hm} (h : t E C = some (true, C1)) : tAndM t u E C = u E C1 := by unfold tAndM; rw [h]; rfl
theorem and_f {t u : MT} {E : Ev} {C C1 : Hm} (h : t E C = some (false, C1)) : tAndM t u E C = some (false, C1) := by unfold tAndM; rw [h]; rfl
theorem not_eq {t : MT} {E : Ev} {C C1 : Hm} {b : Bool} (h : t E C = some (b, C1)) : tNotM t E C = some (!b, C1) := by unfold tNotM; rw [h]; rfl
theorem tru_bl {m : ME} {E : Ev} {C C1 : Hm} {b : Bool} (h : m E C = some (.bl b, C1)) : mTru m E C = some (b, C1) := by unfold mTru; rw [h]; rfl
theorem tst_bl {m : ME} {E : Ev} {C C1 : Hm} {b : Bool} (h : m E C = some (.bl b, C1)) : mTest m E C = some (b, C1) := by unfold mTest; rw [h]; rfl
theorem ifs_t {t : MT} {m n : MS} {E : Ev} {C C1 : Hm} (h : t E C = some (true, C1)) : mIfS t m n E C = m E C1 := by unfold mIfS; rw [h]; rfl
theorem ifs_f {t : MT} {m n : MS} {E : Ev} {C C1 : Hm} (h : t E C = some (false, C1)) : mIfS t m n E C = n E C1 := by unfold mIfS; rw [h]; rfl
/-- a test that leads to False, or goes on -/
theorem seq_no {t : MT} {n : MS} {E : Ev} {C C1 : Hm} (h : t E C = some (true, C1)) : mSeq (mIfS t (mRet (mC (.bl false))) mNext) n E C = some (.rt (.bl false) C1) := seq_rt (by rw [ifs_t h]; rfl)
theorem seq_go {t : MT} {n : MS} {E : Ev} {C C1 : Hm} (h : t E C = some (false, C1)) : mSeq (mIfS t (mRet (mC (.bl false))) mNext) n E C = n E C1 := seq_nx (by rw [ifs_f h]; rfl)
theorem lst_nil {E : Ev} {C : Hm} : mLst mNil E C = some (.cell C.length, C ++ [.lst []]) := by simp [mLst, mNil, mkLst]
theorem tup_nil {E : Ev} {C : Hm} : mTup mNil E C = some (.tup [], C) := by simp [mTup, mNil, mkTup]
/-! ## boxes -/
theorem ints_of {ds : List D} (h : ds.all kNum = true) : ∃ is : List Int, ds = is.map D.int := by
  induction ds with
  | nil => exact ⟨[], rfl⟩
  | cons d ds ih =>
    simp only [List.all_cons, Bool.and_eq_true] at h
    obtain ⟨is, e⟩ := ih h.2
    cases d with
    | int i => exact ⟨i :: is, by rw [e]; rfl⟩
    | _ => cases h.1
theorem py_ints (C : Hm) (n : Nat) : ∀ xs : List Int, (xs.map D.int).mapM (py C (n + 1)) = some (xs.map PyData.int)
  | [] => rfl
  | x :: xs => by rw [List.map_cons, List.mapM_cons, py_ints C n xs]; rfl
theorem lay_ints : ∀ xs : List Int, PyData.canLayAll0 (xs.map PyData.int) = true
  | [] => by simp [PyData.canLayAll0]
  | x :: xs => by simp [PyData.canLayAll0, PyData.canLay0, lay_ints xs]
theorem dep_ints : ∀ xs : List Int, PyData.depthAll (xs.map PyData.int) = 0
  | [] => by simp [PyData.depthAll]
  | x :: xs => by simp [PyData.depthAll, PyData.depth, dep_ints xs]
theorem shaped_ints (xs : List Int) : SeqAt.shaped (.list (xs.map PyData.int)) = true := by simp [SeqAt.shaped, PyData.canLay0, lay_ints, PyData.depth, dep_ints]
/-- a thing among keys -/
def eqK (a x : D) : Bool := match a, x with
  | .int i, .int j => j == i
  | _, _ => false
def hasK (a : D) (ks : List D) : Bool := ks.any (eqK a)
theorem notin_int {C : Hm} {i : Int} {ks : List D} (h : ks.all kNum = true) : inD true (.int i) (.tup ks) C = some (.bl (!hasK (.int i) ks), C) := by
  obtain ⟨is, rfl⟩ := ints_of h
  have e1 : py C 70 (.int i) = some (.int i) := rfl
  have e2 : py C 70 (.tup (is.map D.int)) = some (.tuple (is.map PyData.int)) := by
    show ((is.map D.int).mapM (py C 69)).map PyData.tuple = _
    rw [py_ints]; rfl
  have s1 : SeqAt.shaped (.int i) = true := by simp [SeqAt.shaped, PyData.canLay0, PyData.depth]
  unfold inD
  rw [e1, e2]
  simp only [Option.bind_some, itemsP, s1, shaped_ints, and_self, if_true]
  simp [hasK, eqK, List.any_map, Function.comp_def, PyData.eqv]
theorem notin_tup {C : Hm} {n : Nat} (hn : n ≤ 60) {as ks : List D} (g : Gd C n (.tup as)) (h : ks.all kNum = true) : inD true (.tup as) (.tup ks) C = some (.bl (!hasK (.tup as) ks), C) := by
  obtain ⟨is, rfl⟩ := ints_of h
  obtain ⟨p, e, l⟩ := g
  have e1 : py C 70 (.tup as) = some p := py_up LeH.refl (by omega) e
  have e2 : py C 70 (.tup (is.map D.int)) = some (.tuple (is.map PyData.int)) := by
    show ((is.map D.int).mapM (py C 69)).map PyData.tuple = _
    rw [py_ints]; rfl
  have s1 : SeqAt.shaped p = true := shaped_of e l (by omega)
  obtain ⟨ps, rfl⟩ : ∃ ps, p = .tuple ps := by
    obtain ⟨ps, _, e4⟩ := omap (show (as.mapM (py C 69)).map PyData.tuple = some p from e1)
    exact ⟨ps, e4.symm⟩
  unfold inD
  rw [e1, e2]
  simp only [Option.bind_some, itemsP, s1, shaped_ints, and_self, if_true]
  simp [hasK, eqK, List.any_map, Function.comp_def, PyData.eqv]
theorem notin_ok {C : Hm} {n : Nat} (hn : n ≤ 60) {a : D} {ks : List D} (g : Gd C n a) (t : kThing a = true) (h : ks.all kNum = true) : inD true a (.tup ks) C = some (.bl (!hasK a ks), C) := by
  cases a with
  | int i => exact notin_int h
  | tup as => exact notin_tup hn g h
  | _ => cases t
def kBox : D → Bool
  | .tup [a, .tup ks] => kThing a && (ks.all kNum && ascB ks) && !ks.isEmpty && !hasK a ks
  | _ => false
theorem kKeys_tup {d : D} (h : kKeys d = true) : ∃ ks, d = .tup ks ∧ ks.all kNum = true ∧ ascB ks = true := by
  cases d with
  | tup ks => simp only [kKeys, Bool.and_eq_true] at h; exact ⟨ks, rfl, h.1, h.2⟩
  | _ => cases h
theorem noPair_box {d : D} (h : isPair d = false) : kBox d = false := by
  unfold isPair at h
  unfold kBox
  split <;> simp_all
theorem box_no {a b : D} (h : kThing a = false ∨ kKeys b = false) : kBox (.tup [a, b]) = false := by
  unfold kBox
  split
  · rename_i a' ks e
    simp only [D.tup.injEq, List.cons.injEq, and_true] at e
    obtain ⟨rfl, rfl⟩ := e
    rcases h with h | h
    · simp [h]
    · simp only [kKeys] at h; simp [h]
  · rfl
theorem is_box_ok {C : Hm} (W : WH C) {n : Nat} (hn : n ≤ 55) {d : D} (g : Gs C (n + 3) d) : M_is_box [d] C = some (.bl (kBox d), C) := by
  have p1 := k_is_pair W g (v0 (E := []))
  cases q : isPair d with
  | false =>
    rw [q] at p1
    exact fn_ret rfl (show B_is_box [some d] C = _ by rw [noPair_box q]; exact seq_no (or_t (not_eq (tru_bl p1))))
  | true =>
    rw [q] at p1
    obtain ⟨a, b, rfl⟩ := isPair_iff q
    obtain ⟨ga, gb⟩ := sub2 g
    have p2 := k_is_thing W ga (ix0 (r := [b]) (E := []))
    have p3 := k_is_keys W gb (ix1 (a := a) (r := []) (E := []))
    refine fn_ret rfl (show B_is_box [some (.tup [a, b])] C = _ from ?_)
    cases q1 : kThing a with
    | false =>
      rw [q1] at p2
      rw [box_no (.inl q1)]
      exact seq_no ((or_f (not_eq (tru_bl p1))).trans (or_t (not_eq (tru_bl p2))))
    | true =>
      rw [q1] at p2
      cases q2 : kKeys b with
      | false =>
        rw [q2] at p3
        rw [box_no (.inr q2)]
        exact seq_no ((or_f (not_eq (tru_bl p1))).trans ((or_f (not_eq (tru_bl p2))).trans (not_eq (tru_bl p3))))
      | true =>
        rw [q2] at p3
        obtain ⟨ks, rfl, h3, h4⟩ := kKeys_tup q2
        have n1 := notin_ok (n := n + 2) (by omega) ga.gd q1 h3
        refine (seq_go ((or_f (not_eq (tru_bl p1))).trans ((or_f (not_eq (tru_bl p2))).trans (not_eq (tru_bl p3))))).trans (ret_eq ?_)
        have e5 : mBin dGt (mCallB lenD (mCons (mBin ixD (mVar 0) (mC (.int 1))) mNil)) (mC (.int 0)) [some (.tup [a, .tup ks])] C = some (.bl (!ks.isEmpty), C) := by
          rw [bin_eq (callB_eq ix1) rfl]
          cases ks <;> simp [ordD]
        refine mAnd_tf e5 (fun z => ?_) (fun z => ?_)
        · rw [bin_eq jx0 jx1, n1]
          simp [kBox, q1, h3, h4, z]
        · simp [kBox, z]
theorem k_is_box {C : Hm} (W : WH C) {n : Nat} (hn : n ≤ 55) {d : D} (g : Gs C (n + 3) d) {ml : MA} {E : Ev} (he : ml E C = some ([d], C)) : mKeep (mCall M_is_box ml) E C = some (.bl (kBox d), C) := kcall0 W he (is_box_ok W hn g)
theorem len2 {C : Hm} {ds : List D} {E : Ev} : mBin dNe (mCallB lenD (mCons (mVar 0) mNil)) (mC (.int 2)) (some (.tup ds) :: E) C = some (.bl (!((ds.length : Int) == 2)), C) := by
  simp [mBin, mCallB, mCons, mNil, mVar, mC, lenD, ne_int]
theorem isi0 {C : Hm} {n : Nat} {d : D} {E : Ev} (g : Gs C (n + 1) d) : mCallB isiD (mCons (mVar 0) (mCons (mC (.ty .tup)) mNil)) (some d :: E) C = some (.bl (isiK (kyN d) .tup), C) := by
  have i1 := isi_eq (t := .tup) g rfl
  simp [mCallB, mCons, mNil, mVar, mC, i1]
theorem long3 {a b c : D} {r : List D} : (((a :: b :: c :: r).length : Int) == 2) = false := by
  simp; omega
theorem box_len {ds : List D} (h : ((ds.length : Int) == 2) = false) : kBox (.tup ds) = false := by
  rcases ds with _ | ⟨a, _ | ⟨b, _ | ⟨c, r⟩⟩⟩
  · rfl
  · rfl
  · cases h
  · cases b <;> rfl
theorem law_boxed_ok {C : Hm} (W : WH C) {n : Nat} (hn : n ≤ 55) {d : D} (g : Gs C (n + 3) d) : M_law_boxed [d] C = some (.bl (kBox d), C) := by
  have i1 := isi0 (E := []) g
  refine fn_ret rfl (show B_law_boxed [some d] C = _ from ?_)
  cases g.kd with
  | tup ds h1 h2 =>
    have i2 := not_eq (tru_bl i1)
    have l2 := tst_bl (len2 (C := C) (ds := ds) (E := []))
    cases q0 : ((ds.length : Int) == 2) with
    | false =>
      rw [q0] at l2
      rw [box_len q0]
      exact seq_no ((or_f i2).trans (or_t l2))
    | true =>
      rw [q0] at l2
      have : ds.length = 2 := by have := eq_of_beq q0; omega
      obtain ⟨a, b, rfl⟩ : ∃ a b, ds = [a, b] := by
        rcases ds with _ | ⟨a, _ | ⟨b, _ | ⟨c, r⟩⟩⟩
        · cases this
        · cases this
        · exact ⟨a, b, rfl⟩
        · cases this
      obtain ⟨ga, gb⟩ := sub2 g
      have p1 := k_law_page W ga (ix0 (r := [b]) (E := []))
      have p2 := k_law_key W ga (ix0 (r := [b]) (E := []))
      have p3 := k_law_keyed W (by omega) gb (ix1 (a := a) (r := []) (E := []))
      cases q : kKeys b with
      | false =>
        rw [q] at p3
        rw [box_no (.inr q)]
        exact seq_no ((or_f i2).trans ((or_f l2).trans (or_t (not_eq (tru_bl p3)))))
      | true =>
        rw [q] at p3
        obtain ⟨ks, rfl, h3, h4⟩ := kKeys_tup q
        have e1 : dEq (.tup ks) (.tup []) C = some (.bl ks.isEmpty, C) := eq_tnil fun x hx => ((subs gb).2 x hx).gd.up LeH.refl (by omega)
        have e2 : mBin dEq (mBin ixD (mVar 0) (mC (.int 1))) (mTup mNil) [some (.tup [a, .tup ks])] C = some (.bl ks.isEmpty, C) := by
          rw [bin_eq jx1 tup_nil, e1]
        cases q2 : ks.isEmpty with
        | true =>
          rw [q2] at e2
          refine (seq_no ((or_f i2).trans ((or_f l2).trans ((or_f (not_eq (tru_bl p3))).trans (tst_bl e2))))).trans ?_
          simp [kBox, q2]
        | false =>
          rw [q2] at e2
          refine (seq_go ((or_f i2).trans ((or_f l2).trans ((or_f (not_eq (tru_bl p3))).trans (tst_bl e2))))).trans (ret_eq ?_)
          unfold mOr mAnd
          rw [p1]
          cases q3 : kText a with
          | true =>
            have : hasK a ks = false := by
              cases a with
              | tup as => simp [hasK, eqK]
              | _ => cases q3
            simp [asB, kBox, kThing, q3, q2, h3, h4, this]
          | false =>
            simp only [asB, Option.bind_some, Bool.false_eq_true, if_false, p2]
            cases q4 : kNum a with
            | false => simp [kBox, kThing, q3, q4]
            | true =>
              simp only [if_true]
              rw [bin_eq jx0 jx1, notin_ok (n := n + 2) (by omega) ga.gd (by simp [kThing, q4]) h3]
              simp [kBox, kThing, q4, q2, h3, h4]
  | _ => exact seq_no (or_t (not_eq (tru_bl i1)))
theorem k_law_boxed {C : Hm} (W : WH C) {n : Nat} (hn : n ≤ 55) {d : D} (g : Gs C (n + 3) d) {ml : MA} {E : Ev} (he : ml E C = some ([d], C)) : mKeep (mCall M_law_boxed ml) E C = some (.bl (kBox d), C) := kcall0 W he (law_boxed_ok W hn g)
theorem is_boxes_ok {C : Hm} (W : WH C) {n : Nat} (hn : n ≤ 55) {d : D} (g : Gs C (n + 4) d) : M_is_boxes [d] C = some (.bl (isTupOf kBox d), C) := by
  obtain ⟨_, p⟩ := tuple_of_ok (j := 1) g fun x hx => is_box_ok W hn hx
  have e1 : mCons (mC (.fn 1)) (mCons (mVar 0) mNil) [some d] C = some ([.fn 1, d], C) := rfl
  have p1 := kcall W e1 p
  exact fn_ret rfl (show B_is_boxes [some d] C = _ from ret_eq p1)
theorem k_is_boxes {C : Hm} (W : WH C) {n : Nat} (hn : n ≤ 55) {d : D} (g : Gs C (n + 4) d) {ml : MA} {E : Ev} (he : ml E C = some ([d], C)) : mKeep (mCall M_is_boxes ml) E C = some (.bl (isTupOf kBox d), C) := kcall0 W he (is_boxes_ok W hn g)
/-! ## hands, shelves -/
def isW : D → Bool
  | .str x => x == Str.ofString "world"
  | _ => false
theorem is_holder_ok {C : Hm} (W : WH C) {n : Nat} {d : D} (g : Gs C (n + 1) d) : M_is_holder [d] C = some (.bl (kName d && !isW d), C) := by
  have p1 := k_is_name W g (v0 (E := []))
  refine fn_ret rfl (show B_is_holder [some d] C = _ from ret_eq (mAnd_tf p1 (fun q => ?_) fun q => by rw [q]; rfl))
  cases d with
  | str x => rw [q]; rfl
  | _ => cases q
theorem k_is_holder {C : Hm} (W : WH C) {n : Nat} {d : D} (g : Gs C (n + 1) d) {ml : MA} {E : Ev} (he : ml E C = some ([d], C)) : mKeep (mCall M_is_holder ml) E C = some (.bl (kName d && !isW d), C) := kcall0 W he (is_holder_ok W g)
def kHand : D → Bool
  | .tup [a, b] => kName a && !isW a && kKeys b
  | _ => false
theorem noPair_hand {d : D} (h : isPair d = false) : kHand d = false := by
  unfold isPair at h
  unfold kHand
  split <;> simp_all
theorem is_hand_ok {C : Hm} (W : WH C) {n : Nat} {d : D} (g : Gs C (n + 3) d) : M_is_hand [d] C = some (.bl (kHand d), C) := by
  have p1 := k_is_pair W g (v0 (E := []))
  refine fn_ret rfl (show B_is_hand [some d] C = _ from ret_eq (mAnd_tf p1 (fun q => ?_) fun q => by rw [noPair_hand q]))
  obtain ⟨a, b, rfl⟩ := isPair_iff q
  obtain ⟨ga, gb⟩ := sub2 g
  have p2 := k_is_holder W ga (ix0 (r := [b]) (E := []))
  have p3 := k_is_keys W gb (ix1 (a := a) (r := []) (E := []))
  refine mAnd_tf p2 (fun z => ?_) fun z => by simp only [kHand, z, Bool.false_and]
  rw [p3]; simp only [kHand, z, Bool.true_and]
end G
set_option Elab.async false
set_option linter.all false
set_option maxRecDepth 100000
set_option maxHeartbeats 4000000
namespace G
open PySem L2 Mi
theorem kcall' {m : MF} {ml : MA} {E : Ev} {C g1 g2 : Hm} {ds : List D} {b : Bool} (W : WH C) (he : ml E C = some (ds, C ++ g1)) (h : m ds (C ++ g1) = some (.bl b, C ++ g1 ++ g2)) : mKeep (mCall m ml) E C = some (.bl b, C) :=
  keep_bl ⟨g1 ++ g2, by unfold mCall; rw [bind_eq he]; simp only; rw [h, List.append_assoc]⟩ W
def fstD : D → D
  | .tup (a :: _) => a
  | d => d
def kShelf : D → Bool
  | .tup [.tup hs, .tup bs] => hs.all kHand && bs.all kBox && ascB (hs.map fstD)
  | _ => false
theorem noPair_shelf {d : D} (h : isPair d = false) : kShelf d = false := by
  unfold isPair at h
  unfold kShelf
  split <;> simp_all
theorem isTup_iff {f : D → Bool} {d : D} (h : isTupOf f d = true) : ∃ ds, d = .tup ds ∧ ds.all f = true := by
  cases d with
  | tup ds => exact ⟨ds, rfl, h⟩
  | _ => cases h
theorem shelf_no {a b : D} (h : isTupOf kHand a = false ∨ isTupOf kBox b = false) : kShelf (.tup [a, b]) = false := by
  unfold kShelf
  split
  · rename_i hs bs e
    simp only [D.tup.injEq, List.cons.injEq, and_true] at e
    obtain ⟨rfl, rfl⟩ := e
    simp only [isTupOf] at h
    rcases h with h | h <;> simp [h]
  · rfl
theorem hand_str {x : D} (h : kHand x = true) : ∃ s b, x = .tup [.str s, b] ∧ kName (.str s) = true := by
  unfold kHand at h
  split at h
  · rename_i a b
    simp only [Bool.and_eq_true] at h
    cases a with
    | str s => exact ⟨s, b, rfl, h.1.1⟩
    | _ => exact absurd h.1.1 (by simp [kName])
  · cases h
theorem names_lc {me : ME} {E : Ev} {C : Hm} {hs : List D} (he : me E C = some (.tup hs, C)) (hl : hs.length ≤ sizeLine) (h : ∀ x ∈ hs, ∃ a b, x = .tup [a, b]) (hE : 1 < (wipeE E [1]).length) :
    mLc (mIAny me) (gN 1) mYes (mBin ixD (mVar 1) (mC (.int 0))) [1] E C = some (.cell C.length, C ++ [.lst (hs.map fstD)]) := by
  have e := lc_any (tg := gN 1) (tt := mYes) (elt := mBin ixD (mVar 1) (mC (.int 0))) (vs := [1]) hs (fun _ => true) fstD he (show walkD C (.tup hs) = some hs from rfl) hl fun x hx => by
    obtain ⟨a, b, rfl⟩ := h x hx
    refine ⟨_, rfl, rfl, fun _ => ?_⟩
    rw [bin_eq (set_get hE) rfl]
    rfl
  have ft : ∀ l : List D, l.filter (fun _ => true) = l := fun l => List.filter_eq_self.mpr (by simp)
  rw [ft] at e
  exact e
theorem is_shelf_ok {C : Hm} (W : WH C) {n : Nat} (hn : n ≤ 55) {d : D} (g : Gs C (n + 5) d) : ∃ k, M_is_shelf [d] C = some (.bl (kShelf d), C ++ k) := by
  have p1 := k_is_pair W g (v0 (E := [none]))
  refine ⟨[], ?_⟩
  rw [List.append_nil]
  refine fn_ret rfl (show B_is_shelf [some d, none] C = _ from ?_)
  cases q : isPair d with
  | false =>
    rw [q] at p1
    rw [noPair_shelf q]
    exact seq_no (or_t (not_eq (tru_bl p1)))
  | true =>
    rw [q] at p1
    obtain ⟨a, b, rfl⟩ := isPair_iff q
    obtain ⟨ga, gb⟩ := sub2 g
    obtain ⟨_, t⟩ := tuple_of_ok (j := 2) ga fun x hx => is_hand_ok W (n := n) hx
    have e1 : mCons (mC (.fn 2)) (mCons (mBin ixD (mVar 0) (mC (.int 0))) mNil) [some (.tup [a, b]), none] C = some ([.fn 2, a], C) := rfl
    have p2 := kcall W e1 t
    have p3 := k_is_boxes W (n := n) hn gb (ix1 (a := a) (r := []) (E := [none]))
    cases q1 : isTupOf kHand a with
    | false =>
      rw [q1] at p2
      rw [shelf_no (.inl q1)]
      exact seq_no ((or_f (not_eq (tru_bl p1))).trans (or_t (not_eq (tru_bl p2))))
    | true =>
      rw [q1] at p2
      cases q2 : isTupOf kBox b with
      | false =>
        rw [q2] at p3
        rw [shelf_no (.inr q2)]
        exact seq_no ((or_f (not_eq (tru_bl p1))).trans ((or_f (not_eq (tru_bl p2))).trans (not_eq (tru_bl p3))))
      | true =>
        rw [q2] at p3
        obtain ⟨hs, rfl, h1⟩ := isTup_iff q1
        obtain ⟨bs, rfl, h2⟩ := isTup_iff q2
        refine (seq_go ((or_f (not_eq (tru_bl p1))).trans ((or_f (not_eq (tru_bl p2))).trans (not_eq (tru_bl p3))))).trans (ret_eq ?_)
        have hh : ∀ x ∈ hs, ∃ s b, x = .tup [.str s, b] ∧ kName (.str s) = true := fun x hx => hand_str (List.all_eq_true.mp h1 x hx)
        have l1 := names_lc (E := [some (.tup [.tup hs, .tup bs]), none]) (C := C) (me := mBin ixD (mVar 0) (mC (.int 0))) jx0 (subs ga).1 (fun x hx => by obtain ⟨s, b, e, _⟩ := hh x hx; exact ⟨_, _, e⟩) (by simp [wipeE])
        have o : OrdL (hs.map fstD) := .inr fun x hx => by
          obtain ⟨y, hy, rfl⟩ := List.mem_map.mp hx
          obtain ⟨s, b, e, _⟩ := hh y hy
          exact ⟨s, by rw [e]; rfl⟩
        obtain ⟨_, r⟩ := ascends_ok (C := C ++ [.lst (hs.map fstD)]) (rowC last_get) o (by rw [List.length_map]; exact (subs ga).1)
        rw [kcall' W (show mCons _ mNil _ C = some ([.cell C.length], C ++ [.lst (hs.map fstD)]) by unfold mCons; rw [l1]; rfl) r]
        simp [kShelf, h1, h2]
theorem k_is_shelf {C : Hm} (W : WH C) {n : Nat} (hn : n ≤ 55) {d : D} (g : Gs C (n + 5) d) {ml : MA} {E : Ev} (he : ml E C = some ([d], C)) : mKeep (mCall M_is_shelf ml) E C = some (.bl (kShelf d), C) := let ⟨_, h⟩ := is_shelf_ok W hn g; kcall W he h
/-! ## the law's shelves -/
def hand0 : D → Bool
  | .tup [a, b] => kName a && kKeys b
  | _ => false
theorem hand_len {ds : List D} (h : ((ds.length : Int) == 2) = false) : hand0 (.tup ds) = false := by
  rcases ds with _ | ⟨a, _ | ⟨b, _ | ⟨c, r⟩⟩⟩
  · rfl
  · rfl
  · cases h
  · rfl
theorem two_of {ds : List D} (h : ((ds.length : Int) == 2) = true) : ∃ a b, ds = [a, b] := by
  have : ds.length = 2 := by have := eq_of_beq h; omega
  rcases ds with _ | ⟨a, _ | ⟨b, _ | ⟨c, r⟩⟩⟩
  · cases this
  · cases this
  · exact ⟨a, b, rfl⟩
  · cases this
theorem var_at {i : Nat} {E : Ev} {C : Hm} {d : D} (h : E[i]? = some (some d)) : mVar i E C = some (d, C) := by unfold mVar; rw [h]
theorem mC_at {d : D} {E : Ev} {C : Hm} : mC d E C = some (d, C) := rfl
theorem cons1 {m : ME} {E : Ev} {C C1 : Hm} {d : D} (h : m E C = some (d, C1)) : mCons m mNil E C = some ([d], C1) := by unfold mCons; rw [h]; rfl
theorem at0 {a : D} {r : List D} {C : Hm} : ixD (.tup (a :: r)) (.int 0) C = some (a, C) := by simp [ixD, atI, ixN]
theorem at1 {a b : D} {r : List D} {C : Hm} : ixD (.tup (a :: b :: r)) (.int 1) C = some (b, C) := by
  have e : (1 : Int) < (r.length : Int) + 1 + 1 := by omega
  simp [ixD, atI, ixN, e]
theorem isiV {C : Hm} {n i : Nat} {d : D} {E : Ev} {t : Ky} (g : Gs C (n + 1) d) (hi : E[i]? = some (some d)) (ht : notNon t = true) : mCallB isiD (mCons (mVar i) (mCons (mC (.ty t)) mNil)) E C = some (.bl (isiK (kyN d) t), C) := by
  have i1 := isi_eq (t := t) g ht
  rw [callB_eq (show mCons (mVar i) (mCons (mC (.ty t)) mNil) E C = some ([d, .ty t], C) by unfold mCons; rw [var_at hi]; rfl), i1]
theorem isiX {C : Hm} {n : Nat} {d : D} {E : Ev} {m : ME} (g : Gs C (n + 1) d) (hi : m E C = some (d, C)) : mCallB isiD (mCons m (mCons (mC (.ty .tup)) mNil)) E C = some (.bl (isiK (kyN d) .tup), C) := by
  have i1 := isi_eq (t := .tup) g rfl
  rw [callB_eq (show mCons m (mCons (mC (.ty .tup)) mNil) E C = some ([d, .ty .tup], C) by unfold mCons; rw [hi]; rfl), i1]
theorem hand_body {C : Hm} (W : WH C) {n : Nat} (hn : n ≤ 55) {x : D} (g : Gs C (n + 3) x) {E : Ev} (hi : E[1]? = some (some x)) :
    (tOrM (tNotM (mTru (mCallB isiD (mCons (mVar 1) (mCons (mC (.ty .tup)) mNil))))) (tOrM (mTest (mBin dNe (mCallB lenD (mCons (mVar 1) mNil)) (mC (.int 2)))) (tOrM (tNotM (mTru (mKeep (mCall M_law_named (mCons (mBin ixD (mVar 1) (mC (.int 0))) mNil))))) (tNotM (mTru (mKeep (mCall M_law_keyed (mCons (mBin ixD (mVar 1) (mC (.int 1))) mNil)))))))) E C = some (!hand0 x, C) := by
  have i1 := isiV (t := .tup) g hi rfl
  cases g.kd with
  | tup ds h1 h2 =>
    have i2 := not_eq (tru_bl i1)
    have l2 : mTest (mBin dNe (mCallB lenD (mCons (mVar 1) mNil)) (mC (.int 2))) E C = some (!((ds.length : Int) == 2), C) := tst_bl (by
      rw [bin_eq ((callB_eq (cons1 (var_at hi))).trans rfl) mC_at, ne_int])
    cases q0 : ((ds.length : Int) == 2) with
    | false =>
      rw [q0] at l2
      rw [hand_len q0]
      exact (or_f i2).trans (or_t l2)
    | true =>
      rw [q0] at l2
      obtain ⟨a, b, rfl⟩ := two_of q0
      obtain ⟨ga, gb⟩ := sub2 g
      have p2 := k_law_named W ga (cons1 ((bin_eq (var_at hi) mC_at).trans at0))
      have p3 := k_law_keyed W (n := n) (by omega) gb (cons1 ((bin_eq (var_at hi) mC_at).trans at1))
      refine (or_f i2).trans ((or_f l2).trans ?_)
      cases q : kName a with
      | false =>
        rw [q] at p2
        simp only [hand0, q, Bool.false_and]
        exact or_t (not_eq (tru_bl p2))
      | true =>
        rw [q] at p2
        simp only [hand0, q, Bool.true_and]
        exact (or_f (not_eq (tru_bl p2))).trans (not_eq (tru_bl p3))
  | _ => exact or_t (not_eq (tru_bl i1))
theorem py_strs (C : Hm) (n : Nat) : ∀ xs : List Str, (xs.map D.str).mapM (py C (n + 1)) = some (xs.map PyData.str)
  | [] => rfl
  | x :: xs => by rw [List.map_cons, List.mapM_cons, py_strs C n xs]; rfl
theorem strs_of {C : Hm} {n : Nat} : ∀ {ds : List D}, (∀ x ∈ ds, (∃ s, x = .str s) ∧ Gd C (n + 1) x) → ∃ ss : List Str, ds = ss.map D.str ∧ PyData.canLayAll0 (ss.map PyData.str) = true
  | [], _ => ⟨[], rfl, by simp [PyData.canLayAll0]⟩
  | d :: ds, h => by
    obtain ⟨ss, e, l⟩ := strs_of (ds := ds) fun x hx => h x (by simp [hx])
    obtain ⟨⟨s, rfl⟩, p, e2, l2⟩ := h d (by simp)
    cases e2
    exact ⟨s :: ss, by rw [e]; rfl, by simp [PyData.canLayAll0, l2, l]⟩
theorem world_ok : PyData.strOk (Str.ofString "world") = true := by decide +kernel
theorem notin_world {C : Hm} {k n : Nat} {ds : List D} (hc : C[k]? = some (.lst ds)) (h : ∀ x ∈ ds, (∃ s, x = .str s) ∧ Gd C (n + 1) x) : inD true (.str (Str.ofString "world")) (.cell k) C = some (.bl (!ds.any isW), C) := by
  obtain ⟨ss, rfl, l⟩ := strs_of h
  have e1 : py C 70 (.str (Str.ofString "world")) = some (.str (Str.ofString "world")) := rfl
  have e2 : py C 2 (.cell k) = some (.list (ss.map PyData.str)) := by unfold py; simp only [hc]; rw [py_strs]; rfl
  have e3 : py C 70 (.cell k) = some (.list (ss.map PyData.str)) := py_up LeH.refl (by decide) e2
  have s1 : SeqAt.shaped (.str (Str.ofString "world")) = true := by simp [SeqAt.shaped, PyData.canLay0, PyData.depth, world_ok]
  have s2 : SeqAt.shaped (.list (ss.map PyData.str)) = true := shaped_of e2 (by simpa [PyData.canLay0] using l) (by decide)
  unfold inD
  rw [e1, e3]
  simp only [Option.bind_some, itemsP, s1, s2, and_self, if_true]
  simp [isW, List.any_map, Function.comp_def, PyData.eqv]
theorem isiK_tup {d : D} : isiK (kyN d) .tup = true ↔ ∃ ds, d = .tup ds := by
  cases d <;> simp [kyN, isiK]
theorem shelf_form {d : D} (h : kShelf d = true) : ∃ hs bs, d = .tup [.tup hs, .tup bs] := by
  unfold kShelf at h
  split at h
  · exact ⟨_, _, rfl⟩
  · cases h
theorem shelf_len {ds : List D} (h : ((ds.length : Int) == 2) = false) : kShelf (.tup ds) = false := by
  cases q : kShelf (.tup ds) with
  | false => rfl
  | true => obtain ⟨hs, bs, e⟩ := shelf_form q; cases e; cases h
theorem all_hand {hs : List D} (h : hs.all hand0 = true) : hs.all kHand = !((hs.map fstD).any isW) := by
  induction hs with
  | nil => rfl
  | cons x hs ih =>
    simp only [List.all_cons, Bool.and_eq_true] at h
    rw [List.all_cons, ih h.2, List.map_cons, List.any_cons, Bool.not_or]
    congr 1
    have h1 := h.1
    unfold hand0 at h1
    split at h1
    · rename_i a b
      simp only [Bool.and_eq_true] at h1
      simp [kHand, fstD, h1.1, h1.2]
    · cases h1
theorem all_hand' {hs : List D} (h : hs.all hand0 = false) : hs.all kHand = false := by
  cases q : hs.all kHand with
  | false => rfl
  | true =>
    have : hs.all hand0 = true := List.all_eq_true.mpr fun x hx => by
      have h1 := List.all_eq_true.mp q x hx
      unfold kHand at h1
      split at h1
      · rename_i a b
        simp only [Bool.and_eq_true] at h1
        simp [hand0, h1.1.1, h1.2]
      · cases h1
    rw [this] at h; cases h
theorem asg_eq {m : ME} {i : Nat} {E : Ev} {C C1 : Hm} {d : D} (h : m E C = some (d, C1)) : mAsg m (gN i) E C = some (.nx (E.set i (some d)) C1) := by unfold mAsg gN; rw [h]; rfl
theorem law_shelved_ok {C : Hm} (W : WH C) {n : Nat} (hn : n ≤ 54) {d : D} (g : Gs C (n + 5) d) : ∃ k, M_law_shelved [d] C = some (.bl (kShelf d), C ++ k) := by
  have i1 := isi0 (E := [none, none]) g
  suffices h : ∃ k, B_law_shelved [some d, none, none] C = some (.rt (.bl (kShelf d)) (C ++ k)) by
    obtain ⟨k, h⟩ := h
    exact ⟨k, fn_ret rfl h⟩
  cases g.kd with
  | tup ds h1 h2 =>
    have i2 := not_eq (tru_bl i1)
    have l2 := tst_bl (len2 (C := C) (ds := ds) (E := [none, none]))
    cases q0 : ((ds.length : Int) == 2) with
    | false =>
      rw [q0] at l2
      rw [shelf_len q0]
      exact ⟨[], by rw [List.append_nil]; exact seq_no ((or_f i2).trans l2)⟩
    | true =>
      rw [q0] at l2
      obtain ⟨a, b, rfl⟩ := two_of q0
      obtain ⟨ga, gb⟩ := sub2 g
      have ia := not_eq (tru_bl (isiX (E := [some (.tup [a, b]), none, none]) (m := mBin ixD (mVar 0) (mC (.int 0))) ga jx0))
      have ib := not_eq (tru_bl (isiX (E := [some (.tup [a, b]), none, none]) (m := mBin ixD (mVar 0) (mC (.int 1))) gb jx1))
      have go1 := fun {n : MS} => seq_go (n := n) ((or_f i2).trans l2)
      by_cases hab : (∃ hs, a = .tup hs) ∧ ∃ bs, b = .tup bs
      · obtain ⟨⟨hs, rfl⟩, bs, rfl⟩ := hab
        have go2 := fun {n : MS} => seq_go (n := n) ((or_f ia).trans ib)
        have loop : ∃ o, mFor (mIAny (mBin ixD (mVar 0) (mC (.int 0)))) (gN 1) (mIfS (tOrM (tNotM (mTru (mCallB isiD (mCons (mVar 1) (mCons (mC (.ty .tup)) mNil))))) (tOrM (mTest (mBin dNe (mCallB lenD (mCons (mVar 1) mNil)) (mC (.int 2)))) (tOrM (tNotM (mTru (mKeep (mCall M_law_named (mCons (mBin ixD (mVar 1) (mC (.int 0))) mNil))))) (tNotM (mTru (mKeep (mCall M_law_keyed (mCons (mBin ixD (mVar 1) (mC (.int 1))) mNil)))))))) (mRet (mC (.bl false))) mNext) [some (.tup [.tup hs, .tup bs]), none, none] C = some o ∧ ((o = .rt (.bl false) C ∧ hs.all hand0 = false) ∨ ∃ x, o = .nx [some (.tup [.tup hs, .tup bs]), x, none] C ∧ hs.all hand0 = true) := by
          have z := for_at (it := .seq hs) (tg := gN 1) (body := (mIfS (tOrM (tNotM (mTru (mCallB isiD (mCons (mVar 1) (mCons (mC (.ty .tup)) mNil))))) (tOrM (mTest (mBin dNe (mCallB lenD (mCons (mVar 1) mNil)) (mC (.int 2)))) (tOrM (tNotM (mTru (mKeep (mCall M_law_named (mCons (mBin ixD (mVar 1) (mC (.int 0))) mNil))))) (tNotM (mTru (mKeep (mCall M_law_keyed (mCons (mBin ixD (mVar 1) (mC (.int 1))) mNil)))))))) (mRet (mC (.bl false))) mNext)) hs (fun i E C' => C' = C ∧ (∃ x, E = [some (.tup [.tup hs, .tup bs]), x, none]) ∧ (hs.take i).all hand0 = true) (Q := fun o => (o = .rt (.bl false) C ∧ hs.all hand0 = false) ∨ ∃ x, o = .nx [some (.tup [.tup hs, .tup bs]), x, none] C ∧ hs.all hand0 = true) (fun _ _ _ _ => rfl)
            (by
              rintro i x E _ hx ⟨rfl, ⟨y, rfl⟩, ht⟩
              refine wpo_eq rfl ?_
              have hm := List.mem_of_getElem? hx
              have b := hand_body W (n := n + 0) (by omega) ((subs ga).2 x hm) (E := [some (.tup [.tup hs, .tup bs]), some x, none]) rfl
              have ht2 : (hs.take (i + 1)).all hand0 = ((hs.take i).all hand0 && hand0 x) := by
                rw [List.take_succ, hx]; simp
              cases q : hand0 x with
              | true =>
                rw [q] at b
                refine wpo_eq ((ifs_f b).trans rfl) ⟨rfl, ⟨_, rfl⟩, ?_⟩
                rw [ht2, ht, q]; rfl
              | false =>
                rw [q] at b
                refine wpo_eq ((ifs_t b).trans rfl) (.inl ⟨rfl, ?_⟩)
                cases q2 : hs.all hand0 with
                | false => rfl
                | true => rw [List.all_eq_true.mp q2 x hm] at q; cases q)
            (by
              rintro E _ ⟨rfl, ⟨y, rfl⟩, ht⟩
              rw [List.take_length] at ht
              exact .inr ⟨y, rfl, ht⟩) hs.length 0 [some (.tup [.tup hs, .tup bs]), none, none] C (by omega) ⟨rfl, ⟨none, rfl⟩, by simp⟩
          obtain ⟨o, e, ho⟩ := z
          refine ⟨o, ?_, ho⟩
          unfold mFor mIAny
          rw [jx0]
          exact e
        obtain ⟨o, eo, ho⟩ := loop
        rcases ho with ⟨rfl, hf⟩ | ⟨x, rfl, ht⟩
        · refine ⟨[], ?_⟩
          rw [List.append_nil, show kShelf (.tup [.tup hs, .tup bs]) = false by simp [kShelf, all_hand' hf]]
          exact go1.trans (go2.trans (seq_rt eo))
        · have hh : ∀ x ∈ hs, ∃ a b, x = .tup [a, b] := fun x hx => by
            have h1 := List.all_eq_true.mp ht x hx
            unfold hand0 at h1
            split at h1
            · exact ⟨_, _, rfl⟩
            · cases h1
          have hstr : ∀ x ∈ hs.map fstD, (∃ s, x = .str s) ∧ Gs C (n + 2) x := fun x hx => by
            obtain ⟨y, hy, rfl⟩ := List.mem_map.mp hx
            have h1 := List.all_eq_true.mp ht y hy
            have gy := (subs ga).2 y hy
            unfold hand0 at h1
            split at h1
            · rename_i p q
              simp only [Bool.and_eq_true] at h1
              refine ⟨?_, (sub2 gy).1⟩
              cases p with
              | str s => exact ⟨s, rfl⟩
              | _ => exact absurd h1.1 (by simp [kName])
            · cases h1
          have l1 := names_lc (E := [some (.tup [.tup hs, .tup bs]), x, none]) (C := C) (me := mBin ixD (mVar 0) (mC (.int 0))) jx0 (subs ga).1 hh (by simp [wipeE])
          have W1 : WH (C ++ [.lst (hs.map fstD)]) := W.app (bnds_iff.mpr fun y hy => by
            obtain ⟨p, e, _⟩ := (hstr y hy).2
            exact bnd_up (by omega) (py_bnd e))
          obtain ⟨_, r⟩ := law_rises_ok (C := C ++ [.lst (hs.map fstD)]) (d := .cell C.length) (rowC last_get) (.inr fun x hx => (hstr x hx).1) (by rw [List.length_map]; exact (subs ga).1)
          have pr := kcall W1 (cons1 (var_at (i := 2) (E := [some (.tup [.tup hs, .tup bs]), x, some (.cell C.length)]) rfl)) r
          have pw := notin_world (C := C ++ [.lst (hs.map fstD)]) (n := n + 1) last_get fun x hx => ⟨(hstr x hx).1, (hstr x hx).2.gd.app⟩
          have gbs : ∀ y ∈ bs, Gs (C ++ [.lst (hs.map fstD)]) (n + 3) y := fun y hy => ((subs gb).2 y hy).up LeH.app (Nat.le_refl _)
          have eb := emp_any (me := mBin ixD (mVar 0) (mC (.int 1))) (i := 1) (vs := [1]) (E := [some (.tup [.tup hs, .tup bs]), x, some (.cell C.length)]) (C := C ++ [.lst (hs.map fstD)]) (tt := tNotM (mTru (mKeep (mCall M_law_boxed (mCons (mVar 1) mNil))))) (fun y => !kBox y) jx1 (show walkD _ (.tup bs) = some bs from rfl) (subs gb).1 (by simp [wipeE]) (fun y hy => not_eq (tru_bl (k_law_boxed W1 (n := n) (by omega) (gbs y hy) (cons1 (var_at rfl))))) (fun y hy => (gbs y hy).gd.up LeH.refl (by omega))
          simp only [Bool.not_not] at eb
          have fin : ∃ k, mAnd (mKeep (mCall M_law_rises (mCons (mVar 2) mNil))) (mAnd (mBin (inD true) (mC (.str (Str.ofString "world"))) (mVar 2)) (mBin dEq (mLc (mIAny (mBin ixD (mVar 0) (mC (.int 1)))) (gN 1) (tNotM (mTru (mKeep (mCall M_law_boxed (mCons (mVar 1) mNil))))) (mVar 1) [1]) (mLst mNil))) [some (.tup [.tup hs, .tup bs]), x, some (.cell C.length)] (C ++ [.lst (hs.map fstD)]) = some (.bl (kShelf (.tup [.tup hs, .tup bs])), C ++ k) := by
            have pw' : mBin (inD true) (mC (.str (Str.ofString "world"))) (mVar 2) [some (.tup [.tup hs, .tup bs]), x, some (.cell C.length)] (C ++ [.lst (hs.map fstD)]) = _ := (bin_eq rfl rfl).trans pw
            cases qa : ascB (hs.map fstD) with
            | false => exact ⟨[.lst (hs.map fstD)], mAnd_tf pr (fun z => by rw [qa] at z; cases z) fun _ => by simp [kShelf, qa]⟩
            | true =>
              cases qw : (hs.map fstD).any isW with
              | true => exact ⟨[.lst (hs.map fstD)], mAnd_tf pr (fun _ => mAnd_tf pw' (fun z => by rw [qw] at z; cases z) fun _ => by simp [kShelf, all_hand ht, qw]) fun z => by rw [qa] at z; cases z⟩
              | false =>
                refine ⟨[.lst (hs.map fstD)] ++ ([.lst (bs.filter fun y => !kBox y)] ++ [.lst []]), mAnd_tf pr (fun _ => mAnd_tf pw' (fun _ => eb.trans ?_) fun z => by rw [qw] at z; cases z) fun z => by rw [qa] at z; cases z⟩
                simp [kShelf, all_hand ht, qw, qa]
          obtain ⟨k, fin⟩ := fin
          refine ⟨k, go1.trans (go2.trans ((seq_nx eo).trans ((seq_nx (asg_eq l1)).trans (ret_eq fin))))⟩
      · refine ⟨[], ?_⟩
        rw [List.append_nil]
        have no : kShelf (.tup [a, b]) = false := by
          cases q : kShelf (.tup [a, b]) with
          | false => rfl
          | true => obtain ⟨hs, bs, e⟩ := shelf_form q; cases e; exact absurd ⟨⟨_, rfl⟩, ⟨_, rfl⟩⟩ hab
        rw [no]
        refine go1.trans ?_
        cases qa : isiK (kyN a) .tup with
        | false => rw [qa] at ia; exact seq_no (or_t ia)
        | true =>
          rw [qa] at ia
          have qb : isiK (kyN b) .tup = false := by
            cases qb : isiK (kyN b) .tup with
            | false => rfl
            | true => exact absurd ⟨isiK_tup.mp qa, isiK_tup.mp qb⟩ hab
          rw [qb] at ib
          exact seq_no ((or_f ia).trans ib)
  | _ => exact ⟨[], by rw [List.append_nil]; exact seq_no (or_t (not_eq (tru_bl i1)))⟩
theorem k_law_shelved {C : Hm} (W : WH C) {n : Nat} (hn : n ≤ 54) {d : D} (g : Gs C (n + 5) d) {ml : MA} {E : Ev} (he : ml E C = some ([d], C)) : mKeep (mCall M_law_shelved ml) E C = some (.bl (kShelf d), C) := let ⟨_, h⟩ := law_shelved_ok W hn g; kcall W he h
end G
set_option Elab.async false
set_option linter.all false
set_option maxRecDepth 100000
set_option maxHeartbeats 4000000
namespace G
open PySem L2 Mi
theorem consE {m : ME} {ml : MA} {E : Ev} {C C1 C2 : Hm} {d : D} {ds : List D} (h : m E C = some (d, C1)) (h2 : ml E C1 = some (ds, C2)) : mCons m ml E C = some (d :: ds, C2) := by unfold mCons; rw [h]; simp only [Option.bind_some]; rw [h2]; rfl
theorem nilE {E : Ev} {C : Hm} : mNil E C = some ([], C) := rfl
theorem lstE {ml : MA} {E : Ev} {C C1 : Hm} {ds : List D} (h : ml E C = some (ds, C1)) (hl : ds.length ≤ sizeLine) : mLst ml E C = some (.cell C1.length, C1 ++ [.lst ds]) := by unfold mLst mkLst; rw [h]; simp only [Option.bind_some]; rw [if_pos hl]
theorem tupE {ml : MA} {E : Ev} {C C1 : Hm} {ds : List D} (h : ml E C = some (ds, C1)) (hl : ds.length ≤ sizeLine) : mTup ml E C = some (.tup ds, C1) := by unfold mTup mkTup; rw [h]; simp only [Option.bind_some]; rw [if_pos hl]
theorem orE {ma mb : ME} {E : Ev} {C C1 : Hm} {a b : Bool} (h1 : ma E C = some (.bl a, C1)) (h2 : mb E C1 = some (.bl b, C1)) : mOr ma mb E C = some (.bl (a || b), C1) := by
  unfold mOr
  rw [h1]
  cases a <;> simp [asB, h2]
theorem dropE {m : ME} {E : Ev} {C C1 : Hm} {d : D} (h : m E C = some (d, C1)) : mDrop m E C = some (.nx E C1) := by unfold mDrop; rw [h]; rfl
theorem py_bls (C : Hm) (n : Nat) : ∀ xs : List Bool, (xs.map D.bl).mapM (py C (n + 1)) = some (xs.map PyData.bool)
  | [] => rfl
  | x :: xs => by rw [List.map_cons, List.mapM_cons, py_bls C n xs]; rfl
theorem show_bls : ∀ xs : List Bool, PyData.showableAll (xs.map PyData.bool) = true
  | [] => by simp [PyData.showableAll]
  | x :: xs => by simp [PyData.showableAll, PyData.showable, show_bls xs]
theorem short_bls : ∀ xs : List Bool, PyData.leavesShortAll 8 (xs.map PyData.bool) = true
  | [] => by simp [PyData.leavesShortAll]
  | x :: xs => by simp [PyData.leavesShortAll, PyData.leavesShort, short_bls xs]
theorem bulk_bls : ∀ xs : List Bool, PyData.bulkAll (xs.map PyData.bool) = xs.length
  | [] => by simp [PyData.bulkAll]
  | x :: xs => by simp [PyData.bulkAll, PyData.bulk, bulk_bls xs]; omega
theorem dep_bls : ∀ xs : List Bool, PyData.depthAll (xs.map PyData.bool) = 0
  | [] => by simp [PyData.depthAll]
  | x :: xs => by simp [PyData.depthAll, PyData.depth, dep_bls xs]
theorem repr_bls {C : Hm} {k : Nat} {bs : List Bool} (hc : C[k]? = some (.lst (bs.map D.bl))) (hl : bs.length ≤ 100) : reprD [.cell k] C = some (.str (PyData.shown (.list (bs.map PyData.bool))), C) := by
  have e2 : py C 70 (.cell k) = some (.list (bs.map PyData.bool)) := by unfold py; simp only [hc]; rw [py_bls]; rfl
  unfold reprD
  simp only [e2]
  have z := szL
  have h1 := PyData.shown_le_bulk 8 (by decide) (.list (bs.map PyData.bool)) (by simp [PyData.leavesShort, short_bls])
  simp only [PyData.bulk, bulk_bls] at h1
  rw [if_pos ⟨by simp [PyData.showable, show_bls], by simp [PyData.depth, dep_bls], by omega⟩]
theorem get_mid {C : Hm} {a : Cell} {g : Hm} : (C ++ [a] ++ g)[C.length]? = some a := by simp
theorem set_mid {C : Hm} {a x : Cell} {g : Hm} : (C ++ [a] ++ g).set C.length x = C ++ [x] ++ g := by simp
theorem law_right_ok {C : Hm} (W : WH C) {n : Nat} (hn : n ≤ 50) {d : D} (g : Gs C (n + 5) d) : ∃ k, M_law_right [d] C = some (.bl true, C ++ k) := by
  suffices h : ∃ k, B_law_right [some d, none, none, none, none] C = some (.rt (.bl true) (C ++ k)) by
    obtain ⟨k, h⟩ := h
    exact ⟨k, fn_ret rfl h⟩
  have s1 : ∃ k, WH (C ++ k) ∧ mAnd (mCallB isiD (mCons (mVar 0) (mCons (mC (.ty .tup)) mNil))) (mBin dEq (mLc (mIAny (mVar 0)) (gN 2) (tNotM (mTru (mKeep (mCall M_law_boxed (mCons (mVar 2) mNil))))) (mVar 2) [2]) (mLst mNil)) [some d, none, none, none, none] C = some (.bl (isTupOf kBox d), C ++ k) := by
    have i1 := isi0 (E := [none, none, none, none]) g
    cases g.kd with
    | tup ds h1 h2 =>
      have a := emp_any (me := mVar 0) (i := 2) (vs := [2]) (E := [some (.tup ds), none, none, none, none]) (C := C) (tt := tNotM (mTru (mKeep (mCall M_law_boxed (mCons (mVar 2) mNil))))) (fun x => !kBox x) rfl (show walkD C (.tup ds) = some ds from rfl) h1 (by simp [wipeE]) (fun x hx => not_eq (tru_bl (k_law_boxed W (n := n + 1) (by omega) (h2 x hx) (cons1 (var_at rfl))))) (fun x hx => (h2 x hx).gd.up LeH.refl (by omega))
      simp only [Bool.not_not] at a
      refine ⟨[.lst (ds.filter fun x => !kBox x)] ++ [.lst []], ?_, mAnd_tf i1 (fun _ => ?_) fun z => by cases z⟩
      · rw [← List.append_assoc]; exact wh_two W h2
      · rw [← List.append_assoc]; exact a
    | _ => exact ⟨[], by rw [List.append_nil]; exact W, by rw [List.append_nil]; exact mAnd_tf i1 (fun z => by cases z) fun _ => rfl⟩
  obtain ⟨k1, W1, s1⟩ := s1
  have s1 := asg_eq (i := 1) s1
  generalize hC1 : C ++ k1 = C1 at s1 W1
  have g1 : Gs C1 (n + 5) d := hC1 ▸ g.up LeH.app (Nat.le_refl _)
  -- what is due
  have s2 := asg_eq (i := 3) (lstE (E := [some d, some (.bl (isTupOf kBox d)), none, none, none]) (consE (k_law_named W1 g1 (v0 (E := [some (.bl (isTupOf kBox d)), none, none, none]))) (consE (k_law_key W1 g1 (v0 (E := [some (.bl (isTupOf kBox d)), none, none, none]))) (consE (k_law_page W1 g1 (v0 (E := [some (.bl (isTupOf kBox d)), none, none, none])))
    (consE (orE (k_law_page W1 g1 (v0 (E := [some (.bl (isTupOf kBox d)), none, none, none]))) (k_law_key W1 g1 (v0 (E := [some (.bl (isTupOf kBox d)), none, none, none])))) (consE (k_law_keyed W1 (n := n + 3) (by omega) g1 (v0 (E := [some (.bl (isTupOf kBox d)), none, none, none]))) nilE))))) (by simp [szL]))
  have W2 := W1.app (c := .lst [.bl (kName d), .bl (kNum d), .bl (kText d), .bl (kText d || kNum d), .bl (kKeys d)]) rfl
  have g2 := g1.up (C' := C1 ++ [.lst [.bl (kName d), .bl (kNum d), .bl (kText d), .bl (kText d || kNum d), .bl (kKeys d)]]) LeH.app (Nat.le_refl _)
  have s3 := asg_eq (i := 4) (lstE (E := [some d, some (.bl (isTupOf kBox d)), none, some (.cell C1.length), none]) (consE (k_is_name W2 g2 (v0 (E := [some (.bl (isTupOf kBox d)), none, some (.cell C1.length), none]))) (consE (k_is_key W2 g2 (v0 (E := [some (.bl (isTupOf kBox d)), none, some (.cell C1.length), none]))) (consE (k_is_text W2 g2 (v0 (E := [some (.bl (isTupOf kBox d)), none, some (.cell C1.length), none])))
    (consE (k_is_thing W2 g2 (v0 (E := [some (.bl (isTupOf kBox d)), none, some (.cell C1.length), none]))) (consE (k_is_keys W2 g2 (v0 (E := [some (.bl (isTupOf kBox d)), none, some (.cell C1.length), none]))) nilE))))) (by simp [szL]))
  generalize hE3 : ([some d, some (.bl (isTupOf kBox d)), none, some (.cell C1.length), some (.cell (C1 ++ [Cell.lst [.bl (kName d), .bl (kNum d), .bl (kText d), .bl (kText d || kNum d), .bl (kKeys d)]]).length)] : Ev) = E3
  have W3 := W2.app (c := .lst [.bl (kName d), .bl (kNum d), .bl (kText d), .bl (kThing d), .bl (kKeys d)]) rfl
  have g3 := g2.up (C' := C1 ++ [.lst [.bl (kName d), .bl (kNum d), .bl (kText d), .bl (kText d || kNum d), .bl (kKeys d)]] ++ [.lst [.bl (kName d), .bl (kNum d), .bl (kText d), .bl (kThing d), .bl (kKeys d)]]) LeH.app (Nat.le_refl _)
  have v3 : ∀ {C' : Hm}, mCons (mVar 0) mNil E3 C' = some ([d], C') := fun {C'} => by subst hE3; rfl
  have s4a := lstE (E := E3) (consE (k_law_boxed W3 (n := n + 2) (by omega) g3 v3) (consE (show mVar 1 E3 _ = some (.bl (isTupOf kBox d), _) by subst hE3; rfl) (consE (k_law_shelved W3 (n := n) (by omega) g3 v3) nilE))) (by simp [szL])
  generalize hA : [D.bl (kName d), .bl (kNum d), .bl (kText d), .bl (kText d || kNum d), .bl (kKeys d)] = A at *
  generalize hB : [D.bl (kName d), .bl (kNum d), .bl (kText d), .bl (kThing d), .bl (kKeys d)] = B at *
  have s4 : mMeth "list" extendD (mVar 3) (mCons (mLst (mCons (mKeep (mCall M_law_boxed (mCons (mVar 0) mNil))) (mCons (mVar 1) (mCons (mKeep (mCall M_law_shelved (mCons (mVar 0) mNil))) mNil)))) mNil) E3 (C1 ++ [.lst A] ++ [.lst B]) = some (.non, C1 ++ [.lst (A ++ [.bl (kBox d), .bl (isTupOf kBox d), .bl (kShelf d)])] ++ ([.lst B] ++ [.lst [.bl (kBox d), .bl (isTupOf kBox d), .bl (kShelf d)]])) := by
    have v : mVar 3 E3 (C1 ++ [.lst A] ++ [.lst B]) = some (.cell C1.length, C1 ++ [.lst A] ++ [.lst B]) := by subst hE3; rfl
    unfold mMeth
    rw [v]
    simp only [Option.bind_some, tyD, get_mid, beq_self_eq_true, if_true]
    rw [cons1 s4a]
    simp only [Option.bind_some, extendD]
    have e1 : (C1 ++ [.lst A] ++ [.lst B] ++ [Cell.lst [.bl (kBox d), .bl (isTupOf kBox d), .bl (kShelf d)]])[C1.length]? = some (.lst A) := by rw [List.append_assoc]; exact get_mid
    rw [e1, last_get]
    simp only
    rw [if_pos (by subst hA; simp [szL])]
    exact congrArg (fun z => some (D.non, z)) (by rw [List.append_assoc (C1 ++ [Cell.lst A])]; exact set_mid)
  have s4 := dropE s4
  have W5 : WH (C1 ++ [.lst (A ++ [.bl (kBox d), .bl (isTupOf kBox d), .bl (kShelf d)])] ++ ([.lst B] ++ [.lst [.bl (kBox d), .bl (isTupOf kBox d), .bl (kShelf d)]])) := by
    rw [← List.append_assoc]
    subst hA hB
    exact ((W1.app rfl).app rfl).app rfl
  have g5 := g1.up (C' := C1 ++ [.lst (A ++ [.bl (kBox d), .bl (isTupOf kBox d), .bl (kShelf d)])] ++ ([.lst B] ++ [.lst [.bl (kBox d), .bl (isTupOf kBox d), .bl (kShelf d)]])) (by rw [List.append_assoc]; exact LeH.app) (Nat.le_refl _)
  generalize hC5 : C1 ++ [.lst (A ++ [.bl (kBox d), .bl (isTupOf kBox d), .bl (kShelf d)])] ++ ([.lst B] ++ [.lst [.bl (kBox d), .bl (isTupOf kBox d), .bl (kShelf d)]]) = C5 at s4 W5 g5
  have s5a := lstE (E := E3) (consE (k_is_box W5 (n := n + 2) (by omega) g5 v3) (consE (k_is_boxes W5 (n := n + 1) (by omega) g5 v3) (consE (k_is_shelf W5 (n := n) (by omega) g5 v3) nilE))) (by simp [szL])
  have c5a : C5[C1.length]? = some (.lst (A ++ [.bl (kBox d), .bl (isTupOf kBox d), .bl (kShelf d)])) := by subst hC5; exact get_mid
  have c5b : C5[(C1 ++ [Cell.lst A]).length]? = some (.lst B) := by subst hC5; simp
  have up : ∀ {k : Nat} {c c' : Cell}, C5[k]? = some c → (C5 ++ [c'])[k]? = some c := fun {k c c'} h => by
    rw [List.getElem?_append_left (List.getElem?_eq_some_iff.mp h).1]; exact h
  have s5b : mBin addD (mVar 4) (mLst (mCons (mKeep (mCall M_is_box (mCons (mVar 0) mNil))) (mCons (mKeep (mCall M_is_boxes (mCons (mVar 0) mNil))) (mCons (mKeep (mCall M_is_shelf (mCons (mVar 0) mNil))) mNil)))) E3 C5 = some (.cell (C5 ++ [Cell.lst [.bl (kBox d), .bl (isTupOf kBox d), .bl (kShelf d)]]).length, C5 ++ [.lst [.bl (kBox d), .bl (isTupOf kBox d), .bl (kShelf d)]] ++ [.lst (B ++ [.bl (kBox d), .bl (isTupOf kBox d), .bl (kShelf d)])]) := by
    rw [bin_eq (show mVar 4 E3 C5 = some (.cell (C1 ++ [Cell.lst A]).length, C5) by subst hE3; rfl) s5a]
    unfold addD
    simp only
    rw [up c5b, last_get]
    simp only
    rw [if_pos (by subst hB; simp [szL])]
  have eb : A ++ [.bl (kBox d), .bl (isTupOf kBox d), .bl (kShelf d)] = ([kName d, kNum d, kText d, kThing d, kKeys d, kBox d, isTupOf kBox d, kShelf d] : List Bool).map D.bl := by
    subst hA; simp [kThing, Bool.or_comm]
  have eB : B ++ [.bl (kBox d), .bl (isTupOf kBox d), .bl (kShelf d)] = ([kName d, kNum d, kText d, kThing d, kKeys d, kBox d, isTupOf kBox d, kShelf d] : List Bool).map D.bl := by
    subst hB; rfl
  rw [eB] at s5b
  rw [eb] at c5a
  have r1 := repr_bls (C := C5 ++ [.lst [.bl (kBox d), .bl (isTupOf kBox d), .bl (kShelf d)]] ++ [.lst (([kName d, kNum d, kText d, kThing d, kKeys d, kBox d, isTupOf kBox d, kShelf d] : List Bool).map D.bl)]) last_get (by simp)
  have r2 := repr_bls (C := C5 ++ [.lst [.bl (kBox d), .bl (isTupOf kBox d), .bl (kShelf d)]] ++ [.lst (([kName d, kNum d, kText d, kThing d, kKeys d, kBox d, isTupOf kBox d, kShelf d] : List Bool).map D.bl)]) (k := C1.length) (by rw [List.append_assoc]; rw [List.getElem?_append_left (List.getElem?_eq_some_iff.mp c5a).1]; exact c5a) (by simp)
  have s6 := (bin_eq (op := dEq) ((callB_eq (cons1 s5b)).trans r1) ((callB_eq (cons1 (show mVar 3 E3 _ = some (.cell C1.length, _) by subst hE3; rfl))).trans r2)).trans eq_str
  rw [beq_self_eq_true] at s6
  have fin : B_law_right [some d, none, none, none, none] C = _ := (seq_nx s1).trans ((seq_nx s2).trans ((seq_nx (s3.trans (show some (Out.nx _ _) = some (Out.nx E3 (C1 ++ [Cell.lst A] ++ [Cell.lst B])) by subst hE3; rfl))).trans ((seq_nx s4).trans (ret_eq s6))))
  rw [fin]
  subst hC5 hC1
  simp only [List.append_assoc]
  exact ⟨_, rfl⟩
end G
set_option Elab.async false
set_option linter.all false
set_option maxRecDepth 100000
set_option maxHeartbeats 4000000
namespace G
open PySem L2 Mi
theorem ne1 : (Str.ofString "cells" = Str.ofString "at") = False := by simp; decide +kernel
theorem ne2 : (Str.ofString "cells" = Str.ofString "left") = False := by simp; decide +kernel
theorem ne3 : (Str.ofString "cells" = Str.ofString "count") = False := by simp; decide +kernel
theorem ne4 : (Str.ofString "at" = Str.ofString "left") = False := by simp; decide +kernel
theorem ne5 : (Str.ofString "at" = Str.ofString "count") = False := by simp; decide +kernel
theorem ne6 : (Str.ofString "left" = Str.ofString "count") = False := by simp; decide +kernel
theorem oe1 : (Str.ofString "at" = Str.ofString "cells") = False := by simp; decide +kernel
theorem oe2 : (Str.ofString "left" = Str.ofString "cells") = False := by simp; decide +kernel
theorem oe3 : (Str.ofString "count" = Str.ofString "cells") = False := by simp; decide +kernel
theorem oe4 : (Str.ofString "left" = Str.ofString "at") = False := by simp; decide +kernel
theorem oe5 : (Str.ofString "count" = Str.ofString "at") = False := by simp; decide +kernel
theorem oe6 : (Str.ofString "count" = Str.ofString "left") = False := by simp; decide +kernel
theorem sz4 : ((4 : Nat) < sizeLine) = True := by simp; decide
theorem sz0 : ((0 : Nat) ≤ sizeLine) = True := by simp
/-- the feed: a script's ints, the place, what is left of a great one, the count; behind it other cells -/
def feedH (c0 : Cell) (xs : List Int) (a l c : Int) (rest : Hm) : Hm :=
  c0 :: .lst (xs.map .int) :: .dic [(.inr (Str.ofString "cells"), .cell 1), (.inr (Str.ofString "at"), .int a), (.inr (Str.ofString "left"), .int l), (.inr (Str.ofString "count"), .int c)] :: rest
theorem draw_left {c0 xs a l c rest n} (hl : 0 < l) (hn : 0 < n) (hn2 : n < 1000000) : M_law_draw [.cell 2, .int n] (feedH c0 xs a l c rest) = some (.int (l.fmod n), feedH c0 xs a (l.fdiv n) (c + 1) rest) := by
  have e1 : n ≠ 0 := by omega
  have e2 : n.natAbs < 1073741824 := by omega
  simp [M_law_draw, B_law_draw, feedH, mFn, mSeq, mNext, mDPut, mBin, mVar, mC, dgetD, addD, subD, mulD, mulOk, keyD, valD, putD, mIfS, mTest, asB, dGt, dLt, dGe, dLe, ordD, mAsg, mCallB, mCons, mNil, intC, modD, powD, intD, gN, fdivD, mRet, mIf, lenD, mLst, mkLst, ixD, tAndM, tNotM, mDrop, hl, e1, e2, ne1, ne2, ne3, ne4, ne5, ne6, oe1, oe2, oe3, oe4, oe5, oe6, sz4, sz0]
theorem atI_mod {α : Type} {xs : List α} (h : xs ≠ []) (a : Int) : ∃ x, atI xs (a.fmod (xs.length : Int)) = some x ∧ x ∈ xs := by
  have hp : (0 : Int) < xs.length := by
    have : xs.length ≠ 0 := fun e => h (List.length_eq_zero_iff.mp e)
    omega
  have h0 := Int.fmod_nonneg_of_pos a hp
  have h1 := Int.fmod_lt_of_pos a hp
  unfold atI ixN
  rw [if_pos h0, if_pos h1]
  have hl : (a.fmod (xs.length : Int)).toNat < xs.length := by omega
  exact ⟨xs[(a.fmod (xs.length : Int)).toNat], by simp [hl], List.getElem_mem hl⟩
theorem atI_map {α β : Type} {xs : List α} {i : Int} {x : α} (f : α → β) (h : atI xs i = some x) : atI (xs.map f) i = some (f x) := by
  unfold atI at h ⊢
  rw [List.length_map]
  cases q : ixN xs.length i with
  | none => rw [q] at h; cases h
  | some j =>
    rw [q] at h
    have h : xs[j]? = some x := h
    show (xs.map f)[j]? = _
    rw [List.getElem?_map, h]; rfl
theorem feed_ne {c0 xs a l c rest} : dNe (.cell 1) (.cell (feedH c0 xs a l c rest).length) (feedH c0 xs a l c rest ++ [.lst []]) = some (.bl (!xs.isEmpty), feedH c0 xs a l c rest ++ [.lst []]) := by
  have z := Mi.ne_nil (C := feedH c0 xs a l c rest ++ [.lst []]) (k := 1) (j := (feedH c0 xs a l c rest).length) (ds := xs.map D.int) (by simp [feedH]) (by simp) (by
    intro d hd
    obtain ⟨i, _, rfl⟩ := List.mem_map.mp hd
    exact ⟨.int i, rfl, rfl⟩)
  rw [z]
  cases xs <;> rfl
def mix1 (cell c : Int) : Int := (cell.fmod 1000000427 + 130003 * c + 61).fmod 2147483399
def mix2 (cell c : Int) : Int := (mix1 cell c * mix1 cell c + 3900017 * c + 29).fmod 2147483353
def mix (cell c n : Int) : Int := (((mix2 cell c * mix2 cell c + 97 * mix2 cell c).fmod 2147483323).fdiv 16).fmod n
theorem fl1 (x : Int) : (-18446744073709551616 < x.fmod 2147483399) = True := by
  have h1 := Int.fmod_nonneg_of_pos x (show (0 : Int) < 2147483399 by decide)
  simp; omega
theorem fl2 (x : Int) : (x.fmod 2147483399 < 18446744073709551616) = True := by
  have h1 := Int.fmod_lt_of_pos x (show (0 : Int) < 2147483399 by decide)
  simp; omega
theorem fl3 (x : Int) : (-18446744073709551616 < x.fmod 2147483353) = True := by
  have h1 := Int.fmod_nonneg_of_pos x (show (0 : Int) < 2147483353 by decide)
  simp; omega
theorem fl4 (x : Int) : (x.fmod 2147483353 < 18446744073709551616) = True := by
  have h1 := Int.fmod_lt_of_pos x (show (0 : Int) < 2147483353 by decide)
  simp; omega
theorem draw_spec {c0 xs a l c rest n} (hn : 0 < n) (hn2 : n < 1000000) : ∃ r a' l' c' g, 0 ≤ r ∧ r < n ∧ M_law_draw [.cell 2, .int n] (feedH c0 xs a l c rest) = some (.int r, feedH c0 xs a' l' c' rest ++ g) ∧ (g = [] ∨ g = [.lst []]) := by
  have e1 : n ≠ 0 := by omega
  have e2 : n.natAbs < 1073741824 := by omega
  by_cases hl : 0 < l
  · exact ⟨l.fmod n, a, l.fdiv n, c + 1, [], Int.fmod_nonneg_of_pos _ hn, Int.fmod_lt_of_pos _ hn, by rw [draw_left hl hn hn2]; simp, .inl rfl⟩
  · have fn := @feed_ne c0 xs (a + 1) l (c + 1) rest
    simp only [feedH] at fn
    by_cases hx : xs = []
    · subst hx
      refine ⟨mix 59 (c + 1) n, a + 1, l, c + 1, [.lst []], Int.fmod_nonneg_of_pos _ hn, Int.fmod_lt_of_pos _ hn, ?_, .inr rfl⟩
      simp at fn
      simp [M_law_draw, B_law_draw, feedH, mFn, mSeq, mNext, mDPut, mBin, mVar, mC, dgetD, addD, subD, mulD, mulOk, keyD, valD, putD, mIfS, mTest, asB, dGt, dLt, dGe, dLe, ordD, mAsg, mCallB, mCons, mNil, intC, modD, powD, intD, gN, fdivD, mRet, mIf, lenD, mLst, mkLst, ixD, tAndM, tNotM, mDrop, hl, e1, e2, ne1, ne2, ne3, ne4, ne5, ne6, oe1, oe2, oe3, oe4, oe5, oe6, sz4, sz0, fn, fl1, fl2, fl3, fl4, mix, mix1, mix2]
    · obtain ⟨x, hx1, hx2⟩ := atI_mod hx a
      have hx3 := atI_map D.int hx1
      have hlen : ¬ ((xs.length : Int) = 0) := fun e => hx (List.length_eq_zero_iff.mp (by omega))
      have hxb : xs.isEmpty = false := by cases xs <;> simp_all
      simp [hxb] at fn
      by_cases hb : 1000000000000000000 ≤ x ∧ a < (xs.length : Int)
      · refine ⟨x.fmod n, a + 1, x.fdiv n, c + 1, [.lst []], Int.fmod_nonneg_of_pos _ hn, Int.fmod_lt_of_pos _ hn, ?_, .inr rfl⟩
        simp [M_law_draw, B_law_draw, feedH, mFn, mSeq, mNext, mDPut, mBin, mVar, mC, dgetD, addD, subD, mulD, mulOk, keyD, valD, putD, mIfS, mTest, asB, dGt, dLt, dGe, dLe, ordD, mAsg, mCallB, mCons, mNil, intC, modD, powD, intD, gN, fdivD, mRet, mIf, lenD, mLst, mkLst, ixD, tAndM, tNotM, mDrop, hl, e1, e2, ne1, ne2, ne3, ne4, ne5, ne6, oe1, oe2, oe3, oe4, oe5, oe6, sz4, sz0, fn, hx, hx3, hlen, hb.1, hb.2]
      · refine ⟨mix x (c + 1) n, a + 1, l, c + 1, [.lst []], Int.fmod_nonneg_of_pos _ hn, Int.fmod_lt_of_pos _ hn, ?_, .inr rfl⟩
        by_cases hb1 : 1000000000000000000 ≤ x
        · have hb2 : ¬ a < (xs.length : Int) := fun z => hb ⟨hb1, z⟩
          simp [M_law_draw, B_law_draw, feedH, mFn, mSeq, mNext, mDPut, mBin, mVar, mC, dgetD, addD, subD, mulD, mulOk, keyD, valD, putD, mIfS, mTest, asB, dGt, dLt, dGe, dLe, ordD, mAsg, mCallB, mCons, mNil, intC, modD, powD, intD, gN, fdivD, mRet, mIf, lenD, mLst, mkLst, ixD, tAndM, tNotM, mDrop, hl, e1, e2, ne1, ne2, ne3, ne4, ne5, ne6, oe1, oe2, oe3, oe4, oe5, oe6, sz4, sz0, fn, hx, hx3, hlen, hb1, hb2, fl1, fl2, fl3, fl4, mix, mix1, mix2]
        · simp [M_law_draw, B_law_draw, feedH, mFn, mSeq, mNext, mDPut, mBin, mVar, mC, dgetD, addD, subD, mulD, mulOk, keyD, valD, putD, mIfS, mTest, asB, dGt, dLt, dGe, dLe, ordD, mAsg, mCallB, mCons, mNil, intC, modD, powD, intD, gN, fdivD, mRet, mIf, lenD, mLst, mkLst, ixD, tAndM, tNotM, mDrop, hl, e1, e2, ne1, ne2, ne3, ne4, ne5, ne6, oe1, oe2, oe3, oe4, oe5, oe6, sz4, sz0, fn, hx, hx3, hlen, hb1, fl1, fl2, fl3, fl4, mix, mix1, mix2]
/-! ## draws -/
def Fd (C : Hm) : Prop := ∃ c0 xs a l c rest, C = feedH c0 xs a l c rest
structure Upd (C C' : Hm) : Prop where
  fd : Fd C'
  wh : WH C'
  len : C'.length = C.length
  old : ∀ k, k ≠ 2 → C'[k]? = C[k]?
theorem Upd.trans {A B C : Hm} (h : Upd A B) (k : Upd B C) : Upd A C := ⟨k.fd, k.wh, k.len.trans h.len, fun i hi => (k.old i hi).trans (h.old i hi)⟩
theorem Upd.le {C C' : Hm} (F : Fd C) (h : Upd C C') : LeH C C' := fun k ds e => by
  by_cases hk : k = 2
  · subst hk
    obtain ⟨c0, xs, a, l, c, rest, rfl⟩ := F
    simp [feedH] at e
  · rw [h.old k hk]; exact e
theorem Fd.refl {C : Hm} (F : Fd C) (W : WH C) : Upd C C := ⟨F, W, rfl, fun _ _ => rfl⟩
theorem Fd.app {C g : Hm} (F : Fd C) : Fd (C ++ g) := by
  obtain ⟨c0, xs, a, l, c, rest, rfl⟩ := F
  exact ⟨c0, xs, a, l, c, rest ++ g, by simp [feedH]⟩
theorem Fd.len {C : Hm} (F : Fd C) : 3 ≤ C.length := by
  obtain ⟨c0, xs, a, l, c, rest, rfl⟩ := F
  simp [feedH]
theorem Fd.set {C : Hm} {k : Nat} {x : Cell} (F : Fd C) (h : 3 ≤ k) : Fd (C.set k x) := by
  obtain ⟨c0, xs, a, l, c, rest, rfl⟩ := F
  obtain ⟨j, rfl⟩ : ∃ j, k = j + 3 := ⟨k - 3, by omega⟩
  exact ⟨c0, xs, a, l, c, rest.set j x, by simp [feedH]⟩
theorem draw_ok {C : Hm} (F : Fd C) (W : WH C) {n : Int} (hn : 0 < n) (hn2 : n < 1000000) : ∃ r C' g, 0 ≤ r ∧ r < n ∧ Upd C C' ∧ M_law_draw [.cell 2, .int n] C = some (.int r, C' ++ g) := by
  obtain ⟨c0, xs, a, l, c, rest, rfl⟩ := F
  obtain ⟨r, a', l', c', g, h1, h2, h3, _⟩ := draw_spec (c0 := c0) (xs := xs) (a := a) (l := l) (c := c) (rest := rest) hn hn2
  refine ⟨r, _, g, h1, h2, ⟨⟨c0, xs, a', l', c', rest, rfl⟩, ?_, by simp [feedH], ?_⟩, h3⟩
  · intro x hx
    have hl : (feedH c0 xs a' l' c' rest).length = (feedH c0 xs a l c rest).length := by simp [feedH]
    rw [hl]
    simp only [feedH, List.mem_cons] at hx
    rcases hx with rfl | rfl | rfl | hx
    · exact W _ (by simp [feedH])
    · exact W _ (by simp [feedH])
    · simp [Cell.bnd, D.bnd, feedH]
    · exact W _ (by simp [feedH, hx])
  · intro k hk
    match k with
    | 0 => rfl
    | 1 => rfl
    | 2 => exact absurd rfl hk
    | k + 3 => rfl
theorem kdraw {C : Hm} (F : Fd C) (W : WH C) {n : Int} {ml : MA} {E : Ev} (he : ml E C = some ([.cell 2, .int n], C)) (hn : 0 < n) (hn2 : n < 1000000) : ∃ r C', 0 ≤ r ∧ r < n ∧ Upd C C' ∧ mKeep (mCall M_law_draw ml) E C = some (.int r, C') := by
  obtain ⟨r, C', g, h1, h2, U, e⟩ := draw_ok F W hn hn2
  exact ⟨r, C', h1, h2, U, keep_eq (C' := C') (g := g) (by unfold mCall; rw [bind_eq he]; exact e) U.len U.wh rfl⟩
theorem wdraw {C : Hm} {n : Int} {ml : MA} {E : Ev} {Q : D × Hm → Prop} (he : ml E C = some ([.cell 2, .int n], C)) (F : Fd C) (W : WH C) (hn : 0 < n) (hn2 : n < 1000000) (k : ∀ r C', 0 ≤ r → r < n → Upd C C' → Q (.int r, C')) : wpo (mKeep (mCall M_law_draw ml) E C) Q := by
  obtain ⟨r, C', h1, h2, U, e⟩ := kdraw F W he hn hn2
  exact ⟨_, e, k r C' h1 h2 U⟩
end G
set_option Elab.async false
set_option linter.all false
set_option maxRecDepth 100000
set_option maxHeartbeats 4000000
namespace G
open PySem L2 Mi
/-! ## weakest preconditions of the steps -/
theorem wFn {n N : Nat} {body : MS} {ds : List D} {C : Hm} {Q : D × Hm → Prop} (hl : ds.length = n) (h : wpo (body (ds.map some ++ List.replicate (N - n) none) C) fun o => ∃ d C', o = .rt d C' ∧ Q (d, C')) : wpo (mFn n N body ds C) Q := by
  obtain ⟨o, e, d, C', rfl, q⟩ := h
  exact ⟨_, fn_ret hl e, q⟩
theorem wCons {m : ME} {ml : MA} {E : Ev} {C : Hm} {Q : List D × Hm → Prop} (h : wpo (m E C) fun p => wpo (ml E p.2) fun q => Q (p.1 :: q.1, q.2)) : wpo (mCons m ml E C) Q := by
  obtain ⟨p, e, q, e2, h⟩ := h
  exact ⟨_, by unfold mCons; rw [e]; simp only [Option.bind_some]; rw [e2]; rfl, h⟩
theorem wNil {E : Ev} {C : Hm} {Q : List D × Hm → Prop} (h : Q ([], C)) : wpo (mNil E C) Q := ⟨_, rfl, h⟩
theorem wMeth {T : String} {op : ODM} {mo : ME} {ml : MA} {E : Ev} {C : Hm} {o : D} {Q : D × Hm → Prop} (h1 : mo E C = some (o, C)) (h2 : tyD T o C = true) (h : wpo (ml E C) fun q => wpo (op o q.1 q.2) Q) : wpo (mMeth T op mo ml E C) Q := by
  obtain ⟨q, e, h⟩ := h
  unfold mMeth
  rw [h1]
  simp only [Option.bind_some]
  rw [if_pos h2, e]
  exact h
theorem wBin {op : OD2} {ma mb : ME} {E : Ev} {C : Hm} {Q : D × Hm → Prop} (h : wpo (ma E C) fun p => wpo (mb E p.2) fun q => wpo (op p.1 q.1 q.2) Q) : wpo (mBin op ma mb E C) Q := by
  obtain ⟨p, e, q, e2, h⟩ := h
  unfold mBin; rw [e]; simp only [Option.bind_some]; rw [e2]; exact h
theorem wCallB {op : ODL} {ml : MA} {E : Ev} {C : Hm} {Q : D × Hm → Prop} (h : wpo (ml E C) fun q => wpo (op q.1 q.2) Q) : wpo (mCallB op ml E C) Q := by
  obtain ⟨p, e, h⟩ := h
  unfold mCallB; rw [e]; exact h
theorem wCall {m : MF} {ml : MA} {E : Ev} {C : Hm} {Q : D × Hm → Prop} (h : wpo (ml E C) fun q => wpo (m q.1 q.2) Q) : wpo (mCall m ml E C) Q := by
  obtain ⟨p, e, h⟩ := h
  unfold mCall; rw [e]; exact h
theorem wDrop {m : ME} {E : Ev} {C : Hm} {Q : Out → Prop} (h : wpo (m E C) fun p => Q (.nx E p.2)) : wpo (mDrop m E C) Q := by
  obtain ⟨p, e, h⟩ := h
  exact ⟨_, by unfold mDrop; rw [e]; rfl, h⟩
theorem wRet {m : ME} {E : Ev} {C : Hm} {Q : Out → Prop} (h : wpo (m E C) fun p => Q (.rt p.1 p.2)) : wpo (mRet m E C) Q := by
  obtain ⟨p, e, h⟩ := h
  exact ⟨_, by unfold mRet; rw [e]; rfl, h⟩
theorem wAsg {m : ME} {i : Nat} {E : Ev} {C : Hm} {Q : Out → Prop} (h : wpo (m E C) fun p => Q (.nx (E.set i (some p.1)) p.2)) : wpo (mAsg m (gN i) E C) Q := by
  obtain ⟨p, e, h⟩ := h
  exact ⟨_, by unfold mAsg gN; rw [e]; rfl, h⟩
theorem wSeq {m n : MS} {E : Ev} {C : Hm} {Q : Out → Prop} (h : wpo (m E C) fun o => match o with | .nx E' C' => wpo (n E' C') Q | o => Q o) : wpo (mSeq m n E C) Q := by
  obtain ⟨o, e, h⟩ := h
  cases o with
  | nx E' C' => rw [seq_nx e]; exact h
  | _ => exact ⟨_, by unfold mSeq; rw [e]; rfl, h⟩
theorem wIfS {t : MT} {m n : MS} {E : Ev} {C : Hm} {Q : Out → Prop} (h : wpo (t E C) fun p => if p.1 = true then wpo (m E p.2) Q else wpo (n E p.2) Q) : wpo (mIfS t m n E C) Q := by
  obtain ⟨p, e, h⟩ := h
  unfold mIfS; rw [e]; simp only [Option.bind_some]
  split <;> simp_all
theorem wIf {t : MT} {m n : ME} {E : Ev} {C : Hm} {Q : D × Hm → Prop} (h : wpo (t E C) fun p => if p.1 = true then wpo (m E p.2) Q else wpo (n E p.2) Q) : wpo (mIf t m n E C) Q := by
  obtain ⟨p, e, h⟩ := h
  unfold mIf; rw [e]; simp only [Option.bind_some]
  split <;> simp_all
theorem wTst {m : ME} {E : Ev} {C : Hm} {Q : Bool × Hm → Prop} (h : wpo (m E C) fun p => ∃ b, p.1 = .bl b ∧ Q (b, p.2)) : wpo (mTest m E C) Q := by
  obtain ⟨⟨d, C'⟩, e, b, rfl, q⟩ := h
  exact ⟨_, tst_bl e, q⟩
theorem wAndT {t u : MT} {E : Ev} {C : Hm} {Q : Bool × Hm → Prop} (h : wpo (t E C) fun p => if p.1 = true then wpo (u E p.2) Q else Q (false, p.2)) : wpo (tAndM t u E C) Q := by
  obtain ⟨⟨b, C'⟩, e, h⟩ := h
  cases b with
  | true => rw [and_t e]; simpa using h
  | false => exact ⟨_, and_f e, by simpa using h⟩
theorem wTup {ml : MA} {E : Ev} {C : Hm} {Q : D × Hm → Prop} (h : wpo (ml E C) fun q => q.1.length ≤ sizeLine ∧ Q (.tup q.1, q.2)) : wpo (mTup ml E C) Q := by
  obtain ⟨q, e, h1, h2⟩ := h
  exact ⟨_, tupE e h1, h2⟩
theorem wLst {ml : MA} {E : Ev} {C : Hm} {Q : D × Hm → Prop} (h : wpo (ml E C) fun q => q.1.length ≤ sizeLine ∧ Q (.cell q.2.length, q.2 ++ [.lst q.1])) : wpo (mLst ml E C) Q := by
  obtain ⟨q, e, h1, h2⟩ := h
  exact ⟨_, lstE e h1, h2⟩
theorem wVar {i : Nat} {E : Ev} {C : Hm} {d : D} {Q : D × Hm → Prop} (h : E[i]? = some (some d)) (q : Q (d, C)) : wpo (mVar i E C) Q := ⟨_, var_at h, q⟩
theorem wC {E : Ev} {C : Hm} {d : D} {Q : D × Hm → Prop} (q : Q (d, C)) : wpo (mC d E C) Q := ⟨_, rfl, q⟩
theorem wForR {ml : MA} {tg : MG} {body : MS} {E : Ev} {C : Hm} {Q : Out → Prop} (h : wpo (ml E C) fun q => ∃ j : Int, q.1 = [.int j] ∧ -(2 ^ 62) ≤ j ∧ j < 2 ^ 62 ∧ wpo (forLoop (.seq (rngD 0 j.toNat)) tg body ((rngD 0 j.toNat).length + 1) 0 E q.2) Q) : wpo (mFor (mIRng1 ml) tg body E C) Q := by
  obtain ⟨⟨ds, C1⟩, e, j, h1, h2, h3, h⟩ := h
  simp only at h1
  subst h1
  unfold mFor mIRng1
  rw [e]
  simp only [Option.bind_some]
  unfold iRng1D
  simp only
  rw [if_pos ⟨h2, h3⟩]
  simp only [Option.bind_some]
  have el : (rngD 0 j.toNat).length = j.toNat := by simp [rngD]
  rw [el] at h
  exact h
theorem wForA {me : ME} {tg : MG} {body : MS} {E : Ev} {C : Hm} {Q : Out → Prop} (h : wpo (me E C) fun q => ∃ ds, q.1 = .tup ds ∧ wpo (forLoop (.seq ds) tg body (ds.length + 1) 0 E q.2) Q) : wpo (mFor (mIAny me) tg body E C) Q := by
  obtain ⟨⟨d, C1⟩, e, ds, h1, h⟩ := h
  simp only at h1
  subst h1
  unfold mFor mIAny
  rw [e]
  exact h
/-! ## the heap behind the feed -/
theorem upd_split {A g B : Hm} (F : Fd A) (W : WH A) (U : Upd (A ++ g) B) : ∃ A', B = A' ++ g ∧ Upd A A' := by
  have h3 := F.len
  have hl := U.len
  rw [List.length_append] at hl
  have hB : B = B.take A.length ++ B.drop A.length := (List.take_append_drop _ _).symm
  have hd : B.drop A.length = g := by
    apply List.ext_getElem?
    intro i
    rw [List.getElem?_drop, U.old _ (by omega), List.getElem?_append_right (by omega)]
    congr 1; omega
  have hget : ∀ k, k < A.length → (B.take A.length)[k]? = B[k]? := fun k hk => by rw [List.getElem?_take_of_lt hk]
  have hlen : (B.take A.length).length = A.length := by simp; omega
  have hold : ∀ k, k ≠ 2 → (B.take A.length)[k]? = A[k]? := fun k hk => by
    by_cases h : k < A.length
    · rw [hget k h, U.old k hk, List.getElem?_append_left h]
    · rw [List.getElem?_eq_none_iff.mpr (by omega), List.getElem?_eq_none_iff.mpr (by omega)]
  obtain ⟨c0, xs, a, l, c, rest, e⟩ := U.fd
  obtain ⟨n, hn⟩ : ∃ n, A.length = n + 3 := ⟨A.length - 3, by omega⟩
  have fd : Fd (B.take A.length) := ⟨c0, xs, a, l, c, rest.take n, by rw [e, hn]; simp [feedH]⟩
  refine ⟨B.take A.length, by rw [← hd]; exact hB, fd, ?_, hlen, hold⟩
  intro x hx
  rw [hlen]
  obtain ⟨k, hk, rfl⟩ := List.getElem_of_mem hx
  have hx2 : (B.take A.length)[k]? = some (B.take A.length)[k] := List.getElem?_eq_getElem hk
  by_cases h2 : k = 2
  · subst h2
    obtain ⟨c0, xs, a, l, c, rest, e⟩ := fd
    have : (B.take A.length)[2]? = some (.dic [(.inr (Str.ofString "cells"), .cell 1), (.inr (Str.ofString "at"), .int a), (.inr (Str.ofString "left"), .int l), (.inr (Str.ofString "count"), .int c)]) := by rw [e]; rfl
    rw [Option.some.inj (hx2.symm.trans this)]
    simp [Cell.bnd, D.bnd]; omega
  · rw [hold k h2] at hx2
    exact W _ (List.mem_of_getElem? hx2)
def intsIn (m : Nat) (is : List Int) : Prop := ∀ i ∈ is, 0 ≤ i ∧ i < (m : Int)
theorem bnds_ints (n : Nat) : ∀ is : List Int, bnds n (is.map D.int) = true
  | [] => rfl
  | i :: is => by simp only [List.map_cons, bnds, bnds_ints n is]; rfl
theorem wh_ints {C : Hm} (W : WH C) (is : List Int) : WH (C ++ [.lst (is.map D.int)]) := W.app (bnds_ints _ is)
def rngL (m : Nat) : List Int := (List.range m).map fun k : Nat => (k : Int)
theorem rng_ints (m : Nat) : rngD 0 m = (rngL m).map D.int := by simp [rngD, rngL, List.map_map, Function.comp_def]
theorem seqIx {r : Int} {n : Nat} (h0 : 0 ≤ r) (h1 : r < n) : seqIndex? r n = some r.toNat := (ixN_seq (show ixN n r = some r.toNat by unfold ixN; rw [if_pos h0, if_pos h1])).1
theorem intsOf_map : ∀ is : List Int, intsOf (is.map D.int) = some is
  | [] => rfl
  | i :: is => by simp [intsOf, intsOf_map is]
theorem get_a {A : Hm} {x y : Cell} : (A ++ [x] ++ [y])[A.length]? = some x := by simp
theorem get_b {A : Hm} {x y : Cell} : (A ++ [x] ++ [y])[A.length + 1]? = some y := by simp
theorem set_a {A : Hm} {x y z : Cell} : (A ++ [x] ++ [y]).set A.length z = A ++ [z] ++ [y] := by simp
theorem set_b {A : Hm} {x y z : Cell} : (A ++ [x] ++ [y]).set (A.length + 1) z = A ++ [x] ++ [z] := by simp
theorem tyD_lst {C : Hm} {k : Nat} {ds : List D} (h : C[k]? = some (.lst ds)) : tyD "list" (.cell k) C = true := by simp [tyD, h]
theorem map_erase {α β : Type} (f : α → β) : ∀ (l : List α) (k : Nat), (l.map f).eraseIdx k = (l.eraseIdx k).map f
  | [], _ => rfl
  | x :: l, 0 => rfl
  | x :: l, k + 1 => by simp [map_erase f l k]
theorem rgOk_nat {m : Nat} (hm : m < 1000) : rgOkB 0 (m : Int) = true := by
  unfold rgOkB
  refine decide_eq_true ?_
  have h1 : -(2 ^ 62) ≤ (0 : Int) := by omega
  have h2 : (0 : Int) < 2 ^ 62 := by omega
  have h3 : -(2 ^ 62) ≤ (m : Int) := by omega
  have h4 : (m : Int) < 2 ^ 62 := by omega
  have h5 : ((m : Int) - 0).toNat ≤ 2 ^ 24 := by omega
  exact ⟨h1, h2, h3, h4, h5⟩
theorem mR1_at {C : Hm} {E : Ev} {i : Nat} {a : Int} (hi : E[i]? = some (some (.int a))) : mR1 (mVar i) E C = some (0, a, C) := by
  unfold mR1
  rw [var_at hi]
theorem lstRg_gen {m : MR} {E : Ev} {C C' : Hm} {a b : Int} (h : m E C = some (a, b, C')) (ok : rgOkB a b = true) : mLstRg m E C = some (.cell C'.length, C' ++ [.lst (rngD a (b - a).toNat)]) := by
  unfold mLstRg
  rw [h]
  exact if_pos ok
theorem rng_sub (m : Nat) : rngD 0 ((m : Int) - 0).toNat = (rngL m).map D.int := by
  have : ((m : Int) - 0).toNat = m := by omega
  rw [this, rng_ints]
theorem lstRg_at {C : Hm} {E : Ev} {i m : Nat} (hm : m < 1000) (hi : E[i]? = some (some (.int m))) : mLstRg (mR1 (mVar i)) E C = some (.cell C.length, C ++ [.lst ((rngL m).map D.int)]) := by
  have e := lstRg_gen (mR1_at (C := C) hi) (rgOk_nat hm)
  rw [rng_sub] at e
  exact e
theorem grip_start {C : Hm} {m : Nat} {k : Int} (hm : m < 1000) : mPar 3 4 (mCons (mLstRg (mR1 (mVar 1))) (mCons (mLst mNil) mNil)) [some (.cell 2), some (.int m), some (.int k), none, none, none] C = some (.nx [some (.cell 2), some (.int m), some (.int k), some (.cell C.length), some (.cell (C.length + 1)), none] (C ++ [.lst ((rngL m).map D.int)] ++ [.lst (([] : List Int).map D.int)])) := by
  have e1 := lstRg_at (i := 1) (E := [some (.cell 2), some (.int m), some (.int k), none, none, none]) (C := C) hm rfl
  have e2 := lstE (E := [some (.cell 2), some (.int m), some (.int k), none, none, none]) (C := C ++ [.lst ((rngL m).map D.int)]) nilE (Nat.zero_le _)
  have e3 : mCons (mLstRg (mR1 (mVar 1))) (mCons (mLst mNil) mNil) [some (.cell 2), some (.int m), some (.int k), none, none, none] C = some ([.cell C.length, .cell (C.length + 1)], C ++ [.lst ((rngL m).map D.int)] ++ [.lst (([] : List Int).map D.int)]) := by
    have := consE e1 (cons1 e2)
    rw [List.length_append] at this
    exact this
  unfold mPar
  rw [e3]
  rfl
theorem pop_at {A : Hm} {ps : List Int} {y : Cell} {r : Int} (h0 : 0 ≤ r) (h1 : r < ps.length) (hl : ps.length < 1000) : ∃ x, x ∈ ps ∧ popD (.cell A.length) [.int r] (A ++ [.lst (ps.map D.int)] ++ [y]) = some (.int x, A ++ [.lst ((ps.eraseIdx r.toNat).map D.int)] ++ [y]) := by
  have hr : r.toNat < ps.length := by omega
  refine ⟨ps[r.toNat], List.getElem_mem hr, ?_⟩
  unfold popD
  simp only
  rw [get_a]
  simp only
  rw [if_pos (by omega), List.length_map, seqIx h0 h1]
  simp only [Option.bind_some]
  rw [set_a, map_erase]
  simp [hr]
theorem app_at {A : Hm} {x : Cell} {fs : List Int} {i : Int} (hl : fs.length < sizeLine) : appendD (.cell (A.length + 1)) [.int i] (A ++ [x] ++ [.lst (fs.map D.int)]) = some (.non, A ++ [x] ++ [.lst ((fs ++ [i]).map D.int)]) := by
  unfold appendD
  simp only
  rw [get_b]
  simp only
  rw [if_pos (by simpa using hl), set_b]
  simp
theorem sorted_at {A : Hm} {k : Nat} {fs : List Int} {E : Ev} {i : Nat} (hc : A[k]? = some (.lst (fs.map D.int))) (hi : E[i]? = some (some (.cell k))) : mCallB tupleD (mCons (mCallB sortedD (mCons (mVar i) mNil)) mNil) E A = some (.tup ((sortI fs).map D.int), A ++ [.lst ((sortI fs).map D.int)]) := by
  have e4 : sortedD [.cell k] A = some (.cell A.length, A ++ [.lst ((sortI fs).map D.int)]) := by
    unfold sortedD
    simp only
    rw [hc]
    simp [intsOf_map]
  rw [callB_eq (cons1 ((callB_eq (cons1 (var_at hi))).trans e4))]
  unfold tupleD seqOf
  simp only
  rw [last_get]
  rfl
theorem len_at {C : Hm} {k i : Nat} {n : Nat} {ds : List D} {E : Ev} (hc : C[k]? = some (.lst ds)) (h0 : E[0]? = some (some (.cell 2))) (hi : E[i]? = some (some (.cell k))) (hn : ds.length = n) : mCons (mVar 0) (mCons (mCallB lenD (mCons (mVar i) mNil)) mNil) E C = some ([.cell 2, .int n], C) := by
  have e : mCallB lenD (mCons (mVar i) mNil) E C = some (.int n, C) := by
    rw [callB_eq (cons1 (var_at hi))]
    unfold lenD
    simp only
    rw [hc, ← hn]
  exact consE (var_at h0) (cons1 e)
theorem grip_step {C : Hm} {m k : Nat} (hm : m < 1000) {A : Hm} {ps fs : List Int} {E : Ev} (U : Upd C A) (h0 : E[0]? = some (some (.cell 2))) (h3 : E[3]? = some (some (.cell C.length))) (h4 : E[4]? = some (some (.cell (C.length + 1)))) (hp : 0 < ps.length) (hp2 : ps.length ≤ m) (hf : fs.length < m) (ip : intsIn m ps) (iF : intsIn m fs) {Q : Out → Prop}
    (h : ∀ A ps' fs', Upd C A → ps'.length + 1 = ps.length → fs'.length = fs.length + 1 → intsIn m ps' → intsIn m fs' → Q (.nx E (A ++ [.lst (ps'.map D.int)] ++ [.lst (fs'.map D.int)]))) :
    wpo (mDrop (mMeth "list" appendD (mVar 4) (mCons (mMeth "list" popD (mVar 3) (mCons (mKeep (mCall M_law_draw (mCons (mVar 0) (mCons (mCallB lenD (mCons (mVar 3) mNil)) mNil)))) mNil)) mNil)) E (A ++ [.lst (ps.map D.int)] ++ [.lst (fs.map D.int)])) Q := by
  have z := szL
  have hA := U.len
  rw [← hA] at h3 h4
  refine wDrop (wMeth (var_at h4) (tyD_lst get_b) (wCons (wMeth (var_at h3) (tyD_lst get_a) (wCons (wdraw (n := (ps.length : Int)) (len_at get_a h0 h3 (by simp)) (Fd.app (Fd.app U.fd)) (wh_ints (wh_ints U.wh _) _) (by omega) (by omega) fun r C2 r0 r1 U2 => wNil ?_)))))
  obtain ⟨A2, rfl, UA2⟩ := upd_split U.fd U.wh (g := [.lst (ps.map D.int)] ++ [.lst (fs.map D.int)]) (by rw [← List.append_assoc]; exact U2)
  obtain ⟨x, hx, e1⟩ := pop_at (A := A2) (y := .lst (fs.map D.int)) r0 r1 (by omega)
  rw [UA2.len] at e1
  rw [← List.append_assoc]
  have e2 := app_at (A := A2) (x := .lst ((ps.eraseIdx r.toNat).map D.int)) (fs := fs) (i := x) (by omega)
  rw [UA2.len] at e2
  refine wpo_eq e1 (wNil (wpo_eq e2 (h A2 _ _ (U.trans UA2) ?_ (by simp) ?_ ?_)))
  · rw [List.length_eraseIdx, if_pos (by omega)]; omega
  · exact fun j hj => ip j (List.mem_of_mem_eraseIdx hj)
  · intro j hj
    rcases List.mem_append.mp hj with hj | hj
    · exact iF j hj
    · rw [List.mem_singleton.mp hj]; exact ip _ hx
theorem grip_ok {C : Hm} (F : Fd C) (W : WH C) {m k : Nat} (hk : k < m) (hm : m < 1000) : wpo (M_law_grip [.cell 2, .int m, .int k] C) fun r => ∃ is C' g, r = (.tup (is.map D.int), C' ++ g) ∧ intsIn m is ∧ is.length ≤ k ∧ Upd C C' := by
  refine wFn rfl (show wpo (B_law_grip [some (.cell 2), some (.int m), some (.int k), none, none, none] C) _ from ?_)
  refine wSeq (wpo_eq (grip_start hm) ?_)
  have a0 : ∀ C', mCons (mVar 0) (mCons (mBin addD (mVar 2) (mC (.int 1))) mNil) [some (.cell 2), some (.int m), some (.int k), some (.cell C.length), some (.cell (C.length + 1)), none] C' = some ([.cell 2, .int ((k : Int) + 1)], C') := fun C' => rfl
  refine wSeq (wForR (wCons (wdraw (n := (k : Int) + 1) (a0 _) (Fd.app (Fd.app F)) (wh_ints (wh_ints W _) _) (by omega) (by omega) fun n1 C1 h0 h1 U1 => wNil ⟨n1, rfl, by omega, by omega, ?_⟩)))
  obtain ⟨A1, rfl, UA⟩ := upd_split F W (g := [.lst ((rngL m).map D.int)] ++ [.lst (([] : List Int).map D.int)]) (by rw [← List.append_assoc]; exact U1)
  refine for_at (rngD 0 n1.toNat) (fun i E C' => ∃ A ps fs x, C' = A ++ [.lst (ps.map D.int)] ++ [.lst (fs.map D.int)] ∧ Upd C A ∧ E = [some (.cell 2), some (.int m), some (.int k), some (.cell C.length), some (.cell (C.length + 1)), x] ∧ ps.length + i = m ∧ fs.length = i ∧ intsIn m ps ∧ intsIn m fs) (fun _ _ _ _ => rfl) ?_ ?_ _ 0 _ _ (by simp) ⟨A1, _, [], none, by rw [List.append_assoc], UA, rfl, by simp [rngL], rfl, fun i hi => ?_, fun i hi => by cases hi⟩
  · rintro i x E _ hx ⟨A, ps, fs, y, rfl, U, rfl, hp, hf, ip, iF⟩
    have hi : i < n1.toNat := by
      have := (List.getElem?_eq_some_iff.mp hx).1
      simpa [rngD] using this
    refine wpo_eq rfl (grip_step (k := k) hm U rfl rfl rfl (by omega) (by omega) (by omega) ip iF ?_)
    intro A ps' fs' U' h1 h2 h3 h4
    exact ⟨A, ps', fs', some x, rfl, U', rfl, by omega, by omega, h3, h4⟩
  · rintro E _ ⟨A, ps, fs, y, rfl, U, rfl, hp, hf, ip, iF⟩
    have hA := U.len
    have e3 := sorted_at (A := A ++ [.lst (ps.map D.int)] ++ [.lst (fs.map D.int)]) (k := C.length + 1) (fs := fs) (E := [some (.cell 2), some (.int m), some (.int k), some (.cell C.length), some (.cell (C.length + 1)), y]) (i := 4) (by rw [← hA]; exact get_b) rfl
    refine wRet (wpo_eq e3 ⟨_, _, rfl, sortI fs, A, _, by rw [List.append_assoc, List.append_assoc], ?_, ?_, U⟩)
    · exact fun j hj => iF j ((sortI_perm fs).mem_iff.mp hj)
    · rw [(sortI_perm fs).length_eq, hf]
      simp [rngD]; omega
  · obtain ⟨j, hj, rfl⟩ := List.mem_map.mp hi
    have := List.mem_range.mp hj
    omega
end G
set_option Elab.async false
set_option linter.all false
set_option maxRecDepth 100000
set_option maxHeartbeats 4000000
namespace G
open PySem L2 Mi
/-! ## frames -/
structure Fr (C C' : Hm) (ks : List Nat) : Prop where
  fd : Fd C'
  wh : WH C'
  len : C.length ≤ C'.length
  old : ∀ k, k < C.length → k ≠ 2 → k ∉ ks → C'[k]? = C[k]?
theorem Fr.refl {C : Hm} {ks : List Nat} (F : Fd C) (W : WH C) : Fr C C ks := ⟨F, W, Nat.le_refl _, fun _ _ _ _ => rfl⟩
theorem Fr.app {C C' : Hm} {ks : List Nat} (h : Fr C C' ks) {c : Cell} (hb : c.bnd (C'.length + 1) = true) : Fr C (C' ++ [c]) ks :=
  ⟨h.fd.app, h.wh.app hb, by have := h.len; simp; omega, fun k hk h2 h3 => by rw [List.getElem?_append_left (by have := h.len; omega)]; exact h.old k hk h2 h3⟩
theorem Fr.upd {C C' C'' : Hm} {ks : List Nat} (h : Fr C C' ks) (U : Upd C' C'') : Fr C C'' ks :=
  ⟨U.fd, U.wh, by rw [U.len]; exact h.len, fun k hk h2 h3 => by rw [U.old k h2]; exact h.old k hk h2 h3⟩
theorem Fr.set {C C' : Hm} {ks : List Nat} (h : Fr C C' ks) {c : Cell} {k : Nat} (h3 : 3 ≤ k) (hk : k < C.length → k ∈ ks) (hb : c.bnd C'.length = true) : Fr C (C'.set k c) ks :=
  ⟨h.fd.set h3, h.wh.set hb, by rw [List.length_set]; exact h.len, fun j hj h2 hn => by
    have : k ≠ j := fun e => by subst e; exact hn (hk hj)
    rw [List.getElem?_set_ne this]; exact h.old j hj h2 hn⟩
theorem Fr.trans {A B C : Hm} {ks : List Nat} (h : Fr A B ks) (k : Fr B C ks) : Fr A C ks :=
  ⟨k.fd, k.wh, Nat.le_trans h.len k.len, fun j hj h2 hn => (k.old j (Nat.lt_of_lt_of_le hj h.len) h2 hn).trans (h.old j hj h2 hn)⟩
theorem Fr.wk {A B : Hm} {ks : List Nat} (h : Fr A B []) : Fr A B ks := ⟨h.fd, h.wh, h.len, fun j hj h2 _ => h.old j hj h2 (by simp)⟩
theorem Fr.get {C C' : Hm} {ks : List Nat} (h : Fr C C' ks) {k : Nat} {ds : List D} (hF : Fd C) (e : C[k]? = some (.lst ds)) (hn : k ∉ ks) : C'[k]? = some (.lst ds) := by
  have hk := (List.getElem?_eq_some_iff.mp e).1
  have h2 : k ≠ 2 := fun z => by
    subst z
    obtain ⟨c0, xs, a, l, c, rest, rfl⟩ := hF
    simp [feedH] at e
  rw [h.old k hk h2 hn]; exact e
theorem Fr.le {C C' : Hm} (h : Fr C C' []) (hF : Fd C) : LeH C C' := fun k ds e => h.get hF e (by simp)
theorem Fr.toUpd {C C' : Hm} (F : Fd C) (W : WH C) (h : Fr C C' []) : ∃ A g, C' = A ++ g ∧ Upd C A := by
  have e : C' = C'.take C.length ++ C'.drop C.length := (List.take_append_drop _ _).symm
  have hl : (C'.take C.length).length = C.length := by have := h.len; simp; omega
  -- as if the cells behind had been there before
  have U : Upd (C ++ C'.drop C.length) C' := by
    refine ⟨h.fd, h.wh, by have := h.len; simp; omega, fun k h2 => ?_⟩
    by_cases hk : k < C.length
    · rw [List.getElem?_append_left hk]; exact h.old k hk h2 (by simp)
    · rw [List.getElem?_append_right (by omega), List.getElem?_drop]
      congr 1; omega
  obtain ⟨A, e2, UA⟩ := upd_split F W U
  exact ⟨A, _, e2, UA⟩
theorem lst_ge {C : Hm} (F : Fd C) {k : Nat} {ds : List D} (e : C[k]? = some (.lst ds)) : k ≠ 2 := fun z => by
  subst z
  obtain ⟨c0, xs, a, l, c, rest, rfl⟩ := F
  simp [feedH] at e
/-! ## one key of a box -/
theorem ne_isE {C : Hm} {E : Ev} {i M : Nat} {ds : List D} (hc : C[M]? = some (.lst ds)) (hi : E[i]? = some (some (.cell M))) (g : ∀ d ∈ ds, Gd C 60 d) : mBin dNe (mVar i) (mLst mNil) E C = some (.bl (!ds.isEmpty), C ++ [.lst []]) := by
  rw [bin_eq (var_at hi) (lstE nilE (Nat.zero_le _))]
  have up : (C ++ [Cell.lst []])[M]? = some (.lst ds) := by rw [List.getElem?_append_left (List.getElem?_eq_some_iff.mp hc).1]; exact hc
  exact Mi.ne_nil up last_get fun d hd => (g d hd).app
theorem gd_ints {C : Hm} {n : Nat} (is : List Int) : ∀ d ∈ is.map D.int, Gd C (n + 1) d := fun d hd => by
  obtain ⟨i, _, rfl⟩ := List.mem_map.mp hd
  exact ⟨.int i, rfl, rfl⟩
theorem in_near {C : Hm} {k : Int} {q : Nat} {near : List D} (hc : C[q]? = some (.lst near)) (g : ∀ d ∈ near, Gd C 60 d) : ∃ b, inD false (.int k) (.cell q) C = some (.bl b, C) := by
  obtain ⟨ps, e, l, hl⟩ := gds fun d hd => (g d hd).up LeH.refl (show 60 ≤ 63 by decide)
  have e1 : py C 64 (.cell q) = some (.list ps) := by unfold py; simp only [hc, e]; rfl
  have e2 : py C 70 (.cell q) = some (.list ps) := py_up LeH.refl (by decide) e1
  have e3 : py C 70 (.int k) = some (.int k) := rfl
  have s1 : SeqAt.shaped (.int k) = true := by simp [SeqAt.shaped, PyData.canLay0, PyData.depth]
  have s2 : SeqAt.shaped (.list ps) = true := shaped_of e1 (by simpa [PyData.canLay0] using l) (by decide)
  unfold inD
  rw [e3, e2]
  simp only [Option.bind_some, itemsP, s1, s2, and_self, if_true]
  exact ⟨_, rfl⟩
def inT (C : Hm) (q : Nat) (x : D) : Bool := match inD false x (.cell q) C with
  | some (.bl b, _) => b
  | _ => false
theorem filt_ints (f : D → Bool) : ∀ is : List Int, (is.map D.int).filter f = (is.filter fun i => f (.int i)).map D.int
  | [] => rfl
  | i :: is => by cases q : f (.int i) <;> simp [List.filter_cons, q, filt_ints f is]
theorem set_var {E : Ev} {i j : Nat} {x : D} {d : D} (h : E[j]? = some (some d)) (hij : i ≠ j) : (E.set i (some x))[j]? = some (some d) := by rw [List.getElem?_set_ne hij]; exact h
theorem wipe1 {E : Ev} {i j : Nat} {d : D} (h : E[j]? = some (some d)) (hij : i ≠ j) : (wipeE E [i])[j]? = some (some d) := by
  show (List.set E i none)[j]? = _
  rw [List.getElem?_set_ne hij]; exact h
theorem wipe_len {E : Ev} {i : Nat} : (wipeE E [i]).length = E.length := by
  show (List.set E i none).length = _
  rw [List.length_set]
abbrev MENU : ME := (mIf (mTest (mBin dGt (mKeep (mCall M_law_draw (mCons (mVar 0) (mCons (mC (.int 4)) mNil)))) (mC (.int 0)))) (mLc (mIAny (mVar 6)) (gN 8) (mTest (mBin (inD false) (mVar 8) (mVar 9))) (mVar 8) [8]) (mVar 6))
theorem menu_ok {C : Hm} {E : Ev} {p q : Nat} {ps : List Int} {near : List D} (F : Fd C) (W : WH C) (hE : E.length = 13) (h0 : E[0]? = some (some (.cell 2))) (h6 : E[6]? = some (some (.cell p))) (h9 : E[9]? = some (some (.cell q))) (hp : C[p]? = some (.lst (ps.map D.int))) (hq : C[q]? = some (.lst near)) (hl : ps.length ≤ 100) (g : ∀ d ∈ near, Gd C 60 d) :
    wpo (MENU E C) fun r => ∃ (M : Nat) (ms : List Int) (C' : Hm), r = (.cell M, C') ∧ Fr C C' [] ∧ C'[M]? = some (.lst (ms.map D.int)) ∧ (∀ x ∈ ms, x ∈ ps) ∧ ms.length ≤ ps.length := by
  have z := szL
  refine wIf (wTst (wBin (wdraw (n := 4) (consE (var_at h0) (cons1 mC_at)) F W (by omega) (by omega) fun r C1 r0 r1 U => wC (wpo_eq (show dGt (.int r) (.int 0) C1 = some (.bl (decide (0 < r)), C1) from rfl) ⟨_, rfl, ?_⟩))))
  have hp1 : C1[p]? = some (.lst (ps.map D.int)) := U.le F p _ hp
  have hq1 : C1[q]? = some (.lst near) := U.le F q _ hq
  split
  · have e := lc_any (me := mVar 6) (tg := gN 8) (tt := mTest (mBin (inD false) (mVar 8) (mVar 9))) (elt := mVar 8) (vs := [8]) (E := E) (C := C1) (d := .cell p) (ps.map D.int) (inT C1 q) (fun x => x) (var_at h6) (by simp only [walkD, hp1]) (by rw [List.length_map]; omega) (fun x hx => by
      obtain ⟨k, _, rfl⟩ := List.mem_map.mp hx
      refine ⟨_, rfl, ?_, fun _ => set_get (by rw [wipe_len, hE]; omega)⟩
      obtain ⟨b, eb⟩ := in_near (k := k) hq1 fun d hd => (g d hd).up (U.le F) (Nat.le_refl _)
      have : inT C1 q (.int k) = b := by unfold inT; rw [eb]
      rw [this]
      exact tst_bl ((bin_eq (set_get (by rw [wipe_len, hE]; omega)) (var_at (set_var (wipe1 h9 (by omega)) (by omega)))).trans eb))
    rw [List.map_id', filt_ints] at e
    refine wpo_eq e ⟨_, _, _, rfl, ((Fr.refl F W).upd U).app (bnds_ints _ _), last_get, fun x hx => (List.mem_filter.mp hx).1, List.length_filter_le _ _⟩
  · exact wVar h6 ⟨p, ps, C1, rfl, (Fr.refl F W).upd U, hp1, fun x hx => hx, Nat.le_refl _⟩
theorem atI_in {α : Type} {xs : List α} {r : Int} (h0 : 0 ≤ r) (h1 : r < xs.length) : ∃ x, atI xs r = some x ∧ x ∈ xs := by
  have hl : r.toNat < xs.length := by omega
  refine ⟨xs[r.toNat], ?_, List.getElem_mem hl⟩
  unfold atI ixN
  rw [if_pos h0, if_pos h1]
  simp [hl]
theorem ix_ints {C : Hm} {k : Nat} {is : List Int} {r : Int} (hc : C[k]? = some (.lst (is.map D.int))) (h0 : 0 ≤ r) (h1 : r < is.length) : ∃ x, x ∈ is ∧ ixD (.cell k) (.int r) C = some (.int x, C) := by
  obtain ⟨x, e, hx⟩ := atI_in h0 h1
  refine ⟨x, hx, ?_⟩
  unfold ixD
  simp only
  rw [hc]
  simp only
  rw [atI_map D.int e]
  rfl
abbrev PICK : ME := (mIf (mTest (mBin dNe (mVar 12) (mLst mNil))) (mBin ixD (mVar 12) (mKeep (mCall M_law_draw (mCons (mVar 0) (mCons (mCallB lenD (mCons (mVar 12) mNil)) mNil))))) (mBin ixD (mVar 6) (mC (.int 0))))
theorem pick_ok {C : Hm} {E : Ev} {p M : Nat} {ps ms : List Int} (F : Fd C) (W : WH C) (h0 : E[0]? = some (some (.cell 2))) (h6 : E[6]? = some (some (.cell p))) (h12 : E[12]? = some (some (.cell M))) (hp : C[p]? = some (.lst (ps.map D.int))) (hM : C[M]? = some (.lst (ms.map D.int))) (hl : ps ≠ []) (hs : ∀ x ∈ ms, x ∈ ps) (hml : ms.length ≤ 100) :
    wpo (PICK E C) fun r => ∃ (v : Int) (C' : Hm), r = (.int v, C') ∧ v ∈ ps ∧ Fr C C' [] := by
  have fr := (Fr.refl (ks := []) F W).app (c := .lst []) rfl
  refine wIf (wpo_eq (tst_bl (ne_isE hM h12 (gd_ints ms))) ?_)
  split
  · rename_i h
    have hn : ms ≠ [] := fun e => by subst e; simp at h
    have hpos : 0 < ms.length := List.length_pos_iff.mpr hn
    refine wBin (wVar h12 (wdraw (n := (ms.length : Int)) (len_at (fr.get F hM (by simp)) h0 h12 (by simp)) fr.fd fr.wh (by omega) (by omega) fun r C1 r0 r1 U => ?_))
    have f1 := fr.upd U
    obtain ⟨v, hv, e⟩ := ix_ints (f1.get F hM (by simp)) r0 r1
    exact wpo_eq e ⟨v, C1, rfl, hs v hv, f1⟩
  · have hpos : 0 < ps.length := List.length_pos_iff.mpr hl
    obtain ⟨v, hv, e⟩ := ix_ints (r := 0) (fr.get F hp (by simp)) (by omega) (by omega)
    exact wBin (wVar h6 (wC (wpo_eq e ⟨v, _, rfl, hv, fr⟩)))
theorem at_last {xs : List D} {x : D} : atI (xs ++ [x]) (-1) = some x := by
  unfold atI ixN
  rw [if_neg (by omega), if_pos (by simp; omega)]
  have e : ((-1 : Int) + (((xs ++ [x]).length : Nat) : Int)).toNat = xs.length := by simp; omega
  simp only [Option.bind_some]
  rw [e]
  simp
abbrev INNER : MS := (mSeq (mAsg MENU (gN 12))
    (mSeq (mDrop (mMeth "list" appendD (mVar 7) (mCons PICK mNil)))
    (mDrop (mRem (mVar 6) (mBin ixD (mVar 7) (mUn negD (mC (.int 1))))))))
theorem inner_ok {C : Hm} {E : Ev} {p s q : Nat} {ps ss : List Int} {near : List D} (F : Fd C) (W : WH C) (hE : E.length = 13) (h0 : E[0]? = some (some (.cell 2))) (h6 : E[6]? = some (some (.cell p))) (h7 : E[7]? = some (some (.cell s))) (h9 : E[9]? = some (some (.cell q))) (hp : C[p]? = some (.lst (ps.map D.int))) (hs : C[s]? = some (.lst (ss.map D.int))) (hq : C[q]? = some (.lst near)) (p3 : 3 ≤ p) (s3 : 3 ≤ s) (hps : p ≠ s) (hl : ps.length ≤ 100) (hl2 : ss.length ≤ 100) (hne : ps ≠ []) (g : ∀ d ∈ near, Gd C 60 d) {Q : Out → Prop}
    (k : ∀ v C' x, v ∈ ps → Fr C C' [p, s] → C'[p]? = some (.lst ((ps.erase v).map D.int)) → C'[s]? = some (.lst ((ss ++ [v]).map D.int)) → Q (.nx (E.set 12 (some x)) C')) :
    wpo (INNER E C) Q := by
  have z := szL
  refine wSeq (wAsg (wpo_mono (menu_ok F W hE h0 h6 h9 hp hq hl g) ?_))
  rintro _ ⟨M, ms, C1, rfl, f1, hM, hms, hml⟩
  have h0' := set_var (x := .cell M) h0 (show 12 ≠ 0 by decide)
  have h6' := set_var (x := .cell M) h6 (show 12 ≠ 6 by decide)
  have h7' := set_var (x := .cell M) h7 (show 12 ≠ 7 by decide)
  have h12' : (E.set 12 (some (.cell M)))[12]? = some (some (.cell M)) := List.getElem?_set_self (by omega)
  have hs1 := f1.get F hs (by simp)
  refine wSeq (wDrop (wMeth (var_at h7') (tyD_lst hs1) (wCons (wpo_mono (pick_ok f1.fd f1.wh h0' h6' h12' (f1.get F hp (by simp)) hM hne hms (by omega)) ?_))))
  rintro _ ⟨v, C2, rfl, hv, f2⟩
  have f12 := f1.trans f2
  have hs2 := f12.get F hs (by simp)
  have hp2 := f12.get F hp (by simp)
  have hsl := (List.getElem?_eq_some_iff.mp hs2).1
  have hpl := (List.getElem?_eq_some_iff.mp hp2).1
  have e1 : appendD (.cell s) [.int v] C2 = some (.non, C2.set s (.lst ((ss ++ [v]).map D.int))) := by
    unfold appendD
    simp only
    rw [hs2]
    simp only
    rw [if_pos (by simp; omega)]
    simp
  refine wNil (wpo_eq e1 ?_)
  have f3 : Fr C (C2.set s (.lst ((ss ++ [v]).map D.int))) [p, s] := f12.wk.set s3 (fun _ => by simp) (bnds_ints _ _)
  have hs3 : (C2.set s (.lst ((ss ++ [v]).map D.int)))[s]? = some (.lst ((ss ++ [v]).map D.int)) := List.getElem?_set_self hsl
  have hp3 : (C2.set s (.lst ((ss ++ [v]).map D.int)))[p]? = some (.lst (ps.map D.int)) := by rw [List.getElem?_set_ne (by omega)]; exact hp2
  have e2 : mBin ixD (mVar 7) (mUn negD (mC (.int 1))) (E.set 12 (some (.cell M))) (C2.set s (.lst ((ss ++ [v]).map D.int))) = some (.int v, C2.set s (.lst ((ss ++ [v]).map D.int))) := by
    rw [bin_eq (var_at h7') (show mUn negD (mC (.int 1)) _ _ = some (.int (-1), _) from rfl)]
    unfold ixD
    simp only
    rw [hs3]
    simp only
    rw [List.map_append, List.map_cons, List.map_nil, at_last]
    rfl
  have e3 : mRem (mVar 6) (mBin ixD (mVar 7) (mUn negD (mC (.int 1)))) (E.set 12 (some (.cell M))) (C2.set s (.lst ((ss ++ [v]).map D.int))) = some (.non, (C2.set s (.lst ((ss ++ [v]).map D.int))).set p (.lst ((ps.erase v).map D.int))) := by
    unfold mRem
    rw [var_at h6']
    simp only [Option.bind_some]
    rw [if_pos (tyD_lst hp3), e2]
    simp only [Option.bind_some]
    rw [hp3]
    simp only [intsOf_map, Option.bind_some]
    rw [if_pos hv]
  refine wDrop (wpo_eq e3 (k v _ _ hv (f3.set p3 (fun _ => by simp) (bnds_ints _ _)) (List.getElem?_set_self (by rw [List.length_set]; exact hpl)) ?_))
  rw [List.getElem?_set_ne hps]
  exact hs3
end G
set_option Elab.async false
set_option linter.all false
set_option maxRecDepth 100000
set_option maxHeartbeats 4000000
namespace G
open PySem L2 Mi
/-! ## boxes of a lot -/
def S3 (s : Str) : Prop := s = Str.ofString "memo" ∨ s = Str.ofString "a" ∨ s = Str.ofString "world"
theorem s3_ok {s : Str} (h : S3 s) : PyData.strOk s = true := by rcases h with rfl | rfl | rfl <;> decide +kernel
def LT (goal : D) : Prop := (∃ i : Int, goal = .int i ∧ 0 ≤ i ∧ i < 6) ∨ ∃ s i, goal = .tup [.str s, .int i] ∧ S3 s ∧ 0 ≤ i ∧ i < 2
def LB (d : D) : Prop := ∃ goal ks, d = .tup [goal, .tup (ks.map D.int)] ∧ LT goal ∧ intsIn 6 ks ∧ ks.length ≤ 3
theorem LT.gd {goal : D} (h : LT goal) {C : Hm} {n : Nat} : Gd C (n + 2) goal := by
  rcases h with ⟨i, rfl, _⟩ | ⟨s, i, rfl, hs, _⟩
  · exact ⟨.int i, rfl, rfl⟩
  · refine Gd.tup.mpr fun d hd => ?_
    simp only [List.mem_cons, List.not_mem_nil, or_false] at hd
    rcases hd with rfl | rfl
    · exact ⟨.str s, rfl, by simpa [PyData.canLay0] using s3_ok hs⟩
    · exact ⟨.int i, rfl, rfl⟩
theorem LT.bnd {goal : D} (h : LT goal) {n : Nat} : goal.bnd n = true := by
  rcases h with ⟨i, rfl, _⟩ | ⟨s, i, rfl, hs, _⟩ <;> rfl
theorem LB.bnd {d : D} (h : LB d) {n : Nat} : d.bnd n = true := by
  obtain ⟨goal, ks, rfl, hg, _⟩ := h
  simp only [D.bnd, bnds, hg.bnd, bnds_ints, Bool.and_self]
theorem LB.fst {d : D} (h : LB d) : LT (fstD d) := by
  obtain ⟨goal, ks, rfl, hg, _⟩ := h
  exact hg
def neB (goal x : D) : Bool := match x, goal with
  | .int k, .int i => !(k == i)
  | _, _ => true
theorem ne_goal {goal : D} (h : LT goal) {C : Hm} {k : Int} : dNe (.int k) goal C = some (.bl (neB goal (.int k)), C) := by
  have g := h.gd (C := C) (n := 0)
  rcases h with ⟨i, rfl, _⟩ | ⟨s, i, rfl, hs, _⟩
  · exact ne_int
  · obtain ⟨p, e, l⟩ := g
    obtain ⟨ps, _, e4⟩ := omap (show (([.str s, .int i] : List D).mapM (py C 1)).map PyData.tuple = some p from e)
    subst e4
    show cmpD (fun p q => !PyData.eqv p q) (.int k) (.tup [.str s, .int i]) C = _
    unfold cmpD
    rw [show py C 70 (.int k) = some (.int k) from rfl, py_up LeH.refl (show 2 ≤ 70 by decide) e]
    simp only
    rw [if_pos ⟨by simp [SeqAt.shaped, PyData.canLay0, PyData.depth], shaped_of e l (by decide)⟩]
    simp [PyData.eqv, neB]
theorem pool_len {goal : D} (h : LT goal) : 3 ≤ ((rngL 6).filter fun k => neB goal (.int k)).length := by
  rcases h with ⟨i, rfl, h0, h1⟩ | ⟨s, i, rfl, hs, _⟩
  · have : i = 0 ∨ i = 1 ∨ i = 2 ∨ i = 3 ∨ i = 4 ∨ i = 5 := by omega
    rcases this with rfl | rfl | rfl | rfl | rfl | rfl <;> decide
  · have : ((rngL 6).filter fun k => neB (.tup [.str s, .int i]) (.int k)) = rngL 6 := List.filter_eq_self.mpr fun k _ => rfl
    rw [this]
    decide
theorem pool_in {goal : D} : intsIn 6 ((rngL 6).filter fun k => neB goal (.int k)) := fun k hk => by
  obtain ⟨j, hj, rfl⟩ := List.mem_map.mp (List.mem_filter.mp hk).1
  have := List.mem_range.mp hj
  omega
structure LE (E : Ev) (f : Nat) : Prop where
  len : E.length = 13
  h0 : E[0]? = some (some (.cell 2))
  h1 : E[1]? = some (some (.int 3))
  h2 : E[2]? = some (some (.int 6))
  h3 : E[3]? = some (some (.cell f))
theorem LE.set {E : Ev} {f i : Nat} {x : D} (h : LE E f) (hi : 4 ≤ i) : LE (E.set i (some x)) f :=
  ⟨by rw [List.length_set]; exact h.len, set_var h.h0 (by omega), set_var h.h1 (by omega), set_var h.h2 (by omega), set_var h.h3 (by omega)⟩
theorem LE.at {E : Ev} {f i : Nat} {x : D} (h : LE E f) (hi : i < 13) : (E.set i (some x))[i]? = some (some x) := List.getElem?_set_self (by rw [h.len]; exact hi)
theorem Fr.tr {A B C : Hm} {ks : List Nat} (h : Fr A B []) (k : Fr B C ks) (hk : ∀ j ∈ ks, A.length ≤ j) : Fr A C [] :=
  ⟨k.fd, k.wh, Nat.le_trans h.len k.len, fun j hj h2 hn => (k.old j (Nat.lt_of_lt_of_le hj h.len) h2 (fun z => by have := hk j z; omega)).trans (h.old j hj h2 hn)⟩
abbrev DR (n : Int) : ME := mKeep (mCall M_law_draw (mCons (mVar 0) (mCons (mC (.int n)) mNil)))
theorem wDR {n : Int} {E : Ev} {C : Hm} {Q : D × Hm → Prop} (h0 : E[0]? = some (some (.cell 2))) (F : Fd C) (W : WH C) (hn : 0 < n) (hn2 : n < 1000000) (k : ∀ r C', 0 ≤ r → r < n → Upd C C' → Q (.int r, C')) : wpo (DR n E C) Q :=
  wdraw (n := n) (consE (var_at h0) (cons1 mC_at)) F W hn hn2 k
/-- one of a row of values -/
theorem wOne {n : Int} {E : Ev} {C : Hm} {ml : MA} {xs : List D} {Q : D × Hm → Prop} (h0 : E[0]? = some (some (.cell 2))) (F : Fd C) (W : WH C) (hx : ∀ C, ml E C = some (xs, C)) (hl : (xs.length : Int) = n) (hn : 0 < n) (hn2 : n < 1000000) (hb : ∀ m, bnds m xs = true)
    (k : ∀ x C', x ∈ xs → Fr C C' [] → Q (x, C')) : wpo (mBin ixD (mLst ml) (DR n) E C) Q := by
  have z := szL
  have fr := (Fr.refl (ks := []) F W).app (c := .lst xs) (hb _)
  refine wBin (wpo_eq (lstE (hx C) (by omega)) (wDR h0 fr.fd fr.wh hn hn2 fun r C1 r0 r1 U => ?_))
  obtain ⟨x, e, hm⟩ := atI_in (xs := xs) r0 (by omega)
  have hc : C1[C.length]? = some (.lst xs) := U.le fr.fd _ _ last_get
  refine wpo_eq (x := (x, C1)) ?_ (k x C1 hm (fr.upd U))
  unfold ixD
  simp only
  rw [hc]
  simp only
  rw [e]
  rfl
abbrev GOAL (rest : MS) : MS := (mSeq (mAsg (mKeep (mCall M_law_draw (mCons (mVar 0) (mCons (mVar 2) mNil)))) (gN 5))
    (mSeq (mIfS (mTest (mBin dEq (DR 4) (mC (.int 0)))) (mAsg (mTup (mCons (mBin ixD (mLst (mCons (mC (.str (Str.ofString "memo"))) (mCons (mC (.str (Str.ofString "a"))) (mCons (mC (.str (Str.ofString "world"))) mNil)))) (DR 3)) (mCons (DR 2) mNil))) (gN 5)) mNext) rest))
theorem goal_ok {rest : MS} {E : Ev} {f : Nat} {C : Hm} (L : LE E f) (F : Fd C) (W : WH C) {Q : Out → Prop} (k : ∀ E' C' goal, LE E' f → E'[5]? = some (some goal) → LT goal → Fr C C' [] → wpo (rest E' C') Q) : wpo (GOAL rest E C) Q := by
  refine wSeq (wAsg (wdraw (n := 6) (consE (var_at L.h0) (cons1 (var_at L.h2))) F W (by omega) (by omega) fun r C1 r0 r1 U1 => ?_))
  have L1 := L.set (x := .int r) (show 4 ≤ 5 by decide)
  refine wSeq (wIfS (wTst (wBin (wDR L1.h0 U1.fd U1.wh (by omega) (by omega) fun r2 C2 _ _ U2 => wC (wpo_eq eq_int ⟨_, rfl, ?_⟩)))))
  have f2 := ((Fr.refl (ks := []) F W).upd U1).upd U2
  split
  · refine wAsg (wTup (wCons (wOne (xs := [.str (Str.ofString "memo"), .str (Str.ofString "a"), .str (Str.ofString "world")]) L1.h0 U2.fd U2.wh (fun C => rfl) rfl (by omega) (by omega) (fun _ => rfl) fun x C3 hx f3 => wCons (wDR L1.h0 f3.fd f3.wh (by omega) (by omega) fun r4 C4 r40 r41 U4 => wNil ⟨by simp [szL], ?_⟩))))
    have hs : ∃ s, x = .str s ∧ S3 s := by
      simp only [List.mem_cons, List.not_mem_nil, or_false] at hx
      rcases hx with rfl | rfl | rfl
      · exact ⟨_, rfl, .inl rfl⟩
      · exact ⟨_, rfl, .inr (.inl rfl)⟩
      · exact ⟨_, rfl, .inr (.inr rfl)⟩
    obtain ⟨s, rfl, hs⟩ := hs
    exact k _ C4 _ (L1.set (by decide)) (L1.at (by decide)) (.inr ⟨s, r4, rfl, hs, r40, r41⟩) ((f2.trans f3).upd U4)
  · exact wpo_eq rfl (k _ C2 _ L1 (L.at (by decide)) (.inl ⟨r, rfl, r0, r1⟩) f2)
abbrev POOL : MS := mPar 6 7 (mCons (mLc (mIRng1 (mCons (mVar 2) mNil)) (gN 8) (mTest (mBin dNe (mVar 8) (mVar 5))) (mVar 8) [8]) (mCons (mLst mNil) mNil))
theorem pool_ok {E : Ev} {f : Nat} {C : Hm} {goal : D} (L : LE E f) (h5 : E[5]? = some (some goal)) (g : LT goal) : POOL E C = some (.nx ((E.set 6 (some (.cell C.length))).set 7 (some (.cell (C.length + 1)))) (C ++ [.lst (((rngL 6).filter fun k => neB goal (.int k)).map D.int)] ++ [.lst (([] : List Int).map D.int)])) := by
  have z := szL
  have e := lc_rng1 (ml := mCons (mVar 2) mNil) (tg := gN 8) (tt := mTest (mBin dNe (mVar 8) (mVar 5))) (elt := mVar 8) (vs := [8]) (E := E) (C := C) (j := 6) (neB goal) (fun x => x) (cons1 (var_at L.h2)) (by omega) (by rw [z]; decide) (fun x hx => by
    rw [show (6 : Int).toNat = 6 from rfl, rng_ints] at hx
    obtain ⟨k, _, rfl⟩ := List.mem_map.mp hx
    refine ⟨_, rfl, ?_, fun _ => set_get (by rw [wipe_len, L.len]; decide)⟩
    exact tst_bl ((bin_eq (set_get (by rw [wipe_len, L.len]; decide)) (var_at (set_var (wipe1 h5 (by decide)) (by decide)))).trans (ne_goal g)))
  rw [List.map_id', show (6 : Int).toNat = 6 from rfl, rng_ints, filt_ints] at e
  have e2 := lstE (E := E) (C := C ++ [.lst (((rngL 6).filter fun k => neB goal (.int k)).map D.int)]) nilE (Nat.zero_le _)
  have e3 := consE e (cons1 e2)
  rw [List.length_append] at e3
  unfold POOL mPar
  rw [e3]
  rfl
abbrev NEAR : ME := (mBin addD (mLst (mCons (mC (.int 0)) (mCons (mC (.int 1)) mNil))) (mLc (mIAny (mVar 3)) (gN 10) mYes (mBin ixD (mVar 10) (mC (.int 0))) [10]))
theorem near_ok {E : Ev} {f : Nat} {C : Hm} {found : List D} (L : LE E f) (F : Fd C) (W : WH C) (hf : C[f]? = some (.lst found)) (hl : found.length ≤ 10) (h : ∀ d ∈ found, LB d) : ∃ q C' near, NEAR E C = some (.cell q, C') ∧ Fr C C' [] ∧ C'[q]? = some (.lst near) ∧ C.length ≤ q ∧ ∀ C'', ∀ d ∈ near, Gd C'' 60 d := by
  have z := szL
  have e1 := lstE (E := E) (C := C) (ml := mCons (mC (.int 0)) (mCons (mC (.int 1)) mNil)) (ds := [.int 0, .int 1]) rfl (by simp [z])
  have fr := (Fr.refl (ks := []) F W).app (c := .lst [.int 0, .int 1]) rfl
  have hf1 := fr.get F hf (by simp)
  have e2 := lc_any (me := mVar 3) (tg := gN 10) (tt := mYes) (elt := mBin ixD (mVar 10) (mC (.int 0))) (vs := [10]) (E := E) (C := C ++ [.lst [.int 0, .int 1]]) (d := .cell f) found (fun _ => true) fstD (var_at L.h3) (by simp only [walkD, hf1]) (by omega) (fun x hx => by
    obtain ⟨goal, ks, rfl, _⟩ := h x hx
    refine ⟨_, rfl, rfl, fun _ => ?_⟩
    rw [bin_eq (set_get (by rw [wipe_len, L.len]; decide)) mC_at]
    exact at0)
  have ft : ∀ l : List D, l.filter (fun _ => true) = l := fun l => List.filter_eq_self.mpr (by simp)
  rw [ft] at e2
  have fr2 := fr.app (c := .lst (found.map fstD)) (bnds_iff.mpr fun d hd => by
    obtain ⟨x, hx, rfl⟩ := List.mem_map.mp hd
    exact (h x hx).fst.bnd)
  have fr3 := fr2.app (c := .lst ([.int 0, .int 1] ++ found.map fstD)) (bnds_iff.mpr fun d hd => by
    rcases List.mem_append.mp hd with hd | hd
    · simp only [List.mem_cons, List.not_mem_nil, or_false] at hd
      rcases hd with rfl | rfl <;> rfl
    · obtain ⟨x, hx, rfl⟩ := List.mem_map.mp hd
      exact (h x hx).fst.bnd)
  refine ⟨_, _, [.int 0, .int 1] ++ found.map fstD, ?_, fr3, last_get, by simp, fun C'' d hd => ?_⟩
  · rw [NEAR, bin_eq e1 e2]
    unfold addD
    simp only
    rw [show (C ++ [Cell.lst [.int 0, .int 1]] ++ [.lst (found.map fstD)])[C.length]? = some (.lst [.int 0, .int 1]) from last2_get, last_get]
    simp only
    rw [if_pos (by simp; omega)]
  · rcases List.mem_append.mp hd with hd | hd
    · simp only [List.mem_cons, List.not_mem_nil, or_false] at hd
      rcases hd with rfl | rfl
      · exact ⟨.int 0, rfl, rfl⟩
      · exact ⟨.int 1, rfl, rfl⟩
    · obtain ⟨x, hx, rfl⟩ := List.mem_map.mp hd
      exact (h x hx).fst.gd (n := 58)
end G
set_option Elab.async false
set_option linter.all false
set_option maxRecDepth 100000
set_option maxHeartbeats 4000000
namespace G
open PySem L2 Mi
abbrev KEYS : MS := (mFor (mIRng1 (mCons (mBin ixD (mLst (mCons (mC (.int 1)) (mCons (mC (.int 1)) (mCons (mC (.int 1)) (mCons (mC (.int 2)) (mCons (mC (.int 2)) (mCons (mC (.int 3)) mNil))))))) (DR 6)) mNil)) (gN 11) INNER)
theorem keys_ok {E : Ev} {f p s q : Nat} {C : Hm} {ps : List Int} {near : List D} {goal : D} (L : LE E f) (F : Fd C) (W : WH C) (h5 : E[5]? = some (some goal)) (h6 : E[6]? = some (some (.cell p))) (h7 : E[7]? = some (some (.cell s))) (h9 : E[9]? = some (some (.cell q))) (hp : C[p]? = some (.lst (ps.map D.int))) (hs : C[s]? = some (.lst (([] : List Int).map D.int))) (hq : C[q]? = some (.lst near)) (p3 : 3 ≤ p) (s3 : 3 ≤ s) (hps : p ≠ s) (hqp : q ≠ p) (hqs : q ≠ s) (hl : ps.length ≤ 100) (h3 : 3 ≤ ps.length) (ip : intsIn 6 ps) (g : ∀ C'', ∀ d ∈ near, Gd C'' 60 d) {Q : Out → Prop}
    (k : ∀ E' C' ss, LE E' f → E'[5]? = some (some goal) → E'[7]? = some (some (.cell s)) → Fr C C' [p, s] → C'[s]? = some (.lst (ss.map D.int)) → ss.length ≤ 3 → intsIn 6 ss → Q (.nx E' C')) : wpo (KEYS E C) Q := by
  refine wForR (wCons (wOne (xs := [.int 1, .int 1, .int 1, .int 2, .int 2, .int 3]) L.h0 F W (fun C => rfl) rfl (by omega) (by omega) (fun _ => rfl) fun x C1 hx f1 => wNil ?_))
  have hj : ∃ j : Int, x = .int j ∧ 0 ≤ j ∧ j ≤ 3 := by
    simp only [List.mem_cons, List.not_mem_nil, or_false] at hx
    rcases hx with rfl | rfl | rfl | rfl | rfl | rfl <;> exact ⟨_, rfl, by omega, by omega⟩
  obtain ⟨j, rfl, j0, j3⟩ := hj
  refine ⟨j, rfl, by omega, by omega, ?_⟩
  refine for_at (rngD 0 j.toNat) (fun i E' C' => ∃ ps' ss, LE E' f ∧ E'[5]? = some (some goal) ∧ E'[6]? = some (some (.cell p)) ∧ E'[7]? = some (some (.cell s)) ∧ E'[9]? = some (some (.cell q)) ∧ Fr C C' [p, s] ∧ C'[p]? = some (.lst (ps'.map D.int)) ∧ C'[s]? = some (.lst (ss.map D.int)) ∧ ps'.length + i = ps.length ∧ ss.length = i ∧ intsIn 6 ps' ∧ intsIn 6 ss) (fun _ _ _ _ => rfl) ?_ ?_ _ 0 _ _ (by simp) ⟨ps, [], L, h5, h6, h7, h9, f1.wk, f1.get F hp (by simp), f1.get F hs (by simp), rfl, rfl, ip, fun i hi => by cases hi⟩
  · rintro i x E' C' hx ⟨ps', ss, L', h5', h6', h7', h9', f', hp', hs', hpl, hsl, ip', is'⟩
    have hi : i < j.toNat := by
      have := (List.getElem?_eq_some_iff.mp hx).1
      simpa [rngD] using this
    refine wpo_eq rfl ?_
    have L2 := L'.set (x := x) (show 4 ≤ 11 by decide)
    refine inner_ok f'.fd f'.wh L2.len L2.h0 (set_var h6' (by decide)) (set_var h7' (by decide)) (set_var h9' (by decide)) hp' hs' (f'.get F hq (by simp; omega)) p3 s3 hps (by omega) (by omega) (fun e => by subst e; simp at hpl; omega) (g _) ?_
    intro v C2 y hv f2 hp2 hs2
    refine ⟨ps'.erase v, ss ++ [v], L2.set (by decide), set_var (set_var h5' (by decide)) (by decide), set_var (set_var h6' (by decide)) (by decide), set_var (set_var h7' (by decide)) (by decide), set_var (set_var h9' (by decide)) (by decide), f'.trans f2, hp2, hs2, ?_, by simp; omega, fun z hz => ip' z (List.mem_of_mem_erase hz), fun z hz => ?_⟩
    · have := List.length_erase_of_mem hv
      have : 0 < ps'.length := List.length_pos_of_mem hv
      omega
    · rcases List.mem_append.mp hz with hz | hz
      · exact is' z hz
      · rw [List.mem_singleton.mp hz]; exact ip' v hv
  · rintro E' C' ⟨ps', ss, L', h5', h6', h7', h9', f', hp', hs', hpl, hsl, ip', is'⟩
    refine k E' C' ss L' h5' h7' f' hs' ?_ is'
    rw [hsl]; simp [rngD]; omega
abbrev DONE : MS := (mDrop (mMeth "list" appendD (mVar 3) (mCons (mTup (mCons (mVar 5) (mCons (mCallB tupleD (mCons (mCallB sortedD (mCons (mVar 7) mNil)) mNil)) mNil))) mNil)))
abbrev AGAIN : MS := (mIfS (tAndM (mTest (mBin dNe (mVar 3) (mLst mNil))) (mTest (mBin dEq (DR 9) (mC (.int 0))))) (mSeq (mDrop (mMeth "list" appendD (mVar 3) (mCons (mBin ixD (mVar 3) (mKeep (mCall M_law_draw (mCons (mVar 0) (mCons (mCallB lenD (mCons (mVar 3) mNil)) mNil))))) mNil)))
    mCont) mNext)
abbrev TURN : MS := (mSeq AGAIN (GOAL (mSeq POOL (mSeq (mAsg NEAR (gN 9)) (mSeq KEYS DONE)))))
theorem append_cell {C : Hm} {f : Nat} {ds : List D} {d : D} (hc : C[f]? = some (.lst ds)) (hl : ds.length < sizeLine) : appendD (.cell f) [d] C = some (.non, C.set f (.lst (ds ++ [d]))) := by
  unfold appendD
  simp only
  rw [hc]
  simp only
  rw [if_pos hl]
theorem LB.gd {d : D} (h : LB d) {C : Hm} {n : Nat} : Gd C (n + 3) d := by
  obtain ⟨goal, ks, rfl, hg, _⟩ := h
  refine Gd.tup.mpr fun x hx => ?_
  simp only [List.mem_cons, List.not_mem_nil, or_false] at hx
  rcases hx with rfl | rfl
  · exact hg.gd
  · exact Gd.tup.mpr (gd_ints ks)
theorem turn_ok {E : Ev} {C0 C : Hm} {found : List D} (L : LE E C0.length) (F0 : Fd C0) (f0 : Fr C0 C []) (hf : C[C0.length]? = some (.lst found)) (hl : found.length ≤ 5) (h : ∀ d ∈ found, LB d) {Q : Out → Prop}
    (k : ∀ E' C' d, LE E' C0.length → Fr C0 C' [] → C'[C0.length]? = some (.lst (found ++ [d])) → LB d → Q (.nx E' C') ∧ Q (.ct E' C')) : wpo (TURN E C) Q := by
  have z := szL
  have fl := (List.getElem?_eq_some_iff.mp hf).1
  -- the end of a turn
  have fin : ∀ E' C' d, LE E' C0.length → Fr C0 C' [] → C'[C0.length]? = some (.lst found) → LB d → Fr C0 (C'.set C0.length (.lst (found ++ [d]))) [] ∧ (C'.set C0.length (.lst (found ++ [d])))[C0.length]? = some (.lst (found ++ [d])) := by
    intro E' C' d L' f' hf' hd
    have := F0.len
    refine ⟨f'.set (by omega) (fun z => by omega) (bnds_iff.mpr fun x hx => ?_), List.getElem?_set_self (List.getElem?_eq_some_iff.mp hf').1⟩
    rcases List.mem_append.mp hx with hx | hx
    · exact (h x hx).bnd
    · rw [List.mem_singleton.mp hx]; exact hd.bnd
  refine wSeq (wIfS (wAndT (wpo_eq (tst_bl (ne_isE hf L.h3 fun d hd => (h d hd).gd (n := 57))) ?_)))
  have f1 := f0.app (c := .lst []) rfl
  have hf1 : (C ++ [Cell.lst []])[C0.length]? = some (.lst found) := by rw [List.getElem?_append_left fl]; exact hf
  -- a new box
  have new : ∀ C', Fr C0 C' [] → C'[C0.length]? = some (.lst found) → wpo (GOAL (mSeq POOL (mSeq (mAsg NEAR (gN 9)) (mSeq KEYS DONE))) E C') Q := by
    intro C1 f1 hf1
    refine goal_ok L f1.fd f1.wh fun E2 C2 goal L2 h5 hg f2 => ?_
    have fl1 := (List.getElem?_eq_some_iff.mp hf1).1
    have hf2 := f2.get f1.fd hf1 (by simp)
    have w1 := (f2.app (c := .lst (((rngL 6).filter fun k => neB goal (.int k)).map D.int)) (bnds_ints _ _)).app (c := .lst (([] : List Int).map D.int)) rfl
    refine wSeq (wpo_eq (pool_ok L2 h5 hg) ?_)
    have L3 := (L2.set (i := 6) (x := .cell C2.length) (by decide)).set (i := 7) (x := .cell (C2.length + 1)) (by decide)
    have hf3 := w1.get f1.fd hf1 (by simp)
    obtain ⟨q, C4, near, en, f4, hq, hql, gn⟩ := near_ok L3 w1.fd w1.wh hf3 (by omega) h
    refine wSeq (wAsg (wpo_eq en ?_))
    have L4 := L3.set (i := 9) (x := .cell q) (by decide)
    have hC2 := f2.len
    have h3 := F0.len
    have hc01 := f1.len
    have e6 : (((E2.set 6 (some (.cell C2.length))).set 7 (some (.cell (C2.length + 1)))).set 9 (some (.cell q)))[6]? = some (some (.cell C2.length)) := set_var (set_var (L2.at (by decide)) (by decide)) (by decide)
    have e7 : (((E2.set 6 (some (.cell C2.length))).set 7 (some (.cell (C2.length + 1)))).set 9 (some (.cell q)))[7]? = some (some (.cell (C2.length + 1))) := set_var ((L2.set (i := 6) (by decide)).at (by decide)) (by decide)
    have e9 := L3.at (i := 9) (x := .cell q) (by decide)
    have e5 : (((E2.set 6 (some (.cell C2.length))).set 7 (some (.cell (C2.length + 1)))).set 9 (some (.cell q)))[5]? = some (some goal) := set_var (set_var (set_var h5 (by decide)) (by decide)) (by decide)
    have hql' : C2.length + 2 ≤ q := by simpa using hql
    refine wSeq (keys_ok L4 f4.fd f4.wh e5 e6 e7 e9 (f4.get w1.fd get_a (by simp)) (f4.get w1.fd get_b (by simp)) hq (by omega) (by omega) (by omega) (by omega) (by omega) (by
      have := List.length_filter_le (fun k => neB goal (.int k)) (rngL 6)
      have : (rngL 6).length = 6 := rfl
      omega) (pool_len hg) pool_in gn ?_)
    intro E5 C5 ss L5 h55 h57 f5 hs5 hsl is5
    have ft : Fr C0 C5 [] := (f1.trans (w1.trans f4)).tr f5 (by
      intro j hj
      simp only [List.mem_cons, List.not_mem_nil, or_false] at hj
      rcases hj with rfl | rfl <;> omega)
    have hf5 : C5[C0.length]? = some (.lst found) := f5.get f4.fd (f4.get w1.fd hf3 (by simp)) (by simp; omega)
    have e8 := sorted_at hs5 h57
    have ft6 := ft.app (c := .lst ((sortI ss).map D.int)) (bnds_ints _ _)
    have hf6 : (C5 ++ [Cell.lst ((sortI ss).map D.int)])[C0.length]? = some (.lst found) := by rw [List.getElem?_append_left (List.getElem?_eq_some_iff.mp hf5).1]; exact hf5
    have lb : LB (.tup [goal, .tup ((sortI ss).map D.int)]) := ⟨goal, sortI ss, rfl, hg, fun i hi => is5 i ((sortI_perm ss).mem_iff.mp hi), by rw [(sortI_perm ss).length_eq]; exact hsl⟩
    obtain ⟨k1, k2⟩ := fin E5 _ _ L5 ft6 hf6 lb
    refine wDrop (wMeth (var_at L5.h3) (tyD_lst hf5) (wCons (wpo_eq (tupE (consE (var_at h55) (cons1 e8)) (by simp [z])) (wNil (wpo_eq (append_cell hf6 (by omega)) ?_)))))
    exact (k E5 _ _ L5 k1 k2 lb).1
  split
  · rename_i hne
    refine wTst (wBin (wDR L.h0 f1.fd f1.wh (by omega) (by omega) fun r C2 _ _ U2 => wC (wpo_eq eq_int ⟨_, rfl, ?_⟩)))
    have f2 := f1.upd U2
    have hf2 : C2[C0.length]? = some (.lst found) := U2.le f1.fd _ _ hf1
    split
    · have hn : found ≠ [] := fun e => by subst e; simp at hne
      have hpos : 0 < found.length := List.length_pos_iff.mpr hn
      refine wSeq (wDrop (wMeth (var_at L.h3) (tyD_lst hf2) (wCons (wBin (wVar L.h3 (wdraw (n := (found.length : Int)) (len_at hf2 L.h0 L.h3 rfl) f2.fd f2.wh (by omega) (by omega) fun r C3 r0 r1 U3 => ?_))))))
      have f3 := f2.upd U3
      have hf3 : C3[C0.length]? = some (.lst found) := U3.le f2.fd _ _ hf2
      obtain ⟨x, e, hx⟩ := atI_in (xs := found) r0 r1
      have e1 : ixD (.cell C0.length) (.int r) C3 = some (x, C3) := by
        unfold ixD
        simp only
        rw [hf3]
        simp only
        rw [e]
        rfl
      refine wpo_eq e1 (wNil (wpo_eq (append_cell hf3 (by omega)) ?_))
      obtain ⟨k1, k2⟩ := fin E C3 x L f3 hf3 (h x hx)
      exact wpo_eq rfl (k E _ x L k1 k2 (h x hx)).2
    · exact wpo_eq rfl (new C2 f2 hf2)
  · exact wpo_eq rfl (new _ f1 hf1)
theorem pick_rev {α : Type} (a b c : α) : pickL [a, b, c] none none (some (-1)) = [c, b, a] := by
  have e : sliceRange (sliceBounds none none (some (-1)) 3).1 (sliceBounds none none (some (-1)) 3).2.1 (sliceBounds none none (some (-1)) 3).2.2 = [2, 1, 0] := by decide
  unfold pickL
  rw [show [a, b, c].length = 3 from rfl, e]
  rfl
theorem lot_ok {C : Hm} (F : Fd C) (W : WH C) : wpo (M_law_lot [.cell 2, .int 3, .int 6] C) fun r => ∃ ds C', r = (.tup ds, C') ∧ ds.length = 3 ∧ (∀ d ∈ ds, LB d) ∧ Fr C C' [] := by
  have z := szL
  refine wFn rfl (show wpo (B_law_lot [some (.cell 2), some (.int 3), some (.int 6), none, none, none, none, none, none, none, none, none, none] C) _ from ?_)
  refine wSeq (wAsg (wpo_eq (lstE nilE (Nat.zero_le _)) ?_))
  have L0 : LE ([some (.cell 2), some (.int 3), some (.int 6), some (.cell C.length), none, none, none, none, none, none, none, none, none]) C.length := ⟨rfl, rfl, rfl, rfl, rfl⟩
  refine wSeq (wForR (wCons (wVar rfl (wNil ⟨3, rfl, by omega, by omega, ?_⟩))))
  refine for_at (rngD 0 (3 : Int).toNat) (fun i E' C' => ∃ found, LE E' C.length ∧ Fr C C' [] ∧ C'[C.length]? = some (.lst found) ∧ found.length = i ∧ ∀ d ∈ found, LB d) (fun _ _ _ _ => rfl) ?_ ?_ _ 0 _ _ (by simp) ⟨[], L0, (Fr.refl F W).app rfl, last_get, rfl, by simp⟩
  · rintro i x E' C' hx ⟨found, L', f', hf', hl, h'⟩
    have hi : i < 3 := by
      have := (List.getElem?_eq_some_iff.mp hx).1
      simpa [rngD] using this
    refine wpo_eq rfl (turn_ok (L'.set (by decide)) F f' hf' (by omega) h' ?_)
    intro E2 C2 d L2 f2 hf2 hd
    have key : ∃ found, LE E2 C.length ∧ Fr C C2 [] ∧ C2[C.length]? = some (.lst found) ∧ found.length = i + 1 ∧ ∀ d ∈ found, LB d := ⟨found ++ [d], L2, f2, hf2, by simp; omega, fun y hy => by
      rcases List.mem_append.mp hy with hy | hy
      · exact h' y hy
      · rw [List.mem_singleton.mp hy]; exact hd⟩
    exact ⟨key, key⟩
  · rintro E' C' ⟨found, L', f', hf', hl, h'⟩
    have hl : found.length = 3 := hl
    obtain ⟨a, b, c, rfl⟩ : ∃ a b c, found = [a, b, c] := by
      rcases found with _ | ⟨a, _ | ⟨b, _ | ⟨c, _ | ⟨d, r⟩⟩⟩⟩ <;> simp at hl
      exact ⟨a, b, c, rfl⟩
    have tupC : ∀ {k : Nat} {C2 : Hm} {ds : List D}, C2[k]? = some (.lst ds) → tupleD [.cell k] C2 = some (.tup ds, C2) := fun {k C2 ds} e => by
      unfold tupleD seqOf
      simp only
      rw [e]
      rfl
    refine wRet (wCallB (wCons (wIf (wTst (wBin (wDR L'.h0 f'.fd f'.wh (by omega) (by omega) fun r C2 _ _ U2 => wC (wpo_eq eq_int ⟨_, rfl, ?_⟩)))))))
    have f2 := f'.upd U2
    have hf2 : C2[C.length]? = some (.lst [a, b, c]) := U2.le f'.fd _ _ hf'
    split
    · have e1 : mSl3 (mVar 3) oNone oNone (oSome (mUn negD (mC (.int 1)))) E' C2 = some (.cell C2.length, C2 ++ [.lst [c, b, a]]) := by
        have e2 : sl3D (.cell C.length) none none (some (-1)) C2 = some (.cell C2.length, C2 ++ [.lst [c, b, a]]) := by
          unfold sl3D
          simp only
          rw [hf2]
          simp only
          rw [if_pos (by decide), pick_rev]
        unfold mSl3
        rw [var_at L'.h3]
        exact e2
      have f3 := f2.app (c := .lst [c, b, a]) (bnds_iff.mpr fun y hy => (h' y ((List.mem_reverse (as := [a, b, c])).mp hy)).bnd)
      refine wpo_eq e1 (wNil (wpo_eq (tupC last_get) ⟨_, _, rfl, _, _, rfl, rfl, fun y hy => h' y ((List.mem_reverse (as := [a, b, c])).mp hy), f3⟩))
    · exact wVar L'.h3 (wNil (wpo_eq (tupC hf2) ⟨_, _, rfl, _, _, rfl, rfl, h', f2⟩))
end G
set_option Elab.async false
set_option linter.all false
set_option maxRecDepth 100000
set_option maxHeartbeats 4000000
namespace G
open PySem L2 Mi
/-! ## items: small leaves, bounded bulk -/
mutual
def lf (s : Nat) : PyData → Bool
  | .none | .bool _ => true
  | .int i => decide (i.natAbs ≤ 20 + s)
  | .str x => x.cps.all (· < 128)
  | .list xs | .tuple xs => lfAll s xs
  | .dict _ => false
def lfAll (s : Nat) : List PyData → Bool
  | [] => true
  | x :: xs => lf s x && lfAll s xs
end
mutual
theorem lf_up {s t : Nat} (h : s ≤ t) : ∀ p : PyData, lf s p = true → lf t p = true
  | .none, _ => by simp [lf]
  | .bool b, _ => by simp [lf]
  | .int i, e => by simp [lf] at e ⊢; omega
  | .str x, e => by simpa [lf] using e
  | .list xs, e => by simp only [lf] at e ⊢; exact lfAll_up h xs e
  | .tuple xs, e => by simp only [lf] at e ⊢; exact lfAll_up h xs e
  | .dict _, e => by simp [lf] at e
theorem lfAll_up {s t : Nat} (h : s ≤ t) : ∀ ps : List PyData, lfAll s ps = true → lfAll t ps = true
  | [], _ => by simp [lfAll]
  | p :: ps, e => by simp only [lfAll, Bool.and_eq_true] at e ⊢; exact ⟨lf_up h p e.1, lfAll_up h ps e.2⟩
end
theorem ascii_ok {x : Str} (h : x.cps.all (· < 128) = true) : PyData.strOk x = true := by
  unfold PyData.strOk
  rw [Array.all_eq_true_iff_forall_mem] at h ⊢
  intro c hc
  have := of_decide_eq_true (h c hc)
  exact decide_eq_true (by omega)
mutual
theorem lf_lay {s : Nat} : ∀ p : PyData, lf s p = true → p.canLay0 = true
  | .none, _ => by simp [PyData.canLay0]
  | .bool b, _ => by simp [PyData.canLay0]
  | .int i, _ => by simp [PyData.canLay0]
  | .str x, e => by simp only [lf] at e; simp only [PyData.canLay0]; exact ascii_ok e
  | .list xs, e => by simp only [lf] at e; simp only [PyData.canLay0]; exact lfAll_lay xs e
  | .tuple xs, e => by simp only [lf] at e; simp only [PyData.canLay0]; exact lfAll_lay xs e
  | .dict _, e => by simp [lf] at e
theorem lfAll_lay {s : Nat} : ∀ ps : List PyData, lfAll s ps = true → PyData.canLayAll0 ps = true
  | [], _ => by simp [PyData.canLayAll0]
  | p :: ps, e => by simp only [lfAll, Bool.and_eq_true] at e; simp only [PyData.canLayAll0, Bool.and_eq_true]; exact ⟨lf_lay p e.1, lfAll_lay ps e.2⟩
end
/-- cell 28 will be the list of all items: no item reaches it -/
def msk (C : Hm) : Hm := C.set 28 (.dic [])
def LeM (C C' : Hm) : Prop := LeH (msk C) (msk C')
theorem LeM.refl {C : Hm} : LeM C C := LeH.refl
theorem LeM.trans {A B C : Hm} (h : LeM A B) (k : LeM B C) : LeM A C := LeH.trans h k
theorem msk_app {C g : Hm} (h : 29 ≤ C.length) : msk (C ++ g) = msk C ++ g := by unfold msk; rw [List.set_append_left _ _ (by omega)]
theorem LeM.app {C g : Hm} (h : 29 ≤ C.length) : LeM C (C ++ g) := by unfold LeM; rw [msk_app h]; exact LeH.app
theorem msk_le {C : Hm} : LeH (msk C) C := fun k ds e => by
  unfold msk at e
  by_cases h : 28 = k
  · subst h
    by_cases hl : 28 < C.length
    · rw [List.getElem?_set_self hl] at e; cases e
    · rw [List.getElem?_eq_none_iff.mpr (by rw [List.length_set]; omega)] at e; cases e
  · rw [List.getElem?_set_ne h] at e; exact e
theorem msk_get {C : Hm} {k : Nat} {c : Cell} (h : C[k]? = some c) (hk : k ≠ 28) : (msk C)[k]? = some c := by unfold msk; rw [List.getElem?_set_ne (by omega)]; exact h
theorem msk_len {C : Hm} : (msk C).length = C.length := by unfold msk; rw [List.length_set]
theorem leM_of {C C' : Hm} (h : LeH C C') : LeM C C' := fun k ds e => by
  by_cases hk : k = 28
  · subst hk
    unfold msk at e
    by_cases hl : 28 < C.length
    · rw [List.getElem?_set_self hl] at e; cases e
    · rw [List.getElem?_eq_none_iff.mpr (by rw [List.length_set]; omega)] at e; cases e
  · exact msk_get (h k ds (msk_le k ds e)) hk
theorem Fr.leM {C C' : Hm} (h : Fr C C' []) (hF : Fd C) : LeM C C' := leM_of (h.le hF)
theorem Upd.leM {C C' : Hm} (F : Fd C) (h : Upd C C') : LeM C C' := leM_of (h.le F)
def It (C : Hm) (n s b : Nat) (d : D) : Prop := ∃ p, py (msk C) n d = some p ∧ lf s p = true ∧ p.bulk ≤ b
def Its (C : Hm) (n s b : Nat) (ds : List D) : Prop := ∃ ps, ds.mapM (py (msk C) n) = some ps ∧ lfAll s ps = true ∧ PyData.bulkAll ps ≤ b
theorem It.up {C C' : Hm} {n m s t b c : Nat} {d : D} (h : It C n s b d) (L : LeM C C') (hn : n ≤ m) (hs : s ≤ t) (hb : b ≤ c) : It C' m t c d := let ⟨p, e, l, k⟩ := h; ⟨p, py_up L hn e, lf_up hs p l, Nat.le_trans k hb⟩
theorem Its.up {C C' : Hm} {n m s t b c : Nat} {ds : List D} (h : Its C n s b ds) (L : LeM C C') (hn : n ≤ m) (hs : s ≤ t) (hb : b ≤ c) : Its C' m t c ds := let ⟨p, e, l, k⟩ := h; ⟨p, mapM_imp (fun _ _ e => py_up L hn e) e, lfAll_up hs p l, Nat.le_trans k hb⟩
theorem It.gs {C : Hm} {n s b : Nat} {d : D} (h : It C n s b d) (hb : b ≤ sizeLine) : Gs C n d := let ⟨p, e, l, k⟩ := h; ⟨p, py_up msk_le (Nat.le_refl _) e, lf_lay p l, Nat.le_trans k hb⟩
theorem It.tup {C : Hm} {n s b : Nat} {ds : List D} : It C (n + 1) s b (.tup ds) ↔ Its C n s b ds := by
  constructor
  · rintro ⟨p, e, l, k⟩
    obtain ⟨ps, e1, e2⟩ := omap (show (ds.mapM (py (msk C) n)).map PyData.tuple = some p from e)
    subst e2
    exact ⟨ps, e1, by simpa [lf] using l, by simpa [PyData.bulk] using k⟩
  · rintro ⟨ps, e, l, k⟩
    exact ⟨.tuple ps, by show (ds.mapM (py (msk C) n)).map PyData.tuple = _; rw [e]; rfl, by simpa [lf] using l, by simpa [PyData.bulk] using k⟩
theorem It.cell {C : Hm} {n s b k : Nat} {ds : List D} (hc : C[k]? = some (.lst ds)) (hk : k ≠ 28) (h : Its C n s b ds) : It C (n + 1) s b (.cell k) := by
  have hc := msk_get hc hk
  obtain ⟨ps, e, l, k⟩ := h
  exact ⟨.list ps, by unfold py; simp only [hc]; rw [e]; rfl, by simpa [lf] using l, by simpa [PyData.bulk] using k⟩
theorem Its.nil {C : Hm} {n s b : Nat} : Its C n s b [] := ⟨[], rfl, by simp [lfAll], by simp [PyData.bulkAll]⟩
theorem Its.cons {C : Hm} {n s b : Nat} {d : D} {ds : List D} : Its C n s b (d :: ds) ↔ ∃ b1 b2, It C n s b1 d ∧ Its C n s b2 ds ∧ b1 + 1 + b2 ≤ b := by
  constructor
  · rintro ⟨ps, e, l, k⟩
    obtain ⟨p, qs, e1, e2, rfl⟩ := mapM_cons' e
    simp only [lfAll, Bool.and_eq_true] at l
    simp only [PyData.bulkAll] at k
    exact ⟨p.bulk, PyData.bulkAll qs, ⟨p, e1, l.1, Nat.le_refl _⟩, ⟨qs, e2, l.2, Nat.le_refl _⟩, k⟩
  · rintro ⟨b1, b2, ⟨p, e1, l1, k1⟩, ⟨qs, e2, l2, k2⟩, hb⟩
    exact ⟨p :: qs, by rw [List.mapM_cons, e1, e2]; rfl, by simp [lfAll, l1, l2], by simp only [PyData.bulkAll]; omega⟩
theorem Its.app {C : Hm} {n s : Nat} : ∀ {xs ys : List D} {b : Nat}, Its C n s b (xs ++ ys) ↔ ∃ b1 b2, Its C n s b1 xs ∧ Its C n s b2 ys ∧ b1 + b2 ≤ b
  | [], ys, b => ⟨fun h => ⟨0, b, Its.nil, h, by omega⟩, fun ⟨b1, b2, _, h2, hb⟩ => h2.up LeM.refl (Nat.le_refl _) (Nat.le_refl _) (by omega)⟩
  | x :: xs, ys, b => by
    rw [List.cons_append, Its.cons]
    constructor
    · rintro ⟨b1, b2, h1, h2, hb⟩
      obtain ⟨c1, c2, k1, k2, hc⟩ := Its.app.mp h2
      exact ⟨b1 + 1 + c1, c2, Its.cons.mpr ⟨b1, c1, h1, k1, Nat.le_refl _⟩, k2, by omega⟩
    · rintro ⟨b1, b2, h1, h2, hb⟩
      obtain ⟨c1, c2, k1, k2, hc⟩ := Its.cons.mp h1
      exact ⟨c1, c2 + b2, k1, Its.app.mpr ⟨c2, b2, k2, h2, Nat.le_refl _⟩, by omega⟩
theorem Its.one {C : Hm} {n s b : Nat} {d : D} (h : It C n s b d) : Its C n s (b + 1) [d] := Its.cons.mpr ⟨b, 0, h, Its.nil, by omega⟩
theorem Its.mem {C : Hm} {n s b : Nat} : ∀ {ds : List D} {d : D}, Its C n s b ds → d ∈ ds → It C n s b d
  | x :: xs, d, h, hd => by
    obtain ⟨b1, b2, h1, h2, hb⟩ := Its.cons.mp h
    rcases List.mem_cons.mp hd with rfl | hd
    · exact h1.up LeM.refl (Nat.le_refl _) (Nat.le_refl _) (by omega)
    · exact (Its.mem h2 hd).up LeM.refl (Nat.le_refl _) (Nat.le_refl _) (by omega)
theorem Its.len {C : Hm} {n s b : Nat} : ∀ {ds : List D} {b : Nat}, Its C n s b ds → ds.length ≤ b
  | [], _, _ => by simp
  | x :: xs, _, h => by
    obtain ⟨b1, b2, h1, h2, hb⟩ := Its.cons.mp h
    have := Its.len (b := 0) h2
    simp only [List.length_cons]; omega
theorem Its.take {C : Hm} {n s b : Nat} {ds : List D} (h : Its C n s b ds) (k : Nat) : Its C n s b (ds.take k) := by
  rw [← List.take_append_drop k ds] at h
  obtain ⟨b1, b2, h1, _, hb⟩ := Its.app.mp h
  exact h1.up LeM.refl (Nat.le_refl _) (Nat.le_refl _) (by omega)
theorem Its.drop {C : Hm} {n s b : Nat} {ds : List D} (h : Its C n s b ds) (k : Nat) : Its C n s b (ds.drop k) := by
  rw [← List.take_append_drop k ds] at h
  obtain ⟨b1, b2, _, h2, hb⟩ := Its.app.mp h
  exact h2.up LeM.refl (Nat.le_refl _) (Nat.le_refl _) (by omega)
theorem Its.cut {C : Hm} {n s b : Nat} {ds : List D} (h : Its C n s b ds) (lo hi : Option Int) : Its C n s b (cutD ds lo hi) := (h.drop _).take _
theorem Its.rev {C : Hm} {n s : Nat} : ∀ {ds : List D} {b : Nat}, Its C n s b ds → Its C n s b ds.reverse
  | [], _, h => h
  | x :: xs, b, h => by
    obtain ⟨b1, b2, h1, h2, hb⟩ := Its.cons.mp h
    rw [List.reverse_cons]
    exact Its.app.mpr ⟨b2, b1 + 1, Its.rev h2, Its.one h1, by omega⟩
theorem Its.gd {C : Hm} {n s b : Nat} {ds : List D} (h : Its C n s b ds) : ∀ d ∈ ds, Gd C n d := fun d hd => let ⟨p, e, l, _⟩ := Its.mem h hd; ⟨p, py_up msk_le (Nat.le_refl _) e, lf_lay p l⟩
theorem It.bnd {C : Hm} {n s b : Nat} {d : D} (h : It C n s b d) : d.bnd C.length = true := let ⟨p, e, _⟩ := h; by have := py_bnd e; rwa [msk_len] at this
theorem Its.bnd {C : Hm} {n s b : Nat} {ds : List D} (h : Its C n s b ds) : bnds C.length ds = true := bnds_iff.mpr fun d hd => (Its.mem h hd).bnd
theorem it_int {C : Hm} {n s b : Nat} {i : Int} (h : i.natAbs ≤ 20 + s) : It C (n + 1) s b (.int i) := ⟨.int i, rfl, by simpa [lf] using h, by simp [PyData.bulk]⟩
theorem it_bl {C : Hm} {n s b : Nat} {i : Bool} : It C (n + 1) s b (.bl i) := ⟨.bool i, rfl, by simp [lf], by simp [PyData.bulk]⟩
theorem it_non {C : Hm} {n s b : Nat} : It C (n + 1) s b .non := ⟨.none, rfl, by simp [lf], by simp [PyData.bulk]⟩
theorem it_str {C : Hm} {n s b : Nat} {x : Str} (h : x.cps.all (· < 128) = true) (hb : x.cps.size ≤ b) : It C (n + 1) s b (.str x) := ⟨.str x, rfl, by simpa [lf] using h, by simpa [PyData.bulk] using hb⟩
/-! ## some value of another kind -/
abbrev ODD : MA := (mCons (mC .non) (mCons (mC (.bl true)) (mCons (mC (.bl false)) (mCons (mC (.int 0)) (mCons (mUn negD (mC (.int 1))) (mCons (mC (.int 1)) (mCons (mC (.str (Str.ofString ""))) (mCons (mC (.str (Str.ofString "a"))) (mCons (mC (.str (Str.ofString "world"))) (mCons (mTup mNil) (mCons (mLst mNil) (mCons (mTup (mCons (mTup mNil) (mCons (mTup mNil) mNil))) (mCons (mTup (mCons (mC (.str (Str.ofString "memo"))) (mCons (mC (.int 0)) mNil))) (mCons (mC (.int 9)) (mCons (mTup (mCons (mC (.int 0)) mNil)) (mCons (mTup (mCons (mC (.str (Str.ofString "a"))) mNil)) mNil))))))))))))))))
def oddL (k : Nat) : List D := [.non, .bl true, .bl false, .int 0, .int (-1), .int 1, .str (Str.ofString ""), .str (Str.ofString "a"), .str (Str.ofString "world"), .tup [], .cell k, .tup [.tup [], .tup []], .tup [.str (Str.ofString "memo"), .int 0], .int 9, .tup [.int 0], .tup [.str (Str.ofString "a")]]
theorem odd_list {E : Ev} {C : Hm} : ODD E C = some (oddL C.length, C ++ [.lst []]) := by
  have z := szL
  have t1 : ∀ {C' : Hm}, mTup (mCons (mTup mNil) (mCons (mTup mNil) mNil)) E C' = some (.tup [.tup [], .tup []], C') := fun {C'} => tupE (consE tup_nil (consE tup_nil nilE)) (by simp [z])
  have t2 : ∀ {C' : Hm}, mTup (mCons (mC (.str (Str.ofString "memo"))) (mCons (mC (.int 0)) mNil)) E C' = some (.tup [.str (Str.ofString "memo"), .int 0], C') := fun {C'} => tupE (consE mC_at (consE mC_at nilE)) (by simp [z])
  have t3 : ∀ {d : D} {C' : Hm}, mTup (mCons (mC d) mNil) E C' = some (.tup [d], C') := fun {d C'} => tupE (consE mC_at nilE) (by simp [z])
  exact consE mC_at (consE mC_at (consE mC_at (consE mC_at (consE rfl (consE mC_at (consE mC_at (consE mC_at (consE mC_at (consE tup_nil (consE lst_nil (consE t1 (consE t2 (consE mC_at (consE t3 (consE t3 nilE)))))))))))))))
theorem oddL_its {C : Hm} {k : Nat} (hc : C[k]? = some (.lst [])) (hk : k ≠ 28) : Its C 3 0 60 (oddL k) := by
  have a1 : (Str.ofString "").cps.all (· < 128) = true ∧ (Str.ofString "").cps.size = 0 := by decide +kernel
  have a2 : (Str.ofString "a").cps.all (· < 128) = true ∧ (Str.ofString "a").cps.size = 1 := by decide +kernel
  have a3 : (Str.ofString "world").cps.all (· < 128) = true ∧ (Str.ofString "world").cps.size = 5 := by decide +kernel
  have a4 : (Str.ofString "memo").cps.all (· < 128) = true ∧ (Str.ofString "memo").cps.size = 4 := by decide +kernel
  have e : It C 3 0 0 (.tup []) := It.tup.mpr Its.nil
  have e2 : It C 2 0 0 (.tup []) := It.tup.mpr Its.nil
  have c : ∀ {b1 b2 : Nat} {d : D} {ds : List D}, It C 3 0 b1 d → Its C 3 0 b2 ds → Its C 3 0 (b1 + 1 + b2) (d :: ds) := fun h1 h2 => Its.cons.mpr ⟨_, _, h1, h2, Nat.le_refl _⟩
  have fin := c (b1 := 0) it_non (c (b1 := 0) (it_bl (i := true)) (c (b1 := 0) (it_bl (i := false)) (c (b1 := 0) (it_int (i := 0) (by decide)) (c (b1 := 0) (it_int (i := -1) (by decide)) (c (b1 := 0) (it_int (i := 1) (by decide)) (c (it_str a1.1 (Nat.le_of_eq a1.2)) (c (it_str a2.1 (Nat.le_of_eq a2.2)) (c (it_str a3.1 (Nat.le_of_eq a3.2)) (c e (c (It.cell hc hk (b := 0) Its.nil)
    (c (It.tup.mpr (Its.cons.mpr ⟨0, 1, e2, Its.one e2, Nat.le_refl _⟩)) (c (It.tup.mpr (Its.cons.mpr ⟨4, 1, it_str a4.1 (Nat.le_of_eq a4.2), Its.one (it_int (i := 0) (by decide)), Nat.le_refl _⟩)) (c (b1 := 0) (it_int (i := 9) (by decide)) (c (It.tup.mpr (Its.one (b := 0) (it_int (i := 0) (by decide)))) (c (It.tup.mpr (Its.one (it_str a2.1 (Nat.le_of_eq a2.2)))) Its.nil (b2 := 0))))))))))))))))
  exact fin.up LeM.refl (Nat.le_refl _) (Nat.le_refl _) (by decide)
theorem odd_ok {C : Hm} (hC : 29 ≤ C.length) (F : Fd C) (W : WH C) : wpo (M_law_odd [.cell 2] C) fun r => ∃ C', r.2 = C' ∧ Fr C C' [] ∧ It C' 3 0 60 r.1 := by
  have z := szL
  refine wFn rfl (show wpo (B_law_odd [some (.cell 2), none] C) _ from ?_)
  refine wSeq (wAsg (wpo_eq (lstE odd_list (by simp [oddL, z])) ?_))
  have f1 := (Fr.refl (ks := []) F W).app (c := .lst []) rfl
  have f2 := f1.app (c := .lst (oddL C.length)) (Cell.bnd_up (Nat.le_succ _) (show (Cell.lst (oddL C.length)).bnd (C ++ [Cell.lst []]).length = true from Its.bnd (oddL_its last_get (by omega))))
  refine wRet (wBin (wVar rfl (wDR rfl f2.fd f2.wh (by omega) (by omega) fun r C2 r0 r1 U => ?_)))
  have hc : C2[(C ++ [Cell.lst []]).length]? = some (.lst (oddL C.length)) := U.le f2.fd _ _ last_get
  have hc0 : C2[C.length]? = some (.lst []) := U.le f2.fd _ _ last2_get
  obtain ⟨x, e, hx⟩ := atI_in (xs := oddL C.length) r0 (by simpa [oddL] using r1)
  have e1 : ixD (.cell (C ++ [Cell.lst []]).length) (.int r) C2 = some (x, C2) := by
    unfold ixD
    simp only
    rw [hc]
    simp only
    rw [e]
    rfl
  exact wpo_eq e1 ⟨_, _, rfl, C2, rfl, f2.upd U, Its.mem (oddL_its hc0 (by omega)) hx⟩
end G
set_option Elab.async false
set_option linter.all false
set_option maxRecDepth 100000
set_option maxHeartbeats 4000000
namespace G
open PySem L2 Mi
/-! ## strings that stay small -/
theorem up128 : ∀ c : Nat, c < 128 → (Unicode.upperOf c).all (· < 128) = true := by decide +kernel
theorem ts1 : ∀ n : Nat, n < 51 → ((Str.ofString (toString (Int.ofNat n))).cps.all (· < 128)) = true := by decide +kernel
theorem ts2 : ∀ n : Nat, n < 51 → ((Str.ofString (toString (Int.negSucc n))).cps.all (· < 128)) = true := by decide +kernel
theorem asc_iff {x : Str} : x.cps.all (· < 128) = true ↔ ∀ c ∈ x.cps.toList, c < 128 := by
  rw [Array.all_eq_true_iff_forall_mem]
  simp
theorem ts_ok {i : Int} (h : i.natAbs ≤ 50) : (Str.ofString (toString i)).cps.all (· < 128) = true := by
  cases i with
  | ofNat n => exact ts1 n (by simp at h; omega)
  | negSucc n => exact ts2 n (by have : (Int.negSucc n).natAbs = n + 1 := rfl; omega)
theorem ts_len {i : Int} (h : i.natAbs ≤ 50) : (Str.ofString (toString i)).cps.size ≤ 52 := by
  have e := PyProof.Rows.len_str_of_int i
  have : (Str.ofString (toString i)).length = (Str.ofString (toString i)).cps.size := rfl
  omega
theorem app_asc {x y : Str} (hx : x.cps.all (· < 128) = true) (hy : y.cps.all (· < 128) = true) : (x ++ y).cps.all (· < 128) = true ∧ (x ++ y).cps.size = x.cps.size + y.cps.size := by
  have e : (x ++ y).cps = x.cps ++ y.cps := rfl
  rw [e]
  refine ⟨?_, Array.size_append⟩
  rw [Array.all_append, hx, hy]; rfl
theorem but_asc {x : Str} (hx : x.cps.all (· < 128) = true) : (Txt.slice x none (some (-1))).cps.all (· < 128) = true ∧ (Txt.slice x none (some (-1))).cps.size ≤ x.cps.size := by
  have ex : x = SX.S x.cps.toList := rfl
  by_cases h : x.cps.toList = []
  · have : x = ⟨#[]⟩ := by rw [ex, h]
    subst this
    have e : Txt.slice ⟨#[]⟩ none (some (-1)) = ⟨#[]⟩ := by decide +kernel
    rw [e]
    exact ⟨by decide +kernel, Nat.le_refl _⟩
  · have e : Txt.slice x none (some (-1)) = SX.S (x.cps.toList.take (x.cps.toList.length - 1)) := SX.slice_butlast h
    rw [e]
    refine ⟨asc_iff.mpr fun c hc => asc_iff.mp hx c (List.mem_of_mem_take (by simpa using hc)), ?_⟩
    simp
theorem up_asc {x : Str} (hx : x.cps.all (· < 128) = true) : (Txt.upper x).cps.all (· < 128) = true := by
  refine asc_iff.mpr fun c hc => ?_
  have hc : c ∈ (placed x fun _ c => Unicode.upperOf c) := Array.mem_toList_iff.mp hc
  unfold placed at hc
  rw [Array.mem_flatten] at hc
  obtain ⟨a, ha, hca⟩ := hc
  rw [Array.mem_mapIdx] at ha
  obtain ⟨i, hi, rfl⟩ := ha
  have h1 := asc_iff.mp hx x.cps[i] (by simp)
  have h2 := List.all_eq_true.mp (up128 _ h1) c (by simpa using hca)
  exact of_decide_eq_true h2
theorem up_len (x : Str) : (Txt.upper x).cps.size ≤ 3 * x.cps.size := PyProof.Rows.len_upper x
theorem it_app {C : Hm} {n s b c : Nat} {x y : Str} (hx : It C (n + 1) s b (.str x)) (hy : y.cps.all (· < 128) = true) (hc : b + y.cps.size ≤ c) : It C (n + 1) s c (.str (x ++ y)) := by
  obtain ⟨p, e, l, k⟩ := hx
  cases e
  have a := app_asc (by simpa [lf] using l) hy
  refine it_str a.1 ?_
  have : x.cps.size ≤ b := by simpa [PyData.bulk] using k
  omega
/-! ## a value changed at one place -/
theorem sl_lo {E : Ev} {C : Hm} {i : Nat} {ds : List D} {k : Int} {m : ME} (h : E[i]? = some (some (.tup ds))) (hm : m E C = some (.int k, C)) : mSl slD (mVar i) (oSome m) oNone E C = some (.tup (cutD ds (some k) none), C) := by
  unfold mSl oSome oNone
  rw [var_at h]
  simp only [Option.bind_some]
  rw [hm]
  rfl
theorem sl_hi {E : Ev} {C : Hm} {i : Nat} {ds : List D} {k : Int} {m : ME} (h : E[i]? = some (some (.tup ds))) (hm : m E C = some (.int k, C)) : mSl slD (mVar i) oNone (oSome m) E C = some (.tup (cutD ds none (some k)), C) := by
  unfold mSl oSome oNone
  rw [var_at h]
  simp only [Option.bind_some]
  rw [hm]
  rfl
theorem neg1 {E : Ev} {C : Hm} : mUn negD (mC (.int 1)) E C = some (.int (-1), C) := rfl
theorem add_tt {C : Hm} {xs ys : List D} (h : xs.length + ys.length ≤ sizeLine) : addD (.tup xs) (.tup ys) C = some (.tup (xs ++ ys), C) := by
  unfold addD
  simp only
  rw [if_pos h]
theorem add_ss {C : Hm} {x y : Str} (h : x.length + y.length ≤ sizeLine) : addD (.str x) (.str y) C = some (.str (x ++ y), C) := by
  unfold addD
  simp only
  rw [if_pos h]
theorem lo_take {ds : List D} {k : Nat} : cutD ds none (some (k : Int)) = ds.take k := by
  unfold cutD
  rw [HT.sIx_none, HT.sIx_nat]
  simp
theorem hi_drop {ds : List D} {k : Nat} : cutD ds (some (k : Int)) none = ds.drop k := by
  unfold cutD
  rw [HT.sIx_none, HT.sIx_nat]
  by_cases h : k ≤ ds.length
  · rw [Nat.min_eq_left h]
    exact List.take_of_length_le (by simp)
  · rw [Nat.min_eq_right (by omega), List.drop_eq_nil_of_le (Nat.le_refl _), List.drop_eq_nil_of_le (by omega)]
    simp
abbrev T1 : MT := (tAndM (mTru (mCallB isiD (mCons (mVar 1) (mCons (mC (.ty .tup)) mNil)))) (tAndM (mTest (mBin dNe (mVar 1) (mTup mNil))) (mTest (mBin dGt (DR 5) (mC (.int 0))))))
theorem t1_ok {E : Ev} {C : Hm} {n s b : Nat} {d : D} (F : Fd C) (W : WH C) (h0 : E[0]? = some (some (.cell 2))) (h1 : E[1]? = some (some d)) (i : It C (n + 1) s b d) (hn : n ≤ 59) (hb : b ≤ 100000) {Q : Bool × Hm → Prop} (k : ∀ t C', Fr C C' [] → (t = true → ∃ ds, d = .tup ds ∧ ds ≠ []) → Q (t, C')) : wpo (T1 E C) Q := by
  have z := szL
  have g := i.gs (by omega)
  have i1 := tru_bl (isiV (t := .tup) g h1 rfl)
  cases q : isiK (kyN d) .tup with
  | false =>
    rw [q] at i1
    exact wpo_eq (and_f i1) (k _ _ (Fr.refl F W) fun z => by cases z)
  | true =>
    rw [q] at i1
    obtain ⟨ds, rfl⟩ := isiK_tup.mp q
    have e1 : mBin dNe (mVar 1) (mTup mNil) E C = some (.bl (!ds.isEmpty), C) := by
      rw [bin_eq (var_at h1) tup_nil]
      exact ne_tnil fun x hx => ((It.tup.mp i).gd x hx).up LeH.refl (by omega)
    rw [T1, and_t i1]
    cases q2 : ds.isEmpty with
    | true =>
      rw [q2] at e1
      exact wpo_eq (and_f (tst_bl e1)) (k _ _ (Fr.refl F W) fun z => by cases z)
    | false =>
      rw [q2] at e1
      rw [and_t (tst_bl e1)]
      refine wTst (wBin (wDR h0 F W (by omega) (by omega) fun r C1 r0 r1 U => wC (wpo_eq (show dGt (.int r) (.int 0) C1 = some (.bl (decide (0 < r)), C1) from rfl) ⟨_, rfl, k _ _ ((Fr.refl F W).upd U) fun _ => ⟨ds, rfl, fun e => by subst e; cases q2⟩⟩)))
abbrev L1 : MA := (mCons (mCallB listD (mCons (mVar 1) mNil)) (mCons (mSl slD (mVar 1) (oSome (mC (.int 1))) oNone) (mCons (mSl slD (mVar 1) oNone (oSome (mUn negD (mC (.int 1))))) (mCons (mBin addD (mVar 1) (mSl slD (mVar 1) (oSome (mUn negD (mC (.int 1)))) oNone)) mNil))))
abbrev L2' : MA := (mCons (mSl3 (mVar 1) oNone oNone (oSome (mUn negD (mC (.int 1))))) (mCons (mTup (mCons (mVar 1) mNil)) (mCons (mBin addD (mVar 1) (mTup (mCons (mC .non) mNil))) mNil)))
abbrev WT : MS := (mSeq (mAsg (mLst L1) (gN 4)) (mRet (mBin ixD (mBin addD (mVar 4) (mLst L2')) (mVar 3))))
theorem wt_ok {C : Hm} {n s b : Nat} {ds : List D} {r : Int} {x2 : Option D} (hC : 29 ≤ C.length) (F : Fd C) (W : WH C) (i : Its C n s b ds) (hb : b ≤ 100000) (r0 : 0 ≤ r) (r1 : r < 7) {Q : Out → Prop} (k : ∀ d' C', Fr C C' [] → It C' (n + 3) (s + 1) (3 * b + 60) d' → Q (.rt d' C')) : wpo (WT [some (.cell 2), some (.tup ds), x2, some (.int r), none] C) Q := by
  have z := szL
  have hl := Its.len (b := b) i
  have hl2 := Its.len (b := b) (i.cut (some (-1)) none)
  have e1 : L1 [some (.cell 2), some (.tup ds), x2, some (.int r), none] C = some ([.cell C.length, .tup (cutD ds (some 1) none), .tup (cutD ds none (some (-1))), .tup (ds ++ cutD ds (some (-1)) none)], C ++ [.lst ds]) :=
    consE (show mCallB listD (mCons (mVar 1) mNil) _ C = some (.cell C.length, C ++ [.lst ds]) from rfl) (consE (sl_lo rfl mC_at) (consE (sl_hi rfl neg1) (consE ((bin_eq (var_at rfl) (sl_lo rfl neg1)).trans (add_tt (by omega))) nilE)))
  have f1 := (Fr.refl (ks := []) F W).app (c := .lst ds) (Cell.bnd_up (Nat.le_succ _) (show (Cell.lst ds).bnd C.length = true from i.bnd))
  have lift1 : Its (C ++ [Cell.lst ds]) (n + 2) (s + 1) b ds := i.up (LeM.app hC) (by omega) (by omega) (Nat.le_refl _)
  have c1 : It (C ++ [Cell.lst ds]) (n + 3) (s + 1) b (.cell C.length) := It.cell last_get (by omega) lift1
  have its1 : Its (C ++ [Cell.lst ds]) (n + 3) (s + 1) (5 * b + 4) [.cell C.length, .tup (cutD ds (some 1) none), .tup (cutD ds none (some (-1))), .tup (ds ++ cutD ds (some (-1)) none)] :=
    Its.cons.mpr ⟨b, 4 * b + 3, c1, Its.cons.mpr ⟨b, 3 * b + 2, It.tup.mpr (lift1.cut _ _), Its.cons.mpr ⟨b, 2 * b + 1, It.tup.mpr (lift1.cut _ _), Its.one (It.tup.mpr (Its.app.mpr ⟨b, b, lift1, lift1.cut _ _, by omega⟩)), by omega⟩, by omega⟩, by omega⟩
  have f2 := f1.app (c := .lst [.cell C.length, .tup (cutD ds (some 1) none), .tup (cutD ds none (some (-1))), .tup (ds ++ cutD ds (some (-1)) none)]) (Cell.bnd_up (Nat.le_succ _) (show (Cell.lst _).bnd (C ++ [Cell.lst ds]).length = true from its1.bnd))
  refine wSeq (wAsg (wpo_eq (lstE e1 (by simp [z])) ?_))
  generalize hA : ([.cell C.length, .tup (cutD ds (some 1) none), .tup (cutD ds none (some (-1))), .tup (ds ++ cutD ds (some (-1)) none)] : List D) = A at *
  have hAl : A.length = 4 := by rw [← hA]; rfl
  have e2 : ∀ {C' : Hm}, L2' [some (.cell 2), some (.tup ds), x2, some (.int r), some (.cell (C ++ [Cell.lst ds]).length)] C' = some ([.tup ds.reverse, .tup [.tup ds], .tup (ds ++ [D.non])], C') := fun {C'} =>
    consE (show mSl3 (mVar 1) oNone oNone (oSome (mUn negD (mC (.int 1)))) _ C' = some (.tup ds.reverse, C') from rfl) (consE (tupE (cons1 (var_at rfl)) (by simp [z])) (consE ((bin_eq (var_at rfl) (tupE (cons1 mC_at) (by simp [z]))).trans (add_tt (by simp; omega))) nilE))
  have its2 : ∀ {C' : Hm}, LeM C C' → Its C' (n + 3) (s + 1) (3 * b + 20) [.tup ds.reverse, .tup [.tup ds], .tup (ds ++ [D.non])] := fun {C'} L =>
    Its.cons.mpr ⟨b, 2 * b + 10, It.tup.mpr (Its.rev (i.up L (by omega) (by omega) (Nat.le_refl _))), Its.cons.mpr ⟨b + 1, b + 2, It.tup.mpr (Its.one (It.tup.mpr (i.up L (by omega) (by omega) (Nat.le_refl _)))), Its.one (It.tup.mpr (Its.app.mpr ⟨b, 1, i.up L (by omega) (by omega) (Nat.le_refl _), Its.one (b := 0) it_non, by omega⟩)), by omega⟩, by omega⟩
  have f3 := f2.app (c := .lst [.tup ds.reverse, .tup [.tup ds], .tup (ds ++ [D.non])]) (Cell.bnd_up (Nat.le_succ _) (show (Cell.lst _).bnd (C ++ [Cell.lst ds] ++ [Cell.lst A]).length = true from (its2 (f2.leM F)).bnd))
  generalize hB : ([.tup ds.reverse, .tup [.tup ds], .tup (ds ++ [D.non])] : List D) = B at *
  have hBl : B.length = 3 := by rw [← hB]; rfl
  have e3 : mBin addD (mVar 4) (mLst L2') [some (.cell 2), some (.tup ds), x2, some (.int r), some (.cell (C ++ [Cell.lst ds]).length)] (C ++ [.lst ds] ++ [.lst A]) = some (.cell (C ++ [Cell.lst ds] ++ [Cell.lst A] ++ [Cell.lst B]).length, C ++ [.lst ds] ++ [.lst A] ++ [.lst B] ++ [.lst (A ++ B)]) := by
    rw [bin_eq (var_at rfl) (lstE e2 (by omega))]
    unfold addD
    simp only
    rw [last2_get, last_get]
    simp only
    rw [if_pos (by omega)]
  obtain ⟨x, ex, hx⟩ := atI_in (xs := A ++ B) r0 (by rw [List.length_append, hAl, hBl]; omega)
  have e4 : ixD (.cell (C ++ [Cell.lst ds] ++ [Cell.lst A] ++ [Cell.lst B]).length) (.int r) (C ++ [.lst ds] ++ [.lst A] ++ [.lst B] ++ [.lst (A ++ B)]) = some (x, C ++ [.lst ds] ++ [.lst A] ++ [.lst B] ++ [.lst (A ++ B)]) := by
    unfold ixD
    simp only
    rw [last_get]
    simp only
    rw [ex]
    rfl
  have itsA : Its (C ++ [.lst ds] ++ [.lst A] ++ [.lst B] ++ [.lst (A ++ B)]) (n + 3) (s + 1) (5 * b + 4) A := its1.up (by rw [List.append_assoc, List.append_assoc]; exact LeM.app (by simp; omega)) (Nat.le_refl _) (Nat.le_refl _) (Nat.le_refl _)
  have itsB : Its (C ++ [.lst ds] ++ [.lst A] ++ [.lst B] ++ [.lst (A ++ B)]) (n + 3) (s + 1) (3 * b + 20) B := its2 (by rw [List.append_assoc, List.append_assoc, List.append_assoc]; exact LeM.app hC)
  have f4 := f3.app (c := .lst (A ++ B)) (bnds_iff.mpr fun y hy => by
    rcases List.mem_append.mp hy with hy | hy
    · have := bnds_iff.mp itsA.bnd y hy
      simpa using this
    · have := bnds_iff.mp itsB.bnd y hy
      simpa using this)
  refine wRet (wBin (wpo_eq e3 (wVar rfl (wpo_eq e4 (k x _ f4 ?_)))))
  rcases List.mem_append.mp hx with hy | hy
  · -- one of the four, each of at most 2 b
    have lift4 : Its (C ++ [.lst ds] ++ [.lst A] ++ [.lst B] ++ [.lst (A ++ B)]) (n + 2) (s + 1) b ds := i.up (by rw [List.append_assoc, List.append_assoc, List.append_assoc]; exact LeM.app hC) (by omega) (by omega) (Nat.le_refl _)
    have c4 : (C ++ [.lst ds] ++ [.lst A] ++ [.lst B] ++ [.lst (A ++ B)])[C.length]? = some (.lst ds) := by
      rw [List.append_assoc, List.append_assoc, List.append_assoc]
      rw [List.getElem?_append_right (Nat.le_refl _)]
      simp
    rw [← hA] at hy
    simp only [List.mem_cons, List.not_mem_nil, or_false] at hy
    rcases hy with rfl | rfl | rfl | rfl
    · exact (It.cell c4 (by omega) lift4).up LeM.refl (by omega) (Nat.le_refl _) (by omega)
    · exact (It.tup.mpr (lift4.cut _ _)).up LeM.refl (by omega) (Nat.le_refl _) (by omega)
    · exact (It.tup.mpr (lift4.cut _ _)).up LeM.refl (by omega) (Nat.le_refl _) (by omega)
    · exact (It.tup.mpr (Its.app.mpr ⟨b, b, lift4, lift4.cut _ _, by omega⟩)).up LeM.refl (by omega) (Nat.le_refl _) (show 2 * b ≤ _ by omega)
  · exact (Its.mem itsB hy).up LeM.refl (Nat.le_refl _) (Nat.le_refl _) (by omega)
end G
set_option Elab.async false
set_option linter.all false
set_option maxRecDepth 100000
set_option maxHeartbeats 4000000
namespace G
open PySem L2 Mi
/-! ## strings and numbers changed -/
abbrev LS : MA := (mCons (mBin addD (mVar 1) (mC (.str (Str.ofString "a")))) (mCons (mSl slD (mVar 1) oNone (oSome (mUn negD (mC (.int 1))))) (mCons (mMeth "str" upperD (mVar 1) mNil) (mCons (mBin addD (mVar 1) (mC (.str (Str.ofString " ")))) (mCons (mLst (mCons (mVar 1) mNil)) (mCons (mBin addD (mVar 1) (mC (.str (Str.ofString "abcdefgh")))) mNil))))))
theorem pick_ok' {E : Ev} {C C1 : Hm} {ml : MA} {xs : List D} {i : Nat} {r : Int} {m s b : Nat} (hC : 29 ≤ C.length) (F : Fd C) (f : Fr C C1 []) (e : ml E C = some (xs, C1)) (its : Its C1 m s 10000000 xs) (itx : ∀ x ∈ xs, It C1 m s b x) (hi : E[i]? = some (some (.int r))) (r0 : 0 ≤ r) (r1 : r < xs.length) {Q : Out → Prop} (k : ∀ d' C', Fr C C' [] → It C' m s b d' → Q (.rt d' C')) : wpo (mRet (mBin ixD (mLst ml) (mVar i)) E C) Q := by
  have z := szL
  have hl := Its.len (b := 10000000) its
  obtain ⟨x, ex, hx⟩ := atI_in r0 r1
  have e1 : ixD (.cell C1.length) (.int r) (C1 ++ [.lst xs]) = some (x, C1 ++ [.lst xs]) := by
    unfold ixD
    simp only
    rw [last_get]
    simp only
    rw [ex]
    rfl
  exact wRet (wBin (wpo_eq (lstE e (by omega)) (wVar hi (wpo_eq e1 (k x _ (f.app (Cell.bnd_up (Nat.le_succ _) (show (Cell.lst xs).bnd C1.length = true from its.bnd))) ((itx x hx).up (LeM.app (Nat.le_trans hC f.len)) (Nat.le_refl _) (Nat.le_refl _) (Nat.le_refl _)))))))
theorem its_of {C : Hm} {n s b : Nat} : ∀ {xs : List D}, (∀ x ∈ xs, It C n s b x) → Its C n s (xs.length * (b + 1)) xs
  | [], _ => Its.nil
  | x :: xs, h => Its.cons.mpr ⟨b, xs.length * (b + 1), h x (by simp), its_of fun y hy => h y (by simp [hy]), by rw [List.length_cons, Nat.add_mul]; omega⟩
theorem ls_ok {C : Hm} {n s b : Nat} {x : Str} {r : Int} {x2 x4 : Option D} (hC : 29 ≤ C.length) (F : Fd C) (W : WH C) (i : It C (n + 1) s b (.str x)) (hb : b ≤ 100000) (r0 : 0 ≤ r) (r1 : r < 6) {Q : Out → Prop} (k : ∀ d' C', Fr C C' [] → It C' (n + 3) (s + 1) (3 * b + 60) d' → Q (.rt d' C')) : wpo (mRet (mBin ixD (mLst LS) (mVar 3)) [some (.cell 2), some (.str x), x2, some (.int r), x4] C) Q := by
  have z := szL
  obtain ⟨hx, hs⟩ : x.cps.all (· < 128) = true ∧ x.length ≤ b := by
    obtain ⟨p, e, l, k⟩ := i
    cases e
    exact ⟨by simpa [lf] using l, show x.cps.size ≤ b by simpa [PyData.bulk] using k⟩
  have a1 : (Str.ofString "a").cps.all (· < 128) = true ∧ (Str.ofString "a").cps.size = 1 := by decide +kernel
  have a2 : (Str.ofString " ").cps.all (· < 128) = true ∧ (Str.ofString " ").cps.size = 1 := by decide +kernel
  have a3 : (Str.ofString "abcdefgh").cps.all (· < 128) = true ∧ (Str.ofString "abcdefgh").cps.size = 8 := by decide +kernel
  have l1 : (Str.ofString "a").length = 1 := a1.2
  have l2 : (Str.ofString " ").length = 1 := a2.2
  have l3 : (Str.ofString "abcdefgh").length = 8 := a3.2
  have e : LS [some (.cell 2), some (.str x), x2, some (.int r), x4] C = some ([.str (x ++ Str.ofString "a"), .str (Txt.slice x none (some (-1))), .str (Txt.upper x), .str (x ++ Str.ofString " "), .cell C.length, .str (x ++ Str.ofString "abcdefgh")], C ++ [.lst [.str x]]) := by
    have sl1 : mSl slD (mVar 1) oNone (oSome (mUn negD (mC (.int 1)))) [some (.cell 2), some (.str x), x2, some (.int r), x4] C = some (.str (Txt.slice x none (some (-1))), C) := by
      unfold mSl oSome oNone
      rw [var_at (d := .str x) rfl]
      simp only [Option.bind_some]
      rw [neg1]
      simp only [Option.bind_some]
      unfold slD
      simp only
      rw [if_pos (by omega)]
    have up1 : mMeth "str" upperD (mVar 1) mNil [some (.cell 2), some (.str x), x2, some (.int r), x4] C = some (.str (Txt.upper x), C) := by
      unfold mMeth
      rw [var_at (d := .str x) rfl]
      simp only [Option.bind_some]
      rw [if_pos (show tyD "str" (.str x) C = true from rfl)]
      unfold upperD mNil
      simp only [Option.bind_some]
      rw [if_pos (by omega)]
    exact consE ((bin_eq (var_at rfl) mC_at).trans (add_ss (by omega))) (consE sl1 (consE up1 (consE ((bin_eq (var_at rfl) mC_at).trans (add_ss (by omega))) (consE (lstE (cons1 (var_at rfl)) (by simp [z])) (consE ((bin_eq (var_at rfl) mC_at).trans (add_ss (by omega))) nilE)))))
  have f1 := (Fr.refl (ks := []) F W).app (c := .lst [.str x]) rfl
  have ub := up_len x
  have bb := but_asc hx
  have hs' : x.cps.size ≤ b := hs
  have itx : ∀ y ∈ ([.str (x ++ Str.ofString "a"), .str (Txt.slice x none (some (-1))), .str (Txt.upper x), .str (x ++ Str.ofString " "), .cell C.length, .str (x ++ Str.ofString "abcdefgh")] : List D), It (C ++ [.lst [.str x]]) (n + 3) (s + 1) (3 * b + 60) y := by
    intro y hy
    have A : ∀ {t : Str}, t.cps.all (· < 128) = true → t.cps.size ≤ 8 → It (C ++ [.lst [.str x]]) (n + 3) (s + 1) (3 * b + 60) (.str (x ++ t)) := fun {t} h1 h2 => by
      have := app_asc hx h1
      exact it_str this.1 (by omega)
    simp only [List.mem_cons, List.not_mem_nil, or_false] at hy
    rcases hy with rfl | rfl | rfl | rfl | rfl | rfl
    · exact A a1.1 (by omega)
    · exact it_str bb.1 (by omega)
    · exact it_str (up_asc hx) (by omega)
    · exact A a2.1 (by omega)
    · exact (It.cell last_get (by omega) (Its.one (i.up (LeM.app hC) (show n + 1 ≤ n + 2 by omega) (show s ≤ s + 1 by omega) (Nat.le_refl b)))).up LeM.refl (Nat.le_refl _) (Nat.le_refl _) (by omega)
    · exact A a3.1 (by omega)
  refine pick_ok' hC F f1 e ((its_of itx).up LeM.refl (Nat.le_refl _) (Nat.le_refl _) ?_) itx rfl r0 (by simpa using r1) k
  simp only [List.length_cons, List.length_nil]
  omega
abbrev LI : MA := (mCons (mBin addD (mVar 1) (mC (.int 1))) (mCons (mBin subD (mVar 1) (mC (.int 1))) (mCons (mBin dEq (mVar 1) (mC (.int 1))) (mCons (mCallB strC (mCons (mVar 1) mNil)) (mCons (mBin subD (mC (.int 0)) (mVar 1)) (mCons (mLst (mCons (mVar 1) mNil)) mNil))))))
theorem log_small {n : Nat} (h : n ≤ 50) : n.log2 < 1920 := Nat.lt_of_le_of_lt (Nat.log2_le_self n) (by omega)
theorem li_int {C : Hm} {n s b : Nat} {j : Int} {r : Int} {x2 x4 : Option D} (hC : 29 ≤ C.length) (F : Fd C) (W : WH C) (hj : j.natAbs ≤ 20 + s) (hs : s ≤ 10) (hb : b ≤ 100000) (r0 : 0 ≤ r) (r1 : r < 6) {Q : Out → Prop} (k : ∀ d' C', Fr C C' [] → It C' (n + 3) (s + 1) (3 * b + 60) d' → Q (.rt d' C')) : wpo (mRet (mBin ixD (mLst LI) (mVar 3)) [some (.cell 2), some (.int j), x2, some (.int r), x4] C) Q := by
  have z := szL
  have e : LI [some (.cell 2), some (.int j), x2, some (.int r), x4] C = some ([.int (j + 1), .int (j - 1), .bl (j == 1), .str (Str.ofString (toString j)), .int (0 - j), .cell C.length], C ++ [.lst [.int j]]) := by
    refine consE ((bin_eq (var_at rfl) mC_at).trans rfl) (consE ((bin_eq (var_at rfl) mC_at).trans rfl) (consE ((bin_eq (var_at rfl) mC_at).trans eq_int) (consE ((callB_eq (cons1 (var_at rfl))).trans ?_) (consE ((bin_eq mC_at (var_at rfl)).trans rfl) (consE (lstE (cons1 (var_at rfl)) (by simp [z])) nilE)))))
    unfold strC
    simp only
    rw [if_pos (log_small (by omega))]
  have f1 := (Fr.refl (ks := []) F W).app (c := .lst [.int j]) rfl
  have tl := ts_len (i := j) (by omega)
  have itx : ∀ y ∈ ([.int (j + 1), .int (j - 1), .bl (j == 1), .str (Str.ofString (toString j)), .int (0 - j), .cell C.length] : List D), It (C ++ [.lst [.int j]]) (n + 3) (s + 1) (3 * b + 60) y := by
    intro y hy
    simp only [List.mem_cons, List.not_mem_nil, or_false] at hy
    rcases hy with rfl | rfl | rfl | rfl | rfl | rfl
    · exact it_int (by omega)
    · exact it_int (by omega)
    · exact it_bl
    · exact it_str (ts_ok (by omega)) (by omega)
    · exact it_int (by omega)
    · exact (It.cell last_get (by omega) (Its.one (it_int (n := n + 1) (b := 0) (show j.natAbs ≤ 20 + (s + 1) by omega)))).up LeM.refl (by omega) (Nat.le_refl _) (by omega)
  refine pick_ok' hC F f1 e ((its_of itx).up LeM.refl (Nat.le_refl _) (Nat.le_refl _) ?_) itx rfl r0 (by simpa using r1) k
  simp only [List.length_cons, List.length_nil]
  omega
theorem eq_bl_int {C : Hm} {q : Bool} {i : Int} : ∃ b, dEq (.bl q) (.int i) C = some (.bl b, C) := by
  refine ⟨PyData.eqv (.bool q) (.int i), ?_⟩
  show cmpD (fun p q => PyData.eqv p q) (.bl q) (.int i) C = _
  unfold cmpD
  simp [py, SeqAt.shaped, PyData.canLay0, PyData.depth]
theorem li_bl {C : Hm} {n s b : Nat} {j : Bool} {r : Int} {x2 x4 : Option D} (hC : 29 ≤ C.length) (F : Fd C) (W : WH C) (hb : b ≤ 100000) (r0 : 0 ≤ r) (r1 : r < 6) {Q : Out → Prop} (k : ∀ d' C', Fr C C' [] → It C' (n + 3) (s + 1) (3 * b + 60) d' → Q (.rt d' C')) : wpo (mRet (mBin ixD (mLst LI) (mVar 3)) [some (.cell 2), some (.bl j), x2, some (.int r), x4] C) Q := by
  have z := szL
  obtain ⟨q, eq⟩ := eq_bl_int (C := C) (q := j) (i := 1)
  have e : LI [some (.cell 2), some (.bl j), x2, some (.int r), x4] C = some ([.int (b2z j + 1), .int (b2z j - 1), .bl q, .str (if j then "True" else "False"), .int (0 - b2z j), .cell C.length], C ++ [.lst [.bl j]]) := by
    refine consE ((bin_eq (var_at rfl) mC_at).trans rfl) (consE ((bin_eq (var_at rfl) mC_at).trans rfl) (consE ((bin_eq (var_at rfl) mC_at).trans eq) (consE ((callB_eq (cons1 (var_at rfl))).trans rfl) (consE ((bin_eq mC_at (var_at rfl)).trans rfl) (consE (lstE (cons1 (var_at rfl)) (by simp [z])) nilE)))))
  have f1 := (Fr.refl (ks := []) F W).app (c := .lst [.bl j]) rfl
  have hz : b2z j = 0 ∨ b2z j = 1 := by cases j <;> simp [b2z]
  have t : ∀ q : Bool, (if q = true then Str.ofString "True" else Str.ofString "False").cps.all (· < 128) = true ∧ (if q = true then Str.ofString "True" else Str.ofString "False").cps.size ≤ 5 := by decide +kernel
  have itx : ∀ y ∈ ([.int (b2z j + 1), .int (b2z j - 1), .bl q, .str (if j then "True" else "False"), .int (0 - b2z j), .cell C.length] : List D), It (C ++ [.lst [.bl j]]) (n + 3) (s + 1) (3 * b + 60) y := by
    intro y hy
    simp only [List.mem_cons, List.not_mem_nil, or_false] at hy
    rcases hy with rfl | rfl | rfl | rfl | rfl | rfl
    · exact it_int (by omega)
    · exact it_int (by omega)
    · exact it_bl
    · cases j
      · exact it_str (t false).1 (by have := (t false).2; omega)
      · exact it_str (t true).1 (by have := (t true).2; omega)
    · exact it_int (by omega)
    · exact (It.cell last_get (by omega) (Its.one (it_bl (n := n + 1) (b := 0)))).up LeM.refl (by omega) (Nat.le_refl _) (by omega)
  refine pick_ok' hC F f1 e ((its_of itx).up LeM.refl (Nat.le_refl _) (Nat.le_refl _) ?_) itx rfl r0 (by simpa using r1) k
  simp only [List.length_cons, List.length_nil]
  omega
/-! ## any value changed -/
abbrev REST : MS := (mSeq (mAsg (DR 9) (gN 3))
    (mSeq (mIfS (tAndM (mTru (mCallB isiD (mCons (mVar 1) (mCons (mC (.ty .tup)) mNil)))) (mTest (mBin dLt (mVar 3) (mC (.int 7))))) WT mNext)
    (mSeq (mIfS (tAndM (mTru (mCallB isiD (mCons (mVar 1) (mCons (mC (.ty .str)) mNil)))) (mTest (mBin dLt (mVar 3) (mC (.int 6))))) (mRet (mBin ixD (mLst LS) (mVar 3))) mNext)
    (mSeq (mIfS (tAndM (mTru (mCallB isiD (mCons (mVar 1) (mCons (mC (.ty .int)) mNil)))) (mTest (mBin dLt (mVar 3) (mC (.int 6))))) (mRet (mBin ixD (mLst LI) (mVar 3))) mNext)
    (mRet (mCall M_law_odd (mCons (mVar 0) mNil)))))))
theorem way_lt {E : Ev} {C : Hm} {r k : Int} {t : MT} {b : Bool} (h : t E C = some (b, C)) (hi : E[3]? = some (some (.int r))) : tAndM t (mTest (mBin dLt (mVar 3) (mC (.int k)))) E C = some (b && decide (r < k), C) := by
  have e : mTest (mBin dLt (mVar 3) (mC (.int k))) E C = some (decide (r < k), C) := tst_bl ((bin_eq (var_at hi) mC_at).trans rfl)
  cases b with
  | true => rw [and_t h, e]; rfl
  | false => rw [and_f h]; rfl
theorem seq_ret {m n : MS} {E : Ev} {C : Hm} {Q : Out → Prop} (h : wpo (m E C) fun o => ∃ d C', o = .rt d C' ∧ Q o) : wpo (mSeq m n E C) Q := by
  obtain ⟨_, e, d, C', rfl, q⟩ := h
  exact ⟨_, seq_rt e, q⟩
theorem rest_ok {C : Hm} {n s b : Nat} {d : D} (hC : 29 ≤ C.length) (F : Fd C) (W : WH C) (i : It C (n + 1) s b d) (hs : s ≤ 10) (hb : b ≤ 100000) {Q : Out → Prop} (k : ∀ d' C', Fr C C' [] → It C' (n + 3) (s + 1) (3 * b + 60) d' → Q (.rt d' C')) : wpo (REST [some (.cell 2), some d, none, none, none] C) Q := by
  have z := szL
  refine wSeq (wAsg (wDR rfl F W (by omega) (by omega) fun r C1 r0 r1 U => ?_))
  have f1 := (Fr.refl (ks := []) F W).upd U
  have i1 := i.up (f1.leM F) (Nat.le_refl _) (Nat.le_refl _) (Nat.le_refl _)
  have g1 := i1.gs (by omega)
  have hC1 : 29 ≤ C1.length := Nat.le_trans hC f1.len
  show wpo (mSeq _ _ [some (.cell 2), some d, none, some (.int r), none] C1) Q
  have k1 : ∀ d' C', Fr C1 C' [] → It C' (n + 3) (s + 1) (3 * b + 60) d' → Q (.rt d' C') := fun d' C' f' i' => k d' C' (f1.trans f') i'
  have t1 := way_lt (k := 7) (tru_bl (isiV (i := 1) (E := [some (.cell 2), some d, none, some (.int r), none]) (t := .tup) g1 rfl rfl)) rfl
  have t2 := way_lt (k := 6) (tru_bl (isiV (i := 1) (E := [some (.cell 2), some d, none, some (.int r), none]) (t := .str) g1 rfl rfl)) rfl
  have t3 := way_lt (k := 6) (tru_bl (isiV (i := 1) (E := [some (.cell 2), some d, none, some (.int r), none]) (t := .int) g1 rfl rfl)) rfl
  -- the last way
  have last : wpo (mRet (mCall M_law_odd (mCons (mVar 0) mNil)) [some (.cell 2), some d, none, some (.int r), none] C1) Q := by
    refine wRet (wCall (wCons (wVar rfl (wNil (wpo_mono (odd_ok hC1 U.fd U.wh) ?_)))))
    rintro ⟨d', C2⟩ ⟨_, rfl, f2, i2⟩
    exact k1 d' C2 f2 (i2.up LeM.refl (by omega) (by omega) (by omega))
  cases q1 : (isiK (kyN d) .tup && decide (r < 7)) with
  | true =>
    rw [q1] at t1
    simp only [Bool.and_eq_true, decide_eq_true_eq] at q1
    obtain ⟨ds, rfl⟩ := isiK_tup.mp q1.1
    refine seq_ret ?_
    rw [ifs_t t1]
    exact wt_ok hC1 U.fd U.wh (It.tup.mp i1) hb r0 q1.2 fun d' C' f' i' => ⟨d', C', rfl, k1 d' C' f' i'⟩
  | false =>
    rw [q1] at t1
    rw [seq_nx ((ifs_f t1).trans rfl)]
    cases q2 : (isiK (kyN d) .str && decide (r < 6)) with
    | true =>
      rw [q2] at t2
      simp only [Bool.and_eq_true, decide_eq_true_eq] at q2
      obtain ⟨x, rfl⟩ : ∃ x, d = .str x := by cases d <;> simp [kyN, isiK] at q2 ⊢
      refine seq_ret ?_
      rw [ifs_t t2]
      exact ls_ok hC1 U.fd U.wh i1 hb r0 q2.2 fun d' C' f' i' => ⟨d', C', rfl, k1 d' C' f' i'⟩
    | false =>
      rw [q2] at t2
      rw [seq_nx ((ifs_f t2).trans rfl)]
      cases q3 : (isiK (kyN d) .int && decide (r < 6)) with
      | true =>
        rw [q3] at t3
        simp only [Bool.and_eq_true, decide_eq_true_eq] at q3
        refine seq_ret ?_
        rw [ifs_t t3]
        cases d with
        | int j =>
          have hj : j.natAbs ≤ 20 + s := by
            obtain ⟨p, e, l, _⟩ := i1
            cases e
            simpa [lf] using l
          exact li_int hC1 U.fd U.wh hj hs hb r0 q3.2 fun d' C' f' i' => ⟨d', C', rfl, k1 d' C' f' i'⟩
        | bl j => exact li_bl hC1 U.fd U.wh hb r0 q3.2 fun d' C' f' i' => ⟨d', C', rfl, k1 d' C' f' i'⟩
        | _ => simp [kyN, isiK] at q3
      | false =>
        rw [q3] at t3
        rw [seq_nx ((ifs_f t3).trans rfl)]
        exact last
theorem bent_ok : ∀ (lv n s b : Nat) (d : D) (C : Hm), 29 ≤ C.length → n ≤ lv → n ≤ 40 → b ≤ 100000 → s ≤ 10 → Fd C → WH C → It C n s b d → wpo (M_law_bent lv [.cell 2, d] C) fun r => Fr C r.2 [] ∧ It r.2 (n + 2) (s + 1) (3 * b + 60) r.1
  | _, 0, _, _, _, _, _, _, _, _, _, _, _, i => by obtain ⟨p, e, _⟩ := i; cases e
  | 0, n + 1, _, _, _, _, _, h, _, _, _, _, _, _ => by omega
  | lv + 1, n + 1, s, b, d, C, hC, h, hn, hb, hs, F, W, i => by
    have z := szL
    refine wFn rfl (show wpo (B_law_bent (fun _ => M_law_bent lv) lv [some (.cell 2), some d, none, none, none] C) _ from ?_)
    refine wSeq (wIfS (t1_ok F W rfl rfl i (by omega) hb fun t C1 f1 ht => ?_))
    have i1 := i.up (f1.leM F) (Nat.le_refl _) (Nat.le_refl _) (Nat.le_refl _)
    split
    · rename_i hh
      obtain ⟨ds, rfl, hne⟩ := ht hh
      have its := It.tup.mp i1
      have hl := Its.len (b := b) its
      have hpos : 0 < ds.length := List.length_pos_iff.mpr hne
      have e0 : mCons (mVar 0) (mCons (mCallB lenD (mCons (mVar 1) mNil)) mNil) [some (.cell 2), some (.tup ds), none, none, none] C1 = some ([.cell 2, .int ds.length], C1) := rfl
      refine wSeq (wAsg (wdraw (n := (ds.length : Int)) e0 f1.fd f1.wh (by omega) (by omega) fun r C2 r0 r1 U => ?_))
      show wpo (mRet _ [some (.cell 2), some (.tup ds), some (.int r), none, none] C2) _
      have f2 := f1.upd U
      have its2 := its.up (U.leM f1.fd) (Nat.le_refl _) (Nat.le_refl _) (Nat.le_refl _)
      obtain ⟨k, rfl⟩ : ∃ k : Nat, r = (k : Int) := ⟨r.toNat, by omega⟩
      have hk : k < ds.length := by omega
      have eds : ds = ds.take k ++ (ds[k] :: ds.drop (k + 1)) := by rw [← List.drop_eq_getElem_cons hk, List.take_append_drop]
      have its3 := its2
      rw [eds] at its3
      obtain ⟨b1, b23, t1, t23, hb1⟩ := Its.app.mp its3
      obtain ⟨bx, b2, tx, t2, hb2⟩ := Its.cons.mp t23
      have ax : mBin ixD (mVar 1) (mVar 2) [some (.cell 2), some (.tup ds), some (.int (k : Int)), none, none] C2 = some (ds[k], C2) := by
        rw [bin_eq (var_at rfl) (var_at rfl)]
        unfold ixD
        simp only
        have : atI ds (k : Int) = some ds[k] := by
          unfold atI ixN
          rw [if_pos (by omega), if_pos (by omega)]
          simp [hk]
        rw [this]
        rfl
      have l1 := Its.len (b := b) t1
      have l2 := Its.len (b := b) t2
      refine wRet (wBin (wBin (wpo_eq (sl_hi rfl (var_at rfl)) (wTup (wCons (wCall (wCons (wVar rfl (wCons (wpo_eq ax (wNil (wpo_mono (bent_ok lv n s bx ds[k] C2 (Nat.le_trans hC f2.len) (by omega) (by omega) (by omega) hs f2.fd f2.wh tx) ?_))))))))))))
      rintro ⟨d', C3⟩ ⟨f3, i3⟩
      have f23 := f2.trans f3
      have up3 : LeM C2 C3 := f3.leM f2.fd
      refine wNil ⟨by simp [z], ?_⟩
      rw [lo_take]
      refine wpo_eq (add_tt (by simp; omega)) (wpo_eq (sl_lo rfl (show mBin addD (mVar 2) (mC (.int 1)) _ C3 = some (.int (((k + 1 : Nat) : Int)), C3) from by rw [bin_eq (var_at rfl) mC_at]; rfl)) ?_)
      rw [hi_drop]
      refine wpo_eq (add_tt (by simp; omega)) ⟨_, _, rfl, f23, It.tup.mpr ?_⟩
      refine Its.app.mpr ⟨b1 + (3 * bx + 60 + 1), b2, Its.app.mpr ⟨b1, _, t1.up up3 (by omega) (by omega) (Nat.le_refl _), Its.one i3, Nat.le_refl _⟩, t2.up up3 (by omega) (by omega) (Nat.le_refl _), by omega⟩
    · refine wpo_eq rfl ?_
      refine rest_ok (Nat.le_trans hC f1.len) f1.fd f1.wh i1 hs hb fun d' C' f' i' => ⟨d', C', rfl, f1.trans f', i'⟩
end G
set_option Elab.async false
set_option linter.all false
set_option maxRecDepth 100000
set_option maxHeartbeats 4000000
namespace G
open PySem L2 Mi
/-! ## values by hand -/
def lstC : Option Cell → List D
  | some (.lst L) => L
  | _ => []
def H0 : Hm := match M_law_values [] [.dic [], .dic [], .dic []] with | some (_, H) => H | none => []
theorem values_run (x0 x1 x2 : Cell) : M_law_values [] [x0, x1, x2] = some (.cell 3, x0 :: x1 :: x2 :: H0.drop 3) := by cbv
def L0 : List D := lstC (H0[3]?)
theorem h0_len : H0.length = 28 := by decide +kernel
theorem h0_3 : (match (H0.drop 3)[0]? with | some (.lst _) => true | _ => false) = true := by decide +kernel
theorem h0_get : (H0.drop 3)[0]? = some (.lst L0) := by
  have e : (H0.drop 3)[0]? = H0[3]? := by rw [List.getElem?_drop]
  have h := h0_3
  unfold L0
  rw [e] at h ⊢
  cases q : H0[3]? with
  | none => rw [q] at h; cases h
  | some c =>
    cases c with
    | lst L => rfl
    | dic k => rw [q] at h; cases h
theorem h0_bnd : (H0.drop 3).all (·.bnd 28) = true := by decide +kernel
def chkS (H : Hm) (ds : List D) : Bool := match ds.mapM (py H 20) with
  | some ps => PyData.canLayAll0 ps && PyData.showableAll ps && PyData.leavesShortAll 64 ps && decide (PyData.bulkAll ps ≤ 20000)
  | none => false
theorem chk0 : chkS H0 (pickL L0 (some 0) none (some 3)) = true := by decide +kernel
theorem chk1 : chkS H0 (pickL L0 (some 1) none (some 3)) = true := by decide +kernel
theorem chk2 : chkS H0 (pickL L0 (some 2) none (some 3)) = true := by decide +kernel
theorem h0_dic : H0[0]? = some (.dic []) ∧ H0[1]? = some (.dic []) ∧ H0[2]? = some (.dic []) := by
  have e : H0 = .dic [] :: .dic [] :: .dic [] :: H0.drop 3 := by
    conv => lhs; unfold H0
    rw [values_run]
  rw [e]
  exact ⟨rfl, rfl, rfl⟩
/-- items that can be shown -/
def Ivs (C : Hm) (b : Nat) (ds : List D) : Prop := ∃ ps, ds.mapM (py (msk C) 20) = some ps ∧ PyData.canLayAll0 ps = true ∧ PyData.showableAll ps = true ∧ PyData.leavesShortAll 64 ps = true ∧ PyData.bulkAll ps ≤ b
theorem Ivs.up {C C' : Hm} {b c : Nat} {ds : List D} (h : Ivs C b ds) (L : LeM C C') (hb : b ≤ c) : Ivs C' c ds := let ⟨p, e, l1, l2, l3, k⟩ := h; ⟨p, mapM_imp (fun _ _ e => py_up L (Nat.le_refl _) e) e, l1, l2, l3, Nat.le_trans k hb⟩
theorem lf_int {i : Int} (h : i.natAbs ≤ 50) : PyData.showable (.int i) = true ∧ PyData.leavesShort 64 (.int i) = true := by
  have e := PyProof.Rows.len_str_of_int i
  refine ⟨?_, ?_⟩
  · simp only [PyData.showable]; exact decide_eq_true (log_small h)
  · simp only [PyData.leavesShort]
    refine decide_eq_true ?_
    have e2 : (PyData.shown (.int i)).length = (Str.ofString (toString i)).length := by simp only [PyData.shown]
    omega
mutual
theorem lf_show {s : Nat} (hs : s ≤ 10) : ∀ p : PyData, lf s p = true → p.showable = true ∧ p.leavesShort 64 = true
  | .none, _ => by simp [PyData.showable, PyData.leavesShort]
  | .bool b, _ => by simp [PyData.showable, PyData.leavesShort]
  | .int i, e => lf_int (by simp [lf] at e; omega)
  | .str x, e => by
    simp only [lf] at e
    refine ⟨by simp [PyData.showable], ?_⟩
    simp only [PyData.leavesShort, List.all_eq_true]
    intro c hc
    have := asc_iff.mp e c hc
    exact decide_eq_true (by omega)
  | .list xs, e => by simp only [lf] at e; simp only [PyData.showable, PyData.leavesShort]; exact lfAll_show hs xs e
  | .tuple xs, e => by simp only [lf] at e; simp only [PyData.showable, PyData.leavesShort]; exact lfAll_show hs xs e
  | .dict _, e => by simp [lf] at e
theorem lfAll_show {s : Nat} (hs : s ≤ 10) : ∀ ps : List PyData, lfAll s ps = true → PyData.showableAll ps = true ∧ PyData.leavesShortAll 64 ps = true
  | [], _ => by simp [PyData.showableAll, PyData.leavesShortAll]
  | p :: ps, e => by
    simp only [lfAll, Bool.and_eq_true] at e
    have h1 := lf_show hs p e.1
    have h2 := lfAll_show hs ps e.2
    simp [PyData.showableAll, PyData.leavesShortAll, h1.1, h1.2, h2.1, h2.2]
end
theorem Ivs.of {C : Hm} {s b : Nat} {ds : List D} (hs : s ≤ 10) (h : Its C 20 s b ds) : Ivs C b ds := let ⟨ps, e, l, k⟩ := h; ⟨ps, e, lfAll_lay ps l, (lfAll_show hs ps l).1, (lfAll_show hs ps l).2, k⟩
theorem layA {ps qs : List PyData} : PyData.canLayAll0 (ps ++ qs) = (PyData.canLayAll0 ps && PyData.canLayAll0 qs) := by
  induction ps with
  | nil => simp [PyData.canLayAll0]
  | cons p ps ih => simp [PyData.canLayAll0, ih, Bool.and_assoc]
theorem showA {ps qs : List PyData} : PyData.showableAll (ps ++ qs) = (PyData.showableAll ps && PyData.showableAll qs) := by
  induction ps with
  | nil => simp [PyData.showableAll]
  | cons p ps ih => simp [PyData.showableAll, ih, Bool.and_assoc]
theorem shortA {ps qs : List PyData} : PyData.leavesShortAll 64 (ps ++ qs) = (PyData.leavesShortAll 64 ps && PyData.leavesShortAll 64 qs) := by
  induction ps with
  | nil => simp [PyData.leavesShortAll]
  | cons p ps ih => simp [PyData.leavesShortAll, ih, Bool.and_assoc]
theorem bulkA {ps qs : List PyData} : PyData.bulkAll (ps ++ qs) = PyData.bulkAll ps + PyData.bulkAll qs := by
  induction ps with
  | nil => simp [PyData.bulkAll]
  | cons p ps ih => simp [PyData.bulkAll, ih]; omega
theorem mapM_app' {α β : Type} {f : α → Option β} : ∀ {xs ys : List α} {us vs : List β}, xs.mapM f = some us → ys.mapM f = some vs → (xs ++ ys).mapM f = some (us ++ vs)
  | [], ys, us, vs, h1, h2 => by cases h1; exact h2
  | x :: xs, ys, us, vs, h1, h2 => by
    obtain ⟨b, bs, e1, e2, rfl⟩ := mapM_cons' h1
    rw [List.cons_append, List.mapM_cons, e1, mapM_app' e2 h2]
    rfl
theorem Ivs.app {C : Hm} {b c : Nat} {xs ys : List D} (h : Ivs C b xs) (k : Ivs C c ys) : Ivs C (b + c) (xs ++ ys) := by
  obtain ⟨ps, e1, a1, a2, a3, a4⟩ := h
  obtain ⟨qs, e2, b1, b2, b3, b4⟩ := k
  exact ⟨ps ++ qs, mapM_app' e1 e2, by rw [layA, a1, b1]; rfl, by rw [showA, a2, b2]; rfl, by rw [shortA, a3, b3]; rfl, by rw [bulkA]; omega⟩
theorem Ivs.bnd {C : Hm} {b : Nat} {ds : List D} (h : Ivs C b ds) : bnds C.length ds = true := by
  obtain ⟨ps, e, h⟩ := h
  clear h
  rw [mapM_some_iff] at e
  induction e with
  | nil => rfl
  | cons e _ ih =>
    simp only [bnds, Bool.and_eq_true]
    have := py_bnd e
    rw [msk_len] at this
    exact ⟨this, ih⟩
theorem Ivs.gs {C : Hm} {b : Nat} {ds : List D} (h : Ivs C b ds) (hb : b ≤ sizeLine) : ds.length ≤ sizeLine ∧ ∀ x ∈ ds, Gs C 20 x := by
  obtain ⟨ps, e, l, _, _, k⟩ := h
  have := bulk_sub e l b k hb
  exact ⟨Nat.le_trans this.1 hb, fun x hx => (this.2 x hx).up msk_le (Nat.le_refl _)⟩
theorem Ivs.repr {C : Hm} {b : Nat} {ds : List D} (hc : C[28]? = some (.lst ds)) (h : Ivs C b ds) (hb : b ≤ 100000) : ∃ S, ∀ C', LeH C C' → reprD [.cell 28] C' = some (.str S, C') := by
  obtain ⟨ps, e, l1, l2, l3, k⟩ := h
  refine ⟨PyData.shown (.list ps), fun C' L => ?_⟩
  have e1 : py C 21 (.cell 28) = some (.list ps) := by
    unfold py
    simp only [hc]
    rw [mapM_imp (fun _ _ e => py_up msk_le (Nat.le_refl _) e) e]
    rfl
  have e2 : py C' 70 (.cell 28) = some (.list ps) := py_up L (by decide) e1
  have z := szL
  have dp := py_depth e1
  have h1 := PyData.shown_le_bulk 64 (by decide) (.list ps) (by simpa [PyData.leavesShort] using l3)
  simp only [PyData.bulk] at h1
  unfold reprD
  simp only [e2]
  have hm : (64 + 2) * PyData.bulkAll ps ≤ 66 * 100000 := Nat.mul_le_mul_left _ (by omega)
  rw [if_pos ⟨by simpa [PyData.showable] using l2, by omega, by omega⟩]
/-! ## the beginning of the law -/
theorem feed_ok {ns : List Int} (hl : ns.length ≤ 63) : M_law_feed [.rol ns] [] = some (.cell 2, feedH (.lst (ns.map D.int)) ns 0 0 0 []) := by
  refine fn_ret rfl (show B_law_feed [some (.rol ns)] [] = _ from ret_eq ?_)
  have e1 : mSl slD (mVar 0) oNone (oSome (mC (.int 63))) [some (.rol ns)] [] = some (.cell 0, [.lst (ns.map D.int)]) := by
    have : cutD (ns.map D.int) none (some (63 : Int)) = ns.map D.int := by
      have := lo_take (ds := ns.map D.int) (k := 63)
      rw [show ((63 : Nat) : Int) = 63 from rfl] at this
      rw [this, List.take_of_length_le (by rw [List.length_map]; exact hl)]
    unfold mSl oNone oSome
    rw [var_at (d := .rol ns) rfl]
    simp only [Option.bind_some, mC]
    unfold slD
    simp only
    rw [this]
    rfl
  have e2 : mCallB listD (mCons (mSl slD (mVar 0) oNone (oSome (mC (.int 63)))) mNil) [some (.rol ns)] [] = some (.cell 1, [.lst (ns.map D.int), .lst (ns.map D.int)]) := by
    rw [callB_eq (cons1 e1)]
    rfl
  unfold mDisp
  rw [consE e2 (consE mC_at (consE mC_at (consE mC_at nilE)))]
  rfl
theorem pick_mem {α : Type} {xs : List α} {lo hi st : Option Int} {x : α} (h : x ∈ pickL xs lo hi st) : x ∈ xs := by
  unfold pickL at h
  obtain ⟨i, _, hi⟩ := List.mem_filterMap.mp h
  exact List.mem_of_getElem? hi
end G
set_option Elab.async false
set_option linter.all false
set_option maxRecDepth 100000
set_option maxHeartbeats 4000000
namespace G
open PySem L2 Mi
theorem wkeep {m : ME} {E : Ev} {C : Hm} {Q : D × Hm → Prop} (F : Fd C) (W : WH C) (h : wpo (m E C) fun r => Fr C r.2 [] ∧ r.1.bnd C.length = true ∧ ∀ A, Upd C A → Q (r.1, A)) : wpo (mKeep m E C) Q := by
  obtain ⟨⟨d, C'⟩, e, f, hb, k⟩ := h
  obtain ⟨A, g, rfl, U⟩ := f.toUpd F W
  exact ⟨_, keep_eq e U.len U.wh hb, k A U⟩
/-- data without cells: the same at every heap -/
def Pu (d : D) : Prop := ∀ C, It C 6 0 60 d
theorem pu_bnd {d : D} (h : Pu d) {n : Nat} : d.bnd n = true := by
  have := (h []).bnd
  exact bnd_up (Nat.zero_le _) this
theorem its_ints {C : Hm} {n m : Nat} (hm : m ≤ 20) : ∀ {is : List Int}, intsIn m is → Its C (n + 1) 0 is.length (is.map D.int)
  | [], _ => Its.nil
  | i :: is, h => Its.cons.mpr ⟨0, is.length, it_int (by have := h i (by simp); omega), its_ints hm fun j hj => h j (by simp [hj]), by simp; omega⟩
theorem it_row {C : Hm} {n m k : Nat} {is : List Int} (hm : m ≤ 20) (h : intsIn m is) (hl : is.length ≤ k) : It C (n + 2) 0 k (.tup (is.map D.int)) := It.tup.mpr ((its_ints hm h).up LeM.refl (Nat.le_refl _) (Nat.le_refl _) hl)
theorem s3_asc {s : Str} (h : S3 s) : s.cps.all (· < 128) = true ∧ s.cps.size ≤ 5 := by rcases h with rfl | rfl | rfl <;> decide +kernel
theorem LT.it {C : Hm} {n : Nat} {goal : D} (h : LT goal) : It C (n + 2) 0 7 goal := by
  rcases h with ⟨i, rfl, h0, h1⟩ | ⟨s, i, rfl, hs, h0, h1⟩
  · exact it_int (by omega)
  · have a := s3_asc hs
    exact It.tup.mpr (Its.cons.mpr ⟨5, 1, it_str a.1 a.2, Its.one (it_int (by omega)), by omega⟩)
theorem LB.it {C : Hm} {n : Nat} {d : D} (h : LB d) : It C (n + 3) 0 12 d := by
  obtain ⟨goal, ks, rfl, hg, hk, hl⟩ := h
  exact It.tup.mpr (Its.cons.mpr ⟨7, 4, hg.it, Its.one (it_row (by decide) hk hl), by omega⟩)
theorem lot_it {C : Hm} {n : Nat} {ds : List D} (h : ∀ d ∈ ds, LB d) (hl : ds.length = 3) : It C (n + 4) 0 39 (.tup ds) := by
  have := its_of (C := C) (n := n + 3) (s := 0) (b := 12) (xs := ds) fun x hx => (h x hx).it
  rw [hl] at this
  exact It.tup.mpr this
/-- the state of the law between its steps -/
structure Stt (C : Hm) (b : Nat) (items : List D) : Prop where
  fd : Fd C
  wh : WH C
  len : 29 ≤ C.length
  get : C[28]? = some (.lst items)
  iv : Ivs C b items
theorem Stt.fr {C C' : Hm} {b : Nat} {items : List D} (h : Stt C b items) (f : Fr C C' []) : Stt C' b items :=
  ⟨f.fd, f.wh, Nat.le_trans h.len f.len, f.get h.fd h.get (by simp), h.iv.up (f.leM h.fd) (Nat.le_refl _)⟩
structure LW (E : Ev) : Prop where
  len : E.length = 10
  h1 : E[1]? = some (some (.cell 2))
  h2 : E[2]? = some (some (.cell 28))
theorem LW.set {E : Ev} {i : Nat} {x : D} (h : LW E) (hi : 3 ≤ i) : LW (E.set i (some x)) :=
  ⟨by rw [List.length_set]; exact h.len, set_var h.h1 (by omega), set_var h.h2 (by omega)⟩
theorem LW.at {E : Ev} {i : Nat} {x : D} (h : LW E) (hi : i < 10) : (E.set i (some x))[i]? = some (some x) := List.getElem?_set_self (by rw [h.len]; exact hi)
abbrev STEP : MS := (mSeq (mAsg (mCall (M_law_bent 12) (mCons (mVar 1) (mCons (mVar 6) mNil))) (gN 7))
    (mDrop (mMeth "list" extendD (mVar 2) (mCons (mLst (mCons (mVar 6) (mCons (mVar 7) (mCons (mCall (M_law_bent 12) (mCons (mVar 1) (mCons (mVar 7) mNil))) mNil)))) mNil))))
theorem step_ok {E : Ev} {C : Hm} {b : Nat} {items : List D} {x : D} (L : LW E) (S : Stt C b items) (hb : b ≤ 100000) (h6 : E[6]? = some (some x)) (px : Pu x) {Q : Out → Prop} (k : ∀ E' C' items', LW E' → (∀ i, i ≠ 7 → E'[i]? = E[i]?) → Stt C' (b + 1083) items' → Fr C C' [28] → Q (.nx E' C')) : wpo (STEP E C) Q := by
  have z := szL
  refine wSeq (wAsg (wCall (wCons (wVar L.h1 (wCons (wVar h6 (wNil (wpo_mono (bent_ok 12 6 0 60 x C S.len (by omega) (by omega) (by omega) (by omega) S.fd S.wh (px C)) ?_))))))))
  rintro ⟨d1, C1⟩ ⟨f1, i1⟩
  have S1 := S.fr f1
  have L1 := L.set (i := 7) (x := d1) (by decide)
  refine wDrop (wMeth (var_at L1.h2) (tyD_lst S1.get) (wCons (wLst (wCons (wVar (set_var h6 (by decide)) (wCons (wVar (L.at (by decide)) (wCons (wCall (wCons (wVar L1.h1 (wCons (wVar (L.at (by decide)) (wNil (wpo_mono (bent_ok 12 8 1 240 d1 C1 S1.len (by omega) (by omega) (by omega) (by omega) S1.fd S1.wh i1) ?_)))))))))))))))
  rintro ⟨d2, C2⟩ ⟨f2, i2⟩
  have S2 := S1.fr f2
  have its : Its C2 20 2 1083 [x, d1, d2] := Its.cons.mpr ⟨60, 1022, (px C2).up LeM.refl (by omega) (by omega) (Nat.le_refl _), Its.cons.mpr ⟨240, 781, i1.up (f2.leM S1.fd) (by omega) (by omega) (Nat.le_refl _), Its.one (i2.up LeM.refl (by omega) (by omega) (by omega)), by omega⟩, by omega⟩
  refine wNil ⟨by simp [z], wNil ?_⟩
  have f3 := (Fr.refl (ks := []) S2.fd S2.wh).app (c := .lst [x, d1, d2]) (Cell.bnd_up (Nat.le_succ _) (show (Cell.lst [x, d1, d2]).bnd C2.length = true from its.bnd))
  have S3 := S2.fr f3
  have its3 := its.up (LeM.app S2.len (g := [.lst [x, d1, d2]])) (Nat.le_refl _) (Nat.le_refl _) (Nat.le_refl _)
  have iv3 : Ivs (C2 ++ [.lst [x, d1, d2]]) (b + 1083) (items ++ [x, d1, d2]) := S3.iv.app (Ivs.of (by omega) its3)
  have hl := (S3.iv.gs (by omega)).1
  have hl2 : items.length ≤ b := by
    obtain ⟨ps, e, l, _, _, kb⟩ := S3.iv
    exact (bulk_sub e l b kb (by omega)).1
  have e1 : extendD (.cell 28) [.cell C2.length] (C2 ++ [Cell.lst [x, d1, d2]]) = some (.non, (C2 ++ [Cell.lst [x, d1, d2]]).set 28 (.lst (items ++ [x, d1, d2]))) := by
    unfold extendD
    simp only
    rw [S3.get, last_get]
    simp only
    rw [if_pos (by simp; omega)]
  have l3 : 29 ≤ (C2 ++ [Cell.lst [x, d1, d2]]).length := S3.len
  have fr : Fr C ((C2 ++ [Cell.lst [x, d1, d2]]).set 28 (.lst (items ++ [x, d1, d2]))) [28] := ((f1.trans f2).trans f3).wk.set (k := 28) (c := .lst (items ++ [x, d1, d2])) (by omega) (fun _ => by simp) iv3.bnd
  refine wpo_eq e1 (k _ _ (items ++ [x, d1, d2]) L1 (fun i hi => by rw [List.getElem?_set_ne (by omega)]) ⟨fr.fd, fr.wh, by rw [List.length_set]; exact l3, List.getElem?_set_self (by omega), ?_⟩ fr)
  have : msk ((C2 ++ [Cell.lst [x, d1, d2]]).set 28 (.lst (items ++ [x, d1, d2]))) = msk (C2 ++ [Cell.lst [x, d1, d2]]) := by unfold msk; rw [List.set_set]
  unfold Ivs
  rw [this]
  exact iv3
end G
set_option Elab.async false
set_option linter.all false
set_option maxRecDepth 100000
set_option maxHeartbeats 4000000
namespace G
open PySem L2 Mi
theorem wkeepU {m : ME} {E : Ev} {C : Hm} {Q : D × Hm → Prop} (h : wpo (m E C) fun r => ∃ C' g, r.2 = C' ++ g ∧ Upd C C' ∧ r.1.bnd C.length = true ∧ Q (r.1, C')) : wpo (mKeep m E C) Q := by
  obtain ⟨⟨d, C1⟩, e, C', g, rfl, U, hb, q⟩ := h
  exact ⟨_, keep_eq e U.len U.wh hb, q⟩
abbrev GR (m k : Int) : ME := mKeep (mCall M_law_grip (mCons (mVar 1) (mCons (mC (.int m)) (mCons (mC (.int k)) mNil))))
theorem wgrip {m k : Nat} {E : Ev} {C : Hm} {Q : D × Hm → Prop} (h1 : E[1]? = some (some (.cell 2))) (F : Fd C) (W : WH C) (hk : k < m) (hm : m ≤ 20) (hk4 : k ≤ 4) (q : ∀ d C', Upd C C' → (∀ C n, It C (n + 2) 0 k d) → Q (d, C')) : wpo (GR m k E C) Q := by
  refine wkeepU (wCall (wCons (wVar h1 (wCons (wC (wCons (wC (wNil (wpo_mono (grip_ok F W hk (by omega)) ?_)))))))))
  rintro r ⟨is, C', g, rfl, hi, hl, U⟩
  exact ⟨C', g, rfl, U, bnds_ints _ _, q _ C' U fun C n => it_row hm hi hl⟩
abbrev ITEMS : ME := (mTup (mCons (mBin ixD (mVar 4) (mC (.int 0))) (mCons (mVar 4) (mCons (mVar 5) (mCons (mBin ixD (mVar 5) (mC (.int 0))) (mCons (GR 9 4) mNil))))))
abbrev SHELF : ME := (mTup (mCons (mTup (mCons (mTup (mCons (mC (.str (Str.ofString "ann"))) (mCons (GR 6 2) mNil))) (mCons (mTup (mCons (mC (.str (Str.ofString "bob"))) (mCons (GR 6 2) mNil))) mNil))) (mCons (mVar 4) mNil)))
abbrev ROUND : MS := (mSeq (mAsg (mKeep (mCall M_law_lot (mCons (mVar 1) (mCons (mC (.int 3)) (mCons (mC (.int 6)) mNil))))) (gN 4))
    (mSeq (mAsg SHELF (gN 5))
    (mFor (mIAny ITEMS) (gN 6) STEP)))
theorem Stt.upd {C C' : Hm} {b : Nat} {items : List D} (h : Stt C b items) (U : Upd C C') : Stt C' b items := h.fr ((Fr.refl h.fd h.wh).upd U)
theorem it_hand {C : Hm} {n : Nat} {s : Str} {d : D} (hs : s.cps.all (· < 128) = true) (hl : s.cps.size ≤ 3) (h : ∀ C n, It C (n + 2) 0 2 d) : It C (n + 3) 0 7 (.tup [.str s, d]) :=
  It.tup.mpr (Its.cons.mpr ⟨3, 3, it_str hs hl, Its.one (h C n), by omega⟩)
theorem round_ok {E : Ev} {C : Hm} {b : Nat} {items : List D} (L : LW E) (S : Stt C b items) (hb : b ≤ 50000) {Q : Out → Prop} (k : ∀ E' C' items', LW E' → Stt C' (b + 5415) items' → Q (.nx E' C')) : wpo (ROUND E C) Q := by
  have z := szL
  refine wSeq (wAsg (wkeep S.fd S.wh (wCall (wCons (wVar L.h1 (wCons (wC (wCons (wC (wNil (wpo_mono (lot_ok S.fd S.wh) ?_)))))))))))
  rintro r ⟨ds, C1', rfl, hl, hlb, f1⟩
  refine ⟨f1, bnds_iff.mpr fun d hd => (hlb d hd).bnd, fun C1 U1 => ?_⟩
  have L1 := L.set (i := 4) (x := .tup ds) (by decide)
  have S1 := S.upd U1
  have h4 : (E.set 4 (some (.tup ds)))[4]? = some (some (.tup ds)) := L.at (by decide)
  refine wSeq (wAsg (wTup (wCons (wTup (wCons (wTup (wCons (wC (wCons (wgrip (m := 6) (k := 2) L1.h1 S1.fd S1.wh (by omega) (by omega) (by omega) fun d1 C2 U2 it1 => wNil ⟨by simp [z], ?_⟩))))))))))
  have S2 := S1.upd U2
  refine wCons (wTup (wCons (wC (wCons (wgrip (m := 6) (k := 2) L1.h1 S2.fd S2.wh (by omega) (by omega) (by omega) fun d2 C3 U3 it2 => wNil ⟨by simp [z], wNil ⟨by simp [z], ?_⟩⟩)))))
  have S3 := S2.upd U3
  refine wCons (wVar h4 (wNil ⟨by simp [z], ?_⟩))
  have a1 : (Str.ofString "ann").cps.all (· < 128) = true ∧ (Str.ofString "ann").cps.size = 3 := by decide +kernel
  have a2 : (Str.ofString "bob").cps.all (· < 128) = true ∧ (Str.ofString "bob").cps.size = 3 := by decide +kernel
  have ih : ∀ C n, It C (n + 4) 0 16 (.tup [.tup [.str (Str.ofString "ann"), d1], .tup [.str (Str.ofString "bob"), d2]]) := fun C n =>
    It.tup.mpr (Its.cons.mpr ⟨7, 8, it_hand a1.1 (Nat.le_of_eq a1.2) it1, Its.one (it_hand a2.1 (Nat.le_of_eq a2.2) it2), by omega⟩)
  have il : ∀ C n, It C (n + 4) 0 39 (.tup ds) := fun C n => lot_it hlb hl
  have ish : ∀ C n, It C (n + 5) 0 57 (.tup [.tup [.tup [.str (Str.ofString "ann"), d1], .tup [.str (Str.ofString "bob"), d2]], .tup ds]) := fun C n =>
    It.tup.mpr (Its.cons.mpr ⟨16, 40, ih C n, Its.one (il C n), by omega⟩)
  have hsp : Pu (.tup [.tup [.tup [.str (Str.ofString "ann"), d1], .tup [.str (Str.ofString "bob"), d2]], .tup ds]) := fun C => (ish C 1).up LeM.refl (by omega) (Nat.le_refl _) (by omega)
  have hhp : Pu (.tup [.tup [.str (Str.ofString "ann"), d1], .tup [.str (Str.ofString "bob"), d2]]) := fun C => (ih C 2).up LeM.refl (by omega) (Nat.le_refl _) (by omega)
  generalize hha : D.tup [.tup [.str (Str.ofString "ann"), d1], .tup [.str (Str.ofString "bob"), d2]] = ha at *
  have L2 := L1.set (i := 5) (x := .tup [ha, .tup ds]) (by decide)
  have e4 : ((E.set 4 (some (.tup ds))).set 5 (some (.tup [ha, .tup ds])))[4]? = some (some (.tup ds)) := set_var h4 (by decide)
  have e5 : ((E.set 4 (some (.tup ds))).set 5 (some (.tup [ha, .tup ds])))[5]? = some (some (.tup [ha, .tup ds])) := L1.at (by decide)
  obtain ⟨a, r, rfl⟩ : ∃ a r, ds = a :: r := by cases ds with | nil => cases hl | cons a r => exact ⟨a, r, rfl⟩
  have pa : Pu a := fun C => (LB.it (C := C) (n := 3) (hlb a (by simp))).up LeM.refl (Nat.le_refl _) (Nat.le_refl _) (by omega)
  have pl : Pu (.tup (a :: r)) := fun C => (il C 2).up LeM.refl (Nat.le_refl _) (Nat.le_refl _) (by omega)
  refine wForA (wTup (wCons (wpo_eq ((bin_eq (var_at e4) mC_at).trans at0) (wCons (wVar e4 (wCons (wVar e5 (wCons (wpo_eq ((bin_eq (var_at e5) mC_at).trans at0) (wCons (wgrip (m := 9) (k := 4) L2.h1 S3.fd S3.wh (by omega) (by omega) (by omega) fun d3 C4 U4 it3 => wNil ⟨by simp [z], _, rfl, ?_⟩)))))))))))
  have S4 := S3.upd U4
  have pg : Pu d3 := fun C => (it3 C 4).up LeM.refl (Nat.le_refl _) (Nat.le_refl _) (by omega)
  refine for_at [a, .tup (a :: r), .tup [ha, .tup (a :: r)], ha, d3] (fun i E C' => ∃ items', LW E ∧ Stt C' (b + 1083 * i) items') (fun _ _ _ _ => rfl) ?_ ?_ 5 0 _ C4 rfl ⟨items, L2, S4⟩
  · rintro i x E' C' hx ⟨items', L', S'⟩
    have hi := (List.getElem?_eq_some_iff.mp hx).1
    have hi : i < 5 := hi
    have px : Pu x := by
      have hm := List.mem_of_getElem? hx
      simp only [List.mem_cons, List.not_mem_nil, or_false] at hm
      rcases hm with rfl | rfl | rfl | rfl | rfl
      · exact pa
      · exact pl
      · exact hsp
      · exact hhp
      · exact pg
    refine wpo_eq rfl (step_ok (L'.set (i := 6) (x := x) (by decide)) S' (by omega) (L'.at (by decide)) px ?_)
    intro E2 C2 items2 L2' _ S2' _
    have e : b + 1083 * (i + 1) = b + 1083 * i + 1083 := by omega
    refine ⟨items2, L2', ?_⟩
    rw [e]
    exact S2'
  · rintro E' C' ⟨items', L', S'⟩
    exact k E' C' items' L' S'
end G
set_option Elab.async false
set_option linter.all false
set_option maxRecDepth 100000
set_option maxHeartbeats 4000000
namespace G
open PySem L2 Mi
theorem ivs_start {C : Hm} {P : List D} (h : chkS H0 P = true) (hL : ∀ (k : Nat) (ds : List D), H0[k]? = some (Cell.lst ds) → C[k]? = some (Cell.lst ds)) : Ivs C 20000 P := by
  unfold chkS at h
  cases q : P.mapM (py H0 20) with
  | none => rw [q] at h; cases h
  | some ps =>
    rw [q] at h
    simp only [Bool.and_eq_true, decide_eq_true_eq] at h
    have L : LeH H0 (msk C) := fun k ds e => by
      have hk := (List.getElem?_eq_some_iff.mp e).1
      rw [h0_len] at hk
      exact msk_get (hL k ds e) (by omega)
    exact ⟨ps, mapM_imp (fun _ _ e => py_up L (Nat.le_refl _) e) q, h.1.1.1, h.1.1.2, h.1.2, h.2⟩
theorem start_ok {ns : List Int} {Q : Out → Prop} (k : ∀ E' C' items, LW E' → Stt C' 20000 items → Q (.nx E' C')) : wpo ((mAsg (mSl3 (mCall M_law_values mNil) (oSome (mKeep (mCall M_law_draw (mCons (mVar 1) (mCons (mC (.int 3)) mNil))))) oNone (oSome (mC (.int 3)))) (gN 2)) [some (.rol ns), some (.cell 2), none, none, none, none, none, none, none, none] (feedH (.lst (ns.map D.int)) ns 0 0 0 [])) Q := by
  have z := szL
  generalize hC2 : (Cell.lst (ns.map D.int) :: Cell.lst (ns.map D.int) :: Cell.dic [(.inr (Str.ofString "cells"), .cell 1), (.inr (Str.ofString "at"), .int 0), (.inr (Str.ofString "left"), .int 0), (.inr (Str.ofString "count"), .int 0)] :: H0.drop 3 : Hm) = C2
  have ev : mCall M_law_values mNil [some (.rol ns), some (.cell 2), none, none, none, none, none, none, none, none] (feedH (.lst (ns.map D.int)) ns 0 0 0 []) = some (.cell 3, C2) := by
    unfold mCall mNil
    simp only [Option.bind_some]
    rw [← hC2]
    exact values_run _ _ _
  have F2 : Fd C2 := ⟨_, ns, 0, 0, 0, H0.drop 3, hC2.symm⟩
  have l2 : C2.length = 28 := by rw [← hC2]; simp [h0_len]
  have W2 : WH C2 := by
    intro x hx
    rw [l2]
    rw [← hC2] at hx
    simp only [List.mem_cons] at hx
    rcases hx with rfl | rfl | rfl | hx
    · exact bnds_ints _ ns
    · exact bnds_ints _ ns
    · rfl
    · exact List.all_eq_true.mp h0_bnd x hx
  obtain ⟨r, C3, r0, r1, U, ed⟩ := kdraw (n := 3) (ml := mCons (mVar 1) (mCons (mC (.int 3)) mNil)) (E := [some (.rol ns), some (.cell 2), none, none, none, none, none, none, none, none]) F2 W2 rfl (by omega) (by omega)
  have g3 : C3[3]? = some (.lst L0) := by
    rw [U.old 3 (by decide), ← hC2]
    exact h0_get
  have l3 : C3.length = 28 := U.len.trans l2
  have e1 : mSl3 (mCall M_law_values mNil) (oSome (mKeep (mCall M_law_draw (mCons (mVar 1) (mCons (mC (.int 3)) mNil))))) oNone (oSome (mC (.int 3))) [some (.rol ns), some (.cell 2), none, none, none, none, none, none, none, none] (feedH (.lst (ns.map D.int)) ns 0 0 0 []) = some (.cell 28, C3 ++ [.lst (pickL L0 (some r) none (some 3))]) := by
    have es : sl3D (.cell 3) (some r) none (some 3) C3 = some (.cell 28, C3 ++ [.lst (pickL L0 (some r) none (some 3))]) := by
      unfold sl3D
      simp only
      rw [g3]
      simp only
      rw [if_pos (by decide), l3]
    unfold mSl3 oSome oNone
    rw [ev]
    simp only [Option.bind_some]
    rw [ed]
    simp only [Option.bind_some, mC]
    exact es
  have hL : ∀ (k : Nat) (ds : List D), H0[k]? = some (Cell.lst ds) → (C3 ++ [.lst (pickL L0 (some r) none (some 3))])[k]? = some (Cell.lst ds) := by
    intro k ds e
    have hk := (List.getElem?_eq_some_iff.mp e).1
    rw [h0_len] at hk
    obtain ⟨d0, d1, d2⟩ := h0_dic
    match k, e, hk with
    | 0, e, _ => rw [d0] at e; cases e
    | 1, e, _ => rw [d1] at e; cases e
    | 2, e, _ => rw [d2] at e; cases e
    | k + 3, e, hk =>
      rw [List.getElem?_append_left (by omega), U.old _ (by omega), ← hC2]
      show (H0.drop 3)[k]? = _
      rw [List.getElem?_drop, Nat.add_comm]
      exact e
  have iv : Ivs (C3 ++ [.lst (pickL L0 (some r) none (some 3))]) 20000 (pickL L0 (some r) none (some 3)) := by
    refine ivs_start ?_ hL
    have : r = 0 ∨ r = 1 ∨ r = 2 := by omega
    rcases this with rfl | rfl | rfl
    · exact chk0
    · exact chk1
    · exact chk2
  refine wAsg (wpo_eq e1 (k _ _ _ ⟨rfl, rfl, rfl⟩ ⟨U.fd.app, U.wh.app ?_, by simp; omega, by rw [← l3]; exact last_get, iv⟩))
  have := iv.bnd
  rw [List.length_append] at this
  exact this
theorem kk {m : MF} {ml : MA} {E : Ev} {C : Hm} {r : Option (D × Hm)} (h : mKeep (mCall m ml) E C = r) : mKeep (mCallK gId m ml) E C = r := h
abbrev TOLD1 : MA := (mCons (mKeep (mCallK gId M_is_name (mCons (mC (.str (Str.ofString "a"))) mNil))) (mCons (mKeep (mCallK gId M_is_key (mCons (mC (.int 3)) mNil))) (mCons (mKeep (mCallK gId M_is_text (mCons (mTup (mCons (mC (.str (Str.ofString "a"))) (mCons (mC (.int 0)) mNil))) mNil))) (mCons (mKeep (mCallK gId M_is_thing (mCons (mC (.int 0)) mNil))) (mCons (mKeep (mCallK gId M_is_keys (mCons (mTup mNil) mNil))) mNil)))))
abbrev TOLD2 : MA := (mCons (mKeep (mCallK gId M_is_box (mCons (mTup (mCons (mC (.int 1)) (mCons (mTup (mCons (mC (.int 0)) mNil)) mNil))) mNil))) (mCons (mKeep (mCallK gId M_is_boxes (mCons (mTup mNil) mNil))) (mCons (mKeep (mCallK gId M_is_shelf (mCons (mTup (mCons (mTup mNil) (mCons (mTup mNil) mNil))) mNil))) mNil)))
theorem a_ok : PyData.strOk (Str.ofString "a") = true ∧ (Str.ofString "a").cps.size = 1 := by decide +kernel
theorem g_int {C : Hm} {n : Nat} {i : Int} : Gs C (n + 1) (.int i) := ⟨.int i, rfl, rfl, by simp [PyData.bulk]⟩
theorem g_a {C : Hm} {n : Nat} : Gs C (n + 1) (.str (Str.ofString "a")) := ⟨_, rfl, by simpa [PyData.canLay0] using a_ok.1, by simp only [PyData.bulk, a_ok.2, szL]; decide⟩
theorem g_nil {C : Hm} {n : Nat} : Gs C (n + 1) (.tup []) := ⟨.tuple [], rfl, by simp [PyData.canLay0, PyData.canLayAll0], by simp [PyData.bulk, PyData.bulkAll]⟩
theorem g_two {C : Hm} {n : Nat} {a b : D} (ha : ∃ p, py C n a = some p ∧ p.canLay0 = true ∧ p.bulk ≤ 100) (hb : ∃ p, py C n b = some p ∧ p.canLay0 = true ∧ p.bulk ≤ 100) : Gs C (n + 1) (.tup [a, b]) := by
  obtain ⟨p, e, l, k⟩ := ha
  obtain ⟨q, e2, l2, k2⟩ := hb
  refine ⟨.tuple [p, q], ?_, by simp [PyData.canLay0, PyData.canLayAll0, l, l2], by simp only [PyData.bulk, PyData.bulkAll, szL]; omega⟩
  show (([a, b] : List D).mapM (py C n)).map PyData.tuple = _
  rw [List.mapM_cons, e, List.mapM_cons, e2]
  rfl
theorem told1_ok {E : Ev} {C : Hm} (W : WH C) : TOLD1 E C = some ([.bl true, .bl true, .bl true, .bl true, .bl true], C) := by
  have z := szL
  have t1 : kName (.str (Str.ofString "a")) = true := by decide +kernel
  have t3 : kText (.tup [.str (Str.ofString "a"), .int 0]) = true := by decide +kernel
  have k1 := k_is_name W (g_a (C := C) (n := 4)) (E := E) (cons1 mC_at)
  rw [t1] at k1
  have k2 := k_is_key W (g_int (C := C) (n := 4) (i := 3)) (E := E) (cons1 mC_at)
  have k3 := k_is_text W (n := 4) (g_two (C := C) (n := 5) (a := .str (Str.ofString "a")) (b := .int 0) ⟨.str (Str.ofString "a"), rfl, by simpa [PyData.canLay0] using a_ok.1, by simp only [PyData.bulk, a_ok.2]; decide⟩ ⟨.int 0, rfl, rfl, by simp [PyData.bulk]⟩) (E := E) (cons1 (tupE (consE mC_at (consE mC_at nilE)) (by simp [z])))
  rw [t3] at k3
  have k4 := k_is_thing W (n := 4) (g_int (C := C) (n := 5) (i := 0)) (E := E) (cons1 mC_at)
  have k5 := k_is_keys W (n := 4) (g_nil (C := C) (n := 5)) (E := E) (cons1 tup_nil)
  exact consE (kk k1) (consE (kk k2) (consE (kk k3) (consE (kk k4) (consE (kk k5) nilE))))
theorem told2_ok {E : Ev} {C : Hm} (W : WH C) : TOLD2 E C = some ([.bl true, .bl true, .bl true], C) := by
  have z := szL
  have t1 : kBox (.tup [.int 1, .tup [.int 0]]) = true := by decide +kernel
  have t3 : kShelf (.tup [.tup [], .tup []]) = true := by decide +kernel
  have k1 := k_is_box W (n := 4) (by omega) (g_two (C := C) (n := 6) (a := .int 1) (b := .tup [.int 0]) ⟨.int 1, rfl, rfl, by simp [PyData.bulk]⟩ ⟨.tuple [.int 0], rfl, by simp [PyData.canLay0, PyData.canLayAll0], by simp [PyData.bulk, PyData.bulkAll]⟩) (E := E) (cons1 (tupE (consE mC_at (consE (tupE (consE mC_at nilE) (by simp [z])) nilE)) (by simp [z])))
  rw [t1] at k1
  have k2 := k_is_boxes W (n := 4) (by omega) (g_nil (C := C) (n := 7)) (E := E) (cons1 tup_nil)
  have k3 := k_is_shelf W (n := 4) (by omega) (g_two (C := C) (n := 8) (a := .tup []) (b := .tup []) ⟨.tuple [], rfl, by simp [PyData.canLay0, PyData.canLayAll0], by simp [PyData.bulk, PyData.bulkAll]⟩ ⟨.tuple [], rfl, by simp [PyData.canLay0, PyData.canLayAll0], by simp [PyData.bulk, PyData.bulkAll]⟩) (E := E) (cons1 (tupE (consE tup_nil (consE tup_nil nilE)) (by simp [z])))
  rw [t3] at k3
  exact consE (kk k1) (consE (kk k2) (consE (kk k3) nilE))
theorem end_ok {E : Ev} {C : Hm} {b : Nat} {items : List D} (L : LW E) (S : Stt C b items) (hb : b ≤ 100000) : wpo ((mSeq (mAsg (mCallB reprD (mCons (mVar 2) mNil)) (gN 8))
    (mSeq (mIfS (tOrM (mTest (mBin dNe (mLc (mIAny (mVar 2)) (gN 6) (tNotM (mTru (mKeep (mCall M_law_right (mCons (mVar 6) mNil))))) (mVar 6) [6]) (mLst mNil))) (mTest (mBin dNe (mCallB reprD (mCons (mVar 2) mNil)) (mVar 8)))) (mRet (mC (.bl false))) mNext)
    (mSeq (mAsg (mLst TOLD1) (gN 9))
    (mSeq (mDrop (mMeth "list" extendD (mVar 9) (mCons (mLst TOLD2) mNil)))
    (mRet (mBin dEq (mCallB reprD (mCons (mVar 9) mNil)) (mCallB reprD (mCons (mBin mulD (mLst (mCons (mC (.bl true)) mNil)) (mC (.int 8))) mNil)))))))) E C) fun o => ∃ C', o = .rt (.bl true) C' := by
  have z := szL
  obtain ⟨T, rp⟩ := S.iv.repr S.get hb
  refine wSeq (wAsg (wCallB (wCons (wVar L.h2 (wNil (wpo_eq (rp C LeH.refl) ?_))))))
  have L8 := L.set (i := 8) (x := .str T) (by decide)
  have h8 : (E.set 8 (some (.str T)))[8]? = some (some (.str T)) := L.at (by decide)
  show wpo (mSeq _ _ (E.set 8 (some (.str T))) C) _
  generalize E.set 8 (some (.str T)) = E8 at *
  obtain ⟨gl, gs⟩ := S.iv.gs (by omega)
  have e1 := lc_any (me := mVar 2) (tg := gN 6) (tt := tNotM (mTru (mKeep (mCall M_law_right (mCons (mVar 6) mNil))))) (elt := mVar 6) (vs := [6]) (E := E8) (C := C) (d := .cell 28) items (fun _ => false) (fun x => x) (var_at L8.h2) (by simp only [walkD, S.get]) gl (fun x hx => by
    obtain ⟨_, r⟩ := law_right_ok S.wh (n := 15) (by omega) (gs x hx)
    have hv : mCons (mVar 6) mNil ((wipeE E8 [6]).set 6 (some x)) C = some ([x], C) := cons1 (set_get (by rw [wipe_len, L8.len]; decide))
    exact ⟨_, rfl, not_eq (tru_bl (kcall S.wh hv r)), fun z => by cases z⟩)
  have ff : ∀ l : List D, l.filter (fun _ => false) = [] := fun l => List.filter_eq_nil_iff.mpr (by simp)
  rw [ff, List.map_nil] at e1
  have e2 : mBin dNe (mLc (mIAny (mVar 2)) (gN 6) (tNotM (mTru (mKeep (mCall M_law_right (mCons (mVar 6) mNil))))) (mVar 6) [6]) (mLst mNil) E8 C = some (.bl false, C ++ [.lst []] ++ [.lst []]) := by
    rw [bin_eq e1 (lstE nilE (Nat.zero_le _))]
    exact Mi.ne_nil last2_get last_get (by simp)
  have S2 : Stt (C ++ [.lst []] ++ [.lst []]) b items := S.fr (((Fr.refl S.fd S.wh).app rfl).app rfl)
  generalize hC2 : (C ++ [Cell.lst []] ++ [Cell.lst []] : Hm) = C2 at *
  have le2 : LeH C C2 := by rw [← hC2, List.append_assoc]; exact LeH.app
  have e3 : mBin dNe (mCallB reprD (mCons (mVar 2) mNil)) (mVar 8) E8 C2 = some (.bl false, C2) := by
    rw [bin_eq ((callB_eq (cons1 (var_at L8.h2))).trans (rp C2 le2)) (var_at h8), ne_str, beq_self_eq_true]
    rfl
  have go : (tOrM (mTest (mBin dNe (mLc (mIAny (mVar 2)) (gN 6) (tNotM (mTru (mKeep (mCall M_law_right (mCons (mVar 6) mNil))))) (mVar 6) [6]) (mLst mNil))) (mTest (mBin dNe (mCallB reprD (mCons (mVar 2) mNil)) (mVar 8)))) E8 C = some (false, C2) := (or_f (tst_bl e2)).trans (tst_bl e3)
  rw [seq_go go]
  have W2 := S2.wh
  refine wSeq (wAsg (wpo_eq (lstE (told1_ok W2) (by simp [z])) ?_))
  have h9 : (E8.set 9 (some (.cell C2.length)))[9]? = some (some (.cell C2.length)) := L8.at (by decide)
  show wpo (mSeq _ _ (E8.set 9 (some (.cell C2.length))) _) _
  generalize E8.set 9 (some (.cell C2.length)) = E9 at *
  have W3 := W2.app (c := .lst [.bl true, .bl true, .bl true, .bl true, .bl true]) rfl
  have e4 := lstE (E := E9) (told2_ok W3) (by simp [z])
  have e5 : mMeth "list" extendD (mVar 9) (mCons (mLst TOLD2) mNil) E9 (C2 ++ [.lst [.bl true, .bl true, .bl true, .bl true, .bl true]]) = some (.non, C2 ++ [.lst (([true, true, true, true, true, true, true, true] : List Bool).map D.bl)] ++ [.lst [.bl true, .bl true, .bl true]]) := by
    unfold mMeth
    rw [var_at h9]
    simp only [Option.bind_some]
    rw [if_pos (tyD_lst last_get), cons1 e4]
    simp only [Option.bind_some]
    unfold extendD
    simp only
    rw [last2_get, last_get]
    simp only
    rw [if_pos (by simp [z])]
    exact congrArg (fun z => some (D.non, z)) set_mid
  refine wSeq (wDrop (wpo_eq e5 ?_))
  have r1 := repr_bls (C := C2 ++ [.lst (([true, true, true, true, true, true, true, true] : List Bool).map D.bl)] ++ [.lst [.bl true, .bl true, .bl true]]) (k := C2.length) get_mid (by simp)
  generalize hC7 : (C2 ++ [Cell.lst (([true, true, true, true, true, true, true, true] : List Bool).map D.bl)] ++ [Cell.lst [.bl true, .bl true, .bl true]] : Hm) = C7 at *
  have e6 : mBin mulD (mLst (mCons (mC (.bl true)) mNil)) (mC (.int 8)) E9 C7 = some (.cell (C7 ++ [Cell.lst [.bl true]]).length, C7 ++ [.lst [.bl true]] ++ [.lst (([true, true, true, true, true, true, true, true] : List Bool).map D.bl)]) := by
    rw [bin_eq (lstE (cons1 mC_at) (by simp [z])) mC_at]
    unfold mulD
    simp only
    rw [last_get]
    simp only
    rw [if_pos ⟨by decide, by decide, by simp [z]⟩]
    rfl
  have r2 := repr_bls (C := C7 ++ [.lst [.bl true]] ++ [.lst (([true, true, true, true, true, true, true, true] : List Bool).map D.bl)]) last_get (by simp)
  have fin := (bin_eq (op := dEq) ((callB_eq (cons1 (var_at h9))).trans r1) ((callB_eq (cons1 e6)).trans r2)).trans eq_str
  rw [beq_self_eq_true] at fin
  exact wRet (wpo_eq fin ⟨_, rfl⟩)
theorem law_true : ∀ ns : List Int, ns.length ≤ 63 → ∃ C', M_law [.rol ns] [] = some (.bl true, C') := by
  intro ns hl
  suffices h : wpo (B_law [some (.rol ns), none, none, none, none, none, none, none, none, none] []) fun o => ∃ C', o = .rt (.bl true) C' by
    obtain ⟨_, e, C', rfl⟩ := h
    exact ⟨C', fn_ret rfl e⟩
  have ef : mCall M_law_feed (mCons (mVar 0) mNil) [some (.rol ns), none, none, none, none, none, none, none, none, none] [] = some (.cell 2, feedH (.lst (ns.map D.int)) ns 0 0 0 []) := by
    unfold mCall
    rw [v0]
    exact feed_ok hl
  refine wSeq (wAsg (wpo_eq ef ?_))
  refine wSeq (start_ok fun E1 C1 items L1 S1 => ?_)
  refine wSeq (wForR (wCons (wC (wNil ⟨2, rfl, by omega, by omega, ?_⟩))))
  refine for_at (rngD 0 (2 : Int).toNat) (fun i E C => ∃ items, LW E ∧ Stt C (20000 + 5415 * i) items) (fun _ _ _ _ => rfl) ?_ ?_ _ 0 _ _ (by simp) ⟨items, L1, S1⟩
  · rintro i x E C hx ⟨items, L, S⟩
    have hi : i < 2 := by
      have := (List.getElem?_eq_some_iff.mp hx).1
      simpa [rngD] using this
    refine wpo_eq rfl (round_ok (L.set (by decide)) S (by omega) ?_)
    intro E2 C2 items2 L2 S2
    have e : 20000 + 5415 * (i + 1) = 20000 + 5415 * i + 5415 := by omega
    refine ⟨items2, L2, ?_⟩
    rw [e]
    exact S2
  · rintro E C ⟨items, L, S⟩
    have hb : 20000 + 5415 * (rngD 0 (2 : Int).toNat).length ≤ 100000 := by decide
    exact end_ok L S hb
end G
set_option Elab.async false
set_option linter.all false
set_option maxRecDepth 100000
set_option maxHeartbeats 4000000
namespace G
open PySem PySem.Spec PyProof.Rows L2 Mi
theorem all_mk {l : PySem.W.OpenLaw} {w : World} {K : PySem.W.Frag} {h : Heap} {mg : Str → Option Value} {fa : Addr} (X : K.In h) (G : h.Ns mainGlobals mg) (hfa : mg "law" = some (.ref fa))
    {od_is_number an_is_number : Option Addr} {sl_is_number : Array (Option Value)} {oc_is_number kV_is_number dc_is_number pm_is_number cd_is_number ct_is_number : Value} {a_is_number : Addr}
    (n_is_number : PySem.W.nsIn K mainGlobals "is_number" = some (some (.ref a_is_number))) (l_is_number : K.lookup a_is_number = some ⟨oc_is_number, od_is_number, .func (PySem.W.fnOf "is_number" "is_number" (defArgs S_is_number) (defBody S_is_number) (defScope S_is_number) .none kV_is_number dc_is_number pm_is_number an_is_number cd_is_number ct_is_number), sl_is_number⟩) (c_is_number : PySem.W.codeIn K cd_is_number "is_number" = true) (p_is_number : PySem.W.keepIn K (.ref a_is_number) = true)
    {od_is_name an_is_name : Option Addr} {sl_is_name : Array (Option Value)} {oc_is_name kV_is_name dc_is_name pm_is_name cd_is_name ct_is_name : Value} {a_is_name : Addr}
    (n_is_name : PySem.W.nsIn K mainGlobals "is_name" = some (some (.ref a_is_name))) (l_is_name : K.lookup a_is_name = some ⟨oc_is_name, od_is_name, .func (PySem.W.fnOf "is_name" "is_name" (defArgs S_is_name) (defBody S_is_name) (defScope S_is_name) .none kV_is_name dc_is_name pm_is_name an_is_name cd_is_name ct_is_name), sl_is_name⟩) (c_is_name : PySem.W.codeIn K cd_is_name "is_name" = true) (p_is_name : PySem.W.keepIn K (.ref a_is_name) = true)
    {od_is_holder an_is_holder : Option Addr} {sl_is_holder : Array (Option Value)} {oc_is_holder kV_is_holder dc_is_holder pm_is_holder cd_is_holder ct_is_holder : Value} {a_is_holder : Addr}
    (n_is_holder : PySem.W.nsIn K mainGlobals "is_holder" = some (some (.ref a_is_holder))) (l_is_holder : K.lookup a_is_holder = some ⟨oc_is_holder, od_is_holder, .func (PySem.W.fnOf "is_holder" "is_holder" (defArgs S_is_holder) (defBody S_is_holder) (defScope S_is_holder) .none kV_is_holder dc_is_holder pm_is_holder an_is_holder cd_is_holder ct_is_holder), sl_is_holder⟩) (c_is_holder : PySem.W.codeIn K cd_is_holder "is_holder" = true) (p_is_holder : PySem.W.keepIn K (.ref a_is_holder) = true)
    {od_is_key an_is_key : Option Addr} {sl_is_key : Array (Option Value)} {oc_is_key kV_is_key dc_is_key pm_is_key cd_is_key ct_is_key : Value} {a_is_key : Addr}
    (n_is_key : PySem.W.nsIn K mainGlobals "is_key" = some (some (.ref a_is_key))) (l_is_key : K.lookup a_is_key = some ⟨oc_is_key, od_is_key, .func (PySem.W.fnOf "is_key" "is_key" (defArgs S_is_key) (defBody S_is_key) (defScope S_is_key) .none kV_is_key dc_is_key pm_is_key an_is_key cd_is_key ct_is_key), sl_is_key⟩) (c_is_key : PySem.W.codeIn K cd_is_key "is_key" = true) (p_is_key : PySem.W.keepIn K (.ref a_is_key) = true)
    {od_is_pair an_is_pair : Option Addr} {sl_is_pair : Array (Option Value)} {oc_is_pair kV_is_pair dc_is_pair pm_is_pair cd_is_pair ct_is_pair : Value} {a_is_pair : Addr}
    (n_is_pair : PySem.W.nsIn K mainGlobals "is_pair" = some (some (.ref a_is_pair))) (l_is_pair : K.lookup a_is_pair = some ⟨oc_is_pair, od_is_pair, .func (PySem.W.fnOf "is_pair" "is_pair" (defArgs S_is_pair) (defBody S_is_pair) (defScope S_is_pair) .none kV_is_pair dc_is_pair pm_is_pair an_is_pair cd_is_pair ct_is_pair), sl_is_pair⟩) (c_is_pair : PySem.W.codeIn K cd_is_pair "is_pair" = true) (p_is_pair : PySem.W.keepIn K (.ref a_is_pair) = true)
    {od_is_text an_is_text : Option Addr} {sl_is_text : Array (Option Value)} {oc_is_text kV_is_text dc_is_text pm_is_text cd_is_text ct_is_text : Value} {a_is_text : Addr}
    (n_is_text : PySem.W.nsIn K mainGlobals "is_text" = some (some (.ref a_is_text))) (l_is_text : K.lookup a_is_text = some ⟨oc_is_text, od_is_text, .func (PySem.W.fnOf "is_text" "is_text" (defArgs S_is_text) (defBody S_is_text) (defScope S_is_text) .none kV_is_text dc_is_text pm_is_text an_is_text cd_is_text ct_is_text), sl_is_text⟩) (c_is_text : PySem.W.codeIn K cd_is_text "is_text" = true) (p_is_text : PySem.W.keepIn K (.ref a_is_text) = true)
    {od_is_thing an_is_thing : Option Addr} {sl_is_thing : Array (Option Value)} {oc_is_thing kV_is_thing dc_is_thing pm_is_thing cd_is_thing ct_is_thing : Value} {a_is_thing : Addr}
    (n_is_thing : PySem.W.nsIn K mainGlobals "is_thing" = some (some (.ref a_is_thing))) (l_is_thing : K.lookup a_is_thing = some ⟨oc_is_thing, od_is_thing, .func (PySem.W.fnOf "is_thing" "is_thing" (defArgs S_is_thing) (defBody S_is_thing) (defScope S_is_thing) .none kV_is_thing dc_is_thing pm_is_thing an_is_thing cd_is_thing ct_is_thing), sl_is_thing⟩) (c_is_thing : PySem.W.codeIn K cd_is_thing "is_thing" = true) (p_is_thing : PySem.W.keepIn K (.ref a_is_thing) = true)
    {od_is_tuple_of an_is_tuple_of : Option Addr} {sl_is_tuple_of : Array (Option Value)} {oc_is_tuple_of kV_is_tuple_of dc_is_tuple_of pm_is_tuple_of cd_is_tuple_of ct_is_tuple_of : Value} {a_is_tuple_of : Addr}
    (n_is_tuple_of : PySem.W.nsIn K mainGlobals "is_tuple_of" = some (some (.ref a_is_tuple_of))) (l_is_tuple_of : K.lookup a_is_tuple_of = some ⟨oc_is_tuple_of, od_is_tuple_of, .func (PySem.W.fnOf "is_tuple_of" "is_tuple_of" (defArgs S_is_tuple_of) (defBody S_is_tuple_of) (defScope S_is_tuple_of) .none kV_is_tuple_of dc_is_tuple_of pm_is_tuple_of an_is_tuple_of cd_is_tuple_of ct_is_tuple_of), sl_is_tuple_of⟩) (c_is_tuple_of : PySem.W.codeIn K cd_is_tuple_of "is_tuple_of" = true) (p_is_tuple_of : PySem.W.keepIn K (.ref a_is_tuple_of) = true)
    {od_ascends an_ascends : Option Addr} {sl_ascends : Array (Option Value)} {oc_ascends kV_ascends dc_ascends pm_ascends cd_ascends ct_ascends : Value} {a_ascends : Addr}
    (n_ascends : PySem.W.nsIn K mainGlobals "ascends" = some (some (.ref a_ascends))) (l_ascends : K.lookup a_ascends = some ⟨oc_ascends, od_ascends, .func (PySem.W.fnOf "ascends" "ascends" (defArgs S_ascends) (defBody S_ascends) (defScope S_ascends) .none kV_ascends dc_ascends pm_ascends an_ascends cd_ascends ct_ascends), sl_ascends⟩) (c_ascends : PySem.W.codeIn K cd_ascends "ascends" = true) (p_ascends : PySem.W.keepIn K (.ref a_ascends) = true)
    {od_is_keys an_is_keys : Option Addr} {sl_is_keys : Array (Option Value)} {oc_is_keys kV_is_keys dc_is_keys pm_is_keys cd_is_keys ct_is_keys : Value} {a_is_keys : Addr}
    (n_is_keys : PySem.W.nsIn K mainGlobals "is_keys" = some (some (.ref a_is_keys))) (l_is_keys : K.lookup a_is_keys = some ⟨oc_is_keys, od_is_keys, .func (PySem.W.fnOf "is_keys" "is_keys" (defArgs S_is_keys) (defBody S_is_keys) (defScope S_is_keys) .none kV_is_keys dc_is_keys pm_is_keys an_is_keys cd_is_keys ct_is_keys), sl_is_keys⟩) (c_is_keys : PySem.W.codeIn K cd_is_keys "is_keys" = true) (p_is_keys : PySem.W.keepIn K (.ref a_is_keys) = true)
    {od_is_box an_is_box : Option Addr} {sl_is_box : Array (Option Value)} {oc_is_box kV_is_box dc_is_box pm_is_box cd_is_box ct_is_box : Value} {a_is_box : Addr}
    (n_is_box : PySem.W.nsIn K mainGlobals "is_box" = some (some (.ref a_is_box))) (l_is_box : K.lookup a_is_box = some ⟨oc_is_box, od_is_box, .func (PySem.W.fnOf "is_box" "is_box" (defArgs S_is_box) (defBody S_is_box) (defScope S_is_box) .none kV_is_box dc_is_box pm_is_box an_is_box cd_is_box ct_is_box), sl_is_box⟩) (c_is_box : PySem.W.codeIn K cd_is_box "is_box" = true) (p_is_box : PySem.W.keepIn K (.ref a_is_box) = true)
    {od_is_boxes an_is_boxes : Option Addr} {sl_is_boxes : Array (Option Value)} {oc_is_boxes kV_is_boxes dc_is_boxes pm_is_boxes cd_is_boxes ct_is_boxes : Value} {a_is_boxes : Addr}
    (n_is_boxes : PySem.W.nsIn K mainGlobals "is_boxes" = some (some (.ref a_is_boxes))) (l_is_boxes : K.lookup a_is_boxes = some ⟨oc_is_boxes, od_is_boxes, .func (PySem.W.fnOf "is_boxes" "is_boxes" (defArgs S_is_boxes) (defBody S_is_boxes) (defScope S_is_boxes) .none kV_is_boxes dc_is_boxes pm_is_boxes an_is_boxes cd_is_boxes ct_is_boxes), sl_is_boxes⟩) (c_is_boxes : PySem.W.codeIn K cd_is_boxes "is_boxes" = true) (p_is_boxes : PySem.W.keepIn K (.ref a_is_boxes) = true)
    {od_is_hand an_is_hand : Option Addr} {sl_is_hand : Array (Option Value)} {oc_is_hand kV_is_hand dc_is_hand pm_is_hand cd_is_hand ct_is_hand : Value} {a_is_hand : Addr}
    (n_is_hand : PySem.W.nsIn K mainGlobals "is_hand" = some (some (.ref a_is_hand))) (l_is_hand : K.lookup a_is_hand = some ⟨oc_is_hand, od_is_hand, .func (PySem.W.fnOf "is_hand" "is_hand" (defArgs S_is_hand) (defBody S_is_hand) (defScope S_is_hand) .none kV_is_hand dc_is_hand pm_is_hand an_is_hand cd_is_hand ct_is_hand), sl_is_hand⟩) (c_is_hand : PySem.W.codeIn K cd_is_hand "is_hand" = true) (p_is_hand : PySem.W.keepIn K (.ref a_is_hand) = true)
    {od_is_shelf an_is_shelf : Option Addr} {sl_is_shelf : Array (Option Value)} {oc_is_shelf kV_is_shelf dc_is_shelf pm_is_shelf cd_is_shelf ct_is_shelf : Value} {a_is_shelf : Addr}
    (n_is_shelf : PySem.W.nsIn K mainGlobals "is_shelf" = some (some (.ref a_is_shelf))) (l_is_shelf : K.lookup a_is_shelf = some ⟨oc_is_shelf, od_is_shelf, .func (PySem.W.fnOf "is_shelf" "is_shelf" (defArgs S_is_shelf) (defBody S_is_shelf) (defScope S_is_shelf) .none kV_is_shelf dc_is_shelf pm_is_shelf an_is_shelf cd_is_shelf ct_is_shelf), sl_is_shelf⟩) (c_is_shelf : PySem.W.codeIn K cd_is_shelf "is_shelf" = true) (p_is_shelf : PySem.W.keepIn K (.ref a_is_shelf) = true)
    {od_law_feed an_law_feed : Option Addr} {sl_law_feed : Array (Option Value)} {oc_law_feed kV_law_feed dc_law_feed pm_law_feed cd_law_feed ct_law_feed : Value} {a_law_feed : Addr}
    (n_law_feed : PySem.W.nsIn K mainGlobals "_law_feed" = some (some (.ref a_law_feed))) (l_law_feed : K.lookup a_law_feed = some ⟨oc_law_feed, od_law_feed, .func (PySem.W.fnOf "_law_feed" "_law_feed" (defArgs S_law_feed) (defBody S_law_feed) (defScope S_law_feed) .none kV_law_feed dc_law_feed pm_law_feed an_law_feed cd_law_feed ct_law_feed), sl_law_feed⟩) (c_law_feed : PySem.W.codeIn K cd_law_feed "_law_feed" = true) (p_law_feed : PySem.W.keepIn K (.ref a_law_feed) = true)
    {od_law_draw an_law_draw : Option Addr} {sl_law_draw : Array (Option Value)} {oc_law_draw kV_law_draw dc_law_draw pm_law_draw cd_law_draw ct_law_draw : Value} {a_law_draw : Addr}
    (n_law_draw : PySem.W.nsIn K mainGlobals "_law_draw" = some (some (.ref a_law_draw))) (l_law_draw : K.lookup a_law_draw = some ⟨oc_law_draw, od_law_draw, .func (PySem.W.fnOf "_law_draw" "_law_draw" (defArgs S_law_draw) (defBody S_law_draw) (defScope S_law_draw) .none kV_law_draw dc_law_draw pm_law_draw an_law_draw cd_law_draw ct_law_draw), sl_law_draw⟩) (c_law_draw : PySem.W.codeIn K cd_law_draw "_law_draw" = true) (p_law_draw : PySem.W.keepIn K (.ref a_law_draw) = true)
    {od_law_key an_law_key : Option Addr} {sl_law_key : Array (Option Value)} {oc_law_key kV_law_key dc_law_key pm_law_key cd_law_key ct_law_key : Value} {a_law_key : Addr}
    (n_law_key : PySem.W.nsIn K mainGlobals "_law_key" = some (some (.ref a_law_key))) (l_law_key : K.lookup a_law_key = some ⟨oc_law_key, od_law_key, .func (PySem.W.fnOf "_law_key" "_law_key" (defArgs S_law_key) (defBody S_law_key) (defScope S_law_key) .none kV_law_key dc_law_key pm_law_key an_law_key cd_law_key ct_law_key), sl_law_key⟩) (c_law_key : PySem.W.codeIn K cd_law_key "_law_key" = true) (p_law_key : PySem.W.keepIn K (.ref a_law_key) = true)
    {od_law_named an_law_named : Option Addr} {sl_law_named : Array (Option Value)} {oc_law_named kV_law_named dc_law_named pm_law_named cd_law_named ct_law_named : Value} {a_law_named : Addr}
    (n_law_named : PySem.W.nsIn K mainGlobals "_law_named" = some (some (.ref a_law_named))) (l_law_named : K.lookup a_law_named = some ⟨oc_law_named, od_law_named, .func (PySem.W.fnOf "_law_named" "_law_named" (defArgs S_law_named) (defBody S_law_named) (defScope S_law_named) .none kV_law_named dc_law_named pm_law_named an_law_named cd_law_named ct_law_named), sl_law_named⟩) (c_law_named : PySem.W.codeIn K cd_law_named "_law_named" = true) (p_law_named : PySem.W.keepIn K (.ref a_law_named) = true)
    {od_law_page an_law_page : Option Addr} {sl_law_page : Array (Option Value)} {oc_law_page kV_law_page dc_law_page pm_law_page cd_law_page ct_law_page : Value} {a_law_page : Addr}
    (n_law_page : PySem.W.nsIn K mainGlobals "_law_page" = some (some (.ref a_law_page))) (l_law_page : K.lookup a_law_page = some ⟨oc_law_page, od_law_page, .func (PySem.W.fnOf "_law_page" "_law_page" (defArgs S_law_page) (defBody S_law_page) (defScope S_law_page) .none kV_law_page dc_law_page pm_law_page an_law_page cd_law_page ct_law_page), sl_law_page⟩) (c_law_page : PySem.W.codeIn K cd_law_page "_law_page" = true) (p_law_page : PySem.W.keepIn K (.ref a_law_page) = true)
    {od_law_rises an_law_rises : Option Addr} {sl_law_rises : Array (Option Value)} {oc_law_rises kV_law_rises dc_law_rises pm_law_rises cd_law_rises ct_law_rises : Value} {a_law_rises : Addr}
    (n_law_rises : PySem.W.nsIn K mainGlobals "_law_rises" = some (some (.ref a_law_rises))) (l_law_rises : K.lookup a_law_rises = some ⟨oc_law_rises, od_law_rises, .func (PySem.W.fnOf "_law_rises" "_law_rises" (defArgs S_law_rises) (defBody S_law_rises) (defScope S_law_rises) .none kV_law_rises dc_law_rises pm_law_rises an_law_rises cd_law_rises ct_law_rises), sl_law_rises⟩) (c_law_rises : PySem.W.codeIn K cd_law_rises "_law_rises" = true) (p_law_rises : PySem.W.keepIn K (.ref a_law_rises) = true)
    {od_law_keyed an_law_keyed : Option Addr} {sl_law_keyed : Array (Option Value)} {oc_law_keyed kV_law_keyed dc_law_keyed pm_law_keyed cd_law_keyed ct_law_keyed : Value} {a_law_keyed : Addr}
    (n_law_keyed : PySem.W.nsIn K mainGlobals "_law_keyed" = some (some (.ref a_law_keyed))) (l_law_keyed : K.lookup a_law_keyed = some ⟨oc_law_keyed, od_law_keyed, .func (PySem.W.fnOf "_law_keyed" "_law_keyed" (defArgs S_law_keyed) (defBody S_law_keyed) (defScope S_law_keyed) .none kV_law_keyed dc_law_keyed pm_law_keyed an_law_keyed cd_law_keyed ct_law_keyed), sl_law_keyed⟩) (c_law_keyed : PySem.W.codeIn K cd_law_keyed "_law_keyed" = true) (p_law_keyed : PySem.W.keepIn K (.ref a_law_keyed) = true)
    {od_law_boxed an_law_boxed : Option Addr} {sl_law_boxed : Array (Option Value)} {oc_law_boxed kV_law_boxed dc_law_boxed pm_law_boxed cd_law_boxed ct_law_boxed : Value} {a_law_boxed : Addr}
    (n_law_boxed : PySem.W.nsIn K mainGlobals "_law_boxed" = some (some (.ref a_law_boxed))) (l_law_boxed : K.lookup a_law_boxed = some ⟨oc_law_boxed, od_law_boxed, .func (PySem.W.fnOf "_law_boxed" "_law_boxed" (defArgs S_law_boxed) (defBody S_law_boxed) (defScope S_law_boxed) .none kV_law_boxed dc_law_boxed pm_law_boxed an_law_boxed cd_law_boxed ct_law_boxed), sl_law_boxed⟩) (c_law_boxed : PySem.W.codeIn K cd_law_boxed "_law_boxed" = true) (p_law_boxed : PySem.W.keepIn K (.ref a_law_boxed) = true)
    {od_law_grip an_law_grip : Option Addr} {sl_law_grip : Array (Option Value)} {oc_law_grip kV_law_grip dc_law_grip pm_law_grip cd_law_grip ct_law_grip : Value} {a_law_grip : Addr}
    (n_law_grip : PySem.W.nsIn K mainGlobals "_law_grip" = some (some (.ref a_law_grip))) (l_law_grip : K.lookup a_law_grip = some ⟨oc_law_grip, od_law_grip, .func (PySem.W.fnOf "_law_grip" "_law_grip" (defArgs S_law_grip) (defBody S_law_grip) (defScope S_law_grip) .none kV_law_grip dc_law_grip pm_law_grip an_law_grip cd_law_grip ct_law_grip), sl_law_grip⟩) (c_law_grip : PySem.W.codeIn K cd_law_grip "_law_grip" = true) (p_law_grip : PySem.W.keepIn K (.ref a_law_grip) = true)
    {od_law_lot an_law_lot : Option Addr} {sl_law_lot : Array (Option Value)} {oc_law_lot kV_law_lot dc_law_lot pm_law_lot cd_law_lot ct_law_lot : Value} {a_law_lot : Addr}
    (n_law_lot : PySem.W.nsIn K mainGlobals "_law_lot" = some (some (.ref a_law_lot))) (l_law_lot : K.lookup a_law_lot = some ⟨oc_law_lot, od_law_lot, .func (PySem.W.fnOf "_law_lot" "_law_lot" (defArgs S_law_lot) (defBody S_law_lot) (defScope S_law_lot) .none kV_law_lot dc_law_lot pm_law_lot an_law_lot cd_law_lot ct_law_lot), sl_law_lot⟩) (c_law_lot : PySem.W.codeIn K cd_law_lot "_law_lot" = true) (p_law_lot : PySem.W.keepIn K (.ref a_law_lot) = true)
    {od_law_odd an_law_odd : Option Addr} {sl_law_odd : Array (Option Value)} {oc_law_odd kV_law_odd dc_law_odd pm_law_odd cd_law_odd ct_law_odd : Value} {a_law_odd : Addr}
    (n_law_odd : PySem.W.nsIn K mainGlobals "_law_odd" = some (some (.ref a_law_odd))) (l_law_odd : K.lookup a_law_odd = some ⟨oc_law_odd, od_law_odd, .func (PySem.W.fnOf "_law_odd" "_law_odd" (defArgs S_law_odd) (defBody S_law_odd) (defScope S_law_odd) .none kV_law_odd dc_law_odd pm_law_odd an_law_odd cd_law_odd ct_law_odd), sl_law_odd⟩) (c_law_odd : PySem.W.codeIn K cd_law_odd "_law_odd" = true) (p_law_odd : PySem.W.keepIn K (.ref a_law_odd) = true)
    {od_law_bent an_law_bent : Option Addr} {sl_law_bent : Array (Option Value)} {oc_law_bent kV_law_bent dc_law_bent pm_law_bent cd_law_bent ct_law_bent : Value} {a_law_bent : Addr}
    (n_law_bent : PySem.W.nsIn K mainGlobals "_law_bent" = some (some (.ref a_law_bent))) (l_law_bent : K.lookup a_law_bent = some ⟨oc_law_bent, od_law_bent, .func (PySem.W.fnOf "_law_bent" "_law_bent" (defArgs S_law_bent) (defBody S_law_bent) (defScope S_law_bent) .none kV_law_bent dc_law_bent pm_law_bent an_law_bent cd_law_bent ct_law_bent), sl_law_bent⟩) (c_law_bent : PySem.W.codeIn K cd_law_bent "_law_bent" = true) (p_law_bent : PySem.W.keepIn K (.ref a_law_bent) = true)
    {od_law_shelved an_law_shelved : Option Addr} {sl_law_shelved : Array (Option Value)} {oc_law_shelved kV_law_shelved dc_law_shelved pm_law_shelved cd_law_shelved ct_law_shelved : Value} {a_law_shelved : Addr}
    (n_law_shelved : PySem.W.nsIn K mainGlobals "_law_shelved" = some (some (.ref a_law_shelved))) (l_law_shelved : K.lookup a_law_shelved = some ⟨oc_law_shelved, od_law_shelved, .func (PySem.W.fnOf "_law_shelved" "_law_shelved" (defArgs S_law_shelved) (defBody S_law_shelved) (defScope S_law_shelved) .none kV_law_shelved dc_law_shelved pm_law_shelved an_law_shelved cd_law_shelved ct_law_shelved), sl_law_shelved⟩) (c_law_shelved : PySem.W.codeIn K cd_law_shelved "_law_shelved" = true) (p_law_shelved : PySem.W.keepIn K (.ref a_law_shelved) = true)
    {od_law_right an_law_right : Option Addr} {sl_law_right : Array (Option Value)} {oc_law_right kV_law_right dc_law_right pm_law_right cd_law_right ct_law_right : Value} {a_law_right : Addr}
    (n_law_right : PySem.W.nsIn K mainGlobals "_law_right" = some (some (.ref a_law_right))) (l_law_right : K.lookup a_law_right = some ⟨oc_law_right, od_law_right, .func (PySem.W.fnOf "_law_right" "_law_right" (defArgs S_law_right) (defBody S_law_right) (defScope S_law_right) .none kV_law_right dc_law_right pm_law_right an_law_right cd_law_right ct_law_right), sl_law_right⟩) (c_law_right : PySem.W.codeIn K cd_law_right "_law_right" = true) (p_law_right : PySem.W.keepIn K (.ref a_law_right) = true)
    {od_law_values an_law_values : Option Addr} {sl_law_values : Array (Option Value)} {oc_law_values kV_law_values dc_law_values pm_law_values cd_law_values ct_law_values : Value} {a_law_values : Addr}
    (n_law_values : PySem.W.nsIn K mainGlobals "_law_values" = some (some (.ref a_law_values))) (l_law_values : K.lookup a_law_values = some ⟨oc_law_values, od_law_values, .func (PySem.W.fnOf "_law_values" "_law_values" (defArgs S_law_values) (defBody S_law_values) (defScope S_law_values) .none kV_law_values dc_law_values pm_law_values an_law_values cd_law_values ct_law_values), sl_law_values⟩) (c_law_values : PySem.W.codeIn K cd_law_values "_law_values" = true) (p_law_values : PySem.W.keepIn K (.ref a_law_values) = true)
    {od_law an_law : Option Addr} {sl_law : Array (Option Value)} {oc_law kV_law dc_law pm_law cd_law ct_law : Value} {a_law : Addr}
    (n_law : PySem.W.nsIn K mainGlobals "law" = some (some (.ref a_law))) (l_law : K.lookup a_law = some ⟨oc_law, od_law, .func (PySem.W.fnOf "law" "law" (defArgs S_law) (defBody S_law) (defScope S_law) .none kV_law dc_law pm_law an_law cd_law ct_law), sl_law⟩) (c_law : PySem.W.codeIn K cd_law "law" = true) (p_law : PySem.W.keepIn K (.ref a_law) = true)
    (z_all : PySem.W.nsIn K mainGlobals "all" = some none)
    (z_bool : PySem.W.nsIn K mainGlobals "bool" = some none)
    (z_int : PySem.W.nsIn K mainGlobals "int" = some none)
    (z_isinstance : PySem.W.nsIn K mainGlobals "isinstance" = some none)
    (z_len : PySem.W.nsIn K mainGlobals "len" = some none)
    (z_list : PySem.W.nsIn K mainGlobals "list" = some none)
    (z_ord : PySem.W.nsIn K mainGlobals "ord" = some none)
    (z_range : PySem.W.nsIn K mainGlobals "range" = some none)
    (z_repr : PySem.W.nsIn K mainGlobals "repr" = some none)
    (z_sorted : PySem.W.nsIn K mainGlobals "sorted" = some none)
    (z_str : PySem.W.nsIn K mainGlobals "str" = some none)
    (z_tuple : PySem.W.nsIn K mainGlobals "tuple" = some none)
    : ∃ fd : FuncData, (∀ (s : Shared) (v : Value), BindsTo s fd ⟨[v], []⟩ [("_law_script", v)]) ∧ ∀ base : Heap, K.In base → base.Ns mainGlobals mg → FnG l.prog w K mg base 15 fa fd ["_law_script"] (fun vs H Q => ∀ ft : Nat → Addr, spM K ft 1 M_law vs H Q) := by
  have e := hfa.symm.trans (PySem.W.mg_of X G n_law)
  cases e
  let ft : Nat → Addr := fun n => match n with
    | 0 => a_is_key
    | 1 => a_is_box
    | 2 => a_is_hand
    | _ => 0
  have T : Txt mg ft := ⟨PySem.W.mg_none_of X G z_all, PySem.W.mg_none_of X G z_bool, PySem.W.mg_none_of X G z_int, PySem.W.mg_none_of X G z_isinstance, PySem.W.mg_none_of X G z_len, PySem.W.mg_none_of X G z_list, PySem.W.mg_none_of X G z_ord, PySem.W.mg_none_of X G z_range, PySem.W.mg_none_of X G z_repr, PySem.W.mg_none_of X G z_sorted, PySem.W.mg_none_of X G z_str, PySem.W.mg_none_of X G z_tuple, PySem.W.mg_of X G n_is_box, PySem.W.mg_of X G n_is_hand, PySem.W.mg_of X G n_is_key⟩
  have F_is_number := fun_mk (st := S_is_number) l_is_number c_is_number p_is_number
  have b_is_number := F_is_number.binds (ps := ["thing"]) fun _ _ _ _ _ _ us hl => match us, hl with | [_], _ => rfl
  have F_is_name := fun_mk (st := S_is_name) l_is_name c_is_name p_is_name
  have b_is_name := F_is_name.binds (ps := ["thing"]) fun _ _ _ _ _ _ us hl => match us, hl with | [_], _ => rfl
  have F_is_holder := fun_mk (st := S_is_holder) l_is_holder c_is_holder p_is_holder
  have b_is_holder := F_is_holder.binds (ps := ["thing"]) fun _ _ _ _ _ _ us hl => match us, hl with | [_], _ => rfl
  have F_is_key := fun_mk (st := S_is_key) l_is_key c_is_key p_is_key
  have b_is_key := F_is_key.binds (ps := ["thing"]) fun _ _ _ _ _ _ us hl => match us, hl with | [_], _ => rfl
  have F_is_pair := fun_mk (st := S_is_pair) l_is_pair c_is_pair p_is_pair
  have b_is_pair := F_is_pair.binds (ps := ["thing"]) fun _ _ _ _ _ _ us hl => match us, hl with | [_], _ => rfl
  have F_is_text := fun_mk (st := S_is_text) l_is_text c_is_text p_is_text
  have b_is_text := F_is_text.binds (ps := ["thing"]) fun _ _ _ _ _ _ us hl => match us, hl with | [_], _ => rfl
  have F_is_thing := fun_mk (st := S_is_thing) l_is_thing c_is_thing p_is_thing
  have b_is_thing := F_is_thing.binds (ps := ["thing"]) fun _ _ _ _ _ _ us hl => match us, hl with | [_], _ => rfl
  have F_is_tuple_of := fun_mk (st := S_is_tuple_of) l_is_tuple_of c_is_tuple_of p_is_tuple_of
  have b_is_tuple_of := F_is_tuple_of.binds (ps := ["is_kind", "thing"]) fun _ _ _ _ _ _ us hl => match us, hl with | [_, _], _ => rfl
  have F_ascends := fun_mk (st := S_ascends) l_ascends c_ascends p_ascends
  have b_ascends := F_ascends.binds (ps := ["row"]) fun _ _ _ _ _ _ us hl => match us, hl with | [_], _ => rfl
  have F_is_keys := fun_mk (st := S_is_keys) l_is_keys c_is_keys p_is_keys
  have b_is_keys := F_is_keys.binds (ps := ["thing"]) fun _ _ _ _ _ _ us hl => match us, hl with | [_], _ => rfl
  have F_is_box := fun_mk (st := S_is_box) l_is_box c_is_box p_is_box
  have b_is_box := F_is_box.binds (ps := ["thing"]) fun _ _ _ _ _ _ us hl => match us, hl with | [_], _ => rfl
  have F_is_boxes := fun_mk (st := S_is_boxes) l_is_boxes c_is_boxes p_is_boxes
  have b_is_boxes := F_is_boxes.binds (ps := ["thing"]) fun _ _ _ _ _ _ us hl => match us, hl with | [_], _ => rfl
  have F_is_hand := fun_mk (st := S_is_hand) l_is_hand c_is_hand p_is_hand
  have b_is_hand := F_is_hand.binds (ps := ["thing"]) fun _ _ _ _ _ _ us hl => match us, hl with | [_], _ => rfl
  have F_is_shelf := fun_mk (st := S_is_shelf) l_is_shelf c_is_shelf p_is_shelf
  have b_is_shelf := F_is_shelf.binds (ps := ["thing"]) fun _ _ _ _ _ _ us hl => match us, hl with | [_], _ => rfl
  have F_law_feed := fun_mk (st := S_law_feed) l_law_feed c_law_feed p_law_feed
  have b_law_feed := F_law_feed.binds (ps := ["_law_script"]) fun _ _ _ _ _ _ us hl => match us, hl with | [_], _ => rfl
  have F_law_draw := fun_mk (st := S_law_draw) l_law_draw c_law_draw p_law_draw
  have b_law_draw := F_law_draw.binds (ps := ["_law_feed_here", "_law_many"]) fun _ _ _ _ _ _ us hl => match us, hl with | [_, _], _ => rfl
  have F_law_key := fun_mk (st := S_law_key) l_law_key c_law_key p_law_key
  have b_law_key := F_law_key.binds (ps := ["_law_item"]) fun _ _ _ _ _ _ us hl => match us, hl with | [_], _ => rfl
  have F_law_named := fun_mk (st := S_law_named) l_law_named c_law_named p_law_named
  have b_law_named := F_law_named.binds (ps := ["_law_item"]) fun _ _ _ _ _ _ us hl => match us, hl with | [_], _ => rfl
  have F_law_page := fun_mk (st := S_law_page) l_law_page c_law_page p_law_page
  have b_law_page := F_law_page.binds (ps := ["_law_item"]) fun _ _ _ _ _ _ us hl => match us, hl with | [_], _ => rfl
  have F_law_rises := fun_mk (st := S_law_rises) l_law_rises c_law_rises p_law_rises
  have b_law_rises := F_law_rises.binds (ps := ["_law_some"]) fun _ _ _ _ _ _ us hl => match us, hl with | [_], _ => rfl
  have F_law_keyed := fun_mk (st := S_law_keyed) l_law_keyed c_law_keyed p_law_keyed
  have b_law_keyed := F_law_keyed.binds (ps := ["_law_item"]) fun _ _ _ _ _ _ us hl => match us, hl with | [_], _ => rfl
  have F_law_boxed := fun_mk (st := S_law_boxed) l_law_boxed c_law_boxed p_law_boxed
  have b_law_boxed := F_law_boxed.binds (ps := ["_law_item"]) fun _ _ _ _ _ _ us hl => match us, hl with | [_], _ => rfl
  have F_law_grip := fun_mk (st := S_law_grip) l_law_grip c_law_grip p_law_grip
  have b_law_grip := F_law_grip.binds (ps := ["_law_feed_here", "_law_many", "_law_most"]) fun _ _ _ _ _ _ us hl => match us, hl with | [_, _, _], _ => rfl
  have F_law_lot := fun_mk (st := S_law_lot) l_law_lot c_law_lot p_law_lot
  have b_law_lot := F_law_lot.binds (ps := ["_law_feed_here", "_law_size", "_law_many"]) fun _ _ _ _ _ _ us hl => match us, hl with | [_, _, _], _ => rfl
  have F_law_odd := fun_mk (st := S_law_odd) l_law_odd c_law_odd p_law_odd
  have b_law_odd := F_law_odd.binds (ps := ["_law_feed_here"]) fun _ _ _ _ _ _ us hl => match us, hl with | [_], _ => rfl
  have F_law_bent := fun_mk (st := S_law_bent) l_law_bent c_law_bent p_law_bent
  have b_law_bent := F_law_bent.binds (ps := ["_law_feed_here", "_law_item"]) fun _ _ _ _ _ _ us hl => match us, hl with | [_, _], _ => rfl
  have F_law_shelved := fun_mk (st := S_law_shelved) l_law_shelved c_law_shelved p_law_shelved
  have b_law_shelved := F_law_shelved.binds (ps := ["_law_item"]) fun _ _ _ _ _ _ us hl => match us, hl with | [_], _ => rfl
  have F_law_right := fun_mk (st := S_law_right) l_law_right c_law_right p_law_right
  have b_law_right := F_law_right.binds (ps := ["_law_item"]) fun _ _ _ _ _ _ us hl => match us, hl with | [_], _ => rfl
  have F_law_values := fun_mk (st := S_law_values) l_law_values c_law_values p_law_values
  have b_law_values := F_law_values.binds (ps := []) fun _ _ _ _ _ _ us hl => match us, hl with | [], _ => rfl
  have F_law := fun_mk (st := S_law) l_law c_law p_law
  have b_law := F_law.binds (ps := ["_law_script"]) fun _ _ _ _ _ _ us hl => match us, hl with | [_], _ => rfl
  refine ⟨PySem.W.fnOf "law" "law" (defArgs S_law) (defBody S_law) (defScope S_law) .none kV_law dc_law pm_law an_law cd_law ct_law, fun s v => .of_eq rfl, fun base _ _ => ?_⟩
  have g_ascends : FnG l.prog w K mg base 1 a_ascends _ ["row"] (spM K ft 1 M_ascends) := fnG_of F_ascends scope_ascends (sb_ascends T)
  have cc_ascends : Callee l.prog w K mg base ft "ascends" 1 M_ascends 1 := calleeOf F_ascends (PySem.W.mg_of X G n_ascends) b_ascends g_ascends
  have g_is_pair : FnG l.prog w K mg base 1 a_is_pair _ ["thing"] (spM K ft 1 M_is_pair) := fnG_of F_is_pair scope_is_pair (sb_is_pair T)
  have cc_is_pair : Callee l.prog w K mg base ft "is_pair" 1 M_is_pair 1 := calleeOf F_is_pair (PySem.W.mg_of X G n_is_pair) b_is_pair g_is_pair
  have g_is_name : FnG l.prog w K mg base 1 a_is_name _ ["thing"] (spM K ft 1 M_is_name) := fnG_of F_is_name scope_is_name (sb_is_name T)
  have cc_is_name : Callee l.prog w K mg base ft "is_name" 1 M_is_name 1 := calleeOf F_is_name (PySem.W.mg_of X G n_is_name) b_is_name g_is_name
  have g_is_holder : FnG l.prog w K mg base 2 a_is_holder _ ["thing"] (spM K ft 1 M_is_holder) := fnG_of F_is_holder scope_is_holder (sb_is_holder T cc_is_name)
  have cc_is_holder : Callee l.prog w K mg base ft "is_holder" 1 M_is_holder 2 := calleeOf F_is_holder (PySem.W.mg_of X G n_is_holder) b_is_holder g_is_holder
  have g_is_number : FnG l.prog w K mg base 1 a_is_number _ ["thing"] (spM K ft 1 M_is_number) := fnG_of F_is_number scope_is_number (sb_is_number T)
  have cc_is_number : Callee l.prog w K mg base ft "is_number" 1 M_is_number 1 := calleeOf F_is_number (PySem.W.mg_of X G n_is_number) b_is_number g_is_number
  have g_is_key : FnG l.prog w K mg base 2 a_is_key _ ["thing"] (spM K ft 1 M_is_key) := fnG_of F_is_key scope_is_key (sb_is_key T cc_is_number)
  have t_g_is_tuple_of_at_is_key : Tab l.prog w K mg base ft 1 (tab1 0 M_is_key) 2 := tabOf 0 rfl F_is_key b_is_key g_is_key
  have g_is_tuple_of_at_is_key : FnG l.prog w K mg base 3 a_is_tuple_of _ ["is_kind", "thing"] (spM K ft 2 (M_is_tuple_of (tab1 0 M_is_key))) := fnG_of F_is_tuple_of scope_is_tuple_of (sb_is_tuple_of T _ t_g_is_tuple_of_at_is_key)
  have cc_is_tuple_of_at_is_key : Callee l.prog w K mg base ft "is_tuple_of" 2 (M_is_tuple_of (tab1 0 M_is_key)) 3 := calleeOf F_is_tuple_of (PySem.W.mg_of X G n_is_tuple_of) b_is_tuple_of g_is_tuple_of_at_is_key
  have g_is_keys : FnG l.prog w K mg base 4 a_is_keys _ ["thing"] (spM K ft 1 M_is_keys) := fnG_of F_is_keys scope_is_keys (sb_is_keys T cc_is_tuple_of_at_is_key cc_ascends)
  have cc_is_keys : Callee l.prog w K mg base ft "is_keys" 1 M_is_keys 4 := calleeOf F_is_keys (PySem.W.mg_of X G n_is_keys) b_is_keys g_is_keys
  have g_is_hand : FnG l.prog w K mg base 5 a_is_hand _ ["thing"] (spM K ft 1 M_is_hand) := fnG_of F_is_hand scope_is_hand (sb_is_hand T cc_is_pair cc_is_holder cc_is_keys)
  have t_g_is_tuple_of_at_is_hand : Tab l.prog w K mg base ft 1 (tab1 2 M_is_hand) 5 := tabOf 2 rfl F_is_hand b_is_hand g_is_hand
  have g_is_tuple_of_at_is_hand : FnG l.prog w K mg base 6 a_is_tuple_of _ ["is_kind", "thing"] (spM K ft 2 (M_is_tuple_of (tab1 2 M_is_hand))) := fnG_of F_is_tuple_of scope_is_tuple_of (sb_is_tuple_of T _ t_g_is_tuple_of_at_is_hand)
  have cc_is_tuple_of_at_is_hand : Callee l.prog w K mg base ft "is_tuple_of" 2 (M_is_tuple_of (tab1 2 M_is_hand)) 6 := calleeOf F_is_tuple_of (PySem.W.mg_of X G n_is_tuple_of) b_is_tuple_of g_is_tuple_of_at_is_hand
  have cc_is_key : Callee l.prog w K mg base ft "is_key" 1 M_is_key 2 := calleeOf F_is_key (PySem.W.mg_of X G n_is_key) b_is_key g_is_key
  have g_is_text : FnG l.prog w K mg base 2 a_is_text _ ["thing"] (spM K ft 1 M_is_text) := fnG_of F_is_text scope_is_text (sb_is_text T cc_is_pair cc_is_name cc_is_number)
  have cc_is_text : Callee l.prog w K mg base ft "is_text" 1 M_is_text 2 := calleeOf F_is_text (PySem.W.mg_of X G n_is_text) b_is_text g_is_text
  have g_is_thing : FnG l.prog w K mg base 3 a_is_thing _ ["thing"] (spM K ft 1 M_is_thing) := fnG_of F_is_thing scope_is_thing (sb_is_thing T cc_is_key cc_is_text)
  have cc_is_thing : Callee l.prog w K mg base ft "is_thing" 1 M_is_thing 3 := calleeOf F_is_thing (PySem.W.mg_of X G n_is_thing) b_is_thing g_is_thing
  have g_is_box : FnG l.prog w K mg base 5 a_is_box _ ["thing"] (spM K ft 1 M_is_box) := fnG_of F_is_box scope_is_box (sb_is_box T cc_is_pair cc_is_thing cc_is_keys)
  have t_g_is_tuple_of_at_is_box : Tab l.prog w K mg base ft 1 (tab1 1 M_is_box) 5 := tabOf 1 rfl F_is_box b_is_box g_is_box
  have g_is_tuple_of_at_is_box : FnG l.prog w K mg base 6 a_is_tuple_of _ ["is_kind", "thing"] (spM K ft 2 (M_is_tuple_of (tab1 1 M_is_box))) := fnG_of F_is_tuple_of scope_is_tuple_of (sb_is_tuple_of T _ t_g_is_tuple_of_at_is_box)
  have cc_is_tuple_of_at_is_box : Callee l.prog w K mg base ft "is_tuple_of" 2 (M_is_tuple_of (tab1 1 M_is_box)) 6 := calleeOf F_is_tuple_of (PySem.W.mg_of X G n_is_tuple_of) b_is_tuple_of g_is_tuple_of_at_is_box
  have g_is_boxes : FnG l.prog w K mg base 7 a_is_boxes _ ["thing"] (spM K ft 1 M_is_boxes) := fnG_of F_is_boxes scope_is_boxes (sb_is_boxes T cc_is_tuple_of_at_is_box)
  have cc_is_boxes : Callee l.prog w K mg base ft "is_boxes" 1 M_is_boxes 7 := calleeOf F_is_boxes (PySem.W.mg_of X G n_is_boxes) b_is_boxes g_is_boxes
  have g_is_shelf : FnG l.prog w K mg base 8 a_is_shelf _ ["thing"] (spM K ft 1 M_is_shelf) := fnG_of F_is_shelf scope_is_shelf (sb_is_shelf T cc_ascends cc_is_pair cc_is_tuple_of_at_is_hand cc_is_boxes)
  have ck_is_shelf_thing : CalleeK l.prog w K mg base ft "is_shelf" ["thing"] gId M_is_shelf 8 := calleeK_of F_is_shelf (PySem.W.mg_of X G n_is_shelf) ⟨fun s ws _ hl => match ws, hl with | [_], _ => .of_eq rfl, fun hl r => r, fun hl r => r, fun hl => hl⟩ g_is_shelf
  have ck_is_boxes_thing : CalleeK l.prog w K mg base ft "is_boxes" ["thing"] gId M_is_boxes 7 := calleeK_of F_is_boxes (PySem.W.mg_of X G n_is_boxes) ⟨fun s ws _ hl => match ws, hl with | [_], _ => .of_eq rfl, fun hl r => r, fun hl r => r, fun hl => hl⟩ g_is_boxes
  have ck_is_box_thing : CalleeK l.prog w K mg base ft "is_box" ["thing"] gId M_is_box 5 := calleeK_of F_is_box (PySem.W.mg_of X G n_is_box) ⟨fun s ws _ hl => match ws, hl with | [_], _ => .of_eq rfl, fun hl r => r, fun hl r => r, fun hl => hl⟩ g_is_box
  have ck_is_keys_thing : CalleeK l.prog w K mg base ft "is_keys" ["thing"] gId M_is_keys 4 := calleeK_of F_is_keys (PySem.W.mg_of X G n_is_keys) ⟨fun s ws _ hl => match ws, hl with | [_], _ => .of_eq rfl, fun hl r => r, fun hl r => r, fun hl => hl⟩ g_is_keys
  have ck_is_thing_thing : CalleeK l.prog w K mg base ft "is_thing" ["thing"] gId M_is_thing 3 := calleeK_of F_is_thing (PySem.W.mg_of X G n_is_thing) ⟨fun s ws _ hl => match ws, hl with | [_], _ => .of_eq rfl, fun hl r => r, fun hl r => r, fun hl => hl⟩ g_is_thing
  have ck_is_text_thing : CalleeK l.prog w K mg base ft "is_text" ["thing"] gId M_is_text 2 := calleeK_of F_is_text (PySem.W.mg_of X G n_is_text) ⟨fun s ws _ hl => match ws, hl with | [_], _ => .of_eq rfl, fun hl r => r, fun hl r => r, fun hl => hl⟩ g_is_text
  have ck_is_key_thing : CalleeK l.prog w K mg base ft "is_key" ["thing"] gId M_is_key 2 := calleeK_of F_is_key (PySem.W.mg_of X G n_is_key) ⟨fun s ws _ hl => match ws, hl with | [_], _ => .of_eq rfl, fun hl r => r, fun hl r => r, fun hl => hl⟩ g_is_key
  have ck_is_name_thing : CalleeK l.prog w K mg base ft "is_name" ["thing"] gId M_is_name 1 := calleeK_of F_is_name (PySem.W.mg_of X G n_is_name) ⟨fun s ws _ hl => match ws, hl with | [_], _ => .of_eq rfl, fun hl r => r, fun hl r => r, fun hl => hl⟩ g_is_name
  have cc_is_shelf : Callee l.prog w K mg base ft "is_shelf" 1 M_is_shelf 8 := calleeOf F_is_shelf (PySem.W.mg_of X G n_is_shelf) b_is_shelf g_is_shelf
  have cc_is_box : Callee l.prog w K mg base ft "is_box" 1 M_is_box 5 := calleeOf F_is_box (PySem.W.mg_of X G n_is_box) b_is_box g_is_box
  have g_law_rises : FnG l.prog w K mg base 1 a_law_rises _ ["_law_some"] (spM K ft 1 M_law_rises) := fnG_of F_law_rises scope_law_rises (sb_law_rises T)
  have cc_law_rises : Callee l.prog w K mg base ft "_law_rises" 1 M_law_rises 1 := calleeOf F_law_rises (PySem.W.mg_of X G n_law_rises) b_law_rises g_law_rises
  have g_law_named : FnG l.prog w K mg base 1 a_law_named _ ["_law_item"] (spM K ft 1 M_law_named) := fnG_of F_law_named scope_law_named (sb_law_named T)
  have cc_law_named : Callee l.prog w K mg base ft "_law_named" 1 M_law_named 1 := calleeOf F_law_named (PySem.W.mg_of X G n_law_named) b_law_named g_law_named
  have g_law_key : FnG l.prog w K mg base 1 a_law_key _ ["_law_item"] (spM K ft 1 M_law_key) := fnG_of F_law_key scope_law_key (sb_law_key T)
  have cc_law_key : Callee l.prog w K mg base ft "_law_key" 1 M_law_key 1 := calleeOf F_law_key (PySem.W.mg_of X G n_law_key) b_law_key g_law_key
  have g_law_page : FnG l.prog w K mg base 2 a_law_page _ ["_law_item"] (spM K ft 1 M_law_page) := fnG_of F_law_page scope_law_page (sb_law_page T cc_law_named cc_law_key)
  have cc_law_page : Callee l.prog w K mg base ft "_law_page" 1 M_law_page 2 := calleeOf F_law_page (PySem.W.mg_of X G n_law_page) b_law_page g_law_page
  have g_law_keyed : FnG l.prog w K mg base 2 a_law_keyed _ ["_law_item"] (spM K ft 1 M_law_keyed) := fnG_of F_law_keyed scope_law_keyed (sb_law_keyed T cc_law_key cc_law_rises)
  have cc_law_keyed : Callee l.prog w K mg base ft "_law_keyed" 1 M_law_keyed 2 := calleeOf F_law_keyed (PySem.W.mg_of X G n_law_keyed) b_law_keyed g_law_keyed
  have g_law_boxed : FnG l.prog w K mg base 3 a_law_boxed _ ["_law_item"] (spM K ft 1 M_law_boxed) := fnG_of F_law_boxed scope_law_boxed (sb_law_boxed T cc_law_page cc_law_key cc_law_keyed)
  have cc_law_boxed : Callee l.prog w K mg base ft "_law_boxed" 1 M_law_boxed 3 := calleeOf F_law_boxed (PySem.W.mg_of X G n_law_boxed) b_law_boxed g_law_boxed
  have g_law_shelved : FnG l.prog w K mg base 4 a_law_shelved _ ["_law_item"] (spM K ft 1 M_law_shelved) := fnG_of F_law_shelved scope_law_shelved (sb_law_shelved T cc_law_rises cc_law_boxed cc_law_named cc_law_keyed)
  have cc_law_shelved : Callee l.prog w K mg base ft "_law_shelved" 1 M_law_shelved 4 := calleeOf F_law_shelved (PySem.W.mg_of X G n_law_shelved) b_law_shelved g_law_shelved
  have g_law_right : FnG l.prog w K mg base 9 a_law_right _ ["_law_item"] (spM K ft 1 M_law_right) := fnG_of F_law_right scope_law_right (sb_law_right T cc_is_shelf cc_is_boxes cc_is_box cc_law_shelved cc_law_boxed cc_is_keys cc_is_thing cc_is_text cc_is_key cc_is_name cc_law_keyed cc_law_page cc_law_key cc_law_named)
  have cc_law_right : Callee l.prog w K mg base ft "_law_right" 1 M_law_right 9 := calleeOf F_law_right (PySem.W.mg_of X G n_law_right) b_law_right g_law_right
  have g_law_draw : FnG l.prog w K mg base 1 a_law_draw _ ["_law_feed_here", "_law_many"] (spM K ft 2 M_law_draw) := fnG_of F_law_draw scope_law_draw (sb_law_draw T)
  have cc_law_draw : Callee l.prog w K mg base ft "_law_draw" 2 M_law_draw 1 := calleeOf F_law_draw (PySem.W.mg_of X G n_law_draw) b_law_draw g_law_draw
  have g_law_grip : FnG l.prog w K mg base 2 a_law_grip _ ["_law_feed_here", "_law_many", "_law_most"] (spM K ft 3 M_law_grip) := fnG_of F_law_grip scope_law_grip (sb_law_grip T cc_law_draw)
  have cc_law_grip : Callee l.prog w K mg base ft "_law_grip" 3 M_law_grip 2 := calleeOf F_law_grip (PySem.W.mg_of X G n_law_grip) b_law_grip g_law_grip
  have g_law_odd : FnG l.prog w K mg base 2 a_law_odd _ ["_law_feed_here"] (spM K ft 1 M_law_odd) := fnG_of F_law_odd scope_law_odd (sb_law_odd T cc_law_draw)
  have cc_law_odd : Callee l.prog w K mg base ft "_law_odd" 1 M_law_odd 2 := calleeOf F_law_odd (PySem.W.mg_of X G n_law_odd) b_law_odd g_law_odd
  have g_law_bent_all : ∀ n : Nat, FnG l.prog w K mg base (2 + n) a_law_bent _ ["_law_feed_here", "_law_item"] (spM K ft 2 (M_law_bent n)) := fun n => by
    induction n with
    | zero => exact fnG_none
    | succ n ih => exact fnG_of F_law_bent scope_law_bent (sb_law_bent T (calleeOf F_law_bent (PySem.W.mg_of X G n_law_bent) b_law_bent ih) cc_law_odd cc_law_draw)
  have g_law_bent := g_law_bent_all 12
  have cc_law_bent : Callee l.prog w K mg base ft "_law_bent" 2 (M_law_bent 12) 14 := calleeOf F_law_bent (PySem.W.mg_of X G n_law_bent) b_law_bent g_law_bent
  have g_law_lot : FnG l.prog w K mg base 2 a_law_lot _ ["_law_feed_here", "_law_size", "_law_many"] (spM K ft 3 M_law_lot) := fnG_of F_law_lot scope_law_lot (sb_law_lot T cc_law_draw)
  have cc_law_lot : Callee l.prog w K mg base ft "_law_lot" 3 M_law_lot 2 := calleeOf F_law_lot (PySem.W.mg_of X G n_law_lot) b_law_lot g_law_lot
  have g_law_values : FnG l.prog w K mg base 1 a_law_values _ [] (spM K ft 0 M_law_values) := fnG_of F_law_values scope_law_values (sb_law_values T)
  have cc_law_values : Callee l.prog w K mg base ft "_law_values" 0 M_law_values 1 := calleeOf F_law_values (PySem.W.mg_of X G n_law_values) b_law_values g_law_values
  have g_law_feed : FnG l.prog w K mg base 1 a_law_feed _ ["_law_script"] (spM K ft 1 M_law_feed) := fnG_of F_law_feed scope_law_feed (sb_law_feed T)
  have cc_law_feed : Callee l.prog w K mg base ft "_law_feed" 1 M_law_feed 1 := calleeOf F_law_feed (PySem.W.mg_of X G n_law_feed) b_law_feed g_law_feed
  have g_law : FnG l.prog w K mg base 15 fa _ ["_law_script"] (spM K ft 1 M_law) := fnG_of F_law scope_law (sb_law T ck_is_shelf_thing ck_is_boxes_thing ck_is_box_thing ck_is_keys_thing ck_is_thing_thing ck_is_text_thing ck_is_key_thing ck_is_name_thing cc_law_right cc_law_grip cc_law_bent cc_law_lot cc_law_values cc_law_draw cc_law_feed)
  exact g_law.imp fun vs H Q q => q ft
end G
open PySem PySem.W PyProof.Rows in
set_option maxRecDepth 100000 in
set_option maxHeartbeats 0 in
theorem PySem.Challenge.cw_sealshelf_k01_kinds_told_holds : PySem.Challenge.rw_sealshelf_k01_kinds_told.Holds := by
  w_on; o_law; k_head; (case hw => w_witness2)
  k_fill
  refine Mi.walkG (l := PySem.Challenge.rw_sealshelf_k01_kinds_told) (n := 63) (k := 15) (x := "_law_script") (sp := fun K vs H Q => ∀ ft : Nat → Addr, Mi.spM K ft 1 G.M_law vs H Q) rfl (by decide) rfl ⟨rfl, by decide, by decide⟩ (fun w h Y => PySem.W.kIn_of Y) ?F fun K H a ns hl sq ft => Mi.spM_law G.law_true K H a ns hl sq
  case F =>
    intro w mg fa h KX GX hmg
    refine' G.all_mk KX GX hmg ?n_is_number ?l_is_number ?c_is_number ?p_is_number ?n_is_name ?l_is_name ?c_is_name ?p_is_name ?n_is_holder ?l_is_holder ?c_is_holder ?p_is_holder ?n_is_key ?l_is_key ?c_is_key ?p_is_key ?n_is_pair ?l_is_pair ?c_is_pair ?p_is_pair ?n_is_text ?l_is_text ?c_is_text ?p_is_text ?n_is_thing ?l_is_thing ?c_is_thing ?p_is_thing ?n_is_tuple_of ?l_is_tuple_of ?c_is_tuple_of ?p_is_tuple_of ?n_ascends ?l_ascends ?c_ascends ?p_ascends ?n_is_keys ?l_is_keys ?c_is_keys ?p_is_keys ?n_is_box ?l_is_box ?c_is_box ?p_is_box ?n_is_boxes ?l_is_boxes ?c_is_boxes ?p_is_boxes ?n_is_hand ?l_is_hand ?c_is_hand ?p_is_hand ?n_is_shelf ?l_is_shelf ?c_is_shelf ?p_is_shelf ?n_law_feed ?l_law_feed ?c_law_feed ?p_law_feed ?n_law_draw ?l_law_draw ?c_law_draw ?p_law_draw ?n_law_key ?l_law_key ?c_law_key ?p_law_key ?n_law_named ?l_law_named ?c_law_named ?p_law_named ?n_law_page ?l_law_page ?c_law_page ?p_law_page ?n_law_rises ?l_law_rises ?c_law_rises ?p_law_rises ?n_law_keyed ?l_law_keyed ?c_law_keyed ?p_law_keyed ?n_law_boxed ?l_law_boxed ?c_law_boxed ?p_law_boxed ?n_law_grip ?l_law_grip ?c_law_grip ?p_law_grip ?n_law_lot ?l_law_lot ?c_law_lot ?p_law_lot ?n_law_odd ?l_law_odd ?c_law_odd ?p_law_odd ?n_law_bent ?l_law_bent ?c_law_bent ?p_law_bent ?n_law_shelved ?l_law_shelved ?c_law_shelved ?p_law_shelved ?n_law_right ?l_law_right ?c_law_right ?p_law_right ?n_law_values ?l_law_values ?c_law_values ?p_law_values ?n_law ?l_law ?c_law ?p_law ?z_all ?z_bool ?z_int ?z_isinstance ?z_len ?z_list ?z_ord ?z_range ?z_repr ?z_sorted ?z_str ?z_tuple
    (case n_is_number => k_is)
    (case l_is_number => k_is)
    (case c_is_number => k_is)
    (case p_is_number => k_is)
    (case n_is_name => k_is)
    (case l_is_name => k_is)
    (case c_is_name => k_is)
    (case p_is_name => k_is)
    (case n_is_holder => k_is)
    (case l_is_holder => k_is)
    (case c_is_holder => k_is)
    (case p_is_holder => k_is)
    (case n_is_key => k_is)
    (case l_is_key => k_is)
    (case c_is_key => k_is)
    (case p_is_key => k_is)
    (case n_is_pair => k_is)
    (case l_is_pair => k_is)
    (case c_is_pair => k_is)
    (case p_is_pair => k_is)
    (case n_is_text => k_is)
    (case l_is_text => k_is)
    (case c_is_text => k_is)
    (case p_is_text => k_is)
    (case n_is_thing => k_is)
    (case l_is_thing => k_is)
    (case c_is_thing => k_is)
    (case p_is_thing => k_is)
    (case n_is_tuple_of => k_is)
    (case l_is_tuple_of => k_is)
    (case c_is_tuple_of => k_is)
    (case p_is_tuple_of => k_is)
    (case n_ascends => k_is)
    (case l_ascends => k_is)
    (case c_ascends => k_is)
    (case p_ascends => k_is)
    (case n_is_keys => k_is)
    (case l_is_keys => k_is)
    (case c_is_keys => k_is)
    (case p_is_keys => k_is)
    (case n_is_box => k_is)
    (case l_is_box => k_is)
    (case c_is_box => k_is)
    (case p_is_box => k_is)
    (case n_is_boxes => k_is)
    (case l_is_boxes => k_is)
    (case c_is_boxes => k_is)
    (case p_is_boxes => k_is)
    (case n_is_hand => k_is)
    (case l_is_hand => k_is)
    (case c_is_hand => k_is)
    (case p_is_hand => k_is)
    (case n_is_shelf => k_is)
    (case l_is_shelf => k_is)
    (case c_is_shelf => k_is)
    (case p_is_shelf => k_is)
    (case n_law_feed => k_is)
    (case l_law_feed => k_is)
    (case c_law_feed => k_is)
    (case p_law_feed => k_is)
    (case n_law_draw => k_is)
    (case l_law_draw => k_is)
    (case c_law_draw => k_is)
    (case p_law_draw => k_is)
    (case n_law_key => k_is)
    (case l_law_key => k_is)
    (case c_law_key => k_is)
    (case p_law_key => k_is)
    (case n_law_named => k_is)
    (case l_law_named => k_is)
    (case c_law_named => k_is)
    (case p_law_named => k_is)
    (case n_law_page => k_is)
    (case l_law_page => k_is)
    (case c_law_page => k_is)
    (case p_law_page => k_is)
    (case n_law_rises => k_is)
    (case l_law_rises => k_is)
    (case c_law_rises => k_is)
    (case p_law_rises => k_is)
    (case n_law_keyed => k_is)
    (case l_law_keyed => k_is)
    (case c_law_keyed => k_is)
    (case p_law_keyed => k_is)
    (case n_law_boxed => k_is)
    (case l_law_boxed => k_is)
    (case c_law_boxed => k_is)
    (case p_law_boxed => k_is)
    (case n_law_grip => k_is)
    (case l_law_grip => k_is)
    (case c_law_grip => k_is)
    (case p_law_grip => k_is)
    (case n_law_lot => k_is)
    (case l_law_lot => k_is)
    (case c_law_lot => k_is)
    (case p_law_lot => k_is)
    (case n_law_odd => k_is)
    (case l_law_odd => k_is)
    (case c_law_odd => k_is)
    (case p_law_odd => k_is)
    (case n_law_bent => k_is)
    (case l_law_bent => k_is)
    (case c_law_bent => k_is)
    (case p_law_bent => k_is)
    (case n_law_shelved => k_is)
    (case l_law_shelved => k_is)
    (case c_law_shelved => k_is)
    (case p_law_shelved => k_is)
    (case n_law_right => k_is)
    (case l_law_right => k_is)
    (case c_law_right => k_is)
    (case p_law_right => k_is)
    (case n_law_values => k_is)
    (case l_law_values => k_is)
    (case c_law_values => k_is)
    (case p_law_values => k_is)
    (case n_law => k_is)
    (case l_law => k_is)
    (case c_law => k_is)
    (case p_law => k_is)
    (case z_all => k_is)
    (case z_bool => k_is)
    (case z_int => k_is)
    (case z_isinstance => k_is)
    (case z_len => k_is)
    (case z_list => k_is)
    (case z_ord => k_is)
    (case z_range => k_is)
    (case z_repr => k_is)
    (case z_sorted => k_is)
    (case z_str => k_is)
    (case z_tuple => k_is)