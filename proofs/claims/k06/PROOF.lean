import PyProof.Rows.All
import Wide.All
import OpenK.AllK
import Wide.FinOn
import HandS.ForMost
import HandS.Deep
import HandS.TupAny
import HandS.IsInst
import HandS.Flow
import HandS.Zip
import HandS.Rev
import HandS.RevRange
import HandS.SortInts
import HandS.Style
import HandS.Exc
import PyProof.ReprRoads
import HandS.ExcOwn
import HandS.More
import HandS.SetFor
import KE.SortData
import KE.DataCmp
import HandS.Conv
import PyProof.ReprLen
import HandS.SetBool
import HandS.Strs
import HandS.DictComp
import KE.GoesEnum
import HandS.Iter
import PyProof.IsRules
import HandS.WordsDict
import PyProof.TupleOfSeq
import HandS.Sort
import PyProof.ListMulRoad
import KE.SortKeyHeap
import HandS.SortKw
import KE.KDictCopyH
import KE.KDictKeyed
import HandS.NoneIn
import KE.DataFind
import HandS.SortOrd
import HandS.TupLen
import HandS.ExcInit
import HandS.ExcField
import HandS.ExcIs
import HandS.FStr
import HandS.FStrTup
import HandS.ClsMeth
import KE.KExcIs
import HandS.Defaults
import HandS.TryOnly
import PySem.Challenge.RW_barstay_k06_shapes_at_heights
set_option Elab.async false
set_option maxRecDepth 100000
set_option linter.all false
/-! D0: a layer of plain data over the hand layer: what an expression, a statement, a def does is a Lean function of data (PyData), the heap is dealt with once. -/
namespace Bd
open PySem L2

abbrev D := PyData
/-- an answer: a value; an exception (its class, its word, its place); or nothing is told -/
inductive R (α : Type) where
  | ok (a : α)
  | ex (c w : Str) (p : D)
  | no
def R.bind {α β : Type} : R α → (α → R β) → R β
  | .ok a, f => f a
  | .ex c w p, _ => .ex c w p
  | .no, _ => .no
instance : Monad R where
  pure := R.ok
  bind := R.bind
@[simp] theorem R.ok_bind {α β : Type} (a : α) (f : α → R β) : (R.ok a).bind f = f a := Eq.trans rfl rfl
@[simp] theorem R.no_bind {α β : Type} (f : α → R β) : (R.no : R α).bind f = R.no := Eq.trans rfl rfl
@[simp] theorem R.ex_bind {α β : Type} (c w : Str) (p : D) (f : α → R β) : (R.ex c w p : R α).bind f = R.ex c w p := Eq.trans rfl rfl

/-! ### data in the heap -/
/-- the heap without the cells at A -/
def hid (A : List Addr) (H : Hp) : Hp := fun b => if b ∈ A then none else H b
theorem hid_out {A : List Addr} {H : Hp} {b : Addr} (h : b ∉ A) : hid A H b = H b := if_neg h
theorem hid_in {A : List Addr} {H : Hp} {b : Addr} (h : b ∈ A) : hid A H b = none := if_pos h
theorem hid_some {A : List Addr} {H : Hp} {b : Addr} {o : HO} (h : hid A H b = some o) : b ∉ A ∧ H b = some o := by
  by_cases q : b ∈ A
  · rw [hid_in q] at h
    cases h
  · rw [hid_out q] at h
    exact ⟨q, h⟩
theorem hid_le (A : List Addr) (H : Hp) : Same (hid A H) H := fun _ _ e => (hid_some e).2
theorem hid_mono {A B : List Addr} {H : Hp} (h : ∀ b ∈ B, b ∈ A) : Same (hid A H) (hid B H) := fun b o e => by
  obtain ⟨n, e⟩ := hid_some e
  rw [hid_out fun q => n (h b q)]
  exact e
theorem hid_same {A : List Addr} {H H' : Hp} (s : Same H H') : Same (hid A H) (hid A H') := fun b o e => by
  obtain ⟨n, e⟩ := hid_some e
  rw [hid_out n]
  exact s b o e
/-- a cell that was free is hidden too -/
theorem hid_new {A : List Addr} {H H' : Hp} {p : Addr} (s : Same H H') (hp : H p = none) : Same (hid A H) (hid (p :: A) H') := fun b o e => by
  obtain ⟨n, e⟩ := hid_some e
  rw [hid_out fun q => (List.mem_cons.mp q).elim (fun z => by subst z; rw [hp] at e; cases e) n]
  exact s b o e
theorem hid_upd {A : List Addr} {H : Hp} {a : Addr} {o : HO} (h : a ∈ A) : hid A (upd H a o) = hid A H := by
  funext b
  by_cases q : b ∈ A
  · rw [hid_in q, hid_in q]
  · rw [hid_out q, hid_out q, upd_ne fun z => q (by rw [z]; exact h)]
theorem same_new {H : Hp} {p : Addr} {o : HO} (h : H p = none) : Same H (upd H p o) := fun b x e => by
  rw [upd_ne (ne_of_none e h)]
  exact e

section
variable {K : PySem.W.Frag} {H H' : Hp}
theorem sqT_same {a : Addr} {xs : List V} (s : Same H H') (h : SqT K H a xs) : SqT K H' a xs := by
  rcases h with (h | ⟨o, h⟩) | h
  · exact .inl (.inl (s _ _ h))
  · exact .inl (.inr ⟨o, s _ _ h⟩)
  · exact .inr h
mutual
theorem dp_same (s : Same H H') : ∀ (d : D) (v : V), Dp K H v d → Dp K H' v d
  | .none, _, h => by cases h; exact .non
  | .bool b, _, h => by cases h; exact .bl b
  | .int i, _, h => by cases h; exact .int i
  | .str x, _, h => by cases h; exact .str x
  | .list ds, _, h => by
    cases h with
    | lst h1 h2 => exact .lst (s.seq h1) (dpAll_same s ds _ h2)
  | .tuple ds, _, h => by
    cases h with
    | tup h1 h2 => exact .tup (sqT_same s h1) (dpAll_same s ds _ h2)
  | .dict _, _, h => by cases h
theorem dpAll_same (s : Same H H') : ∀ (ds : List D) (vs : List V), DpAll K H vs ds → DpAll K H' vs ds
  | [], _, h => by cases h; exact .nil
  | d :: ds, _, h => by
    cases h with
    | cons h1 h2 => exact .cons (dp_same s d _ h1) (dpAll_same s ds _ h2)
end
theorem Dp_mono {v : V} {d : D} (h : Dp K H v d) (s : Same H H') : Dp K H' v d := dp_same s d v h
theorem DpAll_mono {vs : List V} {ds : List D} (h : DpAll K H vs ds) (s : Same H H') : DpAll K H' vs ds := dpAll_same s ds vs h
theorem DpAll_length : ∀ {vs : List V} {ds : List D}, DpAll K H vs ds → vs.length = ds.length
  | _, _, .nil => rfl
  | _, _, .cons _ t => by rw [List.length_cons, List.length_cons, DpAll_length t]
theorem DpAll_get : ∀ {vs : List V} {ds : List D} {i : Nat} {d : D}, DpAll K H vs ds → ds[i]? = some d → ∃ v, vs[i]? = some v ∧ Dp K H v d
  | _, _, _, _, .nil, e => by simp at e
  | _, _, 0, _, .cons h _, e => by simp at e; subst e; exact ⟨_, rfl, h⟩
  | _, _, i + 1, d, .cons _ t, e => by
    obtain ⟨v, h1, h2⟩ := DpAll_get (i := i) (d := d) t (by simpa using e)
    exact ⟨v, by simpa using h1, h2⟩
theorem DpAll_append : ∀ {vs ws : List V} {ds es : List D}, DpAll K H vs ds → DpAll K H ws es → DpAll K H (vs ++ ws) (ds ++ es)
  | _, _, _, _, .nil, s => s
  | _, _, _, _, .cons h t, s => .cons h (DpAll_append t s)
theorem DpAll_take : ∀ {vs : List V} {ds : List D} (n : Nat), DpAll K H vs ds → DpAll K H (vs.take n) (ds.take n)
  | _, _, 0, _ => .nil
  | _, _, _ + 1, .nil => .nil
  | _, _, n + 1, .cons h t => .cons h (DpAll_take n t)
theorem DpAll_drop : ∀ {vs : List V} {ds : List D} (n : Nat), DpAll K H vs ds → DpAll K H (vs.drop n) (ds.drop n)
  | _, _, 0, h => h
  | _, _, _ + 1, .nil => .nil
  | _, _, n + 1, .cons _ t => DpAll_drop n t
theorem DpAll_rev : ∀ {vs : List V} {ds : List D}, DpAll K H vs ds → DpAll K H vs.reverse ds.reverse
  | _, _, .nil => .nil
  | _, _, .cons h t => by
    rw [List.reverse_cons, List.reverse_cons]
    exact DpAll_append (DpAll_rev t) (.cons h .nil)
theorem DpAll_ints : ∀ (ns : List Int), DpAll K H (ns.map V.int) (ns.map PyData.int)
  | [] => .nil
  | n :: ns => .cons (.int n) (DpAll_ints ns)
end

/-! ### the def's names -/
/-- a name: nothing is told; data; a list of its own that stands nowhere else -/
structure OL where
  b : Bool
  l : List D
/-- a dict whose keys are tuples of ints: key, where its tuple lies, what stands there -/
abbrev Zr := List Int × Addr × V
def entZ (x : List Int × Addr × Value) : DictEntry := ⟨reduceHash (Builtin.Tuple.tupleHashOf (x.1.map hashInt)), .ref x.2.1, x.2.2⟩
def DcP (a : Addr) (zs : List Zr) (h : Heap) : Prop :=
  ∃ xs : List (List Int × Addr × Value), Paired (fun (z : Zr) (x : List Int × Addr × Value) => z.1 = x.1 ∧ z.2.1 = x.2.1 ∧ RelV z.2.2 x.2.2) zs xs ∧
    ∃ o es ep, h.get? a = some o ∧ o.ExactDict ∧ o.data = .dict es ep ∧ es.toList = xs.map entZ ∧ (xs.map (·.1)).Nodup
def dco (a : Addr) (zs : List Zr) : HO := .ext (DcP a zs)
def ZD (K : PySem.W.Frag) (T : Hp) (z : Zr) (k : D × D) : Prop := k.1 = PyData.tuple (z.1.map PyData.int) ∧ SqT K T z.2.1 (z.1.map V.int) ∧ Dp K T z.2.2 k.2
/-- the dict ks stands at a, read only: its keys tuples of ints -/
def DcT (K : PySem.W.Frag) (T : Hp) (a : Addr) (ks : List (D × D)) : Prop := (a == sysModules) = false ∧ ks.length ≤ sizeLine ∧ ∃ zs, T a = some (dco a zs) ∧ Paired (ZD K T) zs ks
theorem DcT.same {K : PySem.W.Frag} {T T' : Hp} {a : Addr} {ks : List (D × D)} (h : DcT K T a ks) (s : Same T T') : DcT K T' a ks := by
  obtain ⟨h1, h2, zs, h3, h4⟩ := h
  exact ⟨h1, h2, zs, s _ _ h3, Paired.mapP h4 fun z k ⟨e1, e2, e3⟩ => ⟨e1, sqT_same s e2, Dp_mono e3 s⟩⟩
/-- its keys ints: a sign stands ahead -/
def iD (ks : List (Int × D)) : List (D × D) := (PyData.none, PyData.none) :: ks.map fun p => (PyData.int p.1, p.2)
def DcI (K : PySem.W.Frag) (T : Hp) (a : Addr) (ks : List (D × D)) : Prop := ∃ (kvs : List (Key × V)) (ki : List (Int × D)), ks = iD ki ∧ T a = some (.dK kvs) ∧ Paired (fun (p : Key × V) (k : Int × D) => p.1 = Sum.inl k.1 ∧ Dp K T p.2 k.2) kvs ki
theorem DcI.same {K : PySem.W.Frag} {T T' : Hp} {a : Addr} {ks : List (D × D)} (h : DcI K T a ks) (s : Same T T') : DcI K T' a ks := by
  obtain ⟨kvs, ki, h1, h2, h3⟩ := h
  exact ⟨kvs, ki, h1, s _ _ h2, Paired.mapP h3 fun p k ⟨e1, e2⟩ => ⟨e1, Dp_mono e2 s⟩⟩
def DcR (K : PySem.W.Frag) (T : Hp) (a : Addr) (ks : List (D × D)) : Prop := DcT K T a ks ∨ DcI K T a ks
theorem DcR.same {K : PySem.W.Frag} {T T' : Hp} {a : Addr} {ks : List (D × D)} (h : DcR K T a ks) (s : Same T T') : DcR K T' a ks := h.elim (fun h => .inl (h.same s)) fun h => .inr (h.same s)
def isI : List (D × D) → Bool
  | (.none, _) :: _ => true
  | _ => false
theorem DcR.tup {K : PySem.W.Frag} {T : Hp} {a : Addr} {ks : List (D × D)} (h : DcR K T a ks) (t : isI ks = false) : DcT K T a ks := by
  rcases h with h | ⟨kvs, ki, rfl, _, _⟩
  · exact h
  · cases t
/-- a dict of the def's own: its keys ints; or tuples of ints -/
inductive Dks where
  | int (ks : List (Int × D))
  | tup (ks : List (List Int × D))
/-- what such a dict is in the heap -/
def DoS (o : HO) : Prop := (∃ kvs, o = .dK kvs) ∨ ∃ p, o = .ext p
theorem notDo {xs : List V} (h : DoS (.lst xs)) : False := by
  rcases h with ⟨_, e⟩ | ⟨_, e⟩ <;> cases e
def DoR (K : PySem.W.Frag) (T : Hp) (a : Addr) (o : HO) : Dks → Prop
  | .int ks => ∃ kvs : List (Key × V), o = .dK kvs ∧ Paired (fun (p : Key × V) (k : Int × D) => p.1 = Sum.inl k.1 ∧ Dp K T p.2 k.2) kvs ks
  | .tup ks => ∃ zs : List Zr, (a == sysModules) = false ∧ o = dco a zs ∧ Paired (fun (z : Zr) (k : List Int × D) => z.1 = k.1 ∧ SqT K T z.2.1 (z.1.map V.int) ∧ Dp K T z.2.2 k.2) zs ks
/-- a dict of the def's own -/
def DkR (K : PySem.W.Frag) (H : Hp) (A : List Addr) (a : Addr) (ks : Dks) : Prop := ∃ o, H a = some o ∧ DoS o ∧ DoR K (hid A H) a o ks
theorem DkR.keep {K : PySem.W.Frag} {H H' : Hp} {A A' : List Addr} {a : Addr} {ks : Dks} (h : DkR K H A a ks) (s : Same (hid A H) (hid A' H')) (ha : ∀ o, DoS o → H a = some o → H' a = some o) : DkR K H' A' a ks := by
  obtain ⟨o, h1, so, h2⟩ := h
  refine ⟨o, ha o so h1, so, ?_⟩
  cases ks with
  | int ks =>
    obtain ⟨kvs, e, q⟩ := h2
    exact ⟨kvs, e, Paired.mapP q fun p k ⟨e1, e2⟩ => ⟨e1, Dp_mono e2 s⟩⟩
  | tup ks =>
    obtain ⟨zs, n, e, q⟩ := h2
    exact ⟨zs, n, e, Paired.mapP q fun z k ⟨e1, e2, e3⟩ => ⟨e1, sqT_same s e2, Dp_mono e3 s⟩⟩
/-- at a: an exception of the class at C, its dict at dd -/
def exN (a C dd : Addr) : HO := .ext fun h => ∃ (o : Obj) (vs : Array Value), h.get? a = some o ∧ o.cls = .ref C ∧ o.dict = some dd ∧ o.data = .fields vs
/-- a caught exception: its class (by the name that the program gives it), its word, its place -/
def ExH (K : PySem.W.Frag) (T : Hp) (a : Addr) (c w : Str) (p : D) : Prop :=
  ∃ (C dd : Addr) (v : V), PySem.W.nsIn K mainGlobals c = some (some (.ref C)) ∧ T a = some (exN a C dd) ∧ T dd = some (.xd [("place", v), ("word", .str w)]) ∧ Dp K T v p
theorem ExH.same {K : PySem.W.Frag} {T T' : Hp} {a : Addr} {c w : Str} {p : D} (h : ExH K T a c w p) (s : Same T T') : ExH K T' a c w p := by
  obtain ⟨C, dd, v, h1, h2, h3, h4⟩ := h
  exact ⟨C, dd, v, h1, s _ _ h2, s _ _ h3, Dp_mono h4 s⟩
inductive Sl where
  | no
  | d (x : D)
  | own (xs : OL)
  | m (x : List (D × D))
  | dk (ks : Dks)
  | x (c w : Str) (p : D)
abbrev Nv := List Sl
def SlotR (K : PySem.W.Frag) (H : Hp) (A : List Addr) : Option V → Sl → Prop
  | _, .no => True
  | some v, .d x => Dp K (hid A H) v x
  | some (.ref a), .own xs => a ∈ A ∧ ∃ vs, H a = some (.lst vs) ∧ DpAll K (hid A H) vs xs.l
  | some (.ref a), .m x => DcR K (hid A H) a x
  | some (.ref a), .dk ks => a ∈ A ∧ DkR K H A a ks
  | some (.ref a), .x c w p => ExH K (hid A H) a c w p
  | _, _ => False
theorem SlotR.m' {K : PySem.W.Frag} {H H' : Hp} {A A' : List Addr} {o : Option V} {x : List (D × D)} (h : SlotR K H A o (.m x)) (s : Same (hid A H) (hid A' H')) : SlotR K H' A' o (.m x) := by
  match o, h with
  | some (.ref a), h => exact DcR.same (show DcR K (hid A H) a x from h) s
theorem SlotR.x' {K : PySem.W.Frag} {H H' : Hp} {A A' : List Addr} {o : Option V} {c w : Str} {p : D} (h : SlotR K H A o (.x c w p)) (s : Same (hid A H) (hid A' H')) : SlotR K H' A' o (.x c w p) := by
  match o, h with
  | some (.ref a), h => exact ExH.same (show ExH K (hid A H) a c w p from h) s
structure EnvD (K : PySem.W.Frag) (H : Hp) (A : List Addr) (σ : St) (η : Nv) : Prop where
  len : σ.length = η.length
  at_ : ∀ (i : Nat) (s : Sl), η[i]? = some s → ∃ o, σ[i]? = some o ∧ SlotR K H A o s
  ap : ∀ (i j : Nat) (a : Addr) (xs ys : OL), η[i]? = some (.own xs) → η[j]? = some (.own ys) → σ[i]? = some (some (.ref a)) → σ[j]? = some (some (.ref a)) → i = j
  tr : ∀ a ∈ A, H a ≠ none
section
variable {K : PySem.W.Frag} {H H' : Hp} {A A' : List Addr} {σ : St} {η : Nv}
theorem SlotR.keep {o : Option V} {s : Sl} (h : SlotR K H A o s) (k : Same (hid A H) (hid A' H')) (hA : ∀ a ∈ A, a ∈ A') (hl : ∀ a u, a ∈ A → H a = some u → H' a = some u) : SlotR K H' A' o s := by
  cases s with
  | no => cases o <;> trivial
  | d x =>
    cases o with
    | none => exact h
    | some v => exact Dp_mono (show Dp K (hid A H) v x from h) k
  | own xs =>
    match o, h with
    | some (.ref a), ⟨m, vs, e, q⟩ => exact ⟨hA a m, vs, hl a _ m e, DpAll_mono q k⟩
  | m x => exact h.m' k
  | x c w p => exact h.x' k
  | dk ks =>
    match o, h with
    | some (.ref a), ⟨m, q⟩ => exact ⟨hA a m, q.keep k fun o _ e => hl a _ m e⟩
theorem EnvD.same (h : EnvD K H A σ η) (s : Same H H') : EnvD K H' A σ η where
  len := h.len
  at_ := fun i x e => by
    obtain ⟨o, e1, q⟩ := h.at_ i x e
    exact ⟨o, e1, q.keep (hid_same s) (fun _ m => m) fun a vs _ z => s _ _ z⟩
  ap := h.ap
  tr := fun a m z => by
    cases q : H a with
    | none => exact h.tr a m q
    | some o =>
      rw [s a o q] at z
      cases z
/-- a cell that was free is hidden -/
theorem EnvD.new {p : Addr} (h : EnvD K H A σ η) (s : Same H H') (hp : H p = none) (hp' : H' p ≠ none) : EnvD K H' (p :: A) σ η where
  len := h.len
  at_ := fun i x e => by
    obtain ⟨o, e1, q⟩ := h.at_ i x e
    exact ⟨o, e1, q.keep (hid_new s hp) (fun _ m => List.mem_cons_of_mem _ m) fun a vs _ z => s _ _ z⟩
  ap := h.ap
  tr := fun a m => by
    rcases List.mem_cons.mp m with rfl | m
    · exact hp'
    · exact (h.same s).tr a m
theorem EnvD.fresh {p : Addr} (h : EnvD K H A σ η) (hp : H p = none) : p ∉ A := fun m => h.tr p m hp
end

/-! ### readings of expressions -/
/-- how a value lies: the heap ahead, behind, what is hidden, the value, its data -/
abbrev Rl := Hp → Hp → List Addr → V → D → Prop
/-- data -/
def rD (K : PySem.W.Frag) : Rl := fun _ H' A v d => Dp K (hid A H') v d
/-- data, or a list of the def's own -/
def rO (K : PySem.W.Frag) : Rl := fun _ H' A v d => Dp K (hid A H') v d ∨ ∃ a vs ds, v = .ref a ∧ d = .list ds ∧ H' a = some (.lst vs) ∧ DpAll K (hid A H') vs ds
/-- a new list -/
def rF (K : PySem.W.Frag) : Rl := fun H H' A v d => ∃ p vs ds, v = .ref p ∧ d = .list ds ∧ H p = none ∧ H' p = some (.lst vs) ∧ DpAll K (hid (p :: A) H') vs ds
/-- an exception of the program: its class, word, place -/
def ExR (K : PySem.W.Frag) (mg : Str → Option Value) (H : Hp) (cls : Value) (dd : Option Addr) (c w : Str) (p : D) : Prop :=
  mg c = some cls ∧ ∃ dx v, dd = some dx ∧ H dx = some (.xd [("place", v), ("word", .str w)]) ∧ Dp K H v p
/-- what an answer asks -/
def Post (K : PySem.W.Frag) (mg : Str → Option Value) (W : WX) (rl : Rl) (σ : St) (A : List Addr) (H : Hp) (r : R D) (Q : VK) : Prop :=
  match r with
  | .ok d => ∀ v H', Same H H' → rl H H' A v d → Q v H'
  | .ex c w p => ∀ cls dd H', Same H H' → ExR K mg (hid A H') cls dd c w p → W cls dd σ H'
  | .no => False
def tR (K : PySem.W.Frag) (mg : Str → Option Value) (W : WX) (rl : Rl) (F : Nv → R D) : TE := fun σ H Q => ∃ η A, EnvD K H A σ η ∧ Post K mg W rl σ A H (F η) Q
theorem peW {X : Cx} {e : Expr} {t t' : TE} (h : PE X e t) (k : ∀ σ H Q, t' σ H Q → t σ H Q) : PE X e t' := ⟨fun pins s σ H Q I q => h.run pins s σ H Q I (k _ _ _ q)⟩
/-- the heap ahead may be an earlier one -/
def Back (rl : Rl) : Prop := ∀ H H1 H' A v d, Same H H1 → rl H1 H' A v d → rl H H' A v d
theorem back_D {K : PySem.W.Frag} : Back (rD K) := fun _ _ _ _ _ _ _ h => h
theorem back_F {K : PySem.W.Frag} : Back (rF K) := fun _ _ _ _ _ _ s ⟨p, vs, ds, a, b, c, r⟩ => ⟨p, vs, ds, a, b, s.free c, r⟩
section
variable {K : PySem.W.Frag} {mg : Str → Option Value} {W : WX} {rl : Rl} {σ : St} {A : List Addr} {H H1 : Hp} {Q : VK}
theorem Post.same {r : R D} (b : Back rl) (s : Same H H1) (h : Post K mg W rl σ A H r Q) : Post K mg W rl σ A H1 r Q := by
  cases r with
  | ok d => exact fun v H' s' q => h v H' (s.trans s') (b _ _ _ _ _ _ s q)
  | ex c w p => exact fun cls dd H' s' q => h cls dd H' (s.trans s') q
  | no => exact h
/-- THE STEP: a part's answer, then the rest's -/
theorem bindR {rl' : Rl} {F : Nv → R D} {g : Nv → D → R D} (b : Back rl) (h : tR K mg W rl (fun η => (F η).bind (g η)) σ H Q) :
    tR K mg W rl' F σ H fun v H1 => ∃ η A d, Same H H1 ∧ EnvD K H1 A σ η ∧ rl' H H1 A v d ∧ F η = .ok d ∧ Post K mg W rl σ A H1 (g η d) Q := by
  obtain ⟨η, A, E, p0⟩ := h
  refine ⟨η, A, E, ?_⟩
  have p : Post K mg W rl σ A H ((F η).bind (g η)) Q := p0
  cases e : F η with
  | ok d =>
    rw [e] at p
    exact fun v H' s q => ⟨η, A, d, s, E.same s, q, e, Post.same b s p⟩
  | ex c w p' =>
    rw [e] at p
    exact p
  | no =>
    rw [e] at p
    exact p
end

/-- an expression: data; an operand; a new list -/
def TD (X : Cx) (W : WX) (e : Expr) (F : Nv → R D) : Prop := PE X e (tR X.K X.mg W (rD X.K) F)
def TO (X : Cx) (W : WX) (e : Expr) (F : Nv → R D) : Prop := PE X e (tR X.K X.mg W (rO X.K) F)
def TF (X : Cx) (W : WX) (e : Expr) (F : Nv → R D) : Prop := PE X e (tR X.K X.mg W (rF X.K) F)
section
variable {X : Cx} {W : WX} {e : Expr} {F : Nv → R D}
theorem tR_imp {K : PySem.W.Frag} {mg : Str → Option Value} {rl rl' : Rl} {σ : St} {H : Hp} {Q : VK} (k : ∀ (η : Nv) (A : List Addr) (H' : Hp) (v : V) (d : D), EnvD K H A σ η → Same H H' → rl H H' A v d → rl' H H' A v d) (h : tR K mg W rl' F σ H Q) : tR K mg W rl F σ H Q := by
  obtain ⟨η, A, E, p⟩ := h
  refine ⟨η, A, E, ?_⟩
  cases e : F η with
  | ok d =>
    rw [e] at p
    exact fun v H' s q => p v H' s (k η A H' v d E s q)
  | ex c w p' =>
    rw [e] at p
    exact p
  | no =>
    rw [e] at p
    exact p
theorem rF_D {K : PySem.W.Frag} {H H' : Hp} {A : List Addr} {v : V} {d : D} (hA : ∀ p, H p = none → p ∉ A) (h : rF K H H' A v d) : rD K H H' A v d := by
  obtain ⟨p, vs, ds, rfl, rfl, hp, hp', q⟩ := h
  exact .lst (SqL.of (by rw [hid_out (hA p hp)]; exact hp')) (DpAll_mono q (hid_mono fun b m => List.mem_cons_of_mem _ m))
theorem TD.o (h : TD X W e F) : TO X W e F := peW h fun _ _ _ => tR_imp fun _ _ _ _ _ _ _ q => .inl q
theorem TF.d (h : TF X W e F) : TD X W e F := peW h fun _ _ _ => tR_imp fun _ _ _ _ _ E _ q => rF_D (fun _ hp => E.fresh hp) q
theorem TF.o (h : TF X W e F) : TO X W e F := h.d.o
end
end Bd
/-! D1: operators, comparisons, truth, calls of built-ins, over data. -/
namespace Bd
open PySem L2

section
variable {K : PySem.W.Frag} {H H' : Hp} {A : List Addr} {v : V} {d : D}
theorem rO_same (s : Same H H') {Ha Hb : Hp} (h : rO K Ha H A v d) : rO K Hb H' A v d := by
  rcases h with h | ⟨a, vs, ds, rfl, rfl, e, q⟩
  · exact .inl (Dp_mono h (hid_same s))
  · exact .inr ⟨a, vs, ds, rfl, rfl, s _ _ e, DpAll_mono q (hid_same s)⟩
theorem rO_dp {Ha : Hp} (h : rO K Ha H A v d) : Dp K H v d := by
  rcases h with h | ⟨a, vs, ds, rfl, rfl, e, q⟩
  · exact Dp_mono h (hid_le A H)
  · exact .lst (SqL.of e) (DpAll_mono q (hid_le A H))
theorem rO_list {Ha : Hp} {ds : List D} (h : rO K Ha H A v (.list ds)) : ∃ a vs, v = .ref a ∧ SqL K H a vs ∧ DpAll K (hid A H) vs ds := by
  rcases h with h | ⟨a, vs, ds', rfl, e1, e, q⟩
  · cases h with
    | lst h1 h2 => exact ⟨_, _, rfl, (hid_le A H).seq h1, h2⟩
  · cases e1
    exact ⟨a, vs, rfl, SqL.of e, q⟩
theorem rO_tup {Ha : Hp} {ds : List D} (h : rO K Ha H A v (.tuple ds)) : ∃ a vs, v = .ref a ∧ SqT K H a vs ∧ SqT K (hid A H) a vs ∧ DpAll K (hid A H) vs ds := by
  rcases h with h | ⟨a, vs, ds', rfl, e1, e, q⟩
  · cases h with
    | tup h1 h2 => exact ⟨_, _, rfl, sqT_same (hid_le A H) h1, h1, h2⟩
  · cases e1
theorem rO_int {Ha : Hp} {i : Int} (h : rO K Ha H A v (.int i)) : v = .int i := by
  rcases h with h | ⟨a, vs, ds', rfl, e1, e, q⟩
  · cases h; rfl
  · cases e1
theorem rO_bool {Ha : Hp} {i : Bool} (h : rO K Ha H A v (.bool i)) : v = .bl i := by
  rcases h with h | ⟨a, vs, ds', rfl, e1, e, q⟩
  · cases h; rfl
  · cases e1
theorem rO_str {Ha : Hp} {i : Str} (h : rO K Ha H A v (.str i)) : v = .str i := by
  rcases h with h | ⟨a, vs, ds', rfl, e1, e, q⟩
  · cases h; rfl
  · cases e1
end

/-- the answer of a built-in operation -/
def R.of : Option D → R D
  | some d => .ok d
  | none => .no
/-- a two-place operation on operands gives the data f tells, lying as rl says -/
def Op2 (X : Cx) (rl : Rl) (r : R2) (f : D → D → Option D) : Prop :=
  ∀ (H : Hp) (A : List Addr) (x y : V) (a b d : D) (Q : VK), (∀ p ∈ A, H p ≠ none) → rO X.K H H A x a → rO X.K H H A y b → f a b = some d → (∀ v H', Same H H' → rl H H' A v d → Q v H') → r x y H Q
def Op1 (X : Cx) (rl : Rl) (r : V → Hp → VK → Prop) (f : D → Option D) : Prop :=
  ∀ (H : Hp) (A : List Addr) (x : V) (a d : D) (Q : VK), (∀ p ∈ A, H p ≠ none) → rO X.K H H A x a → f a = some d → (∀ v H', Same H H' → rl H H' A v d → Q v H') → r x H Q
section
variable {X : Cx} {W : WX} {rl : Rl} {a b : Expr} {Fa Fb : Nv → R D} {f : D → D → Option D} {g : D → Option D} {r : R2}
def e2 (f : D → D → Option D) (Fa Fb : Nv → R D) : Nv → R D := fun η => (Fa η).bind fun x => (Fb η).bind fun y => .of (f x y)
def e1 (g : D → Option D) (Fa : Nv → R D) : Nv → R D := fun η => (Fa η).bind fun x => .of (g x)
theorem op2_t (hb : Back rl) (ho : Op2 X rl r f) {σ : L2.St} {H : Hp} {Q : VK} (h : tR X.K X.mg W rl (e2 f Fa Fb) σ H Q) : tOp r (tR X.K X.mg W (rO X.K) Fa) (tR X.K X.mg W (rO X.K) Fb) σ H Q := by
  have h1 := bindR (rl' := rO X.K) (F := Fa) (g := fun η x => (Fb η).bind fun y => .of (f x y)) hb h
  refine (show tR X.K X.mg W (rO X.K) Fa σ H _ from ?_)
  obtain ⟨η, A, E, p⟩ := h1
  refine ⟨η, A, E, ?_⟩
  cases e : Fa η with
  | ex c w q => rw [e] at p; exact p
  | no => rw [e] at p; exact p
  | ok d1 =>
    rw [e] at p
    intro v1 H1 s1 q1
    obtain ⟨η1, A1, dd, sm, E1, qd, _, P1⟩ := p v1 H1 s1 q1
    have h2 : tR X.K X.mg W rl (fun η => (Fb η).bind fun y => .of (f dd y)) σ H1 Q := ⟨η1, A1, E1, P1⟩
    have h3 := bindR (rl' := rO X.K) (F := Fb) (g := fun η y => .of (f dd y)) hb h2
    -- the second operand at the same names
    refine ⟨η1, A1, E1, ?_⟩
    cases e2 : Fb η1 with
    | ex c w q =>
      have P1' : Post X.K X.mg W rl σ A1 H1 ((Fb η1).bind fun y => .of (f dd y)) Q := P1
      rw [e2] at P1'
      exact P1'
    | no =>
      have P1' : Post X.K X.mg W rl σ A1 H1 ((Fb η1).bind fun y => .of (f dd y)) Q := P1
      rw [e2] at P1'
      exact P1'
    | ok d2 =>
      have P1' : Post X.K X.mg W rl σ A1 H1 ((Fb η1).bind fun y => .of (f dd y)) Q := P1
      rw [e2] at P1'
      have P2 : Post X.K X.mg W rl σ A1 H1 (.of (f dd d2)) Q := P1'
      intro v2 H2 s2 q2
      cases e3 : f dd d2 with
      | none => rw [e3] at P2; exact False.elim P2
      | some d =>
        rw [e3] at P2
        exact ho H2 A1 v1 v2 dd d2 d Q (E1.same s2).tr (rO_same s2 qd) (rO_same (Same.refl _) q2) e3 fun v H' s q => P2 v H' (s2.trans s) (hb _ _ _ _ _ _ s2 q)
theorem op1_t (hb : Back rl) {r : V → Hp → VK → Prop} (ho : Op1 X rl r g) {σ : L2.St} {H : Hp} {Q : VK} (h : tR X.K X.mg W rl (e1 g Fa) σ H Q) : tUn r (tR X.K X.mg W (rO X.K) Fa) σ H Q := by
  obtain ⟨η, A, E, p0⟩ := h
  have p : Post X.K X.mg W rl σ A H ((Fa η).bind fun x => .of (g x)) Q := p0
  refine ⟨η, A, E, ?_⟩
  cases e : Fa η with
  | ex c w q => rw [e] at p; exact p
  | no => rw [e] at p; exact p
  | ok d1 =>
    rw [e] at p
    have P2 : Post X.K X.mg W rl σ A H (.of (g d1)) Q := p
    intro v1 H1 s1 q1
    cases e3 : g d1 with
    | none => rw [e3] at P2; exact False.elim P2
    | some d =>
      rw [e3] at P2
      exact ho H1 A v1 d1 d Q (E.same s1).tr (rO_same (Same.refl _) q1) e3 fun v H' s q => P2 v H' (s1.trans s) (hb _ _ _ _ _ _ s1 q)
/-- a op b -/
theorem t_op {op : Operator} {pos : Pos} (hb : Back rl) (hop : OpR X (binaryOp op) r) (ho : Op2 X rl r f) (ha : TO X W a Fa) (hc : TO X W b Fb) : PE X (.BinOp a op b pos) (tR X.K X.mg W rl (e2 f Fa Fb)) :=
  peW (pe_op hop ha hc) fun _ _ _ => op2_t hb ho
/-! ### ints and sequences: +, -, *, //, % -/
@[irreducible] def lineN : Nat := 16777216
theorem lineN_eq : lineN = 16777216 := by unfold lineN; rfl
theorem line_eq : sizeLine = lineN := by rw [lineN_eq]; exact sizeLine_eq
def addV : D → D → Option D
  | .int i, .int j => some (.int (i + j))
  | .list xs, .list ys => if xs.length + ys.length ≤ lineN then some (.list (xs ++ ys)) else none
  | .tuple xs, .tuple ys => if xs.length + ys.length ≤ lineN then some (.tuple (xs ++ ys)) else none
  | .str x, .str y => if x.length + y.length ≤ lineN then some (.str (x ++ y)) else none
  | _, _ => none
def rCatS (K : PySem.W.Frag) : R2 := fun x y H Q => ∃ l b xs zs, x = .ref l ∧ y = .ref b ∧ SqL K H l xs ∧ SqL K H b zs ∧ xs.length + zs.length ≤ sizeLine ∧ ∀ p, H p = none → Q (.ref p) (upd H p (.lst (xs ++ zs)))
theorem op_catS : OpR X (binaryOp .Add) (rCatS X.K) := by
  intro pins s σ H x y v u Q I rx ry h
  obtain ⟨l, b, xs, zs, rfl, rfl, h1, h2, hz, q⟩ := h
  cases rx
  cases ry
  obtain ⟨its, r, hl, e⟩ := I.list h1
  obtain ⟨its2, r2, hl2, e2⟩ := I.list h2
  obtain ⟨⟨cls, dd, data, sl⟩, ho, hc, n, hd⟩ := hl.isList
  obtain ⟨⟨cls2, dd2, data2, sl2⟩, ho2, hc2, n2, hd2⟩ := hl2.isList
  simp only at hc hd hc2 hd2
  subst hc hd hc2 hd2
  have ea : its.toArray ++ its2.toArray = (its ++ its2).toArray := by simp
  have hz2 : its.toArray.size + its2.toArray.size ≤ sizeLine := by
    rw [List.size_toArray, List.size_toArray, ← r.length, ← r2.length]
    exact hz
  refine concat_meets ⟨_, ho, rfl⟩ ⟨_, ho2, rfl⟩ noFill_list_add seq_list_add PySem.F.slot_list_add PySem.F.entry_list_add (PySem.F.args_list_add_2 _ _) (PyProof.Rows.list_addW l b its.toArray its2.toArray n n2 dd dd2 sl sl2 hz2) ⟨ho, ho2, ?_⟩
  rw [ea]
  exact ⟨.ref _, _, I.lnew (t' := s.toks) (r.append r2) (by rw [List.length_append]; omega), rfl, q _ I.fresh⟩
def rAddA (K : PySem.W.Frag) : R2 := fun x y H Q => rI0 (fun i j => .int (i + j)) x y H Q ∨ rCatS K x y H Q ∨ rCatA K x y H Q ∨ ∃ i j, x = .str i ∧ y = .str j ∧ i.length + j.length ≤ sizeLine ∧ Q (.str (i ++ j)) H
theorem op_addA : OpR X (binaryOp .Add) (rAddA X.K) := by
  intro pins s σ H x y v u Q I rx ry h
  rcases h with h | h | h | h
  · exact op_add pins s σ H x y v u Q I rx ry h
  · exact op_catS pins s σ H x y v u Q I rx ry h
  · exact op_catA pins s σ H x y v u Q I rx ry h
  · exact op_add_str pins s σ H x y v u Q I rx ry h
theorem dp_new_list {K : PySem.W.Frag} {H : Hp} {A : List Addr} {p : Addr} {vs : List V} {ds : List D} (hA : ∀ a ∈ A, H a ≠ none) (hp : H p = none) (h : DpAll K (hid A H) vs ds) : rF K H (upd H p (.lst vs)) A (.ref p) (.list ds) :=
  ⟨p, vs, ds, rfl, rfl, hp, upd_same, DpAll_mono h (hid_new (same_new hp) hp)⟩
theorem dp_new_tup {K : PySem.W.Frag} {H : Hp} {A : List Addr} {p : Addr} {vs : List V} {ds : List D} (hA : ∀ a ∈ A, H a ≠ none) (hp : H p = none) (h : DpAll K (hid A H) vs ds) : Dp K (hid A (upd H p (.tup vs))) (.ref p) (.tuple ds) :=
  .tup (SqT.of (by rw [hid_out fun m => hA p m hp, upd_same])) (DpAll_mono h (hid_same (same_new hp)))
theorem nofree {H : Hp} {A : List Addr} (hA : ∀ a ∈ A, H a ≠ none) : ∀ p, H p = none → p ∉ A := fun p hp m => hA p m hp
theorem o_add : Op2 X (rD X.K) (rAddA X.K) addV := by
  intro H A x y a b d Q hA ha hb e k
  unfold addV at e
  split at e
  · have e := Option.some.inj e
    subst e
    exact .inl ⟨_, _, rO_int ha, rO_int hb, k _ H (Same.refl _) (.int _)⟩
  · rename_i xs ys
    split at e
    · rename_i hz
      have e := Option.some.inj e
      subst e
      obtain ⟨l, vs, rfl, h1, q1⟩ := rO_list ha
      obtain ⟨l2, vs2, rfl, h2, q2⟩ := rO_list hb
      refine .inr (.inl ⟨l, l2, vs, vs2, rfl, rfl, h1, h2, ?_, fun p hp => k _ _ (same_new hp) (rF_D (nofree hA) (dp_new_list hA hp (DpAll_append q1 q2)))⟩)
      rw [DpAll_length q1, DpAll_length q2, line_eq]
      exact hz
    · cases e
  · rename_i xs ys
    split at e
    · rename_i hz
      have e := Option.some.inj e
      subst e
      obtain ⟨l, vs, rfl, h1, h1', q1⟩ := rO_tup ha
      obtain ⟨l2, vs2, rfl, h2, h2', q2⟩ := rO_tup hb
      refine .inr (.inr (.inl ⟨l, l2, vs, vs2, rfl, rfl, h1, h2, ?_, fun z => ?_, fun _ z => ?_, fun _ _ p hp => k _ _ (same_new hp) (dp_new_tup hA hp (DpAll_append q1 q2))⟩))
      · rw [DpAll_length q1, DpAll_length q2, line_eq]
        exact hz
      · subst z
        cases q1
        exact k _ H (Same.refl _) (.tup h2' q2)
      · subst z
        cases q2
        rw [List.append_nil] at k
        exact k _ H (Same.refl _) (.tup h1' q1)
    · cases e
  · split at e
    · rename_i hz
      have e := Option.some.inj e
      subst e
      exact .inr (.inr (.inr ⟨_, _, rO_str ha, rO_str hb, by rw [line_eq]; exact hz, k _ H (Same.refl _) (.str _)⟩))
    · cases e
  · cases e
def subV : D → D → Option D
  | .int i, .int j => some (.int (i - j))
  | _, _ => none
def mulV : D → D → Option D
  | .int i, .int j => if (-(2 ^ 64) < i ∧ i < 2 ^ 64) ∨ (-(2 ^ 64) < j ∧ j < 2 ^ 64) then some (.int (i * j)) else none
  | _, _ => none
def fdivV : D → D → Option D
  | .int i, .int j => if 0 < j ∧ j < 1073741824 then some (.int (i / j)) else none
  | _, _ => none
def modV : D → D → Option D
  | .int i, .int j => if 0 < j then some (.int (i % j)) else none
  | _, _ => none
def powV : D → D → Option D
  | .int i, .int j => if 0 ≤ j ∧ j ≤ 1000000 ∧ i.natAbs < 2 ^ 64 then some (.int (i ^ j.toNat)) else none
  | _, _ => none
theorem o_sub : Op2 X (rD X.K) (rI0 fun i j => .int (i - j)) subV := by
  intro H A x y a b d Q hA ha hb e k
  unfold subV at e
  split at e
  · have e := Option.some.inj e
    subst e
    exact ⟨_, _, rO_int ha, rO_int hb, k _ H (Same.refl _) (.int _)⟩
  · cases e
theorem o_ifI {C : Int → Int → Prop} [∀ i j, Decidable (C i j)] {g : Int → Int → Int} {f : D → D → Option D} (hf : ∀ a b d, f a b = some d → ∃ i j, a = .int i ∧ b = .int j ∧ C i j ∧ d = .int (g i j)) : Op2 X (rD X.K) (rI C fun i j => .int (g i j)) f := by
  intro H A x y a b d Q hA ha hb e k
  obtain ⟨i, j, rfl, rfl, hc, rfl⟩ := hf a b d e
  exact ⟨i, j, rO_int ha, rO_int hb, hc, k _ H (Same.refl _) (.int _)⟩
instance : ∀ i j, Decidable (CMul i j) := fun i j => by unfold CMul; infer_instance
instance : ∀ i j, Decidable (CDiv i j) := fun i j => by unfold CDiv; infer_instance
instance : ∀ i j, Decidable (CPow i j) := fun i j => by unfold CPow; infer_instance
theorem o_mul : Op2 X (rD X.K) (rI CMul fun i j => .int (i * j)) mulV := o_ifI fun a b d e => by
  unfold mulV at e
  split at e
  · split at e
    · rename_i h
      exact ⟨_, _, rfl, rfl, h, (Option.some.inj e).symm⟩
    · cases e
  · cases e
theorem o_fdiv : Op2 X (rD X.K) (rI CDiv fun i j => .int (i / j)) fdivV := o_ifI fun a b d e => by
  unfold fdivV at e
  split at e
  · split at e
    · rename_i h
      exact ⟨_, _, rfl, rfl, h, (Option.some.inj e).symm⟩
    · cases e
  · cases e
theorem o_mod : Op2 X (rD X.K) (rI (fun _ j => 0 < j) fun i j => .int (i % j)) modV := o_ifI (C := fun _ j => 0 < j) fun a b d e => by
  unfold modV at e
  split at e
  · split at e
    · rename_i h
      exact ⟨_, _, rfl, rfl, h, (Option.some.inj e).symm⟩
    · cases e
  · cases e
theorem o_pow : Op2 X (rD X.K) (rI CPow fun i j => .int (i ^ j.toNat)) powV := o_ifI fun a b d e => by
  unfold powV at e
  split at e
  · split at e
    · rename_i h
      exact ⟨_, _, rfl, rfl, h, (Option.some.inj e).symm⟩
    · cases e
  · cases e
end
end Bd
/-! D2: names, constants, comparisons, truth, built-ins by data. -/
namespace Bd
open PySem L2

section
variable {X : Cx} {W : WX} {rl : Rl} {a b c e : Expr} {Fa Fb Fc F : Nv → R D} {pos : Pos}
/-! ### names and constants -/
def gv (i : Nat) : Nv → R D := fun η => match η[i]? with
  | some (.d x) => .ok x
  | _ => .no
/-- a name's data -/
theorem t_var (i : Nat) {x : Str} (hN : X.N[i]? = some x := by rfl) (hv : Vis X.env.scope x := by first | exact Or.inl rfl | exact Or.inr (Or.inl rfl) | exact Or.inr (Or.inr rfl)) (hd : (x == ("__debug__" : Str)) = false := by decide)
    (hcd : (x == ("__classdict__" : Str)) = false := by decide) : TD X W (.Name x pos) (gv i) := by
  refine peW (pe_var hN hv hd hcd) fun σ H Q h => ?_
  obtain ⟨η, A, E, p0⟩ := h
  have p : Post X.K X.mg W (rD X.K) σ A H (gv i η) Q := p0
  unfold gv at p
  split at p
  · rename_i x e
    obtain ⟨o, e1, q⟩ := E.at_ i _ e
    cases o with
    | none => exact False.elim q
    | some v => exact ⟨v, e1, p v H (Same.refl _) q⟩
  · exact False.elim p
/-- a list of the def's own, read -/
def go (i : Nat) : Nv → R D := fun η => match η[i]? with
  | some (.own xs) => .ok (.list xs.l)
  | some (.d x) => .ok x
  | _ => .no
theorem t_own (i : Nat) {x : Str} (hN : X.N[i]? = some x := by rfl) (hv : Vis X.env.scope x := by first | exact Or.inl rfl | exact Or.inr (Or.inl rfl) | exact Or.inr (Or.inr rfl)) (hd : (x == ("__debug__" : Str)) = false := by decide)
    (hcd : (x == ("__classdict__" : Str)) = false := by decide) : TO X W (.Name x pos) (go i) := by
  refine peW (pe_var hN hv hd hcd) fun σ H Q h => ?_
  obtain ⟨η, A, E, p0⟩ := h
  have p : Post X.K X.mg W (rO X.K) σ A H (go i η) Q := p0
  unfold go at p
  split at p
  · rename_i x e
    obtain ⟨o, e1, q⟩ := E.at_ i _ e
    match o, q with
    | some (.ref a), ⟨m, vs, e2, q⟩ => exact ⟨_, e1, p _ H (Same.refl _) (.inr ⟨a, vs, _, rfl, rfl, e2, q⟩)⟩
  · rename_i x e
    obtain ⟨o, e1, q⟩ := E.at_ i _ e
    cases o with
    | none => exact False.elim q
    | some v => exact ⟨v, e1, p v H (Same.refl _) (.inl q)⟩
  · exact False.elim p
def k0 (d : D) : Nv → R D := fun _ => .ok d
theorem t_const {v : V} {d : D} (h : PE X e (tC v)) (hd : ∀ H, Dp X.K H v d) : TD X W e (k0 d) := peW h fun σ H Q ⟨η, A, E, p⟩ => p v H (Same.refl _) (hd _)
theorem t_int {i : Int} {j : Nat} : TD X W (.Constant (.int i) j pos) (k0 (.int i)) := t_const pe_int fun _ => .int i
theorem t_bool {i : Bool} {j : Nat} : TD X W (.Constant (.bool i) j pos) (k0 (.bool i)) := t_const pe_bl fun _ => .bl i
theorem t_str {i : Str} {j : Nat} : TD X W (.Constant (.str i) j pos) (k0 (.str i)) := t_const pe_str fun _ => .str i
/-- -a -/
def negV : D → Option D
  | .int i => some (.int (-i))
  | _ => none
theorem t_neg (ha : TO X W a Fa) : TD X W (.UnaryOp .USub a pos) (e1 negV Fa) := peW (pe_un un_neg ha) fun _ _ _ => op1_t back_D fun H A x a d Q hA hx e k => by
  unfold negV at e
  split at e
  · have e := Option.some.inj e
    subst e
    exact ⟨_, rO_int hx, k _ H (Same.refl _) (.int _)⟩
  · cases e

/-! ### comparisons -/
/-- a truth value -/
def rB : Rl := fun _ _ _ v d => ∃ k, d = .bool k ∧ v = .bl k
theorem rB_D {K : PySem.W.Frag} {H H' : Hp} {A : List Addr} {v : V} {d : D} (h : rB H H' A v d) : rD K H H' A v d := by
  obtain ⟨k, rfl, rfl⟩ := h
  exact .bl k
theorem t_cmpB {op : CmpOp} {r : R2} {f : D → D → Option D} (hop : OpR X (compareOp op) r) (ho : Op2 X rB r f) (ha : TO X W a Fa) (hc : TO X W b Fb) (h1 : behindInMarks op b = false) : TD X W (.Compare a [op] [b] pos) (e2 f Fa Fb) :=
  peW (pe_cmpR hop ha hc h1) fun _ _ _ => op2_t back_D fun H A x y a b d Q hA h1 h2 e k => ho H A x y a b d Q hA h1 h2 e fun v H' s q => k v H' s (rB_D q)
/-- of two ints -/
def cmpI (p : Int → Int → Bool) : D → D → Option D
  | .int i, .int j => some (.bool (p i j))
  | _, _ => none
theorem o_cmpI {p : Int → Int → Bool} : Op2 X rB (rI0 fun i j => .bl (p i j)) (cmpI p) := by
  intro H A x y a b d Q hA ha hb e k
  unfold cmpI at e
  split at e
  · have e := Option.some.inj e
    subst e
    exact ⟨_, _, rO_int ha, rO_int hb, k _ H (Same.refl _) ⟨_, rfl, rfl⟩⟩
  · cases e
def ltV := cmpI fun i j => decide (i < j)
def leV := cmpI fun i j => decide (i ≤ j)
def gtV := cmpI fun i j => decide (j < i)
def geV := cmpI fun i j => decide (j ≤ i)
/-- == of data -/
def eqV' : D → D → Option D
  | .str a, .str b => some (.bool (decide (a = b)))
  | x, y => if SeqAt.shaped x = true ∧ SeqAt.shaped y = true then some (.bool (PyData.eqv x y)) else none
def neV' : D → D → Option D
  | .str a, .str b => some (.bool (!decide (a = b)))
  | x, y => if SeqAt.shaped x = true ∧ SeqAt.shaped y = true then some (.bool (!PyData.eqv x y)) else none
def rEqA (K : PySem.W.Frag) : R2 := fun x y H Q => rEq x y H Q ∨ rEqD K x y H Q
def rNeA (K : PySem.W.Frag) : R2 := fun x y H Q => rNe x y H Q ∨ rNeD K x y H Q
theorem op_eqA (hu : X.A.units + 64 < cLine) : OpR X (compareOp .Eq) (rEqA X.K) := fun pins s σ H x y v u Q I rx ry h => h.elim (op_eq pins s σ H x y v u Q I rx ry) (op_eqD hu pins s σ H x y v u Q I rx ry)
theorem op_neA (hu : X.A.units + 64 < cLine) : OpR X (compareOp .NotEq) (rNeA X.K) := fun pins s σ H x y v u Q I rx ry h => h.elim (op_ne pins s σ H x y v u Q I rx ry) (op_neD hu pins s σ H x y v u Q I rx ry)
theorem dec_V {a b : Str} : decide (V.str a = V.str b) = decide (a = b) := by
  by_cases e : a = b
  · rw [decide_eq_true e, e]
    exact decide_eq_true rfl
  · rw [decide_eq_false e]
    exact decide_eq_false fun z => e (V.str.inj z)
theorem o_eq : Op2 X rB (rEqA X.K) eqV' := fun H A x y a b d Q hA ha hb e k => by
  unfold eqV' at e
  split at e
  · have e := Option.some.inj e
    subst e
    refine .inl ?_
    rw [rO_str ha, rO_str hb]
    exact ⟨rfl, by rw [dec_V]; exact k _ H (Same.refl _) ⟨_, rfl, rfl⟩⟩
  · split at e
    · rename_i h
      have e := Option.some.inj e
      subst e
      exact .inr ⟨_, _, rO_dp ha, rO_dp hb, h.1, h.2, k _ H (Same.refl _) ⟨_, rfl, rfl⟩⟩
    · cases e
theorem o_ne : Op2 X rB (rNeA X.K) neV' := fun H A x y a b d Q hA ha hb e k => by
  unfold neV' at e
  split at e
  · have e := Option.some.inj e
    subst e
    refine .inl ?_
    rw [rO_str ha, rO_str hb]
    exact ⟨rfl, by rw [dec_V]; exact k _ H (Same.refl _) ⟨_, rfl, rfl⟩⟩
  · split at e
    · rename_i h
      have e := Option.some.inj e
      subst e
      exact .inr ⟨_, _, rO_dp ha, rO_dp hb, h.1, h.2, k _ H (Same.refl _) ⟨_, rfl, rfl⟩⟩
    · cases e
theorem t_eq (hu : X.A.units + 64 < cLine) (ha : TO X W a Fa) (hb : TO X W b Fb) : TD X W (.Compare a [.Eq] [b] pos) (e2 eqV' Fa Fb) := t_cmpB (op_eqA hu) o_eq ha hb (nomark _)
/-- is None -/
def isNone : D → Bool
  | .none => true
  | _ => false
def isV (x y : D) : Option D := match y with
  | .none => some (.bool (isNone x))
  | _ => none
def isnotV (x y : D) : Option D := match y with
  | .none => some (.bool (!isNone x))
  | _ => none
/-! in, not in -/
def flatD : D → Bool
  | .none => true
  | .bool _ => true
  | .int _ => true
  | .str _ => true
  | _ => false
theorem flat_of {K : PySem.W.Frag} {H : Hp} {v : V} {d : D} (h : Dp K H v d) : flatV v = flatD d := by
  cases h <;> rfl
theorem eqV_of {K : PySem.W.Frag} {H : Hp} {v w : V} {d e : D} (h : Dp K H v d) (h' : Dp K H w e) (f : flatD d = true) (f' : flatD e = true) : eqV v w = PyData.eqv d e := by
  cases h with
  | lst _ _ => exact absurd f Bool.false_ne_true
  | tup _ _ => exact absurd f Bool.false_ne_true
  | _ => cases h' with
    | lst _ _ => exact absurd f' Bool.false_ne_true
    | tup _ _ => exact absurd f' Bool.false_ne_true
    | _ => first | rfl | (unfold PyData.eqv; rfl) | (simp [eqV, PyData.eqv])
theorem flats_of {K : PySem.W.Frag} {H : Hp} : ∀ {vs : List V} {ds : List D}, DpAll K H vs ds → vs.all flatV = ds.all flatD
  | _, _, .nil => rfl
  | _, _, .cons h t => by rw [List.all_cons, List.all_cons, flat_of h, flats_of t]
theorem inV_of {K : PySem.W.Frag} {H : Hp} {w : V} {e : D} (h' : Dp K H w e) (f' : flatD e = true) : ∀ {vs : List V} {ds : List D}, DpAll K H vs ds → ds.all flatD = true → inV w vs = ds.any fun z => PyData.eqv z e
  | _, _, .nil, _ => rfl
  | _, _, .cons (ds := ds) h t, f => by
    rw [List.all_cons, Bool.and_eq_true] at f
    have q := inV_of h' f' t f.2
    unfold inV at q ⊢
    rw [List.any_cons, List.any_cons, eqV_of h h' f.1 f', q]
def inD (x c : D) : Option Bool := match c with
  | .list ds => if SeqAt.shaped x = true ∧ SeqAt.shaped (.list ds) = true then some (ds.any fun z => PyData.eqv z x) else none
  | .tuple ds => if flatD x = true ∧ ds.all flatD = true then some (ds.any fun z => PyData.eqv z x) else none
  | _ => none
def inV' (x c : D) : Option D := (inD x c).map .bool
def ninV' (x c : D) : Option D := (inD x c).map fun b => .bool (!b)
def rNotInA (K : PySem.W.Frag) : R2 := fun x y H Q => rNotInD K x y H Q ∨ rIn K true x y H Q
theorem op_notInA (hu : X.A.units + 65 < cLine) : OpR X (compareOp .NotIn) (rNotInA X.K) := by
  intro pins s σ H x y v u Q I rx ry h
  rcases h with h | h
  · exact op_notInD hu pins s σ H x y v u Q I rx ry h
  · exact op_notIn_seq pins s σ H x y v u Q I rx ry h
theorem o_notin : Op2 X rB (rNotInA X.K) ninV' := fun H A x y a b d Q hA ha hb e k => by
  unfold ninV' inD at e
  split at e
  · rename_i ds
    split at e
    · rename_i h
      have e := Option.some.inj e
      subst e
      exact .inl ⟨_, _, rO_dp ha, rO_dp hb, h.1, h.2, k _ H (Same.refl _) ⟨_, rfl, rfl⟩⟩
    · cases e
  · rename_i ds
    split at e
    · rename_i h
      have e := Option.some.inj e
      subst e
      obtain ⟨l, vs, rfl, h1, h2, q⟩ := rO_tup hb
      have q := DpAll_mono q (hid_le A H)
      refine .inr ⟨l, vs, rfl, .inr h1, by rw [flat_of (rO_dp ha)]; exact h.1, by rw [flats_of q]; exact h.2, ?_⟩
      rw [inV_of (rO_dp ha) h.1 q h.2]
      exact k _ H (Same.refl _) ⟨_, rfl, rfl⟩
    · cases e
  · cases e
/-! ### truth and tests -/
def tru : D → R Bool
  | .none => .ok false
  | .bool b => .ok b
  | .int i => .ok (i != 0)
  | .str y => if y.length ≤ lineN then .ok ((y.length : Int) != 0) else .no
  | .list xs => .ok !xs.isEmpty
  | .tuple xs => .ok !xs.isEmpty
  | .dict _ => .no
/-- what a test's answer asks -/
def PostB (K : PySem.W.Frag) (mg : Str → Option Value) (W : WX) (σ : L2.St) (A : List Addr) (H : Hp) (r : R Bool) (Q : Bool → Hp → Prop) : Prop :=
  match r with
  | .ok b => ∀ H', Same H H' → Q b H'
  | .ex c w p => ∀ cls dd H', Same H H' → ExR K mg (hid A H') cls dd c w p → W cls dd σ H'
  | .no => False
def tT (K : PySem.W.Frag) (mg : Str → Option Value) (W : WX) (G : Nv → R Bool) : TT := fun σ H Q => ∃ η A, EnvD K H A σ η ∧ PostB K mg W σ A H (G η) Q
def TB (X : Cx) (W : WX) (e : Expr) (G : Nv → R Bool) : Prop := PT X e (tT X.K X.mg W G)
theorem ptW {t t' : TT} (h : PT X e t) (k : ∀ σ H Q, t' σ H Q → t σ H Q) : PT X e t' := ⟨fun pins s σ H Q I q => h.run pins s σ H Q I (k _ _ _ q)⟩
theorem PostB.same {K : PySem.W.Frag} {mg : Str → Option Value} {σ : L2.St} {A : List Addr} {H H1 : Hp} {r : R Bool} {Q : Bool → Hp → Prop} (s : Same H H1) (h : PostB K mg W σ A H r Q) : PostB K mg W σ A H1 r Q := by
  cases r with
  | ok d => exact fun H' s' => h H' (s.trans s')
  | ex c w p => exact fun cls dd H' s' q => h cls dd H' (s.trans s') q
  | no => exact h
def tb (F : Nv → R D) : Nv → R Bool := fun η => (F η).bind tru
theorem tru_of {K : PySem.W.Frag} {H : Hp} {v : V} {d : D} {k : Bool} (h : Dp K H v d) (e : tru d = .ok k) : TruV K v H k := by
  cases h with
  | non => unfold tru at e; cases e; rfl
  | bl b => unfold tru at e; cases e; rfl
  | int i => unfold tru at e; cases e; rfl
  | str y =>
    have e : (if y.length ≤ lineN then R.ok ((y.length : Int) != 0) else R.no) = .ok k := e
    by_cases hz : y.length ≤ lineN
    · rw [if_pos hz] at e
      cases e
      exact ⟨by rw [line_eq]; exact hz, rfl⟩
    · rw [if_neg hz] at e
      cases e
  | @lst a xs ds h1 h2 =>
    unfold tru at e
    cases e
    refine .inl ⟨xs, h1, ?_⟩
    cases h2 <;> rfl
  | @tup a xs ds h1 h2 =>
    unfold tru at e
    cases e
    refine .inr (.inl ⟨xs, h1, ?_⟩)
    cases h2 <;> rfl
/-- from a value's answer to a test's -/
theorem tT_of {t : TE} {rl : Rl} {K : PySem.W.Frag} {mg : Str → Option Value} {σ : L2.St} {H : Hp} {Q : Bool → Hp → Prop} {R1 : V → Hp → Prop} (h : tT K mg W (tb F) σ H Q)
    (k : ∀ (A : List Addr) (H1 : Hp) (v : V) (d : D) (b : Bool), rl H H1 A v d → tru d = .ok b → Q b H1 → R1 v H1) : tR K mg W rl F σ H R1 := by
  obtain ⟨η, A, E, p0⟩ := h
  have p : PostB K mg W σ A H ((F η).bind tru) Q := p0
  refine ⟨η, A, E, ?_⟩
  cases e : F η with
  | ex c w q => rw [e] at p; exact p
  | no => rw [e] at p; exact p
  | ok d =>
    rw [e] at p
    have p : PostB K mg W σ A H (tru d) Q := p
    intro v H1 s q
    cases e2 : tru d with
    | ex c w q =>
      exfalso
      unfold tru at e2
      split at e2 <;> first | cases e2 | (split at e2 <;> cases e2)
    | no => rw [e2] at p; exact False.elim p
    | ok b =>
      rw [e2] at p
      exact k A H1 v d b q e2 (p H1 s)
/-- a comparison as a test -/
theorem b_cmp {op : CmpOp} {r : R2} {f : D → D → Option D} (hop : OpR X (compareOp op) r) (ho : Op2 X rB r f) (ha : TO X W a Fa) (hb : TO X W b Fb) (h1 : behindInMarks op b = false) : TB X W (.Compare a [op] [b] pos) (tb (e2 f Fa Fb)) :=
  ptW (pt_cmpR hop ha hb h1) fun σ H Q h => op2_t (fun _ _ _ _ _ _ _ q => q) ho (tT_of (t := fun _ _ _ => True) (rl := rB) h fun A H1 v d b q e r => by
    obtain ⟨k, rfl, rfl⟩ := q
    cases e
    exact ⟨_, rfl, r⟩)
theorem b_eq (hu : X.A.units + 64 < cLine) (ha : TO X W a Fa) (hb : TO X W b Fb) : TB X W (.Compare a [.Eq] [b] pos) (tb (e2 eqV' Fa Fb)) := b_cmp (op_eqA hu) o_eq ha hb (nomark _)
theorem b_ne (hu : X.A.units + 64 < cLine) (ha : TO X W a Fa) (hb : TO X W b Fb) : TB X W (.Compare a [.NotEq] [b] pos) (tb (e2 neV' Fa Fb)) := b_cmp (op_neA hu) o_ne ha hb (nomark _)
theorem b_notin (hu : X.A.units + 65 < cLine) (ha : TO X W a Fa) (hb : TO X W b Fb) (h1 : behindInMarks .NotIn b = false := by with_unfolding_all rfl) : TB X W (.Compare a [.NotIn] [b] pos) (tb (e2 ninV' Fa Fb)) := b_cmp (op_notInA hu) o_notin ha hb h1
end
end Bd
/-! D3: and, or, not, if-else, chains; arguments; built-ins and own defs called; displays, subscripts, slices. -/
namespace Bd
open PySem L2

section
variable {X : Cx} {W : WX} {rl : Rl} {a b c e : Expr} {rest : List Expr} {Fa Fb Fc F : Nv → R D} {Ga Gb G : Nv → R Bool} {pos : Pos}
/-! ### tests joined -/
def TW (X : Cx) (W : WX) (e : Expr) (G : Nv → R Bool) : Prop := PW X e (tT X.K X.mg W G)
theorem pwW {t t' : TT} (h : PW X e t) (k : ∀ σ H Q, t' σ H Q → t σ H Q) : PW X e t' := ⟨fun w pins s σ H Q I q => h.run w pins s σ H Q I (k _ _ _ q)⟩
def andB (Ga Gb : Nv → R Bool) : Nv → R Bool := fun η => (Ga η).bind fun k => if k then Gb η else .ok false
def orB (Ga Gb : Nv → R Bool) : Nv → R Bool := fun η => (Ga η).bind fun k => if k then .ok true else Gb η
def notB (Ga : Nv → R Bool) : Nv → R Bool := fun η => (Ga η).bind fun k => .ok !k
theorem tT_bind {K : PySem.W.Frag} {mg : Str → Option Value} {g : Nv → Bool → R Bool} {σ : L2.St} {H : Hp} {Q : Bool → Hp → Prop} {R1 : Bool → Hp → Prop} (h : tT K mg W (fun η => (Ga η).bind (g η)) σ H Q)
    (k : ∀ (η : Nv) (A : List Addr) (H1 : Hp) (b : Bool), EnvD K H1 A σ η → PostB K mg W σ A H1 (g η b) Q → R1 b H1) : tT K mg W Ga σ H R1 := by
  obtain ⟨η, A, E, p0⟩ := h
  have p : PostB K mg W σ A H ((Ga η).bind (g η)) Q := p0
  refine ⟨η, A, E, ?_⟩
  cases e : Ga η with
  | ex c w q => rw [e] at p; exact p
  | no => rw [e] at p; exact p
  | ok d =>
    rw [e] at p
    have p : PostB K mg W σ A H (g η d) Q := p
    exact fun H1 s => k η A H1 d (E.same s) (p.same s)
theorem w_or1 (ha : TB X W a Ga) : TW X W (.BoolOp .Or [a] pos) Ga := pw_or1 ha
theorem w_or (ha : TB X W a Ga) (hb : TW X W (.BoolOp .Or (b :: rest) pos) Gb) : TW X W (.BoolOp .Or (a :: b :: rest) pos) (orB Ga Gb) := pwW (pw_or ha hb) fun σ H Q h => tT_bind h fun η A H1 b E p => by
  cases b with
  | true => exact iteT (p H1 (Same.refl _))
  | false => exact iteF ⟨η, A, E, p⟩
theorem b_w (h : TW X W e G) : TB X W e G := PW.pt h
/-! as values -/
def andV (Fa Fb : Nv → R D) : Nv → R D := fun η => (Fa η).bind fun x => (tru x).bind fun k => if k then Fb η else .ok x
def orV (Fa Fb : Nv → R D) : Nv → R D := fun η => (Fa η).bind fun x => (tru x).bind fun k => if k then .ok x else Fb η
def notV (Fa : Nv → R D) : Nv → R D := fun η => (Fa η).bind fun x => (tru x).bind fun k => .ok (.bool !k)
theorem tru_noex {d : D} {c w : Str} {p : D} : tru d ≠ .ex c w p := by
  intro e
  cases d <;> first | (cases e; done) | skip
  rename_i y
  have e : (if y.length ≤ lineN then R.ok ((y.length : Int) != 0) else R.no) = .ex c w p := e
  split at e <;> cases e
theorem bindT {g : Nv → D → Bool → R D} {σ : L2.St} {H : Hp} {Q : VK} {R1 : V → Hp → Prop} {rl' : Rl} (hb : Back rl) (h : tR X.K X.mg W rl (fun η => (F η).bind fun x => (tru x).bind fun k => g η x k) σ H Q)
    (k : ∀ (η : Nv) (A : List Addr) (H0 H1 : Hp) (v : V) (d : D) (b : Bool), EnvD X.K H1 A σ η → rl' H0 H1 A v d → tru d = .ok b → Post X.K X.mg W rl σ A H1 (g η d b) Q → R1 v H1) : tR X.K X.mg W rl' F σ H R1 := by
  obtain ⟨η, A, E, p⟩ := bindR (rl' := rl') hb h
  refine ⟨η, A, E, ?_⟩
  cases e : F η with
  | ex c w q => rw [e] at p; exact p
  | no => rw [e] at p; exact p
  | ok d =>
    rw [e] at p
    intro v1 H1 s1 q1
    obtain ⟨η1, A1, d1, s2, E1, q2, _, P⟩ := p v1 H1 s1 q1
    have P : Post X.K X.mg W rl σ A1 H1 ((tru d1).bind fun k => g η1 d1 k) Q := P
    cases e2 : tru d1 with
    | ex c w q => exact absurd e2 tru_noex
    | no => rw [e2] at P; exact False.elim P
    | ok b =>
      rw [e2] at P
      exact k η1 A1 H H1 v1 d1 b E1 q2 e2 P
theorem t_one {op : BoolOp} (h : TD X W a Fa) : TD X W (.BoolOp op [a] pos) Fa := pe_one h
theorem t_and (ha : TD X W a Fa) (hb : TD X W (.BoolOp .And (b :: rest) pos) Fb) : TD X W (.BoolOp .And (a :: b :: rest) pos) (andV Fa Fb) := peW (pe_andT ha hb) fun σ H Q h => bindT (rl' := rD X.K) back_D h fun η A H0 H1 v d k E q e p => by
  refine ⟨k, tru_of (Dp_mono q (hid_le A H1)) e, ?_⟩
  cases k with
  | true => exact iteT ⟨η, A, E, p⟩
  | false => exact iteF (p v H1 (Same.refl _) q)
/-! ### a if t else b -/
def ifV (G : Nv → R Bool) (Fa Fb : Nv → R D) : Nv → R D := fun η => (G η).bind fun k => if k then Fa η else Fb η
/-! ### a op b op' c -/
def chainV (f g : D → D → Option D) (Fa Fb Fc : Nv → R D) : Nv → R D := fun η => (Fa η).bind fun x => (Fb η).bind fun y => (R.of (f x y)).bind fun z => (tru z).bind fun k => if k then (Fc η).bind fun w => .of (g y w) else .ok (.bool false)
/-! ### arguments -/
/-- how a value lies, without a heap ahead -/
abbrev Rv := Hp → List Addr → V → D → Prop
def vO (K : PySem.W.Frag) : Rv := fun H A v d => rO K H H A v d
def vD (K : PySem.W.Frag) : Rv := fun H A v d => Dp K (hid A H) v d
def Keeps (rv : Rv) : Prop := ∀ H H' A v d, Same H H' → rv H A v d → rv H' A v d
theorem keeps_O {K : PySem.W.Frag} : Keeps (vO K) := fun _ _ _ _ _ s h => rO_same s h
theorem keeps_D {K : PySem.W.Frag} : Keeps (vD K) := fun _ _ _ _ _ s h => Dp_mono h (hid_same s)
def AllV (rv : Rv) (H : Hp) (A : List Addr) : List V → List D → Prop
  | [], [] => True
  | v :: vs, d :: ds => rv H A v d ∧ AllV rv H A vs ds
  | _, _ => False
theorem AllV.dp {K : PySem.W.Frag} {H : Hp} {A : List Addr} : ∀ {vs : List V} {ds : List D}, AllV (vD K) H A vs ds → DpAll K (hid A H) vs ds
  | [], [], _ => .nil
  | _ :: _, _ :: _, h => .cons h.1 (AllV.dp h.2)
  | [], _ :: _, h => h.elim
  | _ :: _, [], h => h.elim
theorem AllV.len {rv : Rv} {H : Hp} {A : List Addr} : ∀ {vs : List V} {ds : List D}, AllV rv H A vs ds → vs.length = ds.length
  | [], [], _ => rfl
  | _ :: _, _ :: _, h => by rw [List.length_cons, List.length_cons, AllV.len h.2]
  | [], _ :: _, h => h.elim
  | _ :: _, [], h => h.elim
def PostA (K : PySem.W.Frag) (mg : Str → Option Value) (W : WX) (rv : Rv) (σ : L2.St) (A : List Addr) (H : Hp) (r : R (List D)) (Q : List V → Hp → Prop) : Prop :=
  match r with
  | .ok ds => ∀ vs H', Same H H' → AllV rv H' A vs ds → Q vs H'
  | .ex c w p => ∀ cls dd H', Same H H' → ExR K mg (hid A H') cls dd c w p → W cls dd σ H'
  | .no => False
def tA (K : PySem.W.Frag) (mg : Str → Option Value) (W : WX) (rv : Rv) (Fs : Nv → R (List D)) : TA := fun σ H Q => ∃ η A, EnvD K H A σ η ∧ PostA K mg W rv σ A H (Fs η) Q
def TAs (X : Cx) (W : WX) (rv : Rv) (es : List Expr) (Fs : Nv → R (List D)) : Prop := PA X es (tA X.K X.mg W rv Fs)
def TV (X : Cx) (W : WX) (rv : Rv) (e : Expr) (F : Nv → R D) : Prop := PE X e (tR X.K X.mg W (fun _ H' A v d => rv H' A v d) F)
theorem TD.v (h : TD X W e F) : TV X W (vD X.K) e F := h
theorem TO.v (h : TO X W e F) : TV X W (vO X.K) e F := peW h fun _ _ _ => tR_imp fun _ _ _ _ _ _ _ q => rO_same (Same.refl _) q
def a0 : Nv → R (List D) := fun _ => .ok []
def aC (Fa : Nv → R D) (Fs : Nv → R (List D)) : Nv → R (List D) := fun η => (Fa η).bind fun x => (Fs η).bind fun xs => .ok (x :: xs)
theorem paW {es : List Expr} {t t' : TA} (h : PA X es t) (k : ∀ σ H Q, t' σ H Q → t σ H Q) : PA X es t' := ⟨fun pos pins s σ H Q I q => h.run pos pins s σ H Q I (k _ _ _ q)⟩
theorem as_nil {rv : Rv} : TAs X W rv [] a0 := paW pa_nil fun σ H Q ⟨η, A, E, p⟩ => p [] H (Same.refl _) trivial
theorem as_cons {rv : Rv} {es : List Expr} {Fs : Nv → R (List D)} (hk : Keeps rv) (ha : TV X W rv a Fa) (hs : TAs X W rv es Fs) (h1 : starEach (a :: es) X.env = (false, eval a X.env) :: starEach es X.env := by rfl) : TAs X W rv (a :: es) (aC Fa Fs) :=
  paW (pa_cons ha hs h1) fun σ H Q h => by
    obtain ⟨η, A, E, p0⟩ := h
    have p : PostA X.K X.mg W rv σ A H ((Fa η).bind fun x => (Fs η).bind fun xs => .ok (x :: xs)) Q := p0
    refine (show tR X.K X.mg W (fun _ H' A v d => rv H' A v d) Fa σ H _ from ⟨η, A, E, ?_⟩)
    cases e1 : Fa η with
    | ex c w q => rw [e1] at p; exact p
    | no => rw [e1] at p; exact p
    | ok x =>
      rw [e1] at p
      have p : PostA X.K X.mg W rv σ A H ((Fs η).bind fun xs => .ok (x :: xs)) Q := p
      intro v H1 s1 q1
      refine (show tA X.K X.mg W rv Fs σ H1 _ from ⟨η, A, E.same s1, ?_⟩)
      cases e2 : Fs η with
      | ex c w q =>
        rw [e2] at p
        exact fun cls dd H' s q' => p cls dd H' (s1.trans s) q'
      | no => rw [e2] at p; exact p
      | ok xs =>
        rw [e2] at p
        exact fun vs H2 s2 q2 => p (v :: vs) H2 (s1.trans s2) ⟨hk _ _ _ _ _ s2 q1, q2⟩
/-- a built-in function's answer by data -/
def OpN (X : Cx) (rl : Rl) (r : List V → Hp → VK → Prop) (f : List D → Option D) : Prop :=
  ∀ (H : Hp) (A : List Addr) (vs : List V) (ds : List D) (d : D) (Q : VK), (∀ p ∈ A, H p ≠ none) → AllV (vO X.K) H A vs ds → f ds = some d → (∀ v H', Same H H' → rl H H' A v d → Q v H') → r vs H Q
def eN (f : List D → Option D) (Fs : Nv → R (List D)) : Nv → R D := fun η => (Fs η).bind fun ds => .of (f ds)
theorem opN_t {r : List V → Hp → VK → Prop} {f : List D → Option D} {Fs : Nv → R (List D)} (hb : Back rl) (ho : OpN X rl r f) {σ : L2.St} {H : Hp} {Q : VK} (h : tR X.K X.mg W rl (eN f Fs) σ H Q) : tCB r (tA X.K X.mg W (vO X.K) Fs) σ H Q := by
  obtain ⟨η, A, E, p0⟩ := h
  have p : Post X.K X.mg W rl σ A H ((Fs η).bind fun ds => .of (f ds)) Q := p0
  refine (show tA X.K X.mg W (vO X.K) Fs σ H _ from ⟨η, A, E, ?_⟩)
  cases e1 : Fs η with
  | ex c w q => rw [e1] at p; exact p
  | no => rw [e1] at p; exact p
  | ok ds =>
    rw [e1] at p
    have p : Post X.K X.mg W rl σ A H (.of (f ds)) Q := p
    intro vs H1 s1 q1
    cases e2 : f ds with
    | none => rw [e2] at p; exact False.elim p
    | some d =>
      rw [e2] at p
      exact ho H1 A vs ds d Q (E.same s1).tr q1 e2 fun v H' s q => p v H' (s1.trans s) (hb _ _ _ _ _ _ s1 q)
theorem t_callB {id : String} {x : Str} {p : Pos} {es : List Expr} {r : List V → Hp → VK → Prop} {f : List D → Option D} {Fs : Nv → R (List D)} (hb : Back rl) (hc : CallR X (.builtin id) r) (ho : OpN X rl r f) (hg : Gl X x) (hm : X.mg x = none) (hv : bootBuiltins x = some (.builtin id))
    (ha : TAs X W (vO X.K) (e :: es) Fs) (hn : x ≠ "__name__" := by decide) (hdb : (x == ("__debug__" : Str)) = false := by decide) (he : starEach (e :: es) X.env = (false, eval e X.env) :: starEach es X.env := by rfl)
    (hpl : (backTo pos (starEach es X.env)).any (·.1) = false := by rfl) : PE X (.Call (.Name x p) (e :: es) [] pos) (tR X.K X.mg W rl (eN f Fs)) :=
  peW (pe_callB hc hg hm hv ha hn hdb he hpl) fun _ _ _ => opN_t hb ho
theorem t_callTy {T : String} {x : Str} {p : Pos} {es : List Expr} {r : List V → Hp → VK → Prop} {f : List D → Option D} {Fs : Nv → R (List D)} (hb : Back rl) (hc : CallR X (.type T) r) (ho : OpN X rl r f) (hg : Gl X x) (hm : X.mg x = none) (hv : bootBuiltins x = some (.type T))
    (ha : TAs X W (vO X.K) (e :: es) Fs) (hn : x ≠ "__name__" := by decide) (hdb : (x == ("__debug__" : Str)) = false := by decide) (he : starEach (e :: es) X.env = (false, eval e X.env) :: starEach es X.env := by rfl)
    (hpl : (backTo pos (starEach es X.env)).any (·.1) = false := by rfl) : PE X (.Call (.Name x p) (e :: es) [] pos) (tR X.K X.mg W rl (eN f Fs)) :=
  peW (pe_callTy hc hg hm hv ha hn hdb he hpl) fun _ _ _ => opN_t hb ho
/-! ### displays -/
def tupV (Fs : Nv → R (List D)) : Nv → R D := eN (fun ds => if ds.length ≤ lineN then some (.tuple ds) else none) Fs
def lstV (Fs : Nv → R (List D)) : Nv → R D := eN (fun ds => if ds.length ≤ lineN then some (.list ds) else none) Fs
theorem t_tup {es : List Expr} {x1 : Nat} {Fs : Nv → R (List D)} (h : TAs X W (vD X.K) es Fs) : TD X W (.Tuple es x1 pos) (tupV Fs) := peW (pe_tup h) fun σ H Q hq => by
  obtain ⟨η, A, E, p0⟩ := hq
  have p : Post X.K X.mg W (rD X.K) σ A H ((Fs η).bind fun ds => .of (if ds.length ≤ lineN then some (.tuple ds) else none)) Q := p0
  refine (show tA X.K X.mg W (vD X.K) Fs σ H _ from ⟨η, A, E, ?_⟩)
  cases e1 : Fs η with
  | ex c w q => rw [e1] at p; exact p
  | no => rw [e1] at p; exact p
  | ok ds =>
    rw [e1] at p
    have p : Post X.K X.mg W (rD X.K) σ A H (.of (if ds.length ≤ lineN then some (.tuple ds) else none)) Q := p
    intro vs H1 s1 q1
    split at p
    · rename_i hz
      exact ⟨by rw [q1.len, line_eq]; exact hz, fun q hq => p _ _ (s1.trans (same_new hq)) (dp_new_tup (E.same s1).tr hq q1.dp)⟩
    · exact False.elim p
theorem t_lst {es : List Expr} {Fs : Nv → R (List D)} (h : TAs X W (vD X.K) es Fs) : TF X W (.List es pos) (lstV Fs) := peW (pe_lst h) fun σ H Q hq => by
  obtain ⟨η, A, E, p0⟩ := hq
  have p : Post X.K X.mg W (rF X.K) σ A H ((Fs η).bind fun ds => .of (if ds.length ≤ lineN then some (.list ds) else none)) Q := p0
  refine (show tA X.K X.mg W (vD X.K) Fs σ H _ from ⟨η, A, E, ?_⟩)
  cases e1 : Fs η with
  | ex c w q => rw [e1] at p; exact p
  | no => rw [e1] at p; exact p
  | ok ds =>
    rw [e1] at p
    have p : Post X.K X.mg W (rF X.K) σ A H (.of (if ds.length ≤ lineN then some (.list ds) else none)) Q := p
    intro vs H1 s1 q1
    split at p
    · rename_i hz
      exact ⟨by rw [q1.len, line_eq]; exact hz, fun q hq => p _ _ (s1.trans (same_new hq)) (back_F _ _ _ _ _ _ s1 (dp_new_list (E.same s1).tr hq q1.dp))⟩
    · exact False.elim p
/-! ### subscripts and slices -/
def atD (xs : List D) (i : Int) : Option D := (ixN xs.length i).bind fun j => xs[j]?
def ixV : D → D → Option D
  | .list xs, .int i => atD xs i
  | .tuple xs, .int i => atD xs i
  | _, _ => none
theorem atI_of {K : PySem.W.Frag} {H : Hp} {vs : List V} {ds : List D} {i : Int} {d : D} (h : DpAll K H vs ds) (e : atD ds i = some d) : ∃ v, atI vs i = some v ∧ Dp K H v d := by
  unfold atD at e
  unfold atI
  rw [DpAll_length h]
  cases q : ixN ds.length i with
  | none => rw [q] at e; cases e
  | some j =>
    rw [q] at e
    exact DpAll_get h e
theorem o_ix : Op2 X (rD X.K) (rIx X.K) ixV := by
  intro H A x y a b d Q hA ha hb e k
  unfold ixV at e
  split at e
  · obtain ⟨l, vs, rfl, h1, q⟩ := rO_list ha
    obtain ⟨v, e1, q1⟩ := atI_of q e
    exact .inl ⟨l, vs, _, v, rfl, rO_int hb, h1, e1, k v H (Same.refl _) q1⟩
  · obtain ⟨l, vs, rfl, h1, _, q⟩ := rO_tup ha
    obtain ⟨v, e1, q1⟩ := atI_of q e
    exact .inr (.inl ⟨l, vs, _, v, rfl, rO_int hb, h1, e1, k v H (Same.refl _) q1⟩)
  · cases e
theorem t_ix (ha : TO X W a Fa) (hb : TO X W b Fb) (hs : PlainIx b := by exact fun _ _ => rfl) : TD X W (.Subscript a b pos) (e2 ixV Fa Fb) := peW (pe_ix ix_seq ha hb hs) fun _ _ _ => op2_t back_D o_ix
def cutD (xs : List D) (lo hi : Option Int) : List D := (xs.drop (HT.sIx xs.length 0 lo)).take (HT.sIx xs.length xs.length hi - HT.sIx xs.length 0 lo)
theorem cut_of {K : PySem.W.Frag} {H : Hp} {vs : List V} {ds : List D} {lo hi : Option Int} (h : DpAll K H vs ds) : DpAll K H (cutV vs lo hi) (cutD ds lo hi) := by
  unfold cutV cutD
  rw [DpAll_length h]
  exact DpAll_take _ (DpAll_drop _ h)
def slV (lo hi : Option Int) : D → Option D
  | .list xs => some (.list (cutD xs lo hi))
  | .tuple xs => some (.tuple (cutD xs lo hi))
  | _ => none
def slL (lo hi : Option Int) : D → Option D
  | .list xs => some (.list (cutD xs lo hi))
  | _ => none
/-- a slice's part: left out, or an int -/
def TPt (X : Cx) (W : WX) (e : Option Expr) (F : Nv → R (Option Int)) : Prop :=
  ∃ t : L2.TO, PO X e t ∧ ∀ σ H (Q : Option Int → Hp → Prop), (∃ η A, EnvD X.K H A σ η ∧ match F η with
    | .ok o => ∀ H', Same H H' → Q o H'
    | .ex c w p => ∀ cls dd H', Same H H' → ExR X.K X.mg (hid A H') cls dd c w p → W cls dd σ H'
    | .no => False) → t σ H Q
def p0 : Nv → R (Option Int) := fun _ => .ok none
def asInt : D → R (Option Int)
  | .int i => .ok (some i)
  | _ => .no
def p1 (F : Nv → R D) : Nv → R (Option Int) := fun η => (F η).bind asInt
theorem pt_0 : TPt X W none p0 := ⟨_, po_none, fun σ H Q ⟨η, A, E, p⟩ => p H (Same.refl _)⟩
theorem pt_1 (h : TO X W e F) : TPt X W (some e) (p1 F) := ⟨_, po_some h, fun σ H Q ⟨η, A, E, p⟩ => by
  refine (show tR X.K X.mg W (rO X.K) F σ H _ from ⟨η, A, E, ?_⟩)
  unfold p1 at p
  cases e1 : F η with
  | ex c w q => rw [e1] at p; exact p
  | no => rw [e1] at p; exact p
  | ok d =>
    rw [e1] at p
    intro v H1 s1 q1
    cases d with
    | int i => exact ⟨i, rO_int q1, p H1 s1⟩
    | _ => exact False.elim p⟩
def slE (sl : Option Int → Option Int → D → Option D) (F : Nv → R D) (Lo Hi : Nv → R (Option Int)) : Nv → R D := fun η => (F η).bind fun x => (Lo η).bind fun l => (Hi η).bind fun h => .of (sl l h x)
theorem slice_t {r : V → Option Int → Option Int → Hp → VK → Prop} {sl : Option Int → Option Int → D → Option D} {lo hi : Option Expr} {Lo Hi : Nv → R (Option Int)} {p2 : Pos} (hb : Back rl) (hr : SlR X r)
    (ho : ∀ (H : Hp) (A : List Addr) (x : V) (a d : D) (l h : Option Int) (Q : VK), (∀ p ∈ A, H p ≠ none) → rO X.K H H A x a → sl l h a = some d → (∀ v H', Same H H' → rl H H' A v d → Q v H') → r x l h H Q)
    (ha : TO X W a Fa) (hl : TPt X W lo Lo) (hh : TPt X W hi Hi) : PE X (.Subscript a (.Slice lo hi none p2) pos) (tR X.K X.mg W rl (slE sl Fa Lo Hi)) := by
  obtain ⟨tl, pl, kl⟩ := hl
  obtain ⟨th, ph, kh⟩ := hh
  refine peW (pe_slice hr ha pl ph) fun σ H Q h => ?_
  obtain ⟨η, A, E, q0⟩ := h
  have p : Post X.K X.mg W rl σ A H ((Fa η).bind fun x => (Lo η).bind fun l => (Hi η).bind fun h => .of (sl l h x)) Q := q0
  refine (show tR X.K X.mg W (rO X.K) Fa σ H _ from ⟨η, A, E, ?_⟩)
  cases e1 : Fa η with
  | ex c w q => rw [e1] at p; exact p
  | no => rw [e1] at p; exact p
  | ok x =>
    rw [e1] at p
    have p : Post X.K X.mg W rl σ A H ((Lo η).bind fun l => (Hi η).bind fun h => .of (sl l h x)) Q := p
    intro v H1 s1 q1
    refine kl σ H1 _ ⟨η, A, E.same s1, ?_⟩
    cases e2 : Lo η with
    | ex c w q => rw [e2] at p; exact fun cls dd H' s q' => p cls dd H' (s1.trans s) q'
    | no => rw [e2] at p; exact p
    | ok l =>
      rw [e2] at p
      have p : Post X.K X.mg W rl σ A H ((Hi η).bind fun h => .of (sl l h x)) Q := p
      intro H2 s2
      have s12 := s1.trans s2
      refine kh σ H2 _ ⟨η, A, E.same s12, ?_⟩
      cases e3 : Hi η with
      | ex c w q => rw [e3] at p; exact fun cls dd H' s q' => p cls dd H' (s12.trans s) q'
      | no => rw [e3] at p; exact p
      | ok h =>
        rw [e3] at p
        have p : Post X.K X.mg W rl σ A H (.of (sl l h x)) Q := p
        intro H3 s3
        have s13 := s12.trans s3
        cases e4 : sl l h x with
        | none => rw [e4] at p; exact False.elim p
        | some d =>
          rw [e4] at p
          exact ho H3 A v x d l h Q (E.same s13).tr (rO_same (s2.trans s3) q1) e4 fun v' H' s q => p v' H' (s13.trans s) (hb _ _ _ _ _ _ s13 q)
theorem cut_whole {xs : List D} {lo hi : Option Int} (h : HT.sIx xs.length 0 lo = 0 ∧ HT.sIx xs.length xs.length hi = xs.length) : cutD xs lo hi = xs := by
  unfold cutD
  rw [h.1, h.2]
  simp
theorem t_slice {lo hi : Option Expr} {Lo Hi : Nv → R (Option Int)} {p2 : Pos} (ha : TO X W a Fa) (hl : TPt X W lo Lo) (hh : TPt X W hi Hi) : TD X W (.Subscript a (.Slice lo hi none p2) pos) (slE slV Fa Lo Hi) :=
  slice_t back_D (SlR.or sl_list sl_tupA) (fun H A x a d l h Q hA ha e k => by
    unfold slV at e
    split at e
    · have e := Option.some.inj e
      subst e
      obtain ⟨p, vs, rfl, h1, q⟩ := rO_list ha
      exact .inl ⟨p, vs, rfl, h1, fun z hz => k _ _ (same_new hz) (rF_D (nofree hA) (dp_new_list hA hz (cut_of q)))⟩
    · have e := Option.some.inj e
      subst e
      obtain ⟨p, vs, rfl, h1, h1', q⟩ := rO_tup ha
      refine .inr ⟨p, vs, rfl, h1, fun w => ?_, fun _ z hz => k _ _ (same_new hz) (dp_new_tup hA hz (cut_of q))⟩
      rw [DpAll_length q] at w
      refine k _ H (Same.refl _) ?_
      rw [cut_whole w]
      exact .tup h1' q
    · cases e) ha hl hh
end
end Bd
/-! D4: targets, what is walked, comprehensions, statements. -/
namespace Bd
open PySem L2

section
variable {X : Cx} {W : WX} {rl : Rl} {a b c e tg iter : Expr} {Fa Fb Fc F : Nv → R D} {Ga Gb G : Nv → R Bool} {pos : Pos}
/-! ### targets -/
abbrev Tgt := D → Nv → Option Nv
abbrev Tgts := List D → Nv → Option Nv
structure Stored (σ σ' : L2.St) (η η' : Nv) (js : List Nat) : Prop where
  len : σ'.length = σ.length
  rest : ∀ j, j ∉ js → σ'[j]? = σ[j]?
  own : ∀ i xs, η'[i]? = some (.own xs) → i ∉ js ∧ η[i]? = some (.own xs)
  dk : ∀ i ks, η'[i]? = some (.dk ks) → i ∉ js ∧ η[i]? = some (.dk ks)
theorem Stored.trans {σ σ1 σ2 : L2.St} {η η1 η2 : Nv} {js ks : List Nat} (h : Stored σ σ1 η η1 js) (k : Stored σ1 σ2 η1 η2 ks) : Stored σ σ2 η η2 (js ++ ks) where
  len := k.len.trans h.len
  rest := fun j n => by
    rw [List.mem_append, not_or] at n
    rw [k.rest j n.2, h.rest j n.1]
  own := fun i xs e => by
    obtain ⟨n1, e1⟩ := k.own i xs e
    obtain ⟨n2, e2⟩ := h.own i xs e1
    exact ⟨by rw [List.mem_append, not_or]; exact ⟨n2, n1⟩, e2⟩
  dk := fun i xs e => by
    obtain ⟨n1, e1⟩ := k.dk i xs e
    obtain ⟨n2, e2⟩ := h.dk i xs e1
    exact ⟨by rw [List.mem_append, not_or]; exact ⟨n2, n1⟩, e2⟩
def gD (K : PySem.W.Frag) (T : Tgt) (js : List Nat) : TG := fun v σ H Q => ∃ η A x η', EnvD K H A σ η ∧ Dp K (hid A H) v x ∧ T x η = some η' ∧ ∀ σ', EnvD K H A σ' η' → Stored σ σ' η η' js → Q σ' H
def gsD (K : PySem.W.Frag) (T : Tgts) (js : List Nat) : TGs := fun vs σ H Q => ∃ η A xs η', EnvD K H A σ η ∧ DpAll K (hid A H) vs xs ∧ T xs η = some η' ∧ ∀ σ', EnvD K H A σ' η' → Stored σ σ' η η' js → Q σ' H
def TT' (X : Cx) (tg : Expr) (T : Tgt) (js : List Nat) : Prop := PG X tg (gD X.K T js)
def TTs (X : Cx) (tgs : List Expr) (T : Tgts) (js : List Nat) : Prop := PGs X tgs (gsD X.K T js)
theorem pgW {t t' : TG} (h : PG X e t) (k : ∀ v σ H Q, t' v σ H Q → t v σ H Q) : PG X e t' := ⟨fun pins s σ H v u Q r I q => h.run pins s σ H v u Q r I (k _ _ _ _ q)⟩
theorem pgsW {es : List Expr} {t t' : TGs} (h : PGs X es t) (k : ∀ v σ H Q, t' v σ H Q → t v σ H Q) : PGs X es t' := ⟨fun pins s σ H v u Q r I q => h.run pins s σ H v u Q r I (k _ _ _ _ q)⟩
def gN (i : Nat) : Tgt := fun x η => some (η.set i (.d x))
theorem EnvD.set {K : PySem.W.Frag} {H : Hp} {A : List Addr} {σ : L2.St} {η : Nv} {i : Nat} {v : V} {x : D} (E : EnvD K H A σ η) (q : Dp K (hid A H) v x) : EnvD K H A (σ.set i (some v)) (η.set i (.d x)) where
  len := by rw [List.length_set, List.length_set, E.len]
  at_ := fun j s e => by
    by_cases hj : i = j
    · subst hj
      have hl : i < η.length := by
        have := (List.getElem?_eq_some_iff.mp e).1
        rwa [List.length_set] at this
      rw [List.getElem?_set_self hl] at e
      cases e
      exact ⟨some v, by rw [List.getElem?_set_self (by rw [E.len]; exact hl)], q⟩
    · rw [List.getElem?_set_ne hj] at e ⊢
      exact E.at_ j s e
  ap := fun j k a xs ys e1 e2 e3 e4 => by
    by_cases hj : i = j
    · subst hj
      by_cases hl : i < η.length
      · rw [List.getElem?_set_self hl] at e1
        cases e1
      · rw [List.getElem?_eq_none (by rw [List.length_set]; omega)] at e1
        cases e1
    · by_cases hk : i = k
      · subst hk
        by_cases hl : i < η.length
        · rw [List.getElem?_set_self hl] at e2
          cases e2
        · rw [List.getElem?_eq_none (by rw [List.length_set]; omega)] at e2
          cases e2
      · rw [List.getElem?_set_ne hj] at e1 e3
        rw [List.getElem?_set_ne hk] at e2 e4
        exact E.ap j k a xs ys e1 e2 e3 e4
  tr := E.tr
theorem dk_set {η : Nv} {i j : Nat} {s : Sl} {ks : Dks} (hs : ∀ ks, s ≠ .dk ks) (h : (η.set i s)[j]? = some (.dk ks)) : j ≠ i ∧ η[j]? = some (.dk ks) := by
  by_cases hj : i = j
  · subst hj
    by_cases hl : i < η.length
    · rw [List.getElem?_set_self hl] at h
      exact absurd (Option.some.inj h) (hs ks)
    · rw [List.getElem?_eq_none (by rw [List.length_set]; omega)] at h
      cases h
  · rw [List.getElem?_set_ne hj] at h
    exact ⟨fun z => hj z.symm, h⟩
theorem own_set {η : Nv} {i j : Nat} {x : D} {xs : OL} (h : (η.set i (.d x))[j]? = some (.own xs)) : j ≠ i ∧ η[j]? = some (.own xs) := by
  by_cases hj : i = j
  · subst hj
    by_cases hl : i < η.length
    · rw [List.getElem?_set_self hl] at h
      cases h
    · rw [List.getElem?_eq_none (by rw [List.length_set]; omega)] at h
      cases h
  · rw [List.getElem?_set_ne hj] at h
    exact ⟨fun z => hj z.symm, h⟩
theorem g_name (i : Nat) {x : Str} (hN : X.N.Nodup) (hi : X.N[i]? = some x := by rfl) (hx : Loc X.env.scope x := by first | exact Or.inl rfl | exact Or.inr rfl) (hf : X.fn x = true ∨ X.env.scope.names.lookup x = some .local := by first | exact .inl rfl | exact .inr rfl) : TT' X (.Name x pos) (gN i) [i] :=
  pgW (pg_name hN hi hx hf) fun v σ H Q ⟨η, A, x, η', E, q, e, k⟩ => by
    cases e
    refine k _ (E.set q) ⟨List.length_set, fun j n => ?_, fun j xs e => ?_, fun j xs e => ?_⟩
    · rw [List.getElem?_set_ne fun z => n (by rw [z]; exact List.mem_cons_self)]
    · obtain ⟨n, e⟩ := own_set e
      exact ⟨by simpa using n, e⟩
    · obtain ⟨n, e⟩ := dk_set (s := .d x) (fun _ z => nomatch z) e
      exact ⟨by simpa using n, e⟩
def gs0 : Tgts := fun xs η => match xs with
  | [] => some η
  | _ => none
def gsC (T : Tgt) (U : Tgts) : Tgts := fun xs η => match xs with
  | x :: r => (T x η).bind (U r)
  | _ => none
theorem g_nil : TTs X [] gs0 [] := pgsW pgs_nil fun v σ H Q ⟨η, A, xs, η', E, q, e, k⟩ => by
  unfold gs0 at e
  split at e
  · cases e
    cases q
    exact ⟨rfl, k σ E ⟨rfl, fun _ _ => rfl, fun i xs e => ⟨by simp, e⟩, fun i xs e => ⟨by simp, e⟩⟩⟩
  · cases e
theorem g_cons {es : List Expr} {T : Tgt} {U : Tgts} {js ks : List Nat} (h1 : TT' X e T js) (h2 : TTs X es U ks) (hs : (assignEach (e :: es) X.env).map (·.2) = assign e X.env :: (assignEach es X.env).map (·.2) := by rfl) : TTs X (e :: es) (gsC T U) (js ++ ks) := pgsW (pgs_cons h1 h2 hs) fun v σ H Q ⟨η, A, xs, η', E, q, e, k⟩ => by
  unfold gsC at e
  split at e
  · rename_i x r
    cases q with
    | cons q1 q2 =>
      cases e1 : T x η with
      | none => rw [e1] at e; cases e
      | some η1 =>
        rw [e1] at e
        exact ⟨_, _, rfl, η, A, x, η1, E, q1, e1, fun σ1 E1 S1 => ⟨η1, A, r, η', E1, q2, e, fun σ2 E2 S2 => k σ2 E2 (S1.trans S2)⟩⟩
  · cases e
def gT (n : Nat) (U : Tgts) : Tgt := fun x η => match x with
  | .tuple xs => if xs.length = n then U xs η else none
  | _ => none
theorem g_tup {es : List Expr} {k : Nat} {U : Tgts} {js : List Nat} {n : Nat} (hc : X.calm = true) (h : TTs X es U js) (hn : (assignEach es X.env).length = n := by rfl) (hst : (assignEach es X.env).findIdx? (·.1) = none := by rfl) : TT' X (.Tuple es k pos) (gT n U) js := by
  refine pgW (pg_tup hc h hn hst) fun v σ H Q ⟨η, A, x, η', E, q, e, k⟩ => ?_
  unfold gT at e
  split at e
  · split at e
    · rename_i hl
      cases q with
      | tup h1 h2 => exact ⟨_, _, rfl, sqT_same (hid_le A H) h1, by rw [DpAll_length h2]; exact hl, η, A, _, η', E, h2, e, k⟩
    · cases e
  · cases e

/-! ### what is walked -/
structure Walks (K : PySem.W.Frag) (J : It) (H1 : Hp) (A : List Addr) (ds : List D) : Prop where
  step : ∀ (i : Nat) (x : D), ds[i]? = some x → ∀ (A' : List Addr) (H2 : Hp), Same (hid A H1) (hid A' H2) → (∀ p ∈ A', H2 p ≠ none) → J.go i H2 ∧ ∀ v H3, J.yld i H2 v H3 → Same H2 H3 ∧ Dp K (hid A' H3) v x
  stop : ∀ (A' : List Addr) (H2 : Hp), Same (hid A H1) (hid A' H2) → J.stop ds.length H2
def PostI (K : PySem.W.Frag) (mg : Str → Option Value) (W : WX) (σ : L2.St) (A : List Addr) (H : Hp) (r : R (List D)) (Q : It → Hp → Prop) : Prop :=
  match r with
  | .ok ds => ∀ J H', Same H H' → Walks K J H' A ds → Q J H'
  | .ex c w p => ∀ cls dd H', Same H H' → ExR K mg (hid A H') cls dd c w p → W cls dd σ H'
  | .no => False
def tI (K : PySem.W.Frag) (mg : Str → Option Value) (W : WX) (F : Nv → R (List D)) : TI := fun σ H Q => ∃ η A, EnvD K H A σ η ∧ PostI K mg W σ A H (F η) Q
def TI' (X : Cx) (W : WX) (tg iter : Expr) (F : Nv → R (List D)) : Prop := PI X tg iter (tI X.K X.mg W F)
theorem piW {t t' : TI} (h : PI X tg iter t) (k : ∀ σ H Q, t' σ H Q → t σ H Q) : PI X tg iter t' := ⟨fun pins s σ H Q I q => h.run pins s σ H Q I (k _ _ _ q)⟩
theorem walks_list {K : PySem.W.Frag} {H1 : Hp} {A : List Addr} {a : Addr} {vs : List V} {ds : List D} (h1 : SqL K (hid A H1) a vs) (q : DpAll K (hid A H1) vs ds) : Walks K (Itl K a) H1 A ds where
  step := fun i x e A' H2 s _ => by
    obtain ⟨v, e1, q1⟩ := DpAll_get q e
    have h2 : SqL K H2 a vs := (hid_le A' H2).seq (s.seq h1)
    refine ⟨⟨vs, v, h2, e1⟩, fun u H3 y => ?_⟩
    obtain ⟨rfl, y⟩ := y
    have z := y vs h2
    rw [e1] at z
    cases z
    exact ⟨Same.refl _, Dp_mono q1 s⟩
  stop := fun A' H2 s => ⟨vs, (hid_le A' H2).seq (s.seq h1), Nat.le_of_eq (DpAll_length q)⟩
theorem walks_tup {K : PySem.W.Frag} {H1 : Hp} {A : List Addr} {a : Addr} {vs : List V} {ds : List D} (h1 : SqT K (hid A H1) a vs) (q : DpAll K (hid A H1) vs ds) : Walks K (Itt K a) H1 A ds where
  step := fun i x e A' H2 s _ => by
    obtain ⟨v, e1, q1⟩ := DpAll_get q e
    have h2 : SqT K H2 a vs := sqT_same (hid_le A' H2) (sqT_same s h1)
    refine ⟨⟨vs, v, h2, e1⟩, fun u H3 y => ?_⟩
    obtain ⟨rfl, y⟩ := y
    have z := y vs h2
    rw [e1] at z
    cases z
    exact ⟨Same.refl _, Dp_mono q1 s⟩
  stop := fun A' H2 s => ⟨vs, sqT_same (hid_le A' H2) (sqT_same s h1), Nat.le_of_eq (DpAll_length q)⟩
def asL : D → R (List D)
  | .list xs => .ok xs
  | _ => .no
def asT : D → R (List D)
  | .tuple xs => .ok xs
  | _ => .no
def iL (F : Nv → R D) : Nv → R (List D) := fun η => (F η).bind asL
def iT (F : Nv → R D) : Nv → R (List D) := fun η => (F η).bind asT
theorem i_list (h : TD X W iter F) : TI' X W tg iter (iL F) := piW (pi_list h) fun σ H Q ⟨η, A, E, p0⟩ => by
  have p : PostI X.K X.mg W σ A H ((F η).bind asL) Q := p0
  refine (show tR X.K X.mg W (rD X.K) F σ H _ from ⟨η, A, E, ?_⟩)
  cases e1 : F η with
  | ex c w q => rw [e1] at p; exact p
  | no => rw [e1] at p; exact p
  | ok d =>
    rw [e1] at p
    intro v H1 s1 q1
    cases d with
    | list xs =>
      cases q1 with
      | lst h1 h2 => exact ⟨_, rfl, ⟨_, (hid_le A H1).seq h1⟩, p _ H1 s1 (walks_list h1 h2)⟩
    | _ => exact False.elim p
theorem i_tup (h : TD X W iter F) : TI' X W tg iter (iT F) := piW (pi_tup h) fun σ H Q ⟨η, A, E, p0⟩ => by
  have p : PostI X.K X.mg W σ A H ((F η).bind asT) Q := p0
  refine (show tR X.K X.mg W (rD X.K) F σ H _ from ⟨η, A, E, ?_⟩)
  cases e1 : F η with
  | ex c w q => rw [e1] at p; exact p
  | no => rw [e1] at p; exact p
  | ok d =>
    rw [e1] at p
    intro v H1 s1 q1
    cases d with
    | tuple xs =>
      cases q1 with
      | tup h1 h2 => exact ⟨_, rfl, ⟨_, sqT_same (hid_le A H1) h1⟩, p _ H1 s1 (walks_tup h1 h2)⟩
    | _ => exact False.elim p
def rangeD (lo : Int) (n : Nat) : List D := (List.range n).map fun i => PyData.int (lo + (i : Nat))
theorem walks_range {K : PySem.W.Frag} {H1 : Hp} {A : List Addr} {lo : Int} {n : Nat} : Walks K (Itr lo n) H1 A (rangeD lo n) where
  step := fun i x e A' H2 s _ => by
    unfold rangeD at e
    rw [List.getElem?_map] at e
    by_cases hi : i < n
    · rw [List.getElem?_range hi] at e
      cases e
      refine ⟨hi, fun u H3 y => ?_⟩
      obtain ⟨rfl, rfl⟩ := y
      exact ⟨Same.refl _, .int _⟩
    · rw [List.getElem?_eq_none (by simp; omega)] at e
      cases e
  stop := fun A' H2 s => by
    unfold rangeD
    rw [List.length_map, List.length_range]
    exact Nat.le_refl _
def rng1 (ds : List D) : R (List D) := match ds with
  | [.int j] => if -(2 ^ 62) ≤ j ∧ j < 2 ^ 62 then .ok (rangeD 0 j.toNat) else .no
  | _ => .no
def rng2 (ds : List D) : R (List D) := match ds with
  | [.int i, .int j] => if -(2 ^ 62) ≤ i ∧ i < 2 ^ 62 ∧ -(2 ^ 62) ≤ j ∧ j < 2 ^ 62 then .ok (rangeD i (j - i).toNat) else .no
  | _ => .no
def iR1 (Fs : Nv → R (List D)) : Nv → R (List D) := fun η => (Fs η).bind rng1
def iR2 (Fs : Nv → R (List D)) : Nv → R (List D) := fun η => (Fs η).bind rng2
theorem vO_int {K : PySem.W.Frag} {H : Hp} {A : List Addr} {v : V} {i : Int} (h : vO K H A v (.int i)) : v = .int i := rO_int h
theorem allI1 {K : PySem.W.Frag} {H : Hp} {A : List Addr} : ∀ {vs : List V} {i : Int}, AllV (vO K) H A vs [.int i] → vs = [.int i]
  | [v], i, h => by rw [vO_int h.1]
  | [], _, h => h.elim
  | _ :: _ :: _, _, h => h.2.elim
theorem allI2 {K : PySem.W.Frag} {H : Hp} {A : List Addr} : ∀ {vs : List V} {i j : Int}, AllV (vO K) H A vs [.int i, .int j] → vs = [.int i, .int j]
  | [v, w], i, j, h => by rw [vO_int h.1, vO_int h.2.1]
  | [], _, _, h => h.elim
  | [_], _, _, h => h.2.elim
  | _ :: _ :: _ :: _, _, _, h => h.2.2.elim
theorem i_range1 {Fs : Nv → R (List D)} {p : Pos} (hg : Gl X "range") (hm : X.mg "range" = none) (ha : TAs X W (vO X.K) [a] Fs) (hs : starEach [a] X.env = [(false, eval a X.env)] := by rfl) : TI' X W tg (.Call (.Name "range" p) [a] [] pos) (iR1 Fs) := piW (pi_range1 hg hm ha hs) fun σ H Q ⟨η, A, E, p0⟩ => by
  have p : PostI X.K X.mg W σ A H ((Fs η).bind rng1) Q := p0
  refine (show tA X.K X.mg W (vO X.K) Fs σ H _ from ⟨η, A, E, ?_⟩)
  cases e1 : Fs η with
  | ex c w q => rw [e1] at p; exact p
  | no => rw [e1] at p; exact p
  | ok ds =>
    rw [e1] at p
    have p : PostI X.K X.mg W σ A H (rng1 ds) Q := p
    intro vs H1 s1 q1
    unfold rng1 at p
    split at p
    · split at p
      · rename_i h
        exact ⟨_, allI1 q1, h.1, h.2, p _ H1 s1 walks_range⟩
      · exact False.elim p
    · exact False.elim p
theorem i_range2 {Fs : Nv → R (List D)} {p : Pos} (hg : Gl X "range") (hm : X.mg "range" = none) (ha : TAs X W (vO X.K) [a, b] Fs) (hs : starEach [a, b] X.env = [(false, eval a X.env), (false, eval b X.env)] := by rfl) (hs2 : starEach [b] X.env = [(false, eval b X.env)] := by rfl) :
    TI' X W tg (.Call (.Name "range" p) [a, b] [] pos) (iR2 Fs) := piW (pi_range2 hg hm ha hs hs2) fun σ H Q ⟨η, A, E, p0⟩ => by
  have p : PostI X.K X.mg W σ A H ((Fs η).bind rng2) Q := p0
  refine (show tA X.K X.mg W (vO X.K) Fs σ H _ from ⟨η, A, E, ?_⟩)
  cases e1 : Fs η with
  | ex c w q => rw [e1] at p; exact p
  | no => rw [e1] at p; exact p
  | ok ds =>
    rw [e1] at p
    have p : PostI X.K X.mg W σ A H (rng2 ds) Q := p
    intro vs H1 s1 q1
    unfold rng2 at p
    split at p
    · split at p
      · rename_i h
        exact ⟨_, _, allI2 q1, ⟨h.1, h.2.1, h.2.2.1, h.2.2.2⟩, p _ H1 s1 walks_range⟩
      · exact False.elim p
    · exact False.elim p

/-! ### comprehensions -/
def wipeE (η : Nv) : List Nat → Nv
  | [] => η
  | v :: vs => (wipeE η vs).set v .no
theorem wipe_get (σ : L2.St) : ∀ (vs : List Nat) (j : Nat), (wipe σ vs)[j]? = if j ∈ vs then (σ[j]?).map fun _ => none else σ[j]?
  | [], j => by simp [wipe]
  | v :: vs, j => by
    unfold wipe
    have ih := wipe_get σ vs j
    by_cases hj : v = j
    · subst hj
      rw [if_pos List.mem_cons_self]
      by_cases hl : v < (wipe σ vs).length
      · rw [List.getElem?_set_self hl]
        rw [wipe_length] at hl
        rw [List.getElem?_eq_getElem hl]
        rfl
      · rw [List.getElem?_eq_none (by rw [List.length_set]; omega)]
        rw [wipe_length] at hl
        rw [List.getElem?_eq_none (by omega)]
        rfl
    · rw [List.getElem?_set_ne hj, ih]
      have : (j ∈ v :: vs) ↔ j ∈ vs := ⟨fun m => (List.mem_cons.mp m).elim (fun z => absurd z.symm hj) id, List.mem_cons_of_mem _⟩
      simp only [this]
theorem wipeE_get (η : Nv) : ∀ (vs : List Nat) (j : Nat), (wipeE η vs)[j]? = if j ∈ vs then (η[j]?).map fun _ => Sl.no else η[j]?
  | [], j => by simp [wipeE]
  | v :: vs, j => by
    unfold wipeE
    have ih := wipeE_get η vs j
    have hlen : (wipeE η vs).length = η.length := by
      clear ih
      induction vs with
      | nil => rfl
      | cons w ws ih => unfold wipeE; rw [List.length_set, ih]
    by_cases hj : v = j
    · subst hj
      rw [if_pos List.mem_cons_self]
      by_cases hl : v < (wipeE η vs).length
      · rw [List.getElem?_set_self hl]
        rw [hlen] at hl
        rw [List.getElem?_eq_getElem hl]
        rfl
      · rw [List.getElem?_eq_none (by rw [List.length_set]; omega)]
        rw [hlen] at hl
        rw [List.getElem?_eq_none (by omega)]
        rfl
    · rw [List.getElem?_set_ne hj, ih]
      have : (j ∈ v :: vs) ↔ j ∈ vs := ⟨fun m => (List.mem_cons.mp m).elim (fun z => absurd z.symm hj) id, List.mem_cons_of_mem _⟩
      simp only [this]
theorem wipeE_length (η : Nv) : ∀ vs : List Nat, (wipeE η vs).length = η.length
  | [] => rfl
  | v :: vs => by unfold wipeE; rw [List.length_set, wipeE_length η vs]
theorem EnvD.wipe {K : PySem.W.Frag} {H : Hp} {A : List Addr} {σ : L2.St} {η : Nv} (E : EnvD K H A σ η) (vs : List Nat) : EnvD K H A (wipe σ vs) (wipeE η vs) where
  len := by rw [wipe_length, wipeE_length, E.len]
  at_ := fun j s e => by
    rw [wipeE_get] at e
    rw [wipe_get]
    split at e
    · rename_i hj
      cases q : η[j]? with
      | none => rw [q] at e; cases e
      | some s0 =>
        rw [q] at e
        cases e
        obtain ⟨o, e1, _⟩ := E.at_ j s0 q
        exact ⟨none, by rw [if_pos hj, e1]; rfl, trivial⟩
    · rename_i hj
      rw [if_neg hj]
      exact E.at_ j s e
  ap := fun j k a xs ys e1 e2 e3 e4 => by
    rw [wipeE_get] at e1 e2
    rw [wipe_get] at e3 e4
    split at e1
    · cases q : η[j]? <;> (rw [q] at e1; cases e1)
    · rename_i hj
      rw [if_neg hj] at e3
      split at e2
      · cases q : η[k]? <;> (rw [q] at e2; cases e2)
      · rename_i hk
        rw [if_neg hk] at e4
        exact E.ap j k a xs ys e1 e2 e3 e4
  tr := E.tr
/-- .. where nothing is raised -/
def R.bindN {α β : Type} : R α → (α → R β) → R β
  | .ok a, f => f a
  | _, _ => .no
@[simp] theorem R.ok_bindN {α β : Type} (a : α) (f : α → R β) : (R.ok a).bindN f = f a := Eq.trans rfl rfl
theorem R.bindN_ok {α β : Type} {r : R α} {f : α → R β} {y : β} (h : r.bindN f = .ok y) : ∃ x, r = .ok x ∧ f x = .ok y := by
  cases r with
  | ok a => exact ⟨a, rfl, h⟩
  | ex c w p => cases h
  | no => cases h
def compD (T : Tgt) (C : Nv → R Bool) (El : Nv → R D) (η : Nv) : List D → R (List D)
  | [] => .ok []
  | x :: xs => match T x η with
    | none => .no
    | some η1 => (C η1).bindN fun b => if b then (El η1).bindN fun y => (compD T C El η xs).bindN fun ys => .ok (y :: ys) else compD T C El η xs
def compE (Fi : Nv → R (List D)) (T : Tgt) (C : Nv → R Bool) (El : Nv → R D) (vs : List Nat) : Nv → R D := fun η => (Fi η).bind fun xs => (compD T C El (wipeE η vs) xs).bindN fun ys => if ys.length ≤ lineN then .ok (.list ys) else .no
def W0 : WX := fun _ _ _ _ => False
theorem stored_wipe {σ σ' : L2.St} {η η' : Nv} {js vs : List Nat} (S : Stored (wipe σ vs) σ' η η' js) (h : ∀ j ∈ js, j ∈ vs) (hl : σ'.length = σ.length) : wipe σ' vs = wipe σ vs := by
  apply List.ext_getElem?
  intro j
  rw [wipe_get, wipe_get]
  by_cases hj : j ∈ vs
  · rw [if_pos hj, if_pos hj]
    by_cases hb : j < σ.length
    · rw [List.getElem?_eq_getElem hb, List.getElem?_eq_getElem (by rw [hl]; exact hb)]
      rfl
    · rw [List.getElem?_eq_none (by omega), List.getElem?_eq_none (by omega)]
  · rw [if_neg hj, if_neg hj, S.rest j fun m => hj (h j m), wipe_get, if_neg hj]
theorem lc_t {Fi : Nv → R (List D)} {T : Tgt} {js vs : List Nat} {C : Nv → R Bool} {El : Nv → R D} (hj : ∀ j ∈ js, j ∈ vs) {σ : L2.St} {H : Hp} {Q : VK} (h : tR X.K X.mg W (rF X.K) (compE Fi T C El vs) σ H Q) :
    tLc (tI X.K X.mg W Fi) (gD X.K T js) (tT X.K X.mg W0 C) (tR X.K X.mg W0 (rD X.K) El) vs σ H Q := by
  obtain ⟨η, A, E, p0⟩ := h
  have p : Post X.K X.mg W (rF X.K) σ A H ((Fi η).bind fun xs => (compD T C El (wipeE η vs) xs).bindN fun ys => if ys.length ≤ lineN then .ok (.list ys) else .no) Q := p0
  refine (show tI X.K X.mg W Fi σ H _ from ⟨η, A, E, ?_⟩)
  cases e1 : Fi η with
  | ex c w q => rw [e1] at p; exact p
  | no => rw [e1] at p; exact p
  | ok ds =>
    rw [e1] at p
    have p : Post X.K X.mg W (rF X.K) σ A H ((compD T C El (wipeE η vs) ds).bindN fun ys => if ys.length ≤ lineN then .ok (.list ys) else .no) Q := p
    cases e2 : compD T C El (wipeE η vs) ds with
    | ex c w q => rw [e2] at p; exact False.elim p
    | no => rw [e2] at p; exact False.elim p
    | ok ys =>
      rw [e2] at p
      have p : Post X.K X.mg W (rF X.K) σ A H (if ys.length ≤ lineN then .ok (.list ys) else .no) Q := p
      split at p
      · rename_i hz
        intro J H1 s1 wk M nM
        have E1 := E.same s1
        refine ⟨fun i m H2 => m + i = ds.length ∧ Same H1 H2 ∧ ∃ done rest acc, ys = done ++ rest ∧ compD T C El (wipeE η vs) (ds.drop i) = .ok rest ∧ H2 M = some (.lst acc) ∧ DpAll X.K (hid (M :: A) H2) acc done,
          ⟨ds.length, rfl, same_new nM, [], ys, [], rfl, e2, upd_same, .nil⟩, fun i m H2 hw => ?_⟩
        obtain ⟨em, s2, done, rest, acc, ey, er, hM, hd⟩ := hw
        have sh : Same (hid A H1) (hid (M :: A) H2) := hid_new s2 nM
        have E2 : EnvD X.K H2 (M :: A) σ η := E1.new s2 nM (by rw [hM]; exact fun z => nomatch z)
        cases hx : ds[i]? with
        | none =>
          have hi : ds.length ≤ i := List.getElem?_eq_none_iff.mp hx
          have ei : i = ds.length := by omega
          subst ei
          rw [List.drop_length] at er
          have er : R.ok ([] : List D) = .ok rest := er
          cases er
          rw [List.append_nil] at ey
          subst ey
          exact .inl ⟨wk.stop _ _ sh, p _ H2 (s1.trans s2) ⟨M, acc, _, rfl, rfl, s1.free nM, hM, hd⟩⟩
        | some x =>
          have hi : i < ds.length := (List.getElem?_eq_some_iff.mp hx).1
          have ed : ds.drop i = x :: ds.drop (i + 1) := by
            rw [List.drop_eq_getElem_cons hi]
            congr 1
            exact (List.getElem?_eq_some_iff.mp hx).2
          obtain ⟨g1, g2⟩ := wk.step i x hx _ _ sh E2.tr
          refine .inr ⟨g1, fun H' => ∃ m', m' < m ∧ (m' + (i + 1) = ds.length ∧ Same H1 H' ∧ ∃ done rest acc, ys = done ++ rest ∧ compD T C El (wipeE η vs) (ds.drop (i + 1)) = .ok rest ∧ H' M = some (.lst acc) ∧ DpAll X.K (hid (M :: A) H') acc done), fun H' hN => hN, fun v H3 y => ?_⟩
          obtain ⟨s3, qv⟩ := g2 v H3 y
          rw [ed] at er
          unfold compD at er
          cases et : T x (wipeE η vs) with
          | none => rw [et] at er; cases er
          | some η1 =>
            rw [et] at er
            obtain ⟨bk, ec, er⟩ := R.bindN_ok er
            refine ⟨wipeE η vs, M :: A, x, η1, (E2.same s3).wipe vs, qv, et, fun σ2 E3 S => ⟨stored_wipe S hj (S.len.trans (wipe_length σ vs)), ?_⟩⟩
            · refine (show tT X.K X.mg W0 C σ2 H3 _ from ⟨η1, M :: A, E3, ?_⟩)
              rw [ec]
              intro H4 s4
              cases bk with
              | false =>
                refine iteF ⟨m - 1, by omega, by omega, (s2.trans s3).trans s4, done, rest, acc, ey, er, s4 _ _ (s3 _ _ hM), DpAll_mono hd (hid_same (s3.trans s4))⟩
              | true =>
                obtain ⟨y, ee, er⟩ := R.bindN_ok er
                obtain ⟨rest', er', e3⟩ := R.bindN_ok er
                cases e3
                refine iteT (show tR X.K X.mg W0 (rD X.K) El σ2 H4 _ from ⟨η1, M :: A, E3.same s4, ?_⟩)
                rw [ee]
                intro w H5 s5 qw
                have sM : H5 M = some (.lst acc) := s5 _ _ (s4 _ _ (s3 _ _ hM))
                have hidM : hid (M :: A) (upd H5 M (.lst (acc ++ [w]))) = hid (M :: A) H5 := hid_upd List.mem_cons_self
                have hl : acc.length = done.length := DpAll_length hd
                refine ⟨acc, sM, ?_, m - 1, by omega, by omega, ?_, done ++ [y], rest', acc ++ [w], by rw [ey, List.append_assoc]; rfl, er', upd_same, ?_⟩
                · rw [line_eq, hl]
                  have : ys.length = done.length + (rest'.length + 1) := by rw [ey, List.length_append, List.length_cons]
                  omega
                · intro b o eb
                  rw [upd_ne fun z => by subst z; rw [nM] at eb; cases eb]
                  exact s5 _ _ (s4 _ _ (s3 _ _ (s2 _ _ eb)))
                · rw [hidM]
                  exact DpAll_append (DpAll_mono hd (hid_same ((s3.trans s4).trans s5))) (.cons qw .nil)
      · exact False.elim p
end
end Bd
/-! D5: comprehensions as values; statements; defs and their calls. -/
namespace Bd
open PySem L2

section
variable {X : Cx} {W : WX} {rl : Rl} {a b c e tg iter elt : Expr} {Fa Fb Fc F : Nv → R D} {Ga Gb G : Nv → R Bool} {pos : Pos}
theorem cs_nil {X : Cx} : PTs X [] (tT X.K X.mg W0 fun _ => .ok true) := ⟨fun pins s σ H Q I q => pts_nil.run pins s σ H Q I (by obtain ⟨η, A, E, p⟩ := q; exact p H (Same.refl _))⟩
theorem cs_one {X : Cx} {c : Expr} {G : Nv → R Bool} (h : TB X W0 c G) : PTs X [c] (tT X.K X.mg W0 G) := pts_one h
section
variable {ifs : List Expr} {scope : Scope} {own : List (Str × Nat)} {Fi : Nv → R (List D)} {T : Tgt} {js : List Nat} {C : Nv → R Bool} {El : Nv → R D}
theorem t_lc (hc : X.calm = true) (hN : X.N.Nodup) (hi : TI' X W tg iter Fi) (ok : BlkOk X.N X.env.scope scope own)
    (hg : ∀ (s : Shared) (H : Hp) (C : Addr) (cl : List (Str × Addr)) (fp : List Addr), TT' (X.blk s H scope (compEnvC scope cl C X.env) fp) tg T js)
    (ht : ∀ (s : Shared) (H : Hp) (D : Addr) (cl : List (Str × Addr)) (fp : List Addr), PTs (X.blk s H scope (compEnvC scope cl D X.env) fp) ifs (tT X.K X.mg W0 C))
    (he : ∀ (s : Shared) (H : Hp) (D : Addr) (cl : List (Str × Addr)) (fp : List Addr), TD (X.blk s H scope (compEnvC scope cl D X.env) fp) W0 elt El)
    {vs : List Nat} (hv : own.map (·.2) = vs := by rfl) (hj : ∀ j ∈ js, j ∈ own.map (·.2) := by decide) (hs : ∀ x, foldedSetIterable iter X.env x = pure x := by intro _; rfl) : TF X W (.ListComp elt [⟨tg, iter, ifs, 0⟩] scope pos) (compE Fi T C El vs) := by
  subst hv
  exact peW (pe_lc hc hN hi ok (fun s H C cl fp => show PG _ tg (gD X.K T js) from hg s H C cl fp) ht (fun s H C cl fp => show PE _ elt (tR X.K X.mg W0 (rD X.K) El) from he s H C cl fp) hs) fun σ H Q h => lc_t hj h
end

/-! ### statements -/
structure EnvS (K : PySem.W.Frag) (M : List Addr) (H0 : Hp) (A0 : List Addr) (H : Hp) (B : List Addr) (σ : L2.St) (η : Nv) : Prop where
  env : EnvD K H (B ++ A0) σ η
  same : Same (hid M H0) (hid M H)
  mA : (∀ p ∈ M, p ∈ A0) ∧ ∀ p ∈ A0, H0 p ≠ none
  new : ∀ p ∈ B, H0 p = none
  own : ∀ (i : Nat) (a : Addr) (xs : OL), η[i]? = some (.own xs) → σ[i]? = some (some (.ref a)) → if xs.b then a ∈ B else a ∈ M
  dk : ∀ (i : Nat) (a : Addr) (ks : Dks), η[i]? = some (.dk ks) → σ[i]? = some (some (.ref a)) → a ∈ B ∧ ∀ (j : Nat) (ks' : Dks), η[j]? = some (.dk ks') → σ[j]? = some (some (.ref a)) → j = i
inductive Rs where
  | nx (η : Nv) | rt (d : D) (η : Nv) | bk (η : Nv) | ct (η : Nv) | ex (c w : Str) (p : D) | no
/-- where a statement leads -/
def Goes (K : PySem.W.Frag) (M : List Addr) (H0 : Hp) (A0 : List Addr) (H : Hp) (B : List Addr) (η : Nv) (P : L2.St → Hp → Prop) : Prop :=
  ∀ σ' H' B', EnvS K M H0 A0 H' B' σ' η → Same (hid (B ++ A0) H) (hid (B' ++ A0) H') → P σ' H'
def PostS (K : PySem.W.Frag) (mg : Str → Option Value) (W : WX) (rl : Rl) (M : List Addr) (H0 : Hp) (A0 : List Addr) (H : Hp) (B : List Addr) (r : Rs) (E : Ends) : Prop :=
  match r with
  | .nx η => Goes K M H0 A0 H B η E.nx
  | .bk η => Goes K M H0 A0 H B η E.bk
  | .ct η => Goes K M H0 A0 H B η E.ct
  | .rt d η => ∀ v σ' H' B', EnvS K M H0 A0 H' B' σ' η → rl H0 H' A0 v d → E.rt v H'
  | .ex c w p => ∀ cls dd σ' H', Same (hid M H0) (hid M H') → ExR K mg (hid A0 H') cls dd c w p → W cls dd σ' H'
  | .no => False
theorem PostS.keep {K : PySem.W.Frag} {mg : Str → Option Value} {M : List Addr} {H0 : Hp} {A0 : List Addr} {H H1 : Hp} {B B1 : List Addr} {r : Rs} {E : Ends} (s : Same (hid (B ++ A0) H) (hid (B1 ++ A0) H1)) (h : PostS K mg W rl M H0 A0 H B r E) : PostS K mg W rl M H0 A0 H1 B1 r E := by
  cases r with
  | nx η => exact fun σ' H' B' e q => h σ' H' B' e (s.trans q)
  | bk η => exact fun σ' H' B' e q => h σ' H' B' e (s.trans q)
  | ct η => exact fun σ' H' B' e q => h σ' H' B' e (s.trans q)
  | rt d η => exact h
  | ex c w p => exact h
  | no => exact h
def tS (K : PySem.W.Frag) (mg : Str → Option Value) (W : WX) (rl : Rl) (M : List Addr) (H0 : Hp) (A0 : List Addr) (G : Nv → Rs) : TS := fun E σ H => ∃ η B, EnvS K M H0 A0 H B σ η ∧ PostS K mg W rl M H0 A0 H B (G η) E
/-- what is the same in a whole def: the wish, how its answer lies, the heap at its entry -/
structure Fx where
  W : WX
  rl : Rl
  M : List Addr
  H0 : Hp
  A0 : List Addr
def TS' (X : Cx) (f : Fx) (st : Stmt) (G : Nv → Rs) : Prop := PS X st (tS X.K X.mg f.W f.rl f.M f.H0 f.A0 G)
def TSs (X : Cx) (f : Fx) (st : List Stmt) (G : Nv → Rs) : Prop := PSs X st (tS X.K X.mg f.W f.rl f.M f.H0 f.A0 G)
variable {f : Fx} {st : Stmt} {sts : List Stmt} {Gs Gt : Nv → Rs}
theorem psW {t t' : TS} (h : PS X st t) (k : ∀ E σ H, t' E σ H → t E σ H) : PS X st t' := ⟨fun pins s σ H E I q => h.run pins s σ H E I (k _ _ _ q)⟩
theorem pssW {t t' : TS} (h : PSs X sts t) (k : ∀ E σ H, t' E σ H → t E σ H) : PSs X sts t' := ⟨fun pins s σ H E I q => h.run pins s σ H E I (k _ _ _ q)⟩
def Rs.bind : Rs → (Nv → Rs) → Rs
  | .nx η, f => f η
  | r, _ => r
def seqS (Gs Gt : Nv → Rs) : Nv → Rs := fun η => (Gs η).bind Gt
theorem ss_nil : TSs X f [] .nx := pssW pss_nil fun E σ H ⟨η, B, e, p⟩ => p σ H B e (Same.refl _)
theorem ss_cons (h1 : TS' X f st Gs) (h2 : TSs X f sts Gt) : TSs X f (st :: sts) (seqS Gs Gt) := pssW (pss_cons h1 h2) fun E σ H ⟨η, B, e, p0⟩ => by
  have p : PostS X.K X.mg f.W f.rl f.M f.H0 f.A0 H B ((Gs η).bind Gt) E := p0
  refine ⟨η, B, e, ?_⟩
  cases e1 : Gs η with
  | nx η1 =>
    rw [e1] at p
    exact fun σ' H' B' e' s => ⟨η1, B', e', PostS.keep s p⟩
  | _ => rw [e1] at p; exact p
theorem EnvS.step {K : PySem.W.Frag} {M : List Addr} {H0 : Hp} {A0 : List Addr} {H H1 : Hp} {B : List Addr} {σ : L2.St} {η : Nv} (e : EnvS K M H0 A0 H B σ η) (s : Same H H1) : EnvS K M H0 A0 H1 B σ η := ⟨e.env.same s, e.same.trans (hid_same s), e.mA, e.new, e.own, e.dk⟩
theorem EnvS.free {K : PySem.W.Frag} {M : List Addr} {H0 : Hp} {A0 : List Addr} {H : Hp} {B : List Addr} {σ : L2.St} {η : Nv} {p : Addr} (e : EnvS K M H0 A0 H B σ η) (h : H p = none) : H0 p = none := by
  have n : p ∉ M := fun m => e.env.tr p (List.mem_append_right _ (e.mA.1 p m)) h
  have f := e.same.free (l := p) (by rw [hid_out n]; exact h)
  rwa [hid_out n] at f
/-- an expression's answer, then the statement's -/
def R.toS {α : Type} : R α → (α → Rs) → Rs
  | .ok a, f => f a
  | .ex c w p, _ => .ex c w p
  | .no, _ => .no
theorem hid_app {B A : List Addr} {H : Hp} : Same (hid (B ++ A) H) (hid A H) := hid_mono fun _ m => List.mem_append_right _ m
theorem exS {K : PySem.W.Frag} {mg : Str → Option Value} {H : Hp} {A B : List Addr} {cls : Value} {dd : Option Addr} {c w : Str} {p : D} (h : ExR K mg (hid (B ++ A) H) cls dd c w p) : ExR K mg (hid A H) cls dd c w p := by
  obtain ⟨m, dx, v, rfl, e, q⟩ := h
  exact ⟨m, dx, v, rfl, hid_app _ _ e, Dp_mono q hid_app⟩
theorem toS_R {g : Nv → D → Rs} {E : Ends} {σ : L2.St} {H : Hp} (h : tS X.K X.mg f.W f.rl f.M f.H0 f.A0 (fun η => (F η).toS (g η)) E σ H) {R1 : V → Hp → Prop}
    (k : ∀ (η : Nv) (B : List Addr) (H1 : Hp) (v : V) (d : D), EnvS X.K f.M f.H0 f.A0 H B σ η → EnvS X.K f.M f.H0 f.A0 H1 B σ η → Same H H1 → rl H H1 (B ++ f.A0) v d → PostS X.K X.mg f.W f.rl f.M f.H0 f.A0 H B (g η d) E → R1 v H1) : tR X.K X.mg f.W rl F σ H R1 := by
  obtain ⟨η, B, e, p0⟩ := h
  have p : PostS X.K X.mg f.W f.rl f.M f.H0 f.A0 H B ((F η).toS (g η)) E := p0
  refine ⟨η, B ++ f.A0, e.env, ?_⟩
  cases e1 : F η with
  | ok d =>
    rw [e1] at p
    have p : PostS X.K X.mg f.W f.rl f.M f.H0 f.A0 H B (g η d) E := p
    exact fun v H1 s q => k η B H1 v d e (e.step s) s q p
  | ex c w q =>
    rw [e1] at p
    exact fun cls dd H' s x => p cls dd σ H' (e.same.trans (hid_same s)) (exS x)
  | no => rw [e1] at p; exact p
/-- name = e -/
def setS (i : Nat) (F : Nv → R D) : Nv → Rs := fun η => (F η).toS fun x => .nx (η.set i (.d x))
theorem EnvS.set {K : PySem.W.Frag} {M : List Addr} {H0 : Hp} {A0 : List Addr} {H : Hp} {B : List Addr} {σ : L2.St} {η : Nv} {i : Nat} {v : V} {x : D} (e : EnvS K M H0 A0 H B σ η) (q : Dp K (hid (B ++ A0) H) v x) : EnvS K M H0 A0 H B (σ.set i (some v)) (η.set i (.d x)) where
  env := e.env.set q
  same := e.same
  mA := e.mA
  new := e.new
  own := fun j a xs h1 h2 => by
    obtain ⟨n, h1⟩ := own_set h1
    rw [List.getElem?_set_ne fun z => n z.symm] at h2
    exact e.own j a xs h1 h2
  dk := fun j a ks h1 h2 => by
    obtain ⟨n, h1⟩ := dk_set (s := .d x) (fun _ z => nomatch z) h1
    rw [List.getElem?_set_ne fun z => n z.symm] at h2
    exact ⟨(e.dk j a ks h1 h2).1, fun k ks' g1 g2 => by
      obtain ⟨n, g1⟩ := dk_set (s := .d x) (fun _ z => nomatch z) g1
      rw [List.getElem?_set_ne fun z => n z.symm] at g2
      exact (e.dk j a ks h1 h2).2 k ks' g1 g2⟩
theorem s_set (i : Nat) {x : Str} {pos' : Pos} (hN : X.N.Nodup) (he : TD X f.W e F) (hi : X.N[i]? = some x := by rfl) (hx : Loc X.env.scope x := by first | exact Or.inl rfl | exact Or.inr rfl) (hs : swapsWith e (some (.Name x pos')) pos.line X.env = pure false := by rfl)
    (hf : X.fn x = true ∨ X.env.scope.names.lookup x = some .local := by first | exact .inl rfl | exact .inr rfl) : TS' X f (.Assign [.Name x pos'] e pos) (setS i F) :=
  psW (ps_set hN hi hx he hs hf) fun E σ H h => toS_R h fun η B H1 v d e0 e s q p => p _ H1 B (e.set q) (hid_same s)
/-- target = e -/
def asgS (T : Tgt) (F : Nv → R D) : Nv → Rs := fun η => (F η).toS fun x => match T x η with
  | some η' => .nx η'
  | none => .no
theorem s_asg {T : Tgt} {js : List Nat} (he : TD X f.W e F) (hg : TT' X tg T js) (hs : swapsWithSole [tg] e pos.line X.env = pure false := by rfl) (hw : swappedStores [tg] e X.env = pure none := by rfl) (h1 : (assignEach [tg] X.env).map (·.2) = [assign tg X.env] := by rfl) :
    TS' X f (.Assign [tg] e pos) (asgS T F) :=
  psW (ps_asg he hg hs hw h1) fun E σ H h => toS_R h fun η B H1 v d e0 e s q p => by
    cases et : T d η with
    | none => rw [et] at p; exact False.elim p
    | some η' =>
      rw [et] at p
      refine ⟨η, B ++ f.A0, d, η', e.env, q, et, fun σ' E' S => p σ' H1 B ⟨E', e.same, e.mA, e.new, fun j a xs h1 h2 => ?_, fun j a ks h1 h2 => ?_⟩ (hid_same s)⟩
      · obtain ⟨n, h1⟩ := S.own j xs h1
        rw [S.rest j n] at h2
        exact e.own j a xs h1 h2
      · obtain ⟨n, h1⟩ := S.dk j ks h1
        rw [S.rest j n] at h2
        exact ⟨(e.dk j a ks h1 h2).1, fun k ks' g1 g2 => by
          obtain ⟨n, g1⟩ := S.dk k ks' g1
          rw [S.rest k n] at g2
          exact (e.dk j a ks h1 h2).2 k ks' g1 g2⟩
/-- name = a new list, the def's own -/
def ownS (i : Nat) (F : Nv → R D) : Nv → Rs := fun η => (F η).toS fun x => match x with
  | .list xs => .nx (η.set i (.own ⟨true, xs⟩))
  | _ => .no
theorem EnvS.setOwn {K : PySem.W.Frag} {M : List Addr} {H0 : Hp} {A0 : List Addr} {H H1 : Hp} {B : List Addr} {σ : L2.St} {η : Nv} {i : Nat} {p : Addr} {vs : List V} {xs : List D} (e : EnvS K M H0 A0 H B σ η) (s : Same H H1) (hp : H p = none) (hp1 : H1 p = some (.lst vs)) (q : DpAll K (hid (p :: (B ++ A0)) H1) vs xs) :
    EnvS K M H0 A0 H1 (p :: B) (σ.set i (some (.ref p))) (η.set i (.own ⟨true, xs⟩)) := by
  have E1 : EnvD K H1 (p :: (B ++ A0)) σ η := e.env.new s hp (by rw [hp1]; exact fun z => nomatch z)
  have gt : ∀ (j : Nat) (sl : Sl), (η.set i (.own ⟨true, xs⟩))[j]? = some sl → (j = i ∧ i < η.length ∧ sl = .own ⟨true, xs⟩) ∨ (j ≠ i ∧ η[j]? = some sl) := fun j sl h => by
    by_cases hj : i = j
    · subst hj
      by_cases hl : i < η.length
      · rw [List.getElem?_set_self hl] at h
        cases h
        exact .inl ⟨rfl, hl, rfl⟩
      · rw [List.getElem?_eq_none (by rw [List.length_set]; omega)] at h
        cases h
    · rw [List.getElem?_set_ne hj] at h
      exact .inr ⟨fun z => hj z.symm, h⟩
  have ot : ∀ j, j ≠ i → (σ.set i (some (.ref p)))[j]? = σ[j]? := fun j n => List.getElem?_set_ne fun z => n z.symm
  have oi : i < η.length → (σ.set i (some (.ref p)))[i]? = some (some (.ref p)) := fun hl => List.getElem?_set_self (by rw [e.env.len]; exact hl)
  have fr : ∀ (j : Nat) (ys : OL), η[j]? = some (.own ys) → σ[j]? ≠ some (some (.ref p)) := fun j ys h z => by
    obtain ⟨o, e1, q1⟩ := e.env.at_ j _ h
    rw [z] at e1
    cases e1
    obtain ⟨_, ws, e2, _⟩ := q1
    rw [hp] at e2
    cases e2
  refine ⟨⟨by rw [List.length_set, List.length_set, e.env.len], fun j sl h => ?_, fun j k a ys zs h1 h2 h3 h4 => ?_, E1.tr⟩, e.same.trans (hid_same s), e.mA, fun b m => ?_, fun j a ys h1 h2 => ?_, fun j a ks h1 h2 => ?_⟩
  · rcases gt j sl h with ⟨rfl, hl, rfl⟩ | ⟨n, h⟩
    · exact ⟨_, oi hl, List.mem_cons_self, vs, hp1, q⟩
    · rw [ot j n]
      exact E1.at_ j sl h
  · rcases gt j _ h1 with ⟨ej, hl, _⟩ | ⟨n, g1⟩
    · rcases gt k _ h2 with ⟨ek, _, _⟩ | ⟨n2, g2⟩
      · rw [ej, ek]
      · rw [ej, oi hl] at h3
        cases h3
        rw [ot k n2] at h4
        exact absurd h4 (fr k zs g2)
    · rcases gt k _ h2 with ⟨ek, hl, _⟩ | ⟨n2, g2⟩
      · rw [ek, oi hl] at h4
        cases h4
        rw [ot j n] at h3
        exact absurd h3 (fr j ys g1)
      · rw [ot j n] at h3
        rw [ot k n2] at h4
        exact E1.ap j k a ys zs g1 g2 h3 h4
  · rcases List.mem_cons.mp m with rfl | m
    · exact e.free hp
    · exact e.new b m
  · rcases gt j _ h1 with ⟨rfl, hl, _⟩ | ⟨n, h1⟩
    · rw [oi hl] at h2
      cases h2
      rename_i q0
      cases q0
      exact List.mem_cons_self
    · rw [ot j n] at h2
      have z := e.own j a ys h1 h2
      cases hb : ys.b with
      | true => rw [hb, if_pos rfl] at z; rw [if_pos rfl]; exact List.mem_cons_of_mem _ z
      | false => rw [hb, if_neg Bool.false_ne_true] at z; rw [if_neg Bool.false_ne_true]; exact z
  · rcases gt j _ h1 with ⟨_, _, z⟩ | ⟨n, h1⟩
    · cases z
    · rw [ot j n] at h2
      exact ⟨List.mem_cons_of_mem _ (e.dk j a ks h1 h2).1, fun k ks' g1 g2 => by
        rcases gt k _ g1 with ⟨_, _, z⟩ | ⟨n, g1⟩
        · cases z
        · rw [ot k n] at g2
          exact (e.dk j a ks h1 h2).2 k ks' g1 g2⟩
theorem s_own (i : Nat) {x : Str} {pos' : Pos} (hN : X.N.Nodup) (he : TF X f.W e F) (hi : X.N[i]? = some x := by rfl) (hx : Loc X.env.scope x := by first | exact Or.inl rfl | exact Or.inr rfl) (hs : swapsWith e (some (.Name x pos')) pos.line X.env = pure false := by rfl)
    (hf : X.fn x = true ∨ X.env.scope.names.lookup x = some .local := by first | exact .inl rfl | exact .inr rfl) : TS' X f (.Assign [.Name x pos'] e pos) (ownS i F) :=
  psW (ps_set hN hi hx he hs hf) fun E σ H h => toS_R h fun η B H1 v d e0 e s q p => by
    obtain ⟨l, vs, ds, rfl, rfl, hp, hp1, qs⟩ := q
    exact p _ H1 (l :: B) (e0.setOwn s hp hp1 qs) (hid_new s hp)
/-- name = [.. for ..] -/
theorem s_setLc (i : Nat) {y : Str} {py spos : Pos} {ifs : List Expr} {scope : Scope} {own : List (Str × Nat)} {Fi : Nv → R (List D)} {T : Tgt} {js : List Nat} {C : Nv → R Bool} {El : Nv → R D} (hc : X.calm = true) (hN : X.N.Nodup)
    (hsw : swapsWith (.ListComp elt [⟨tg, iter, ifs, 0⟩] scope pos) (some (.Name y py)) spos.line X.env = pure true) (hi : TI' X f.W tg iter Fi) (ok : BlkOk X.N X.env.scope scope own)
    (hg : ∀ (s : Shared) (H : Hp) (C : Addr) (cl : List (Str × Addr)) (fp : List Addr), TT' (X.blk s H scope (compEnvC scope cl C X.env) fp) tg T js)
    (ht : ∀ (s : Shared) (H : Hp) (D : Addr) (cl : List (Str × Addr)) (fp : List Addr), PTs (X.blk s H scope (compEnvC scope cl D X.env) fp) ifs (tT X.K X.mg W0 C))
    (he : ∀ (s : Shared) (H : Hp) (D : Addr) (cl : List (Str × Addr)) (fp : List Addr), TD (X.blk s H scope (compEnvC scope cl D X.env) fp) W0 elt El)
    (hy : X.N[i]? = some y := by rfl) (hyl : X.env.scope.names.lookup y = some .local := by rfl) {vs : List Nat} (hv : own.map (·.2) = vs := by rfl) (hj : ∀ j ∈ js, j ∈ own.map (·.2) := by decide) (hs : ∀ x, foldedSetIterable iter X.env x = pure x := by intro _; rfl) :
    TS' X f (.Assign [.Name y py] (.ListComp elt [⟨tg, iter, ifs, 0⟩] scope pos) spos) (setS i (compE Fi T C El vs)) := by
  subst hv
  exact psW (ps_setLc hc hN hy hyl hsw hi ok (fun s H C cl fp => show PG _ tg (gD X.K T js) from hg s H C cl fp) ht (fun s H C cl fp => show PE _ elt (tR X.K X.mg W0 (rD X.K) El) from he s H C cl fp) hs) fun E σ H h =>
    lc_t hj (toS_R h fun η B H1 v d e0 e s q p => p _ H1 B (e.set (rF_D (fun _ hp => e0.env.fresh hp) q)) (hid_same s))
/-- an expression alone -/
def exprS (F : Nv → R D) : Nv → Rs := fun η => (F η).toS fun _ => .nx η
/-- name.append(e), the list the def's own -/
def appS (i : Nat) (F : Nv → R D) : Nv → Rs := fun η => match η[i]? with
  | some (.own xs) => (F η).toS fun y => if xs.l.length < lineN then .nx (η.set i (.own ⟨xs.b, xs.l ++ [y]⟩)) else .no
  | _ => .no
theorem EnvS.app {K : PySem.W.Frag} {M : List Addr} {H0 : Hp} {A0 : List Addr} {H : Hp} {B : List Addr} {σ : L2.St} {η : Nv} {i : Nat} {a : Addr} {vs : List V} {w : V} {xs : OL} {y : D} (e : EnvS K M H0 A0 H B σ η) (hi : η[i]? = some (.own xs)) (ho : σ[i]? = some (some (.ref a))) (ha : H a = some (.lst vs)) (qa : DpAll K (hid (B ++ A0) H) vs xs.l)
    (qw : Dp K (hid (B ++ A0) H) w y) : EnvS K M H0 A0 (upd H a (.lst (vs ++ [w]))) B σ (η.set i (.own ⟨xs.b, xs.l ++ [y]⟩)) := by
  have hB := e.own i a xs hi ho
  have hA : a ∈ B ++ A0 := by
    cases hb : xs.b with
    | true => rw [hb, if_pos rfl] at hB; exact List.mem_append_left _ hB
    | false => rw [hb, if_neg Bool.false_ne_true] at hB; exact List.mem_append_right _ (e.mA.1 a hB)
  have eh : hid (B ++ A0) (upd H a (.lst (vs ++ [w]))) = hid (B ++ A0) H := hid_upd hA
  have hl : i < η.length := (List.getElem?_eq_some_iff.mp hi).1
  have gt : ∀ (j : Nat) (sl : Sl), (η.set i (.own ⟨xs.b, xs.l ++ [y]⟩))[j]? = some sl → (j = i ∧ sl = .own ⟨xs.b, xs.l ++ [y]⟩) ∨ (j ≠ i ∧ η[j]? = some sl) := fun j sl h => by
    by_cases hj : i = j
    · subst hj
      rw [List.getElem?_set_self hl] at h
      cases h
      exact .inl ⟨rfl, rfl⟩
    · rw [List.getElem?_set_ne hj] at h
      exact .inr ⟨fun z => hj z.symm, h⟩
  refine ⟨⟨by rw [List.length_set, e.env.len], fun j sl h => ?_, fun j k b ys zs h1 h2 h3 h4 => ?_, fun b m => ?_⟩, ?_, e.mA, e.new, fun j b ys h1 h2 => ?_, fun j b ks h1 h2 => ?_⟩
  · rcases gt j sl h with ⟨rfl, rfl⟩ | ⟨n, h⟩
    · exact ⟨_, ho, hA, vs ++ [w], upd_same, by rw [eh]; exact DpAll_append qa (.cons qw .nil)⟩
    · obtain ⟨o, e1, q⟩ := e.env.at_ j sl h
      refine ⟨o, e1, ?_⟩
      cases sl with
      | no => cases o <;> trivial
      | d x =>
        cases o with
        | none => exact q
        | some v =>
          show Dp K (hid (B ++ A0) (upd H a _)) v x
          rw [eh]
          exact q
      | own zs =>
        match o, q, e1 with
        | some (.ref b), ⟨m, ws, e2, q⟩, e1 =>
          have nb : b ≠ a := fun z => by
            subst z
            exact n (e.env.ap j i b zs xs h hi e1 ho)
          refine ⟨m, ws, by rw [upd_ne nb]; exact e2, ?_⟩
          rw [eh]
          exact q
      | m x => exact q.m' (eh ▸ Same.refl _)
      | x c w p => exact q.x' (eh ▸ Same.refl _)
      | dk ks =>
        match o, q, e1 with
        | some (.ref b), ⟨m, q⟩, e1 => exact ⟨m, q.keep (eh ▸ Same.refl _) fun o so e => by
            rw [upd_ne fun z => by
              subst z
              rw [ha] at e
              cases e
              exact notDo so]
            exact e⟩
  · rcases gt j _ h1 with ⟨ej, _⟩ | ⟨n, g1⟩
    · rcases gt k _ h2 with ⟨ek, _⟩ | ⟨n2, g2⟩
      · rw [ej, ek]
      · rw [ej] at h3 ⊢
        exact e.env.ap i k b xs zs hi g2 h3 h4
    · rcases gt k _ h2 with ⟨ek, _⟩ | ⟨n2, g2⟩
      · rw [ek] at h4 ⊢
        exact e.env.ap j i b ys xs g1 hi h3 h4
      · exact e.env.ap j k b ys zs g1 g2 h3 h4
  · by_cases hb : b = a
    · rw [hb, upd_same]
      exact fun z => nomatch z
    · rw [upd_ne hb]
      exact e.env.tr b m
  · cases hb : xs.b with
    | false =>
      rw [hb, if_neg Bool.false_ne_true] at hB
      rw [hid_upd hB]
      exact e.same
    | true =>
      rw [hb, if_pos rfl] at hB
      intro b o z
      have z' := e.same b o z
      obtain ⟨n0, z0⟩ := hid_some z
      obtain ⟨n1, z1⟩ := hid_some z'
      have nb : b ≠ a := fun q => by
        rw [q, e.new a hB] at z0
        cases z0
      rw [hid_out n1, upd_ne nb]
      exact z1
  · rcases gt j _ h1 with ⟨ej, ey⟩ | ⟨n, g1⟩
    · rw [ej] at h2
      cases ey
      exact e.own i b xs hi h2
    · exact e.own j b ys g1 h2
  · rcases gt j _ h1 with ⟨_, z⟩ | ⟨n, g1⟩
    · cases z
    · exact ⟨(e.dk j b ks g1 h2).1, fun k ks' f1 f2 => by
        rcases gt k _ f1 with ⟨_, z⟩ | ⟨_, f1⟩
        · cases z
        · exact (e.dk j b ks g1 h2).2 k ks' f1 f2⟩
theorem s_app (i : Nat) {x : Str} {p apos cpos epos : Pos} (he : TD X f.W e F) (hi : X.N[i]? = some x := by rfl) (hv : Vis X.env.scope x := by first | exact Or.inl rfl | exact Or.inr (Or.inl rfl)) (h1 : starEach [e] X.env = (false, eval e X.env) :: starEach [] X.env := by rfl)
    (hd : (x == ("__debug__" : Str)) = false := by decide) (hcd : (x == ("__classdict__" : Str)) = false := by decide)
    (hbase : attributeBase (.Name x p) "append" X.env (eval (.Name x p) X.env) = eval (.Name x p) X.env := by rfl)
    (hfew : ((backTo cpos (starEach [e] X.env)).all (fun x => !x.1) && (backToKw cpos (keywordEach [] X.env)).all (fun x => x.1.isSome) && decide ([e].length + ([] : List Keyword).length + (if ([] : List Keyword).isEmpty then 0 else 1) < 30)) = true := by rfl)
    (hline : (apos.endLine == cpos.line) = true := by rfl) (hplain : (backTo cpos (starEach [] X.env)).any (·.1) = false := by rfl) (hs : swapsWith (.Call (.Attribute (.Name x p) "append" apos) [e] [] cpos) none epos.line X.env = pure false := by rfl) :
    TS' X f (.Expr (.Call (.Attribute (.Name x p) "append" apos) [e] [] cpos) epos) (appS i F) :=
  psW (ps_expr (pe_bm PySem.F.plainAttrs_list PySem.F.slot_list_append PySem.F.type_list_append mt_append (pe_var hi hv hd hcd) (pa_cons he pa_nil h1) hbase hfew hline h1 hplain) hs) fun E σ H h => by
    obtain ⟨η, B, e0, p0⟩ := h
    have p : PostS X.K X.mg f.W f.rl f.M f.H0 f.A0 H B (appS i F η) E := p0
    unfold appS at p
    split at p
    · rename_i xs hx
      obtain ⟨o, e1, q⟩ := e0.env.at_ i _ hx
      match o, q, e1 with
      | some (.ref a), ⟨m, vs, e2, q⟩, e1 =>
        refine ⟨.ref a, e1, .inl ⟨rfl, vs, SqL.of e2⟩, ?_⟩
        refine (show tR X.K X.mg f.W (rD X.K) F σ H _ from ⟨η, B ++ f.A0, e0.env, ?_⟩)
        cases ef : F η with
        | ex c w z =>
          rw [ef] at p
          exact fun cls dd H' s x => p cls dd σ H' (e0.same.trans (hid_same s)) (exS x)
        | no => rw [ef] at p; exact p
        | ok y =>
          rw [ef] at p
          have p : PostS X.K X.mg f.W f.rl f.M f.H0 f.A0 H B (if xs.l.length < lineN then .nx (η.set i (.own ⟨xs.b, xs.l ++ [y]⟩)) else .no) E := p
          split at p
          · rename_i hz
            intro w H1 s1 qw
            have q1 := DpAll_mono q (hid_same (A := B ++ f.A0) s1)
            refine ⟨a, vs, w, rfl, rfl, s1 _ _ e2, by rw [DpAll_length q, line_eq]; exact hz, ?_⟩
            refine p σ _ B ((e0.step s1).app hx e1 (s1 _ _ e2) q1 qw) ?_
            rw [hid_upd m]
            exact hid_same s1
          · exact False.elim p
    · exact False.elim p
/-! ### return -/
def retS (F : Nv → R D) : Nv → Rs := fun η => (F η).toS fun x => .rt x η
theorem s_ret (he : TD X f.W e F) (hr : f.rl = rD X.K) : TS' X f (.Return (some e) pos) (retS F) :=
  psW (ps_ret he) fun E σ H h => toS_R h fun η B H1 v d e0 e s q p => p v _ H1 B e (by rw [hr]; exact Dp_mono q hid_app)
theorem s_retF (he : TF X f.W e F) (hr : f.rl = rF X.K) : TS' X f (.Return (some e) pos) (retS F) :=
  psW (ps_ret he) fun E σ H h => toS_R h fun η B H1 v d e0 e s q p => p v _ H1 B e (by
    rw [hr]
    obtain ⟨l, vs, ds, rfl, rfl, hp, hp1, qs⟩ := q
    exact ⟨l, vs, ds, rfl, rfl, e0.free hp, hp1, DpAll_mono qs (hid_mono fun b m => (List.mem_cons.mp m).elim (fun z => by rw [z]; exact List.mem_cons_self) fun z => List.mem_cons_of_mem _ (List.mem_append_right _ z))⟩)
/-- a list of the def's own -/
def retO (i : Nat) : Nv → Rs := fun η => match η[i]? with
  | some (.own xs) => if xs.b then .rt (.list xs.l) η else .no
  | _ => .no
theorem s_retO (i : Nat) {x : Str} {p : Pos} (hr : f.rl = rF X.K) (hi : X.N[i]? = some x := by rfl) (hv : Vis X.env.scope x := by first | exact Or.inl rfl | exact Or.inr (Or.inl rfl)) (hd : (x == ("__debug__" : Str)) = false := by decide) (hcd : (x == ("__classdict__" : Str)) = false := by decide) :
    TS' X f (.Return (some (.Name x p)) pos) (retO i) := psW (ps_ret (pe_var hi hv hd hcd)) fun E σ H h => by
  obtain ⟨η, B, e0, p0⟩ := h
  have p : PostS X.K X.mg f.W f.rl f.M f.H0 f.A0 H B (retO i η) E := p0
  unfold retO at p
  split at p
  · rename_i xs hx
    obtain ⟨o, e1, q⟩ := e0.env.at_ i _ hx
    match o, q, e1 with
    | some (.ref a), ⟨m, vs, e2, q⟩, e1 =>
      have hB := e0.own i a xs hx e1
      split at p
      case isFalse => exact False.elim p
      rename_i hb
      rw [if_pos hb] at hB
      refine ⟨_, e1, p _ σ H B e0 ?_⟩
      rw [hr]
      exact ⟨a, vs, _, rfl, rfl, e0.new a hB, e2, DpAll_mono q (hid_mono fun b m => (List.mem_cons.mp m).elim (fun z => by rw [z]; exact List.mem_append_left _ hB) fun z => List.mem_append_right _ z)⟩
  · exact False.elim p
/-! ### if, for -/
def ifS (G : Nv → R Bool) (Gs Gt : Nv → Rs) : Nv → Rs := fun η => (G η).toS fun k => if k then Gs η else Gt η
theorem s_if {as bs : List Stmt} (hc : TB X f.W c G) (ha : TSs X f as Gs) (hb : TSs X f bs Gt) : TS' X f (.If c as bs pos) (ifS G Gs Gt) := psW (ps_if hc ha hb) fun E σ H h => by
  obtain ⟨η, B, e, p0⟩ := h
  have p : PostS X.K X.mg f.W f.rl f.M f.H0 f.A0 H B ((G η).toS fun k => if k then Gs η else Gt η) E := p0
  refine (show tT X.K X.mg f.W G σ H _ from ⟨η, B ++ f.A0, e.env, ?_⟩)
  cases e1 : G η with
  | ex c w q =>
    rw [e1] at p
    exact fun cls dd H' s x => p cls dd σ H' (e.same.trans (hid_same s)) (exS x)
  | no => rw [e1] at p; exact p
  | ok k =>
    rw [e1] at p
    intro H1 s1
    have p : PostS X.K X.mg f.W f.rl f.M f.H0 f.A0 H B (if k then Gs η else Gt η) E := p
    cases k with
    | true => exact iteT ⟨η, B, e.step s1, PostS.keep (hid_same s1) p⟩
    | false => exact iteF ⟨η, B, e.step s1, PostS.keep (hid_same s1) p⟩
def loopG (T : Tgt) (Gb : Nv → Rs) : List D → Nv → Rs
  | [], η => .nx η
  | x :: xs, η => match T x η with
    | none => .no
    | some η1 => match Gb η1 with
      | .nx η2 => loopG T Gb xs η2
      | .ct η2 => loopG T Gb xs η2
      | .bk η2 => .nx η2
      | .rt d η => .rt d η
      | .ex c w p => .ex c w p
      | .no => .no
def forS (Fi : Nv → R (List D)) (T : Tgt) (Gb : Nv → Rs) : Nv → Rs := fun η => (Fi η).toS fun xs => loopG T Gb xs η
theorem for_core {T : Tgt} {js : List Nat} {Gb : Nv → Rs} {E : Ends} {σ : L2.St} {H1 : Hp} {η : Nv} {B : List Addr} {J : It} {ds : List D} (e : EnvS X.K f.M f.H0 f.A0 H1 B σ η) (wk : Walks X.K J H1 (B ++ f.A0) ds) (p : PostS X.K X.mg f.W f.rl f.M f.H0 f.A0 H1 B (loopG T Gb ds η) E) :
    ∃ V : Nat → Nat → L2.St → Hp → Prop, (∃ m, V 0 m σ H1) ∧ ∀ i m σ H, V i m σ H → (J.stop i H ∧ E.nx σ H) ∨ (J.go i H ∧ ∃ N : L2.St → Hp → Prop, (∀ σ' H', N σ' H' → ∃ m', m' < m ∧ V (i + 1) m' σ' H') ∧ ∀ x H', J.yld i H x H' → gD X.K T js x σ H' fun σ2 H2 => tS X.K X.mg f.W f.rl f.M f.H0 f.A0 Gb { E with nx := N, ct := N, bk := E.nx } σ2 H2) := by
  refine ⟨fun i m σ' H' => m + i = ds.length ∧ ∃ η' B', EnvS X.K f.M f.H0 f.A0 H' B' σ' η' ∧ Same (hid (B ++ f.A0) H1) (hid (B' ++ f.A0) H') ∧ PostS X.K X.mg f.W f.rl f.M f.H0 f.A0 H' B' (loopG T Gb (ds.drop i) η') E,
    ⟨ds.length, rfl, η, B, e, Same.refl _, p⟩, fun i m σ' H' hw => ?_⟩
  obtain ⟨em, η', B', e', sh, p⟩ := hw
  cases hx : ds[i]? with
  | none =>
    have hl : ds.length ≤ i := List.getElem?_eq_none_iff.mp hx
    have ei : i = ds.length := by omega
    subst ei
    rw [List.drop_length] at p
    exact .inl ⟨wk.stop _ _ sh, p σ' H' B' e' (Same.refl _)⟩
  | some x =>
    have hl : i < ds.length := (List.getElem?_eq_some_iff.mp hx).1
    have ed : ds.drop i = x :: ds.drop (i + 1) := by
      rw [List.drop_eq_getElem_cons hl]
      congr 1
      exact (List.getElem?_eq_some_iff.mp hx).2
    obtain ⟨g1, g2⟩ := wk.step i x hx _ _ sh e'.env.tr
    rw [ed] at p
    unfold loopG at p
    cases et : T x η' with
    | none => rw [et] at p; exact False.elim p
    | some η1 =>
      rw [et] at p
      have p : PostS X.K X.mg f.W f.rl f.M f.H0 f.A0 H' B' (match Gb η1 with
        | .nx η2 => loopG T Gb (ds.drop (i + 1)) η2
        | .ct η2 => loopG T Gb (ds.drop (i + 1)) η2
        | .bk η2 => .nx η2
        | .rt d η => .rt d η
        | .ex c w p => .ex c w p
        | .no => .no) E := p
      refine .inr ⟨g1, fun σ2 H2 => ∃ m', m' < m ∧ (m' + (i + 1) = ds.length ∧ ∃ η' B', EnvS X.K f.M f.H0 f.A0 H2 B' σ2 η' ∧ Same (hid (B ++ f.A0) H1) (hid (B' ++ f.A0) H2) ∧ PostS X.K X.mg f.W f.rl f.M f.H0 f.A0 H2 B' (loopG T Gb (ds.drop (i + 1)) η') E), fun σ2 H2 hN => hN, fun v H3 y => ?_⟩
      obtain ⟨s3, qv⟩ := g2 v H3 y
      refine ⟨η', B' ++ f.A0, x, η1, e'.env.same s3, qv, et, fun σ2 E2 S => ?_⟩
      have e2 : EnvS X.K f.M f.H0 f.A0 H3 B' σ2 η1 := ⟨E2, e'.same.trans (hid_same s3), e'.mA, e'.new, fun j a xs h1 h2 => by
        obtain ⟨n, h1⟩ := S.own j xs h1
        rw [S.rest j n] at h2
        exact e'.own j a xs h1 h2, fun j a ks h1 h2 => by
        obtain ⟨n, h1⟩ := S.dk j ks h1
        rw [S.rest j n] at h2
        exact ⟨(e'.dk j a ks h1 h2).1, fun k ks' g1 g2 => by
          obtain ⟨n, g1⟩ := S.dk k ks' g1
          rw [S.rest k n] at g2
          exact (e'.dk j a ks h1 h2).2 k ks' g1 g2⟩⟩
      have sh3 : Same (hid (B' ++ f.A0) H') (hid (B' ++ f.A0) H3) := hid_same s3
      refine (show tS X.K X.mg f.W f.rl f.M f.H0 f.A0 Gb _ σ2 H3 from ⟨η1, B', e2, ?_⟩)
      have on : ∀ η2 : Nv, PostS X.K X.mg f.W f.rl f.M f.H0 f.A0 H' B' (loopG T Gb (ds.drop (i + 1)) η2) E → Goes X.K f.M f.H0 f.A0 H3 B' η2 fun σ2 H2 => ∃ m', m' < m ∧ (m' + (i + 1) = ds.length ∧ ∃ η' B', EnvS X.K f.M f.H0 f.A0 H2 B' σ2 η' ∧ Same (hid (B ++ f.A0) H1) (hid (B' ++ f.A0) H2) ∧ PostS X.K X.mg f.W f.rl f.M f.H0 f.A0 H2 B' (loopG T Gb (ds.drop (i + 1)) η') E) :=
        fun η2 pp σ4 H4 B4 e4 s4 => ⟨m - 1, by omega, by omega, η2, B4, e4, (sh.trans sh3).trans s4, PostS.keep (sh3.trans s4) pp⟩
      cases eb : Gb η1 with
      | nx η2 => rw [eb] at p; exact on η2 p
      | ct η2 => rw [eb] at p; exact on η2 p
      | bk η2 =>
        rw [eb] at p
        exact fun σ4 H4 B4 e4 s4 => p σ4 H4 B4 e4 (sh3.trans s4)
      | rt d η2 => rw [eb] at p; exact p
      | ex c w q => rw [eb] at p; exact p
      | no => rw [eb] at p; exact p
theorem s_for {body : List Stmt} {Fi : Nv → R (List D)} {T : Tgt} {js : List Nat} {Gb : Nv → Rs} (hp : PassesOwn (model X.prog X.w) X.A X.env X.xe) (hc : X.calm = true) (hi : TI' X f.W tg iter Fi) (hg : TT' X tg T js) (hb : TSs X f body Gb) (hs : ∀ x, foldedSetIterable iter X.env x = pure x := by intro _; rfl) :
    TS' X f (.For tg iter body [] pos) (forS Fi T Gb) := psW (ps_for hp hc hi hg hb (hs := hs)) fun E σ H h => by
  obtain ⟨η, B, e, p0⟩ := h
  have p : PostS X.K X.mg f.W f.rl f.M f.H0 f.A0 H B ((Fi η).toS fun xs => loopG T Gb xs η) E := p0
  refine (show tI X.K X.mg f.W Fi σ H _ from ⟨η, B ++ f.A0, e.env, ?_⟩)
  cases e1 : Fi η with
  | ex c w q =>
    rw [e1] at p
    exact fun cls dd H' s x => p cls dd σ H' (e.same.trans (hid_same s)) (exS x)
  | no => rw [e1] at p; exact p
  | ok ds =>
    rw [e1] at p
    have p : PostS X.K X.mg f.W f.rl f.M f.H0 f.A0 H B (loopG T Gb ds η) E := p
    intro J H1 s1 wk
    exact for_core (e.step s1) wk (PostS.keep (hid_same s1) p)
end
end Bd
/-! D6: defs and their calls by data; built-ins. -/
namespace Bd
open PySem L2

/-! ### a def's promise, where no repr is going on -/
structure FnG (P : Program) (w : World) (K : PySem.W.Frag) (mg : Str → Option Value) (base : Heap) (k : Nat) (f : Addr) (fd : FuncData) (ps : List Str) (sp : Sp) : Prop where
  len : ∀ vs H Q E, sp vs H Q E → vs.length = ps.length
  run : ∀ (A : Around) (outer : List Env) (s : Shared) (H : Hp) (args : Args) (us : List Value) (vs : List V) (Q : VK) (E : XK), Room k A → A.guards = some [] → Env0 P w K mg base A outer s H → BindsTo s fd args (ps.zip us) → Vals vs us →
    sp vs H Q E → codeAny (model P w) A (.call (.ref f) args) (CR (L2.CX P w) outer P w H s Q E) s
theorem FnG.mono {P : Program} {w : World} {K : PySem.W.Frag} {mg : Str → Option Value} {base : Heap} {j k : Nat} {f : Addr} {fd : FuncData} {ps : List Str} {sp : Sp} (F : FnG P w K mg base j f fd ps sp) (h : j ≤ k) : FnG P w K mg base k f fd ps sp :=
  ⟨F.len, fun A o s H as us vs Q E hr => F.run A o s H as us vs Q E (hr.mono h)⟩
section
variable {P : Program} {w : World} {K : PySem.W.Frag} {mg : Str → Option Value} {base : Heap}
theorem okG {x qual : Str} {st : Stmt} {f : Addr} {fd : FuncData} {N ps : List Str} {k : Nat} {sp : Sp} (F : Fun K x qual st f fd) (S : FnScope N ps (defScope st)) (len : ∀ vs H Q E, sp vs H Q E → vs.length = ps.length)
    (hbody : ∀ (cdv : Value) (A : Around) (outer : List Env) (s : Shared) (H : Hp) (vs : List V) (Q : VK) (E : XK), Room k (A.deeper (PyProof.Rows.envOfC qual (defScope st) s.heap.objs.size f cdv)) → A.guards = some [] → sp vs H Q E →
      ∃ t, PSs (cxOf (L2.CX P w) P w K mg base N qual (defScope st) f cdv A outer s H E) (defBody st) t ∧ t { nx := fun _ H' => Q .non H', rt := Q } (L2.start N vs) H) : FnG P w K mg base (k + 1) f fd ps sp := by
  obtain ⟨oc, od, kV, doc, pm, an, cdv, ct, osl, rfl, lk, hcd⟩ := F.ex
  refine ⟨len, fun A outer s H args us vs Q E room gds env bnd rel prm => ?_⟩
  have lenV := len vs H Q E prm
  have Kin : K.In s.heap := env.mod.kin.keeps fun b o e => (env.bs b o e).1
  have nolim : s.heap.NoLimit := env.mod.nolimit.keeps fun b o e => (env.bs b o e).1
  have kinds : ∀ y ∈ ps.zip us, (defScope st).names.lookup y.1 = some .local ∨ ((defScope st).names.lookup y.1 = some .cell ∧ ((cellsFrom (s.heap.objs.size + 1) (defScope st).names []).lookup y.1).isSome = true) := by
    rintro ⟨n, v⟩ hy
    rcases S.par n (List.of_mem_zip hy).1 with h | h
    · exact .inl h
    · exact .inr ⟨h, PySem.W.cellsFrom_some _ _ _ (.inl h)⟩
  refine codeAny_call_function room.depth (Kin _ _ lk) rfl S.co S.gen rfl (PySem.W.codeRec_of Kin hcd) (bnd _ _ _ _ ?_)
  refine wpAny_newFunctionEnv_cells S.kind kinds fun e1 he s1 inc => ?_
  subst he
  refine ⟨nolim.keeps inc.toInCall.keep, codeAny_func ?_⟩
  obtain ⟨t, ht, hq⟩ := hbody cdv A outer s H vs Q E (room.deeper _) gds prm
  have I0 : Inv (cxOf (L2.CX P w) P w K mg base N qual (defScope st) f cdv A outer s H E) [] (L2.start N vs) H s1 := inv_start S room.hd env lenV rel inc
  refine wpAny_mono (ht.run [] s1 _ H _ I0 hq) (fun fl s2 out => ?_) fun _ _ out => out
  cases fl with
  | ret u =>
    obtain ⟨v, σ2, H2, J, rv, z⟩ := out
    exact ⟨v, H2, J.os, J.bare, J.base, J.hok, rv, z⟩
  | next =>
    obtain ⟨σ2, H2, J, z⟩ := out
    exact ⟨V.non, H2, J.os, J.bare, J.base, J.hok, rfl, z⟩
  | brk => exact out.elim fun _ z => z.elim fun _ z => z.2.elim
  | cont => exact out.elim fun _ z => z.elim fun _ z => z.2.elim
/-- what a def does to data -/
def spD (K : PySem.W.Frag) (mg : Str → Option Value) (rl : Rl) (n : Nat) (F : List D → R D) : Sp := fun vs H Q E => ∃ ds A, ds.length = n ∧ (∀ p ∈ A, H p ≠ none) ∧ DpAll K (hid A H) vs ds ∧ match F ds with
  | .ok d => ∀ v H', Same H H' → rl H H' A v d → Q v H'
  | .ex c w p => ∀ cls dd H', Same H H' → ExR K mg (hid A H') cls dd c w p → E cls dd H'
  | .no => False
def initD (m : Nat) (ds : List D) : Nv := ds.map Sl.d ++ List.replicate (m - ds.length) Sl.no
def runD (m : Nat) (fall : R D) (G : Nv → Rs) : List D → R D := fun ds => match G (initD m ds) with
  | .rt d _ => .ok d
  | .nx _ => fall
  | .ex c w p => .ex c w p
  | _ => .no
theorem hid_nil {H : Hp} : hid [] H = H := funext fun b => if_neg List.not_mem_nil
theorem same_nil {H H' : Hp} (s : Same (hid [] H) (hid [] H')) : Same H H' := by
  rw [hid_nil, hid_nil] at s
  exact s
theorem EnvS.same0 {H0 : Hp} {A0 : List Addr} {H : Hp} {B : List Addr} {σ : L2.St} {η : Nv} (e : EnvS K [] H0 A0 H B σ η) : Same H0 H := same_nil e.same
theorem env_start {H : Hp} {A : List Addr} {N : List Str} {vs : List V} {ds : List D} (hA : ∀ p ∈ A, H p ≠ none) (q : DpAll K (hid A H) vs ds) : EnvD K H A (L2.start N vs) (initD N.length ds) where
  len := by
    unfold L2.start initD
    rw [List.length_append, List.length_append, List.length_map, List.length_map, List.length_replicate, List.length_replicate, DpAll_length q]
  at_ := fun i s e => by
    have hl := DpAll_length q
    unfold initD at e
    unfold L2.start
    by_cases hi : i < ds.length
    · rw [List.getElem?_append_left (by rw [List.length_map]; exact hi), List.getElem?_map] at e
      rw [List.getElem?_append_left (by rw [List.length_map, hl]; exact hi), List.getElem?_map]
      cases hd : ds[i]? with
      | none => rw [hd] at e; cases e
      | some d =>
        rw [hd] at e
        cases e
        obtain ⟨v, hv, q1⟩ := DpAll_get q hd
        exact ⟨some v, by rw [hv]; rfl, q1⟩
    · rw [List.getElem?_append_right (by rw [List.length_map]; omega), List.length_map, List.getElem?_replicate] at e
      rw [List.getElem?_append_right (by rw [List.length_map]; omega), List.length_map, List.getElem?_replicate]
      split at e
      · rename_i h
        cases e
        exact ⟨none, by rw [if_pos (by rw [hl]; exact h)], trivial⟩
      · cases e
  ap := fun i j a xs ys e _ _ _ => by
    unfold initD at e
    by_cases hi : i < ds.length
    · rw [List.getElem?_append_left (by rw [List.length_map]; exact hi), List.getElem?_map] at e
      cases hd : ds[i]? <;> (rw [hd] at e; cases e)
    · rw [List.getElem?_append_right (by rw [List.length_map]; omega), List.getElem?_replicate] at e
      split at e <;> cases e
  tr := hA
theorem no_own {m i : Nat} {ds : List D} {xs : OL} : (initD m ds)[i]? ≠ some (.own xs) := fun e => by
  unfold initD at e
  by_cases hi : i < ds.length
  · rw [List.getElem?_append_left (by rw [List.length_map]; exact hi), List.getElem?_map] at e
    cases hd : ds[i]? <;> (rw [hd] at e; cases e)
  · rw [List.getElem?_append_right (by rw [List.length_map]; omega), List.getElem?_replicate] at e
    split at e <;> cases e
theorem no_dk {m i : Nat} {ds : List D} {ks : Dks} : (initD m ds)[i]? ≠ some (.dk ks) := fun e => by
  unfold initD at e
  by_cases hi : i < ds.length
  · rw [List.getElem?_append_left (by rw [List.length_map]; exact hi), List.getElem?_map] at e
    cases hd : ds[i]? <;> (rw [hd] at e; cases e)
  · rw [List.getElem?_append_right (by rw [List.length_map]; omega), List.getElem?_replicate] at e
    split at e <;> cases e
/-- THE RULE: a def by the data that its body tells -/
theorem fn_rule {x qual : Str} {st : Stmt} {f : Addr} {fd : FuncData} {N ps : List Str} {k : Nat} {rl : Rl} {fall : R D} {G : Nv → Rs} (F : Fun K x qual st f fd) (S : FnScope N ps (defScope st)) (hf : (fall = .ok .none ∧ rl = rD K) ∨ fall = .no)
    (hbody : ∀ (cdv : Value) (A : Around) (outer : List PySem.Env) (s : Shared) (H : Hp) (E : XK) (A0 : List Addr), Room k (A.deeper (PyProof.Rows.envOfC qual (defScope st) s.heap.objs.size f cdv)) → A.guards = some [] →
      TSs (cxOf (L2.CX P w) P w K mg base N qual (defScope st) f cdv A outer s H E) ⟨fun cls d _ H => E cls d H, rl, [], H, A0⟩ (defBody st) G) : FnG P w K mg base (k + 1) f fd ps (spD K mg rl ps.length (runD N.length fall G)) := by
  refine okG F S (fun vs H Q E h => ?_) fun cdv A outer s H vs Q E room gds prm => ?_
  · obtain ⟨ds, A, h1, _, h2, _⟩ := h
    rw [DpAll_length h2, h1]
  · obtain ⟨ds, A0, hl, hA, qd, hm⟩ := prm
    refine ⟨_, hbody cdv A outer s H E A0 room gds, ?_⟩
    refine ⟨initD N.length ds, [], ⟨env_start hA qd, Same.refl _, ⟨(fun p z => (List.not_mem_nil z).elim), hA⟩, (fun p z => (List.not_mem_nil z).elim), fun i a xs e => absurd e no_own, fun i a ks e => absurd e no_dk⟩, ?_⟩
    unfold runD at hm
    cases eg : G (initD N.length ds) with
    | rt d η => rw [eg] at hm; exact fun v σ' H' B' e' q => hm v H' e'.same0 q
    | nx η =>
      rw [eg] at hm
      rcases hf with ⟨rfl, rfl⟩ | rfl
      · exact fun σ' H' B' e' _ => hm .non H' e'.same0 .non
      · exact False.elim hm
    | ex c w p => rw [eg] at hm; exact fun cls dd σ' H' s1 q => hm cls dd H' (same_nil s1) q
    | bk η => rw [eg] at hm; exact False.elim hm
    | ct η => rw [eg] at hm; exact False.elim hm
    | no => rw [eg] at hm; exact hm
end

/-! ### calls of own defs -/
section
variable {X : Cx} {W : WX} {rl : Rl} {e : Expr} {es : List Expr} {x : Str} {p pos : Pos} {f : Addr} {fd : FuncData} {ps : List Str} {k n : Nat} {Fn : List D → R D} {Fs : Nv → R (List D)}
theorem run_g {pins : List (Addr × Obj)} {σ : L2.St} {H : Hp} {s : Shared} {Q : VK} {us : List Value} {vs : List V} {sp : Sp} {E : XK} (F : FnG X.prog X.w X.K X.mg X.base k f fd ps sp) (hr : Room k X.A) (hgd : X.A.guards = some []) (hb : Binds X.K fd ps [])
    (hx : PassesAt (L2.CX X.prog X.w) X σ E) (I : Inv X pins σ H s) (r : Vals vs us) (h : sp vs H Q E) : wpAny (model X.prog X.w) X.A (call (.ref f) us) (EP X pins σ Q) X.xe s := by
  have hl : (us ++ []).length = ps.length := by
    rw [List.append_nil, ← r.length]
    exact F.len _ _ _ _ h
  have bt := hb s us I.kIn hl
  rw [List.append_nil] at bt
  refine wpAny_call (codeAny_mono (F.run X.A X.stack s H ⟨us, []⟩ us vs Q E hr hgd I.env0 bt r h) fun res s2 out => ?_)
  match res, out with
  | .error e, out => exact hx pins H s e s2 I out
  | .ok (.ret u), out => exact I.after out
  | .ok .next, out => exact out.elim
  | .ok .brk, out => exact out.elim
  | .ok .cont, out => exact out.elim
def noex : R D → R D
  | .ok d => .ok d
  | _ => .no
/-- a def that raises nothing here -/
def callV (Fn : List D → R D) (Fs : Nv → R (List D)) : Nv → R D := fun η => (Fs η).bind fun ds => noex (Fn ds)
theorem call_core {g : R D → R D} (hgx : ∀ r d, g r = .ok d → r = .ok d) {Pd : Prop} (hb' : Back rl) (F : FnG X.prog X.w X.K X.mg X.base k f fd ps (spD X.K X.mg rl n Fn)) (hr : Room k X.A) (hgd : X.A.guards = some []) (hg : Gl X x) (hm : X.mg x = some (.ref f)) (hk : PySem.W.keepIn X.K (.ref f) = true) (hb : Binds X.K fd ps [])
    (hE : ∀ σ : L2.St, ∃ E : XK, PassesAt (L2.CX X.prog X.w) X σ E ∧ ∀ (A : List Addr) (H : Hp) (r : R D) (Q : VK), Post X.K X.mg W rl σ A H (g r) Q → match r with
      | .ok d => ∀ v H', Same H H' → rl H H' A v d → Q v H'
      | .ex c w p => ∀ cls dd H', Same H H' → ExR X.K X.mg (hid A H') cls dd c w p → E cls dd H'
      | .no => False)
    (ha : TAs X W (vD X.K) (e :: es) Fs) (hn : es.length + 1 = n) (hfs : ∀ η ds, Fs η = .ok ds → ds.length = n) (hdb : (x == ("__debug__" : Str)) = false) (he : starEach (e :: es) X.env = (false, eval e X.env) :: starEach es X.env) (hpl : (backTo pos (starEach es X.env)).any (·.1) = false) :
    PE X (.Call (.Name x p) (e :: es) [] pos) (tR X.K X.mg W rl fun η => (Fs η).bind fun ds => g (Fn ds)) := by
  refine ⟨fun pins s σ H Q I h => wpAny_Call_Name_kw (ld_glob I hg hm ?_ hdb)⟩
  obtain ⟨η, A, E, q0⟩ := h
  have q : Post X.K X.mg W rl σ A H ((Fs η).bind fun ds => g (Fn ds)) Q := q0
  obtain ⟨Ex, hx, hEx⟩ := hE σ
  refine PySem.W.callWith_K (h₀ := X.base) I.ok.mod.kin hk (thn (ha.run pos pins s σ H (fun vs H1 => spD X.K X.mg rl n Fn vs H1 Q Ex) I ⟨η, A, E, ?_⟩) fun us s1 ⟨vs, H1, I1, r1, q1⟩ => ⟨I1.kIn, run_g F hr hgd hb hx I1 r1 q1⟩) he hpl
  cases e1 : Fs η with
  | ex c w z => rw [e1] at q; exact q
  | no => rw [e1] at q; exact q
  | ok ds =>
    rw [e1] at q
    intro vs H1 s1 qv
    exact ⟨ds, A, hfs η ds e1, (E.same s1).tr, qv.dp, hEx A H1 (Fn ds) Q (Post.same hb' s1 q)⟩
theorem aC_len {Fa : Nv → R D} {m : Nat} (h : ∀ η ds, Fs η = .ok ds → ds.length = m) : ∀ η ds, aC Fa Fs η = .ok ds → ds.length = m + 1 := fun η ds e => by
  unfold aC at e
  cases e1 : Fa η with
  | ex c w z => rw [e1] at e; cases e
  | no => rw [e1] at e; cases e
  | ok y =>
    rw [e1] at e
    have e : ((Fs η).bind fun xs => R.ok (y :: xs)) = .ok ds := e
    cases e2 : Fs η with
    | ex c w z => rw [e2] at e; cases e
    | no => rw [e2] at e; cases e
    | ok ys =>
      rw [e2] at e
      cases e
      rw [List.length_cons, h η ys e2]
theorem a0_len : ∀ η ds, a0 η = .ok ds → ds.length = 0 := fun η ds e => by
  cases e
  rfl
theorem t_call (hb' : Back rl) (F : FnG X.prog X.w X.K X.mg X.base k f fd ps (spD X.K X.mg rl n Fn)) (hr : Room k X.A) (hgd : X.A.guards = some []) (hg : Gl X x) (hm : X.mg x = some (.ref f)) (hk : PySem.W.keepIn X.K (.ref f) = true) (hb : Binds X.K fd ps []) (ha : TAs X W (vD X.K) (e :: es) Fs) (hfs : ∀ η ds, Fs η = .ok ds → ds.length = n)
    (hn : es.length + 1 = n := by rfl) (hdb : (x == ("__debug__" : Str)) = false := by decide) (he : starEach (e :: es) X.env = (false, eval e X.env) :: starEach es X.env := by rfl) (hpl : (backTo pos (starEach es X.env)).any (·.1) = false := by rfl) :
    PE X (.Call (.Name x p) (e :: es) [] pos) (tR X.K X.mg W rl (callV Fn Fs)) :=
  call_core (g := noex) (Pd := True) (fun r d h => by cases r <;> first | exact h | cases h) hb' F hr hgd hg hm hk hb (fun σ => ⟨fun _ _ _ => False, fun pins H s e s' I c => by
      obtain ⟨_, _, _, _, _, _, _, _, _, _, _, _, z⟩ := c
      exact z.elim, fun A H r Q q => by
      cases r with
      | ok d => exact q
      | ex c w z => exact False.elim q
      | no => exact q⟩) ha hn hfs hdb he hpl
/-- a def of the module, as its callers want it -/
def Df (P : Program) (w : World) (K : PySem.W.Frag) (mg : Str → Option Value) (base : Heap) (k : Nat) (x : Str) (n : Nat) (rl : Rl) (Fn : List D → R D) : Prop :=
  ∃ f fd ps, FnG P w K mg base k f fd ps (spD K mg rl n Fn) ∧ Binds K fd ps [] ∧ mg x = some (.ref f) ∧ PySem.W.keepIn K (.ref f) = true
theorem t_callD {j : Nat} (d : Df X.prog X.w X.K X.mg X.base j x n rl Fn) (hr : Room k X.A) (hgd : X.A.guards = some []) (ha : TAs X W (vD X.K) (e :: es) Fs) (hfs : ∀ η ds, Fs η = .ok ds → ds.length = n) (hb' : Back rl) (hj : j ≤ k := by decide) (hg : Gl X x := by rfl)
    (hn : es.length + 1 = n := by rfl) (hdb : (x == ("__debug__" : Str)) = false := by decide) (he : starEach (e :: es) X.env = (false, eval e X.env) :: starEach es X.env := by rfl) (hpl : (backTo pos (starEach es X.env)).any (·.1) = false := by rfl) :
    PE X (.Call (.Name x p) (e :: es) [] pos) (tR X.K X.mg W rl (callV Fn Fs)) := by
  obtain ⟨f, fd, ps, F, b, m, kp⟩ := d
  exact t_call hb' F (hr.mono hj) hgd hg m kp b ha hfs hn hdb he hpl
end
end Bd
/-! D7: built-ins by data. -/
namespace Bd
open PySem L2

section
variable {X : Cx} {W : WX} {rl : Rl} {a b c e : Expr} {Fa Fb F : Nv → R D} {Fs : Nv → R (List D)} {pos p : Pos} {es : List Expr}
theorem all1 {rv : Rv} {H : Hp} {A : List Addr} {d : D} : ∀ {vs : List V}, AllV rv H A vs [d] → ∃ v, vs = [v] ∧ rv H A v d
  | [v], h => ⟨v, rfl, h.1⟩
  | [], h => h.elim
  | _ :: _ :: _, h => h.2.elim
theorem all2 {rv : Rv} {H : Hp} {A : List Addr} {d e : D} : ∀ {vs : List V}, AllV rv H A vs [d, e] → ∃ v w, vs = [v, w] ∧ rv H A v d ∧ rv H A w e
  | [v, w], h => ⟨v, w, rfl, h.1, h.2.1⟩
  | [], h => h.elim
  | [_], h => h.2.elim
  | _ :: _ :: _ :: _, h => h.2.2.elim
/-! len -/
def lenV : List D → Option D
  | [.list xs] => some (.int xs.length)
  | [.tuple xs] => some (.int xs.length)
  | [.str x] => if x.length ≤ lineN then some (.int x.length) else none
  | _ => none
def rLen (K : PySem.W.Frag) : List V → Hp → VK → Prop := fun xs H Q => (∃ p ys, xs = [.ref p] ∧ (SqL K H p ys ∨ SqT K H p ys) ∧ Q (.int ys.length) H) ∨ ∃ z, xs = [.str z] ∧ z.length ≤ sizeLine ∧ Q (.int z.length) H
theorem call_lenA : CallR X (.builtin "len") (rLen X.K) := by
  intro pins s σ H xs us Q I r h
  rcases h with h | h
  · exact call_len_seq pins s σ H xs us Q I r h
  · exact call_len_str pins s σ H xs us Q I r h
theorem o_len : OpN X (rD X.K) (rLen X.K) lenV := by
  intro H A vs ds d Q hA h e k
  unfold lenV at e
  split at e
  · have e := Option.some.inj e
    subst e
    obtain ⟨v, rfl, q⟩ := all1 h
    obtain ⟨l, ws, rfl, h1, q1⟩ := rO_list q
    refine .inl ⟨l, ws, rfl, .inl h1, ?_⟩
    rw [DpAll_length q1]
    exact k _ H (Same.refl _) (.int _)
  · have e := Option.some.inj e
    subst e
    obtain ⟨v, rfl, q⟩ := all1 h
    obtain ⟨l, ws, rfl, h1, _, q1⟩ := rO_tup q
    refine .inl ⟨l, ws, rfl, .inr h1, ?_⟩
    rw [DpAll_length q1]
    exact k _ H (Same.refl _) (.int _)
  · split at e
    · rename_i hz
      have e := Option.some.inj e
      subst e
      obtain ⟨v, rfl, q⟩ := all1 h
      exact .inr ⟨_, by rw [rO_str q], by rw [line_eq]; exact hz, k _ H (Same.refl _) (.int _)⟩
    · cases e
  · cases e
theorem t_len (hm : X.mg "len" = none) (ha : TAs X W (vO X.K) [e] Fs) (hg : Gl X "len" := by rfl) (he : starEach [e] X.env = (false, eval e X.env) :: starEach [] X.env := by rfl) (hpl : (backTo pos (starEach [] X.env)).any (·.1) = false := by rfl) : TD X W (.Call (.Name "len" p) [e] [] pos) (eN lenV Fs) :=
  t_callB back_D call_lenA o_len hg hm PySem.boot_len ha (he := he) (hpl := hpl)
/-! repr -/
def reprV : List D → Option D
  | [d] => if d.showable = true ∧ d.hasDict = false ∧ d.depth ≤ 64 ∧ d.shown.length ≤ lineN then some (.str d.shown) else none
  | _ => none
def rRepr (K : PySem.W.Frag) : List V → Hp → VK → Prop := fun xs H Q => ∃ v d, xs = [v] ∧ Dp K H v d ∧ d.showable = true ∧ d.hasDict = false ∧ d.depth ≤ 64 ∧ d.shown.length ≤ sizeLine ∧ Q (.str d.shown) H
theorem call_reprA (hg : X.A.guards = some []) (hu : X.A.units + 66 < cLine) : CallR X (.builtin "repr") (rRepr X.K) := by
  intro pins s σ H xs us Q I r h
  obtain ⟨v, d, rfl, q, h1, h2, h3, h4, k⟩ := h
  obtain ⟨u, rfl, ru⟩ := vals1 r
  have fin : ∀ t, EP X pins σ Q (.str d.shown t) { s with toks := s.toks + 1 } := fun t => ⟨.str d.shown, H, I.tok _, ⟨_, rfl⟩, k⟩
  have deep : ∀ a, v = .ref a → wpAny (model X.prog X.w) X.A (call (.builtin "repr") [.ref a]) (EP X pins σ Q) X.xe s := fun a ea => by
    subst ea
    cases ru
    obtain ⟨as, rd⟩ := Dp.reads I d _ _ q rfl
    refine repr_of_reads' rd h1 (fun z => by rw [h2] at z; cases z) hg (by omega) (fun _ _ z => z) (fun h' u tk kp => ?_) h4
    exact ⟨.str d.shown, H, I.kept (t' := tk) kp, ⟨_, rfl⟩, k⟩
  cases q with
  | non =>
    cases ru
    exact PySem.P.repr_of_none (fin _)
  | bl b =>
    cases ru
    exact PySem.P.repr_of_bool (fin _)
  | int i =>
    obtain ⟨t, rfl⟩ := ru
    exact PySem.P.repr_of_int (of_decide_eq_true h1) (fin _)
  | str x =>
    obtain ⟨t, rfl⟩ := ru
    exact PySem.P.repr_of_str (fin _) h4
  | lst _ _ =>
    cases ru
    exact deep _ rfl
  | tup _ _ =>
    cases ru
    exact deep _ rfl
theorem o_repr : OpN X (rD X.K) (rRepr X.K) reprV := by
  intro H A vs ds d Q hA h e k
  unfold reprV at e
  split at e
  · split at e
    · rename_i d' hd
      have e := Option.some.inj e
      subst e
      obtain ⟨v, rfl, q⟩ := all1 h
      exact ⟨v, d', rfl, rO_dp q, hd.1, hd.2.1, hd.2.2.1, by rw [line_eq]; exact hd.2.2.2, k _ H (Same.refl _) (.str _)⟩
    · cases e
  · cases e
theorem t_repr (hg : X.A.guards = some []) (hu : X.A.units + 66 < cLine) (hm : X.mg "repr" = none) (ha : TAs X W (vO X.K) [e] Fs) (hgl : Gl X "repr" := by rfl) (he : starEach [e] X.env = (false, eval e X.env) :: starEach [] X.env := by rfl) (hpl : (backTo pos (starEach [] X.env)).any (·.1) = false := by rfl) :
    TD X W (.Call (.Name "repr" p) [e] [] pos) (eN reprV Fs) := t_callB back_D (call_reprA hg hu) o_repr hgl hm (by decide +kernel) ha (he := he) (hpl := hpl)
/-! int -/
def intV : List D → Option D
  | [.int i] => some (.int i)
  | [.bool b] => some (.int (if b then 1 else 0))
  | _ => none
theorem t_intc (hm : X.mg "int" = none) (ha : TAs X W (vO X.K) [e] Fs) (hgl : Gl X "int" := by rfl) (he : starEach [e] X.env = (false, eval e X.env) :: starEach [] X.env := by rfl) (hpl : (backTo pos (starEach [] X.env)).any (·.1) = false := by rfl) :
    TD X W (.Call (.Name "int" p) [e] [] pos) (eN intV Fs) := t_callTy back_D call_int1 (fun H A vs ds d Q hA h e k => by
  unfold intV at e
  split at e
  · have e := Option.some.inj e
    subst e
    obtain ⟨v, rfl, q⟩ := all1 h
    exact .inl ⟨_, by rw [rO_int q], k _ H (Same.refl _) (.int _)⟩
  · have e := Option.some.inj e
    subst e
    obtain ⟨v, rfl, q⟩ := all1 h
    exact .inr ⟨_, by rw [rO_bool q], k _ H (Same.refl _) (.int _)⟩
  · cases e) hgl hm (by decide +kernel) ha (he := he) (hpl := hpl)
/-! tuple, list -/
def tupleV : List D → Option D
  | [.list xs] => some (.tuple xs)
  | [.tuple xs] => some (.tuple xs)
  | _ => none
theorem t_tuplec (hm : X.mg "tuple" = none) (ha : TAs X W (vO X.K) [e] Fs) (hgl : Gl X "tuple" := by rfl) (he : starEach [e] X.env = (false, eval e X.env) :: starEach [] X.env := by rfl) (hpl : (backTo pos (starEach [] X.env)).any (·.1) = false := by rfl) :
    TD X W (.Call (.Name "tuple" p) [e] [] pos) (eN tupleV Fs) := t_callTy back_D call_tuple_of (fun H A vs ds d Q hA h e k => by
  unfold tupleV at e
  split at e
  · have e := Option.some.inj e
    subst e
    obtain ⟨v, rfl, q⟩ := all1 h
    obtain ⟨l, ws, rfl, h1, q1⟩ := rO_list q
    exact ⟨l, ws, rfl, .inl ⟨h1, fun t ht => k _ _ (same_new ht) (dp_new_tup hA ht q1)⟩⟩
  · have e := Option.some.inj e
    subst e
    obtain ⟨v, rfl, q⟩ := all1 h
    obtain ⟨l, ws, rfl, h1, h2, q1⟩ := rO_tup q
    exact ⟨l, ws, rfl, .inr ⟨h1, k _ H (Same.refl _) (.tup h2 q1)⟩⟩
  · cases e) hgl hm (by decide +kernel) ha (he := he) (hpl := hpl)
def listV : List D → Option D
  | [.list xs] => some (.list xs)
  | [.tuple xs] => some (.list xs)
  | _ => none
theorem t_listc (hm : X.mg "list" = none) (ha : TAs X W (vO X.K) [e] Fs) (hgl : Gl X "list" := by rfl) (he : starEach [e] X.env = (false, eval e X.env) :: starEach [] X.env := by rfl) (hpl : (backTo pos (starEach [] X.env)).any (·.1) = false := by rfl) :
    TF X W (.Call (.Name "list" p) [e] [] pos) (eN listV Fs) := t_callTy back_F call_list_of (fun H A vs ds d Q hA h e k => by
  unfold listV at e
  split at e
  · have e := Option.some.inj e
    subst e
    obtain ⟨v, rfl, q⟩ := all1 h
    obtain ⟨l, ws, rfl, h1, q1⟩ := rO_list q
    exact ⟨l, ws, rfl, .inl h1, fun t ht => k _ _ (same_new ht) (dp_new_list hA ht q1)⟩
  · have e := Option.some.inj e
    subst e
    obtain ⟨v, rfl, q⟩ := all1 h
    obtain ⟨l, ws, rfl, h1, h2, q1⟩ := rO_tup q
    exact ⟨l, ws, rfl, .inr h1, fun t ht => k _ _ (same_new ht) (dp_new_list hA ht q1)⟩
  · cases e) hgl hm (by decide +kernel) ha (he := he) (hpl := hpl)
/-! ints and bools in a list -/
def ints? : List D → Option (List Int)
  | [] => some []
  | .int i :: r => (ints? r).map (i :: ·)
  | _ => none
def bools? : List D → Option (List Bool)
  | [] => some []
  | .bool i :: r => (bools? r).map (i :: ·)
  | _ => none
theorem ints_of {K : PySem.W.Frag} {H : Hp} : ∀ {ds : List D} {vs : List V} {ns : List Int}, DpAll K H vs ds → ints? ds = some ns → vs = ns.map V.int ∧ ds = ns.map PyData.int
  | [], _, ns, h, e => by
    cases h
    cases e
    exact ⟨rfl, rfl⟩
  | d :: r, _, ns, h, e => by
    cases h with
    | cons h1 h2 =>
      cases d with
      | int i =>
        have e : (ints? r).map (i :: ·) = some ns := e
        cases e2 : ints? r with
        | none => rw [e2] at e; cases e
        | some ms =>
          rw [e2] at e
          cases e
          obtain ⟨q1, q2⟩ := ints_of h2 e2
          cases h1
          exact ⟨by rw [q1]; rfl, by rw [q2]; rfl⟩
      | _ => cases e
/-! all, any -/
def allV : List D → Option D
  | [.list xs] => (bools? xs).map fun bs => .bool (bs.all id)
  | _ => none
/-! sorted of ints -/
def ins1 (x : Int) : List Int → List Int
  | [] => [x]
  | y :: r => if x ≤ y then x :: y :: r else y :: ins1 x r
def isort : List Int → List Int
  | [] => []
  | x :: r => ins1 x (isort r)
theorem ins1_perm (x : Int) : ∀ l, (ins1 x l).Perm (x :: l)
  | [] => .refl _
  | y :: r => by
    unfold ins1
    split
    · exact .refl _
    · exact (List.Perm.cons y (ins1_perm x r)).trans (List.Perm.swap x y r)
theorem isort_perm : ∀ l, (isort l).Perm l
  | [] => .refl _
  | x :: r => (ins1_perm x (isort r)).trans (List.Perm.cons x (isort_perm r))
theorem ins1_sorted (x : Int) : ∀ l : List Int, l.Pairwise (· ≤ ·) → (ins1 x l).Pairwise (· ≤ ·)
  | [], _ => by unfold ins1; exact List.pairwise_singleton _ _
  | y :: r, h => by
    rw [List.pairwise_cons] at h
    unfold ins1
    split
    · rename_i hxy
      refine List.pairwise_cons.mpr ⟨fun z m => ?_, List.pairwise_cons.mpr h⟩
      rcases List.mem_cons.mp m with rfl | m
      · exact hxy
      · exact Int.le_trans hxy (h.1 z m)
    · rename_i hxy
      refine List.pairwise_cons.mpr ⟨fun z m => ?_, ins1_sorted x r h.2⟩
      rcases List.mem_cons.mp ((ins1_perm x r).mem_iff.mp m) with rfl | m
      · omega
      · exact h.1 z m
theorem isort_sorted : ∀ l, (isort l).Pairwise (· ≤ ·)
  | [] => List.Pairwise.nil
  | x :: r => ins1_sorted x _ (isort_sorted r)
theorem sorted_unique : ∀ {l m : List Int}, l.Perm m → l.Pairwise (· ≤ ·) → m.Pairwise (· ≤ ·) → l = m
  | [], m, p, _, _ => (List.Perm.nil_eq p)
  | x :: l, [], p, _, _ => (List.Perm.eq_nil p)
  | x :: l, y :: m, p, h1, h2 => by
    rw [List.pairwise_cons] at h1 h2
    have e : x = y := by
      have m1 : x ∈ y :: m := p.mem_iff.mp List.mem_cons_self
      have m2 : y ∈ x :: l := p.mem_iff.mpr List.mem_cons_self
      rcases List.mem_cons.mp m1 with e | m1
      · exact e
      · rcases List.mem_cons.mp m2 with e | m2
        · exact e.symm
        · have := h1.1 y m2
          have := h2.1 x m1
          omega
    subst e
    rw [sorted_unique (List.Perm.cons_inv p) h1.2 h2.2]
def sortIV : List D → Option D
  | [.list xs] => (ints? xs).map fun ns => .list ((isort ns).map PyData.int)
  | _ => none
/-! max, min, sum, abs -/
def maxI : List Int → Int
  | [] => 0
  | [x] => x
  | x :: r => if maxI r < x then x else maxI r
def minI : List Int → Int
  | [] => 0
  | [x] => x
  | x :: r => if x < minI r then x else minI r
theorem maxI_is : ∀ (l : List Int) (m : Int), m ∈ l → (∀ y ∈ l, y ≤ m) → m = maxI l
  | [], m, h, _ => by simp at h
  | [x], m, h, _ => by simpa [maxI] using h
  | x :: y :: r, m, h, hm => by
    have mx : maxI (y :: r) ∈ y :: r ∧ ∀ z ∈ y :: r, z ≤ maxI (y :: r) := by
      have key : ∀ l : List Int, l ≠ [] → maxI l ∈ l ∧ ∀ z ∈ l, z ≤ maxI l := by
        intro l
        induction l with
        | nil => exact fun q => absurd rfl q
        | cons a t ih =>
          intro _
          cases t with
          | nil => simp [maxI]
          | cons b t =>
            obtain ⟨i1, i2⟩ := ih (by simp)
            show (if maxI (b :: t) < a then a else maxI (b :: t)) ∈ _ ∧ ∀ z ∈ _, z ≤ (if maxI (b :: t) < a then a else maxI (b :: t))
            split
            · refine ⟨List.mem_cons_self, fun z hz => ?_⟩
              rcases List.mem_cons.mp hz with rfl | hz
              · exact Int.le_refl _
              · have := i2 z hz; omega
            · refine ⟨List.mem_cons_of_mem _ i1, fun z hz => ?_⟩
              rcases List.mem_cons.mp hz with rfl | hz
              · omega
              · exact i2 z hz
      exact key _ (by simp)
    show m = if maxI (y :: r) < x then x else maxI (y :: r)
    have q1 := hm x List.mem_cons_self
    have q2 := hm _ (List.mem_cons_of_mem _ mx.1)
    split
    · rcases List.mem_cons.mp h with rfl | h
      · rfl
      · have := mx.2 m h; omega
    · rcases List.mem_cons.mp h with rfl | h
      · omega
      · have := mx.2 m h; omega
theorem minI_is : ∀ (l : List Int) (m : Int), m ∈ l → (∀ y ∈ l, m ≤ y) → m = minI l
  | [], m, h, _ => by simp at h
  | [x], m, h, _ => by simpa [minI] using h
  | x :: y :: r, m, h, hm => by
    have mx : minI (y :: r) ∈ y :: r ∧ ∀ z ∈ y :: r, minI (y :: r) ≤ z := by
      have key : ∀ l : List Int, l ≠ [] → minI l ∈ l ∧ ∀ z ∈ l, minI l ≤ z := by
        intro l
        induction l with
        | nil => exact fun q => absurd rfl q
        | cons a t ih =>
          intro _
          cases t with
          | nil => simp [minI]
          | cons b t =>
            obtain ⟨i1, i2⟩ := ih (by simp)
            show (if a < minI (b :: t) then a else minI (b :: t)) ∈ _ ∧ ∀ z ∈ _, (if a < minI (b :: t) then a else minI (b :: t)) ≤ z
            split
            · refine ⟨List.mem_cons_self, fun z hz => ?_⟩
              rcases List.mem_cons.mp hz with rfl | hz
              · exact Int.le_refl _
              · have := i2 z hz; omega
            · refine ⟨List.mem_cons_of_mem _ i1, fun z hz => ?_⟩
              rcases List.mem_cons.mp hz with rfl | hz
              · omega
              · exact i2 z hz
      exact key _ (by simp)
    show m = if x < minI (y :: r) then x else minI (y :: r)
    have q1 := hm x List.mem_cons_self
    have q2 := hm _ (List.mem_cons_of_mem _ mx.1)
    split
    · rcases List.mem_cons.mp h with rfl | h
      · rfl
      · have := mx.2 m h; omega
    · rcases List.mem_cons.mp h with rfl | h
      · omega
      · have := mx.2 m h; omega
def maxV : List D → Option D
  | [.int i, .int j] => some (.int (if j > i then j else i))
  | [.list xs] => (ints? xs).bind fun ns => if 0 < ns.length then some (.int (maxI ns)) else none
  | _ => none
def minV : List D → Option D
  | [.int i, .int j] => some (.int (if j < i then j else i))
  | [.list xs] => (ints? xs).bind fun ns => if 0 < ns.length then some (.int (minI ns)) else none
  | _ => none
def rMaxA (K : PySem.W.Frag) : List V → Hp → VK → Prop := fun xs H Q => (∃ i j, xs = [.int i, .int j] ∧ Q (.int (if j > i then j else i)) H) ∨ rMax K xs H Q
def rMinA (K : PySem.W.Frag) : List V → Hp → VK → Prop := fun xs H Q => (∃ i j, xs = [.int i, .int j] ∧ Q (.int (if j < i then j else i)) H) ∨ rMin K xs H Q
theorem t_max {es : List Expr} (hc : X.calm = true) (hm : X.mg "max" = none) (ha : TAs X W (vO X.K) (e :: es) Fs) (hgl : Gl X "max" := by rfl) (he : starEach (e :: es) X.env = (false, eval e X.env) :: starEach es X.env := by rfl) (hpl : (backTo pos (starEach es X.env)).any (·.1) = false := by rfl) :
    TD X W (.Call (.Name "max" p) (e :: es) [] pos) (eN maxV Fs) := t_callB (r := rMaxA X.K) back_D (fun pins s σ H xs us Q I r h => h.elim (call_max2 hc pins s σ H xs us Q I r) (cr_max hc pins s σ H xs us Q I r)) (fun H A vs ds d Q hA h e k => by
  unfold maxV at e
  split at e
  · have e := Option.some.inj e
    subst e
    obtain ⟨v, w, rfl, q1, q2⟩ := all2 h
    exact .inl ⟨_, _, by rw [rO_int q1, rO_int q2], k _ H (Same.refl _) (.int _)⟩
  · rename_i xs
    cases e2 : ints? xs with
    | none => rw [e2] at e; cases e
    | some ns =>
      rw [e2] at e
      have e : (if 0 < ns.length then some (PyData.int (maxI ns)) else none) = some d := e
      split at e
      · rename_i hl
        cases e
        obtain ⟨v, rfl, q⟩ := all1 h
        obtain ⟨l, ws, rfl, h1, q1⟩ := rO_list q
        rw [(ints_of q1 e2).1] at h1
        refine .inr ⟨l, ns, rfl, h1, hl, fun m h3 h4 => ?_⟩
        rw [maxI_is ns m h3 h4]
        exact k _ H (Same.refl _) (.int _)
      · cases e
  · cases e) hgl hm (by decide +kernel) ha (he := he) (hpl := hpl)
theorem t_min {es : List Expr} (hc : X.calm = true) (hm : X.mg "min" = none) (ha : TAs X W (vO X.K) (e :: es) Fs) (hgl : Gl X "min" := by rfl) (he : starEach (e :: es) X.env = (false, eval e X.env) :: starEach es X.env := by rfl) (hpl : (backTo pos (starEach es X.env)).any (·.1) = false := by rfl) :
    TD X W (.Call (.Name "min" p) (e :: es) [] pos) (eN minV Fs) := t_callB (r := rMinA X.K) back_D (fun pins s σ H xs us Q I r h => h.elim (call_min2 hc pins s σ H xs us Q I r) (cr_min hc pins s σ H xs us Q I r)) (fun H A vs ds d Q hA h e k => by
  unfold minV at e
  split at e
  · have e := Option.some.inj e
    subst e
    obtain ⟨v, w, rfl, q1, q2⟩ := all2 h
    exact .inl ⟨_, _, by rw [rO_int q1, rO_int q2], k _ H (Same.refl _) (.int _)⟩
  · rename_i xs
    cases e2 : ints? xs with
    | none => rw [e2] at e; cases e
    | some ns =>
      rw [e2] at e
      have e : (if 0 < ns.length then some (PyData.int (minI ns)) else none) = some d := e
      split at e
      · rename_i hl
        cases e
        obtain ⟨v, rfl, q⟩ := all1 h
        obtain ⟨l, ws, rfl, h1, q1⟩ := rO_list q
        rw [(ints_of q1 e2).1] at h1
        refine .inr ⟨l, ns, rfl, h1, hl, fun m h3 h4 => ?_⟩
        rw [minI_is ns m h3 h4]
        exact k _ H (Same.refl _) (.int _)
      · cases e
  · cases e) hgl hm (by decide +kernel) ha (he := he) (hpl := hpl)
def absV' : List D → Option D
  | [.int i] => some (.int (if i < 0 then -i else i))
  | _ => none
/-! isinstance of data by a built-in class -/
end
end Bd
/-! D8: more that is walked; the law's own end. -/
namespace Bd
open PySem L2

section
variable {X : Cx} {W : WX} {rl : Rl} {a b c e tg iter : Expr} {Fa Fb F : Nv → R D} {Fs : Nv → R (List D)} {pos p : Pos} {es : List Expr}
def asSeq : D → R (List D)
  | .list xs => .ok xs
  | .tuple xs => .ok xs
  | _ => .no
def iA (F : Nv → R D) : Nv → R (List D) := fun η => (F η).bind asSeq
/-- a list or a tuple -/
theorem i_any (h : TD X W iter F) : TI' X W tg iter (iA F) := ⟨fun pins s σ H R I q => by
  obtain ⟨η, A, E, p0⟩ := q
  have p : PostI X.K X.mg W σ A H ((F η).bind asSeq) R := p0
  cases e1 : F η with
  | ex c w q =>
    rw [e1] at p
    exact (i_list (tg := tg) h).run pins s σ H R I ⟨η, A, E, by unfold iL; rw [e1]; exact p⟩
  | no => rw [e1] at p; exact False.elim p
  | ok d =>
    rw [e1] at p
    cases d with
    | list xs => exact (i_list (tg := tg) h).run pins s σ H R I ⟨η, A, E, by unfold iL; rw [e1]; exact p⟩
    | tuple xs => exact (i_tup (tg := tg) h).run pins s σ H R I ⟨η, A, E, by unfold iT; rw [e1]; exact p⟩
    | _ => exact False.elim p⟩
/-! zip of two lists, of two tuples -/
def zipD : List D → List D → List D
  | x :: xs, y :: ys => .tuple [x, y] :: zipD xs ys
  | _, _ => []
def zip2 : List D → R (List D)
  | [.list xs, .list ys] => .ok (zipD xs ys)
  | [.tuple xs, .tuple ys] => .ok (zipD xs ys)
  | _ => .no
def iZ (Fs : Nv → R (List D)) : Nv → R (List D) := fun η => (Fs η).bind zip2
/-! enumerate of a list -/
def enumD (k : Nat) : List D → List D
  | [] => []
  | x :: xs => .tuple [.int (k : Nat), x] :: enumD (k + 1) xs
def enum1 : List D → R (List D)
  | [.list xs] => .ok (enumD 0 xs)
  | _ => .no
def iEn (Fs : Nv → R (List D)) : Nv → R (List D) := fun η => (Fs η).bind enum1
end

/-! ### the law's own end -/
theorem dp_script {K : PySem.W.Frag} {H : Hp} {a : Addr} {ns : List Int} (h : SqL K H a (ns.map V.int)) : DpAll K (hid [] H) [.ref a] [.list (ns.map PyData.int)] :=
  .cons (.lst (by
    have e : hid [] H = H := by
      funext b
      exact hid_out (List.not_mem_nil)
    rw [e]
    exact h) (DpAll_ints ns)) .nil
theorem law_end {P : Program} {w : World} {K : PySem.W.Frag} {mg mb : Str → Option Value} {k : Nat} {fa a : Addr} {fd : FuncData} {x : Str} {Fn : List D → R D} {s1 : Shared} {vs : List Value} {ns : List Int}
    (KX : K.In s1.heap) (hns : s1.heap.Ns mainGlobals mg) (hb : s1.heap.Ns builtinsNs mb) (hbb : ∀ x : Str, x ≠ "__name__" → mb x = bootBuiltins x) (hlim : s1.heap.NoLimit) (hg : s1.gens = #[])
    (ha : s1.heap.get? a = some { cls := .type "list", data := .seq vs.toArray }) (hi : PyProof.Rows.IntsAre vs ns) (hl : ns.length ≤ sizeLine) (hr : Room k callerA)
    (F : ∀ base : Heap, K.In base → base.Ns mainGlobals mg → FnG P w K mg base k fa fd [x] (spD K mg (rD K) 1 Fn)) (hbind : ∀ (s : Shared) (u : Value), BindsTo s fd ⟨[u], []⟩ [(x, u)]) (ht : Fn [.list (ns.map PyData.int)] = .ok (.bool true)) :
    codeAny (model P w) callerA (.call (.ref fa) ⟨[.ref a], []⟩) (fun r s' => r = .ok (.ret (.bool true)) ∧ OldK s1.heap s'.heap ∧ s'.os = s1.os ∧ PyProof.Rows.AllBare s'.gens) s1 := by
  have rel := vals_ints hi
  have lenV := hi.length
  -- the abstract heap: the script, locked, unless the module itself holds it
  have main : ∀ T : Hp, (∀ b, T b = none ∨ (b = a ∧ K.lookup a = none ∧ T b = some (.frz { cls := .type "list", data := .seq vs.toArray } (.lst (ns.map V.int))))) → SqL K T a (ns.map V.int) →
      codeAny (model P w) callerA (.call (.ref fa) ⟨[.ref a], []⟩) (fun r s' => r = .ok (.ret (.bool true)) ∧ OldK s1.heap s'.heap ∧ s'.os = s1.os ∧ PyProof.Rows.AllBare s'.gens) s1 := by
    intro T hT hS
    have free : ∀ {b : Addr} {o : Obj}, K.lookup b = some o → T b = none := fun {b o} e => by
      rcases hT b with z | ⟨rfl, z, _⟩
      · exact z
      · rw [z] at e; cases e
    have nsfree : ∀ {b : Addr} {m : Str → Option Value}, s1.heap.Ns b m → (hidT s1.heap T).Ns b m := fun {b m} ⟨o, es, ep, e, d, r⟩ => by
      refine ⟨o, es, ep, hidT_get e ?_, d, r⟩
      rcases hT b with z | ⟨rfl, _, z⟩
      · exact z
      · rw [ha] at e
        cases e
        exact nomatch (show Data.seq vs.toArray _ = Data.dict es ep from d)
    have kin : K.In (hidT s1.heap T) := fun b o e => hidT_get (KX b o e) (free e)
    have hM : Mod K mg (hidT s1.heap T) := ⟨kin, nsfree hns, ⟨mb, nsfree hb, hbb⟩, hlim.elim fun m z => ⟨m, nsfree z.1, z.2⟩⟩
    have hok : HOk P w T s1.heap := fun b o z => by
      rcases hT b with q | ⟨rfl, _, q⟩
      · rw [q] at z; cases z
      · rw [q] at z
        cases z
        exact ⟨ha, by rw [List.length_map]; exact hl, vs, _, rel, ha⟩
    have e0 : Env0 P w K mg (hidT s1.heap T) callerA [] s1 T := ⟨rfl, hM, fun b o e => of_hidT e, Nat.le_of_eq (hidT_size _ _), trivial, fun b z => absurd (show b ∈ ([] : List Addr) from z) List.not_mem_nil, hok, .of_eq hg⟩
    refine codeAny_mono ((F _ kin (nsfree hns)).run callerA [] s1 T ⟨[.ref a], []⟩ [.ref a] [.ref a] (fun v _ => v = .bl true) (fun _ _ _ => False) hr rfl e0 (hbind s1 (.ref a)) (.cons rfl .nil) ?_) fun r s2 out => ?_
    · exact ⟨_, [], rfl, fun p z => (List.not_mem_nil z).elim, dp_script hS, by
        rw [ht]
        exact fun v H' _ q => by
          cases (show Dp K (hid [] H') v (.bool true) from q)
          rfl⟩
    · match r, out with
      | .error e, out =>
        obtain ⟨_, _, _, _, _, _, _, _, _, _, _, _, z⟩ := out
        exact z.elim
      | .ok .next, out => exact out.elim
      | .ok .brk, out => exact out.elim
      | .ok .cont, out => exact out.elim
      | .ok (.ret u), out =>
        obtain ⟨v, T2, os, bare, un, hok2, rv, q⟩ := out
        have q : v = .bl true := q
        subst q
        cases (show u = Value.bool true from rv)
        refine ⟨rfl, OldK.of_keep fun b o e => ?_, os, bare⟩
        rcases hT b with z | ⟨rfl, _, z⟩
        · exact un.keep b o e z (fun m => absurd (show b ∈ ([] : List Addr) from m) List.not_mem_nil) List.not_mem_nil
        · have z2 := un.frzs b _ _ z
          obtain ⟨f2, _⟩ := hok2 b _ z2
          obtain ⟨f1, _⟩ := hok b _ z
          rw [e] at f1
          cases f1
          exact f2
  cases hk : K.lookup a with
  | some o =>
    have e := KX a o hk
    rw [ha] at e
    cases e
    exact main (fun _ => none) (fun _ => .inl rfl) (.inr ⟨_, vs.toArray, _, hk, rfl, rfl, rfl, by rw [List.size_toArray, lenV]; exact hl, by simpa using rel⟩)
  | none =>
    refine main (fun b => if b = a then some (.frz { cls := .type "list", data := .seq vs.toArray } (.lst (ns.map V.int))) else none) (fun b => ?_) (.inl (.inr ⟨_, if_pos rfl⟩))
    by_cases hba : b = a
    · exact .inr ⟨hba, hk, if_pos hba⟩
    · exact .inl (if_neg hba)
/-- what k_head leaves, from the law's promise by data -/
theorem walk_end {l : PySem.W.OpenLaw} {n k : Nat} {q : Program} {loose : List Str} {XP : (Str → Option Value) → Heap → Prop} {YP : World → Heap → Prop} {d : DefRec} {K : Params → PySem.W.Frag} {x : Str} {Fn : List D → R D}
    (hn : l.most = some n) (hn2 : n ≤ sizeLine) (hdf : d.params.defaults = []) (hr : Room k callerA) (hY : ∀ (w : World) (h : Heap), YP w h → (K w.params).In h)
    (F : ∀ (w : World) (mg : Str → Option Value) (fa : Addr) (h : Heap), (K w.params).In h → h.Ns mainGlobals mg → mg d.name = some (.ref fa) → ∃ fd : FuncData, (∀ (s : Shared) (u : Value), BindsTo s fd ⟨[u], []⟩ [(x, u)]) ∧
      ∀ base : Heap, (K w.params).In base → base.Ns mainGlobals mg → FnG l.prog w (K w.params) mg base k fa fd [x] (spD (K w.params) mg (rD (K w.params)) 1 Fn))
    (ht : ∀ ns : List Int, ns.length ≤ n → Fn [.list (ns.map PyData.int)] = .ok (.bool true)) : PySem.W.WalkO q loose XP YP l.row.toRowW d [] (fun f vs => PySem.call f vs) := by
  refine Att.attach_call hn hdf fun w s0 s1 mg mb fa o pm cd doc a vs ns G Y ho hd hcd hmg hobj hints hlen hg => ?_
  obtain ⟨fd, hb, hF⟩ := F w mg fa _ (hY w _ Y) G.T.g hmg
  exact law_end (hY w _ Y) G.T.g G.T.b G.T.builtins G.T.nolimit hg hobj hints (Nat.le_trans hlen hn2) hr hF hb (ht ns hlen)
end Bd
/-! D9: reversed ranges; slices with a step. -/
namespace Bd
open PySem L2

section
variable {X : Cx} {W : WX} {rl : Rl} {a b c e tg iter : Expr} {Fa Fb F : Nv → R D} {Fs : Nv → R (List D)} {pos p p2 : Pos} {es : List Expr}
/-! for k in reversed(range(n)) -/
def rrD (n : Nat) : List D := (List.range n).map fun i => PyData.int ((n : Int) - 1 - (i : Nat))
def rr1 : D → R (List D)
  | .int n => if -(2 ^ 62) ≤ n ∧ n < 2 ^ 62 then .ok (rrD n.toNat) else .no
  | _ => .no
def iRR (F : Nv → R D) : Nv → R (List D) := fun η => (F η).bind rr1
/-! [::-1] -/
section
variable {prog : Program} {w : World} {A : Around} {E : Value → Shared → Prop} {s : Shared}
theorem part_back {v : Value} {t : Tok} {Q : Option Int → Shared → Prop} (e : v = .int (-1) t) (h : Q (some (-1)) s) : wpAny (model prog w) A (Builtin.Slice.slicePartIndex v) Q E s := by
  subst e
  exact HT.slicePart_ (.int (-1) t) h
theorem back_adjust (n : Nat) : Builtin.Slice.sliceAdjust none none (-1) (n : Int) = ((n : Int) - 1, -1) := by
  unfold Builtin.Slice.sliceAdjust
  rfl
theorem back_places (n : Nat) : Builtin.Slice.slicePlaces ((n : Int) - 1) (-1) (-1) = n := by
  unfold Builtin.Slice.slicePlaces
  have h1 : ¬ ((-1 : Int) > 0) := by omega
  simp only [h1, if_false, Int.neg_neg, Int.ediv_one]
  split <;> omega
theorem back_pick (xs : Array Value) : ((List.range xs.size).filterMap fun (m : Nat) => xs[((xs.size : Int) - 1 + (m : Int) * (-1)).toNat]?) = xs.toList.reverse := by
  have e : ∀ l : List Nat, (l.filterMap fun (m : Nat) => xs[((xs.size : Int) - 1 + (m : Int) * (-1)).toNat]?) = (l.map fun k => xs.size - 1 - k).filterMap (xs[·]?) := by
    intro l
    induction l with
    | nil => rfl
    | cons m r ih =>
      have : ((xs.size : Int) - 1 + (m : Int) * (-1)).toNat = xs.size - 1 - m := by omega
      rw [List.map_cons, List.filterMap_cons, List.filterMap_cons, ih, this]
  rw [e, PySem.W.krv_range, List.filterMap_reverse, PySem.W.krv_all]
theorem tuple_back {t sl : Addr} {items : Array Value} {u : Tok} {Q : Value → Shared → Prop} (ht : PyProof.Rows.IsTup s.heap t items) (hs : s.heap.IsSliceOf sl .none .none (.int (-1) u))
    (h : Q (.ref s.heap.objs.size) { s with heap := s.heap.push { cls := .type "tuple", data := .seq items.toList.reverse.toArray } }) (hsz : items.size ≤ sizeLine) : wpAny (model prog w) A (getItem (.ref t) (.ref sl)) Q E s := by
  have fits : sizeOk (.seq items.toList.reverse.toArray) := by
    show items.toList.reverse.toArray.size ≤ sizeLine
    simpa using hsz
  obtain ⟨os, hos, hcs, hds⟩ := id hs
  have tyS : s.TypeIs (.ref sl) "slice" := ⟨os, hos, hcs⟩
  unfold getItem
  try with_reducible refine wpAny_holding ?_
  first | refine wpAny_bind (wpAny_pure ?_) | skip
  refine wpAny_bind (wpAny_sequenceKey ht.typeIs (by decide) ?_)
  refine wpAny_bind (wpAny_callSpecial?_slot (name := Str.ofString "__getitem__") ht.typeIs PyProof.Rows.slot_tuple_getitem (wpAny_call_entry PyProof.Rows.slot_tuple_getitem ht.typeIs PyProof.Rows.entry_tuple_getitem ?_ (PyProof.Rows.args_tuple_getitem _ _)))
  refine wpAny_bind (m := Builtin.Tuple.tupleItemsOf (.ref t)) (PyProof.Rows.tupleItemsOf_ ht ?_)
  refine wpAny_bind (wpAny_typeOf tyS ?_)
  rw [if_pos (by decide)]
  have app : ∀ {R1 : Int × Int × Nat → Shared → Prop}, R1 ((items.size : Int) - 1, -1, items.size) s → wpAny (model prog w) A.in1 (Builtin.Slice.sliceApplied (.ref sl) (pure (items.size : Int))) R1 (fun _ _ => False) s := fun {R1} r => by
    unfold Builtin.Slice.sliceApplied Builtin.Slice.sliceFields
    refine wpAny_bind (wpAny_bind (wpAny_field hos hds (x := Value.none) rfl (wpAny_bind (wpAny_field hos hds (x := Value.none) rfl (wpAny_bind (wpAny_field hos hds (x := .int (-1) u) rfl (wpAny_pure ?_)))))))
    refine wpAny_bind (part_back rfl ?_)
    show wpAny _ _ (if ((-1 : Int) == 0) = true then _ else _) _ _ s
    rw [if_neg (show ¬ (((-1 : Int) == 0) = true) by decide)]
    refine wpAny_bind (HT.slicePart_ .none (wpAny_bind (HT.slicePart_ .none (wpAny_bind (wpAny_pure ?_)))))
    show wpAny _ _ (match Builtin.Slice.sliceAdjust none none (-1) (items.size : Int) with | (lo, hi) => pure (lo, (-1 : Int), Builtin.Slice.slicePlaces lo hi (-1))) _ _ s
    rw [back_adjust items.size]
    show wpAny _ _ (pure ((items.size : Int) - 1, (-1 : Int), Builtin.Slice.slicePlaces ((items.size : Int) - 1) (-1) (-1))) _ _ s
    rw [back_places]
    exact wpAny_pure r
  refine wpAny_bind (wpAny_mono (app (R1 := fun x s2 => x = ((items.size : Int) - 1, -1, items.size) ∧ s2 = s) ⟨rfl, rfl⟩) (fun x s2 z => ?_) fun _ _ z => z.elim)
  obtain ⟨rfl, rfl⟩ := z
  have no : ¬ (((items.size : Int) - 1 == 0 && (-1 : Int) == 1 && items.size == items.size) = true) := by
    have q : ((-1 : Int) == 1) = false := by decide
    rw [q, Bool.and_false, Bool.false_and]
    exact Bool.false_ne_true
  show wpAny _ _ (if (((items.size : Int) - 1 == 0 && (-1 : Int) == 1 && items.size == items.size) = true) then _ else _) _ _ s2
  rw [if_neg no, back_pick]
  first
    | exact wpAny_bind (m := Builtin.Tuple.tupleExact _) (wpAny_newObj_type (wpAny_pure ⟨_, rfl, wpAny_pure h⟩) fits)
    | exact wpAny_bind (m := Builtin.Tuple.tupleExact _) (wpAny_newObj_type (wpAny_bind (wpAny_pure (wpAny_pure ⟨_, rfl, wpAny_pure h⟩))) fits)
    | exact wpAny_bind (wpAny_bind (m := Builtin.Tuple.tupleExact _) (wpAny_newObj_type (wpAny_pure (wpAny_pure ⟨_, rfl, wpAny_pure h⟩)) fits))
end
/-- a list or a tuple, from its end -/
def revV : D → Option D
  | .list xs => some (.list xs.reverse)
  | .tuple xs => some (.tuple xs.reverse)
  | _ => none
def tRevT (K : PySem.W.Frag) (te : TE) : TE := fun σ H Q => te σ H fun x H1 => ∃ a xs, x = .ref a ∧ SqT K H1 a xs ∧ ∀ q, H1 q = none → Q (.ref q) (upd H1 q (.tup xs.reverse))
theorem pe_revT {te : TE} {k : Nat} {q1 q2 q3 : Pos} (he : PE X e te) : PE X (.Subscript e (.Slice none none (some (.UnaryOp .USub (.Constant (.int 1) k q1) q2)) q3) pos) (tRevT X.K te) := by
  refine ⟨fun pins s σ H Q I h => PyProof.Rows.Subscript_ (thn (he.run pins s σ H _ I h) fun v s1 z => ?_)⟩
  obtain ⟨x, H1, I1, r1, a, xs, rfl, hx, q⟩ := z
  cases r1
  have st : PO X (some (.UnaryOp .USub (.Constant (.int 1) k q1) q2)) (tPart (tUn (rU fun i => .int (-i)) (tC (.int 1)))) := po_some (pe_un un_neg pe_int)
  have none0 : ∀ {s2 : Shared} {H2 : Hp}, Inv X pins σ H2 s2 → wpAny (model X.prog X.w) X.A (evalPart none X.env) (fun u s3 => ∃ o H3, Inv X pins σ H3 s3 ∧ IsPart u o ∧ o = none ∧ H3 = H2) X.xe s2 := fun {s2 H2} I2 => po_none.run pins s2 σ H2 (fun o H3 => o = none ∧ H3 = H2) I2 ⟨rfl, rfl⟩
  refine wpAny_Slice (thn (none0 I1) fun vl s2 y => ?_)
  obtain ⟨l, H2, I2, pl, el, eh⟩ := y
  subst el eh
  refine thn (none0 I2) fun vu s3 y => ?_
  obtain ⟨u, H3, I3, pu, eu, eh⟩ := y
  subst eu eh
  refine thn (st.run pins s3 σ H3 (fun o H4 => o = some (-1) ∧ H4 = H3) I3 ⟨1, rfl, -1, rfl, rfl, rfl⟩) fun vs s4 y => ?_
  obtain ⟨o, H4, I4, ps, eo, eh⟩ := y
  subst eo eh
  cases pl
  cases pu
  obtain ⟨t, et⟩ : ∃ t, vs = .int (-1) t := by
    cases ps with
    | int i t => exact ⟨t, rfl⟩
  subst et
  have I5 : Inv X pins σ H4 { s4 with heap := s4.heap.push { cls := .type "slice", data := .fields #[.none, .none, .int (-1) t] } } := I4.kept (t' := s4.toks) fun b ob z => Heap.get?_push_of_some _ z
  obtain ⟨its, rv, tt, hz⟩ := I5.tuple hx
  have hlen := rv.length
  show wpAny (model X.prog X.w) X.A (PyProof.Rows.subscriptTail e (.Slice none none (some (.UnaryOp .USub (.Constant (.int 1) k q1) q2)) q3) (.ref a) (.ref s4.heap.objs.size)) (EP X pins σ Q) X.xe { s4 with heap := s4.heap.push { cls := .type "slice", data := .fields #[.none, .none, .int (-1) t] } }
  refine PyProof.Rows.tail_any (ops := [.ref a, .ref s4.heap.objs.size]) tt.typeIs (PyProof.Rows.slot_tuple_getitem.lookup) ?_ (by with_unfolding_all rfl)
  refine tuple_back tt (Heap.IsSliceOf.new _ .none .none (.int (-1) t)) ?_ (by rw [List.size_toArray]; omega)
  refine ⟨.ref _, _, I5.laid (t' := s4.toks) (o := .tup xs.reverse) (fun b ob z => Heap.get?_push_of_some _ z) (Nat.le_refl _) ?_, rfl, q _ (I5.hok.fresh (Nat.le_refl _))⟩
  exact ⟨by rw [List.length_reverse]; exact hz, _, rv.reverse, PyProof.Rows.IsTup.new _ _⟩
theorem t_rev {k : Nat} {q1 q2 q3 : Pos} (ha : TO X W a Fa) : TD X W (.Subscript a (.Slice none none (some (.UnaryOp .USub (.Constant (.int 1) k q1) q2)) q3) pos) (e1 revV Fa) := ⟨fun pins s σ H Q I q => by
  obtain ⟨η, A, E, p0⟩ := id q
  have p : Post X.K X.mg W (rD X.K) σ A H ((Fa η).bind fun x => .of (revV x)) Q := p0
  have viaL : tRevL X.K (tR X.K X.mg W (rO X.K) Fa) σ H Q → wpAny (model X.prog X.w) X.A (eval (.Subscript a (.Slice none none (some (.UnaryOp .USub (.Constant (.int 1) k q1) q2)) q3) pos) X.env) (EP X pins σ Q) X.xe s := fun z => (pe_revL ha).run pins s σ H Q I z
  have viaT : tRevT X.K (tR X.K X.mg W (rO X.K) Fa) σ H Q → wpAny (model X.prog X.w) X.A (eval (.Subscript a (.Slice none none (some (.UnaryOp .USub (.Constant (.int 1) k q1) q2)) q3) pos) X.env) (EP X pins σ Q) X.xe s := fun z => (pe_revT ha).run pins s σ H Q I z
  cases e1 : Fa η with
  | ex c w z =>
    rw [e1] at p
    exact viaL (show tR X.K X.mg W (rO X.K) Fa σ H _ from ⟨η, A, E, by rw [e1]; exact p⟩)
  | no => rw [e1] at p; exact False.elim p
  | ok d =>
    rw [e1] at p
    cases d with
    | list xs =>
      refine viaL (show tR X.K X.mg W (rO X.K) Fa σ H _ from ⟨η, A, E, ?_⟩)
      rw [e1]
      intro v H1 s1 q1
      obtain ⟨l, vs, rfl, h1, q2⟩ := rO_list q1
      exact ⟨l, vs, rfl, h1, fun z hz => p _ _ (s1.trans (same_new hz)) (rF_D (nofree E.tr) (back_F _ _ _ _ _ _ s1 (dp_new_list (E.same s1).tr hz (DpAll_rev q2))))⟩
    | tuple xs =>
      refine viaT (show tR X.K X.mg W (rO X.K) Fa σ H _ from ⟨η, A, E, ?_⟩)
      rw [e1]
      intro v H1 s1 q1
      obtain ⟨l, vs, rfl, h1, _, q2⟩ := rO_tup q1
      exact ⟨l, vs, rfl, h1, fun z hz => p _ _ (s1.trans (same_new hz)) (dp_new_tup (E.same s1).tr hz (DpAll_rev q2))⟩
    | _ => exact False.elim p⟩
end
end Bd
/-! D10: expressions that change lists that the def owns or is handed: an answer and the names behind it. -/
namespace Bd
open PySem L2

/-! ### what may change -/
/-- the contents of lists of the def's own may differ -/
def Kin (η η' : Nv) : Prop := (η'.length = η.length ∧ ∀ (i : Nat) (ks : Dks), η'[i]? = some (.dk ks) → η[i]? = some (.dk ks)) ∧ ∀ (i : Nat) (xs' : OL), η'[i]? = some (.own xs') → ∃ xs : OL, η[i]? = some (.own xs) ∧ xs.b = xs'.b
theorem Kin.refl (η : Nv) : Kin η η := ⟨⟨rfl, fun _ _ e => e⟩, fun _ xs e => ⟨xs, e, rfl⟩⟩
theorem Kin.trans {a b c : Nv} (h : Kin a b) (k : Kin b c) : Kin a c := ⟨⟨k.1.1.trans h.1.1, fun i ks e => h.1.2 i ks (k.1.2 i ks e)⟩, fun i xs e => by
  obtain ⟨ys, e1, q1⟩ := k.2 i xs e
  obtain ⟨zs, e2, q2⟩ := h.2 i ys e1
  exact ⟨zs, e2, q2.trans q1⟩⟩
/-- all but those lists stays -/
def Mv (σ : L2.St) (η : Nv) (H H' : Hp) : Prop := ∀ (a : Addr) (o : HO), H a = some o → (∀ (i : Nat) (xs : OL), η[i]? = some (.own xs) → σ[i]? ≠ some (some (.ref a))) → H' a = some o
theorem Mv.of {σ : L2.St} {η : Nv} {H H' : Hp} (s : Same H H') : Mv σ η H H' := fun a o e _ => s a o e
theorem Mv.trans {σ : L2.St} {η η1 : Nv} {H H1 H2 : Hp} (k : Kin η η1) (h : Mv σ η H H1) (h2 : Mv σ η1 H1 H2) : Mv σ η H H2 := fun a o e n => h2 a o (h a o e n) fun i xs e1 => by
  obtain ⟨ys, q, _⟩ := k.2 i xs e1
  exact n i ys q
section
variable {K : PySem.W.Frag} {H H' H1 H2 : Hp} {A : List Addr} {σ : L2.St} {η η' η1 : Nv}
theorem own_in (E : EnvD K H A σ η) {i : Nat} {xs : OL} {a : Addr} (e : η[i]? = some (.own xs)) (e2 : σ[i]? = some (some (.ref a))) : a ∈ A ∧ ∃ vs, H a = some (.lst vs) ∧ DpAll K (hid A H) vs xs.l := by
  obtain ⟨o, e3, q⟩ := E.at_ i _ e
  rw [e2] at e3
  cases e3
  exact q
theorem own_ref (E : EnvD K H A σ η) {i : Nat} {xs : OL} (e : η[i]? = some (.own xs)) : ∃ a, σ[i]? = some (some (.ref a)) ∧ a ∈ A ∧ ∃ vs, H a = some (.lst vs) ∧ DpAll K (hid A H) vs xs.l := by
  obtain ⟨o, e3, q⟩ := E.at_ i _ e
  match o, q, e3 with
  | some (.ref a), q, e3 => exact ⟨a, e3, q⟩
theorem Mv.hid (E : EnvD K H A σ η) (m : Mv σ η H H') : Same (hid A H) (hid A H') := fun b o e => by
  obtain ⟨n, e⟩ := hid_some e
  rw [hid_out n]
  exact m b o e fun i xs e1 e2 => n (own_in E e1 e2).1
theorem Mv.there (E : EnvD K H A σ η) (E' : EnvD K H' A σ η') (m : Mv σ η H H') {a : Addr} (h : H a ≠ none) : H' a ≠ none := by
  by_cases hA : a ∈ A
  · exact E'.tr a hA
  · cases e : H a with
    | none => exact absurd e h
    | some o =>
      rw [m a o e fun i xs e1 e2 => hA (own_in E e1 e2).1]
      exact fun z => nomatch z
end
/-- the heap ahead may be an earlier one, however lists were changed -/
def Back2 (rl : Rl) : Prop := ∀ H H1 H' A v d, (∀ a, H a ≠ none → H1 a ≠ none) → rl H1 H' A v d → rl H H' A v d
def PostX (K : PySem.W.Frag) (rl : Rl) (σ : L2.St) (A : List Addr) (H : Hp) (η : Nv) (r : R (D × Nv)) (Q : VK) : Prop :=
  match r with
  | .ok p => ∀ v H', EnvD K H' A σ p.2 → Kin η p.2 → Mv σ η H H' → rl H H' A v p.1 → Q v H'
  | _ => False
def tX (K : PySem.W.Frag) (rl : Rl) (F : Nv → R (D × Nv)) : TE := fun σ H Q => ∃ η A, EnvD K H A σ η ∧ PostX K rl σ A H η (F η) Q
def TX (X : Cx) (rl : Rl) (e : Expr) (F : Nv → R (D × Nv)) : Prop := PE X e (tX X.K rl F)
def PostXA (K : PySem.W.Frag) (σ : L2.St) (A : List Addr) (H : Hp) (η : Nv) (r : R (List D × Nv)) (Q : List V → Hp → Prop) : Prop :=
  match r with
  | .ok p => ∀ vs H', EnvD K H' A σ p.2 → Kin η p.2 → Mv σ η H H' → DpAll K (hid A H') vs p.1 → Q vs H'
  | _ => False
def PostXB (K : PySem.W.Frag) (σ : L2.St) (A : List Addr) (H : Hp) (η : Nv) (r : R (Bool × Nv)) (Q : Bool → Hp → Prop) : Prop :=
  match r with
  | .ok p => ∀ H', EnvD K H' A σ p.2 → Kin η p.2 → Mv σ η H H' → Q p.1 H'
  | _ => False
section
variable {K : PySem.W.Frag} {rl : Rl} {H H1 : Hp} {A : List Addr} {σ : L2.St} {η η1 : Nv} {Q : VK}
theorem PostX.step {r : R (D × Nv)} (b : Back2 rl) (E : EnvD K H A σ η) (E1 : EnvD K H1 A σ η1) (k : Kin η η1) (m : Mv σ η H H1) (h : PostX K rl σ A H η r Q) : PostX K rl σ A H1 η1 r Q := by
  cases r with
  | ok p => exact fun v H' E' k' m' q => h v H' E' (k.trans k') (Mv.trans k m m') (b _ _ _ _ _ _ (fun a z => Mv.there E E1 m z) q)
  | ex c w p => exact h
  | no => exact h
theorem PostXA.step {r : R (List D × Nv)} {Q : List V → Hp → Prop} (k : Kin η η1) (m : Mv σ η H H1) (h : PostXA K σ A H η r Q) : PostXA K σ A H1 η1 r Q := by
  cases r with
  | ok p => exact fun v H' E' k' m' q => h v H' E' (k.trans k') (Mv.trans k m m') q
  | ex c w p => exact h
  | no => exact h
theorem PostXB.step {r : R (Bool × Nv)} {Q : Bool → Hp → Prop} (k : Kin η η1) (m : Mv σ η H H1) (h : PostXB K σ A H η r Q) : PostXB K σ A H1 η1 r Q := by
  cases r with
  | ok p => exact fun H' E' k' m' => h H' E' (k.trans k') (Mv.trans k m m')
  | ex c w p => exact h
  | no => exact h
end
section
variable {X : Cx} {W : WX} {rl : Rl} {a b c e : Expr} {es rest : List Expr} {Fa Fb F : Nv → R (D × Nv)} {Fs : Nv → R (List D × Nv)} {Ga Gb G : Nv → R (Bool × Nv)} {pos : Pos} {f : D → D → Option D}
/-- what changes nothing -/
def up (F : Nv → R D) : Nv → R (D × Nv) := fun η => match F η with
  | .ok d => .ok (d, η)
  | _ => .no
theorem x_up {F : Nv → R D} (h : PE X e (tR X.K X.mg W rl F)) : TX X rl e (up F) := peW h fun σ H Q ⟨η, A, E, p⟩ => ⟨η, A, E, by
  unfold up at p
  cases e : F η with
  | ok d =>
    rw [e] at p
    exact fun v H' s q => p v H' (E.same s) (Kin.refl η) (Mv.of s) q
  | ex c w z => rw [e] at p; exact False.elim p
  | no => rw [e] at p; exact False.elim p⟩
/-! a new list -/
theorem EnvD.shrink {K : PySem.W.Frag} {H H' : Hp} {A : List Addr} {σ : L2.St} {η η' : Nv} {l : Addr} (E' : EnvD K H' (l :: A) σ η') (E : EnvD K H A σ η) (k : Kin η η') : EnvD K H' A σ η' where
  len := E'.len
  at_ := fun j sl e => by
    obtain ⟨o, e1, q⟩ := E'.at_ j sl e
    refine ⟨o, e1, ?_⟩
    cases sl with
    | no => cases o <;> trivial
    | d x =>
      cases o with
      | none => exact q
      | some v => exact Dp_mono (show Dp K (hid (l :: A) H') v x from q) (hid_mono fun _ m => List.mem_cons_of_mem _ m)
    | own zs =>
      match o, q, e1 with
      | some (.ref b), ⟨m, ws, e2, q⟩, e1 =>
        obtain ⟨ys, e3, _⟩ := k.2 j zs e
        exact ⟨(own_in E e3 e1).1, ws, e2, DpAll_mono q (hid_mono fun _ m => List.mem_cons_of_mem _ m)⟩
    | m x => exact q.m' (hid_mono fun _ m => List.mem_cons_of_mem _ m)
    | x c w p => exact q.x' (hid_mono fun _ m => List.mem_cons_of_mem _ m)
    | dk ks =>
      match o, q, e1 with
      | some (.ref b), ⟨m, q⟩, e1 =>
        obtain ⟨v0, e3, q3⟩ := E.at_ j _ (k.1.2 j ks e)
        rw [e1] at e3
        cases e3
        exact ⟨q3.1, q.keep (hid_mono fun _ m => List.mem_cons_of_mem _ m) fun _ _ e => e⟩
  ap := E'.ap
  tr := fun a m => E'.tr a (List.mem_cons_of_mem _ m)
/-! arguments -/
def x0 : Nv → R (List D × Nv) := fun η => .ok ([], η)
def xC (Fa : Nv → R (D × Nv)) (Fs : Nv → R (List D × Nv)) : Nv → R (List D × Nv) := fun η => (Fa η).bind fun p => (Fs p.2).bind fun q => .ok (p.1 :: q.1, q.2)
/-! built-ins, displays -/
def xN (f : List D → Option D) (Fs : Nv → R (List D × Nv)) : Nv → R (D × Nv) := fun η => (Fs η).bind fun p => (R.of (f p.1)).bind fun d => .ok (d, p.2)
/-! operators -/
def x2 (f : D → D → Option D) (Fa Fb : Nv → R (D × Nv)) : Nv → R (D × Nv) := fun η => (Fa η).bind fun p => (Fb p.2).bind fun q => (R.of (f p.1 q.1)).bind fun d => .ok (d, q.2)
end
end Bd
/-! D11: tests that change lists; calls; defs that are handed a list and change it. -/
namespace Bd
open PySem L2

section
variable {X : Cx} {W : WX} {rl : Rl} {a b c e : Expr} {es rest : List Expr} {Fa Fb F : Nv → R (D × Nv)} {Fs : Nv → R (List D × Nv)} {Ga Gb G : Nv → R (Bool × Nv)} {pos : Pos} {f : D → D → Option D}
def xb (F : Nv → R (D × Nv)) : Nv → R (Bool × Nv) := fun η => (F η).bind fun p => (tru p.1).bind fun k => .ok (k, p.2)
def upB (G : Nv → R Bool) : Nv → R (Bool × Nv) := fun η => match G η with
  | .ok k => .ok (k, η)
  | _ => .no
/-! and, or, not -/
def xAnd (Ga Gb : Nv → R (Bool × Nv)) : Nv → R (Bool × Nv) := fun η => (Ga η).bind fun p => if p.1 then Gb p.2 else .ok (false, p.2)
def xOr (Ga Gb : Nv → R (Bool × Nv)) : Nv → R (Bool × Nv) := fun η => (Ga η).bind fun p => if p.1 then .ok (true, p.2) else Gb p.2
def xNot (Ga : Nv → R (Bool × Nv)) : Nv → R (Bool × Nv) := fun η => (Ga η).bind fun p => .ok (!p.1, p.2)
/-! a if c else b -/
def xIf (G : Nv → R (Bool × Nv)) (Fa Fb : Nv → R (D × Nv)) : Nv → R (D × Nv) := fun η => (G η).bind fun p => if p.1 then Fa p.2 else Fb p.2
/-! ### calls of defs -/
def xCall (Fn : List D → R D) (Fs : Nv → R (List D × Nv)) : Nv → R (D × Nv) := fun η => (Fs η).bind fun p => (noex (Fn p.1)).bind fun d => .ok (d, p.2)
end
/-! ### a def that is handed a list and changes it -/
theorem EnvD.put {K : PySem.W.Frag} {H H' : Hp} {A : List Addr} {σ : L2.St} {η : Nv} {i : Nat} {xs : OL} {a : Addr} {ws : List V} {ys : List D} (E : EnvD K H A σ η) (hi : η[i]? = some (.own xs)) (ho : σ[i]? = some (some (.ref a))) (kp : ∀ b o, b ≠ a → H b = some o → H' b = some o) (tr : ∀ p ∈ A, H' p ≠ none)
    (ha : H' a = some (.lst ws)) (q : DpAll K (hid A H') ws ys) : EnvD K H' A σ (η.set i (.own ⟨xs.b, ys⟩)) := by
  have hA : a ∈ A := (own_in E hi ho).1
  have hl : i < η.length := (List.getElem?_eq_some_iff.mp hi).1
  have sh : Same (hid A H) (hid A H') := fun b o e => by
    obtain ⟨n, e⟩ := hid_some e
    rw [hid_out n]
    exact kp b o (fun z => n (by rw [z]; exact hA)) e
  have gt : ∀ (j : Nat) (sl : Sl), (η.set i (.own ⟨xs.b, ys⟩))[j]? = some sl → (j = i ∧ sl = .own ⟨xs.b, ys⟩) ∨ (j ≠ i ∧ η[j]? = some sl) := fun j sl h => by
    by_cases hj : i = j
    · subst hj
      rw [List.getElem?_set_self hl] at h
      cases h
      exact .inl ⟨rfl, rfl⟩
    · rw [List.getElem?_set_ne hj] at h
      exact .inr ⟨fun z => hj z.symm, h⟩
  refine ⟨by rw [List.length_set, E.len], fun j sl h => ?_, fun j k b us zs h1 h2 h3 h4 => ?_, tr⟩
  · rcases gt j sl h with ⟨rfl, rfl⟩ | ⟨n, h⟩
    · exact ⟨_, ho, hA, ws, ha, q⟩
    · obtain ⟨o, e1, q1⟩ := E.at_ j sl h
      refine ⟨o, e1, ?_⟩
      cases sl with
      | no => cases o <;> trivial
      | d x =>
        cases o with
        | none => exact q1
        | some v => exact Dp_mono (show Dp K (hid A H) v x from q1) sh
      | own zs =>
        match o, q1, e1 with
        | some (.ref b), ⟨m, us, e2, q1⟩, e1 =>
          have nb : b ≠ a := fun z => by
            subst z
            exact n (E.ap j i b zs xs h hi e1 ho)
          exact ⟨m, us, kp _ _ nb e2, DpAll_mono q1 sh⟩
      | m x => exact q1.m' sh
      | x c w p => exact q1.x' sh
      | dk ks =>
        match o, q1, e1 with
        | some (.ref b), ⟨m, q1⟩, e1 =>
          have hb : ∀ o, DoS o → H b = some o → H' b = some o := fun o so e => kp b _ (fun z => by
            subst z
            obtain ⟨_, vs0, e0, _⟩ := own_in E hi ho
            rw [e0] at e
            cases e
            exact notDo so) e
          exact ⟨m, q1.keep sh hb⟩
  · rcases gt j _ h1 with ⟨ej, _⟩ | ⟨n, g1⟩
    · rcases gt k _ h2 with ⟨ek, _⟩ | ⟨n2, g2⟩
      · rw [ej, ek]
      · rw [ej] at h3 ⊢
        exact E.ap i k b xs zs hi g2 h3 h4
    · rcases gt k _ h2 with ⟨ek, _⟩ | ⟨n2, g2⟩
      · rw [ek] at h4 ⊢
        exact E.ap j i b us xs g1 hi h3 h4
      · exact E.ap j k b us zs g1 g2 h3 h4
theorem Kin.put {η : Nv} {i : Nat} {xs : OL} {ys : List D} (hi : η[i]? = some (.own xs)) : Kin η (η.set i (.own ⟨xs.b, ys⟩)) := ⟨⟨List.length_set .., fun j ks e => (dk_set (s := .own ⟨xs.b, ys⟩) (fun _ z => nomatch z) e).2⟩, fun j zs e => by
  by_cases hj : i = j
  · subst hj
    rw [List.getElem?_set_self (List.getElem?_eq_some_iff.mp hi).1] at e
    cases e
    exact ⟨xs, hi, rfl⟩
  · rw [List.getElem?_set_ne hj] at e
    exact ⟨zs, e, rfl⟩⟩
section
variable {X : Cx} {rl : Rl} {e : Expr} {es : List Expr} {Fs : Nv → R (List D × Nv)} {pos : Pos}
def xPut (i : Nat) (Fk : List D → List D → R (D × List D)) (p : List D × Nv) : R (D × Nv) := match p.2[i]? with
  | some (.own xs) => (Fk xs.l p.1).bind fun r => .ok (r.1, p.2.set i (.own ⟨xs.b, r.2⟩))
  | _ => .no
/-- f(name, ..): the list at name is changed -/
def xCallK (i : Nat) (Fk : List D → List D → R (D × List D)) (Fs : Nv → R (List D × Nv)) : Nv → R (D × Nv) := fun η => match η[i]? with
  | some (.own _) => (Fs η).bind (xPut i Fk)
  | _ => .no
end
end Bd
/-! D12: statements with such expressions; the rule of a def that is handed a list. -/
namespace Bd
open PySem L2

section
variable {X : Cx} {f : Fx} {rl : Rl} {e c : Expr} {es : List Expr} {F : Nv → R (D × Nv)} {G : Nv → R (Bool × Nv)} {Gs Gt : Nv → Rs} {pos : Pos}
theorem EnvS.mv {K : PySem.W.Frag} {M : List Addr} {H0 : Hp} {A0 : List Addr} {H H' : Hp} {B : List Addr} {σ : L2.St} {η η' : Nv} (e : EnvS K M H0 A0 H B σ η) (E' : EnvD K H' (B ++ A0) σ η') (k : Kin η η') (m : Mv σ η H H') : EnvS K M H0 A0 H' B σ η' where
  env := E'
  same := fun b o z => by
    obtain ⟨n, z'⟩ := hid_some (e.same b o z)
    obtain ⟨_, z0⟩ := hid_some z
    rw [hid_out n]
    refine m b o z' fun i xs e1 e2 => ?_
    have q := e.own i b xs e1 e2
    split at q
    · rw [e.new b q] at z0
      cases z0
    · exact n q
  mA := e.mA
  new := e.new
  own := fun i a xs e1 e2 => by
    obtain ⟨ys, e3, q⟩ := k.2 i xs e1
    have z := e.own i a ys e3 e2
    rw [q] at z
    exact z
  dk := fun i a ks e1 e2 => ⟨(e.dk i a ks (k.1.2 i ks e1) e2).1, fun j ks' g1 g2 => (e.dk i a ks (k.1.2 i ks e1) e2).2 j ks' (k.1.2 j ks' g1) g2⟩
/-- an expression's answer, then the statement's -/
theorem toS_X {g : D × Nv → Rs} {E : Ends} {σ : L2.St} {H : Hp} (h : tS X.K X.mg f.W f.rl f.M f.H0 f.A0 (fun η => (F η).toS g) E σ H) {R1 : V → Hp → Prop}
    (k : ∀ (η η1 : Nv) (B : List Addr) (H1 : Hp) (v : V) (d : D), EnvS X.K f.M f.H0 f.A0 H B σ η → EnvS X.K f.M f.H0 f.A0 H1 B σ η1 → Kin η η1 → Mv σ η H H1 → Same (hid (B ++ f.A0) H) (hid (B ++ f.A0) H1) → rl H H1 (B ++ f.A0) v d → PostS X.K X.mg f.W f.rl f.M f.H0 f.A0 H B (g (d, η1)) E → R1 v H1)
    (nx : ∀ η c w q, F η ≠ .ex c w q) : tX X.K rl F σ H R1 := by
  obtain ⟨η, B, e, p0⟩ := h
  have p : PostS X.K X.mg f.W f.rl f.M f.H0 f.A0 H B ((F η).toS g) E := p0
  refine ⟨η, B ++ f.A0, e.env, ?_⟩
  cases e1 : F η with
  | ok d =>
    rw [e1] at p
    obtain ⟨d, η1⟩ := d
    exact fun v H1 E1 k1 m1 q => k η η1 B H1 v d e (e.mv E1 k1 m1) k1 m1 (m1.hid e.env) q p
  | ex c w q => exact absurd e1 (nx η c w q)
  | no => rw [e1] at p; exact p
/-- an answer, never an exception -/
def only {α : Type} : R α → R α
  | .ok a => .ok a
  | _ => .no
theorem only_nx {α : Type} (r : R α) (c w : Str) (p : D) : only r ≠ .ex c w p := fun e => by cases r <;> cases e
theorem x_only (h : TX X rl e F) : TX X rl e (fun η => only (F η)) := peW h fun σ H Q ⟨η, A, E, p⟩ => ⟨η, A, E, by
  have p : PostX X.K rl σ A H η (only (F η)) Q := p
  cases e : F η with
  | ok d =>
    rw [e] at p
    exact p
  | ex c w z => rw [e] at p; exact False.elim p
  | no => rw [e] at p; exact False.elim p⟩
def xSet (i : Nat) (F : Nv → R (D × Nv)) : Nv → Rs := fun η => (only (F η)).toS fun p => .nx (p.2.set i (.d p.1))
def xOwn (i : Nat) (F : Nv → R (D × Nv)) : Nv → Rs := fun η => (only (F η)).toS fun p => match p.1 with
  | .list xs => .nx (p.2.set i (.own ⟨true, xs⟩))
  | _ => .no
def xAsg (T : Tgt) (F : Nv → R (D × Nv)) : Nv → Rs := fun η => (only (F η)).toS fun p => match T p.1 p.2 with
  | some η' => .nx η'
  | none => .no
def xExpr (F : Nv → R (D × Nv)) : Nv → Rs := fun η => (only (F η)).toS fun p => .nx p.2
def xRet (F : Nv → R (D × Nv)) : Nv → Rs := fun η => (only (F η)).toS fun p => .rt p.1 p.2
/-- a test's answer, then the statement's -/
def xIfS (G : Nv → R (Bool × Nv)) (Gs Gt : Nv → Rs) : Nv → Rs := fun η => (only (G η)).toS fun p => if p.1 then Gs p.2 else Gt p.2
end
/-! ### the def's rule -/
def initK (m : Nat) (kx : List D) (ds : List D) : Nv := .own ⟨false, kx⟩ :: initD (m - 1) ds
def outK (d : D) (η : Nv) : R (D × List D) := match η[(0 : Nat)]? with
  | some (.own xs) => if xs.b then .no else .ok (d, xs.l)
  | _ => .no
def runK (m : Nat) (G : Nv → Rs) (kx : List D) (ds : List D) : R (D × List D) := match G (initK m kx ds) with
  | .rt d η => outK d η
  | _ => .no
section
variable {P : Program} {w : World} {K : PySem.W.Frag} {mg : Str → Option Value} {base : Heap}
end
end Bd
/-! D13: walks and comprehensions that change lists; name[k] = e. -/
namespace Bd
open PySem L2

def upI (F : Nv → R (List D)) : Nv → R (List D × Nv) := fun η => match F η with
  | .ok d => .ok (d, η)
  | _ => .no
section
variable {X : Cx} {W : WX} {a b e tg iter elt : Expr} {Fs : Nv → R (List D × Nv)} {pos : Pos}
def xR1 (Fs : Nv → R (List D × Nv)) : Nv → R (List D × Nv) := fun η => (Fs η).bind fun p => (rng1 p.1).bind fun d => .ok (d, p.2)
def xR2 (Fs : Nv → R (List D × Nv)) : Nv → R (List D × Nv) := fun η => (Fs η).bind fun p => (rng2 p.1).bind fun d => .ok (d, p.2)
end
/-! ### comprehensions -/
def compX (T : Tgt) (C : Nv → R (Bool × Nv)) (El : Nv → R (D × Nv)) (vs : List Nat) : List D → Nv → R (List D × Nv)
  | [], η => .ok ([], η)
  | x :: xs, η => match T x η with
    | none => .no
    | some η1 => (C η1).bindN fun b => if b.1 then (El b.2).bindN fun y => (compX T C El vs xs (wipeE y.2 vs)).bindN fun q => .ok (y.1 :: q.1, q.2) else compX T C El vs xs (wipeE b.2 vs)
def xComp (Fi : Nv → R (List D × Nv)) (T : Tgt) (C : Nv → R (Bool × Nv)) (El : Nv → R (D × Nv)) (vs : List Nat) : Nv → R (D × Nv) := fun η => (Fi η).bindN fun p => (compX T C El vs p.1 (wipeE p.2 vs)).bindN fun q => if q.1.length ≤ lineN then .ok (.list q.1, q.2) else .no
/-- the lists of one's own here are those of there -/
structure Sub (vs : List Nat) (σ : L2.St) (ηf : Nv) (σ' : L2.St) (η' : Nv) : Prop where
  f : ∀ (j : Nat) (xs' : OL), η'[j]? = some (.own xs') → ∃ xs : OL, ηf[j]? = some (.own xs) ∧ xs.b = xs'.b ∧ σ'[j]? = σ[j]? ∧ j ∉ vs
  d : ∀ (j : Nat) (ks : Dks), η'[j]? = some (.dk ks) → ηf[j]? = some (.dk ks) ∧ σ'[j]? = σ[j]? ∧ j ∉ vs
instance {vs : List Nat} {σ : L2.St} {ηf : Nv} {σ' : L2.St} {η' : Nv} : CoeFun (Sub vs σ ηf σ' η') (fun _ => ∀ (j : Nat) (xs' : OL), η'[j]? = some (.own xs') → ∃ xs : OL, ηf[j]? = some (.own xs) ∧ xs.b = xs'.b ∧ σ'[j]? = σ[j]? ∧ j ∉ vs) := ⟨Sub.f⟩
section
variable {K : PySem.W.Frag} {H H' H1 H2 : Hp} {A : List Addr} {σ σ' : L2.St} {η η' ηf ηp : Nv} {vs : List Nat} {M : Addr}
theorem Sub.kin (s : Sub vs σ ηf σ' η') (k : Kin η' η) : Sub vs σ ηf σ' η := ⟨fun j xs e => by
  obtain ⟨ys, e1, b1⟩ := k.2 j xs e
  obtain ⟨zs, e2, b2, r⟩ := s j ys e1
  exact ⟨zs, e2, b2.trans b1, r⟩, fun j ks e => s.d j ks (k.1.2 j ks e)⟩
theorem Sub.wp (s : Sub vs σ ηf σ' η') (hw : L2.wipe σ' vs = L2.wipe σ vs) : Sub vs σ ηf (L2.wipe σ vs) (wipeE η' vs) := ⟨fun j xs e => by
  rw [wipeE_get] at e
  split at e
  · cases q : η'[j]? <;> (rw [q] at e; cases e)
  · rename_i hj
    obtain ⟨zs, e2, b2, e3, _⟩ := s j xs e
    exact ⟨zs, e2, b2, by rw [wipe_get, if_neg hj], hj⟩, fun j ks e => by
  rw [wipeE_get] at e
  split at e
  · cases q : η'[j]? <;> (rw [q] at e; cases e)
  · rename_i hj
    obtain ⟨e2, e3, _⟩ := s.d j ks e
    exact ⟨e2, by rw [wipe_get, if_neg hj], hj⟩⟩
theorem Sub.start : Sub vs σ ηf (L2.wipe σ vs) (wipeE ηf vs) := ⟨fun j xs e => by
  rw [wipeE_get] at e
  split at e
  · cases q : ηf[j]? <;> (rw [q] at e; cases e)
  · rename_i hj
    exact ⟨xs, e, rfl, by rw [wipe_get, if_neg hj], hj⟩, fun j ks e => by
  rw [wipeE_get] at e
  split at e
  · cases q : ηf[j]? <;> (rw [q] at e; cases e)
  · rename_i hj
    exact ⟨e, by rw [wipe_get, if_neg hj], hj⟩⟩
theorem Sub.mv (s : Sub vs σ ηf σ' η') (m : Mv σ' η' H H') : Mv σ ηf H H' := fun a o e n => m a o e fun i xs e1 e2 => by
  obtain ⟨ys, e3, _, e4, _⟩ := s i xs e1
  exact n i ys e3 (e4.symm.trans e2)
theorem EnvD.back {A2 : List Addr} (E2 : EnvD K H2 A2 (L2.wipe σ vs) (wipeE ηp vs)) (s : Sub vs σ ηf (L2.wipe σ vs) (wipeE ηp vs)) : EnvD K H2 A2 σ (wipeE ηp vs) where
  len := by rw [← E2.len, wipe_length]
  at_ := fun j sl e => by
    obtain ⟨o, e1, q⟩ := E2.at_ j sl e
    rw [wipe_get] at e1
    by_cases hj : j ∈ vs
    · rw [if_pos hj] at e1
      rw [wipeE_get, if_pos hj] at e
      cases qe : ηp[j]? with
      | none => rw [qe] at e; cases e
      | some s0 =>
        rw [qe] at e
        cases e
        cases qs : σ[j]? with
        | none => rw [qs] at e1; cases e1
        | some o1 => exact ⟨o1, rfl, by cases o1 <;> trivial⟩
    · rw [if_neg hj] at e1
      exact ⟨o, e1, q⟩
  ap := fun i j a xs ys h1 h2 h3 h4 => by
    obtain ⟨_, _, _, e1, _⟩ := s i xs h1
    obtain ⟨_, _, _, e2, _⟩ := s j ys h2
    exact E2.ap i j a xs ys h1 h2 (e1.trans h3) (e2.trans h4)
  tr := E2.tr
end
section
variable {X : Cx} {e tg iter elt : Expr} {pos : Pos}
variable {ifs : List Expr} {scope : Scope} {own : List (Str × Nat)} {Fi : Nv → R (List D × Nv)} {T : Tgt} {js : List Nat} {C : Nv → R (Bool × Nv)} {El : Nv → R (D × Nv)}
end
end Bd
/-! D14: more statements that change lists. -/
namespace Bd
open PySem L2

section
variable {K : PySem.W.Frag} {M : List Addr} {H0 : Hp} {A0 : List Addr} {H H1 : Hp} {B : List Addr} {σ : L2.St} {η η1 : Nv} {i : Nat} {l : Addr} {vs : List V} {xs : List D}
theorem EnvS.more (e : EnvS K M H0 A0 H B σ η) (E1 : EnvD K H1 (l :: (B ++ A0)) σ η1) (k : Kin η η1) (m : Mv σ η H H1) (hl : H l = none) : EnvS K M H0 A0 H1 (l :: B) σ η1 := by
  have z := e.mv (E1.shrink e.env k) k m
  refine ⟨E1, z.same, z.mA, fun b mb => ?_, fun j a ys h1 h2 => ?_, fun j a ks h1 h2 => ⟨List.mem_cons_of_mem _ (z.dk j a ks h1 h2).1, (z.dk j a ks h1 h2).2⟩⟩
  · rcases List.mem_cons.mp mb with rfl | mb
    · exact e.free hl
    · exact e.new b mb
  · have q := z.own j a ys h1 h2
    cases hb : ys.b with
    | true =>
      rw [hb] at q
      exact List.mem_cons_of_mem _ q
    | false =>
      rw [hb] at q
      exact q
end
section
variable {X : Cx} {f : Fx} {rl : Rl} {e c tg iter elt : Expr} {es : List Expr} {F : Nv → R (D × Nv)} {G : Nv → R (Bool × Nv)} {Gs Gt : Nv → Rs} {pos : Pos}
variable {ifs : List Expr} {scope : Scope} {own : List (Str × Nat)} {Fi : Nv → R (List D × Nv)} {T : Tgt} {js : List Nat} {C : Nv → R (Bool × Nv)} {El : Nv → R (D × Nv)}
/-- name.append(e) -/
def appX (i : Nat) (p : D × Nv) : Rs := match p.2[i]? with
  | some (.own xs) => if xs.l.length < lineN then .nx (p.2.set i (.own ⟨xs.b, xs.l ++ [p.1]⟩)) else .no
  | _ => .no
def xApp (i : Nat) (F : Nv → R (D × Nv)) : Nv → Rs := fun η => match η[i]? with
  | some (.own _) => (only (F η)).toS (appX i)
  | _ => .no
/-- name[k] = e -/
def putAt (i : Nat) (y : D) (η : Nv) (k : D) : Rs := match η[i]?, k with
  | some (.own xs), .int j => match ixN xs.l.length j with
    | some m => .nx (η.set i (.own ⟨xs.b, xs.l.set m y⟩))
    | none => .no
  | _, _ => .no
def xPutS (i : Nat) (F : Nv → R (D × Nv)) (Fi : Nv → R D) : Nv → Rs := fun η => (only (F η)).toS fun p => match p.2[i]? with
  | some (.own _) => (only (Fi p.2)).toS (putAt i p.1 p.2)
  | _ => .no
/-- for .. in a walk that changes lists ahead -/
def xFor (Fi : Nv → R (List D × Nv)) (T : Tgt) (Gb : Nv → Rs) : Nv → Rs := fun η => (only (Fi η)).toS fun p => loopG T Gb p.1 p.2
end
end Bd
/-! D15: built-ins and defs called with what changes lists; a list given up to data. -/
namespace Bd
open PySem L2

section
variable {X : Cx} {e : Expr} {es : List Expr} {Fs : Nv → R (List D × Nv)} {p pos : Pos}
/-! defs -/
end
/-! ### a list of one's own, from now on data -/
def frzS (i : Nat) : Nv → Rs := fun η => match η[i]? with
  | some (.own xs) => if xs.b then .nx (η.set i (.d (.list xs.l))) else .no
  | _ => .no
section
variable {X : Cx} {f : Fx} {sts : List Stmt} {Gt : Nv → Rs}
theorem EnvS.frz {K : PySem.W.Frag} {M : List Addr} {H0 : Hp} {A0 : List Addr} {H : Hp} {B : List Addr} {σ : L2.St} {η : Nv} {i : Nat} {xs : OL} {a : Addr} (e : EnvS K M H0 A0 H B σ η) (hi : η[i]? = some (.own xs)) (ho : σ[i]? = some (some (.ref a))) (hb : xs.b = true) :
    EnvS K M H0 A0 H (B.filter (· ≠ a)) σ (η.set i (.d (.list xs.l))) ∧ Same (hid (B ++ A0) H) (hid (B.filter (· ≠ a) ++ A0) H) := by
  have hB := e.own i a xs hi ho
  rw [if_pos hb] at hB
  have sub : ∀ b ∈ B.filter (· ≠ a) ++ A0, b ∈ B ++ A0 := fun b m => by
    rcases List.mem_append.mp m with m | m
    · exact List.mem_append_left _ (List.mem_filter.mp m).1
    · exact List.mem_append_right _ m
  have sh : Same (hid (B ++ A0) H) (hid (B.filter (· ≠ a) ++ A0) H) := hid_mono sub
  have nA : a ∉ B.filter (· ≠ a) ++ A0 := fun m => by
    rcases List.mem_append.mp m with m | m
    · have := (List.mem_filter.mp m).2
      simp at this
    · exact e.mA.2 a m (e.new a hB)
  have hl : i < η.length := (List.getElem?_eq_some_iff.mp hi).1
  have what : ∀ (j : Nat) (sl : Sl), (η.set i (.d (.list xs.l)))[j]? = some sl → (j = i ∧ sl = .d (.list xs.l)) ∨ (j ≠ i ∧ η[j]? = some sl) := fun j sl h => by
    by_cases hj : j = i
    · subst hj
      rw [List.getElem?_set_self hl] at h
      exact .inl ⟨rfl, (Option.some.inj h).symm⟩
    · rw [List.getElem?_set_ne fun z => hj z.symm] at h
      exact .inr ⟨hj, h⟩
  obtain ⟨_, vs, ev, qv⟩ := own_in e.env hi ho
  have keep : ∀ (j : Nat) (b : Addr) (ys : OL), j ≠ i → η[j]? = some (.own ys) → σ[j]? = some (some (.ref b)) → b ≠ a := fun j b ys n h1 h2 z => n (e.env.ap j i a ys xs h1 hi (by rw [← z]; exact h2) ho)
  refine ⟨⟨⟨by rw [List.length_set, e.env.len], fun j sl h => ?_, fun j k b ys zs h1 h2 h3 h4 => ?_, fun b m => e.env.tr b (sub b m)⟩, e.same, e.mA, fun b m => e.new b (List.mem_filter.mp m).1, fun j b ys h1 h2 => ?_, fun j b ks h1 h2 => ?_⟩, sh⟩
  · rcases what j sl h with ⟨ej, es⟩ | ⟨n, h⟩
    · subst ej es
      exact ⟨_, ho, .lst (SqL.of (by rw [hid_out nA]; exact ev)) (DpAll_mono qv sh)⟩
    · obtain ⟨o, e1, q⟩ := e.env.at_ j sl h
      refine ⟨o, e1, ?_⟩
      cases sl with
      | no => cases o <;> trivial
      | d x =>
        cases o with
        | none => exact q
        | some v => exact Dp_mono (show Dp K (hid (B ++ A0) H) v x from q) sh
      | own zs =>
        match o, q, e1 with
        | some (.ref b), ⟨m, ws, e2, q⟩, e1 =>
          have nb := keep j b zs n h e1
          refine ⟨?_, ws, e2, DpAll_mono q sh⟩
          rcases List.mem_append.mp m with m | m
          · exact List.mem_append_left _ (List.mem_filter.mpr ⟨m, by simp [nb]⟩)
          · exact List.mem_append_right _ m
      | m x => exact q.m' sh
      | x c w p => exact q.x' sh
      | dk ks =>
        match o, q, e1 with
        | some (.ref b), ⟨m, q⟩, e1 =>
          have nb : b ≠ a := fun z => by
            subst z
            obtain ⟨_, e2, so, _⟩ := q
            rw [ev] at e2
            cases e2
            exact notDo so
          refine ⟨?_, q.keep sh fun _ _ e => e⟩
          rcases List.mem_append.mp m with m | m
          · exact List.mem_append_left _ (List.mem_filter.mpr ⟨m, by simp [nb]⟩)
          · exact List.mem_append_right _ m
  · rcases what j _ h1 with ⟨_, z⟩ | ⟨n, g1⟩
    · cases z
    · rcases what k _ h2 with ⟨_, z⟩ | ⟨n2, g2⟩
      · cases z
      · exact e.env.ap j k b ys zs g1 g2 h3 h4
  · rcases what j _ h1 with ⟨_, z⟩ | ⟨n, g1⟩
    · cases z
    · have q := e.own j b ys g1 h2
      cases hy : ys.b with
      | true =>
        rw [hy, if_pos rfl] at q
        rw [if_pos rfl]
        exact List.mem_filter.mpr ⟨q, by simp [keep j b ys n g1 h2]⟩
      | false =>
        rw [hy] at q
        exact q
  · rcases what j _ h1 with ⟨_, z⟩ | ⟨n, g1⟩
    · cases z
    · have nb : b ≠ a := fun z => by
        subst z
        obtain ⟨o, e1, q⟩ := e.env.at_ j _ g1
        rw [h2] at e1
        cases e1
        obtain ⟨_, u, e2, so, _⟩ := q
        rw [ev] at e2
        cases e2
        exact notDo so
      exact ⟨List.mem_filter.mpr ⟨(e.dk j b ks g1 h2).1, by simp [nb]⟩, fun k ks' p1 p2 => by
        rcases what k _ p1 with ⟨_, z⟩ | ⟨_, p1⟩
        · cases z
        · exact (e.dk j b ks g1 h2).2 k ks' p1 p2⟩
theorem ss_frz (i : Nat) (h : TSs X f sts Gt) : TSs X f sts (seqS (frzS i) Gt) := pssW h fun E σ H ⟨η, B, e, p0⟩ => by
  have p : PostS X.K X.mg f.W f.rl f.M f.H0 f.A0 H B ((frzS i η).bind Gt) E := p0
  unfold frzS at p
  split at p
  case h_2 => exact False.elim p
  rename_i xs hx
  split at p
  case isFalse => exact False.elim p
  rename_i hb
  obtain ⟨a, ea, _⟩ := own_ref e.env hx
  obtain ⟨e2, sh⟩ := e.frz hx ea hb
  exact ⟨_, _, e2, PostS.keep sh p⟩
end
end Bd
/-! D16: methods of lists: index, count; pop and insert on a list that is changed; sum; a new list as data. -/
namespace Bd
open PySem L2

section
variable {X : Cx} {W : WX} {o e : Expr} {Fo Fe : Nv → R D} {apos cpos pos p : Pos}
def m2 (f : List D → D → Option D) (Fo Fe : Nv → R D) : Nv → R D := fun η => (Fo η).bind fun a => match a with
  | .list ds => (Fe η).bind fun y => .of (f ds y)
  | _ => .no
/-- a list's method of one argument that changes nothing -/
theorem t_meth {id name : String} {r : V → List V → Hp → VK → Prop} {f : List D → D → Option D} (slot : Slot "list" name id) (hty : typeOf (.builtin id) = pure (.type "method_descriptor")) (hm : MtR X id r)
    (hr : ∀ (H : Hp) (A : List Addr) (l : Addr) (vs : List V) (ds : List D) (y : V) (b d : D) (Q : VK), (∀ q ∈ A, H q ≠ none) → SqL X.K H l vs → DpAll X.K (hid A H) vs ds → rO X.K H H A y b → f ds b = some d → (∀ v H', Same H H' → rD X.K H H' A v d → Q v H') → r (.ref l) [y] H Q)
    (ho : TO X W o Fo) (he : TO X W e Fe)
    (hbase : attributeBase o name X.env (eval o X.env) = eval o X.env := by rfl)
    (hfew : ((backTo cpos (starEach [e] X.env)).all (fun x => !x.1) && (backToKw cpos (keywordEach [] X.env)).all (fun x => x.1.isSome) && decide ([e].length + ([] : List Keyword).length + (if ([] : List Keyword).isEmpty then 0 else 1) < 30)) = true := by rfl)
    (hline : (apos.endLine == cpos.line) = true := by rfl) (hs : starEach [e] X.env = (false, eval e X.env) :: starEach [] X.env := by rfl) (hplain : (backTo cpos (starEach [] X.env)).any (·.1) = false := by rfl) :
    TD X W (.Call (.Attribute o name apos) [e] [] cpos) (m2 f Fo Fe) := peW (pe_bm PySem.F.plainAttrs_list slot hty hm ho (pa_cons he pa_nil hs) hbase hfew hline hs hplain) fun σ H Q ⟨η, A, E, p0⟩ => by
  have p : Post X.K X.mg W (rD X.K) σ A H (m2 f Fo Fe η) Q := p0
  unfold m2 at p
  refine (show tR X.K X.mg W (rO X.K) Fo σ H _ from ⟨η, A, E, ?_⟩)
  cases e1 : Fo η with
  | ex c w q => rw [e1] at p; exact p
  | no => rw [e1] at p; exact p
  | ok a =>
    rw [e1] at p
    cases a <;> first | exact False.elim p | skip
    rename_i ds
    have p : Post X.K X.mg W (rD X.K) σ A H ((Fe η).bind fun y => .of (f ds y)) Q := p
    intro x H1 s1 q1
    obtain ⟨l, vs, rfl, h1, qv⟩ := rO_list q1
    refine ⟨.inl ⟨rfl, vs, h1⟩, ?_⟩
    refine (show tR X.K X.mg W (rO X.K) Fe σ H1 _ from ⟨η, A, E.same s1, ?_⟩)
    cases e2 : Fe η with
    | ex c w q =>
      rw [e2] at p
      exact fun cls dd H' s q' => p cls dd H' (s1.trans s) q'
    | no => rw [e2] at p; exact p
    | ok y =>
      rw [e2] at p
      have p : Post X.K X.mg W (rD X.K) σ A H (.of (f ds y)) Q := p
      intro w H2 s2 q2
      cases e3 : f ds y with
      | none => rw [e3] at p; exact False.elim p
      | some d =>
        rw [e3] at p
        exact hr H2 A l vs ds w y d Q (E.same (s1.trans s2)).tr (s2.seq h1) (DpAll_mono qv (hid_same s2)) (rO_same (Same.refl _) q2) e3 fun v H' s q => p v H' ((s1.trans s2).trans s) q
/-! index, count -/
def countV (ds : List D) (d : D) : Option D := match ints? ds, d with
  | some ns, .int k => some (.int (ns.count k : Nat))
  | _, _ => none
theorem t_count (ho : TO X W o Fo) (he : TO X W e Fe)
    (hbase : attributeBase o "count" X.env (eval o X.env) = eval o X.env := by rfl)
    (hfew : ((backTo cpos (starEach [e] X.env)).all (fun x => !x.1) && (backToKw cpos (keywordEach [] X.env)).all (fun x => x.1.isSome) && decide ([e].length + ([] : List Keyword).length + (if ([] : List Keyword).isEmpty then 0 else 1) < 30)) = true := by rfl)
    (hline : (apos.endLine == cpos.line) = true := by rfl) (hs : starEach [e] X.env = (false, eval e X.env) :: starEach [] X.env := by rfl) (hplain : (backTo cpos (starEach [] X.env)).any (·.1) = false := by rfl) :
    TD X W (.Call (.Attribute o "count" apos) [e] [] cpos) (m2 countV Fo Fe) :=
  t_meth PySem.F.slot_list_count PySem.F.type_list_count mt_lcount (fun H A l vs ds y b d Q hA h1 qv qb hf k => by
    unfold countV at hf
    split at hf
    · rename_i ns k0 e2
      cases hf
      refine ⟨l, ns, k0, rfl, by rw [rO_int qb], ?_, k _ H (Same.refl _) (.int _)⟩
      rw [← (ints_of qv e2).1]
      exact h1
    · cases hf) ho he hbase hfew hline hs hplain
/-! sum -/
end
/-! ### a def's new list, taken as data -/
/-! ### pop and insert on a list that is changed -/
section
variable {X : Cx} {f : Fx} {e a b : Expr} {F Fa Fb : Nv → R (D × Nv)} {apos cpos epos px : Pos}
def popAt (i : Nat) (p : D × Nv) : R (D × Nv) := match p.2[i]?, p.1 with
  | some (.own xs), .int j => if -(2 ^ 63) ≤ j ∧ j < 2 ^ 63 then (match seqIndex? j xs.l.length with
    | some m => (match xs.l[m]? with
      | some y => .ok (y, p.2.set i (.own ⟨xs.b, xs.l.eraseIdx m⟩))
      | none => .no)
    | none => .no) else .no
  | _, _ => .no
def xPop (i : Nat) (F : Nv → R (D × Nv)) : Nv → R (D × Nv) := fun η => match η[i]? with
  | some (.own _) => (F η).bind (popAt i)
  | _ => .no
theorem put_keep {K : PySem.W.Frag} {H : Hp} {A : List Addr} {σ : L2.St} {η : Nv} {i : Nat} {xs : OL} {c : Addr} {ws : List V} {ys : List D} (E : EnvD K H A σ η) (hi : η[i]? = some (.own xs)) (ho : σ[i]? = some (some (.ref c))) (q : DpAll K (hid A H) ws ys) :
    EnvD K (upd H c (.lst ws)) A σ (η.set i (.own ⟨xs.b, ys⟩)) ∧ Mv σ η H (upd H c (.lst ws)) ∧ hid A (upd H c (.lst ws)) = hid A H := by
  have mA := (own_in E hi ho).1
  have eh : hid A (upd H c (.lst ws)) = hid A H := hid_upd mA
  have kp : ∀ z o, z ≠ c → H z = some o → upd H c (.lst ws) z = some o := fun z o nz w => by rw [upd_ne nz]; exact w
  refine ⟨E.put hi ho kp (fun z mz => ?_) upd_same (by rw [eh]; exact q), fun z o w nn => kp z o (fun y => nn i xs hi (by rw [y]; exact ho)) w, eh⟩
  by_cases hz : z = c
  · rw [hz, upd_same]
    exact fun w => nomatch w
  · rw [upd_ne hz]
    exact E.tr z mz
end
end Bd
/-! D17: data sorted; data compared. -/
namespace Bd
open PySem L2

section
variable {X : Cx}
/-- sorted of alike data -/
def rSortD (K : PySem.W.Frag) : List V → Hp → VK → Prop := fun vs H Q => ∃ (a : Addr) (zs : List (V × D)), vs = [.ref a] ∧ SqL K H a (zs.map (·.1)) ∧ (∀ z ∈ zs, Dp K H z.1 z.2) ∧ PySem.W.AllAlike (zs.map (·.2)) ∧ PySem.W.Sortable (zs.map (·.2)) ∧ (∀ z ∈ zs, z.2.depth ≤ 60) ∧
  ∀ p, H p = none → Q (.ref p) (upd H p (.lst ((zs.mergeSort (PySem.W.dataLe false fun z : V × D => z.2)).map (·.1))))
theorem each_of {zs0 : List (V × D)} {R : Value → V × D → Prop} (h : ∀ (u : Value) (z : V × D), RelV z.1 u → z ∈ zs0 → R u z) : ∀ (zs : List (V × D)) (us : List Value), (∀ z ∈ zs, z ∈ zs0) → Vals (zs.map (·.1)) us → PySem.W.EachIs R us zs
  | [], us, _, r => by
    cases r
    exact .nil
  | z :: zs, us, hz, r => by
    cases r with
    | cons a t => exact .cons (h _ z a (hz z List.mem_cons_self)) (each_of h zs _ (fun y m => hz y (List.mem_cons_of_mem _ m)) t)
theorem vals_each {R : Value → V × D → Prop} (h : ∀ u z, R u z → RelV z.1 u) : ∀ {us : List Value} {zs : List (V × D)}, PySem.W.EachIs R us zs → Vals (zs.map (·.1)) us
  | _, _, .nil => .nil
  | _, _, .cons a t => .cons (h _ _ a) (vals_each h t)
theorem cr_sortD (hu : X.A.units + 64 < cLine) : CallR X (.builtin "sorted") (rSortD X.K) := by
  intro pins s σ H vs us Q I r h
  obtain ⟨a, zs, rfl, hs, hd, hal, hso, hdp, q⟩ := h
  obtain ⟨its, rv, hl, hz⟩ := I.list hs
  obtain ⟨u, rfl, ru⟩ := vals1 r
  obtain rfl : u = Value.ref a := ru
  have e0 := each_of (zs0 := zs) (R := fun u z => RelV z.1 u ∧ ∃ as, Reads s.heap u z.2 as) (fun u z rz m => ⟨rz, Dp.reads I z.2 z.1 u (hd z m) rz⟩) zs its (fun z m => m) rv
  refine PySem.W.sorted_data (enc := fun z : V × D => z.2) (R := fun u z => RelV z.1 u) hl.isList (e0.mono fun _ _ h => h.1) (e0.mono fun _ _ h => h.2) hal hso (by
      have := rv.length
      rw [List.length_map] at this
      rw [List.length_map] at hz
      exact hz) (fun z m => by
      have := hdp z m
      omega) fun out hlen ho => ?_
  obtain ⟨c, hc⟩ := PyProof.Rows.sortedAll_at s.heap its out.toArray
  have kp : ∀ b o, s.heap.get? b = some o → (PyProof.Rows.sortedAll s.heap its out.toArray).get? b = some o := fun b o => PyProof.Rows.sortedAll_old
  have hd' : s.heap.objs.size ≤ s.heap.objs.size + 1 := Nat.le_succ _
  have vo := vals_each (fun _ _ h => h) ho
  refine ⟨.ref (s.heap.objs.size + 1), upd H (s.heap.objs.size + 1) (.lst ((zs.mergeSort (PySem.W.dataLe false fun z : V × D => z.2)).map (·.1))), I.laid (t' := s.toks) kp hd' ⟨?_, out, c, vo, hc⟩, rfl, q _ (I.hok.fresh hd')⟩
  have := vo.length
  rw [List.length_map] at hz ⊢
  rw [List.length_mergeSort]
  exact hz
/-- data that a sort takes -/
def alikeB (ds : List D) : Bool := ds.all fun d => ds.all fun e => PySem.W.alike d e
def tupB : D → Bool
  | .tuple (_ :: _) => true
  | _ => false
def othB : D → Bool
  | .none => false
  | .tuple _ => false
  | _ => true
def sortB (ds : List D) : Bool := alikeB ds && (ds.all tupB || ds.all othB) && ds.all fun d => decide (d.depth ≤ 60)
theorem sortB_alike {ds : List D} (h : sortB ds = true) : PySem.W.AllAlike ds := fun d hd e he => by
  unfold sortB alikeB at h
  simp only [Bool.and_eq_true, List.all_eq_true] at h
  exact h.1.1 d hd e he
theorem sortB_able {ds : List D} (h : sortB ds = true) : PySem.W.Sortable ds := by
  unfold sortB at h
  simp only [Bool.and_eq_true, Bool.or_eq_true, List.all_eq_true] at h
  rcases h.1.2 with h | h
  · refine .inl fun d hd => ?_
    have := h d hd
    unfold tupB at this
    split at this
    · exact ⟨_, _, rfl⟩
    · cases this
  · refine .inr fun d hd => ?_
    have := h d hd
    unfold othB at this
    split at this
    · cases this
    · cases this
    · rename_i n1 n2
      exact ⟨fun z => n1 z, fun xs z => n2 xs z⟩
theorem sortB_dp {ds : List D} (h : sortB ds = true) : ∀ d ∈ ds, d.depth ≤ 60 := fun d hd => by
  unfold sortB at h
  simp only [Bool.and_eq_true, List.all_eq_true, decide_eq_true_eq] at h
  exact h.2 d hd
def sortD (ds : List D) : List D := ds.mergeSort (PySem.W.dataLe false id)
def sortDV : List D → Option D
  | [.list xs] => if sortB xs then some (.list (sortD xs)) else none
  | _ => none
theorem zip_fst : ∀ {vs : List V} {ds : List D} {K : PySem.W.Frag} {H : Hp}, DpAll K H vs ds → (vs.zip ds).map (·.1) = vs ∧ (vs.zip ds).map (·.2) = ds ∧ ∀ z ∈ vs.zip ds, Dp K H z.1 z.2
  | _, _, _, _, .nil => ⟨rfl, rfl, fun z m => absurd m List.not_mem_nil⟩
  | _, _, _, _, .cons h t => by
    obtain ⟨h1, h2, h3⟩ := zip_fst t
    refine ⟨by rw [List.zip_cons_cons, List.map_cons, h1], by rw [List.zip_cons_cons, List.map_cons, h2], fun z m => ?_⟩
    rcases List.mem_cons.mp m with rfl | m
    · exact h
    · exact h3 z m
theorem dpAll_zip {K : PySem.W.Frag} {H : Hp} : ∀ {zs : List (V × D)}, (∀ z ∈ zs, Dp K H z.1 z.2) → DpAll K H (zs.map (·.1)) (zs.map (·.2))
  | [], _ => .nil
  | z :: zs, h => .cons (h z List.mem_cons_self) (dpAll_zip fun y m => h y (List.mem_cons_of_mem _ m))
theorem sort_snd (zs : List (V × D)) : (zs.mergeSort (PySem.W.dataLe false fun z : V × D => z.2)).map (·.2) = sortD (zs.map (·.2)) := by
  unfold sortD
  exact List.map_mergeSort fun a _ b _ => rfl
theorem o_sortD : OpN X (rF X.K) (rSortD X.K) sortDV := fun H A vs ds d Q hA h e k => by
  unfold sortDV at e
  split at e
  · split at e
    · rename_i xs hb
      have e := Option.some.inj e
      subst e
      obtain ⟨v, rfl, q⟩ := all1 h
      obtain ⟨l, ws, rfl, h1, q1⟩ := rO_list q
      obtain ⟨z1, z2, z3⟩ := zip_fst q1
      refine ⟨l, ws.zip xs, rfl, by rw [z1]; exact h1, fun z m => Dp_mono (z3 z m) (hid_le A H), by rw [z2]; exact sortB_alike hb, by rw [z2]; exact sortB_able hb, fun z m => sortB_dp hb z.2 (by rw [← z2]; exact List.mem_map.mpr ⟨z, m, rfl⟩), fun p hp => ?_⟩
      refine k _ _ (same_new hp) (dp_new_list hA hp ?_)
      have y := dpAll_zip (K := X.K) (H := hid A H) (zs := (ws.zip xs).mergeSort (PySem.W.dataLe false fun z : V × D => z.2)) fun z m => z3 z (List.mem_mergeSort.mp m)
      rw [sort_snd, z2] at y
      exact y
    · cases e
  · cases e
/-! comparisons of alike data -/
def rCmpD (K : PySem.W.Frag) (f : D → D → Bool) : R2 := fun x y H Q => ∃ a b, Dp K H x a ∧ Dp K H y b ∧ PySem.W.alike a b = true ∧ a ≠ .none ∧ a.depth ≤ 60 ∧ Q (.bl (f a b)) H
def ltD (a b : D) : Bool := PySem.W.dataLt a b
def gtD (a b : D) : Bool := PySem.W.dataLt b a
def leD (a b : D) : Bool := !PySem.W.dataLt b a
def geD (a b : D) : Bool := !PySem.W.dataLt a b
theorem op_ltD (hu : X.A.units + 64 < cLine) : OpR X (compareOp .Lt) (rCmpD X.K ltD) := fun pins s σ H x y v u Q I rx ry ⟨a, b, ha, hb, al, nn, dp, q⟩ => by
  obtain ⟨as, r1⟩ := Dp.reads I a x v ha rx
  obtain ⟨bs, r2⟩ := Dp.reads I b y u hb ry
  exact PySem.W.lt_data r1 r2 al nn (by have := Nat.min_le_left a.depth b.depth; omega) ⟨.bl _, H, I, rfl, q⟩
theorem op_leD (hu : X.A.units + 64 < cLine) : OpR X (compareOp .LtE) (rCmpD X.K leD) := fun pins s σ H x y v u Q I rx ry ⟨a, b, ha, hb, al, nn, dp, q⟩ => by
  obtain ⟨as, r1⟩ := Dp.reads I a x v ha rx
  obtain ⟨bs, r2⟩ := Dp.reads I b y u hb ry
  exact PySem.W.le_data r1 r2 al nn (by have := Nat.min_le_left a.depth b.depth; omega) ⟨.bl _, H, I, rfl, q⟩
theorem op_geD (hu : X.A.units + 64 < cLine) : OpR X (compareOp .GtE) (rCmpD X.K geD) := fun pins s σ H x y v u Q I rx ry ⟨a, b, ha, hb, al, nn, dp, q⟩ => by
  obtain ⟨as, r1⟩ := Dp.reads I a x v ha rx
  obtain ⟨bs, r2⟩ := Dp.reads I b y u hb ry
  exact PySem.W.ge_data r1 r2 al nn (by have := Nat.min_le_left a.depth b.depth; omega) ⟨.bl _, H, I, rfl, q⟩
def someB : D → Bool
  | .none => false
  | _ => true
theorem someB_ne {a : D} (h : someB a = true) : a ≠ .none := fun e => by
  subst e
  cases h
def cmpV (f : D → D → Bool) (a b : D) : Option D := if PySem.W.alike a b = true ∧ someB a = true ∧ a.depth ≤ 60 then some (.bool (f a b)) else none
theorem o_cmpD {f : D → D → Bool} : Op2 X rB (rCmpD X.K f) (cmpV f) := fun H A x y a b d Q hA ha hb e k => by
  unfold cmpV at e
  split at e
  · rename_i h
    have e := Option.some.inj e
    subst e
    exact ⟨a, b, rO_dp ha, rO_dp hb, h.1, someB_ne h.2.1, h.2.2, k _ H (Same.refl _) ⟨_, rfl, rfl⟩⟩
  · cases e
/-! ints first, else data -/
def rOr2 (r r' : R2) : R2 := fun x y H Q => r x y H Q ∨ r' x y H Q
theorem op_or {c : CmpOp} {r r' : R2} (h : OpR X (compareOp c) r) (h' : OpR X (compareOp c) r') : OpR X (compareOp c) (rOr2 r r') := fun pins s σ H x y v u Q I rx ry z => z.elim (h pins s σ H x y v u Q I rx ry) (h' pins s σ H x y v u Q I rx ry)
def orV2 (f g : D → D → Option D) (a b : D) : Option D := match f a b with
  | some d => some d
  | none => g a b
theorem o_or {r r' : R2} {f g : D → D → Option D} (h : Op2 X rB r f) (h' : Op2 X rB r' g) : Op2 X rB (rOr2 r r') (orV2 f g) := fun H A x y a b d Q hA ha hb e k => by
  unfold orV2 at e
  split at e
  · rename_i d0 e0
    have e := Option.some.inj e
    subst e
    exact .inl (h H A x y a b _ Q hA ha hb e0 k)
  · exact .inr (h' H A x y a b d Q hA ha hb e k)
def ltA := orV2 ltV (cmpV ltD)
def leA := orV2 leV (cmpV leD)
def gtA := orV2 gtV (cmpV gtD)
def geA := orV2 geV (cmpV geD)
variable {W : WX} {a b e : Expr} {Fa Fb : Nv → R D} {pos p : Pos}
theorem op_ltA (hu : X.A.units + 64 < cLine) : OpR X (compareOp .Lt) (rOr2 (rI0 fun i j => .bl (decide (i < j))) (rCmpD X.K ltD)) := op_or op_lt (op_ltD hu)
theorem op_leA (hu : X.A.units + 64 < cLine) : OpR X (compareOp .LtE) (rOr2 (rI0 fun i j => .bl (decide (i ≤ j))) (rCmpD X.K leD)) := op_or op_le (op_leD hu)
theorem op_geA (hu : X.A.units + 64 < cLine) : OpR X (compareOp .GtE) (rOr2 (rI0 fun i j => .bl (decide (j ≤ i))) (rCmpD X.K geD)) := op_or op_ge (op_geD hu)
theorem o_ltA : Op2 X rB (rOr2 (rI0 fun i j => .bl (decide (i < j))) (rCmpD X.K ltD)) ltA := o_or o_cmpI o_cmpD
theorem o_leA : Op2 X rB (rOr2 (rI0 fun i j => .bl (decide (i ≤ j))) (rCmpD X.K leD)) leA := o_or o_cmpI o_cmpD
theorem o_geA : Op2 X rB (rOr2 (rI0 fun i j => .bl (decide (j ≤ i))) (rCmpD X.K geD)) geA := o_or o_cmpI o_cmpD
theorem b_ltA (hu : X.A.units + 64 < cLine) (ha : TO X W a Fa) (hb : TO X W b Fb) : TB X W (.Compare a [.Lt] [b] pos) (tb (e2 ltA Fa Fb)) := b_cmp (op_ltA hu) o_ltA ha hb (nomark _)
theorem b_leA (hu : X.A.units + 64 < cLine) (ha : TO X W a Fa) (hb : TO X W b Fb) : TB X W (.Compare a [.LtE] [b] pos) (tb (e2 leA Fa Fb)) := b_cmp (op_leA hu) o_leA ha hb (nomark _)
theorem b_geA (hu : X.A.units + 64 < cLine) (ha : TO X W a Fa) (hb : TO X W b Fb) : TB X W (.Compare a [.GtE] [b] pos) (tb (e2 geA Fa Fb)) := b_cmp (op_geA hu) o_geA ha hb (nomark _)
/-! sorted: ints first, else data -/
def sortAV (ds : List D) : Option D := match sortIV ds with
  | some d => some d
  | none => sortDV ds
def rSortA (K : PySem.W.Frag) : List V → Hp → VK → Prop := fun vs H Q => rSortedI K vs H Q ∨ rSortD K vs H Q
theorem cr_sortA (hu : X.A.units + 64 < cLine) : CallR X (.builtin "sorted") (rSortA X.K) := fun pins s σ H vs us Q I r h => h.elim (cr_sortedI pins s σ H vs us Q I r) (cr_sortD hu pins s σ H vs us Q I r)
theorem o_sortI : OpN X (rF X.K) (rSortedI X.K) sortIV := fun H A vs ds d Q hA h e k => by
  unfold sortIV at e
  split at e
  · rename_i xs
    cases e2 : ints? xs with
    | none => rw [e2] at e; cases e
    | some bs =>
      rw [e2] at e
      cases e
      obtain ⟨v, rfl, q⟩ := all1 h
      obtain ⟨l, ws, rfl, h1, q1⟩ := rO_list q
      rw [(ints_of q1 e2).1] at h1
      refine ⟨l, bs, rfl, h1, fun ns' t pm so ht => ?_⟩
      have en : ns' = isort bs := sorted_unique (pm.trans (isort_perm bs).symm) so (isort_sorted bs)
      subst en
      exact k _ _ (same_new ht) (dp_new_list hA ht (DpAll_ints _))
  · cases e
theorem o_sortA : OpN X (rF X.K) (rSortA X.K) sortAV := fun H A vs ds d Q hA h e k => by
  unfold sortAV at e
  split at e
  · rename_i d0 e0
    have e := Option.some.inj e
    subst e
    exact .inl (o_sortI H A vs ds _ Q hA h e0 k)
  · exact .inr (o_sortD H A vs ds d Q hA h e k)
theorem t_sortA {Fs : Nv → R (List D)} (hu : X.A.units + 64 < cLine) (hm : X.mg "sorted" = none) (ha : TAs X W (vO X.K) [e] Fs) (hgl : Gl X "sorted" := by rfl) (he : starEach [e] X.env = (false, eval e X.env) :: starEach [] X.env := by rfl) (hpl : (backTo pos (starEach [] X.env)).any (·.1) = false := by rfl) :
    TF X W (.Call (.Name "sorted" p) [e] [] pos) (eN sortAV Fs) := t_callB back_F (cr_sortA hu) o_sortA hgl hm (by decide +kernel) ha (he := he) (hpl := hpl)
theorem sortAV_ints (l : List Int) : sortAV [.list (l.map PyData.int)] = some (.list ((isort l).map PyData.int)) := by
  have h : ∀ r : List Int, ints? (r.map PyData.int) = some r := fun r => by
    induction r with
    | nil => rfl
    | cons x r ih =>
      show (ints? (r.map PyData.int)).map (x :: ·) = _
      rw [ih]
      rfl
  unfold sortAV sortIV
  show (match (ints? (l.map PyData.int)).map fun ns => PyData.list ((isort ns).map PyData.int) with
    | some d => some d
    | none => _) = _
  rw [h]
  rfl
end
end Bd
/-! D18: list and tuple of a range; insert; max and min with changes. -/
namespace Bd
open PySem L2

section
variable {X : Cx} {W : WX} {e a : Expr} {Fa : Nv → R D} {p p2 pos pos2 : Pos}
def rgL (d : D) : R (List D) := match d with
  | .int n => if 0 ≤ n ∧ n ≤ 16777216 then .ok (rangeD 0 n.toNat) else .no
  | _ => .no
def lrgV (F : Nv → R D) : Nv → R D := fun η => (F η).bind fun d => (rgL d).bind fun xs => .ok (.list xs)
/-! max, min -/
end
/-! insert -/
section
variable {X : Cx} {f : Fx} {a b : Expr} {Fa Fb : Nv → R (D × Nv)} {apos cpos epos px : Pos}
def insAt (i : Nat) (p : List D × Nv) : Rs := match p.2[i]?, p.1 with
  | some (.own xs), [.int j, y] => if 0 ≤ j ∧ j < 2 ^ 63 ∧ xs.l.length < lineN then .nx (p.2.set i (.own ⟨xs.b, xs.l.take j.toNat ++ [y] ++ xs.l.drop j.toNat⟩)) else .no
  | _, _ => .no
def xIns (i : Nat) (Fs : Nv → R (List D × Nv)) : Nv → Rs := fun η => match η[i]? with
  | some (.own _) => (only (Fs η)).toS (insAt i)
  | _ => .no
end
end Bd
/-! D19: walks over what changes lists. -/
namespace Bd
open PySem L2

section
variable {X : Cx} {tg iter : Expr} {F : Nv → R (D × Nv)}
end
end Bd
/-! D20: a comprehension over a list of one's own that stays as it is meanwhile. -/
namespace Bd
open PySem L2

section
variable {X : Cx} {e tg iter elt : Expr} {pos : Pos}
end
/-! what leaves the list at i as it is -/
section
variable {i j : Nat} {Fa Fb F : Nv → R (D × Nv)} {Fs : Nv → R (List D × Nv)} {G : Nv → R (Bool × Nv)}
end
section
variable {X : Cx} {tg elt : Expr} {pos px : Pos} {ifs : List Expr} {scope : Scope} {own : List (Str × Nat)} {T : Tgt} {js : List Nat} {C : Nv → R (Bool × Nv)} {El : Nv → R (D × Nv)}
end
end Bd
/-! M0: how the mirrors are reckoned. -/
namespace Bd
open PySem L2

/-! ### names -/
@[simp] theorem gv_zero (x : D) (η : Nv) : gv 0 (.d x :: η) = .ok x := Eq.trans rfl rfl
@[simp] theorem gv_succ (i : Nat) (s : Sl) (η : Nv) : gv (i + 1) (s :: η) = gv i η := Eq.trans rfl rfl
@[simp] theorem go_own (x : OL) (η : Nv) : go 0 (.own x :: η) = .ok (.list x.l) := Eq.trans rfl rfl
@[simp] theorem go_dat (x : D) (η : Nv) : go 0 (.d x :: η) = .ok x := Eq.trans rfl rfl
@[simp] theorem go_succ (i : Nat) (s : Sl) (η : Nv) : go (i + 1) (s :: η) = go i η := Eq.trans rfl rfl
@[simp] theorem k0_def (d : D) (η : Nv) : k0 d η = .ok d := Eq.trans rfl rfl
@[simp] theorem of_some (d : D) : R.of (some d) = .ok d := Eq.trans rfl rfl
@[simp] theorem of_none : R.of none = .no := Eq.trans rfl rfl
@[simp] theorem e2_def (f : D → D → Option D) (Fa Fb : Nv → R D) (η : Nv) : e2 f Fa Fb η = (Fa η).bind fun x => (Fb η).bind fun y => .of (f x y) := Eq.trans rfl rfl
@[simp] theorem e1_def (f : D → Option D) (Fa : Nv → R D) (η : Nv) : e1 f Fa η = (Fa η).bind fun x => .of (f x) := Eq.trans rfl rfl
@[simp] theorem eN_def (f : List D → Option D) (Fs : Nv → R (List D)) (η : Nv) : eN f Fs η = (Fs η).bind fun ds => .of (f ds) := Eq.trans rfl rfl
@[simp] theorem a0_def (η : Nv) : a0 η = .ok [] := Eq.trans rfl rfl
@[simp] theorem aC_def (Fa : Nv → R D) (Fs : Nv → R (List D)) (η : Nv) : aC Fa Fs η = (Fa η).bind fun x => (Fs η).bind fun xs => .ok (x :: xs) := Eq.trans rfl rfl
@[simp] theorem callV_def (Fn : List D → R D) (Fs : Nv → R (List D)) (η : Nv) : callV Fn Fs η = (Fs η).bind fun ds => noex (Fn ds) := Eq.trans rfl rfl
@[simp] theorem noex_ok (d : D) : noex (.ok d) = .ok d := Eq.trans rfl rfl
@[simp] theorem tb_def (F : Nv → R D) (η : Nv) : tb F η = (F η).bind tru := Eq.trans rfl rfl
@[simp] theorem tru_bool (b : Bool) : tru (.bool b) = .ok b := Eq.trans rfl rfl
@[simp] theorem tru_none : tru .none = .ok false := Eq.trans rfl rfl
@[simp] theorem tru_int (i : Int) : tru (.int i) = .ok (i != 0) := Eq.trans rfl rfl
@[simp] theorem tru_list (xs : List D) : tru (.list xs) = .ok !xs.isEmpty := Eq.trans rfl rfl
@[simp] theorem andB_def (Ga Gb : Nv → R Bool) (η : Nv) : andB Ga Gb η = (Ga η).bind fun k => if k then Gb η else .ok false := Eq.trans rfl rfl
@[simp] theorem orB_def (Ga Gb : Nv → R Bool) (η : Nv) : orB Ga Gb η = (Ga η).bind fun k => if k then .ok true else Gb η := Eq.trans rfl rfl
@[simp] theorem notB_def (Ga : Nv → R Bool) (η : Nv) : notB Ga η = (Ga η).bind fun k => .ok !k := Eq.trans rfl rfl
@[simp] theorem andV_def (Fa Fb : Nv → R D) (η : Nv) : andV Fa Fb η = (Fa η).bind fun x => (tru x).bind fun k => if k then Fb η else .ok x := Eq.trans rfl rfl
@[simp] theorem orV_def (Fa Fb : Nv → R D) (η : Nv) : orV Fa Fb η = (Fa η).bind fun x => (tru x).bind fun k => if k then .ok x else Fb η := Eq.trans rfl rfl
@[simp] theorem notV_def (Fa : Nv → R D) (η : Nv) : notV Fa η = (Fa η).bind fun x => (tru x).bind fun k => .ok (.bool !k) := Eq.trans rfl rfl
@[simp] theorem ifV_def (G : Nv → R Bool) (Fa Fb : Nv → R D) (η : Nv) : ifV G Fa Fb η = (G η).bind fun k => if k then Fa η else Fb η := Eq.trans rfl rfl
@[simp] theorem chainV_def (f g : D → D → Option D) (Fa Fb Fc : Nv → R D) (η : Nv) : chainV f g Fa Fb Fc η = (Fa η).bind fun x => (Fb η).bind fun y => (R.of (f x y)).bind fun z => (tru z).bind fun k => if k then (Fc η).bind fun w => .of (g y w) else .ok (.bool false) := Eq.trans rfl rfl
@[simp] theorem tupV_def (Fs : Nv → R (List D)) (η : Nv) : tupV Fs η = (Fs η).bind fun ds => .of (if ds.length ≤ lineN then some (.tuple ds) else none) := Eq.trans rfl rfl
@[simp] theorem lstV_def (Fs : Nv → R (List D)) (η : Nv) : lstV Fs η = (Fs η).bind fun ds => .of (if ds.length ≤ lineN then some (.list ds) else none) := Eq.trans rfl rfl
@[simp] theorem slE_def (sl : Option Int → Option Int → D → Option D) (F : Nv → R D) (Lo Hi : Nv → R (Option Int)) (η : Nv) : slE sl F Lo Hi η = (F η).bind fun x => (Lo η).bind fun l => (Hi η).bind fun h => .of (sl l h x) := Eq.trans rfl rfl
@[simp] theorem p0_def (η : Nv) : p0 η = .ok none := Eq.trans rfl rfl
@[simp] theorem p1_def (F : Nv → R D) (η : Nv) : p1 F η = (F η).bind asInt := Eq.trans rfl rfl
@[simp] theorem asInt_int (i : Int) : asInt (.int i) = .ok (some i) := Eq.trans rfl rfl
/-! statements -/
@[simp] theorem toS_ok {α : Type} (a : α) (f : α → Rs) : (R.ok a).toS f = f a := Eq.trans rfl rfl
@[simp] theorem toS_no {α : Type} (f : α → Rs) : (R.no : R α).toS f = .no := Eq.trans rfl rfl
@[simp] theorem seqS_def (Gs Gt : Nv → Rs) (η : Nv) : seqS Gs Gt η = (Gs η).bind Gt := Eq.trans rfl rfl
@[simp] theorem bind_nx (η : Nv) (f : Nv → Rs) : (Rs.nx η).bind f = f η := Eq.trans rfl rfl
@[simp] theorem bind_rt (d : D) (η : Nv) (f : Nv → Rs) : (Rs.rt d η).bind f = .rt d η := Eq.trans rfl rfl
@[simp] theorem bind_ct (η : Nv) (f : Nv → Rs) : (Rs.ct η).bind f = .ct η := Eq.trans rfl rfl
@[simp] theorem bind_bk (η : Nv) (f : Nv → Rs) : (Rs.bk η).bind f = .bk η := Eq.trans rfl rfl
@[simp] theorem bind_ex (c w : Str) (p : D) (f : Nv → Rs) : (Rs.ex c w p).bind f = .ex c w p := Eq.trans rfl rfl
@[simp] theorem setS_def (i : Nat) (F : Nv → R D) (η : Nv) : setS i F η = (F η).toS fun x => .nx (η.set i (.d x)) := Eq.trans rfl rfl
@[simp] theorem retS_def (F : Nv → R D) (η : Nv) : retS F η = (F η).toS fun x => .rt x η := Eq.trans rfl rfl
@[simp] theorem exprS_def (F : Nv → R D) (η : Nv) : exprS F η = (F η).toS fun _ => .nx η := Eq.trans rfl rfl
@[simp] theorem ifS_def (G : Nv → R Bool) (Gs Gt : Nv → Rs) (η : Nv) : ifS G Gs Gt η = (G η).toS fun k => if k then Gs η else Gt η := Eq.trans rfl rfl
@[simp] theorem forS_def (Fi : Nv → R (List D)) (T : Tgt) (Gb : Nv → Rs) (η : Nv) : forS Fi T Gb η = (Fi η).toS fun xs => loopG T Gb xs η := Eq.trans rfl rfl
theorem ownS_list (i : Nat) (F : Nv → R D) (η : Nv) (xs : List D) (h : F η = .ok (.list xs)) : ownS i F η = .nx (η.set i (.own ⟨true, xs⟩)) := by
  unfold ownS
  rw [h]
  rfl
theorem appS_own (i : Nat) (F : Nv → R D) (η : Nv) (xs : OL) (y : D) (h1 : η[i]? = some (.own xs)) (h2 : F η = .ok y) (h3 : xs.l.length < lineN) : appS i F η = .nx (η.set i (.own ⟨xs.b, xs.l ++ [y]⟩)) := by
  unfold appS
  rw [h1]
  show (F η).toS _ = _
  rw [h2]
  show (if xs.l.length < lineN then _ else _) = _
  rw [if_pos h3]
theorem retO_own (i : Nat) (η : Nv) (xs : List D) (h : η[i]? = some (.own ⟨true, xs⟩)) : retO i η = .rt (.list xs) η := by
  unfold retO
  rw [h]
  rfl
@[simp] theorem gN_def (i : Nat) (x : D) (η : Nv) : gN i x η = some (η.set i (.d x)) := Eq.trans rfl rfl
@[simp] theorem iA_def (F : Nv → R D) (η : Nv) : iA F η = (F η).bind asSeq := Eq.trans rfl rfl
@[simp] theorem asSeq_list (xs : List D) : asSeq (.list xs) = .ok xs := Eq.trans rfl rfl
@[simp] theorem asSeq_tup (xs : List D) : asSeq (.tuple xs) = .ok xs := Eq.trans rfl rfl
@[simp] theorem iR1_def (Fs : Nv → R (List D)) (η : Nv) : iR1 Fs η = (Fs η).bind rng1 := Eq.trans rfl rfl
@[simp] theorem iR2_def (Fs : Nv → R (List D)) (η : Nv) : iR2 Fs η = (Fs η).bind rng2 := Eq.trans rfl rfl
@[simp] theorem iZ_def (Fs : Nv → R (List D)) (η : Nv) : iZ Fs η = (Fs η).bind zip2 := Eq.trans rfl rfl
@[simp] theorem iRR_def (F : Nv → R D) (η : Nv) : iRR F η = (F η).bind rr1 := Eq.trans rfl rfl
theorem rng1_ok {n : Int} (h0 : 0 ≤ n) (h : n < 1000000) : rng1 [.int n] = .ok (rangeD 0 n.toNat) := by
  show (if -(2 ^ 62) ≤ n ∧ n < 2 ^ 62 then _ else _) = _
  rw [if_pos ⟨by omega, by omega⟩]
/-! values -/
@[simp] theorem addV_int (i j : Int) : addV (.int i) (.int j) = some (.int (i + j)) := Eq.trans rfl rfl
@[simp] theorem subV_int (i j : Int) : subV (.int i) (.int j) = some (.int (i - j)) := Eq.trans rfl rfl
theorem mulV_int {i j : Int} (h : (-(2 ^ 64) < i ∧ i < 2 ^ 64) ∨ (-(2 ^ 64) < j ∧ j < 2 ^ 64)) : mulV (.int i) (.int j) = some (.int (i * j)) := if_pos h
theorem fdivV_int {i j : Int} (h : 0 < j ∧ j < 1073741824) : fdivV (.int i) (.int j) = some (.int (i / j)) := if_pos h
theorem modV_int {i j : Int} (h : 0 < j) : modV (.int i) (.int j) = some (.int (i % j)) := if_pos h
theorem powV_int {i j : Int} (h : 0 ≤ j ∧ j ≤ 1000000 ∧ i.natAbs < 2 ^ 64) : powV (.int i) (.int j) = some (.int (i ^ j.toNat)) := if_pos h
@[simp] theorem ltV_int (i j : Int) : ltV (.int i) (.int j) = some (.bool (decide (i < j))) := Eq.trans rfl rfl
@[simp] theorem leV_int (i j : Int) : leV (.int i) (.int j) = some (.bool (decide (i ≤ j))) := Eq.trans rfl rfl
@[simp] theorem gtV_int (i j : Int) : gtV (.int i) (.int j) = some (.bool (decide (j < i))) := Eq.trans rfl rfl
@[simp] theorem geV_int (i j : Int) : geV (.int i) (.int j) = some (.bool (decide (j ≤ i))) := Eq.trans rfl rfl
@[simp] theorem ltA_i (i j : Int) : ltA (.int i) (.int j) = some (.bool (decide (i < j))) := Eq.trans rfl rfl
@[simp] theorem leA_i (i j : Int) : leA (.int i) (.int j) = some (.bool (decide (i ≤ j))) := Eq.trans rfl rfl
@[simp] theorem gtA_i (i j : Int) : gtA (.int i) (.int j) = some (.bool (decide (j < i))) := Eq.trans rfl rfl
@[simp] theorem geA_i (i j : Int) : geA (.int i) (.int j) = some (.bool (decide (j ≤ i))) := Eq.trans rfl rfl
@[simp] theorem negV_int (i : Int) : negV (.int i) = some (.int (-i)) := Eq.trans rfl rfl
@[simp] theorem intV_int (i : Int) : intV [.int i] = some (.int i) := Eq.trans rfl rfl
@[simp] theorem lenV_list (xs : List D) : lenV [.list xs] = some (.int xs.length) := Eq.trans rfl rfl
@[simp] theorem lenV_tup (xs : List D) : lenV [.tuple xs] = some (.int xs.length) := Eq.trans rfl rfl
@[simp] theorem ixV_list (xs : List D) (i : Int) : ixV (.list xs) (.int i) = atD xs i := Eq.trans rfl rfl
@[simp] theorem ixV_tup (xs : List D) (i : Int) : ixV (.tuple xs) (.int i) = atD xs i := Eq.trans rfl rfl
theorem atD_nat {xs : List D} {i : Int} {d : D} (h0 : 0 ≤ i) (h : xs[i.toNat]? = some d) : atD xs i = some d := by
  have hl : i.toNat < xs.length := (List.getElem?_eq_some_iff.mp h).1
  unfold atD ixN
  rw [if_pos h0, if_pos (by omega)]
  exact h
/-! ### loops and comprehensions -/
@[simp] theorem loopG_nil (T : Tgt) (Gb : Nv → Rs) (η : Nv) : loopG T Gb [] η = .nx η := Eq.trans rfl rfl
theorem loopG_cons (T : Tgt) (Gb : Nv → Rs) (x : D) (xs : List D) (η η1 : Nv) (h : T x η = some η1) : loopG T Gb (x :: xs) η = match Gb η1 with
    | .nx η2 => loopG T Gb xs η2
    | .ct η2 => loopG T Gb xs η2
    | .bk η2 => .nx η2
    | .rt d η2 => .rt d η2
    | .ex c w p => .ex c w p
    | .no => .no := by
  show (match T x η with | none => _ | some η1 => _) = _
  rw [h]
  try rfl
theorem compD_filter {T : Tgt} {C : Nv → R Bool} {El : Nv → R D} {η : Nv} {g : D → D} {c : D → Bool} : ∀ (xs : List D), (∀ x ∈ xs, ∃ η1, T x η = some η1 ∧ C η1 = .ok (c x) ∧ (c x = true → El η1 = .ok (g x))) → compD T C El η xs = .ok ((xs.filter c).map g)
  | [], _ => rfl
  | x :: xs, h => by
    obtain ⟨η1, h1, h2, h3⟩ := h x List.mem_cons_self
    show (match T x η with | none => _ | some η1 => _) = _
    rw [h1]
    show (C η1).bindN _ = _
    rw [h2]
    have ih := compD_filter xs fun y m => h y (List.mem_cons_of_mem _ m)
    cases hc : c x with
    | false =>
      show compD T C El η xs = _
      rw [ih, List.filter_cons_of_neg (by rw [hc]; exact Bool.false_ne_true)]
    | true =>
      show (El η1).bindN _ = _
      rw [h3 hc]
      show (compD T C El η xs).bindN _ = _
      rw [ih, List.filter_cons_of_pos hc]
      rfl
theorem compE_ok {Fi : Nv → R (List D)} {T : Tgt} {C : Nv → R Bool} {El : Nv → R D} {vs : List Nat} {η : Nv} {xs ys : List D} (h1 : Fi η = .ok xs) (h2 : compD T C El (wipeE η vs) xs = .ok ys) (h3 : ys.length ≤ lineN) : compE Fi T C El vs η = .ok (.list ys) := by
  unfold compE
  rw [h1]
  show (compD T C El (wipeE η vs) xs).bindN _ = _
  rw [h2]
  show (if ys.length ≤ lineN then _ else _) = _
  rw [if_pos h3]
theorem runD_rt {m : Nat} {fall : R D} {G : Nv → Rs} {ds : List D} {d : D} {η' : Nv} (η : Nv) (hi : initD m ds = η) (h : G η = .rt d η') : runD m fall G ds = .ok d := by
  subst hi
  unfold runD
  rw [h]
/-! ### the laws' own helpers -/
namespace Lw
def G_cell : Nv → Rs :=
    (seqS (ifS (tb (e2 ltA (gv 1) (eN lenV (aC (gv 0) a0)))) (seqS (retS (e2 ixV (gv 0) (gv 1)))
    .nx) .nx)
    (seqS (retS (k0 (.int 0)))
    .nx))
def F_cell : List D → R D := runD 2 (.ok .none) G_cell
def cell (ns : List Int) (k : Nat) : Int := ns.getD k 0
theorem cell_ok (ns : List Int) (k : Nat) : F_cell [.list (ns.map PyData.int), .int (k : Int)] = .ok (.int (cell ns k)) := by
  have i : initD 2 [.list (ns.map PyData.int), .int (k : Int)] = [.d (.list (ns.map PyData.int)), .d (.int (k : Int))] := rfl
  unfold F_cell runD
  rw [i]
  by_cases h : k < ns.length
  · have e : G_cell [.d (.list (ns.map PyData.int)), .d (.int (k : Int))] = .rt (.int (cell ns k)) [.d (.list (ns.map PyData.int)), .d (.int (k : Int))] := by
      have a : atD (ns.map PyData.int) (k : Int) = some (.int (cell ns k)) := atD_nat (by omega) (by
        rw [List.getElem?_map, Int.toNat_natCast, List.getElem?_eq_getElem h]
        unfold cell
        rw [List.getD_eq_getElem?_getD, List.getElem?_eq_getElem h]
        rfl)
      simp [G_cell, h, a]
    rw [e]
  · have e : G_cell [.d (.list (ns.map PyData.int)), .d (.int (k : Int))] = .rt (.int (cell ns k)) [.d (.list (ns.map PyData.int)), .d (.int (k : Int))] := by
      have c : cell ns k = 0 := by
        unfold cell
        rw [List.getD_eq_getElem?_getD, List.getElem?_eq_none (by omega)]
        rfl
      simp [G_cell, h, c]
    rw [e]
def B_row : Nv → Rs :=
    (seqS (ifS (tb (e2 geA (gv 0) (e2 powV (k0 (.int 10)) (k0 (.int 18))))) (seqS (appS 3 (e2 modV (eN intV (aC (gv 0) a0)) (gv 2)))
    (seqS (setS 0 (e2 fdivV (gv 0) (gv 2)))
    .nx)) (seqS (setS 5 (e2 modV (eN intV (aC (e2 addV (e2 addV (e2 mulV (gv 0) (k0 (.int 48271))) (e2 mulV (gv 4) (k0 (.int 69621)))) (k0 (.int 12345))) a0)) (k0 (.int 2147483647))))
    (seqS (setS 5 (e2 modV (eN intV (aC (e2 addV (e2 addV (e2 mulV (gv 5) (gv 5)) (e2 mulV (k0 (.int 16807)) (gv 4))) (k0 (.int 7))) a0)) (k0 (.int 998244353))))
    (seqS (setS 5 (e2 modV (eN intV (aC (e2 addV (e2 addV (e2 mulV (gv 5) (gv 5)) (e2 mulV (k0 (.int 48271)) (gv 4))) (gv 0)) a0)) (k0 (.int 2147483629))))
    (seqS (appS 3 (e2 modV (eN intV (aC (e2 fdivV (gv 5) (k0 (.int 13))) a0)) (gv 2)))
    .nx)))))
    .nx)
def G_row : Nv → Rs :=
    (seqS (ownS 3 (lstV a0))
    (seqS (forS (iR1 (aC (gv 1) a0)) (gN 4) B_row)
    (seqS (retO 3)
    .nx)))
def F_row : List D → R D := runD 6 .no G_row
/-- ints from 0 below b -/
def Below (b : Int) (xs : List D) : Prop := ∀ x ∈ xs, ∃ i : Int, x = .int i ∧ 0 ≤ i ∧ i < b
theorem row_turn {c n k b : Int} {rs : List D} {s4 s5 : Sl} (hb : 0 < b ∧ b < 1073741824) (hl : rs.length < lineN) : ∃ (c' i : Int) (s5' : Sl), 0 ≤ i ∧ i < b ∧
    B_row [.d (.int c), .d (.int n), .d (.int b), .own ⟨true, rs⟩, .d (.int k), s5] = .nx [.d (.int c'), .d (.int n), .d (.int b), .own ⟨true, rs ++ [.int i]⟩, .d (.int k), s5'] := by
  have hp : powV (.int 10) (.int 18) = some (.int (10 ^ 18)) := powV_int ⟨by decide, by decide, by decide⟩
  by_cases h : (1000000000000000000 : Int) ≤ c
  · refine ⟨c / b, c % b, s5, Int.emod_nonneg _ (by omega), Int.emod_lt_of_pos _ hb.1, ?_⟩
    have m : modV (.int c) (.int b) = some (.int (c % b)) := modV_int hb.1
    have q : fdivV (.int c) (.int b) = some (.int (c / b)) := fdivV_int hb
    have ap := appS_own 3 (e2 modV (eN intV (aC (gv 0) a0)) (gv 2)) [.d (.int c), .d (.int n), .d (.int b), .own ⟨true, rs⟩, .d (.int k), s5] ⟨true, rs⟩ (.int (c % b)) rfl (by simp [m]) hl
    simp [B_row, hp, h, ap, q]
  · generalize q1 : (c * 48271 + k * 69621 + 12345) % 2147483647 = x1
    generalize q2 : (x1 * x1 + 16807 * k + 7) % 998244353 = x2
    generalize q3 : (x2 * x2 + 48271 * k + c) % 2147483629 = x3
    have b1 : 0 ≤ x1 ∧ x1 < 2147483647 := by omega
    have b2 : 0 ≤ x2 ∧ x2 < 998244353 := by omega
    have b3 : 0 ≤ x3 ∧ x3 < 2147483629 := by omega
    refine ⟨c, x3 / 13 % b, .d (.int x3), Int.emod_nonneg _ (by omega), Int.emod_lt_of_pos _ hb.1, ?_⟩
    have t1 : mulV (.int c) (.int 48271) = some (.int (c * 48271)) := mulV_int (.inr (by decide))
    have t2 : mulV (.int k) (.int 69621) = some (.int (k * 69621)) := mulV_int (.inr (by decide))
    have t3 : mulV (.int x1) (.int x1) = some (.int (x1 * x1)) := mulV_int (.inl (by omega))
    have t4 : mulV (.int 16807) (.int k) = some (.int (16807 * k)) := mulV_int (.inl (by decide))
    have t5 : mulV (.int x2) (.int x2) = some (.int (x2 * x2)) := mulV_int (.inl (by omega))
    have t6 : mulV (.int 48271) (.int k) = some (.int (48271 * k)) := mulV_int (.inl (by decide))
    have m1 : ∀ z : Int, modV (.int z) (.int 2147483647) = some (.int (z % 2147483647)) := fun z => modV_int (by decide)
    have m2 : ∀ z : Int, modV (.int z) (.int 998244353) = some (.int (z % 998244353)) := fun z => modV_int (by decide)
    have m3 : ∀ z : Int, modV (.int z) (.int 2147483629) = some (.int (z % 2147483629)) := fun z => modV_int (by decide)
    have m4 : ∀ z : Int, modV (.int z) (.int b) = some (.int (z % b)) := fun z => modV_int hb.1
    have d1 : fdivV (.int x3) (.int 13) = some (.int (x3 / 13)) := fdivV_int (by decide)
    have ap := appS_own 3 (e2 modV (eN intV (aC (e2 fdivV (gv 5) (k0 (.int 13))) a0)) (gv 2)) [.d (.int c), .d (.int n), .d (.int b), .own ⟨true, rs⟩, .d (.int k), .d (.int x3)] ⟨true, rs⟩ (.int (x3 / 13 % b)) rfl (by simp [d1, m4]) hl
    simp [B_row, hp, h, t1, t2, m1, q1, t3, t4, m2, q2, t5, t6, m3, q3, ap]
theorem row_loop {n b : Int} (hb : 0 < b ∧ b < 1073741824) : ∀ (xs : List D) (c : Int) (rs : List D) (s4 s5 : Sl), (∀ x ∈ xs, ∃ i, x = .int i) → rs.length + xs.length ≤ lineN → ∃ (c' : Int) (ys : List D) (s4' s5' : Sl), ys.length = xs.length ∧ Below b ys ∧
    loopG (gN 4) B_row xs [.d (.int c), .d (.int n), .d (.int b), .own ⟨true, rs⟩, s4, s5] = .nx [.d (.int c'), .d (.int n), .d (.int b), .own ⟨true, rs ++ ys⟩, s4', s5']
  | [], c, rs, s4, s5, _, _ => ⟨c, [], s4, s5, rfl, fun x m => absurd m List.not_mem_nil, by rw [List.append_nil]; rfl⟩
  | x :: xs, c, rs, s4, s5, h, hl => by
    obtain ⟨k, rfl⟩ := h x List.mem_cons_self
    rw [List.length_cons] at hl
    obtain ⟨c1, i, s51, h1, h2, e⟩ := row_turn (c := c) (n := n) (k := k) (b := b) (rs := rs) (s4 := s4) (s5 := s5) hb (by omega)
    obtain ⟨c2, ys, s4', s5', h3, h4, e2⟩ := row_loop hb xs c1 (rs ++ [.int i]) (.d (.int k)) s51 (fun y m => h y (List.mem_cons_of_mem _ m)) (by rw [List.length_append]; simp; omega)
    refine ⟨c2, .int i :: ys, s4', s5', by rw [List.length_cons, h3, List.length_cons], fun y m => ?_, ?_⟩
    · rcases List.mem_cons.mp m with rfl | m
      · exact ⟨i, rfl, h1, h2⟩
      · exact h4 y m
    · rw [loopG_cons (η1 := [.d (.int c), .d (.int n), .d (.int b), .own ⟨true, rs⟩, .d (.int k), s5]) (h := rfl), e]
      show loopG (gN 4) B_row xs _ = _
      rw [e2, List.append_assoc]
      rfl
theorem row_ok {c b : Int} {n : Nat} (hb : 0 < b ∧ b < 1073741824) (hn : n < 1000000) : ∃ ys : List D, ys.length = n ∧ Below b ys ∧ F_row [.int c, .int (n : Int), .int b] = .ok (.list ys) := by
  obtain ⟨c', ys, s4, s5, h1, h2, e⟩ := row_loop (n := n) hb (rangeD 0 n) c [] .no .no (fun x m => by
    unfold rangeD at m
    obtain ⟨i, _, rfl⟩ := List.mem_map.mp m
    exact ⟨_, rfl⟩) (by
      have h : (rangeD 0 n).length = n := by unfold rangeD; rw [List.length_map, List.length_range]
      rw [h, List.length_nil]
      have := lineN_eq
      omega)
  have hlen : (rangeD 0 n).length = n := by unfold rangeD; rw [List.length_map, List.length_range]
  refine ⟨ys, h1.trans hlen, h2, ?_⟩
  have r : rng1 [.int (n : Int)] = .ok (rangeD 0 n) := by
    rw [rng1_ok (by omega) (by omega), Int.toNat_natCast]
  have o : ownS 3 (lstV a0) [.d (.int c), .d (.int (n : Int)), .d (.int b), .no, .no, .no] = .nx [.d (.int c), .d (.int (n : Int)), .d (.int b), .own ⟨true, []⟩, .no, .no] := by
    rw [ownS_list 3 _ _ [] (by simp)]
    rfl
  rw [List.nil_append] at e
  have g : G_row [.d (.int c), .d (.int (n : Int)), .d (.int b), .no, .no, .no] = .rt (.list ys) [.d (.int c'), .d (.int (n : Int)), .d (.int b), .own ⟨true, ys⟩, s4, s5] := by
    simp [G_row, o, r, e, retO_own 3 [.d (.int c'), .d (.int (n : Int)), .d (.int b), .own ⟨true, ys⟩, s4, s5] ys rfl]
  exact runD_rt _ rfl g
end Lw
end Bd
/-! M1: what may be shown and compared. -/
namespace Bd
open PySem L2

/-- small data without dicts: its depth, its weight -/
structure Fine (k n : Nat) (d : D) : Prop where
  sh : d.showable = true
  nd : d.hasDict = false
  dp : d.depth ≤ k
  ls : d.leavesShort 13 = true
  wt : d.weight ≤ n
  cl : d.canLay0 = true
theorem Fine.mono {k n k' n' : Nat} {d : D} (h : Fine k n d) (hk : k ≤ k') (hn : n ≤ n') : Fine k' n' d := ⟨h.sh, h.nd, Nat.le_trans h.dp hk, h.ls, Nat.le_trans h.wt hn, h.cl⟩
theorem log2_small {n k : Nat} (h : n < 2 ^ k) (hk : 0 < k) : n.log2 < k := by
  by_cases h0 : n = 0
  · subst h0
    exact hk
  · exact (Nat.log2_lt h0).mpr h
theorem fine_int {i : Int} (h1 : -1000000000000 < i) (h2 : i < 1000000000000) : Fine 0 41 (.int i) where
  sh := by
    simp only [PyData.showable, decide_eq_true_eq]
    have := log2_small (n := i.natAbs) (k := 41) (by omega) (by decide)
    omega
  nd := by simp only [PyData.hasDict]
  dp := by simp only [PyData.depth]; exact Nat.le_refl _
  ls := by
    simp only [PyData.leavesShort, decide_eq_true_eq]
    exact PyData.shown_int_le (by omega)
  wt := by
    simp only [PyData.weight]
    split
    · exact Nat.zero_le _
    · have := log2_small (n := i.natAbs) (k := 40) (by omega) (by decide)
      omega
  cl := by simp only [PyData.canLay0]
theorem fineAll {k n : Nat} : ∀ {xs : List D}, (∀ x ∈ xs, Fine k n x) → PyData.showableAll xs = true ∧ PyData.hasDictAll xs = false ∧ PyData.depthAll xs ≤ k ∧ PyData.leavesShortAll 13 xs = true ∧ PyData.weightAll xs ≤ xs.length * (n + 1) ∧ PyData.canLayAll0 xs = true
  | [], _ => ⟨by simp only [PyData.showableAll], by simp only [PyData.hasDictAll], by simp only [PyData.depthAll]; exact Nat.zero_le _, by simp only [PyData.leavesShortAll], by simp only [PyData.weightAll]; exact Nat.zero_le _, by simp only [PyData.canLayAll0]⟩
  | x :: xs, h => by
    obtain ⟨h1, h2, h3, h4, h5, h6⟩ := fineAll fun y m => h y (List.mem_cons_of_mem _ m)
    have f := h x List.mem_cons_self
    have w := f.wt
    have d := f.dp
    refine ⟨?_, ?_, ?_, ?_, ?_, ?_⟩
    · simp only [PyData.showableAll, f.sh, h1, Bool.and_self]
    · simp only [PyData.hasDictAll, f.nd, h2, Bool.or_self]
    · simp only [PyData.depthAll]; omega
    · simp only [PyData.leavesShortAll, f.ls, h4, Bool.and_self]
    · simp only [PyData.weightAll, List.length_cons, Nat.add_mul]
      omega
    · simp only [PyData.canLayAll0, f.cl, h6, Bool.and_self]
theorem fine_list {k n : Nat} {xs : List D} (h : ∀ x ∈ xs, Fine k n x) : Fine (k + 1) (xs.length * (n + 1)) (.list xs) := by
  obtain ⟨h1, h2, h3, h4, h5, h6⟩ := fineAll h
  exact ⟨by simp only [PyData.showable, h1], by simp only [PyData.hasDict, h2], by simp only [PyData.depth]; omega, by simp only [PyData.leavesShort, h4], by simp only [PyData.weight]; exact h5, by simp only [PyData.canLay0, h6]⟩
theorem fine_tuple {k n : Nat} {xs : List D} (h : ∀ x ∈ xs, Fine k n x) : Fine (k + 1) (xs.length * (n + 1)) (.tuple xs) := by
  obtain ⟨h1, h2, h3, h4, h5, h6⟩ := fineAll h
  exact ⟨by simp only [PyData.showable, h1], by simp only [PyData.hasDict, h2], by simp only [PyData.depth]; omega, by simp only [PyData.leavesShort, h4], by simp only [PyData.weight]; exact h5, by simp only [PyData.canLay0, h6]⟩
theorem Fine.repr {k n : Nat} {d : D} (h : Fine k n d) (hk : k ≤ 64) (hn : n ≤ 1048576) : reprV [d] = some (.str d.shown) := by
  show (if d.showable = true ∧ d.hasDict = false ∧ d.depth ≤ 64 ∧ d.shown.length ≤ lineN then some (PyData.str d.shown) else none) = _
  have w : d.shown.length ≤ sizeLine := PyData.shown_fits (B := 13) (by decide) (by decide) h.ls (by have := h.wt; omega)
  rw [line_eq] at w
  have := h.dp
  rw [if_pos ⟨h.sh, h.nd, by omega, w⟩]
theorem Fine.shaped {k n : Nat} {d : D} (h : Fine k n d) (hk : k ≤ 64) : SeqAt.shaped d = true := by
  unfold SeqAt.shaped
  have := h.dp
  rw [h.cl, Bool.true_and, decide_eq_true_eq]
  omega
@[simp] theorem eqV_str (a b : Str) : eqV' (.str a) (.str b) = some (.bool (decide (a = b))) := Eq.trans rfl rfl
@[simp] theorem neV_str (a b : Str) : neV' (.str a) (.str b) = some (.bool (!decide (a = b))) := Eq.trans rfl rfl
theorem eqV_int (i j : Int) : eqV' (.int i) (.int j) = some (.bool (i == j)) := by
  show (if SeqAt.shaped (.int i) = true ∧ SeqAt.shaped (.int j) = true then some (PyData.bool (PyData.eqv (.int i) (.int j))) else none) = _
  have s : ∀ k : Int, SeqAt.shaped (.int k) = true := fun k => by
    unfold SeqAt.shaped
    simp only [PyData.canLay0, PyData.depth]
    rfl
  rw [if_pos ⟨s i, s j⟩]
  unfold PyData.eqv
  rfl
end Bd
/-! M2: ints in lists, slices, isinstance; names picked once and sorted. -/
namespace Bd
open PySem L2

/-! ### slices -/
theorem cut_take (xs : List D) (k : Int) (h : 0 ≤ k) : cutD xs none (some k) = xs.take k.toNat := by
  unfold cutD
  have e1 : HT.sIx xs.length 0 none = 0 := rfl
  have e2 : HT.sIx xs.length xs.length (some k) = min k.toNat xs.length := by
    show (if k < 0 then (k + (xs.length : Int)).toNat else min k.toNat xs.length) = _
    rw [if_neg (by omega)]
  rw [e1, e2, List.drop_zero, Nat.sub_zero, ← List.take_eq_take_min]
theorem cut_drop (xs : List D) (k : Int) (h : 0 ≤ k) : cutD xs (some k) none = xs.drop k.toNat := by
  unfold cutD
  have e1 : HT.sIx xs.length xs.length none = xs.length := rfl
  have e2 : HT.sIx xs.length 0 (some k) = min k.toNat xs.length := by
    show (if k < 0 then (k + (xs.length : Int)).toNat else min k.toNat xs.length) = _
    rw [if_neg (by omega)]
  rw [e1, e2]
  by_cases hk : k.toNat ≤ xs.length
  · rw [Nat.min_eq_left hk]
    exact List.take_of_length_le (by rw [List.length_drop]; exact Nat.le_refl _)
  · rw [Nat.min_eq_right (by omega), List.drop_length, List.drop_eq_nil_of_le (by omega)]
    simp
@[simp] theorem slV_list (lo hi : Option Int) (xs : List D) : slV lo hi (.list xs) = some (.list (cutD xs lo hi)) := Eq.trans rfl rfl
@[simp] theorem slV_tup (lo hi : Option Int) (xs : List D) : slV lo hi (.tuple xs) = some (.tuple (cutD xs lo hi)) := Eq.trans rfl rfl
@[simp] theorem slL_list (lo hi : Option Int) (xs : List D) : slL lo hi (.list xs) = some (.list (cutD xs lo hi)) := Eq.trans rfl rfl
@[simp] theorem revV_tup (xs : List D) : revV (.tuple xs) = some (.tuple xs.reverse) := Eq.trans rfl rfl
@[simp] theorem revV_list (xs : List D) : revV (.list xs) = some (.list xs.reverse) := Eq.trans rfl rfl
@[simp] theorem tupleV_list (xs : List D) : tupleV [.list xs] = some (.tuple xs) := Eq.trans rfl rfl
@[simp] theorem listV_list (xs : List D) : listV [.list xs] = some (.list xs) := Eq.trans rfl rfl
@[simp] theorem listV_tup (xs : List D) : listV [.tuple xs] = some (.list xs) := Eq.trans rfl rfl
theorem addV_tup {xs ys : List D} (h : xs.length + ys.length ≤ 16777216) : addV (.tuple xs) (.tuple ys) = some (.tuple (xs ++ ys)) := if_pos (by rw [lineN_eq]; exact h)
theorem addV_list {xs ys : List D} (h : xs.length + ys.length ≤ 16777216) : addV (.list xs) (.list ys) = some (.list (xs ++ ys)) := if_pos (by rw [lineN_eq]; exact h)
/-! ### ints in lists -/
theorem shaped_int (i : Int) : SeqAt.shaped (.int i) = true := by
  unfold SeqAt.shaped
  simp only [PyData.canLay0, PyData.depth]
  rfl
theorem ints_lay : ∀ l : List Int, PyData.canLayAll0 (l.map PyData.int) = true ∧ PyData.depthAll (l.map PyData.int) = 0
  | [] => ⟨by simp only [List.map_nil, PyData.canLayAll0], by simp only [List.map_nil, PyData.depthAll]⟩
  | x :: r => by
    obtain ⟨h1, h2⟩ := ints_lay r
    exact ⟨by simp only [List.map_cons, PyData.canLayAll0, PyData.canLay0, h1, Bool.and_self], by simp only [List.map_cons, PyData.depthAll, PyData.depth, h2]; rfl⟩
theorem shaped_ints (l : List Int) : SeqAt.shaped (.list (l.map PyData.int)) = true := by
  unfold SeqAt.shaped
  obtain ⟨h1, h2⟩ := ints_lay l
  simp only [PyData.canLay0, PyData.depth, h1, h2]
  rfl
theorem any_ints (a : Int) : ∀ l : List Int, ((l.map PyData.int).any fun z => PyData.eqv z (.int a)) = l.any (· == a)
  | [] => rfl
  | x :: r => by
    rw [List.map_cons, List.any_cons, List.any_cons, any_ints a r]
    unfold PyData.eqv
    rfl
theorem notin_ints (a : Int) (l : List Int) : ninV' (.int a) (.list (l.map PyData.int)) = some (.bool (!l.any (· == a))) := by
  show (if SeqAt.shaped (.int a) = true ∧ SeqAt.shaped (.list (l.map PyData.int)) = true then some ((l.map PyData.int).any fun z => PyData.eqv z (.int a)) else none).map (fun b => PyData.bool !b) = _
  rw [if_pos ⟨shaped_int a, shaped_ints l⟩, any_ints]
  rfl
theorem ints?_map : ∀ l : List Int, ints? (l.map PyData.int) = some l
  | [] => rfl
  | x :: r => by
    show (ints? (r.map PyData.int)).map (x :: ·) = _
    rw [ints?_map r]
    rfl
theorem bools?_map : ∀ l : List Bool, bools? (l.map PyData.bool) = some l
  | [] => rfl
  | x :: r => by
    show (bools? (r.map PyData.bool)).map (x :: ·) = _
    rw [bools?_map r]
    rfl
theorem all_bools (l : List Bool) : allV [.list (l.map PyData.bool)] = some (.bool (l.all id)) := by
  show (bools? (l.map PyData.bool)).map _ = _
  rw [bools?_map]
  rfl
/-! ### isinstance -/
/-! ### names picked once, sorted -/
def once (p : List Int) : List Int := ((List.range p.length).filter fun i => !(p.take i).any (· == p.getD i 0)).map fun i => p.getD i 0
theorem once_mem {p : List Int} {x : Int} : x ∈ once p → x ∈ p := fun h => by
  unfold once at h
  obtain ⟨i, hi, rfl⟩ := List.mem_map.mp h
  have hl : i < p.length := List.mem_range.mp (List.mem_filter.mp hi).1
  rw [List.getD_eq_getElem?_getD, List.getElem?_eq_getElem hl]
  exact List.getElem_mem hl
theorem once_nodup (p : List Int) : (once p).Nodup := by
  unfold once
  have hp : (List.range p.length).Pairwise (· < ·) := List.pairwise_lt_range
  rw [List.Nodup, List.pairwise_map]
  refine (hp.filter _).imp_of_mem ?_
  intro i j hi hj hij e
  have lj : j < p.length := List.mem_range.mp (List.mem_filter.mp hj).1
  have fj := (List.mem_filter.mp hj).2
  rw [Bool.not_eq_true', List.any_eq_false] at fj
  refine fj (p.getD i 0) ?_ (by rw [e]; exact beq_self_eq_true _)
  rw [List.getD_eq_getElem?_getD, List.getElem?_eq_getElem (by omega : i < p.length)]
  exact List.mem_take_iff_getElem.mpr ⟨i, by omega, rfl⟩
theorem once_ne {p : List Int} (h : 0 < p.length) : 0 < (once p).length := by
  unfold once
  rw [List.length_map]
  refine List.length_pos_of_mem (a := 0) (List.mem_filter.mpr ⟨List.mem_range.mpr h, rfl⟩)
theorem once_len (p : List Int) : (once p).length ≤ p.length := by
  unfold once
  rw [List.length_map]
  exact Nat.le_trans (List.length_filter_le _ _) (by rw [List.length_range]; exact Nat.le_refl _)
def pkC (p : List Int) : D → Bool
  | .int i => !(p.take i.toNat).any (· == p.getD i.toNat 0)
  | _ => false
def pkV (p : List Int) : D → D
  | .int i => .int (p.getD i.toNat 0)
  | _ => .none
/-- [p[k] for k in range(len(p)) if p[k] not in p[:k]]: sp, sk the slots of p and of k -/
theorem pick_comp {sp sk : Nat} {η : Nv} {p : List Int} (hl : p.length < 1000000) (h1 : gv sp η = .ok (.list (p.map PyData.int))) (h2 : ∀ x, gv sp ((wipeE η [sk]).set sk (.d x)) = .ok (.list (p.map PyData.int))) (h3 : ∀ x, gv sk ((wipeE η [sk]).set sk (.d x)) = .ok x) :
    compE (iR1 (aC (eN lenV (aC (gv sp) a0)) a0)) (gN sk) (tb (e2 ninV' (e2 ixV (gv sp) (gv sk)) (slE slV (gv sp) p0 (p1 (gv sk))))) (e2 ixV (gv sp) (gv sk)) [sk] η = .ok (.list ((once p).map PyData.int)) := by
  have ex : ((rangeD 0 p.length).filter (pkC p)).map (pkV p) = (once p).map PyData.int := by
    unfold rangeD once
    rw [List.filter_map, List.map_map, List.map_map]
    have f1 : (pkC p ∘ fun i : Nat => PyData.int (0 + (i : Nat))) = fun i : Nat => !(p.take i).any (· == p.getD i 0) := by
      funext i
      show (!(p.take (0 + (i : Int)).toNat).any (· == p.getD (0 + (i : Int)).toNat 0)) = _
      rw [show (0 + (i : Int)).toNat = i by omega]
    rw [f1]
    apply List.map_congr_left
    intro i _
    show PyData.int (p.getD (0 + (i : Int)).toNat 0) = _
    rw [show (0 + (i : Int)).toNat = i by omega]
    rfl
  rw [← ex]
  refine compE_ok (xs := rangeD 0 p.length) ?_ (compD_filter (c := pkC p) (g := pkV p) _ fun x m => ?_) ?_
  · have r : rng1 [.int ((p.length : Nat) : Int)] = .ok (rangeD 0 p.length) := by rw [rng1_ok (by omega) (by omega), Int.toNat_natCast]
    simp [h1, r]
  · unfold rangeD at m
    obtain ⟨i, hi, rfl⟩ := List.mem_map.mp m
    have hi : i < p.length := List.mem_range.mp hi
    have at1 : atD (p.map PyData.int) (0 + (i : Int)) = some (.int (p.getD i 0)) := atD_nat (by omega) (by
      rw [show (0 + (i : Int)).toNat = i by omega, List.getElem?_map, List.getElem?_eq_getElem hi, List.getD_eq_getElem?_getD, List.getElem?_eq_getElem hi]
      rfl)
    have cu : cutD (p.map PyData.int) none (some (0 + (i : Int))) = (p.take i).map PyData.int := by
      rw [cut_take _ _ (by omega), show (0 + (i : Int)).toNat = i by omega, List.map_take]
    have ti : (0 + (i : Int)).toNat = i := by omega
    refine ⟨_, rfl, ?_, fun _ => ?_⟩
    · show ((e2 ninV' (e2 ixV (gv sp) (gv sk)) (slE slV (gv sp) p0 (p1 (gv sk)))) _).bind tru = _
      simp only [e2_def, h2, h3, R.ok_bind, ixV_list, at1, of_some, slE_def, p0_def, p1_def, asInt_int, slV_list, cu, notin_ints, tru_bool]
      show _ = R.ok (!(p.take (0 + (i : Int)).toNat).any (· == p.getD (0 + (i : Int)).toNat 0))
      rw [ti]
    · simp only [e2_def, h2, h3, R.ok_bind, ixV_list, at1, of_some]
      show _ = R.ok (PyData.int (p.getD (0 + (i : Int)).toNat 0))
      rw [ti]
  · rw [List.length_map, lineN_eq]
    refine Nat.le_trans (List.length_filter_le _ _) ?_
    unfold rangeD
    rw [List.length_map, List.length_range]
    omega
theorem asc_sort {l : List Int} (h : l.Nodup) : (isort l).Pairwise (· < ·) := by
  have s := isort_sorted l
  have n : (isort l).Nodup := (isort_perm l).nodup_iff.mpr h
  exact (s.and n).imp fun z => by obtain ⟨z1, z2⟩ := z; omega
end Bd
/-! M3: the law's deck: a list of five that each draw changes. -/
namespace Bd
open PySem L2

/-! ### reckoning with lists that change -/
theorem up_ok {F : Nv → R D} {η : Nv} {d : D} (h : F η = .ok d) : up F η = .ok (d, η) := by
  unfold up
  rw [h]
theorem seq_nx {Gs Gt : Nv → Rs} {η η1 : Nv} (h : Gs η = .nx η1) : seqS Gs Gt η = Gt η1 := by
  rw [seqS_def, h]
  rfl
theorem ifS_t {G : Nv → R Bool} {Gs Gt : Nv → Rs} {η : Nv} (h : G η = .ok true) : ifS G Gs Gt η = Gs η := by
  rw [ifS_def, h]
  rfl
theorem ifS_f {G : Nv → R Bool} {Gs Gt : Nv → Rs} {η : Nv} (h : G η = .ok false) : ifS G Gs Gt η = Gt η := by
  rw [ifS_def, h]
  rfl
theorem xPutS_ok {i : Nat} {F : Nv → R (D × Nv)} {Fi : Nv → R D} {η η1 : Nv} {y : D} {xs : OL} {j : Int} {m : Nat} (h1 : F η = .ok (y, η1)) (h2 : η1[i]? = some (.own xs)) (h3 : Fi η1 = .ok (.int j)) (h4 : ixN xs.l.length j = some m) : xPutS i F Fi η = .nx (η1.set i (.own ⟨xs.b, xs.l.set m y⟩)) := by
  unfold xPutS
  rw [h1]
  show (match η1[i]? with
    | some (.own _) => (only (Fi η1)).toS (putAt i y η1)
    | _ => .no) = _
  rw [h2, h3]
  show putAt i y η1 (.int j) = _
  unfold putAt
  rw [h2]
  show (match ixN xs.l.length j with
    | some m => Rs.nx (η1.set i (.own ⟨xs.b, xs.l.set m y⟩))
    | none => .no) = _
  rw [h4]
theorem frz_ok {i : Nat} {η : Nv} {xs : List D} (h : η[i]? = some (.own ⟨true, xs⟩)) : frzS i η = .nx (η.set i (.d (.list xs))) := by
  unfold frzS
  rw [h]
  rfl
theorem runK_rt {m : Nat} {G : Nv → Rs} {kx ds kx' : List D} {d : D} {η' : Nv} (η : Nv) (hi : initK m kx ds = η) (h : G η = .rt d η') (h0 : η'[(0 : Nat)]? = some (.own ⟨false, kx'⟩)) : runK m G kx ds = .ok (d, kx') := by
  subst hi
  unfold runK
  rw [h]
  show outK d η' = _
  unfold outK
  rw [h0]
  rfl
/-! ### the deck -/
namespace Dk
def G_draw : Nv → Rs :=
    (seqS (ifS (andB (tb (e2 eqV' (e2 ixV (go 0) (k0 (.int 0))) (k0 (.int 0)))) (tb (e2 ltA (e2 ixV (go 0) (k0 (.int 1))) (eN lenV (aC (e2 ixV (go 0) (k0 (.int 3))) a0))))) (seqS (xPutS 0 (up (eN absV' (aC (e2 ixV (e2 ixV (go 0) (k0 (.int 3))) (e2 ixV (go 0) (k0 (.int 1)))) a0))) (k0 (.int 0)))
    (seqS (xPutS 0 (up (e2 addV (e2 ixV (go 0) (k0 (.int 1))) (k0 (.int 1)))) (k0 (.int 1)))
    .nx)) (seqS (ifS (tb (e2 eqV' (e2 ixV (go 0) (k0 (.int 0))) (k0 (.int 0)))) (seqS (xPutS 0 (up (e2 addV (e2 ixV (go 0) (k0 (.int 4))) (k0 (.int 1)))) (k0 (.int 4)))
    (seqS (setS 2 (e2 modV (eN intV (aC (e2 addV (e2 addV (e2 mulV (e2 ixV (go 0) (k0 (.int 2))) (k0 (.int 48271))) (e2 mulV (e2 ixV (go 0) (k0 (.int 4))) (k0 (.int 69621)))) (k0 (.int 12345))) a0)) (k0 (.int 2147483647))))
    (seqS (setS 2 (e2 modV (eN intV (aC (e2 addV (e2 addV (e2 mulV (gv 2) (gv 2)) (e2 mulV (k0 (.int 16807)) (e2 ixV (go 0) (k0 (.int 4))))) (k0 (.int 7))) a0)) (k0 (.int 998244353))))
    (seqS (setS 2 (e2 modV (eN intV (aC (e2 addV (e2 addV (e2 mulV (gv 2) (gv 2)) (e2 mulV (k0 (.int 48271)) (e2 ixV (go 0) (k0 (.int 4))))) (e2 ixV (go 0) (k0 (.int 2)))) a0)) (k0 (.int 2147483629))))
    (seqS (xPutS 0 (up (e2 fdivV (gv 2) (k0 (.int 13)))) (k0 (.int 0)))
    .nx))))) .nx)
    .nx))
    (seqS (setS 3 (e2 modV (eN intV (aC (e2 ixV (go 0) (k0 (.int 0))) a0)) (gv 1)))
    (seqS (xPutS 0 (up (e2 fdivV (e2 ixV (go 0) (k0 (.int 0))) (gv 1))) (k0 (.int 0)))
    (seqS (retS (gv 3))
    .nx))))
def F_draw : List D → List D → R (D × List D) := runK 4 G_draw
def mk (v p s : Int) (cells : List Int) (c : Int) : List D := [.int v, .int p, .int s, .list (cells.map PyData.int), .int c]
def Deck (kx : List D) : Prop := ∃ v p s cells c, kx = mk v p s cells c ∧ 0 ≤ v ∧ 0 ≤ p
theorem at0 (v p s : Int) (l : List Int) (c : Int) : atD (mk v p s l c) 0 = some (.int v) := rfl
theorem at1 (v p s : Int) (l : List Int) (c : Int) : atD (mk v p s l c) 1 = some (.int p) := rfl
theorem at2 (v p s : Int) (l : List Int) (c : Int) : atD (mk v p s l c) 2 = some (.int s) := rfl
theorem at3 (v p s : Int) (l : List Int) (c : Int) : atD (mk v p s l c) 3 = some (.list (l.map PyData.int)) := rfl
theorem at4 (v p s : Int) (l : List Int) (c : Int) : atD (mk v p s l c) 4 = some (.int c) := rfl
theorem abs_int (i : Int) : absV' [.int i] = some (.int (if i < 0 then -i else i)) := rfl
theorem tail_ok {v p s b c : Int} {l : List Int} {s2 s3 : Sl} (hv : 0 ≤ v) (hb : 0 < b ∧ b < 1073741824) : (seqS (setS 3 (e2 modV (eN intV (aC (e2 ixV (go 0) (k0 (.int 0))) a0)) (gv 1))) (seqS (xPutS 0 (up (e2 fdivV (e2 ixV (go 0) (k0 (.int 0))) (gv 1))) (k0 (.int 0))) (seqS (retS (gv 3)) .nx))) [.own ⟨false, mk v p s l c⟩, .d (.int b), s2, s3] = .rt (.int (v % b)) [.own ⟨false, mk (v / b) p s l c⟩, .d (.int b), s2, .d (.int (v % b))] := by
  have m : modV (.int v) (.int b) = some (.int (v % b)) := modV_int hb.1
  have q : fdivV (.int v) (.int b) = some (.int (v / b)) := fdivV_int hb
  rw [seq_nx (η1 := [.own ⟨false, mk v p s l c⟩, .d (.int b), s2, .d (.int (v % b))]) (by simp [at0, m])]
  rw [seq_nx (η1 := [.own ⟨false, mk (v / b) p s l c⟩, .d (.int b), s2, .d (.int (v % b))]) (by
    rw [xPutS_ok (xs := ⟨false, mk v p s l c⟩) (y := .int (v / b)) (j := 0) (m := 0) (up_ok (by simp [at0, q])) rfl rfl rfl]
    rfl)]
  simp
theorem draw_ok {kx : List D} {b : Int} (hk : Deck kx) (hb : 0 < b ∧ b < 1073741824) : ∃ (i : Int) (kx' : List D), Deck kx' ∧ 0 ≤ i ∧ i < b ∧ F_draw kx [.int b] = .ok (.int i, kx') := by
  obtain ⟨v, p, s, l, c, rfl, hv, hp⟩ := hk
  have key : ∀ (v' p' c' : Int) (s2 : Sl), 0 ≤ v' → 0 ≤ p' → ∀ G : Nv → Rs, (∀ η, G_draw η = seqS G (seqS (setS 3 (e2 modV (eN intV (aC (e2 ixV (go 0) (k0 (.int 0))) a0)) (gv 1))) (seqS (xPutS 0 (up (e2 fdivV (e2 ixV (go 0) (k0 (.int 0))) (gv 1))) (k0 (.int 0))) (seqS (retS (gv 3)) .nx))) η) →
      G [.own ⟨false, mk v p s l c⟩, .d (.int b), .no, .no] = .nx [.own ⟨false, mk v' p' s l c'⟩, .d (.int b), s2, .no] → ∃ (i : Int) (kx' : List D), Deck kx' ∧ 0 ≤ i ∧ i < b ∧ F_draw (mk v p s l c) [.int b] = .ok (.int i, kx') := by
    intro v' p' c' s2 h1 h2 G hG hh
    refine ⟨v' % b, mk (v' / b) p' s l c', ⟨_, _, _, _, _, rfl, Int.ediv_nonneg h1 (by omega), h2⟩, Int.emod_nonneg _ (by omega), Int.emod_lt_of_pos _ hb.1, ?_⟩
    refine runK_rt [.own ⟨false, mk v p s l c⟩, .d (.int b), .no, .no] rfl (by rw [hG, seq_nx hh, tail_ok h1 hb]) rfl
  by_cases h0 : v = 0
  · by_cases h1 : p < l.length
    · refine key (if l.getD p.toNat 0 < 0 then -l.getD p.toNat 0 else l.getD p.toNat 0) (p + 1) c .no (by split <;> omega) (by omega) _ (fun η => rfl) ?_
      subst h0
      have a : atD (l.map PyData.int) p = some (.int (l.getD p.toNat 0)) := atD_nat hp (by
        rw [List.getElem?_map, List.getElem?_eq_getElem (by omega), List.getD_eq_getElem?_getD, List.getElem?_eq_getElem (by omega)]
        rfl)
      have t : (andB (tb (e2 eqV' (e2 ixV (go 0) (k0 (.int 0))) (k0 (.int 0)))) (tb (e2 ltA (e2 ixV (go 0) (k0 (.int 1))) (eN lenV (aC (e2 ixV (go 0) (k0 (.int 3))) a0))))) [.own ⟨false, mk 0 p s l c⟩, .d (.int b), .no, .no] = .ok true := by
        simp [at0, at1, at3, eqV_int, h1]
      rw [ifS_t t]
      rw [seq_nx (η1 := [.own ⟨false, mk (if l.getD p.toNat 0 < 0 then -l.getD p.toNat 0 else l.getD p.toNat 0) p s l c⟩, .d (.int b), .no, .no]) (by
        rw [xPutS_ok (xs := ⟨false, mk 0 p s l c⟩) (y := .int (if l.getD p.toNat 0 < 0 then -l.getD p.toNat 0 else l.getD p.toNat 0)) (j := 0) (m := 0) (up_ok (by simp [at3, at1, a, abs_int, -List.getD_eq_getElem?_getD])) rfl rfl rfl]
        rfl)]
      generalize (if l.getD p.toNat 0 < 0 then -l.getD p.toNat 0 else l.getD p.toNat 0) = w
      rw [seq_nx (η1 := [.own ⟨false, mk w (p + 1) s l c⟩, .d (.int b), .no, .no]) (by
        rw [xPutS_ok (xs := ⟨false, mk w p s l c⟩) (y := .int (p + 1)) (j := 1) (m := 1) (up_ok (by simp [at1])) rfl rfl rfl]
        rfl)]
    · generalize q1 : (s * 48271 + (c + 1) * 69621 + 12345) % 2147483647 = x1
      generalize q2 : (x1 * x1 + 16807 * (c + 1) + 7) % 998244353 = x2
      generalize q3 : (x2 * x2 + 48271 * (c + 1) + s) % 2147483629 = x3
      have b1 : 0 ≤ x1 ∧ x1 < 2147483647 := by omega
      have b2 : 0 ≤ x2 ∧ x2 < 998244353 := by omega
      have b3 : 0 ≤ x3 ∧ x3 < 2147483629 := by omega
      refine key (x3 / 13) p (c + 1) (.d (.int x3)) (by omega) hp _ (fun η => rfl) ?_
      subst h0
      have t : (andB (tb (e2 eqV' (e2 ixV (go 0) (k0 (.int 0))) (k0 (.int 0)))) (tb (e2 ltA (e2 ixV (go 0) (k0 (.int 1))) (eN lenV (aC (e2 ixV (go 0) (k0 (.int 3))) a0))))) [.own ⟨false, mk 0 p s l c⟩, .d (.int b), .no, .no] = .ok false := by
        simp [at0, at1, at3, eqV_int]
        omega
      have t1 : mulV (.int s) (.int 48271) = some (.int (s * 48271)) := mulV_int (.inr (by decide))
      have t2 : mulV (.int (c + 1)) (.int 69621) = some (.int ((c + 1) * 69621)) := mulV_int (.inr (by decide))
      have t3 : mulV (.int x1) (.int x1) = some (.int (x1 * x1)) := mulV_int (.inl (by omega))
      have t4 : mulV (.int 16807) (.int (c + 1)) = some (.int (16807 * (c + 1))) := mulV_int (.inl (by decide))
      have t5 : mulV (.int x2) (.int x2) = some (.int (x2 * x2)) := mulV_int (.inl (by omega))
      have t6 : mulV (.int 48271) (.int (c + 1)) = some (.int (48271 * (c + 1))) := mulV_int (.inl (by decide))
      have m1 : ∀ z : Int, modV (.int z) (.int 2147483647) = some (.int (z % 2147483647)) := fun z => modV_int (by decide)
      have m2 : ∀ z : Int, modV (.int z) (.int 998244353) = some (.int (z % 998244353)) := fun z => modV_int (by decide)
      have m3 : ∀ z : Int, modV (.int z) (.int 2147483629) = some (.int (z % 2147483629)) := fun z => modV_int (by decide)
      have d1 : fdivV (.int x3) (.int 13) = some (.int (x3 / 13)) := fdivV_int (by decide)
      rw [ifS_f t]
      rw [seq_nx (η1 := [.own ⟨false, mk (x3 / 13) p s l (c + 1)⟩, .d (.int b), .d (.int x3), .no]) (by
        have t' : (tb (e2 eqV' (e2 ixV (go 0) (k0 (.int 0))) (k0 (.int 0)))) [.own ⟨false, mk 0 p s l c⟩, .d (.int b), .no, .no] = .ok true := by simp [at0, eqV_int]
        rw [ifS_t t']
        rw [seq_nx (η1 := [.own ⟨false, mk 0 p s l (c + 1)⟩, .d (.int b), .no, .no]) (by
          rw [xPutS_ok (xs := ⟨false, mk 0 p s l c⟩) (y := .int (c + 1)) (j := 4) (m := 4) (up_ok (by simp [at4])) rfl rfl rfl]
          rfl)]
        rw [seq_nx (η1 := [.own ⟨false, mk 0 p s l (c + 1)⟩, .d (.int b), .d (.int x1), .no]) (by simp [at2, at4, t1, t2, m1, q1]),
          seq_nx (η1 := [.own ⟨false, mk 0 p s l (c + 1)⟩, .d (.int b), .d (.int x2), .no]) (by simp [at2, at4, t3, t4, m2, q2]),
          seq_nx (η1 := [.own ⟨false, mk 0 p s l (c + 1)⟩, .d (.int b), .d (.int x3), .no]) (by simp [at2, at4, t5, t6, m3, q3])]
        rw [seq_nx (η1 := [.own ⟨false, mk (x3 / 13) p s l (c + 1)⟩, .d (.int b), .d (.int x3), .no]) (by
          rw [xPutS_ok (xs := ⟨false, mk 0 p s l (c + 1)⟩) (y := .int (x3 / 13)) (j := 0) (m := 0) (up_ok (by simp [d1])) rfl rfl rfl]
          rfl)])]
  · refine key v p c .no hv hp _ (fun η => rfl) ?_
    have t : (andB (tb (e2 eqV' (e2 ixV (go 0) (k0 (.int 0))) (k0 (.int 0)))) (tb (e2 ltA (e2 ixV (go 0) (k0 (.int 1))) (eN lenV (aC (e2 ixV (go 0) (k0 (.int 3))) a0))))) [.own ⟨false, mk v p s l c⟩, .d (.int b), .no, .no] = .ok false := by
      simp [at0, at1, at3, eqV_int, h0]
    have t' : (tb (e2 eqV' (e2 ixV (go 0) (k0 (.int 0))) (k0 (.int 0)))) [.own ⟨false, mk v p s l c⟩, .d (.int b), .no, .no] = .ok false := by simp [at0, eqV_int, h0]
    rw [ifS_f t, seqS_def, ifS_f t']
    rfl
end Dk
end Bd
/-! M4: sums of ascending lists of ints. -/
namespace Bd
open PySem L2

def Asc (l : List Int) : Prop := l.Pairwise (· < ·)
def notIn (b : List Int) (x : Int) : Bool := !b.any (· == x)
theorem notIn_iff {b : List Int} {x : Int} : notIn b x = true ↔ x ∉ b := by
  unfold notIn
  rw [Bool.not_eq_true', List.any_eq_false]
  exact ⟨fun h m => h x m (beq_self_eq_true x), fun h y m e => h (by rw [← eq_of_beq e]; exact m)⟩
def sumL (a b : List Int) : List Int := isort (a.filter (notIn b) ++ b.filter (notIn a))
theorem mem_sumL {a b : List Int} {x : Int} : x ∈ sumL a b ↔ (x ∈ a ∧ x ∉ b) ∨ (x ∈ b ∧ x ∉ a) := by
  unfold sumL
  rw [(isort_perm _).mem_iff, List.mem_append, List.mem_filter, List.mem_filter, notIn_iff, notIn_iff]
theorem Asc.nodup {l : List Int} (h : Asc l) : l.Nodup := h.imp fun z => by omega
theorem sumL_asc {a b : List Int} (ha : Asc a) (hb : Asc b) : Asc (sumL a b) := by
  refine asc_sort (List.nodup_append.mpr ⟨ha.nodup.filter _, hb.nodup.filter _, fun x hx y hy e => ?_⟩)
  have h1 := (List.mem_filter.mp hx).2
  have h2 := (List.mem_filter.mp hy).1
  subst e
  exact notIn_iff.mp h1 h2
theorem asc_ext : ∀ {a b : List Int}, Asc a → Asc b → (∀ x, x ∈ a ↔ x ∈ b) → a = b
  | [], [], _, _, _ => rfl
  | [], y :: b, _, _, h => absurd ((h y).mpr List.mem_cons_self) List.not_mem_nil
  | x :: a, [], _, _, h => absurd ((h x).mp List.mem_cons_self) List.not_mem_nil
  | x :: a, y :: b, ha, hb, h => by
    obtain ⟨ha1, ha2⟩ := List.pairwise_cons.mp ha
    obtain ⟨hb1, hb2⟩ := List.pairwise_cons.mp hb
    have e : x = y := by
      rcases List.mem_cons.mp ((h x).mp List.mem_cons_self) with e | m
      · exact e
      · rcases List.mem_cons.mp ((h y).mpr List.mem_cons_self) with e | m2
        · exact e.symm
        · have := hb1 x m
          have := ha1 y m2
          omega
    subst e
    rw [asc_ext ha2 hb2 fun z => ?_]
    have hz := h z
    rw [List.mem_cons, List.mem_cons] at hz
    constructor
    · intro m
      rcases hz.mp (.inr m) with e | m'
      · have := ha1 z m
        omega
      · exact m'
    · intro m
      rcases hz.mpr (.inr m) with e | m'
      · have := hb1 z m
        omega
      · exact m'
theorem sumL_comm {a b : List Int} (ha : Asc a) (hb : Asc b) : sumL a b = sumL b a := asc_ext (sumL_asc ha hb) (sumL_asc hb ha) fun x => by rw [mem_sumL, mem_sumL]; exact Or.comm
theorem sumL_assoc {a b c : List Int} (ha : Asc a) (hb : Asc b) (hc : Asc c) : sumL (sumL a b) c = sumL a (sumL b c) := asc_ext (sumL_asc (sumL_asc ha hb) hc) (sumL_asc ha (sumL_asc hb hc)) fun x => by
  simp only [mem_sumL]
  by_cases h1 : x ∈ a <;> by_cases h2 : x ∈ b <;> by_cases h3 : x ∈ c <;> simp [h1, h2, h3]
theorem sumL_nil {a : List Int} (ha : Asc a) : sumL [] a = a := asc_ext (sumL_asc .nil ha) ha fun x => by
  rw [mem_sumL]
  simp
theorem sumL_self {a : List Int} (ha : Asc a) : sumL a a = [] := asc_ext (sumL_asc ha ha) .nil fun x => by
  rw [mem_sumL]
  simp
/-! ### as data -/
def tupI (l : List Int) : D := .tuple (l.map PyData.int)
theorem shaped_tup (l : List Int) : SeqAt.shaped (tupI l) = true := by
  unfold SeqAt.shaped tupI
  obtain ⟨h1, h2⟩ := ints_lay l
  simp only [PyData.canLay0, PyData.depth, h1, h2]
  rfl
theorem ints_flat : ∀ l : List Int, (l.map PyData.int).all flatD = true
  | [] => rfl
  | x :: r => by
    rw [List.map_cons, List.all_cons, ints_flat r]
    rfl
theorem notin_tup (a : Int) (l : List Int) : ninV' (.int a) (tupI l) = some (.bool (notIn l a)) := by
  show (if flatD (.int a) = true ∧ (l.map PyData.int).all flatD = true then some ((l.map PyData.int).any fun z => PyData.eqv z (.int a)) else none).map (fun b => PyData.bool !b) = _
  rw [if_pos ⟨rfl, ints_flat l⟩, any_ints]
  rfl
end Bd
/-! X0: the table of a set, laid anew: every slot is met, so each element finds room. -/
namespace Bd
open PySem L2

/-! ### the way through the slots -/
/-! ### a free slot is found -/
/-! ### the elements, one after another -/
structure Sits (m k : Nat) (owner : Array (Option Nat)) : Prop where
  sz : owner.size = m + 1
  pm : (owner.toList.filterMap id).Perm (List.range k)
end Bd
/-! X1: s ^ t of two sets of ints. -/
namespace Bd
open PySem L2 PySem.Spec PyProof.Rows

/-- the set at a as it stands: its parts -/
structure SetS (w : World) (h : Heap) (a : Addr) (o : Obj) (es : Array (Int × Value)) (ep : Nat) (t : SetTable) : Prop where
  ob : h.get? a = some o
  ex : o.ExactSet
  da : o.data = .set es ep t
  gd : ∀ e ∈ es.toList, GoodE e
  nd : (es.toList.map keyOf).Nodup
  sb : es.size < scanBound
  ft : t.fits es.size = true
  ri : Ris t.place.toList
  ld : w.params.followText "set-order" = true ∨ t.led = true
/-- its members -/
def mem (es : Array (Int × Value)) (k : Int) : Bool := decide (k ∈ es.toList.map keyOf)
section
variable {P : Program} {w : World} {A : Around} {E : Value → Shared → Prop} {s : Shared} {a f : Addr} {o og : Obj} {es ef : Array (Int × Value)} {ep epf : Nat} {t tf : SetTable}
theorem SetS.r (R : SetS w s.heap a o es ep t) {S : Int → Bool} (hS : ∀ k, S k = mem es k) : SetR w s.heap a S es.size :=
  ⟨o, es, ep, t, R.ob, R.ex, R.da, R.gd, R.nd, fun k => by rw [hS]; exact decide_eq_true_iff, R.sb, R.ft, rfl, R.ri, R.ld⟩
theorem SetS.of {S : Int → Bool} {n : Nat} {h : Heap} (R : SetR w h a S n) : ∃ o es ep t, SetS w h a o es ep t ∧ es.size = n ∧ ∀ k, S k = mem es k := by
  obtain ⟨o, es, ep, t, h1, h2, h3, h4, h5, h6, h7, h8, h9, h10, h11⟩ := R
  refine ⟨o, es, ep, t, ⟨h1, h2, h3, h4, h5, h7, h8, h10, h11⟩, h9, fun k => ?_⟩
  rw [Bool.eq_iff_iff, h6 k]
  exact decide_eq_true_iff.symm
theorem SetS.at (R : SetS w s.heap a o es ep t) {h : Heap} (e : h.get? a = s.heap.get? a) : SetS w h a o es ep t := { R with ob := e.trans R.ob }
theorem SetS.lt (R : SetS w s.heap a o es ep t) : a < s.heap.objs.size := Heap.lt_size R.ob
theorem SetS.ty (R : SetS w s.heap a o es ep t) : s.TypeIs (.ref a) "set" := ⟨o, R.ob, R.ex.1⟩

/-! ### one taken out -/
/-! ### the walk over one set while another one is filled -/
end
end Bd
/-! X2: s ^ t of two sets of ints: the copy of the one, the other's members turned. -/
namespace Bd
open PySem L2 PySem.Spec PyProof.Rows

section
variable {P : Program} {w : World} {A : Around} {E : Value → Shared → Prop} {s : Shared} {a f : Addr} {o og : Obj} {es ef : Array (Int × Value)} {ep epf : Nat} {t tf : SetTable}

end
end Bd
/-! X3: sets of ints over the hand layer: set(t), s ^ t. -/
namespace Bd
open PySem L2 PySem.Spec PyProof.Rows

/-- the different ones, ascending -/
def sins (k : Int) : List Int → List Int
  | [] => [k]
  | x :: l => if k < x then k :: x :: l else if k = x then x :: l else x :: sins k l
def sset : List Int → List Int
  | [] => []
  | k :: l => sins k (sset l)
theorem mem_sins {k y : Int} : ∀ {l : List Int}, y ∈ sins k l ↔ y = k ∨ y ∈ l
  | [] => by simp [sins]
  | x :: l => by
    unfold sins
    split
    · simp
    · split
      · rename_i h
        subst h
        simp
      · rw [List.mem_cons, mem_sins, List.mem_cons]
        constructor
        · rintro (h | h | h)
          · exact .inr (.inl h)
          · exact .inl h
          · exact .inr (.inr h)
        · rintro (h | h | h)
          · exact .inr (.inl h)
          · exact .inl h
          · exact .inr (.inr h)
theorem sins_asc {k : Int} : ∀ {l : List Int}, Asc l → Asc (sins k l)
  | [], _ => List.pairwise_singleton _ _
  | x :: l, h => by
    obtain ⟨h1, h2⟩ := List.pairwise_cons.mp h
    unfold sins
    split
    · rename_i c
      refine List.pairwise_cons.mpr ⟨fun y hy => ?_, h⟩
      rcases List.mem_cons.mp hy with e | m
      · omega
      · have := h1 y m
        omega
    · split
      · exact h
      · rename_i c d
        refine List.pairwise_cons.mpr ⟨fun y hy => ?_, sins_asc h2⟩
        rcases mem_sins.mp hy with e | m
        · omega
        · exact h1 y m
theorem sset_asc : ∀ l : List Int, Asc (sset l)
  | [] => .nil
  | _ :: l => sins_asc (sset_asc l)
theorem mem_sset {x : Int} : ∀ {l : List Int}, x ∈ sset l ↔ x ∈ l
  | [] => Iff.rfl
  | k :: l => by
    unfold sset
    rw [mem_sins, mem_sset, List.mem_cons]
theorem sins_len {k : Int} : ∀ {l : List Int}, (sins k l).length ≤ l.length + 1
  | [] => Nat.le_refl _
  | x :: l => by
    unfold sins
    split
    · exact Nat.le_refl _
    · split
      · exact Nat.le_succ _
      · rw [List.length_cons, List.length_cons]
        exact Nat.succ_le_succ sins_len
theorem sset_len : ∀ l : List Int, (sset l).length ≤ l.length
  | [] => Nat.le_refl _
  | k :: l => Nat.le_trans sins_len (Nat.succ_le_succ (sset_len l))
/-- the set of the members l, at a -/
def SetL (w : World) (a : Addr) (l : List Int) : HO := SetO w a (fun k => decide (k ∈ l)) l.length
section
variable {X : Cx}
end
end Bd
/-! X4: s ^ t of two sets of ints over the hand layer. -/
namespace Bd
open PySem L2 PySem.Spec PyProof.Rows

section
variable {P : Program} {w : World} {A : Around} {E : Value → Shared → Prop} {s : Shared} {a b : Addr} {o og : Obj} {es ef : Array (Int × Value)} {ep epf : Nat} {t tf : SetTable}
end
section
variable {X : Cx}
end
section
variable {P : Program} {w : World} {A : Around} {E : Value → Shared → Prop} {s : Shared} {a : Addr} {o : Obj} {es : Array (Int × Value)} {ep : Nat} {t : SetTable}
theorem raw_ints : ∀ (l : List Value), (∀ v ∈ l, ∃ k tk, v = Value.int k tk) → IntsAre l (l.map L2.vInt)
  | [], _ => .nil
  | v :: l, h => by
    obtain ⟨k, tk, e⟩ := h v List.mem_cons_self
    subst e
    exact .cons k tk (raw_ints l fun u hu => h u (List.mem_cons_of_mem _ hu))
theorem srt_set {Q : Value → Shared → Prop} (R : SetS w s.heap a o es ep t) (hh : A.handled = none)
    (hQ : ∀ (s' : Shared) (p : Addr) (out : Array Value) (c : Nat) (ns : List Int), (∀ b u, s.heap.get? b = some u → s'.heap.get? b = some u) → s'.gens = s.gens → s'.os = s.os → s.heap.objs.size ≤ p →
      s'.heap.get? p = some (seqObj "list" out c) → IntsAre out.toList ns → ns.Pairwise (· ≤ ·) → ns.Perm (es.toList.map keyOf) → Q (.ref p) s') :
    wpAny (model P w) A (call (.builtin "sorted") [.ref a]) Q E s := by
  refine Calls.call_function_entry kind_sorted plain_sorted entry_sorted (args_sorted1 _) ?_
  unfold Builtin.«sorted»
  refine wpAny_bind (m := checkCount "sorted" 1 1 _) (wpAny_pure (wpAny_bind (collect_set (A := A.in1) hh ⟨o, R.ob, R.ex.1, R.da⟩ R.ft R.sb R.ri R.ld fun s1 vs k1 hz g1 o1 pm => ?_)))
  have hints : IntsAre vs (vs.map L2.vInt) := raw_ints vs fun v hv => by
    obtain ⟨e, he, q⟩ := List.mem_map.mp (pm.mem_iff.mp hv)
    obtain ⟨k, tk, h1, _⟩ := R.gd e he
    exact ⟨k, tk, q.symm.trans h1⟩
  have pk : (vs.map L2.vInt).Perm (es.toList.map keyOf) := by
    have q := pm.map L2.vInt
    rw [List.map_map, show (L2.vInt ∘ fun x : Int × Value => x.2) = keyOf from funext fun e => (key_vInt e).symm] at q
    exact q
  have len : vs.length ≤ sizeLine := by
    rw [pm.length_eq, List.length_map, Array.length_toList]
    exact fits_of_scanBound R.sb
  refine wpAny_bind (wpAny_newList ?_ len)
  have at0 : (s1.heap.push (seqObj "list" vs.toArray 0)).get? s1.heap.objs.size = some (seqObj "list" vs.toArray 0) := Heap.get?_push_size _ rfl
  refine wpAny_bind (wpAny_holding (wpAny_call_entry slot_list_sort ⟨_, at0, rfl⟩ entry_list_sort (SrtO.list_sort_ord SrtO.swo_int at0 len (fun h2 => SrtO.ints_sortable hints h2) fun out h1 h2 => ⟨_, rfl, ?_⟩) (args_list_sort _)))
  obtain ⟨k2, k3, k4⟩ := SrtO.ints_out hints h1 h2
  obtain ⟨c, hc⟩ := sortedHeap_at (vs := vs) (out := out.toArray) at0
  refine wpAny_pure ⟨_, rfl, hQ _ s1.heap.objs.size out.toArray c (out.map SrtO.iv) (fun b u e => ?_) g1 o1 hz hc k2 k4 (k3.trans pk)⟩
  have old := k1 b u e
  have lt := Heap.lt_size old
  show (sortedHeap (s1.heap.push (seqObj "list" vs.toArray 0)) s1.heap.objs.size vs out.toArray).get? b = some u
  rw [sortedHeap_old (Nat.ne_of_lt lt) (by rw [size_push']; exact Nat.lt_succ_of_lt lt), Heap.get?_push_of_some _ old]
end
section
variable {X : Cx}
/-- sorted(set) -/
def rSortL (w : World) : List V → Hp → VK → Prop := fun vs H Q => ∃ p a, vs = [V.ref p] ∧ H p = some (SetL w p a) ∧ Asc a ∧ a.length ≤ 4000 ∧ ∀ z, H z = none → Q (.ref z) (upd H z (.lst (a.map V.int)))
theorem cr_sortL (hc : X.calm = true) : CallR X (.builtin "sorted") (rSortL X.w) := by
  intro pins s σ H vs us Q I r h
  obtain ⟨p, a, rfl, hp, ha, hz, k⟩ := h
  have Rp := setO_get I hp
  obtain ⟨o, es, ep, t, R, z1, m1⟩ := SetS.of Rp
  rw [Vals.ref1 r]
  refine srt_set R (I.ok.hd hc) fun s' z out c ns kp g os lz hg hi le pm => ?_
  have e : ns = a := by
    have nd : ns.Nodup := pm.nodup_iff.mpr R.nd
    refine asc_ext ((le.and nd).imp fun h => by omega) ha fun x => ?_
    rw [pm.mem_iff, ← decide_eq_true_iff (p := x ∈ a), m1 x]
    exact decide_eq_true_iff.symm
  subst e
  have hn : H z = none := I.hok.fresh lz
  have hlen : (ns.map V.int).length ≤ sizeLine := by rw [List.length_map, sizeLine_eq]; omega
  exact ⟨.ref z, upd H z (.lst (ns.map V.int)), I.call' (ch := []) os (Un.laid kp lz hn) (I.hok.laid kp lz ⟨hlen, out.toList, c, vals_of_ints hi, hg⟩) (by rw [g]; exact I.bare) (fun _ z => nomatch z), rfl, k z hn⟩
end
end Bd
/-! D21: sorted(set(a) ^ set(b)), sorted(set(a)), by data. -/
namespace Bd
open PySem L2

section
variable {X : Cx} {W : WX} {a b : Expr} {Fa Fb : Nv → R D} {pos q1 q2 q3 p p1 p2 : Pos}
/-- a set: its members, ascending -/
def rSs (w : World) : Rl := fun H H' A v d => ∃ z l, v = .ref z ∧ d = .list (l.map PyData.int) ∧ Asc l ∧ H z = none ∧ H' z = some (SetL w z l)
theorem ints?_eq : ∀ {ds : List D} {l : List Int}, ints? ds = some l → ds = l.map PyData.int
  | [], l, h => by
    cases (show some [] = some l from h)
    rfl
  | d :: ds, l, h => by
    cases d with
    | int i =>
      have h' : (ints? ds).map (i :: ·) = some l := h
      cases c : ints? ds with
      | none => rw [c] at h'; cases h'
      | some r =>
        rw [c] at h'
        cases h'
        rw [ints?_eq c]
        rfl
    | _ => cases (show none = some l from h)
theorem vals_ints {K : PySem.W.Frag} {H : Hp} : ∀ {vs : List V} {l : List Int}, DpAll K H vs (l.map PyData.int) → vs = l.map V.int
  | [], [], _ => rfl
  | _ :: _, [], h => by cases h
  | [], _ :: _, h => by cases h
  | v :: vs, k :: l, h => by
    cases h with
    | cons h1 h2 =>
      cases h1
      rw [vals_ints h2]
      rfl
def sortSV : D → Option D
  | .list xs => if xs.length ≤ 4000 then some (.list xs) else none
  | _ => none
theorem t_sortS {e : Expr} {Fe : Nv → R D} (hm : X.mg "sorted" = none) (he : PE X e (tR X.K X.mg W (rSs X.w) Fe)) (hc : X.calm = true := by rfl) (hg : Gl X "sorted" := by rfl) (hs : starEach [e] X.env = (false, eval e X.env) :: starEach [] X.env := by rfl) (hpl : (backTo pos (starEach [] X.env)).any (·.1) = false := by rfl) :
    TF X W (.Call (.Name "sorted" p) [e] [] pos) (e1 sortSV Fe) := peW (pe_callB (cr_sortL hc) hg hm (by decide +kernel) (pa_cons he pa_nil hs) (he := hs) (hpl := hpl)) fun σ H Q h => by
  obtain ⟨η, A, E, p0⟩ := h
  have p : Post X.K X.mg W (rF X.K) σ A H ((Fe η).bind fun x => .of (sortSV x)) Q := p0
  refine ⟨η, A, E, ?_⟩
  cases e1 : Fe η with
  | ex c w q => rw [e1] at p; exact p
  | no => rw [e1] at p; exact p
  | ok d1 =>
    rw [e1] at p
    rintro v1 H1 s1 ⟨z1, l1, rfl, rfl, a1, n1, g1⟩
    have p : Post X.K X.mg W (rF X.K) σ A H (.of (if (l1.map PyData.int).length ≤ 4000 then some (PyData.list (l1.map PyData.int)) else none)) Q := p
    split at p
    · rename_i hz
      rw [List.length_map] at hz
      refine ⟨z1, l1, rfl, g1, a1, hz, fun z hn => p _ _ (s1.trans (same_new hn)) ?_⟩
      exact back_F _ _ _ _ _ _ s1 (dp_new_list (E.same s1).tr hn (dpI l1))
    · exact False.elim p
where dpI {K : PySem.W.Frag} {H : Hp} : ∀ l : List Int, DpAll K H (l.map V.int) (l.map PyData.int)
  | [] => .nil
  | n :: ns => .cons (.int n) (dpI ns)
/-! ### reckoned -/
theorem sortSV_ints {a : List Int} (h : a.length ≤ 4000) : sortSV (.list (a.map PyData.int)) = some (.list (a.map PyData.int)) := if_pos (by rw [List.length_map]; exact h)
end
end Bd
/-! D22: a def called with a list of the caller's own: what it answers holds no list, so it can't be that one. -/
namespace Bd
open PySem L2

mutual
/-- no list within -/
def flatT : D → Bool
  | .none => true
  | .bool _ => true
  | .int _ => true
  | .str _ => true
  | .list _ => false
  | .tuple ds => flatTs ds
  | .dict _ => false
def flatTs : List D → Bool
  | [] => true
  | d :: ds => flatT d && flatTs ds
end
section
variable {K : PySem.W.Frag} {H : Hp} {A B : List Addr}
theorem rd_hide {a : Addr} {xs : List V} (hl : ∀ b ∈ A, b ∉ B → ∃ ys, H b = some (.lst ys)) (h : SqT K (hid B H) a xs) : SqT K (hid A H) a xs := by
  have key : ∀ o, (∀ ys, o ≠ HO.lst ys) → hid B H a = some o → hid A H a = some o := fun o no e => by
    obtain ⟨n, e⟩ := hid_some e
    rw [hid_out fun m => ?_]
    · exact e
    · obtain ⟨ys, z⟩ := hl a m n
      rw [e] at z
      exact no ys (Option.some.inj z)
  rcases h with (h | ⟨o, h⟩) | h
  · exact .inl (.inl (key _ (fun ys z => nomatch z) h))
  · exact .inl (.inr ⟨o, key _ (fun ys z => nomatch z) h⟩)
  · exact .inr h
mutual
theorem dp_hide (hl : ∀ b ∈ A, b ∉ B → ∃ ys, H b = some (.lst ys)) : ∀ (d : D) (v : V), flatT d = true → Dp K (hid B H) v d → Dp K (hid A H) v d
  | .none, _, _, h => by cases h; exact .non
  | .bool b, _, _, h => by cases h; exact .bl b
  | .int i, _, _, h => by cases h; exact .int i
  | .str x, _, _, h => by cases h; exact .str x
  | .list ds, _, f, _ => by simp [flatT] at f
  | .tuple ds, _, f, h => by
    cases h with
    | tup h1 h2 => exact .tup (rd_hide hl h1) (dps_hide hl ds _ (by simpa [flatT] using f) h2)
  | .dict _, _, f, _ => by simp [flatT] at f
theorem dps_hide (hl : ∀ b ∈ A, b ∉ B → ∃ ys, H b = some (.lst ys)) : ∀ (ds : List D) (vs : List V), flatTs ds = true → DpAll K (hid B H) vs ds → DpAll K (hid A H) vs ds
  | [], _, _, h => by cases h; exact .nil
  | d :: ds, _, f, h => by
    cases h with
    | cons h1 h2 =>
      rw [flatTs, Bool.and_eq_true] at f
      exact .cons (dp_hide hl d _ f.1 h1) (dps_hide hl ds _ f.2 h2)
end
end
section
variable {X : Cx} {W : WX} {rl : Rl} {e : Expr} {es : List Expr} {x : Str} {p pos : Pos} {f : Addr} {fd : FuncData} {ps : List Str} {k n : Nat} {Fn : List D → R D} {Fs : Nv → R (List D)}
end
end Bd
/-! M5: what the program's sums tell. -/
namespace Bd
open PySem L2
namespace Pg
end Pg
end Bd
/-! M6: what is wanted of an answer, part by part. -/
namespace Bd
open PySem L2

/-- the answer is there and Q holds of it -/
@[irreducible] def Wn {α : Type} (r : R α) (Q : α → Prop) : Prop := match r with
  | .ok a => Q a
  | _ => False
/-- a statement's end: N behind it, T where it returns, B where it breaks off, C where it goes on -/
@[irreducible] def Sn (r : Rs) (N : Nv → Prop) (T : D → Nv → Prop) (B C : Nv → Prop) : Prop := match r with
  | .nx η => N η
  | .rt d η => T d η
  | .bk η => B η
  | .ct η => C η
  | _ => False
theorem Wn.get {α : Type} {r : R α} {Q : α → Prop} (h : Wn r Q) : ∃ a, r = .ok a ∧ Q a := by
  unfold Wn at h
  cases r with
  | ok a => exact ⟨a, rfl, h⟩
  | ex c w p => exact h.elim
  | no => exact h.elim
theorem Wn.mk {α : Type} {r : R α} {Q : α → Prop} {a : α} (e : r = .ok a) (h : Q a) : Wn r Q := by
  rw [e]
  unfold Wn
  exact h
theorem Wn.imp {α : Type} {r : R α} {P Q : α → Prop} (h : Wn r P) (k : ∀ a, P a → Q a) : Wn r Q := by
  obtain ⟨a, e, p⟩ := h.get
  exact .mk e (k a p)
theorem Sn.imp {r : Rs} {N N' B B' C C' : Nv → Prop} {T T' : D → Nv → Prop} (h : Sn r N T B C) (kN : ∀ η, N η → N' η) (kT : ∀ d η, T d η → T' d η) (kB : ∀ η, B η → B' η) (kC : ∀ η, C η → C' η) : Sn r N' T' B' C' := by
  unfold Sn at h ⊢
  cases r with
  | nx η => exact kN η h
  | rt d η => exact kT d η h
  | bk η => exact kB η h
  | ct η => exact kC η h
  | ex c w p => exact h.elim
  | no => exact h.elim
section
variable {α β : Type} {Q : α → Prop} {QD : D → Prop} {QX : D × Nv → Prop} {QB : Bool → Prop} {QY : Bool × Nv → Prop} {QL : List D → Prop} {QM : List D × Nv → Prop} {η : Nv} {N B C : Nv → Prop} {T : D → Nv → Prop}
theorem wn_ok {a : α} : Wn (.ok a) Q ↔ Q a := by first | (unfold Wn; exact Iff.rfl) | (unfold Sn; exact Iff.rfl)
theorem wn_no : Wn (R.no : R α) Q ↔ False := by unfold Wn; exact Iff.rfl
theorem sn_no : Sn .no N T B C ↔ False := by unfold Sn; exact Iff.rfl
theorem sn_nx' : Sn (.nx η) N T B C ↔ N η := by unfold Sn; exact Iff.rfl
theorem wn_bind {r : R β} {f : β → R α} : Wn (r.bind f) Q ↔ Wn r fun b => Wn (f b) Q := by first | (unfold Wn; cases r <;> exact Iff.rfl) | (unfold Sn Wn; cases r <;> exact Iff.rfl)
theorem wn_some {d : D} : Wn (.of (some d)) QD ↔ QD d := by first | (unfold Wn; exact Iff.rfl) | (unfold Sn; exact Iff.rfl)
theorem wn_of {o : Option D} : Wn (.of o) QD ↔ ∃ d, o = some d ∧ QD d := by
  cases o with
  | none => exact ⟨fun h => (wn_no.mp h).elim, fun ⟨_, h, _⟩ => nomatch h⟩
  | some d => exact ⟨fun h => ⟨d, rfl, wn_some.mp h⟩, fun ⟨_, h, q⟩ => by cases h; exact wn_some.mpr q⟩
theorem wn_only {r : R α} : Wn (only r) Q ↔ Wn r Q := by first | (unfold Wn; cases r <;> exact Iff.rfl) | (unfold Sn Wn; cases r <;> exact Iff.rfl)
theorem wn_noex {r : R D} : Wn (noex r) QD ↔ Wn r QD := by first | (unfold Wn; cases r <;> exact Iff.rfl) | (unfold Sn Wn; cases r <;> exact Iff.rfl)
/-! expressions that change nothing -/
theorem wn_e2 {f : D → D → Option D} {Fa Fb : Nv → R D} : Wn (e2 f Fa Fb η) QD ↔ Wn (Fa η) fun a => Wn (Fb η) fun b => Wn (.of (f a b)) QD := by
  rw [e2_def, wn_bind]
  simp only [wn_bind]
theorem wn_e1 {f : D → Option D} {Fa : Nv → R D} : Wn (e1 f Fa η) QD ↔ Wn (Fa η) fun a => Wn (.of (f a)) QD := wn_bind
theorem wn_eN {f : List D → Option D} {Fs : Nv → R (List D)} : Wn (eN f Fs η) QD ↔ Wn (Fs η) fun a => Wn (.of (f a)) QD := wn_bind
theorem wn_a0 : Wn (a0 η) QL ↔ QL [] := by first | (unfold Wn; exact Iff.rfl) | (unfold Sn; exact Iff.rfl)
theorem wn_aC {Fa : Nv → R D} {Fs : Nv → R (List D)} : Wn (aC Fa Fs η) QL ↔ Wn (Fa η) fun a => Wn (Fs η) fun as => QL (a :: as) := by
  rw [aC_def, wn_bind]
  simp only [wn_bind, wn_ok]
theorem wn_call {Fn : List D → R D} {Fs : Nv → R (List D)} : Wn (callV Fn Fs η) QD ↔ Wn (Fs η) fun ds => Wn (Fn ds) QD := by
  rw [callV_def, wn_bind]
  simp only [wn_noex]
theorem wn_tb {F : Nv → R D} : Wn (tb F η) QB ↔ Wn (F η) fun d => Wn (tru d) QB := wn_bind
theorem wn_tup {Fs : Nv → R (List D)} : Wn (tupV Fs η) QD ↔ Wn (Fs η) fun ds => ds.length ≤ lineN ∧ QD (.tuple ds) := by
  rw [tupV_def, wn_bind]
  simp only [wn_of]
  constructor <;> refine fun h => h.imp fun ds h => ?_
  · obtain ⟨d, e, q⟩ := h
    split at e
    · rename_i z
      cases e
      exact ⟨z, q⟩
    · cases e
  · exact ⟨_, if_pos h.1, h.2⟩
theorem wn_lst {Fs : Nv → R (List D)} : Wn (lstV Fs η) QD ↔ Wn (Fs η) fun ds => ds.length ≤ lineN ∧ QD (.list ds) := by
  rw [lstV_def, wn_bind]
  simp only [wn_of]
  constructor <;> refine fun h => h.imp fun ds h => ?_
  · obtain ⟨d, e, q⟩ := h
    split at e
    · rename_i z
      cases e
      exact ⟨z, q⟩
    · cases e
  · exact ⟨_, if_pos h.1, h.2⟩
theorem wn_ite {c : Prop} [Decidable c] {a b : R α} : Wn (if c then a else b) Q ↔ if c then Wn a Q else Wn b Q := by
  split <;> exact Iff.rfl
theorem wn_andB {Ga Gb : Nv → R Bool} : Wn (andB Ga Gb η) QB ↔ Wn (Ga η) fun k => if k = true then Wn (Gb η) QB else QB false := by
  rw [andB_def, wn_bind]
  simp only [wn_ite, wn_ok]
theorem wn_orB {Ga Gb : Nv → R Bool} : Wn (orB Ga Gb η) QB ↔ Wn (Ga η) fun k => if k = true then QB true else Wn (Gb η) QB := by
  rw [orB_def, wn_bind]
  simp only [wn_ite, wn_ok]
theorem wn_notB {Ga : Nv → R Bool} : Wn (notB Ga η) QB ↔ Wn (Ga η) fun k => QB !k := by
  rw [notB_def, wn_bind]
  simp only [wn_ok]
theorem wn_andV {Fa Fb : Nv → R D} : Wn (andV Fa Fb η) QD ↔ Wn (Fa η) fun x => Wn (tru x) fun k => if k = true then Wn (Fb η) QD else QD x := by
  rw [andV_def, wn_bind]
  simp only [wn_bind, wn_ite, wn_ok]
theorem wn_orV {Fa Fb : Nv → R D} : Wn (orV Fa Fb η) QD ↔ Wn (Fa η) fun x => Wn (tru x) fun k => if k = true then QD x else Wn (Fb η) QD := by
  rw [orV_def, wn_bind]
  simp only [wn_bind, wn_ite, wn_ok]
theorem wn_notV {Fa : Nv → R D} : Wn (notV Fa η) QD ↔ Wn (Fa η) fun x => Wn (tru x) fun k => QD (.bool !k) := by
  rw [notV_def, wn_bind]
  simp only [wn_bind, wn_ok]
theorem wn_ifV {G : Nv → R Bool} {Fa Fb : Nv → R D} : Wn (ifV G Fa Fb η) QD ↔ Wn (G η) fun k => if k = true then Wn (Fa η) QD else Wn (Fb η) QD := by
  rw [ifV_def, wn_bind]
  simp only [wn_ite]
theorem wn_iA {F : Nv → R D} : Wn (iA F η) QL ↔ Wn (F η) fun d => Wn (asSeq d) QL := wn_bind
theorem wn_iR1 {Fs : Nv → R (List D)} : Wn (iR1 Fs η) QL ↔ Wn (Fs η) fun d => Wn (rng1 d) QL := wn_bind
theorem wn_iR2 {Fs : Nv → R (List D)} : Wn (iR2 Fs η) QL ↔ Wn (Fs η) fun d => Wn (rng2 d) QL := wn_bind
theorem wn_iZ {Fs : Nv → R (List D)} : Wn (iZ Fs η) QL ↔ Wn (Fs η) fun d => Wn (zip2 d) QL := wn_bind
theorem wn_iEn {Fs : Nv → R (List D)} : Wn (iEn Fs η) QL ↔ Wn (Fs η) fun d => Wn (enum1 d) QL := wn_bind
theorem wn_iRR {F : Nv → R D} : Wn (iRR F η) QL ↔ Wn (F η) fun d => Wn (rr1 d) QL := wn_bind
theorem wn_sl {sl : Option Int → Option Int → D → Option D} {F : Nv → R D} {Lo Hi : Nv → R (Option Int)} : Wn (slE sl F Lo Hi η) QD ↔ Wn (F η) fun x => Wn (Lo η) fun l => Wn (Hi η) fun h => Wn (.of (sl l h x)) QD := by
  rw [slE_def, wn_bind]
  simp only [wn_bind]
theorem wn_p0 {Q : Option Int → Prop} : Wn (p0 η) Q ↔ Q none := by first | (unfold Wn; exact Iff.rfl) | (unfold Sn; exact Iff.rfl)
theorem wn_p1 {F : Nv → R D} {Q : Option Int → Prop} : Wn (p1 F η) Q ↔ Wn (F η) fun d => Wn (asInt d) Q := wn_bind
theorem wn_rng1 {n : Int} (h0 : 0 ≤ n) (h : n < 1000000) : Wn (rng1 [.int n]) QL ↔ QL (rangeD 0 n.toNat) := by
  rw [rng1_ok h0 h]
  all_goals first | exact Iff.rfl | (unfold Sn; exact Iff.rfl) | (unfold Wn; exact Iff.rfl)
/-! expressions that change lists -/
theorem wn_up {F : Nv → R D} : Wn (up F η) QX ↔ Wn (F η) fun d => QX (d, η) := by
  unfold up
  first | (unfold Wn; cases F η <;> exact Iff.rfl) | (unfold Sn; cases F η <;> exact Iff.rfl)
theorem wn_upB {G : Nv → R Bool} : Wn (upB G η) QY ↔ Wn (G η) fun d => QY (d, η) := by
  unfold upB
  first | (unfold Wn; cases G η <;> exact Iff.rfl) | (unfold Sn; cases G η <;> exact Iff.rfl)
theorem wn_upI {F : Nv → R (List D)} : Wn (upI F η) QM ↔ Wn (F η) fun d => QM (d, η) := by
  unfold upI
  first | (unfold Wn; cases F η <;> exact Iff.rfl) | (unfold Sn; cases F η <;> exact Iff.rfl)
theorem wn_x2 {f : D → D → Option D} {Fa Fb : Nv → R (D × Nv)} : Wn (x2 f Fa Fb η) QX ↔ Wn (Fa η) fun p => Wn (Fb p.2) fun q => Wn (.of (f p.1 q.1)) fun d => QX (d, q.2) := by
  unfold x2
  rw [wn_bind]
  simp only [wn_bind, wn_ok]
theorem wn_x0 : Wn (x0 η) QM ↔ QM ([], η) := by first | (unfold Wn; exact Iff.rfl) | (unfold Sn; exact Iff.rfl)
theorem wn_xC {Fa : Nv → R (D × Nv)} {Fs : Nv → R (List D × Nv)} : Wn (xC Fa Fs η) QM ↔ Wn (Fa η) fun p => Wn (Fs p.2) fun q => QM (p.1 :: q.1, q.2) := by
  unfold xC
  rw [wn_bind]
  simp only [wn_bind, wn_ok]
theorem wn_xN {f : List D → Option D} {Fs : Nv → R (List D × Nv)} : Wn (xN f Fs η) QX ↔ Wn (Fs η) fun p => Wn (.of (f p.1)) fun d => QX (d, p.2) := by
  unfold xN
  rw [wn_bind]
  simp only [wn_bind, wn_ok]
theorem wn_xb {F : Nv → R (D × Nv)} : Wn (xb F η) QY ↔ Wn (F η) fun p => Wn (tru p.1) fun k => QY (k, p.2) := by
  unfold xb
  rw [wn_bind]
  simp only [wn_bind, wn_ok]
theorem wn_xAnd {Ga Gb : Nv → R (Bool × Nv)} : Wn (xAnd Ga Gb η) QY ↔ Wn (Ga η) fun p => if p.1 = true then Wn (Gb p.2) QY else QY (false, p.2) := by
  unfold xAnd
  rw [wn_bind]
  simp only [wn_ite, wn_ok]
theorem wn_xOr {Ga Gb : Nv → R (Bool × Nv)} : Wn (xOr Ga Gb η) QY ↔ Wn (Ga η) fun p => if p.1 = true then QY (true, p.2) else Wn (Gb p.2) QY := by
  unfold xOr
  rw [wn_bind]
  simp only [wn_ite, wn_ok]
theorem wn_xNot {Ga : Nv → R (Bool × Nv)} : Wn (xNot Ga η) QY ↔ Wn (Ga η) fun p => QY (!p.1, p.2) := by
  unfold xNot
  rw [wn_bind]
  simp only [wn_ok]
theorem wn_xIf {G : Nv → R (Bool × Nv)} {Fa Fb : Nv → R (D × Nv)} : Wn (xIf G Fa Fb η) QX ↔ Wn (G η) fun p => if p.1 = true then Wn (Fa p.2) QX else Wn (Fb p.2) QX := by
  unfold xIf
  rw [wn_bind]
  simp only [wn_ite]
theorem wn_xCall {Fn : List D → R D} {Fs : Nv → R (List D × Nv)} : Wn (xCall Fn Fs η) QX ↔ Wn (Fs η) fun p => Wn (Fn p.1) fun d => QX (d, p.2) := by
  unfold xCall
  rw [wn_bind]
  simp only [wn_bind, wn_noex, wn_ok]
theorem wn_xR1 {Fs : Nv → R (List D × Nv)} : Wn (xR1 Fs η) QM ↔ Wn (Fs η) fun p => Wn (rng1 p.1) fun d => QM (d, p.2) := by
  unfold xR1
  rw [wn_bind]
  simp only [wn_bind, wn_ok]
theorem wn_xR2 {Fs : Nv → R (List D × Nv)} : Wn (xR2 Fs η) QM ↔ Wn (Fs η) fun p => Wn (rng2 p.1) fun d => QM (d, p.2) := by
  unfold xR2
  rw [wn_bind]
  simp only [wn_bind, wn_ok]
/-- a def that changes its first list: the list there, and what it does -/
theorem wn_callK {i : Nat} {Fk : List D → List D → R (D × List D)} {Fs : Nv → R (List D × Nv)} {o : OL} (h0 : η[i]? = some (.own o)) (h : Wn (Fs η) fun p => ∃ xs, p.2[i]? = some (.own xs) ∧ Wn (Fk xs.l p.1) fun r => QX (r.1, p.2.set i (.own ⟨xs.b, r.2⟩))) : Wn (xCallK i Fk Fs η) QX := by
  unfold xCallK
  rw [h0]
  show Wn ((Fs η).bind (xPut i Fk)) QX
  rw [wn_bind]
  refine h.imp fun p ⟨xs, e, q⟩ => ?_
  unfold xPut
  rw [e]
  show Wn ((Fk xs.l p.1).bind _) QX
  simp only [wn_bind, wn_ok]
  exact q
/-! statements -/
theorem sn_nx : Sn (.nx η) N T B C ↔ N η := by first | (unfold Wn; exact Iff.rfl) | (unfold Sn; exact Iff.rfl)
theorem sn_rt {d : D} : Sn (.rt d η) N T B C ↔ T d η := by first | (unfold Wn; exact Iff.rfl) | (unfold Sn; exact Iff.rfl)
theorem sn_bk : Sn (.bk η) N T B C ↔ B η := by first | (unfold Wn; exact Iff.rfl) | (unfold Sn; exact Iff.rfl)
theorem sn_ct : Sn (.ct η) N T B C ↔ C η := by first | (unfold Wn; exact Iff.rfl) | (unfold Sn; exact Iff.rfl)
theorem sn_seq {Gs Gt : Nv → Rs} : Sn (seqS Gs Gt η) N T B C ↔ Sn (Gs η) (fun η1 => Sn (Gt η1) N T B C) T B C := by
  rw [seqS_def]
  first | (unfold Wn; cases Gs η <;> exact Iff.rfl) | (unfold Sn; cases Gs η <;> exact Iff.rfl)
theorem sn_toS {r : R α} {f : α → Rs} : Sn (r.toS f) N T B C ↔ Wn r fun a => Sn (f a) N T B C := by first | (unfold Wn; cases r <;> exact Iff.rfl) | (unfold Sn Wn; cases r <;> exact Iff.rfl)
theorem sn_ite {c : Prop} [Decidable c] {a b : Rs} : Sn (if c then a else b) N T B C ↔ if c then Sn a N T B C else Sn b N T B C := by
  split <;> exact Iff.rfl
theorem sn_set {i : Nat} {F : Nv → R D} : Sn (setS i F η) N T B C ↔ Wn (F η) fun d => N (η.set i (.d d)) := by
  rw [setS_def, sn_toS]
  all_goals first | exact Iff.rfl | (unfold Sn; exact Iff.rfl) | (unfold Wn; exact Iff.rfl)
theorem sn_ret {F : Nv → R D} : Sn (retS F η) N T B C ↔ Wn (F η) fun d => T d η := by
  rw [retS_def, sn_toS]
  all_goals first | exact Iff.rfl | (unfold Sn; exact Iff.rfl) | (unfold Wn; exact Iff.rfl)
theorem sn_expr {F : Nv → R D} : Sn (exprS F η) N T B C ↔ Wn (F η) fun _ => N η := by
  rw [exprS_def, sn_toS]
  all_goals first | exact Iff.rfl | (unfold Sn; exact Iff.rfl) | (unfold Wn; exact Iff.rfl)
theorem sn_if {G : Nv → R Bool} {Gs Gt : Nv → Rs} : Sn (ifS G Gs Gt η) N T B C ↔ Wn (G η) fun k => if k = true then Sn (Gs η) N T B C else Sn (Gt η) N T B C := by
  rw [ifS_def, sn_toS]
  simp only [sn_ite]
theorem sn_for {Fi : Nv → R (List D)} {Tg : Tgt} {Gb : Nv → Rs} : Sn (forS Fi Tg Gb η) N T B C ↔ Wn (Fi η) fun xs => Sn (loopG Tg Gb xs η) N T B C := by
  rw [forS_def, sn_toS]
theorem sn_xSet {i : Nat} {F : Nv → R (D × Nv)} : Sn (xSet i F η) N T B C ↔ Wn (F η) fun p => N (p.2.set i (.d p.1)) := by
  unfold xSet
  rw [sn_toS, wn_only]
  all_goals first | exact Iff.rfl | (unfold Sn; exact Iff.rfl) | (unfold Wn; exact Iff.rfl)
theorem sn_xRet {F : Nv → R (D × Nv)} : Sn (xRet F η) N T B C ↔ Wn (F η) fun p => T p.1 p.2 := by
  unfold xRet
  rw [sn_toS, wn_only]
  all_goals first | exact Iff.rfl | (unfold Sn; exact Iff.rfl) | (unfold Wn; exact Iff.rfl)
theorem sn_xExpr {F : Nv → R (D × Nv)} : Sn (xExpr F η) N T B C ↔ Wn (F η) fun p => N p.2 := by
  unfold xExpr
  rw [sn_toS, wn_only]
  all_goals first | exact Iff.rfl | (unfold Sn; exact Iff.rfl) | (unfold Wn; exact Iff.rfl)
theorem sn_xIf {G : Nv → R (Bool × Nv)} {Gs Gt : Nv → Rs} : Sn (xIfS G Gs Gt η) N T B C ↔ Wn (G η) fun p => if p.1 = true then Sn (Gs p.2) N T B C else Sn (Gt p.2) N T B C := by
  unfold xIfS
  rw [sn_toS, wn_only]
  simp only [sn_ite]
theorem sn_xFor {Fi : Nv → R (List D × Nv)} {Tg : Tgt} {Gb : Nv → Rs} : Sn (xFor Fi Tg Gb η) N T B C ↔ Wn (Fi η) fun p => Sn (loopG Tg Gb p.1 p.2) N T B C := by
  unfold xFor
  rw [sn_toS, wn_only]
theorem sn_asg {Tg : Tgt} {F : Nv → R D} : Sn (asgS Tg F η) N T B C ↔ Wn (F η) fun d => ∃ η1, Tg d η = some η1 ∧ N η1 := by
  unfold asgS
  rw [sn_toS]
  constructor <;> refine fun h => h.imp fun d h => ?_
  · split at h
    · rename_i e
      exact ⟨_, e, sn_nx'.mp h⟩
    · exact (sn_no.mp h).elim
  · obtain ⟨η1, e, h⟩ := h
    rw [e]
    exact sn_nx'.mpr h
theorem sn_xAsg {Tg : Tgt} {F : Nv → R (D × Nv)} : Sn (xAsg Tg F η) N T B C ↔ Wn (F η) fun p => ∃ η1, Tg p.1 p.2 = some η1 ∧ N η1 := by
  unfold xAsg
  rw [sn_toS, wn_only]
  constructor <;> refine fun h => h.imp fun d h => ?_
  · split at h
    · rename_i e
      exact ⟨_, e, sn_nx'.mp h⟩
    · exact (sn_no.mp h).elim
  · obtain ⟨η1, e, h⟩ := h
    rw [e]
    exact sn_nx'.mpr h
theorem sn_own {i : Nat} {F : Nv → R D} : Sn (ownS i F η) N T B C ↔ Wn (F η) fun d => ∃ xs, d = .list xs ∧ N (η.set i (.own ⟨true, xs⟩)) := by
  unfold ownS
  rw [sn_toS]
  constructor <;> refine fun h => h.imp fun d h => ?_
  · split at h
    · exact ⟨_, rfl, sn_nx'.mp h⟩
    · exact (sn_no.mp h).elim
  · obtain ⟨xs, rfl, h⟩ := h
    exact sn_nx'.mpr h
theorem sn_xOwn {i : Nat} {F : Nv → R (D × Nv)} : Sn (xOwn i F η) N T B C ↔ Wn (F η) fun p => ∃ xs, p.1 = .list xs ∧ N (p.2.set i (.own ⟨true, xs⟩)) := by
  unfold xOwn
  rw [sn_toS, wn_only]
  constructor <;> refine fun h => h.imp fun p h => ?_
  · split at h
    · rename_i e
      exact ⟨_, e, sn_nx'.mp h⟩
    · exact (sn_no.mp h).elim
  · obtain ⟨xs, e, h⟩ := h
    rw [e]
    exact sn_nx'.mpr h
theorem sn_app {i : Nat} {F : Nv → R D} {xs : OL} (h0 : η[i]? = some (.own xs)) (h : Wn (F η) fun y => xs.l.length < lineN ∧ N (η.set i (.own ⟨xs.b, xs.l ++ [y]⟩))) : Sn (appS i F η) N T B C := by
  obtain ⟨y, e, hl, q⟩ := h.get
  rw [appS_own i F η xs y h0 e hl]
  exact sn_nx'.mpr q
theorem sn_xApp {i : Nat} {F : Nv → R (D × Nv)} {o : OL} (h0 : η[i]? = some (.own o)) (h : Wn (F η) fun p => ∃ xs, p.2[i]? = some (.own xs) ∧ xs.l.length < lineN ∧ N (p.2.set i (.own ⟨xs.b, xs.l ++ [p.1]⟩))) : Sn (xApp i F η) N T B C := by
  unfold xApp
  rw [h0]
  show Sn ((only (F η)).toS (appX i)) N T B C
  rw [sn_toS, wn_only]
  refine h.imp fun p ⟨xs, e, hl, q⟩ => ?_
  unfold appX
  rw [e]
  show Sn (if xs.l.length < lineN then _ else _) N T B C
  rw [if_pos hl]
  exact sn_nx'.mpr q
theorem sn_frz {i : Nat} {xs : List D} (h0 : η[i]? = some (.own ⟨true, xs⟩)) (h : N (η.set i (.d (.list xs)))) : Sn (frzS i η) N T B C := by
  rw [frz_ok h0]
  exact sn_nx'.mpr h
theorem sn_retO {i : Nat} {xs : List D} (h0 : η[i]? = some (.own ⟨true, xs⟩)) (h : T (.list xs) η) : Sn (retO i η) N T B C := by
  rw [retO_own i η xs h0]
  exact sn_rt.mpr h
/-- THE LOOP: I of what is left -/
theorem sn_loop {Tg : Tgt} {Gb : Nv → Rs} (I : List D → Nv → Prop) (step : ∀ x rest η, I (x :: rest) η → ∃ η1, Tg x η = some η1 ∧ Sn (Gb η1) (I rest) T N (I rest)) (fin : ∀ η, I [] η → N η) : ∀ (xs : List D) (η : Nv), I xs η → Sn (loopG Tg Gb xs η) N T B C
  | [], η, h => sn_nx'.mpr (fin η h)
  | x :: xs, η, h => by
    obtain ⟨η1, e, k⟩ := step x xs η h
    rw [loopG_cons (η1 := η1) (h := e)]
    cases q : Gb η1 with
    | nx η2 => rw [q] at k; exact sn_loop I step fin xs η2 (sn_nx'.mp k)
    | ct η2 => rw [q] at k; exact sn_loop I step fin xs η2 (sn_ct.mp k)
    | bk η2 => rw [q] at k; exact sn_nx'.mpr (sn_bk.mp k)
    | rt d η2 => rw [q] at k; exact sn_rt.mpr (sn_rt.mp k)
    | ex c w p => rw [q] at k; unfold Sn at k; exact k.elim
    | no => rw [q] at k; exact (sn_no.mp k).elim
/-- a comprehension that changes nothing: what is picked, what is told of it -/
theorem wn_comp {Fi : Nv → R (List D)} {Tg : Tgt} {Cn : Nv → R Bool} {El : Nv → R D} {vs : List Nat} {xs : List D} (c : D → Bool) (g : D → D) (hi : Wn (Fi η) (· = xs))
    (step : ∀ x ∈ xs, ∃ η1, Tg x (wipeE η vs) = some η1 ∧ Wn (Cn η1) fun b => b = c x ∧ (b = true → Wn (El η1) (· = g x))) (hz : xs.length ≤ lineN) (q : QD (.list ((xs.filter c).map g))) : Wn (compE Fi Tg Cn El vs η) QD := by
  obtain ⟨ys, e, rfl⟩ := hi.get
  refine Wn.mk (compE_ok e (compD_filter (c := c) (g := g) ys fun x m => ?_) ?_) q
  · obtain ⟨η1, e1, k⟩ := step x m
    obtain ⟨b, e2, rfl, k⟩ := k.get
    refine ⟨η1, e1, e2, fun hb => ?_⟩
    obtain ⟨y, e3, rfl⟩ := (k hb).get
    exact e3
  · rw [List.length_map]
    exact Nat.le_trans (List.length_filter_le _ _) hz
/-! defs -/
theorem wn_runD {m : Nat} {fall : R D} {G : Nv → Rs} {ds : List D} (h : Sn (G (initD m ds)) (fun _ => False) (fun d _ => QD d) (fun _ => False) (fun _ => False)) : Wn (runD m fall G ds) QD := by
  unfold runD
  unfold Sn at h
  cases e : G (initD m ds) with
  | rt d η => rw [e] at h; exact wn_ok.mpr h
  | nx η => rw [e] at h; exact h.elim
  | bk η => rw [e] at h; exact h.elim
  | ct η => rw [e] at h; exact h.elim
  | ex c w p => rw [e] at h; exact h.elim
  | no => rw [e] at h; exact h.elim
theorem wn_runK {m : Nat} {G : Nv → Rs} {kx ds : List D} {QK : D × List D → Prop} (h : Sn (G (initK m kx ds)) (fun _ => False) (fun d η => ∃ kx', η[(0 : Nat)]? = some (.own ⟨false, kx'⟩) ∧ QK (d, kx')) (fun _ => False) (fun _ => False)) : Wn (runK m G kx ds) QK := by
  unfold runK
  unfold Sn at h
  cases e : G (initK m kx ds) with
  | rt d η =>
    rw [e] at h
    obtain ⟨kx', h1, h2⟩ := h
    show Wn (outK d η) QK
    unfold outK
    rw [h1]
    exact wn_ok.mpr h2
  | nx η => rw [e] at h; exact h.elim
  | bk η => rw [e] at h; exact h.elim
  | ct η => rw [e] at h; exact h.elim
  | ex c w p => rw [e] at h; exact h.elim
  | no => rw [e] at h; exact h.elim
/-- a draw -/
theorem wn_draw {kx : List D} {b : Int} {QK : D × List D → Prop} (hk : Dk.Deck kx) (hb : 0 < b ∧ b < 1073741824) (k : ∀ i kx', Dk.Deck kx' → 0 ≤ i → i < b → QK (.int i, kx')) : Wn (Dk.F_draw kx [.int b]) QK := by
  obtain ⟨i, kx', h1, h2, h3, h4⟩ := Dk.draw_ok hk hb
  exact Wn.mk h4 (k i kx' h1 h2 h3)
end

end Bd
/-! M7: more of how the parts are reckoned. -/
namespace Bd
open PySem L2

theorem gT2 {i j : Nat} {a b : D} {η : Nv} : gT 2 (gsC (gN i) (gsC (gN j) gs0)) (.tuple [a, b]) η = some ((η.set i (.d a)).set j (.d b)) := rfl
theorem gT3 {i j k : Nat} {a b c : D} {η : Nv} : gT 3 (gsC (gN i) (gsC (gN j) (gsC (gN k) gs0))) (.tuple [a, b, c]) η = some (((η.set i (.d a)).set j (.d b)).set k (.d c)) := rfl
theorem eqv_ints : ∀ a b : List Int, PyData.eqvAll (a.map PyData.int) (b.map PyData.int) = decide (a = b)
  | [], [] => rfl
  | [], y :: b => rfl
  | x :: a, [] => rfl
  | x :: a, y :: b => by
    show (PyData.eqv (.int x) (.int y) && PyData.eqvAll (a.map PyData.int) (b.map PyData.int)) = _
    rw [eqv_ints a b]
    have e : PyData.eqv (.int x) (.int y) = decide (x = y) := by
      unfold PyData.eqv
      rw [Bool.eq_iff_iff]
      simp
    rw [e, Bool.eq_iff_iff]
    simp
theorem eqv_tup (a b : List Int) : PyData.eqv (tupI a) (tupI b) = decide (a = b) := by
  show PyData.eqvAll (a.map PyData.int) (b.map PyData.int) = _
  exact eqv_ints a b
theorem eqV_tup (a b : List Int) : eqV' (tupI a) (tupI b) = some (.bool (decide (a = b))) := by
  unfold eqV'
  split
  · rename_i h1 h2
    cases h1
  · rw [if_pos ⟨shaped_tup a, shaped_tup b⟩, eqv_tup]
theorem neV_tup (a b : List Int) : neV' (tupI a) (tupI b) = some (.bool (!decide (a = b))) := by
  unfold neV'
  split
  · rename_i h1 h2
    cases h1
  · rw [if_pos ⟨shaped_tup a, shaped_tup b⟩, eqv_tup]
theorem any_mem (a : Int) (l : List Int) : l.any (· == a) = decide (a ∈ l) := by
  rw [Bool.eq_iff_iff, List.any_eq_true, decide_eq_true_iff]
  constructor
  · rintro ⟨x, m, e⟩
    rw [← eq_of_beq e]
    exact m
  · exact fun m => ⟨a, m, beq_self_eq_true a⟩
theorem in_tup (a : Int) (l : List Int) : inV' (.int a) (tupI l) = some (.bool (decide (a ∈ l))) := by
  show (if flatD (.int a) = true ∧ (l.map PyData.int).all flatD = true then some ((l.map PyData.int).any fun z => PyData.eqv z (.int a)) else none).map PyData.bool = _
  rw [if_pos ⟨rfl, ints_flat l⟩, any_ints, any_mem]
  rfl
theorem notin_tup' (a : Int) (l : List Int) : ninV' (.int a) (tupI l) = some (.bool (!decide (a ∈ l))) := by
  rw [notin_tup, notIn, any_mem]
/-- within a line of numbers -/
structure InU (U : List Int) (l : List Int) : Prop where
  asc : Asc l
  sub : ∀ x ∈ l, x ∈ U
theorem InU.nil {U : List Int} : InU U [] := ⟨.nil, fun _ m => absurd m List.not_mem_nil⟩
theorem InU.sum {U a b : List Int} (ha : InU U a) (hb : InU U b) : InU U (sumL a b) := ⟨sumL_asc ha.asc hb.asc, fun x m => by
  rcases mem_sumL.mp m with ⟨m, _⟩ | ⟨m, _⟩
  · exact ha.sub x m
  · exact hb.sub x m⟩
theorem asc_le : ∀ {a b : List Int}, Asc a → Asc b → (∀ x ∈ a, x ∈ b) → a.length ≤ b.length
  | [], _, _, _, _ => Nat.zero_le _
  | x :: a, [], _, _, h => absurd (h x List.mem_cons_self) List.not_mem_nil
  | x :: a, y :: b, ha, hb, h => by
    obtain ⟨ha1, ha2⟩ := List.pairwise_cons.mp ha
    obtain ⟨hb1, hb2⟩ := List.pairwise_cons.mp hb
    rw [List.length_cons, List.length_cons]
    refine Nat.succ_le_succ (asc_le ha2 hb2 fun z m => ?_)
    have lt := ha1 z m
    rcases List.mem_cons.mp (h z (List.mem_cons_of_mem _ m)) with e | m'
    · subst e
      rcases List.mem_cons.mp (h x List.mem_cons_self) with e | m2
      · omega
      · have := hb1 x m2
        omega
    · exact m'
theorem InU.len {U a : List Int} (h : InU U a) (hU : Asc U) : a.length ≤ U.length := asc_le h.asc hU h.sub
theorem Wn.eq {α : Type} {r : R α} {a : α} (h : Wn r (· = a)) : r = .ok a := by
  obtain ⟨b, e, rfl⟩ := h.get
  exact e
/-- a draw from the deck at s -/
theorem wn_drw {s : Nat} {b : Int} {η : Nv} {o : OL} {QX : D × Nv → Prop} (h0 : η[s]? = some (.own o)) (hk : Dk.Deck o.l) (hb : 0 < b ∧ b < 1073741824) (k : ∀ i kx', Dk.Deck kx' → 0 ≤ i → i < b → QX (.int i, η.set s (.own ⟨o.b, kx'⟩))) :
    Wn (xCallK s Dk.F_draw (xC (up (k0 (.int b))) x0) η) QX := by
  refine wn_callK h0 ?_
  rw [wn_xC, wn_up, k0_def, wn_ok, wn_x0]
  show ∃ xs, η[s]? = some (.own xs) ∧ Wn (Dk.F_draw xs.l [.int b]) _
  exact ⟨o, h0, wn_draw hk hb k⟩
theorem sn_xIns {i : Nat} {Fs : Nv → R (List D × Nv)} {o : OL} {η : Nv} {N B C : Nv → Prop} {T : D → Nv → Prop} (h0 : η[i]? = some (.own o)) (h : Wn (Fs η) fun p => ∃ xs j y, p.1 = [.int j, y] ∧ p.2[i]? = some (.own xs) ∧ 0 ≤ j ∧ j < 2 ^ 63 ∧ xs.l.length < lineN ∧ N (p.2.set i (.own ⟨xs.b, xs.l.take j.toNat ++ [y] ++ xs.l.drop j.toNat⟩))) :
    Sn (xIns i Fs η) N T B C := by
  unfold xIns
  rw [h0]
  show Sn ((only (Fs η)).toS (insAt i)) N T B C
  rw [sn_toS, wn_only]
  refine h.imp fun p ⟨xs, j, y, e1, e2, h1, h2, h3, q⟩ => ?_
  unfold insAt
  rw [e1, e2]
  show Sn (if _ then _ else _) N T B C
  rw [if_pos ⟨h1, h2, h3⟩]
  exact sn_nx'.mpr q
theorem fine_row {U l : List Int} (h : InU U l) (hU : Asc U) (lU : U.length < 128) (b : ∀ x ∈ U, -1000000000000 < x ∧ x < 1000000000000) : Fine 1 6000 (tupI l) := by
  have f := fine_tuple (k := 0) (n := 41) (xs := l.map PyData.int) fun d m => by
    obtain ⟨x, mx, rfl⟩ := List.mem_map.mp m
    exact fine_int (b x (h.sub x mx)).1 (b x (h.sub x mx)).2
  have z := h.len hU
  refine f.mono (Nat.le_refl _) ?_
  rw [List.length_map]
  omega
end Bd
/-! N1: sums of rows: what they make, and how many of them do. -/
namespace Bd
open PySem L2

abbrev Row := List Int
def AscR (rs : List Row) : Prop := ∀ r ∈ rs, Asc r
/-- all sums of some of the rows, each once -/
def spanL : List Row → List Row
  | [] => [[]]
  | r :: rs => if r ∈ spanL rs then spanL rs else spanL rs ++ (spanL rs).map (sumL r)
theorem span_asc : ∀ {rs : List Row}, AscR rs → ∀ x ∈ spanL rs, Asc x
  | [], _, x, h => by
    rw [List.mem_singleton.mp h]
    exact .nil
  | r :: rs, hr, x, h => by
    have ih := span_asc (rs := rs) fun y m => hr y (List.mem_cons_of_mem _ m)
    unfold spanL at h
    split at h
    · exact ih x h
    · rcases List.mem_append.mp h with h | h
      · exact ih x h
      · obtain ⟨y, hy, rfl⟩ := List.mem_map.mp h
        exact sumL_asc (hr r List.mem_cons_self) (ih y hy)
theorem AscR.tail {r : Row} {rs : List Row} (h : AscR (r :: rs)) : AscR rs := fun y m => h y (List.mem_cons_of_mem _ m)
theorem AscR.head {r : Row} {rs : List Row} (h : AscR (r :: rs)) : Asc r := h r List.mem_cons_self
theorem nil_span : ∀ rs : List Row, [] ∈ spanL rs
  | [] => List.mem_singleton.mpr rfl
  | r :: rs => by
    unfold spanL
    split
    · exact nil_span rs
    · exact List.mem_append.mpr (.inl (nil_span rs))
theorem sumL_right {a b : Row} (ha : Asc a) (hb : Asc b) : sumL a (sumL a b) = b := by
  rw [← sumL_assoc ha ha hb, sumL_self ha, sumL_nil hb]
theorem sumL_nil' {a : Row} (ha : Asc a) : sumL a [] = a := by rw [sumL_comm ha .nil, sumL_nil ha]
theorem sumL_swap {a b c : Row} (ha : Asc a) (hb : Asc b) (hc : Asc c) : sumL a (sumL b c) = sumL b (sumL a c) := by
  rw [← sumL_assoc ha hb hc, sumL_comm ha hb, sumL_assoc hb ha hc]
/-- closed under sums -/
theorem span_sum : ∀ {rs : List Row}, AscR rs → ∀ {x y : Row}, x ∈ spanL rs → y ∈ spanL rs → sumL x y ∈ spanL rs
  | [], _, x, y, hx, hy => by
    rw [List.mem_singleton.mp hx, List.mem_singleton.mp hy]
    exact List.mem_singleton.mpr rfl
  | r :: rs, hr, x, y, hx, hy => by
    have ih := @span_sum rs hr.tail
    have ha := span_asc hr.tail
    have h0 := hr.head
    unfold spanL at hx hy ⊢
    split at hx
    · rename_i c
      rw [if_pos c] at hy ⊢
      exact ih hx hy
    · rename_i c
      rw [if_neg c] at hy ⊢
      rcases List.mem_append.mp hx with hx | hx
      · rcases List.mem_append.mp hy with hy | hy
        · exact List.mem_append.mpr (.inl (ih hx hy))
        · obtain ⟨y', hy', rfl⟩ := List.mem_map.mp hy
          rw [sumL_swap (ha x hx) h0 (ha y' hy')]
          exact List.mem_append.mpr (.inr (List.mem_map.mpr ⟨_, ih hx hy', rfl⟩))
      · obtain ⟨x', hx', rfl⟩ := List.mem_map.mp hx
        rcases List.mem_append.mp hy with hy | hy
        · rw [sumL_assoc h0 (ha x' hx') (ha y hy)]
          exact List.mem_append.mpr (.inr (List.mem_map.mpr ⟨_, ih hx' hy, rfl⟩))
        · obtain ⟨y', hy', rfl⟩ := List.mem_map.mp hy
          rw [sumL_assoc h0 (ha x' hx') (sumL_asc h0 (ha y' hy')), sumL_swap (ha x' hx') h0 (ha y' hy'), sumL_right h0 (sumL_asc (ha x' hx') (ha y' hy'))]
          exact List.mem_append.mpr (.inl (ih hx' hy'))
theorem span_head {r : Row} {rs : List Row} (h : AscR (r :: rs)) : r ∈ spanL (r :: rs) := by
  unfold spanL
  split
  · assumption
  · refine List.mem_append.mpr (.inr (List.mem_map.mpr ⟨[], nil_span rs, ?_⟩))
    rw [sumL_comm h.head .nil, sumL_nil h.head]
theorem span_tail {r : Row} {rs : List Row} {x : Row} (h : x ∈ spanL rs) : x ∈ spanL (r :: rs) := by
  unfold spanL
  split
  · exact h
  · exact List.mem_append.mpr (.inl h)
theorem span_mem : ∀ {rs : List Row}, AscR rs → ∀ r ∈ rs, r ∈ spanL rs
  | r :: rs, h, x, m => by
    rcases List.mem_cons.mp m with rfl | m
    · exact span_head h
    · exact span_tail (span_mem h.tail x m)
/-- the least that is closed -/
theorem span_sub : ∀ {rs : List Row} {S : Row → Prop}, AscR rs → S [] → (∀ r ∈ rs, ∀ x, Asc x → S x → S (sumL r x)) → ∀ x ∈ spanL rs, S x
  | [], S, _, h0, _, x, m => by
    rw [List.mem_singleton.mp m]
    exact h0
  | r :: rs, S, hr, h0, hs, x, m => by
    have ih := @span_sub rs S hr.tail h0 fun y my => hs y (List.mem_cons_of_mem _ my)
    unfold spanL at m
    split at m
    · exact ih x m
    · rcases List.mem_append.mp m with m | m
      · exact ih x m
      · obtain ⟨y, my, rfl⟩ := List.mem_map.mp m
        exact hs r List.mem_cons_self y (span_asc hr.tail y my) (ih y my)
theorem span_le {rs ss : List Row} (hr : AscR rs) (hs : AscR ss) (h : ∀ r ∈ rs, r ∈ spanL ss) : ∀ x ∈ spanL rs, x ∈ spanL ss :=
  span_sub hr (nil_span ss) fun r m _ _ q => span_sum hs (h r m) q
theorem span_cons {r : Row} {rs : List Row} (h : AscR (r :: rs)) {x : Row} (hx : Asc x) : x ∈ spanL (r :: rs) ↔ x ∈ spanL rs ∨ sumL r x ∈ spanL rs := by
  constructor
  · intro m
    unfold spanL at m
    split at m
    · exact .inl m
    · rcases List.mem_append.mp m with m | m
      · exact .inl m
      · obtain ⟨y, my, rfl⟩ := List.mem_map.mp m
        rw [sumL_right h.head (span_asc h.tail y my)]
        exact .inr my
  · rintro (m | m)
    · exact span_tail m
    · have q := span_sum h (span_head h) (span_tail (r := r) m)
      rw [sumL_right h.head hx] at q
      exact q
theorem span_ext {rs ss : List Row} (hr : AscR rs) (hs : AscR ss) (h1 : ∀ r ∈ rs, r ∈ spanL ss) (h2 : ∀ r ∈ ss, r ∈ spanL rs) : ∀ x, x ∈ spanL rs ↔ x ∈ spanL ss :=
  fun x => ⟨span_le hr hs h1 x, span_le hs hr h2 x⟩
/-! ### the one way: the first one cleared out of those behind it -/
def full (rs : List Row) : List Row := rs.filter fun r => !r.isEmpty
/-! ### the other way: each row cleared by those before it -/
/-- what is left of earlier rows, the last one first: none has the end of one before it -/
inductive Left : List Row → Prop where
  | nil : Left []
  | cons {r : Row} {rs : List Row} {k : Int} : Left rs → Asc r → r.getLast? = some k → (∀ s ∈ rs, ∀ j, s.getLast? = some j → j ∉ r) → Left (r :: rs)
theorem Left.asc : ∀ {rs : List Row}, Left rs → AscR rs
  | _, .nil => fun _ m => absurd m List.not_mem_nil
  | _, .cons h ha _ _ => fun x m => by
    rcases List.mem_cons.mp m with rfl | m
    · exact ha
    · exact h.asc x m
/-- a sum of some of them other than () has one of their ends -/
theorem Left.has : ∀ {rs : List Row}, Left rs → ∀ x ∈ spanL rs, x ≠ [] → ∃ s ∈ rs, ∃ j, s.getLast? = some j ∧ j ∈ x
  | _, .nil, x, m, ne => absurd (List.mem_singleton.mp m) ne
  | _, .cons (r := r) (rs := rs) (k := k) h ha hk no, x, m, ne => by
    have ih := h.has
    have hr := h.asc
    have rx := span_asc (Left.cons h ha hk no).asc x m
    rcases (span_cons (Left.cons h ha hk no).asc rx).mp m with m | m
    · obtain ⟨s, ms, q⟩ := ih x m ne
      exact ⟨s, List.mem_cons_of_mem _ ms, q⟩
    · by_cases e : sumL r x = []
      · have ex : x = r := by
          have := sumL_right ha rx
          rw [e, sumL_nil' ha] at this
          exact this.symm
        subst ex
        exact ⟨x, List.mem_cons_self, k, hk, List.mem_of_getLast? hk⟩
      · obtain ⟨s, ms, j, hj, mj⟩ := ih _ m e
        refine ⟨s, List.mem_cons_of_mem _ ms, j, hj, ?_⟩
        rcases mem_sumL.mp mj with ⟨z, _⟩ | ⟨z, _⟩
        · exact absurd z (no s ms j hj)
        · exact z
end Bd
/-! N2: what the program's rows are sifted to, and what the laws' own ranks are. -/
namespace Bd
open PySem L2
namespace Pg
structure InP (U V : List Int) (s : Row × Row) : Prop where
  l : InU U s.1
  r : InU V s.2
end Pg
end Bd
/-! N3: sifted, relations, rank, made_of. -/
namespace Bd
open PySem L2
namespace Pg
theorem upto_asc (n : Nat) : Asc ((List.range n).map fun i : Nat => (i : Int)) := by
  unfold Asc
  rw [List.pairwise_map]
  exact List.pairwise_lt_range.imp fun h => by omega
abbrev uptoI (n : Nat) : List Int := (List.range n).map fun i : Nat => (i : Int)
end Pg
end Bd
/-! N4: the rank told by sifting is the rank. -/
namespace Bd
open PySem L2
namespace Pg
/-- what is left and not (), the last one first -/
def ends (st : List (Row × Row)) : List Row := (full (st.map Prod.fst)).reverse
end Pg
theorem snoc_ind {α : Type} {P : List α → Prop} (nil : P []) (snoc : ∀ l a, P l → P (l ++ [a])) (l : List α) : P l := by
  have h : ∀ l : List α, P l.reverse := fun l => by
    induction l with
    | nil => exact nil
    | cons a l ih =>
      rw [List.reverse_cons]
      exact snoc _ a ih
  have := h l.reverse
  rw [List.reverse_reverse] at this
  exact this
namespace Pg
/-- those of which nothing is left -/
def bare (st : List (Row × Row)) : List (Row × Row) := st.filter fun s => decide (s.1 = [])
end Pg
end Bd
/-! N5: the laws' own sums, ranks and rows. -/
namespace Bd
open PySem L2
namespace Rk
def G__law_row : Nv → Rs :=
    (seqS (xRet (xN tupleV (xC (xComp (upI (iR1 (aC (gv 1) a0))) (gN 4) (xb (x2 eqV' (xCallK 0 Dk.F_draw (xC (up (k0 (.int 3))) x0)) (up (k0 (.int 0))))) (up (e2 mulV (gv 2) (e2 subV (gv 4) (gv 3)))) [4]) x0)))
    .nx)
def F__law_row : List D → List D → R (D × List D) := runK 5 G__law_row
end Rk
end Bd
/-! N6: the rows that the laws draw. -/
namespace Bd
open PySem L2
namespace Rk
theorem range_up (n : Nat) : rangeD 0 n = (Pg.uptoI n).map PyData.int := by
  unfold rangeD
  rw [List.map_map]
  apply List.map_congr_left
  intro i _
  show PyData.int (0 + (i : Int)) = PyData.int (i : Int)
  rw [Int.zero_add]
end Rk
end Bd
/-! N7: which rows make what is left. -/
namespace Bd
open PySem L2

def sumR (rs : List Row) : Row := rs.foldr sumL []
theorem sumR_asc : ∀ {rs : List Row}, AscR rs → Asc (sumR rs)
  | [], _ => .nil
  | r :: rs, h => sumL_asc h.head (sumR_asc h.tail)
theorem sumR_perm {rs ss : List Row} (p : rs.Perm ss) : AscR rs → sumR rs = sumR ss := by
  induction p with
  | nil => exact fun _ => rfl
  | cons x _ ih => exact fun h => congrArg (sumL x) (ih h.tail)
  | swap x y l => exact fun h => sumL_swap h.head h.tail.head (sumR_asc h.tail.tail)
  | trans p1 _ ih1 ih2 => exact fun h => (ih1 h).trans (ih2 fun r m => h r (p1.mem_iff.mpr m))
theorem sumR_append : ∀ {rs ss : List Row}, AscR rs → AscR ss → sumR (rs ++ ss) = sumL (sumR rs) (sumR ss)
  | [], ss, _, hs => (sumL_nil (sumR_asc hs)).symm
  | r :: rs, ss, hr, hs => by
    show sumL r (sumR (rs ++ ss)) = sumL (sumL r (sumR rs)) (sumR ss)
    rw [sumR_append hr.tail hs, sumL_assoc hr.head (sumR_asc hr.tail) (sumR_asc hs)]
/-- the sum of the rows with these indexes -/
def rowAt (rows : List Row) (i : Int) : Row := rows.getD i.toNat []
def sumAt (rows : List Row) (idx : List Int) : Row := sumR (idx.map (rowAt rows))
theorem rowAt_asc {rows : List Row} (h : AscR rows) (i : Int) : Asc (rowAt rows i) := by
  unfold rowAt
  rw [List.getD_eq_getElem?_getD]
  cases c : rows[i.toNat]? with
  | none => exact .nil
  | some r => exact h r (List.mem_of_getElem? c)
theorem rowAt_all {rows : List Row} (h : AscR rows) (idx : List Int) : AscR (idx.map (rowAt rows)) := fun r m => by
  obtain ⟨i, _, rfl⟩ := List.mem_map.mp m
  exact rowAt_asc h i
theorem sumAt_asc {rows : List Row} (h : AscR rows) (idx : List Int) : Asc (sumAt rows idx) := sumR_asc (rowAt_all h idx)
theorem filter_split {α : Type} (p : α → Bool) : ∀ l : List α, (l.filter p ++ l.filter fun x => !p x).Perm l
  | [] => List.Perm.refl _
  | x :: l => by
    cases c : p x with
    | true =>
      rw [List.filter_cons_of_pos c, List.filter_cons_of_neg (by rw [c]; simp)]
      exact (filter_split p l).cons x
    | false =>
      rw [List.filter_cons_of_neg (by rw [c]; simp), List.filter_cons_of_pos (by rw [c]; rfl)]
      exact (List.perm_middle).trans ((filter_split p l).cons x)
/-- THE SUM of indexes tells the sum of the rows -/
theorem sumAt_sum {rows : List Row} (h : AscR rows) {a b : List Int} (ha : Asc a) (hb : Asc b) : sumAt rows (sumL a b) = sumL (sumAt rows a) (sumAt rows b) := by
  have S : ∀ l : List Int, Asc (sumAt rows l) := sumAt_asc h
  have app : ∀ l m : List Int, sumAt rows (l ++ m) = sumL (sumAt rows l) (sumAt rows m) := fun l m => by
    unfold sumAt
    rw [List.map_append, sumR_append (rowAt_all h l) (rowAt_all h m)]
  have perm : ∀ {l m : List Int}, l.Perm m → sumAt rows l = sumAt rows m := fun p => sumR_perm (p.map _) (rowAt_all h _)
  have e1 : sumAt rows (sumL a b) = sumL (sumAt rows (a.filter (notIn b))) (sumAt rows (b.filter (notIn a))) := by
    rw [← app]
    exact perm (isort_perm _)
  have e2 : sumAt rows a = sumL (sumAt rows (a.filter (notIn b))) (sumAt rows (a.filter fun x => !notIn b x)) := by
    rw [← app]
    exact (perm (filter_split (notIn b) a)).symm
  have e3 : sumAt rows b = sumL (sumAt rows (b.filter (notIn a))) (sumAt rows (b.filter fun x => !notIn a x)) := by
    rw [← app]
    exact (perm (filter_split (notIn a) b)).symm
  have e4 : sumAt rows (a.filter fun x => !notIn b x) = sumAt rows (b.filter fun x => !notIn a x) := by
    refine perm ((List.perm_ext_iff_of_nodup (ha.nodup.filter _) (hb.nodup.filter _)).mpr fun x => ?_)
    have q : ∀ {c : List Int} {y : Int}, (!notIn c y) = true ↔ y ∈ c := fun {c y} => by
      rw [Bool.not_eq_true', ← Bool.not_eq_true, notIn_iff]
      simp
    rw [List.mem_filter, List.mem_filter, q, q]
    exact And.comm
  rw [e1, e2, e3, e4]
  have x1 := S (a.filter (notIn b))
  have x2 := S (b.filter (notIn a))
  have x3 := S (b.filter fun x => !notIn a x)
  rw [sumL_assoc x1 x3 (sumL_asc x2 x3), sumL_swap x3 x2 x3, sumL_self x3, sumL_nil' x2]
namespace Pg
/-- of a row cleared: the sum with the rows told; these left something -/
structure Clr (rows : List Row) (st : List (Row × Row)) (x : Row) (a : Row × Row) : Prop where
  a1 : Asc a.1
  a2 : Asc a.2
  su : a.1 = sumL x (sumAt rows a.2)
  ix : ∀ j ∈ a.2, 0 ≤ j ∧ j < (st.length : Int) ∧ ∃ s', st[j.toNat]? = some s' ∧ s'.1 ≠ []
end Pg
end Bd
/-! N8: what the laws ask of a tuple of indexes. -/
namespace Bd
open PySem L2
theorem rowAt_in {U : List Int} {rows : List Row} (h : ∀ r ∈ rows, InU U r) (l : List Int) : ∀ r ∈ l.map (rowAt rows), InU U r := fun r m => by
  obtain ⟨j, _, rfl⟩ := List.mem_map.mp m
  unfold rowAt
  rw [List.getD_eq_getElem?_getD]
  cases c : rows[j.toNat]? with
  | none => exact .nil
  | some r => exact h r (List.mem_of_getElem? c)
end Bd
/-! O1: orders, as the laws draw them. -/
namespace Bd
open PySem L2
/-- a simplex: one to three of the numbers 0 to 11, ascending -/
structure Smp (s : Row) : Prop where
  u : InU (Pg.uptoI 12) s
  lo : 1 ≤ s.length
  hi : s.length ≤ 3
/-- the faces, the first vertex left out first -/
def facesL (s : Row) : List Row := if s.length = 1 then [] else (List.range s.length).map fun k => s.take k ++ s.drop (k + 1)
/-- an order: each one behind its faces, none twice -/
inductive Ordr : List Row → Prop where
  | nil : Ordr []
  | snoc {os : List Row} {s : Row} : Ordr os → Smp s → s ∉ os → (∀ f ∈ facesL s, f ∈ os) → Ordr (os ++ [s])
theorem Ordr.smp : ∀ {os : List Row}, Ordr os → ∀ s ∈ os, Smp s
  | _, .nil, s, m => absurd m List.not_mem_nil
  | _, .snoc h hs _ _, x, m => by
    rcases List.mem_append.mp m with m | m
    · exact h.smp x m
    · rw [List.mem_singleton.mp m]
      exact hs
theorem up12_len : (Pg.uptoI 12).length < 128 := by decide
theorem up12_small : ∀ x ∈ Pg.uptoI 12, -1000000000000 < x ∧ x < 1000000000000 := fun x m => by
  obtain ⟨i, hi, rfl⟩ := List.mem_map.mp m
  have := List.mem_range.mp hi
  omega
/-- pop(j) -/
theorem wn_xPop {i : Nat} {F : Nv → R (D × Nv)} {η : Nv} {o : OL} {QX : D × Nv → Prop} (h0 : η[i]? = some (.own o)) (h : Wn (F η) fun p => ∃ xs j y, p.1 = .int j ∧ p.2[i]? = some (.own xs) ∧ 0 ≤ j ∧ j < 1000000 ∧ xs.l[j.toNat]? = some y ∧ QX (y, p.2.set i (.own ⟨xs.b, xs.l.eraseIdx j.toNat⟩))) : Wn (xPop i F η) QX := by
  unfold xPop
  rw [h0]
  show Wn ((F η).bind (popAt i)) QX
  rw [wn_bind]
  refine h.imp fun p ⟨xs, j, y, e1, e2, h1, h2, h3, q⟩ => ?_
  have lt := (List.getElem?_eq_some_iff.mp h3).1
  unfold popAt
  rw [e1, e2]
  have sx : seqIndex? j xs.l.length = some j.toNat := by
    unfold seqIndex?
    dsimp only
    rw [if_neg (show ¬ j < 0 by omega), if_pos]
    rw [Bool.and_eq_true, decide_eq_true_iff, decide_eq_true_iff]
    exact ⟨h1, by omega⟩
  show Wn (if _ then _ else _) QX
  rw [if_pos ⟨by omega, by omega⟩, sx]
  show Wn (match xs.l[j.toNat]? with | some y => _ | none => _) QX
  rw [h3]
  exact wn_ok.mpr q
namespace Od
def G__law_faces : Nv → Rs :=
    (seqS (ifS (tb (e2 eqV' (eN lenV (aC (gv 0) a0)) (k0 (.int 1)))) (seqS (retS (lstV a0))
    .nx) .nx)
    (seqS (retS (compE (iR1 (aC (eN lenV (aC (gv 0) a0)) a0)) (gN 1) (fun _ => .ok true) (e2 addV (slE slV (gv 0) p0 (p1 (gv 1))) (slE slV (gv 0) (p1 (e2 addV (gv 1) (k0 (.int 1)))) p0)) [1]))
    .nx))
def F__law_faces : List D → R D := runD 2 .no G__law_faces
def G__law_names : Nv → Rs :=
    (seqS (ownS 2 (lrgV (k0 (.int 12))))
    (seqS (ownS 3 (lstV a0))
    (seqS (xFor (xR1 (xC (x2 addV (up (k0 (.int 1))) (xCallK 0 Dk.F_draw (xC (up (gv 1)) x0))) x0)) (gN 4) (seqS (xApp 3 (xPop 2 (xCallK 0 Dk.F_draw (xC (up (eN lenV (aC (go 2) a0))) x0))))
    .nx))
    (seqS (frzS 3)
    (seqS (retS (eN sortAV (aC (gv 3) a0)))
    .nx)))))
def F__law_names : List D → List D → R (D × List D) := runK 5 G__law_names
theorem range_up (n : Nat) : rangeD 0 n = (Pg.uptoI n).map PyData.int := Rk.range_up n
theorem lfaces_ok {s : Row} (hs : Smp s) : F__law_faces [tupI s] = .ok (.list ((facesL s).map tupI)) := by
  have lo := hs.lo
  have hi := hs.hi
  have ln : lenV [tupI s] = some (.int (s.length : Nat)) := by
    show some (PyData.int ((s.map PyData.int).length : Nat)) = _
    rw [List.length_map]
  refine Wn.eq (wn_runD ?_)
  show Sn (G__law_faces [.d (tupI s), .no]) _ _ _ _
  unfold G__law_faces
  simp only [wn_ok, wn_some, wn_only, wn_noex, wn_e2, wn_e1, wn_eN, wn_a0, wn_aC, wn_call, wn_tb, wn_tup, wn_lst, wn_andB, wn_orB, wn_notB, wn_andV, wn_orV, wn_notV, wn_ifV, wn_iA, wn_iR1, wn_iR2, wn_iZ, wn_iEn, wn_iRR, wn_sl, wn_p0, wn_p1, wn_up, wn_upB, wn_upI, wn_x2, wn_x0, wn_xC, wn_xN, wn_xb, wn_xAnd, wn_xOr, wn_xNot, wn_xIf, wn_xCall, wn_xR1, wn_xR2, sn_nx, sn_rt, sn_bk, sn_ct, sn_seq, sn_set, sn_ret, sn_expr, sn_if, sn_for, sn_xSet, sn_xRet, sn_xExpr, sn_xIf, sn_xFor, sn_asg, sn_xAsg, sn_own, sn_xOwn, gv_zero, gv_succ, go_own, go_dat, go_succ, k0_def, gN_def, tru_bool, tru_none, tru_int, tru_list, asSeq_list, asSeq_tup, addV_int, subV_int, ltA_i, leA_i, gtA_i, geA_i, negV_int, intV_int, lenV_list, lenV_tup, ixV_list, ixV_tup, asInt_int, slV_list, slV_tup, slL_list, revV_tup, revV_list, tupleV_list, listV_list, listV_tup, eqV_str, neV_str, eqV_int, List.set_cons_zero, List.set_cons_succ, List.getElem?_cons_zero, List.getElem?_cons_succ, List.length_cons, List.length_nil, ↓reduceIte, Bool.false_eq_true, Bool.not_true, Bool.not_false, wn_ite, gT2, gT3, neV_tup, eqV_tup, in_tup, notin_tup', lineN_eq, Nat.reduceAdd, Nat.reduceLeDiff, Nat.zero_le, true_and, and_true, List.map_nil, List.map_cons, exists_eq_left', Option.some.injEq, PyData.list.injEq, exists_eq_left, PyData.int.injEq, R.ok.injEq, Sl.own.injEq, ln]
  by_cases c : s.length = 1
  · have cb : ((s.length : Int) == 1) = true := by rw [beq_iff_eq]; omega
    rw [cb]
    simp only [↓reduceIte]
    unfold facesL
    rw [if_pos c]
    rfl
  · have cb : ((s.length : Int) == 1) = false := by rw [beq_eq_false_iff_ne]; omega
    rw [cb]
    simp only [Bool.false_eq_true, ↓reduceIte]
    refine wn_comp (xs := (Pg.uptoI s.length).map PyData.int) (fun _ => true) (fun d => match d with | .int k => tupI (s.take k.toNat ++ s.drop (k.toNat + 1)) | _ => .none) ?_ ?_ ?_ ?_
    · simp only [wn_ok, wn_some, wn_only, wn_noex, wn_e2, wn_e1, wn_eN, wn_a0, wn_aC, wn_call, wn_tb, wn_tup, wn_lst, wn_andB, wn_orB, wn_notB, wn_andV, wn_orV, wn_notV, wn_ifV, wn_iA, wn_iR1, wn_iR2, wn_iZ, wn_iEn, wn_iRR, wn_sl, wn_p0, wn_p1, wn_up, wn_upB, wn_upI, wn_x2, wn_x0, wn_xC, wn_xN, wn_xb, wn_xAnd, wn_xOr, wn_xNot, wn_xIf, wn_xCall, wn_xR1, wn_xR2, sn_nx, sn_rt, sn_bk, sn_ct, sn_seq, sn_set, sn_ret, sn_expr, sn_if, sn_for, sn_xSet, sn_xRet, sn_xExpr, sn_xIf, sn_xFor, sn_asg, sn_xAsg, sn_own, sn_xOwn, gv_zero, gv_succ, go_own, go_dat, go_succ, k0_def, gN_def, tru_bool, tru_none, tru_int, tru_list, asSeq_list, asSeq_tup, addV_int, subV_int, ltA_i, leA_i, gtA_i, geA_i, negV_int, intV_int, lenV_list, lenV_tup, ixV_list, ixV_tup, asInt_int, slV_list, slV_tup, slL_list, revV_tup, revV_list, tupleV_list, listV_list, listV_tup, eqV_str, neV_str, eqV_int, List.set_cons_zero, List.set_cons_succ, List.getElem?_cons_zero, List.getElem?_cons_succ, List.length_cons, List.length_nil, ↓reduceIte, Bool.false_eq_true, Bool.not_true, Bool.not_false, wn_ite, gT2, gT3, neV_tup, eqV_tup, in_tup, notin_tup', lineN_eq, Nat.reduceAdd, Nat.reduceLeDiff, Nat.zero_le, true_and, and_true, List.map_nil, List.map_cons, exists_eq_left', Option.some.injEq, PyData.list.injEq, exists_eq_left, PyData.int.injEq, R.ok.injEq, Sl.own.injEq, ln]
      refine (wn_rng1 (by omega) (by omega)).mpr ?_
      rw [range_up, Int.toNat_natCast]
    · intro x m
      obtain ⟨j, mj, rfl⟩ := List.mem_map.mp m
      obtain ⟨k, hk, rfl⟩ := List.mem_map.mp mj
      refine ⟨_, rfl, wn_ok.mpr ⟨rfl, fun _ => ?_⟩⟩
      show Wn (e2 addV (slE slV (gv 0) p0 (p1 (gv 1))) (slE slV (gv 0) (p1 (e2 addV (gv 1) (k0 (.int 1)))) p0) [.d (tupI s), .d (.int (k : Nat))]) _
      simp only [wn_ok, wn_some, wn_only, wn_noex, wn_e2, wn_e1, wn_eN, wn_a0, wn_aC, wn_call, wn_tb, wn_tup, wn_lst, wn_andB, wn_orB, wn_notB, wn_andV, wn_orV, wn_notV, wn_ifV, wn_iA, wn_iR1, wn_iR2, wn_iZ, wn_iEn, wn_iRR, wn_sl, wn_p0, wn_p1, wn_up, wn_upB, wn_upI, wn_x2, wn_x0, wn_xC, wn_xN, wn_xb, wn_xAnd, wn_xOr, wn_xNot, wn_xIf, wn_xCall, wn_xR1, wn_xR2, sn_nx, sn_rt, sn_bk, sn_ct, sn_seq, sn_set, sn_ret, sn_expr, sn_if, sn_for, sn_xSet, sn_xRet, sn_xExpr, sn_xIf, sn_xFor, sn_asg, sn_xAsg, sn_own, sn_xOwn, gv_zero, gv_succ, go_own, go_dat, go_succ, k0_def, gN_def, tru_bool, tru_none, tru_int, tru_list, asSeq_list, asSeq_tup, addV_int, subV_int, ltA_i, leA_i, gtA_i, geA_i, negV_int, intV_int, lenV_list, lenV_tup, ixV_list, ixV_tup, asInt_int, slV_list, slV_tup, slL_list, revV_tup, revV_list, tupleV_list, listV_list, listV_tup, eqV_str, neV_str, eqV_int, List.set_cons_zero, List.set_cons_succ, List.getElem?_cons_zero, List.getElem?_cons_succ, List.length_cons, List.length_nil, ↓reduceIte, Bool.false_eq_true, Bool.not_true, Bool.not_false, wn_ite, gT2, gT3, neV_tup, eqV_tup, in_tup, notin_tup', lineN_eq, Nat.reduceAdd, Nat.reduceLeDiff, Nat.zero_le, true_and, and_true, List.map_nil, List.map_cons, exists_eq_left', Option.some.injEq, PyData.list.injEq, exists_eq_left, PyData.int.injEq, R.ok.injEq, Sl.own.injEq, tupI, cut_take (s.map PyData.int) (k : Int) (by omega), cut_drop (s.map PyData.int) ((k : Int) + 1) (by omega), Int.toNat_natCast, show ((k : Int) + 1).toNat = k + 1 by omega]
      rw [addV_tup (by rw [List.length_take, List.length_drop, List.length_map]; omega)]
      refine wn_some.mpr ?_
      show PyData.tuple _ = PyData.tuple _
      rw [List.map_append, List.map_take, List.map_drop]
    · rw [List.length_map, List.length_map, List.length_range, lineN_eq]
      omega
    · unfold facesL
      rw [if_neg c, List.filter_eq_self.mpr fun _ _ => rfl, List.map_map, List.map_map, List.map_map]
      rfl
theorem erase_map (l : Row) (j : Nat) : (l.map PyData.int).eraseIdx j = (l.eraseIdx j).map PyData.int := by
  rw [List.eraseIdx_eq_take_drop_succ, List.eraseIdx_eq_take_drop_succ, List.map_append, List.map_take, List.map_drop]
theorem names_w {kx : List D} {most : Int} {QK : D × List D → Prop} (hk : Dk.Deck kx) (h0 : 1 ≤ most) (h1 : most ≤ 12) (k : ∀ (l : Row) kx', Dk.Deck kx' → InU (Pg.uptoI 12) l → (l.length : Int) ≤ most → QK (.list (l.map PyData.int), kx')) : Wn (F__law_names kx [.int most]) QK := by
  refine wn_runK ?_
  show Sn (G__law_names [.own ⟨false, kx⟩, .d (.int most), .no, .no, .no]) _ _ _ _
  unfold G__law_names
  have c12 : lrgV (k0 (.int 12)) [.own ⟨false, kx⟩, .d (.int most), .no, .no, .no] = .ok (.list ((Pg.uptoI 12).map PyData.int)) := by
    show ((rgL (.int 12)).bind fun xs => R.ok (PyData.list xs)) = _
    rw [← range_up]
    rfl
  simp only [wn_ok, wn_some, wn_only, wn_noex, wn_e2, wn_e1, wn_eN, wn_a0, wn_aC, wn_call, wn_tb, wn_tup, wn_lst, wn_andB, wn_orB, wn_notB, wn_andV, wn_orV, wn_notV, wn_ifV, wn_iA, wn_iR1, wn_iR2, wn_iZ, wn_iEn, wn_iRR, wn_sl, wn_p0, wn_p1, wn_up, wn_upB, wn_upI, wn_x2, wn_x0, wn_xC, wn_xN, wn_xb, wn_xAnd, wn_xOr, wn_xNot, wn_xIf, wn_xCall, wn_xR1, wn_xR2, sn_nx, sn_rt, sn_bk, sn_ct, sn_seq, sn_set, sn_ret, sn_expr, sn_if, sn_for, sn_xSet, sn_xRet, sn_xExpr, sn_xIf, sn_xFor, sn_asg, sn_xAsg, sn_own, sn_xOwn, gv_zero, gv_succ, go_own, go_dat, go_succ, k0_def, gN_def, tru_bool, tru_none, tru_int, tru_list, asSeq_list, asSeq_tup, addV_int, subV_int, ltA_i, leA_i, gtA_i, geA_i, negV_int, intV_int, lenV_list, lenV_tup, ixV_list, ixV_tup, asInt_int, slV_list, slV_tup, slL_list, revV_tup, revV_list, tupleV_list, listV_list, listV_tup, eqV_str, neV_str, eqV_int, List.set_cons_zero, List.set_cons_succ, List.getElem?_cons_zero, List.getElem?_cons_succ, List.length_cons, List.length_nil, ↓reduceIte, Bool.false_eq_true, Bool.not_true, Bool.not_false, wn_ite, gT2, gT3, neV_tup, eqV_tup, in_tup, notin_tup', lineN_eq, Nat.reduceAdd, Nat.reduceLeDiff, Nat.zero_le, true_and, and_true, List.map_nil, List.map_cons, exists_eq_left', Option.some.injEq, PyData.list.injEq, exists_eq_left, PyData.int.injEq, R.ok.injEq, Sl.own.injEq, c12]
  refine wn_callK rfl ?_
  simp only [wn_ok, wn_some, wn_only, wn_noex, wn_e2, wn_e1, wn_eN, wn_a0, wn_aC, wn_call, wn_tb, wn_tup, wn_lst, wn_andB, wn_orB, wn_notB, wn_andV, wn_orV, wn_notV, wn_ifV, wn_iA, wn_iR1, wn_iR2, wn_iZ, wn_iEn, wn_iRR, wn_sl, wn_p0, wn_p1, wn_up, wn_upB, wn_upI, wn_x2, wn_x0, wn_xC, wn_xN, wn_xb, wn_xAnd, wn_xOr, wn_xNot, wn_xIf, wn_xCall, wn_xR1, wn_xR2, sn_nx, sn_rt, sn_bk, sn_ct, sn_seq, sn_set, sn_ret, sn_expr, sn_if, sn_for, sn_xSet, sn_xRet, sn_xExpr, sn_xIf, sn_xFor, sn_asg, sn_xAsg, sn_own, sn_xOwn, gv_zero, gv_succ, go_own, go_dat, go_succ, k0_def, gN_def, tru_bool, tru_none, tru_int, tru_list, asSeq_list, asSeq_tup, addV_int, subV_int, ltA_i, leA_i, gtA_i, geA_i, negV_int, intV_int, lenV_list, lenV_tup, ixV_list, ixV_tup, asInt_int, slV_list, slV_tup, slL_list, revV_tup, revV_list, tupleV_list, listV_list, listV_tup, eqV_str, neV_str, eqV_int, List.set_cons_zero, List.set_cons_succ, List.getElem?_cons_zero, List.getElem?_cons_succ, List.length_cons, List.length_nil, ↓reduceIte, Bool.false_eq_true, Bool.not_true, Bool.not_false, wn_ite, gT2, gT3, neV_tup, eqV_tup, in_tup, notin_tup', lineN_eq, Nat.reduceAdd, Nat.reduceLeDiff, Nat.zero_le, true_and, and_true, List.map_nil, List.map_cons, exists_eq_left', Option.some.injEq, PyData.list.injEq, exists_eq_left, PyData.int.injEq, R.ok.injEq, Sl.own.injEq]
  refine wn_draw hk (by omega) fun n kx1 hk1 n0 n1 => ?_
  simp only [wn_ok, wn_some, wn_only, wn_noex, wn_e2, wn_e1, wn_eN, wn_a0, wn_aC, wn_call, wn_tb, wn_tup, wn_lst, wn_andB, wn_orB, wn_notB, wn_andV, wn_orV, wn_notV, wn_ifV, wn_iA, wn_iR1, wn_iR2, wn_iZ, wn_iEn, wn_iRR, wn_sl, wn_p0, wn_p1, wn_up, wn_upB, wn_upI, wn_x2, wn_x0, wn_xC, wn_xN, wn_xb, wn_xAnd, wn_xOr, wn_xNot, wn_xIf, wn_xCall, wn_xR1, wn_xR2, sn_nx, sn_rt, sn_bk, sn_ct, sn_seq, sn_set, sn_ret, sn_expr, sn_if, sn_for, sn_xSet, sn_xRet, sn_xExpr, sn_xIf, sn_xFor, sn_asg, sn_xAsg, sn_own, sn_xOwn, gv_zero, gv_succ, go_own, go_dat, go_succ, k0_def, gN_def, tru_bool, tru_none, tru_int, tru_list, asSeq_list, asSeq_tup, addV_int, subV_int, ltA_i, leA_i, gtA_i, geA_i, negV_int, intV_int, lenV_list, lenV_tup, ixV_list, ixV_tup, asInt_int, slV_list, slV_tup, slL_list, revV_tup, revV_list, tupleV_list, listV_list, listV_tup, eqV_str, neV_str, eqV_int, List.set_cons_zero, List.set_cons_succ, List.getElem?_cons_zero, List.getElem?_cons_succ, List.length_cons, List.length_nil, ↓reduceIte, Bool.false_eq_true, Bool.not_true, Bool.not_false, wn_ite, gT2, gT3, neV_tup, eqV_tup, in_tup, notin_tup', lineN_eq, Nat.reduceAdd, Nat.reduceLeDiff, Nat.zero_le, true_and, and_true, List.map_nil, List.map_cons, exists_eq_left', Option.some.injEq, PyData.list.injEq, exists_eq_left, PyData.int.injEq, R.ok.injEq, Sl.own.injEq]
  rw [wn_rng1 (by omega) (by omega)]
  refine sn_loop (fun rest η => ∃ (pool names : Row) (kx' : List D) (s4 : Sl), Dk.Deck kx' ∧ (names ++ pool).Perm (Pg.uptoI 12) ∧ (names.length : Int) + rest.length = 1 + n ∧
      η = [.own ⟨false, kx'⟩, .d (.int most), .own ⟨true, pool.map PyData.int⟩, .own ⟨true, names.map PyData.int⟩, s4]) ?_ ?_ _ _ ⟨Pg.uptoI 12, [], kx1, .no, hk1, List.Perm.refl _, ?_, rfl⟩
  · rintro x rest η ⟨pool, names, kx', s4, hk', hp, hz, rfl⟩
    have pl := hp.length_eq
    rw [List.length_append, List.length_map, List.length_range] at pl
    rw [List.length_cons] at hz
    refine ⟨_, rfl, ?_⟩
    simp only [wn_ok, wn_some, wn_only, wn_noex, wn_e2, wn_e1, wn_eN, wn_a0, wn_aC, wn_call, wn_tb, wn_tup, wn_lst, wn_andB, wn_orB, wn_notB, wn_andV, wn_orV, wn_notV, wn_ifV, wn_iA, wn_iR1, wn_iR2, wn_iZ, wn_iEn, wn_iRR, wn_sl, wn_p0, wn_p1, wn_up, wn_upB, wn_upI, wn_x2, wn_x0, wn_xC, wn_xN, wn_xb, wn_xAnd, wn_xOr, wn_xNot, wn_xIf, wn_xCall, wn_xR1, wn_xR2, sn_nx, sn_rt, sn_bk, sn_ct, sn_seq, sn_set, sn_ret, sn_expr, sn_if, sn_for, sn_xSet, sn_xRet, sn_xExpr, sn_xIf, sn_xFor, sn_asg, sn_xAsg, sn_own, sn_xOwn, gv_zero, gv_succ, go_own, go_dat, go_succ, k0_def, gN_def, tru_bool, tru_none, tru_int, tru_list, asSeq_list, asSeq_tup, addV_int, subV_int, ltA_i, leA_i, gtA_i, geA_i, negV_int, intV_int, lenV_list, lenV_tup, ixV_list, ixV_tup, asInt_int, slV_list, slV_tup, slL_list, revV_tup, revV_list, tupleV_list, listV_list, listV_tup, eqV_str, neV_str, eqV_int, List.set_cons_zero, List.set_cons_succ, List.getElem?_cons_zero, List.getElem?_cons_succ, List.length_cons, List.length_nil, ↓reduceIte, Bool.false_eq_true, Bool.not_true, Bool.not_false, wn_ite, gT2, gT3, neV_tup, eqV_tup, in_tup, notin_tup', lineN_eq, Nat.reduceAdd, Nat.reduceLeDiff, Nat.zero_le, true_and, and_true, List.map_nil, List.map_cons, exists_eq_left', Option.some.injEq, PyData.list.injEq, exists_eq_left, PyData.int.injEq, R.ok.injEq, Sl.own.injEq]
    refine sn_xApp (o := ⟨true, names.map PyData.int⟩) rfl ?_
    refine wn_xPop (o := ⟨true, pool.map PyData.int⟩) rfl ?_
    refine wn_callK rfl ?_
    simp only [wn_ok, wn_some, wn_only, wn_noex, wn_e2, wn_e1, wn_eN, wn_a0, wn_aC, wn_call, wn_tb, wn_tup, wn_lst, wn_andB, wn_orB, wn_notB, wn_andV, wn_orV, wn_notV, wn_ifV, wn_iA, wn_iR1, wn_iR2, wn_iZ, wn_iEn, wn_iRR, wn_sl, wn_p0, wn_p1, wn_up, wn_upB, wn_upI, wn_x2, wn_x0, wn_xC, wn_xN, wn_xb, wn_xAnd, wn_xOr, wn_xNot, wn_xIf, wn_xCall, wn_xR1, wn_xR2, sn_nx, sn_rt, sn_bk, sn_ct, sn_seq, sn_set, sn_ret, sn_expr, sn_if, sn_for, sn_xSet, sn_xRet, sn_xExpr, sn_xIf, sn_xFor, sn_asg, sn_xAsg, sn_own, sn_xOwn, gv_zero, gv_succ, go_own, go_dat, go_succ, k0_def, gN_def, tru_bool, tru_none, tru_int, tru_list, asSeq_list, asSeq_tup, addV_int, subV_int, ltA_i, leA_i, gtA_i, geA_i, negV_int, intV_int, lenV_list, lenV_tup, ixV_list, ixV_tup, asInt_int, slV_list, slV_tup, slL_list, revV_tup, revV_list, tupleV_list, listV_list, listV_tup, eqV_str, neV_str, eqV_int, List.set_cons_zero, List.set_cons_succ, List.getElem?_cons_zero, List.getElem?_cons_succ, List.length_cons, List.length_nil, ↓reduceIte, Bool.false_eq_true, Bool.not_true, Bool.not_false, wn_ite, gT2, gT3, neV_tup, eqV_tup, in_tup, notin_tup', lineN_eq, Nat.reduceAdd, Nat.reduceLeDiff, Nat.zero_le, true_and, and_true, List.map_nil, List.map_cons, exists_eq_left', Option.some.injEq, PyData.list.injEq, exists_eq_left, PyData.int.injEq, R.ok.injEq, Sl.own.injEq, List.length_map]
    refine wn_draw hk' (by omega) fun j kx2 hk2 j0 j1 => ?_
    have jl : j.toNat < pool.length := by omega
    refine ⟨⟨true, pool.map PyData.int⟩, j, .int pool[j.toNat], rfl, rfl, j0, by omega, by show (pool.map PyData.int)[j.toNat]? = _; rw [List.getElem?_map, List.getElem?_eq_getElem jl]; rfl, ?_⟩
    refine ⟨by omega, pool.eraseIdx j.toNat, names ++ [pool[j.toNat]], kx2, .d x, hk2, ?_, by rw [List.length_append, List.length_singleton]; omega, ?_⟩
    · rw [List.append_assoc]
      exact ((erase_perm pool j.toNat _ (List.getElem?_eq_getElem jl)).append_left names).trans hp
    · simp only [wn_ok, wn_some, wn_only, wn_noex, wn_e2, wn_e1, wn_eN, wn_a0, wn_aC, wn_call, wn_tb, wn_tup, wn_lst, wn_andB, wn_orB, wn_notB, wn_andV, wn_orV, wn_notV, wn_ifV, wn_iA, wn_iR1, wn_iR2, wn_iZ, wn_iEn, wn_iRR, wn_sl, wn_p0, wn_p1, wn_up, wn_upB, wn_upI, wn_x2, wn_x0, wn_xC, wn_xN, wn_xb, wn_xAnd, wn_xOr, wn_xNot, wn_xIf, wn_xCall, wn_xR1, wn_xR2, sn_nx, sn_rt, sn_bk, sn_ct, sn_seq, sn_set, sn_ret, sn_expr, sn_if, sn_for, sn_xSet, sn_xRet, sn_xExpr, sn_xIf, sn_xFor, sn_asg, sn_xAsg, sn_own, sn_xOwn, gv_zero, gv_succ, go_own, go_dat, go_succ, k0_def, gN_def, tru_bool, tru_none, tru_int, tru_list, asSeq_list, asSeq_tup, addV_int, subV_int, ltA_i, leA_i, gtA_i, geA_i, negV_int, intV_int, lenV_list, lenV_tup, ixV_list, ixV_tup, asInt_int, slV_list, slV_tup, slL_list, revV_tup, revV_list, tupleV_list, listV_list, listV_tup, eqV_str, neV_str, eqV_int, List.set_cons_zero, List.set_cons_succ, List.getElem?_cons_zero, List.getElem?_cons_succ, List.length_cons, List.length_nil, ↓reduceIte, Bool.false_eq_true, Bool.not_true, Bool.not_false, wn_ite, gT2, gT3, neV_tup, eqV_tup, in_tup, notin_tup', lineN_eq, Nat.reduceAdd, Nat.reduceLeDiff, Nat.zero_le, true_and, and_true, List.map_nil, List.map_cons, exists_eq_left', Option.some.injEq, PyData.list.injEq, exists_eq_left, PyData.int.injEq, R.ok.injEq, Sl.own.injEq]
      rw [List.map_append, erase_map]
      rfl
  · rintro η ⟨pool, names, kx', s4, hk', hp, hz, rfl⟩
    refine sn_frz (xs := names.map PyData.int) rfl ?_
    simp only [wn_ok, wn_some, wn_only, wn_noex, wn_e2, wn_e1, wn_eN, wn_a0, wn_aC, wn_call, wn_tb, wn_tup, wn_lst, wn_andB, wn_orB, wn_notB, wn_andV, wn_orV, wn_notV, wn_ifV, wn_iA, wn_iR1, wn_iR2, wn_iZ, wn_iEn, wn_iRR, wn_sl, wn_p0, wn_p1, wn_up, wn_upB, wn_upI, wn_x2, wn_x0, wn_xC, wn_xN, wn_xb, wn_xAnd, wn_xOr, wn_xNot, wn_xIf, wn_xCall, wn_xR1, wn_xR2, sn_nx, sn_rt, sn_bk, sn_ct, sn_seq, sn_set, sn_ret, sn_expr, sn_if, sn_for, sn_xSet, sn_xRet, sn_xExpr, sn_xIf, sn_xFor, sn_asg, sn_xAsg, sn_own, sn_xOwn, gv_zero, gv_succ, go_own, go_dat, go_succ, k0_def, gN_def, tru_bool, tru_none, tru_int, tru_list, asSeq_list, asSeq_tup, addV_int, subV_int, ltA_i, leA_i, gtA_i, geA_i, negV_int, intV_int, lenV_list, lenV_tup, ixV_list, ixV_tup, asInt_int, slV_list, slV_tup, slL_list, revV_tup, revV_list, tupleV_list, listV_list, listV_tup, eqV_str, neV_str, eqV_int, List.set_cons_zero, List.set_cons_succ, List.getElem?_cons_zero, List.getElem?_cons_succ, List.length_cons, List.length_nil, ↓reduceIte, Bool.false_eq_true, Bool.not_true, Bool.not_false, wn_ite, gT2, gT3, neV_tup, eqV_tup, in_tup, notin_tup', lineN_eq, Nat.reduceAdd, Nat.reduceLeDiff, Nat.zero_le, true_and, and_true, List.map_nil, List.map_cons, exists_eq_left', Option.some.injEq, PyData.list.injEq, exists_eq_left, PyData.int.injEq, R.ok.injEq, Sl.own.injEq, sortAV_ints]
    have nd : names.Nodup := (List.nodup_append.mp (hp.nodup_iff.mpr (Pg.upto_asc 12).nodup)).1
    refine ⟨kx', rfl, k (isort names) kx' hk' ⟨asc_sort nd, fun x m => ?_⟩ ?_⟩
    · have := (isort_perm names).mem_iff.mp m
      exact hp.mem_iff.mp (List.mem_append_left _ this)
    · rw [(isort_perm names).length_eq]
      simp at hz
      omega
  · unfold rangeD
    rw [List.length_map, List.length_range]
    simp
    omega
end Od
end Bd
/-! O2: orders and chains, drawn. -/
namespace Bd
open PySem L2
namespace Od
theorem smp2 {a b : Int} (ha : a ∈ Pg.uptoI 12) (hb : b ∈ Pg.uptoI 12) (h : a < b) : Smp [a, b] := ⟨⟨List.pairwise_cons.mpr ⟨fun y m => by rw [List.mem_singleton.mp m]; exact h, List.pairwise_singleton _ _⟩, fun x m => by
  rcases List.mem_cons.mp m with rfl | m
  · exact ha
  · rw [List.mem_singleton.mp m]; exact hb⟩, by simp, by simp⟩
theorem smp3 {a b c : Int} (ha : a ∈ Pg.uptoI 12) (hb : b ∈ Pg.uptoI 12) (hc : c ∈ Pg.uptoI 12) (h : a < b) (h' : b < c) : Smp [a, b, c] := by
  have s2 := smp2 hb hc h'
  refine ⟨⟨List.pairwise_cons.mpr ⟨fun y m => ?_, s2.u.asc⟩, fun x m => ?_⟩, by simp, by simp⟩
  · rcases List.mem_cons.mp m with rfl | m
    · exact h
    · rw [List.mem_singleton.mp m]; omega
  · rcases List.mem_cons.mp m with rfl | m
    · exact ha
    · exact s2.u.sub x m
end Od
end Bd
/-! O3: orders and chains, drawn. -/
namespace Bd
open PySem L2
namespace Od
theorem facesL_len {s : Row} (hs : Smp s) : (facesL s).length ≤ 3 := by
  unfold facesL
  split
  · exact Nat.zero_le _
  · rw [List.length_map, List.length_range]
    exact hs.hi
/-- positions of simplices of one size -/
structure Chn (os : List Row) (size : Nat) (l : Row) : Prop where
  asc : Asc l
  at_ : ∀ p ∈ l, 0 ≤ p ∧ ∃ s, os[p.toNat]? = some s ∧ s.length = size
theorem Chn.lt {os : List Row} {size : Nat} {l : Row} (h : Chn os size l) : ∀ p ∈ l, 0 ≤ p ∧ p < (os.length : Int) := fun p m => by
  obtain ⟨h0, s, e, _⟩ := h.at_ p m
  have := (List.getElem?_eq_some_iff.mp e).1
  omega
end Od
end Bd
/-! X6: dicts whose keys are tuples of ints, made by a comprehension and read. -/
namespace Bd
open PySem PySem.Spec PyProof.Rows L2

abbrev ZP : List Zr → List (List Int × Addr × Value) → Prop := Paired fun z x => z.1 = x.1 ∧ z.2.1 = x.2.1 ∧ RelV z.2.2 x.2.2
def zAt (zs : List Zr) (k : List Int) : Option V := (zs.find? fun z => decide (z.1 = k)).map (·.2.2)
def zHas (zs : List Zr) (k : List Int) : Bool := zs.any fun z => decide (z.1 = k)
def putZ (zs : List Zr) (k : List Int) (b : Addr) (v : V) : List Zr := if zHas zs k = true then zs.map fun z => if z.1 = k then (z.1, z.2.1, v) else z else zs ++ [(k, b, v)]
theorem zp_at {k : List Int} : ∀ {zs : List Zr} {xs : List (List Int × Addr × Value)}, ZP zs xs → RelO (zAt zs k) ((atKey xs k).map (·.2))
  | _, _, .nil => trivial
  | _, _, .cons (a := z) (b := x) (l₁ := zs) (l₂ := xs) q t => by
    have ih := zp_at (k := k) t
    by_cases c : z.1 = k
    · have c2 : x.1 = k := q.1 ▸ c
      have e1 : zAt (z :: zs) k = some z.2.2 := by simp [zAt, List.find?_cons, c]
      have e2 : (atKey (x :: xs) k).map (·.2) = some x.2.2 := by simp [atKey, List.find?_cons, c2]
      rw [e1, e2]
      exact q.2.2
    · have c2 : ¬ x.1 = k := fun h => c (q.1.trans h)
      have e1 : zAt (z :: zs) k = zAt zs k := by simp [zAt, List.find?_cons, c]
      have e2 : (atKey (x :: xs) k) = atKey xs k := by simp [atKey, List.find?_cons, c2]
      rw [e1, e2]
      exact ih
theorem zp_has {k : List Int} : ∀ {zs : List Zr} {xs : List (List Int × Addr × Value)}, ZP zs xs → zHas zs k = (atKey xs k).isSome
  | _, _, .nil => rfl
  | _, _, .cons (a := z) (b := x) (l₁ := zs) (l₂ := xs) q t => by
    have ih := zp_has (k := k) t
    have e0 : zHas (z :: zs) k = (decide (z.1 = k) || zHas zs k) := rfl
    rw [e0, ih]
    by_cases c : z.1 = k
    · have c2 : x.1 = k := q.1 ▸ c
      simp [atKey, List.find?_cons, c, c2]
    · have c2 : ¬ x.1 = k := fun h => c (q.1.trans h)
      simp [atKey, List.find?_cons, c, c2]
theorem zp_map {k : List Int} {v : V} {r : Value} (rv : RelV v r) : ∀ {zs : List Zr} {xs : List (List Int × Addr × Value)}, ZP zs xs → ZP (zs.map fun z => if z.1 = k then (z.1, z.2.1, v) else z) (xs.map (PySem.putAt k r))
  | _, _, .nil => .nil
  | _, _, .cons (a := z) (b := x) q t => by
    refine .cons ?_ (zp_map rv t)
    by_cases c : z.1 = k
    · simp only [if_pos c]
      have c2 : x.1 = k := q.1 ▸ c
      rw [show PySem.putAt k r x = (x.1, x.2.1, r) from if_pos c2]
      exact ⟨q.1, q.2.1, rv⟩
    · simp only [if_neg c]
      have c2 : ¬ x.1 = k := fun h => c (q.1.trans h)
      rw [show PySem.putAt k r x = x from if_neg c2]
      exact q
theorem zp_end {zs : List Zr} {xs : List (List Int × Addr × Value)} {z : Zr} {x : List Int × Addr × Value} (q : z.1 = x.1 ∧ z.2.1 = x.2.1 ∧ RelV z.2.2 x.2.2) : ZP zs xs → ZP (zs ++ [z]) (xs ++ [x])
  | .nil => .cons q .nil
  | .cons h t => .cons h (zp_end q t)
theorem zp_put {k : List Int} {b : Addr} {v : V} {r : Value} {zs : List Zr} {xs : List (List Int × Addr × Value)} (h : ZP zs xs) (rv : RelV v r) : ZP (putZ zs k b v) (storedH xs k b r) := by
  unfold putZ storedH
  rw [zp_has h]
  split
  · exact zp_map rv h
  · exact zp_end ⟨rfl, rfl, rv⟩ h
theorem zp_mem {zs : List Zr} {xs : List (List Int × Addr × Value)} (h : ZP zs xs) : ∀ x ∈ xs, ∃ z ∈ zs, z.1 = x.1 ∧ z.2.1 = x.2.1 := by
  induction h with
  | nil => exact fun x m => absurd m List.not_mem_nil
  | cons q _ ih =>
    intro x m
    rcases List.mem_cons.mp m with e | m
    · subst e
      exact ⟨_, List.mem_cons_self, q.1, q.2.1⟩
    · obtain ⟨z, mz, e⟩ := ih x m
      exact ⟨z, List.mem_cons_of_mem _ mz, e⟩
theorem ints_key {P : Program} {w : World} : ∀ {ks : List Int} {us : List Value}, Vals (ks.map V.int) us → ItemsAre (intKind P w) ks us
  | [], us, r => match us, r with
    | _, .nil => .nil
  | k :: ks, us, r => match us, r with
    | _, .cons h t => .cons (by
        obtain ⟨tk, rfl⟩ := h
        simp [PySem.intKind, Value.isInt]) (ints_key t)
section
variable {X : Cx} {pins : List (Addr × Obj)} {σ : L2.St} {H : Hp} {s : Shared} {D b : Addr} {zs : List Zr} {k : List Int} {v : V}
theorem key_at (I : Inv X pins σ H s) (h : SqT X.K H b (k.map V.int)) : (tupleKind (intKind X.prog X.w)).is s.heap k b := by
  obtain ⟨its, r, ⟨o, h1, h2, n, h3⟩, _⟩ := I.tuple h
  exact ⟨o, its.toArray, n, h1, h2, h3, by simpa using ints_key r⟩
theorem dco_rows (I : Inv X pins σ H s) (hD : H D = some (dco D zs)) (hz : ∀ z ∈ zs, SqT X.K H z.2.1 (z.1.map V.int)) : ∃ xs, ZP zs xs ∧ s.heap.DictOfH (tupleKind (intKind X.prog X.w)) D xs := by
  obtain ⟨⟨xs, zp, o, es, ep, h1, h2, h3, h4, h5⟩, _⟩ := I.hok D _ hD
  refine ⟨xs, zp, o, es, ep, h1, h2, h3, h4, fun x mx => ?_, h5⟩
  obtain ⟨z, mz, e1, e2⟩ := zp_mem zp x mx
  rw [← e1, ← e2]
  exact key_at I (hz z mz)
theorem dco_new {P : Program} {w : World} {H' : Hp} {h' : Heap} {xs : List (List Int × Addr × Value)} (zp : ZP zs xs) (dd : h'.DictOfH (tupleKind (intKind P w)) D xs) : ObjOk P w H' h' D (dco D zs) := by
  obtain ⟨o, es, ep, h1, h2, h3, h4, _, h5⟩ := dd
  refine ⟨⟨xs, zp, o, es, ep, h1, h2, h3, h4, h5⟩, ⟨o, h1⟩, ?_⟩
  rintro ha hb ⟨ys, zq, o', es', ep', g1, g2, g3, g4, g5⟩ st
  exact ⟨ys, zq, o', es', ep', st o' g1, g2, g3, g4, g5⟩
theorem dco_get {A : Around} {E : Value → Shared → Prop} {Q : Value → Shared → Prop} (hu : A.units + 1 < cLine) (I : Inv X pins σ H s) (hD : H D = some (dco D zs)) (hz : ∀ z ∈ zs, SqT X.K H z.2.1 (z.1.map V.int))
    (hk : SqT X.K H b (k.map V.int)) (hv : zAt zs k = some v) (q : ∀ u s', Inv X pins σ H s' → RelV v u → Q u s') : wpAny (model X.prog X.w) A (getItem (.ref D) (.ref b)) Q E s := by
  obtain ⟨xs, zp, dd⟩ := dco_rows I hD hz
  obtain ⟨u, hu', rel⟩ := RelO.some_of (v := v) (o := (atKey xs k).map (·.2)) (by rw [← hv]; exact zp_at zp)
  obtain ⟨p, hp, e⟩ := Option.map_eq_some_iff.mp hu'
  refine wpAny_getItem_heap (tupleKind_room_in1 hu) (key_at I hk) dd hp ?_
  rw [e]
  exact q u _ (I.tok _) rel
end
/-! ### the comprehension -/
section
variable {X : Cx} {kx vx tg iter : Expr} {scope : Scope} {own : List (Str × Nat)} {pos : Pos} {wi : TI} {g : TG} {tk tv : TE}
end
end Bd
/-! X7: enumerate of a tuple (or of a list). -/
namespace Bd
open PySem PySem.Spec PyProof.Rows L2

section
variable {prog : Program} {w : World} {A : Around} {E : Value → Shared → Prop} {s : Shared}
end
end Bd
/-! X5: set(xs), xs a list of ints, with its table. -/
namespace Bd
open PySem PySem.Spec PyProof.Rows L2

section
variable {P : Program} {w : World} {A : Around} {E : Value → Shared → Prop} {s : Shared}
end
end Bd
/-! D24: set(xs), xs a list or a tuple of ints, by data. -/
namespace Bd
open PySem L2

section
variable {X : Cx} {W : WX} {a : Expr} {pos p : Pos}
end
end Bd
/-! D25: a dict whose keys are tuples of ints, by data: made by a comprehension, kept under a name, read. -/
namespace Bd
open PySem L2

def isK (p : D) (k : List Int) : Bool := match p with
  | .tuple ds => decide (ints? ds = some k)
  | _ => false
def atI (ks : List (D × D)) (k : List Int) : Option D := (ks.find? fun p => isK p.1 k).map (·.2)
def atM (ks : List (D × D)) (k : D) : Option D := match k with
  | .tuple ds => (ints? ds).bind fun l => atI ks l
  | _ => none
section
variable {K : PySem.W.Frag} {T T' : Hp} {zs : List Zr} {ks : List (D × D)} {k : List Int} {b : Addr} {v : V} {d : D}
theorem key_of_dp {y : V} {ds : List D} (h : Dp K T y (.tuple ds)) (e : ints? ds = some k) : ∃ b, y = .ref b ∧ SqT K T b (k.map V.int) := by
  cases h with
  | tup h1 h2 =>
    rw [ints?_eq e] at h2
    rw [vals_ints h2] at h1
    exact ⟨_, rfl, h1⟩
end
section
variable {X : Cx} {W : WX} {kx vx tg iter e : Expr} {pos : Pos} {Fi : Nv → R (List D)} {T : Tgt} {js vs : List Nat} {Kf Vf Fk F : Nv → R D}
/-- places[key] -/
def zget (i : Nat) (Fk : Nv → R D) : Nv → R D := fun η => match η[i]? with
  | some (.m ks) => (Fk η).bind fun k => .of (atM ks k)
  | _ => .no
variable {f : Fx}
end
end Bd
/-! D26: is True, is False, is not True, is not False. -/
namespace Bd
open PySem L2
section
variable {X : Cx} {W : WX} {a b : Expr} {Fa Fb : Nv → R D} {pos : Pos}
end
end Bd
/-! D27: isinstance(x, (A, B)). -/
namespace Bd
open PySem L2
section
variable {X : Cx} {W : WX} {a : Expr} {Fa : Nv → R D} {pos p p3 : Pos} {kk : Nat}
end
end Bd
/-! D28: enumerate of a list or a tuple, by data. -/
namespace Bd
open PySem L2
section
variable {X : Cx} {W : WX} {e : Expr} {pos p : Pos} {Fs : Nv → R (List D)}
end
end Bd
/-! D29: [e for x in xs for y in ys]. -/
namespace Bd
open PySem L2
theorem hid_cons {M : Addr} {A : List Addr} {H H' : Hp} (s : Same (hid [M] H) (hid [M] H')) : Same (hid (M :: A) H) (hid (M :: A) H') := fun b o e => by
  obtain ⟨n, e⟩ := hid_some e
  have nb : b ∉ [M] := fun z => n (by rw [List.mem_singleton.mp z]; exact List.mem_cons_self)
  obtain ⟨_, q⟩ := hid_some (s b o (by rw [hid_out nb]; exact e))
  rw [hid_out n]
  exact q
/-- all but M stays -/
theorem EnvD.but {K : PySem.W.Frag} {H H' : Hp} {M : Addr} {A : List Addr} {σ : L2.St} {η : Nv} (E : EnvD K H (M :: A) σ η) (nm : ∀ (j : Nat) (xs : OL), η[j]? = some (.own xs) → σ[j]? ≠ some (some (.ref M))) (s : Same (hid [M] H) (hid [M] H')) (hM : H' M ≠ none) (hK : ∀ u, DoS u → H M ≠ some u) : EnvD K H' (M :: A) σ η where
  len := E.len
  at_ := fun j sl e => by
    obtain ⟨v, e1, q⟩ := E.at_ j sl e
    refine ⟨v, e1, ?_⟩
    cases sl with
    | no => cases v <;> trivial
    | d x =>
      cases v with
      | none => exact q
      | some v => exact Dp_mono (show Dp K (hid (M :: A) H) v x from q) (hid_cons s)
    | own zs =>
      match v, q, e1 with
      | some (.ref b), ⟨m, ws, e2, q⟩, e1 =>
        have nb : b ∉ [M] := fun z => nm j zs e (by rw [e1, List.mem_singleton.mp z])
        refine ⟨m, ws, ?_, DpAll_mono q (hid_cons s)⟩
        exact (hid_some (s b _ (by rw [hid_out nb]; exact e2))).2
    | m x => exact q.m' (hid_cons s)
    | x c w p => exact q.x' (hid_cons s)
    | dk ks =>
      match v, q with
      | some (.ref b), ⟨m, q⟩ =>
        refine ⟨m, q.keep (hid_cons s) fun u so e => ?_⟩
        have nb : b ∉ [M] := fun z => hK u so (by rw [← List.mem_singleton.mp z]; exact e)
        exact (hid_some (s b _ (by rw [hid_out nb]; exact e))).2
  ap := E.ap
  tr := fun a m => by
    by_cases h : a = M
    · rw [h]
      exact hM
    · have na : a ∉ [M] := fun z => h (List.mem_singleton.mp z)
      cases q : H a with
      | none => exact absurd q (E.tr a m)
      | some o =>
        rw [(hid_some (s a o (by rw [hid_out na]; exact q))).2]
        exact fun z => nomatch z
section
variable {X : Cx} {W : WX} {tg iter tg1 iter1 elt : Expr} {pos : Pos}
end
end Bd
/-! D30: a dict of the def's own, its keys ints: made, asked, changed. -/
namespace Bd
open PySem L2

def kAt (ks : List (Int × D)) (k : Int) : Option D := (ks.find? fun p => decide (p.1 = k)).map (·.2)
def kPut (ks : List (Int × D)) (k : Int) (v : D) : List (Int × D) := if (ks.any fun p => decide (p.1 = k)) = true then ks.map (fun p => if p.1 = k then (p.1, v) else p) else ks ++ [(k, v)]
def KD (K : PySem.W.Frag) (T : Hp) (p : Key × V) (k : Int × D) : Prop := p.1 = Sum.inl k.1 ∧ Dp K T p.2 k.2
section
variable {K : PySem.W.Frag} {T T' : Hp} {kvs : List (Key × V)} {ks : List (Int × D)} {k : Int} {v : V} {d : D}
theorem kPut_len : (kPut ks k d).length ≤ ks.length + 1 := by
  unfold kPut
  split
  · rw [List.length_map]
    exact Nat.le_succ _
  · rw [List.length_append]
    exact Nat.le_refl _
end
/-! ### a new one -/
section
variable {X : Cx} {W : WX} {kx vx tg iter e : Expr} {pos : Pos} {Fi : Nv → R (List D)} {T : Tgt} {js vs : List Nat} {C : Nv → R Bool} {Kf Vf Fk F Fx : Nv → R D}
end
/-! ### asked -/
section
variable {K : PySem.W.Frag} {mg : Str → Option Value} {W : WX} {σ : L2.St} {A : List Addr} {H : Hp} {η : Nv} {i : Nat} {ks : List (Int × D)}
theorem post_key {Fk : Nv → R D} {rl : Rl} {g : D → R D} {Q : VK} {R1 : V → Hp → Prop} (hb : Back rl) (E : EnvD K H A σ η) (p : Post K mg W rl σ A H ((Fk η).bind g) Q)
    (k : ∀ y H2 d, Same H H2 → Dp K (hid A H2) y d → Post K mg W rl σ A H2 (g d) Q → R1 y H2) : tR K mg W (rD K) Fk σ H R1 := by
  refine ⟨η, A, E, ?_⟩
  cases e : Fk η with
  | ex c w q => rw [e] at p; exact p
  | no => rw [e] at p; exact p
  | ok d =>
    rw [e] at p
    exact fun y H2 s q => k y H2 d s q (Post.same hb s p)
end
section
variable {X : Cx} {W : WX} {e e2 : Expr} {pos p : Pos} {Fk Fx : Nv → R D} {x : Str}
end
/-! ### kept, changed -/
/-- (earlier: that no other name holds such a dict; two of them are never the same one, so nothing is asked) -/
def sole : Nat → Nv → Bool := fun _ _ => true
def setK (i : Nat) (F : Nv → R (List (Int × D))) : Nv → Rs := fun η => (F η).toS fun ks => .nx (η.set i (.dk (.int ks)))
theorem EnvS.setK {K : PySem.W.Frag} {M : List Addr} {H0 : Hp} {A0 : List Addr} {H H1 : Hp} {B : List Addr} {σ : L2.St} {η : Nv} {i : Nat} {p : Addr} {o : HO} {ks : Dks} (e : EnvS K M H0 A0 H B σ η) (hp : H p = none) (s : Same H H1) (hp1 : H1 p = some o) (so : DoS o) (q : DoR K (hid (p :: (B ++ A0)) H1) p o ks) :
    EnvS K M H0 A0 H1 (p :: B) (σ.set i (some (.ref p))) (η.set i (.dk ks)) := by
  have E1 : EnvD K H1 (p :: (B ++ A0)) σ η := e.env.new s hp (by rw [hp1]; exact fun z => nomatch z)
  have gt : ∀ (j : Nat) (sl : Sl), (η.set i (.dk ks))[j]? = some sl → (j = i ∧ i < η.length ∧ sl = .dk ks) ∨ (j ≠ i ∧ η[j]? = some sl) := fun j sl h => by
    by_cases hj : i = j
    · subst hj
      by_cases hl : i < η.length
      · rw [List.getElem?_set_self hl] at h
        cases h
        exact .inl ⟨rfl, hl, rfl⟩
      · rw [List.getElem?_eq_none (by rw [List.length_set]; omega)] at h
        cases h
    · rw [List.getElem?_set_ne hj] at h
      exact .inr ⟨fun z => hj z.symm, h⟩
  have ot : ∀ j, j ≠ i → (σ.set i (some (.ref p)))[j]? = σ[j]? := fun j n => List.getElem?_set_ne fun z => n z.symm
  have oi : i < η.length → (σ.set i (some (.ref p)))[i]? = some (some (.ref p)) := fun hl => List.getElem?_set_self (by rw [e.env.len]; exact hl)
  refine ⟨⟨by rw [List.length_set, List.length_set, e.env.len], fun j sl h => ?_, fun j k a ys zs h1 h2 h3 h4 => ?_, E1.tr⟩, e.same.trans (hid_same s), e.mA, fun b m => ?_, fun j a ys h1 h2 => ?_, fun j a ks' h1 h2 => ?_⟩
  · rcases gt j sl h with ⟨rfl, hl, rfl⟩ | ⟨n, h⟩
    · exact ⟨_, oi hl, List.mem_cons_self, o, hp1, so, q⟩
    · rw [ot j n]
      exact E1.at_ j sl h
  · rcases gt j _ h1 with ⟨_, _, z⟩ | ⟨n, g1⟩
    · cases z
    · rcases gt k _ h2 with ⟨_, _, z⟩ | ⟨n2, g2⟩
      · cases z
      · rw [ot j n] at h3
        rw [ot k n2] at h4
        exact E1.ap j k a ys zs g1 g2 h3 h4
  · rcases List.mem_cons.mp m with rfl | m
    · exact e.free hp
    · exact e.new b m
  · rcases gt j _ h1 with ⟨_, _, z⟩ | ⟨n, h1⟩
    · cases z
    · rw [ot j n] at h2
      have z := e.own j a ys h1 h2
      cases hb : ys.b with
      | true => rw [hb, if_pos rfl] at z; rw [if_pos rfl]; exact List.mem_cons_of_mem _ z
      | false => rw [hb, if_neg Bool.false_ne_true] at z; rw [if_neg Bool.false_ne_true]; exact z
  · rcases gt j _ h1 with ⟨ej, hl, _⟩ | ⟨n, h1⟩
    · rw [ej, oi hl] at h2
      cases h2
      refine ⟨List.mem_cons_self, fun k ks2 g1 g2 => ?_⟩
      rcases gt k _ g1 with ⟨ek, _, _⟩ | ⟨n, g1⟩
      · rw [ek, ej]
      · rw [ot k n] at g2
        exact absurd hp (e.env.tr p (List.mem_append_left _ (e.dk k p ks2 g1 g2).1))
    · rw [ot j n] at h2
      refine ⟨List.mem_cons_of_mem _ (e.dk j a ks' h1 h2).1, fun k ks2 g1 g2 => ?_⟩
      rcases gt k _ g1 with ⟨ek, hl, _⟩ | ⟨n, g1⟩
      · rw [ek, oi hl] at g2
        cases g2
        exact absurd hp (e.env.tr p (List.mem_append_left _ (e.dk j p ks' h1 h2).1))
      · rw [ot k n] at g2
        exact (e.dk j a ks' h1 h2).2 k ks2 g1 g2
theorem EnvS.putK {K : PySem.W.Frag} {M : List Addr} {H0 : Hp} {A0 : List Addr} {H : Hp} {B : List Addr} {σ : L2.St} {η : Nv} {i : Nat} {a : Addr} {u u' : HO} {ks ks' : Dks} (e : EnvS K M H0 A0 H B σ η) (hi : η[i]? = some (.dk ks)) (ho : σ[i]? = some (some (.ref a))) (ha : H a = some u) (so : DoS u) (so' : DoS u')
    (q : DoR K (hid (B ++ A0) H) a u' ks') : EnvS K M H0 A0 (upd H a u') B σ (η.set i (.dk ks')) := by
  have hB : a ∈ B := (e.dk i a ks hi ho).1
  have hA : a ∈ B ++ A0 := List.mem_append_left _ hB
  have eh : hid (B ++ A0) (upd H a u') = hid (B ++ A0) H := hid_upd hA
  have hl : i < η.length := (List.getElem?_eq_some_iff.mp hi).1
  have gt : ∀ (j : Nat) (sl : Sl), (η.set i (.dk ks'))[j]? = some sl → (j = i ∧ sl = .dk ks') ∨ (j ≠ i ∧ η[j]? = some sl) := fun j sl h => by
    by_cases hj : i = j
    · subst hj
      rw [List.getElem?_set_self hl] at h
      cases h
      exact .inl ⟨rfl, rfl⟩
    · rw [List.getElem?_set_ne hj] at h
      exact .inr ⟨fun z => hj z.symm, h⟩
  refine ⟨⟨by rw [List.length_set, e.env.len], fun j sl h => ?_, fun j k b ys zs h1 h2 h3 h4 => ?_, fun b m => ?_⟩, ?_, e.mA, e.new, fun j b ys h1 h2 => ?_, fun j b ks2 h1 h2 => ?_⟩
  · rcases gt j sl h with ⟨rfl, rfl⟩ | ⟨n, h⟩
    · exact ⟨_, ho, hA, u', upd_same, so', by rw [eh]; exact q⟩
    · obtain ⟨o, e1, q⟩ := e.env.at_ j sl h
      refine ⟨o, e1, ?_⟩
      cases sl with
      | no => cases o <;> trivial
      | d x =>
        cases o with
        | none => exact q
        | some v =>
          show Dp K (hid (B ++ A0) (upd H a _)) v x
          rw [eh]
          exact q
      | own zs =>
        match o, q, e1 with
        | some (.ref b), ⟨m, ws, e2, q⟩, e1 =>
          have nb : b ≠ a := fun z => by
            subst z
            rw [ha] at e2
            cases e2
            exact notDo so
          refine ⟨m, ws, by rw [upd_ne nb]; exact e2, ?_⟩
          rw [eh]
          exact q
      | m x => exact q.m' (eh ▸ Same.refl _)
      | x c w p => exact q.x' (eh ▸ Same.refl _)
      | dk ks2 =>
        match o, q, e1 with
        | some (.ref b), ⟨m, q⟩, e1 =>
          have nb : b ≠ a := fun z => by
            subst z
            exact n ((e.dk i b ks hi ho).2 j ks2 h e1)
          exact ⟨m, q.keep (eh ▸ Same.refl _) fun u2 _ e2 => by
            rw [upd_ne nb]
            exact e2⟩
  · rcases gt j _ h1 with ⟨_, z⟩ | ⟨n, g1⟩
    · cases z
    · rcases gt k _ h2 with ⟨_, z⟩ | ⟨n2, g2⟩
      · cases z
      · exact e.env.ap j k b ys zs g1 g2 h3 h4
  · by_cases hb : b = a
    · rw [hb, upd_same]
      exact fun z => nomatch z
    · rw [upd_ne hb]
      exact e.env.tr b m
  · intro b o z
    have z' := e.same b o z
    obtain ⟨n0, z0⟩ := hid_some z
    obtain ⟨n1, z1⟩ := hid_some z'
    have nb : b ≠ a := fun q => by
      rw [q, e.new a hB] at z0
      cases z0
    rw [hid_out n1, upd_ne nb]
    exact z1
  · rcases gt j _ h1 with ⟨_, z⟩ | ⟨n, g1⟩
    · cases z
    · exact e.own j b ys g1 h2
  · rcases gt j _ h1 with ⟨ej, _⟩ | ⟨n, g1⟩
    · rw [ej, ho] at h2
      cases h2
      refine ⟨hB, fun k ks3 f1 f2 => ?_⟩
      rcases gt k _ f1 with ⟨ek, _⟩ | ⟨_, f1⟩
      · rw [ek, ej]
      · rw [ej]
        exact (e.dk i a ks hi ho).2 k ks3 f1 f2
    · refine ⟨(e.dk j b ks2 g1 h2).1, fun k ks3 f1 f2 => ?_⟩
      rcases gt k _ f1 with ⟨ek, _⟩ | ⟨_, f1⟩
      · rw [ek] at f2 ⊢
        exact (e.dk j b ks2 g1 h2).2 i ks hi f2
      · exact (e.dk j b ks2 g1 h2).2 k ks3 f1 f2
section
variable {X : Cx} {f : Fx} {e ek : Expr} {pos : Pos} {Fk Fv : Nv → R D} {F : Nv → R (List (Int × D))} {x : Str}
end
end Bd
/-! D31: len of a dict of the def's own. -/
namespace Bd
open PySem L2
end Bd
/-! D32: sorted of a tuple of ints. -/
namespace Bd
open PySem L2 PySem.Spec PyProof.Rows
section
variable {P : Program} {w : World} {A : Around} {E : Value → Shared → Prop} {s : Shared}
end
section
variable {X : Cx} {W : WX} {e : Expr} {pos p : Pos} {Fs : Nv → R (List D)}
end
end Bd
/-! D33: a list times an int. -/
namespace Bd
open PySem L2
section
variable {X : Cx}
end
end Bd
/-! X8: sorted(xs, key=f), f a def of the program that is known by its data. -/
namespace Bd
open PySem PySem.Spec PyProof.Rows L2

section
variable {X : Cx} {pins : List (Addr × Obj)} {σ : L2.St} {H : Hp} {s : Shared}
end

section
variable {X : Cx}
end
end Bd
/-! D34: a dict of the def's own with tuples of ints for keys: made, asked, changed, listed. -/
namespace Bd
open PySem PySem.Spec PyProof.Rows L2
def zAtD (ks : List (List Int × D)) (k : List Int) : Option D := (ks.find? fun p => decide (p.1 = k)).map (·.2)
def zPutD (ks : List (List Int × D)) (k : List Int) (v : D) : List (List Int × D) := if (ks.any fun p => decide (p.1 = k)) = true then ks.map (fun p => if p.1 = k then (p.1, v) else p) else ks ++ [(k, v)]
def ZT (K : PySem.W.Frag) (T : Hp) (z : Zr) (k : List Int × D) : Prop := z.1 = k.1 ∧ SqT K T z.2.1 (z.1.map V.int) ∧ Dp K T z.2.2 k.2
/-- a tuple of ints as a key -/
def keyD : D → Option (List Int)
  | .tuple ds => ints? ds
  | _ => none
section
variable {K : PySem.W.Frag} {T T' : Hp} {v : V} {d : D} {b : Addr} {k : List Int}
theorem zt_has {k : List Int} : ∀ {zs : List Zr} {ks : List (List Int × D)}, Paired (ZT K T) zs ks → zHas zs k = (zAtD ks k).isSome
  | _, _, .nil => rfl
  | _, _, .cons (a := z) (b := p) (l₁ := zs) (l₂ := ks) h t => by
    have ih := zt_has (k := k) t
    have e0 : zHas (z :: zs) k = (decide (z.1 = k) || zHas zs k) := rfl
    rw [e0, ih, h.1]
    by_cases c : p.1 = k
    · simp [zAtD, List.find?_cons, c]
    · simp [zAtD, List.find?_cons, c]
theorem zat_any : ∀ {ks : List (List Int × D)}, (ks.any fun p => decide (p.1 = k)) = (zAtD ks k).isSome
  | [] => rfl
  | p :: ks => by
    rw [List.any_cons, zat_any]
    by_cases c : p.1 = k
    · simp [zAtD, List.find?_cons, c]
    · simp [zAtD, List.find?_cons, c]
theorem zt_at : ∀ {zs : List Zr} {ks : List (List Int × D)} {d : D}, Paired (ZT K T) zs ks → zAtD ks k = some d → ∃ v, zAt zs k = some v ∧ Dp K T v d
  | _, _, _, .nil, e => nomatch e
  | _, _, d, .cons (a := z) (b := p) (l₁ := zs) (l₂ := ks) h t, e => by
    by_cases c : p.1 = k
    · have e2 : zAtD (p :: ks) k = some p.2 := by simp [zAtD, List.find?_cons, c]
      rw [e2] at e
      cases e
      exact ⟨z.2.2, by simp [zAt, List.find?_cons, h.1, c], h.2.2⟩
    · have e2 : zAtD (p :: ks) k = zAtD ks k := by simp [zAtD, List.find?_cons, c]
      rw [e2] at e
      obtain ⟨v, h1, h2⟩ := zt_at t e
      exact ⟨v, by rw [← h1]; simp [zAt, List.find?_cons, h.1, c], h2⟩
theorem zt_keys : ∀ {zs : List Zr} {ks : List (List Int × D)}, Paired (ZT K T) zs ks → ∀ z ∈ zs, SqT K T z.2.1 (z.1.map V.int)
  | _, _, .nil, z, m => absurd m List.not_mem_nil
  | _, _, .cons h t, z, m => by
    rcases List.mem_cons.mp m with e | m
    · rw [e]
      exact h.2.1
    · exact zt_keys t z m
theorem zt_same {zs : List Zr} {ks : List (List Int × D)} (s : Same T T') (h : Paired (ZT K T) zs ks) : Paired (ZT K T') zs ks := Paired.mapP h fun z k ⟨e1, e2, e3⟩ => ⟨e1, sqT_same s e2, Dp_mono e3 s⟩
theorem zt_map (q : Dp K T v d) : ∀ {zs : List Zr} {ks : List (List Int × D)}, Paired (ZT K T) zs ks → Paired (ZT K T) (zs.map fun z => if z.1 = k then (z.1, z.2.1, v) else z) (ks.map fun p => if p.1 = k then (p.1, d) else p)
  | _, _, .nil => .nil
  | _, _, .cons (a := z) (b := p) h t => by
    refine .cons ?_ (zt_map q t)
    by_cases c : p.1 = k
    · have c' : z.1 = k := h.1.trans c
      simp only [if_pos c, if_pos c']
      exact ⟨h.1, h.2.1, q⟩
    · have c' : ¬ z.1 = k := fun e => c (h.1.symm.trans e)
      simp only [if_neg c, if_neg c']
      exact h
theorem zt_end {z : Zr} {p : List Int × D} (q : ZT K T z p) : ∀ {zs : List Zr} {ks : List (List Int × D)}, Paired (ZT K T) zs ks → Paired (ZT K T) (zs ++ [z]) (ks ++ [p])
  | _, _, .nil => .cons q .nil
  | _, _, .cons h t => .cons h (zt_end q t)
theorem zt_put {zs : List Zr} {ks : List (List Int × D)} (h : Paired (ZT K T) zs ks) (hb : SqT K T b (k.map V.int)) (q : Dp K T v d) : Paired (ZT K T) (putZ zs k b v) (zPutD ks k d) := by
  unfold putZ zPutD
  rw [zt_has h, zat_any]
  split
  · exact zt_map q h
  · exact zt_end ⟨rfl, hb, q⟩ h
theorem keyD_dp {T : Hp} {y : V} {kd : D} (h : Dp K T y kd) (e : keyD kd = some k) : ∃ b, y = .ref b ∧ SqT K T b (k.map V.int) := by
  unfold keyD at e
  split at e
  · exact key_of_dp h e
  · cases e
end
section
variable {X : Cx} {pins : List (Addr × Obj)} {σ : L2.St} {H : Hp} {s : Shared} {D b : Addr} {zs : List Zr} {k : List Int} {v : V}
theorem dco_put {A : Around} {E : Value → Shared → Prop} {r : Value} {Q : Unit → Shared → Prop} (hu : A.units + 1 < cLine) (I : Inv X pins σ H s) (hD : H D = some (dco D zs)) (hl : zs.length < sizeLine) (hz : ∀ z ∈ zs, SqT X.K H z.2.1 (z.1.map V.int))
    (hk : SqT X.K H b (k.map V.int)) (rv : RelV v r) (q : ∀ s', Inv X pins σ (upd H D (dco D (putZ zs k b v))) s' → Q () s') : wpAny (model X.prog X.w) A (setItem (.ref D) (.ref b) r) Q E s := by
  obtain ⟨xs, zp, dd⟩ := dco_rows I hD hz
  have hx : xs.length ≤ sizeLine := by
    rw [← zp.length]
    exact Nat.le_of_lt hl
  refine wpAny_setItem_heap (hsz := hx) (tupleKind_room_in1 hu) (key_at I hk) dd fun h' dd' sb => q _ ?_
  have there : ∃ q, h'.get? D = some q := by
    obtain ⟨o, _, _, e, _⟩ := dd'
    exact ⟨o, e⟩
  exact d_write I (by rw [hD]; trivial) sb there (dco_new (zp_put zp rv) dd')
theorem pe_dnewD {pos : Pos} : PE X (.Dict [] [] pos) (fun _ H Q => ∀ p, H p = none → (p == sysModules) = false → Q (.ref p) (upd H p (dco p []))) := ⟨fun pins s σ H Q I h =>
  wpAny_Dict_empty ⟨.ref s.heap.objs.size, _, I.laid (a := s.heap.objs.size) (o := dco s.heap.objs.size []) (t' := s.toks) (fun _ _ q => Heap.get?_push_of_some _ q) (Nat.le_refl _) (dco_new .nil ⟨_, #[], 0, Heap.get?_push_size _ rfl, ⟨rfl, rfl, rfl⟩, rfl, rfl, fun _ m => (List.not_mem_nil m).elim, List.nodup_nil⟩), rfl,
    h _ (I.hok.fresh (Nat.le_refl _)) (beq_eq_false_iff_ne.mpr (Ne.symm (Nat.ne_of_lt I.big)))⟩⟩
end
end Bd
/-! D35: such a dict by its slot. -/
namespace Bd
open PySem PySem.Spec PyProof.Rows L2
section
variable {X : Cx} {e o : Expr} {pos : Pos} {td ty : TE}
def tZGet (K : PySem.W.Frag) (td ty : TE) : TE := fun σ H Q => td σ H fun x H1 => ty σ H1 fun y H2 => ∃ D zs b k v, x = .ref D ∧ y = .ref b ∧ H2 D = some (dco D zs) ∧ (∀ z ∈ zs, SqT K H2 z.2.1 (z.1.map V.int)) ∧ SqT K H2 b (k.map V.int) ∧ zAt zs k = some v ∧ Q v H2
theorem pe_zget (hu : X.A.units + 1 < cLine) (ho : PE X o td) (hi : PE X e ty) (hs : NoSl e) : PE X (.Subscript o e pos) (tZGet X.K td ty) := by
  refine ⟨fun pins s σ H Q I h => ?_⟩
  refine subD_of PySem.F.slot_dict_getitem.lookup hs (thn (ho.run pins s σ H _ I h) fun u s1 ⟨x, H1, I1, rx, q1⟩ => thn (hi.run pins s1 σ H1 _ I1 q1) fun iv s2 ⟨y, H2, I2, ry, D, zs, b, k, v, ex, ey, hD, hz, hb, hv, q2⟩ => ?_)
  subst ex ey
  obtain rfl : u = Value.ref D := rx
  obtain rfl : iv = Value.ref b := ry
  have kind : s2.TypeIs (.ref D) "dict" := by
    obtain ⟨xs, _, dd⟩ := dco_rows I2 hD hz
    exact dd.typeIs
  exact ⟨kind, dco_get hu I2 hD hz hb hv fun w s3 I3 rw => ⟨v, H2, I3, rw, q2⟩⟩
def sZPut (K : PySem.W.Frag) (tv td ty : TE) : TS := fun E σ H => tv σ H fun v H1 => td σ H1 fun x H2 => ty σ H2 fun y H3 => ∃ D zs b k, x = .ref D ∧ y = .ref b ∧ H3 D = some (dco D zs) ∧ zs.length < sizeLine ∧ (∀ z ∈ zs, SqT K H3 z.2.1 (z.1.map V.int)) ∧ SqT K H3 b (k.map V.int) ∧ E.nx σ (upd H3 D (dco D (putZ zs k b v)))
theorem ps_zput {pos' : Pos} {val : Expr} {tv : TE} (hu : X.A.units + 1 < cLine) (hv : PE X val tv) (ho : PE X o td) (hi : PE X e ty) (hs : swapsWith val (some (.Subscript o e pos')) pos.line X.env = pure false) : PS X (.Assign [.Subscript o e pos'] val pos) (sZPut X.K tv td ty) := by
  refine ⟨fun pins s σ H E I h => wpAny_Assign_Subscript (thn (hv.run pins s σ H _ I h) fun r s1 ⟨v, H1, I1, rv, q1⟩ => thn (ho.run pins s1 σ H1 _ I1 q1) fun u s2 ⟨x, H2, I2, rx, q2⟩ => thn (hi.run pins s2 σ H2 _ I2 q2) fun iv s3 ⟨y, H3, I3, ry, D, zs, b, k, ex, ey, hD, hl, hz, hb, q3⟩ => ?_) hs⟩
  subst ex ey
  obtain rfl : u = Value.ref D := rx
  obtain rfl : iv = Value.ref b := ry
  exact dco_put hu I3 hD hl hz hb rv fun s4 I4 => ⟨σ, _, I4, q3⟩
end
section
variable {K : PySem.W.Frag} {H H' T : Hp} {A : List Addr} {σ : L2.St} {η : Nv} {i : Nat} {ks : List (List Int × D)}
theorem dz_ref (E : EnvD K H A σ η) (h : η[i]? = some (.dk (.tup ks))) : ∃ a zs, σ[i]? = some (some (.ref a)) ∧ a ∈ A ∧ (a == sysModules) = false ∧ H a = some (dco a zs) ∧ Paired (ZT K (hid A H)) zs ks := by
  obtain ⟨o, e1, q⟩ := E.at_ i _ h
  match o, q, e1 with
  | some (.ref a), ⟨m, o, e2, so, zs, far, eo, q⟩, e1 =>
    subst eo
    exact ⟨a, zs, e1, m, far, e2, q⟩
theorem zt_here {zs : List Zr} (s : Same T H) (h : Paired (ZT K T) zs ks) : ∀ z ∈ zs, SqT K H z.2.1 (z.1.map V.int) := fun z m => sqT_same s (zt_keys h z m)
end
/-! ### asked -/
def zgetD (i : Nat) (Fk : Nv → R D) : Nv → R D := fun η => match η[i]? with
  | some (.dk (.tup ks)) => (Fk η).bind fun k => match keyD k with
    | some l => .of (zAtD ks l)
    | none => .no
  | _ => .no
/-- asked of a dict that is only read -/
def zhas (b : Bool) (i : Nat) (Fk : Nv → R D) : Nv → R Bool := fun η => match η[i]? with
  | some (.m ks) => (Fk η).bind fun k => match keyD k with
    | some l => if isI ks = false then .ok ((atI ks l).isSome == b) else .no
    | none => .no
  | _ => .no
def zlist (i : Nat) : Nv → R D := fun η => match η[i]? with
  | some (.dk (.tup ks)) => if ks.length ≤ lineN then .ok (.list (ks.map fun p => tupI p.1)) else .no
  | _ => .no
section
variable {K : PySem.W.Frag} {T : Hp} {zs : List Zr} {ks : List (D × D)} {k : List Int}
end
section
variable {X : Cx} {W : WX} {e : Expr} {pos p : Pos} {Fk : Nv → R D} {x : Str}
theorem t_zgetD (i : Nat) (hu : X.A.units + 64 < cLine) (hk : TD X W e Fk) (hN : X.N[i]? = some x := by rfl) (hs : NoSl e := by exact fun _ _ => rfl)
    (hv : Vis X.env.scope x := by first | exact Or.inl rfl | exact Or.inr (Or.inl rfl) | exact Or.inr (Or.inr rfl)) (hd : (x == ("__debug__" : Str)) = false := by decide)
    (hcd : (x == ("__classdict__" : Str)) = false := by decide) : TD X W (.Subscript (.Name x p) e pos) (zgetD i Fk) :=
  peW (pe_zget (by omega) (pe_var hN hv hd hcd) hk hs) fun σ H Q h => by
    obtain ⟨η, A, E, p0⟩ := h
    have p : Post X.K X.mg W (rD X.K) σ A H (zgetD i Fk η) Q := p0
    unfold zgetD at p
    split at p
    case h_2 => exact False.elim p
    rename_i ks em
    obtain ⟨a, zs, ea, m, far, hA, hp⟩ := dz_ref E em
    refine ⟨.ref a, ea, post_key back_D E p fun y H2 d s q p => ?_⟩
    split at p
    case h_2 => exact False.elim p
    rename_i l el
    have hp2 := zt_same (hid_same (A := A) s) hp
    cases ev : zAtD ks l with
    | none => rw [ev] at p; exact False.elim p
    | some d =>
      rw [ev] at p
      obtain ⟨v, e1, q1⟩ := zt_at hp2 ev
      obtain ⟨b, rfl, hb⟩ := keyD_dp q el
      exact ⟨a, zs, b, l, v, rfl, rfl, s _ _ hA, zt_here (hid_le A H2) hp2, sqT_same (hid_le A H2) hb, e1, p v H2 (Same.refl _) q1⟩
end
/-! ### made, changed -/
def newZ (i : Nat) : Nv → Rs := fun η => .nx (η.set i (.dk (.tup [])))
def xZPut (i : Nat) (F : Nv → R (D × Nv)) (Fk : Nv → R D) : Nv → Rs := fun η => (only (F η)).toS fun p => match p.2[i]? with
  | some (.dk (.tup ks)) => (only (Fk p.2)).toS fun k => match keyD k with
    | some l => if sole i p.2 = true ∧ ks.length < lineN then .nx (p.2.set i (.dk (.tup (zPutD ks l p.1)))) else .no
    | none => .no
  | _ => .no
section
variable {X : Cx} {f : Fx} {e ek : Expr} {pos : Pos} {x : Str}
theorem s_newZ (i : Nat) {pos' p2 : Pos} (hN : X.N.Nodup) (hi : X.N[i]? = some x := by rfl) (hx : Loc X.env.scope x := by first | exact Or.inl rfl | exact Or.inr rfl) (hs : swapsWith (.Dict [] [] p2) (some (.Name x pos')) pos.line X.env = pure false := by rfl)
    (hf : X.fn x = true ∨ X.env.scope.names.lookup x = some .local := by first | exact .inl rfl | exact .inr rfl) : TS' X f (.Assign [.Name x pos'] (.Dict [] [] p2) pos) (newZ i) :=
  psW (ps_set hN hi hx pe_dnewD hs hf) fun E σ H h => by
    obtain ⟨η, B, e0, p0⟩ := h
    have p : PostS X.K X.mg f.W f.rl f.M f.H0 f.A0 H B (.nx (η.set i (.dk (.tup [])))) E := p0
    exact fun M hM far => p _ _ (M :: B) (e0.setK hM (same_new hM) upd_same (.inr ⟨_, rfl⟩) ⟨[], far, rfl, .nil⟩) (hid_new (same_new hM) hM)
theorem xs_zput (i : Nat) {W : WX} {p pos' : Pos} {F : Nv → R (D × Nv)} {Fk : Nv → R D} (hu : X.A.units + 64 < cLine) (he : TX X (rD X.K) e F) (hk : TD X W ek Fk) (hN : X.N[i]? = some x := by rfl)
    (hvis : Vis X.env.scope x := by first | exact Or.inl rfl | exact Or.inr (Or.inl rfl) | exact Or.inr (Or.inr rfl)) (hd : (x == ("__debug__" : Str)) = false := by decide)
    (hcd : (x == ("__classdict__" : Str)) = false := by decide) (hs : swapsWith e (some (.Subscript (.Name x p) ek pos')) pos.line X.env = pure false := by rfl) : TS' X f (.Assign [.Subscript (.Name x p) ek pos'] e pos) (xZPut i F Fk) :=
  psW (ps_zput (by omega) (x_only he) (pe_var hN hvis hd hcd) (x_up (W := W) hk) hs) fun E σ H h => toS_X h (fun η η1 B H1 v d e0 e1 k m s q p => by
    have p : PostS X.K X.mg f.W f.rl f.M f.H0 f.A0 H B (match η1[i]? with
      | some (.dk (.tup ks)) => (only (Fk η1)).toS fun k => match keyD k with
        | some l => if sole i η1 = true ∧ ks.length < lineN then .nx (η1.set i (.dk (.tup (zPutD ks l d)))) else .no
        | none => .no
      | _ => .no) E := p
    split at p
    case h_2 => exact False.elim p
    rename_i ks em
    obtain ⟨a, zs, ea, mA, far, hA, hp⟩ := dz_ref e1.env em
    refine ⟨.ref a, ea, ?_⟩
    refine (show tX X.K (rD X.K) (up Fk) σ H1 _ from ⟨η1, B ++ f.A0, e1.env, ?_⟩)
    unfold up
    cases ef : Fk η1 with
    | ex c w z => rw [ef] at p; exact False.elim p
    | no => rw [ef] at p; exact False.elim p
    | ok kk =>
      rw [ef] at p
      replace p : PostS X.K X.mg f.W f.rl f.M f.H0 f.A0 H B (match keyD kk with
        | some l => if sole i η1 = true ∧ ks.length < lineN then .nx (η1.set i (.dk (.tup (zPutD ks l d)))) else .no
        | none => .no) E := p
      intro kv H2 E2 k2 m2 qk
      have E2 : EnvD X.K H2 (B ++ f.A0) σ η1 := E2
      replace qk : Dp X.K (hid (B ++ f.A0) H2) kv kk := qk
      split at p
      case h_2 => exact False.elim p
      rename_i l el
      split at p
      case isFalse => exact False.elim p
      rename_i hz
      obtain ⟨a2, zs2, ea2, mA2, far2, hA2, hp2⟩ := dz_ref E2 em
      have ee : a2 = a := by
        rw [ea] at ea2
        cases ea2
        rfl
      subst ee
      obtain ⟨b, rfl, hb⟩ := keyD_dp qk el
      have e2 : EnvS X.K f.M f.H0 f.A0 H2 B σ η1 := e1.mv E2 k2 m2
      have sh : Same (hid (B ++ f.A0) H1) (hid (B ++ f.A0) H2) := m2.hid e1.env
      have qv : Dp X.K (hid (B ++ f.A0) H2) v d := Dp_mono q sh
      refine ⟨a2, zs2, b, l, rfl, rfl, hA2, by rw [line_eq, hp2.length]; exact hz.2, zt_here (hid_le _ H2) hp2, sqT_same (hid_le _ H2) hb, p σ _ B (e2.putK em ea hA2 (.inr ⟨_, rfl⟩) (.inr ⟨_, rfl⟩) ⟨_, far, rfl, zt_put hp2 hb qv⟩) ?_⟩
      rw [hid_upd mA2]
      exact s.trans sh) fun η => only_nx _
end
end Bd
/-! D36: a def that is handed a list that it may change, and dicts that it reads. -/
namespace Bd
open PySem L2

/-- an argument: data, or a dict that is read -/
def AgR (K : PySem.W.Frag) (T : Hp) (v : V) (d : D) : Prop := match d with
  | .dict ks => ∃ a, v = .ref a ∧ DcR K T a ks
  | d => Dp K T v d
abbrev AgAll (K : PySem.W.Frag) (T : Hp) : List V → List D → Prop := Paired (AgR K T)
theorem AgR.of {K : PySem.W.Frag} {T : Hp} {v : V} {d : D} (h : Dp K T v d) : AgR K T v d := by
  cases d with
  | dict ks => cases h
  | _ => exact h
theorem AgR.same {K : PySem.W.Frag} {T T' : Hp} {v : V} {d : D} (h : AgR K T v d) (s : Same T T') : AgR K T' v d := by
  cases d with
  | dict ks =>
    obtain ⟨a, e, q⟩ := h
    exact ⟨a, e, q.same s⟩
  | _ => exact Dp_mono h s
theorem AgAll.of {K : PySem.W.Frag} {T : Hp} : ∀ {vs : List V} {ds : List D}, DpAll K T vs ds → AgAll K T vs ds
  | _, _, .nil => .nil
  | _, _, .cons h t => .cons (.of h) (AgAll.of t)
def slM : D → Sl
  | .dict ks => .m ks
  | d => .d d
def initM (m : Nat) (ds : List D) : Nv := ds.map slM ++ List.replicate (m - ds.length) Sl.no
section
variable {K : PySem.W.Frag}
def initKM (m : Nat) (kx : List D) (ds : List D) : Nv := .own ⟨false, kx⟩ :: initM (m - 1) ds
def runKM (m : Nat) (G : Nv → Rs) (kx : List D) (ds : List D) : R (D × List D) := match G (initKM m kx ds) with
  | .rt d η => outK d η
  | _ => .no
end
section
variable {P : Program} {w : World} {K : PySem.W.Frag} {mg : Str → Option Value} {base : Heap}
end
/-! ### its call: the list, a dict of one's own, data -/
section
variable {K : PySem.W.Frag} {H : Hp} {A B : List Addr}
theorem rdL_ext {a : Addr} {xs : List V} (hl : ∀ b ∈ A, b ∉ B → ∃ p, H b = some (.ext p)) (h : SqL K (hid B H) a xs) : SqL K (hid A H) a xs := by
  have key : ∀ o, (∀ p, o ≠ HO.ext p) → hid B H a = some o → hid A H a = some o := fun o no e => by
    obtain ⟨n, e⟩ := hid_some e
    rw [hid_out fun m => ?_]
    · exact e
    · obtain ⟨p, z⟩ := hl a m n
      rw [e] at z
      exact no p (Option.some.inj z)
  rcases h with (h | ⟨o, h⟩) | h
  · exact .inl (.inl (key _ (fun p z => nomatch z) h))
  · exact .inl (.inr ⟨o, key _ (fun p z => nomatch z) h⟩)
  · exact .inr h
theorem rdT_ext {a : Addr} {xs : List V} (hl : ∀ b ∈ A, b ∉ B → ∃ p, H b = some (.ext p)) (h : SqT K (hid B H) a xs) : SqT K (hid A H) a xs := by
  have key : ∀ o, (∀ p, o ≠ HO.ext p) → hid B H a = some o → hid A H a = some o := fun o no e => by
    obtain ⟨n, e⟩ := hid_some e
    rw [hid_out fun m => ?_]
    · exact e
    · obtain ⟨p, z⟩ := hl a m n
      rw [e] at z
      exact no p (Option.some.inj z)
  rcases h with (h | ⟨o, h⟩) | h
  · exact .inl (.inl (key _ (fun p z => nomatch z) h))
  · exact .inl (.inr ⟨o, key _ (fun p z => nomatch z) h⟩)
  · exact .inr h
mutual
theorem dp_ext (hl : ∀ b ∈ A, b ∉ B → ∃ p, H b = some (.ext p)) : ∀ (d : D) (v : V), Dp K (hid B H) v d → Dp K (hid A H) v d
  | .none, _, h => by cases h; exact .non
  | .bool b, _, h => by cases h; exact .bl b
  | .int i, _, h => by cases h; exact .int i
  | .str x, _, h => by cases h; exact .str x
  | .list ds, _, h => by
    cases h with
    | lst h1 h2 => exact .lst (rdL_ext hl h1) (dps_ext hl ds _ h2)
  | .tuple ds, _, h => by
    cases h with
    | tup h1 h2 => exact .tup (rdT_ext hl h1) (dps_ext hl ds _ h2)
  | .dict _, _, h => by cases h
theorem dps_ext (hl : ∀ b ∈ A, b ∉ B → ∃ p, H b = some (.ext p)) : ∀ (ds : List D) (vs : List V), DpAll K (hid B H) vs ds → DpAll K (hid A H) vs ds
  | [], _, h => by cases h; exact .nil
  | d :: ds, _, h => by
    cases h with
    | cons h1 h2 => exact .cons (dp_ext hl d _ h1) (dps_ext hl ds _ h2)
end
end
def tkD (ks : List (List Int × D)) : List (D × D) := ks.map fun p => (tupI p.1, p.2)
theorem isI_tk (ks : List (List Int × D)) : isI (tkD ks) = false := by
  cases ks <;> rfl
/-- f(deck, d, ..) -/
def xCallKM (i j : Nat) (Fk : List D → List D → R (D × List D)) (Fs : Nv → R (List D × Nv)) : Nv → R (D × Nv) := fun η => match η[i]?, η[j]? with
  | some (.own _), some (.dk (.tup _)) => (Fs η).bind fun p => match p.2[j]? with
    | some (.dk (.tup ks)) => if ks.length ≤ lineN then xPut i (fun kx ds => Fk kx (.dict (tkD ks) :: ds)) p else .no
    | _ => .no
  | _, _ => .no
section
variable {X : Cx} {es : List Expr} {Fs : Nv → R (List D × Nv)} {p pos : Pos}
end
end Bd
/-! D37: sorted(xs, key=f) by data. -/
namespace Bd
open PySem L2

section
variable {K : PySem.W.Frag} {T : Hp}
end
section
variable {X : Cx} {W : WX} {e : Expr} {p pf kpos pos : Pos} {F : Nv → R D} {fn : Str}
end
end Bd
/-! D38: `k in d` as a value. -/
namespace Bd
open PySem L2
def boV (G : Nv → R Bool) : Nv → R D := fun η => (G η).bind fun b => .ok (.bool b)
section
variable {X : Cx} {W : WX} {e : Expr} {pos p : Pos} {Fk : Nv → R D} {x : Str}
end
end Bd
/-! D39: a, b = e1, e2. -/
namespace Bd
open PySem L2
section
variable {X : Cx} {f : Fx} {a b : Expr} {pos : Pos} {x y : Str}
end
end Bd
/-! D40: xs.remove(y), a list of the def's own, any data. -/
namespace Bd
open PySem L2
section
variable {X : Cx} {f : Fx} {e : Expr} {F : Nv → R (D × Nv)} {apos cpos px : Pos}
end
end Bd
/-! D41: name = [.. for .. in xs ..], xs a list of the def's own, where the line folds the two. -/
namespace Bd
open PySem L2
section
variable {X : Cx} {f : Fx} {tg elt : Expr} {pos px : Pos} {ifs : List Expr} {scope : Scope} {own : List (Str × Nat)} {T : Tgt} {js : List Nat} {C : Nv → R (Bool × Nv)} {El : Nv → R (D × Nv)}
end
end Bd
/-! D42: words that a module names. -/
namespace Bd
open PySem L2
section
variable {X : Cx} {W : WX} {pos : Pos}
end
end Bd
/-! D43: len(set(xs)). -/
namespace Bd
open PySem L2
section
variable {X : Cx} {W : WX} {p pos : Pos}
end
end Bd
/-! D23: rows of three ints and a thing sorted, when the ints tell the thing. -/
namespace Bd
open PySem L2

section
variable {prog : Program} {w : World} {A : Around} {s : Shared}
end
section
variable {X : Cx}
end
end Bd
namespace Bd
open PySem L2
def at0 : D → D → Bool
  | .none, .none => true
  | .int a, .int b => decide (a = b)
  | _, _ => false
def at1 : List D → List D → Bool
  | [], [] => true
  | x :: xs, y :: ys => at0 x y && at1 xs ys
  | _, _ => false
def at2 : D → D → Bool
  | .tuple xs, .tuple ys => at1 xs ys
  | _, _ => false
def at3 : D → D → Bool
  | .tuple [.int a, .int b, .int c, x], .tuple [.int a', .int b', .int c', y] => decide (a = a') && decide (b = b') && decide (c = c') && at2 x y
  | _, _ => false
section
variable {X : Cx} {W : WX} {e : Expr} {pos p : Pos}
end
end Bd
/-! D44: rows of two ints, a pair of ints and a thing sorted, when the ints tell the thing. -/
namespace Bd
open PySem L2
abbrev K4 := Int × Int × Int × Int
def key4 : D → K4
  | .tuple [.int a, .int b, .tuple [.int x, .int y], _] => (a, b, x, y)
  | _ => (0, 0, 0, 0)
def Lt4 (p q : K4) : Prop := p.1 < q.1 ∨ (p.1 = q.1 ∧ (p.2.1 < q.2.1 ∨ (p.2.1 = q.2.1 ∧ (p.2.2.1 < q.2.2.1 ∨ (p.2.2.1 = q.2.2.1 ∧ p.2.2.2 < q.2.2.2)))))
instance (p q : K4) : Decidable (Lt4 p q) := by unfold Lt4; infer_instance
noncomputable def kyR (h : Heap) (v : Value) : K4 := key4 (SeqAt.readOf h v)
section
variable {prog : Program} {w : World} {A : Around} {s : Shared}
end
section
variable {X : Cx}
end
def at4 : D → D → Bool
  | .tuple [.int a, .int b, c, x], .tuple [.int a', .int b', c', y] => decide (a = a') && decide (b = b') && at2 c c' && at2 x y
  | _, _ => false
section
variable {X : Cx} {W : WX} {e : Expr} {pos p : Pos}
end
end Bd
/-! D45: list(range(e)), e draws. -/
namespace Bd
open PySem L2
section
variable {X : Cx} {a : Expr} {F : Nv → R (D × Nv)} {p p2 pos pos2 : Pos}
end
end Bd
/-! D46: len of a dict of the def's own, keys tuples. -/
namespace Bd
open PySem L2
section
variable {X : Cx} {W : WX} {x : Str} {p q pos : Pos}
end
end Bd
/-! D47: dicts with int keys that a def is handed to read. -/
namespace Bd
open PySem L2
theorem isI_zd {K : PySem.W.Frag} {T : Hp} : ∀ {zs : List Zr} {ks : List (D × D)}, Paired (ZD K T) zs ks → isI ks = false
  | _, _, .nil => rfl
  | _, _, .cons (b := k) h _ => by
    obtain ⟨x, y⟩ := k
    obtain ⟨e, _⟩ := h
    have e : x = _ := e
    subst e
    rfl
theorem DcR.int {K : PySem.W.Frag} {T : Hp} {a : Addr} {ks : List (D × D)} (h : DcR K T a ks) (t : isI ks = true) : DcI K T a ks := by
  rcases h with ⟨_, _, zs, _, p⟩ | h
  · rw [isI_zd p] at t
    cases t
  · exact h
section
variable {X : Cx} {W : WX} {e e2 : Expr} {pos p : Pos} {Fk Fx : Nv → R D} {x : Str}
end
/-! ### a def that reads dicts -/
section
variable {P : Program} {w : World} {K : PySem.W.Frag} {mg : Str → Option Value} {base : Heap}
end
/-! ### its call -/
/-- an argument: data, or a dict of the def's own with int keys -/
def vM (K : PySem.W.Frag) : Rv := fun H A v d => match d with
  | .dict ks => ∃ a kvs ki, ks = iD ki ∧ v = .ref a ∧ H a = some (.dK kvs) ∧ Paired (KD K (hid A H)) kvs ki
  | d => Dp K (hid A H) v d
theorem vM_of {K : PySem.W.Frag} {H : Hp} {A : List Addr} {v : V} {d : D} (h : Dp K (hid A H) v d) : vM K H A v d := by
  cases d with
  | dict ks => cases h
  | _ => exact h
section
variable {X : Cx} {W : WX} {e : Expr} {Fe : Nv → R D} {pos p : Pos} {x : Str}
theorem TD.mv (h : TD X W e Fe) : TV X W (vM X.K) e Fe := peW h fun _ _ _ => tR_imp fun _ _ _ _ _ _ _ q => vM_of q
end
section
variable {K : PySem.W.Frag} {H : Hp} {A B : List Addr}
theorem rdL_dk {a : Addr} {xs : List V} (hl : ∀ b ∈ A, b ∉ B → ∃ p, H b = some (.dK p)) (h : SqL K (hid B H) a xs) : SqL K (hid A H) a xs := by
  have key : ∀ o, (∀ p, o ≠ HO.dK p) → hid B H a = some o → hid A H a = some o := fun o no e => by
    obtain ⟨n, e⟩ := hid_some e
    rw [hid_out fun m => ?_]
    · exact e
    · obtain ⟨p, z⟩ := hl a m n
      rw [e] at z
      exact no p (Option.some.inj z)
  rcases h with (h | ⟨o, h⟩) | h
  · exact .inl (.inl (key _ (fun p z => nomatch z) h))
  · exact .inl (.inr ⟨o, key _ (fun p z => nomatch z) h⟩)
  · exact .inr h
theorem rdT_dk {a : Addr} {xs : List V} (hl : ∀ b ∈ A, b ∉ B → ∃ p, H b = some (.dK p)) (h : SqT K (hid B H) a xs) : SqT K (hid A H) a xs := by
  have key : ∀ o, (∀ p, o ≠ HO.dK p) → hid B H a = some o → hid A H a = some o := fun o no e => by
    obtain ⟨n, e⟩ := hid_some e
    rw [hid_out fun m => ?_]
    · exact e
    · obtain ⟨p, z⟩ := hl a m n
      rw [e] at z
      exact no p (Option.some.inj z)
  rcases h with (h | ⟨o, h⟩) | h
  · exact .inl (.inl (key _ (fun p z => nomatch z) h))
  · exact .inl (.inr ⟨o, key _ (fun p z => nomatch z) h⟩)
  · exact .inr h
mutual
theorem dp_dk (hl : ∀ b ∈ A, b ∉ B → ∃ p, H b = some (.dK p)) : ∀ (d : D) (v : V), Dp K (hid B H) v d → Dp K (hid A H) v d
  | .none, _, h => by cases h; exact .non
  | .bool b, _, h => by cases h; exact .bl b
  | .int i, _, h => by cases h; exact .int i
  | .str x, _, h => by cases h; exact .str x
  | .list ds, _, h => by
    cases h with
    | lst h1 h2 => exact .lst (rdL_dk hl h1) (dps_dk hl ds _ h2)
  | .tuple ds, _, h => by
    cases h with
    | tup h1 h2 => exact .tup (rdT_dk hl h1) (dps_dk hl ds _ h2)
  | .dict _, _, h => by cases h
theorem dps_dk (hl : ∀ b ∈ A, b ∉ B → ∃ p, H b = some (.dK p)) : ∀ (ds : List D) (vs : List V), DpAll K (hid B H) vs ds → DpAll K (hid A H) vs ds
  | [], _, h => by cases h; exact .nil
  | d :: ds, _, h => by
    cases h with
    | cons h1 h2 => exact .cons (dp_dk hl d _ h1) (dps_dk hl ds _ h2)
end
open Classical in
/-- what is hidden but for dicts of the def's own -/
noncomputable def unK (H : Hp) (A : List Addr) : List Addr := A.filter fun b => decide (¬ ∃ kvs, H b = some (.dK kvs))
end
section
variable {X : Cx} {W : WX} {e : Expr} {es : List Expr} {x : Str} {p pos : Pos} {k n : Nat} {Fn : List D → R D} {Fs : Nv → R (List D)}
end
end Bd
/-! D48: dict(xs), xs a list of pairs with int keys. -/
namespace Bd
open PySem L2
section
variable {K : PySem.W.Frag} {T T' : Hp}
end
section
variable {X : Cx} {W : WX} {e : Expr} {Fe : Nv → R D} {p pos : Pos}
end
end Bd
/-! D49: k in d as a value, d read only, keys ints. -/
namespace Bd
open PySem L2
section
variable {X : Cx} {W : WX} {e : Expr} {Fk : Nv → R D} {pos p : Pos} {x : Str}
end
end Bd
/-! X9: {e for t in xs if ..}, e an int: a set of ints. -/
namespace Bd
open PySem PySem.Spec PyProof.Rows L2

theorem sins_size {k : Int} : ∀ {l : List Int}, Asc l → (sins k l).length = if k ∈ l then l.length else l.length + 1
  | [], _ => rfl
  | x :: l, h => by
    obtain ⟨h1, h2⟩ := List.pairwise_cons.mp h
    unfold sins
    by_cases a : k < x
    · have n : k ∉ x :: l := fun m => by
        rcases List.mem_cons.mp m with e | m
        · omega
        · have := h1 k m
          omega
      rw [if_pos a, if_neg n]
      rfl
    · rw [if_neg a]
      by_cases b : k = x
      · rw [if_pos b, if_pos (by rw [b]; exact List.mem_cons_self)]
      · rw [if_neg b, List.length_cons, sins_size h2]
        by_cases c : k ∈ l
        · rw [if_pos c, if_pos (List.mem_cons_of_mem _ c)]
          rfl
        · rw [if_neg c, if_neg fun m => (List.mem_cons.mp m).elim b c]
          rfl
/-- what is put in next -/
def setNext (w : World) (D : Addr) (l : List Int) (k : Int) : HO := SetO w D (fun j => decide (j ∈ l) || decide (j = k)) (if decide (k ∈ l) = true then l.length else l.length + 1)
theorem setNext_eq {w : World} {D : Addr} {l : List Int} {k : Int} (h : Asc l) : setNext w D l k = SetL w D (sins k l) := by
  unfold setNext SetL
  have e1 : (fun j => decide (j ∈ l) || decide (j = k)) = fun j => decide (j ∈ sins k l) := by
    funext j
    rw [Bool.eq_iff_iff, Bool.or_eq_true, decide_eq_true_iff, decide_eq_true_iff, decide_eq_true_iff, mem_sins]
    exact Or.comm
  have e2 : (if decide (k ∈ l) = true then l.length else l.length + 1) = (sins k l).length := by
    rw [sins_size h]
    by_cases c : k ∈ l
    · rw [if_pos c, if_pos (decide_eq_true c)]
    · rw [if_neg c, if_neg (by rw [decide_eq_false c]; decide)]
  rw [e1, e2]
theorem sins_end (l : List Int) (k : Int) : sins k (sset l) = sset (l ++ [k]) :=
  asc_ext (sins_asc (sset_asc l)) (sset_asc _) fun {x} => by rw [mem_sins, mem_sset, mem_sset, List.mem_append, List.mem_singleton]; exact Or.comm
def SStep (w : World) (D : Addr) (y : V) (H : Hp) (Nx : Hp → Prop) : Prop :=
  ∃ l k, y = .int k ∧ H D = some (SetL w D l) ∧ Asc l ∧ l.length < 4000 ∧ Nx (upd H D (SetL w D (sins k l)))
def STurns (w : World) (J : It) (g : TG) (tt : TT) (te : TE) (σ0 : L2.St) (vs : List Nat) (D : Addr) (Q : Hp → Prop) (W : Nat → Nat → Hp → Prop) : Prop :=
  ∀ i m H, W i m H → (J.stop i H ∧ Q H) ∨ (J.go i H ∧ ∃ Nx : Hp → Prop, (∀ G, Nx G → ∃ n, n < m ∧ W (i + 1) n G) ∧
    ∀ x G, J.yld i H x G → g x σ0 G fun τ G1 => wipe τ vs = σ0 ∧ tt τ G1 fun b G2 => if b = true then te τ G2 fun y G3 => SStep w D y G3 Nx else Nx G2)
def tSx (w : World) (wi : TI) (g : TG) (tt : TT) (te : TE) (vs : List Nat) : TE := fun σ H Q => wi σ H fun J H1 => ∀ D, H1 D = none →
  ∃ W : Nat → Nat → Hp → Prop, (∃ m, W 0 m (upd H1 D (SetL w D []))) ∧ STurns w J g tt te (wipe σ vs) vs D (Q (.ref D)) W
section
variable {X : Cx} {elt tg iter : Expr} {ifs : List Expr} {scope : Scope} {own : List (Str × Nat)} {pos : Pos} {wi : TI} {g : TG} {tt : TT} {te : TE}
theorem pe_sx (calm : X.calm = true) (nd : X.N.Nodup) (hw : PI X tg iter wi) (bo : BlkOk X.N X.env.scope scope own)
    (pg : ∀ (s : Shared) (H : Hp) (C : Addr) (cl : List (Str × Addr)) (fp : List Addr), PG (X.blk s H scope (compEnvC scope cl C X.env) fp) tg g)
    (pt : ∀ (s : Shared) (H : Hp) (C : Addr) (cl : List (Str × Addr)) (fp : List Addr), PTs (X.blk s H scope (compEnvC scope cl C X.env) fp) ifs tt)
    (pe : ∀ (s : Shared) (H : Hp) (C : Addr) (cl : List (Str × Addr)) (fp : List Addr), PE (X.blk s H scope (compEnvC scope cl C X.env) fp) elt te)
    (fo : ∀ x, foldedSetIterable iter X.env x = pure x := by intro _; rfl) : PE X (.SetComp elt [⟨tg, iter, ifs, 0⟩] scope pos) (tSx X.w wi g tt te (own.map (·.2))) := by
  refine ⟨fun pins s σ H Q I0 wish => ?_⟩
  rw [PpSet.eval_SetComp]
  have cells : ∀ nm ∈ scope.names, nm.2 = .free → ∃ c, X.env.cells.lookup nm.1 = some c := fun nm mem isf => (bo.free nm mem isf).elim (fun z => I0.ok.has _ (.inl z)) fun z => I0.ok.has _ (.inr z)
  refine wpAny_comprehension_free (use := none) rfl fo (closure_ok cells) bo.kind (fun nm mem isl => by rw [bo.uniq nm mem, isl])
    (thn (hw.run pins s σ H _ I0 wish) fun xv sA stepA => thn stepA fun itv sB stepB => ?_)
  obtain ⟨it, fp, turn, J, HB, eit, IB, T, atB, okB, rest⟩ := stepB
  subst eit
  refine PpSet.newSet_ok (newEnv_comp ?_)
  -- the new set
  generalize eD : sB.heap.objs.size = D
  have freeD : HB D = none := IB.hok.fresh (Nat.le_of_eq eD)
  obtain ⟨W, ⟨top, start⟩, turns⟩ := rest D freeD
  generalize esC : ({ sB with heap := sB.heap.push { cls := .type "set", dict := none, data := .set #[] 0 (.fresh 0 0 (!X.w.params.followText "set-order")) } } : Shared) = sC
  have heapC : sC.heap = sB.heap.push { cls := .type "set", dict := none, data := .set #[] 0 (.fresh 0 0 (!X.w.params.followText "set-order")) } := by rw [← esC]
  have IC : Inv X pins σ (upd HB D (SetL X.w D [])) sC := by
    subst esC
    refine IB.laid (t' := sB.toks) (fun c u e => Heap.get?_push_of_some _ e) (Nat.le_of_eq eD) ?_
    subst eD
    exact setO_new ((setR_new_at (ns := []) (Heap.get?_push_size _ rfl)).congr fun k => by simp)
  have lowFp : ∀ c ∈ fp, c < sB.heap.objs.size := fun c mc => by
    obtain ⟨_, e, _⟩ := T.obj _ _ atB c mc
    exact Heap.lt_size e
  have okC : ∀ c ∈ fp, FpOk X pins (upd HB D (SetL X.w D [])) c ∧ c < sC.heap.objs.size := fun c mc => by
    have lt := lowFp c mc
    refine ⟨⟨?_, (okB c mc).2⟩, by rw [heapC, Heap.size_push]; exact Nat.lt_succ_of_lt lt⟩
    rw [upd_ne (by rw [← eD]; exact Nat.ne_of_lt lt)]
    exact (okB c mc).1
  have atC : turn 0 sC.heap := T.keep _ _ _ atB fun c _ u e => by
    rw [heapC]
    exact Heap.get?_push_of_some _ e
  -- the block's names
  have ID := block_start IC bo nd okC
  let cl := cellsFrom (sC.heap.objs.size + 1) scope.names (cloFrom X.env.cells scope.names [])
  have g1 := pg sC (upd HB D (SetL X.w D [])) sC.heap.objs.size cl fp
  have t1 := pt sC (upd HB D (SetL X.w D [])) sC.heap.objs.size cl fp
  have e1 := pe sC (upd HB D (SetL X.w D [])) sC.heap.objs.size cl fp
  have noneFp : ∀ c ∈ fp, (upd HB D (SetL X.w D [])) c = none := fun c mc => (okC c mc).1.1
  show codeAny _ _ (.compStart (.SetComp elt [⟨tg, iter, ifs, 0⟩] scope pos) 0 (.ref it) (.ref D) (compEnvC scope cl sC.heap.objs.size X.env)) (compPost (model X.prog X.w) X.A X.xe none (EP X pins σ Q) (.ref D) sC.heap.objs.size) { sC with heap := pushCells (sC.heap.push { cls := .type "dict", data := .dict #[] }) scope.names }
  generalize eE : compEnvC scope cl sC.heap.objs.size X.env = E1 at ID g1 t1 e1 ⊢
  have locE : E1.locals = sC.heap.objs.size := by rw [← eE]; rfl
  generalize eH : upd HB D (SetL X.w D []) = HC at IC ID g1 t1 e1 start noneFp okC
  generalize esD : ({ sC with heap := pushCells (sC.heap.push { cls := .type "dict", data := .dict #[] }) scope.names } : Shared) = sD at ID ⊢
  have atD : turn 0 sD.heap := T.keep _ _ _ atC fun c _ u e => by
    rw [← esD]
    exact pushCells_keeps _ _ _ _ (Heap.get?_push_of_some _ e)
  have fpIn : ∀ {τ : L2.St} {G : Hp} {t : Shared}, Inv (X.blk sC HC scope E1 fp) [] τ G t → (∀ c ∈ fp, G c = none) → ∀ c ∈ fp, FpOk (X.blk sC HC scope E1 fp) [] G c := fun {τ G t} J1 nn c mc =>
    ⟨nn c mc, (J1.ok.exf c mc).1, J1.ok.exfs c mc, .inl mc, fun nm cc e => (J1.ok.exf c mc).2 nm cc e, fun p mp => absurd (show p ∈ ([] : List (Addr × Obj)) ++ [] from mp) List.not_mem_nil⟩
  refine PpSet.codeAny_compStart_set ?_ (T.self X.A 0 _ _ _ atD ?_) <;>
  · refine PpSet.compLoopS_any (fun n t => ∃ i G, W i n G ∧ turn i t.heap ∧ (∀ c ∈ fp, G c = none) ∧ Inv (X.blk sC HC scope E1 fp) [] (wipe σ (own.map (·.2))) G t) ?_ top ⟨0, HC, start, atD, noneFp, ID⟩
    rintro n t ⟨i, G, wG, atG, nnG, IG⟩
    rcases turns i n G wG with ⟨isStop, fine⟩ | ⟨isGo, Nx, less, body⟩
    · refine thnF (T.done (X.blk sC HC scope E1 fp) rfl rfl rfl calm i [] t _ G (fun _ _ => False) IG (fpIn IG nnG) atG isStop) fun r t1 ⟨er, IG1⟩ => ?_
      subst er
      have back : Inv X pins σ G t1 := IC.call' (ch := fp) IG1.os IG1.base IG1.hok IG1.bare fun c mc => let z := (okC c mc).1; ⟨z.2.2.2.1, z.2.1, z.2.2.2.2.1, z.2.2.2.2.2⟩
      have nC : G sC.heap.objs.size = none := by
        have z : G E1.locals = none := IG1.free
        rwa [locE] at z
      obtain ⟨mm, hns, _⟩ := IG1.loc
      have hns : t1.heap.Ns E1.locals mm := hns
      rw [locE] at hns
      obtain ⟨f0, f1, f2, f3, f4, f5⟩ := IC.fpOk (Nat.le_refl _) nC
      exact ⟨mm, hns, fun h2 sb => ⟨.ref D, G, back.turned (t' := t1.toks) (fun c u nc e => (sb.2 c nc).trans e) f0 f1 f3 f4 f5, rfl, fine⟩⟩
    · refine thnF (T.item (X.blk sC HC scope E1 fp) rfl rfl rfl calm i [] t _ G (fun _ _ => False) IG (fpIn IG nnG) atG isGo) fun r t1' ⟨u, er, h1⟩ => ?_
      subst er
      refine thnF h1 fun _ t2 ⟨x, G2, I2, rx, yx, at2, nn2⟩ => ?_
      have I2p := I2.pinned (fpIn I2 nn2) (T.obj _ _ at2)
      refine thnF (g1.run _ t2 _ G2 x u _ I2p rx (body x G2 yx)) fun _ t3 ⟨τ, G3, I3, same3, q3⟩ => ?_
      have fin : ∀ {t6 : Shared} {G6 : Hp}, Inv (X.blk sC HC scope E1 fp) ([] ++ pinsAt fp t2.heap) τ G6 t6 → Nx G6 → ∃ m, m < n ∧ ∃ i G, W i m G ∧ turn i t6.heap ∧ (∀ c ∈ fp, G c = none) ∧ Inv (X.blk sC HC scope E1 fp) [] (wipe σ (own.map (·.2))) G t6 := fun {t6 G6} I6 nx => by
        obtain ⟨n', lt, w'⟩ := less _ nx
        have len : (wipe σ (own.map (·.2))).length = τ.length := by rw [← same3, wipe_length]
        have pinned : ∀ c ∈ fp, ∀ o, t2.heap.get? c = some o → t6.heap.get? c = some o ∧ G6 c = none := fun c mc o e =>
          let q := I6.pin (c, o) (List.mem_append_right _ (List.mem_append_right _ (mem_pinsAt mc e)))
          ⟨q.1, q.2.1⟩
        refine ⟨n', lt, i + 1, _, w', T.keep _ _ _ at2 fun c mc o e => (pinned c mc o e).1, fun c mc => ?_, (I6.unpinned (pins := [])).weak len fun j v e => ?_⟩
        · obtain ⟨o, e, _⟩ := T.obj _ _ at2 c mc
          exact (pinned c mc o e).2
        · rw [← same3] at e
          exact (wipe_some e).1
      refine thnF (t1.run _ t3 τ G3 _ I3 q3) fun b t4 ⟨G4, I4, q4⟩ => ?_
      cases b with
      | false =>
        simp only [Bool.false_eq_true, if_false] at q4 ⊢
        exact fin I4 q4
      | true =>
        simp only [if_true] at q4 ⊢
        refine thnF (e1.run _ t4 τ G4 _ I4 q4) fun yv t5 ⟨y, G5, I5, ry, l, k, ey, hD5, asc, hl, nx⟩ => ?_
        subst ey
        obtain ⟨tk, rfl⟩ := (show ∃ tk, yv = Value.int k tk from ry)
        refine setR_add (setO_get (X := X.blk sC HC scope E1 fp) I5 hD5) (by unfold scanBound; omega) fun h' sb new => ?_
        have he : ∃ u, h'.get? D = some u := by
          have ⟨o, _, _, _, ho, _⟩ := new
          exact ⟨o, ho⟩
        have I6 : Inv (X.blk sC HC scope E1 fp) ([] ++ pinsAt fp t2.heap) τ (upd G5 D (setNext X.w D l k)) { t5 with heap := h', toks := t5.toks + 1 } :=
          I5.write (e := D) (t' := t5.toks + 1) (by rw [hD5]; trivial) (.inl rfl) (fun b u hb hu => (sb.2 b hb).trans hu) he (setO_new new)
        rw [setNext_eq asc] at I6
        exact fin I6 nx
end
end Bd
/-! D50: an own exception class of two levels: BarError.__init__(self, word, place), C.__init__(self, place); raise C(e), raise C(). -/
namespace Bd
open PySem L2

/-! ### what may be shown in the words of an error -/
def smI : D → Bool
  | .int i => decide (i.natAbs.log2 < 64)
  | _ => false
def fmD : D → Bool
  | .none => true
  | .int i => decide (i.natAbs.log2 < 64)
  | .tuple ds => decide (ds.length ≤ 8) && ds.all smI
  | _ => false
/-- {x} in an f-string: some short text -/
def tFm (K : PySem.W.Frag) (te : TE) : TE := fun σ H Q => te σ H fun x H1 => ∃ p A, Dp K (hid A H1) x p ∧ fmD p = true ∧ p ≠ .none ∧ ∀ m : Str, m.length ≤ 900 → Q (.str m) H1
/-! ### the two levels of __init__ -/
/-- what is asked of the class of an exception that is being made -/
structure XcC (K : PySem.W.Frag) (C : Addr) : Prop where
  o : OexC K C
  w : PySem.W.findIn K (.ref C) "word" = some none
  p : PySem.W.findIn K (.ref C) "place" = some none
def xfs (w : Str) (vp : V) : List (Str × V) := [("place", vp), ("word", .str w)]
def madeH (H : Hp) (a C dx : Addr) (w : Str) (vp : V) : Hp := upd (upd (upd H dx (exd dx [("word", .str w)])) a (exo a C (some dx))) dx (exd dx (xfs w vp))
/-- BarError.__init__(self, word, place) -/
def spB (K : PySem.W.Frag) : Sp := fun vs H Q _ => ∃ (a C : Addr) (w : Str) (vp : V) (p : D) (A : List Addr), vs = [.ref a, .str w, vp] ∧ XcC K C ∧ H a = some (exo a C none) ∧ w.length ≤ 100 ∧ fmD p = true ∧ (∀ b ∈ A, H b ≠ none) ∧ Dp K (hid A H) vp p ∧
  ∀ H1 dx, Same H H1 → H1 dx = none → dx ≠ a → Q .non (madeH H1 a C dx w vp)
/-- C.__init__(self, place) -/
def spC (K : PySem.W.Frag) (w : Str) : Sp := fun vs H Q E => ∃ a vp, vs = [.ref a, vp] ∧ spB K [.ref a, .str w, vp] H Q E
def selfN : List Str := ["self", "word", "place"]
def tBody (K : PySem.W.Frag) (mg : Str → Option Value) : TS := tSeq (tDrop (tVeI K (tCons (tVar 0) (tCons (tIf (tT K mg W0 (tb (e2 isV (gv 2) (k0 .none)))) (tVar 1)
  (fun σ H Q => tJs [tFmt (tVar 1), tC (.str " at "), tFm K (tVar 2)] Str.empty σ H fun out H1 => Q (.str out) H1)) tNil)))) (tSeq (tOst K "word" (tVar 0) (tVar 1)) (tOst K "place" (tVar 0) (tVar 2)))
theorem is_slot (w : Str) (p : D) : tb (e2 isV (gv 2) (k0 .none)) [.no, .d (.str w), .d p] = .ok (isNone p) := by
  cases p <;> rfl
theorem len_empty : (Str.empty : Str).length = 0 := by decide +kernel
theorem len_at : ((" at " : Str)).length = 4 := by decide +kernel
theorem tBody_ok {K : PySem.W.Frag} {mg : Str → Option Value} {vs : List V} {H : Hp} {Q : VK} {E : XK} (h : spB K vs H Q E) : tBody K mg { nx := fun _ H' => Q .non H', rt := Q } (L2.start selfN vs) H := by
  obtain ⟨a, C, w, vp, p, A, rfl, T, ea, hw, fm, hA, dp, q⟩ := h
  have fin : ∀ (H1 : Hp) (out : Str), Same H H1 → ∃ (b C' : Addr) (ws : List V), [V.ref a, V.str out] = .ref b :: ws ∧ ws.length ≤ 1000 ∧ OexC K C' ∧ H1 b = some (exo b C' none) ∧
      tSeq (tOst K "word" (tVar 0) (tVar 1)) (tOst K "place" (tVar 0) (tVar 2)) { nx := fun _ H' => Q .non H', rt := Q } (L2.start selfN [.ref a, .str w, vp]) H1 := fun H1 out s1 => by
    have ea1 := s1 _ _ ea
    refine ⟨a, C, [.str out], rfl, (by decide : (1 : Nat) ≤ 1000), T.o, ea1, ?_⟩
    refine ⟨.str w, rfl, .ref a, rfl, a, C, rfl, T.o, T.w, .inl ⟨ea1, fun dx hdx hne => ?_⟩⟩
    exact ⟨vp, rfl, .ref a, rfl, a, C, rfl, T.o, T.p, .inr ⟨dx, [("word", .str w)], upd_same, by rw [upd_ne hne, upd_same], (by decide : (1 : Nat) ≤ 900), q H1 dx s1 hdx hne⟩⟩
  refine ⟨.ref a, rfl, ?_⟩
  refine ⟨[.no, .d (.str w), .d p], A, ⟨rfl, fun i s e => ?_, fun i j b xs ys e _ _ _ => ?_, hA⟩, ?_⟩
  · match i, e with
    | 0, e => cases e; exact ⟨_, rfl, trivial⟩
    | 1, e => cases e; exact ⟨_, rfl, Dp.str w⟩
    | 2, e => cases e; exact ⟨_, rfl, dp⟩
  · match i, e with
    | 0, e => cases e
    | 1, e => cases e
    | 2, e => cases e
  rw [is_slot]
  intro H1 s1
  cases p with
  | none =>
    refine ⟨.str w, rfl, ?_⟩
    exact fin H1 w s1
  | bool b => exact absurd fm Bool.false_ne_true
  | str y => exact absurd fm Bool.false_ne_true
  | list l => exact absurd fm Bool.false_ne_true
  | dict l => exact absurd fm Bool.false_ne_true
  | _ =>
    refine ⟨.str w, rfl, .inl ⟨w, rfl, by rw [sizeLine_eq]; omega, w, rfl, by rw [Str.length_append, len_empty, sizeLine_eq]; omega, " at ", rfl, by rw [Str.length_append, Str.length_append, len_empty, len_at, sizeLine_eq]; omega, ?_⟩⟩
    refine ⟨vp, rfl, _, A, Dp_mono dp (hid_same s1), fm, (by intro z; cases z), fun m hm => ⟨m, rfl, by rw [Str.length_append, Str.length_append, Str.length_append, len_empty, len_at, sizeLine_eq]; omega, ?_⟩⟩
    exact fin H1 _ s1
end Bd
/-! D51: raise C(e), raise C(), by data. -/
namespace Bd
open PySem L2

abbrev FunI (K : PySem.W.Frag) (qual : Str) (st : Stmt) (f : Addr) (fd : FuncData) : Prop := FunD K "__init__" qual (defArgs st) (defBody st) (defScope st) [.non] [] f fd
section
variable {P : Program} {w : World} {K : PySem.W.Frag} {mg : Str → Option Value} {base : Heap} {qual : Str} {st : Stmt} {f : Addr} {fd : FuncData}
theorem okB (F : FunI K qual st f fd) (S : FnScope selfN selfN (defScope st))
    (hb : ∀ (cdv : Value) (A : Around) (outer : List PySem.Env) (s : Shared) (H : Hp) (E : XK), Room 0 (A.deeper (PyProof.Rows.envOfC qual (defScope st) s.heap.objs.size f cdv)) →
      PSs (cxOf (L2.CX P w) P w K mg base selfN qual (defScope st) f cdv A outer s H E) (defBody st) (tBody K mg)) : FnOk P w K mg base (L2.CX P w) 1 f fd selfN (spB K) :=
  F.ok S (fun vs H Q E h => by
    obtain ⟨a, C, w, vp, p, A, rfl, _⟩ := h
    rfl) fun cdv A outer s H vs Q E hr hsp => ⟨_, hb cdv A outer s H E hr, tBody_ok hsp⟩
end
def placeN : List Str := ["self", "place"]
/-- C.__init__(self, place): BarError.__init__(self, w, place) -/
def tBodyC (K : PySem.W.Frag) (w : Str) : TS := tDrop (tCall (spB K) [] (fun _ _ _ => False) (tCons (tVar 0) (tCons (tC (.str w)) (tCons (tVar 1) tNil))))
section
variable {P : Program} {w : World} {K : PySem.W.Frag} {mg : Str → Option Value} {base : Heap} {qual : Str} {st : Stmt} {f : Addr} {fd : FuncData}
theorem spB_no {vs : List V} {H : Hp} {Q Q' : VK} {E E' : XK} (h : spB K vs H Q E) (k : ∀ H', Q .non H' → Q' .non H') : spB K vs H Q' E' := by
  obtain ⟨a, C, w, vp, p, A, h1, h2, h3, h4, h5, h6, h7, h8⟩ := h
  exact ⟨a, C, w, vp, p, A, h1, h2, h3, h4, h5, h6, h7, fun H1 dx s1 n1 n2 => k _ (h8 H1 dx s1 n1 n2)⟩
theorem okC {wd : Str} {k : Nat} (F : FunI K qual st f fd) (S : FnScope placeN placeN (defScope st))
    (hb : ∀ (cdv : Value) (A : Around) (outer : List PySem.Env) (s : Shared) (H : Hp) (E : XK), Room k (A.deeper (PyProof.Rows.envOfC qual (defScope st) s.heap.objs.size f cdv)) →
      PSs (cxOf (L2.CX P w) P w K mg base placeN qual (defScope st) f cdv A outer s H E) (defBody st) (tBodyC K wd)) : FnOk P w K mg base (L2.CX P w) (k + 1) f fd placeN (spC K wd) :=
  F.ok S (fun vs H Q E h => by
    obtain ⟨a, vp, rfl, _⟩ := h
    rfl) fun cdv A outer s H vs Q E hr hsp => ⟨_, hb cdv A outer s H E hr, by
      obtain ⟨a, vp, rfl, h⟩ := hsp
      exact ⟨.ref a, rfl, vp, rfl, spB_no (E' := fun _ _ _ => False) h fun H' q => q⟩⟩
end

/-! ### raise -/
section
variable {X : Cx} {f : Fx} {F : Nv → R D} {E : Ends} {σ : L2.St} {H : Hp}
theorem made_same {H1 H2 : Hp} {a C dx : Addr} {wd : Str} {vp : V} (na : H1 a = none) (s2 : Same (upd H1 a (exo a C none)) H2) (hdx : H2 dx = none) (hne : dx ≠ a) :
    H1 dx = none ∧ madeH H2 a C dx wd vp a = some (exo a C (some dx)) ∧ madeH H2 a C dx wd vp dx = some (exd dx (xfs wd vp)) ∧ Same H1 (upd (del (madeH H2 a C dx wd vp) a) dx (.xd (xfs wd vp))) := by
  have d1 : H1 dx = none := by
    have z := s2.free hdx
    rwa [upd_ne hne] at z
  refine ⟨d1, ?_, upd_same, fun b o e => ?_⟩
  · unfold madeH
    rw [upd_ne (Ne.symm hne), upd_same]
  · have h1 : b ≠ a := fun z => by rw [z, na] at e; cases e
    have h2 : b ≠ dx := fun z => by rw [z, d1] at e; cases e
    rw [upd_ne h2, del_ne h1]
    unfold madeH
    rw [upd_ne h2, upd_ne h1, upd_ne h2]
    exact s2 b o (by rw [upd_ne h1]; exact e)
/-- what the new exception's class is asked, from what the statement tells -/
theorem raised {C : Addr} {c wd : Str} {p : D} {vp : V} {η : Nv} {B : List Addr} {H1 : Hp} {a : Addr} (T : XcC X.K C) (hm : X.mg c = some (.ref C)) (hw : wd.length ≤ 100) (fm : fmD p = true) (e0 : EnvS X.K f.M f.H0 f.A0 H B σ η) (s1 : Same H H1) (dp : Dp X.K (hid (B ++ f.A0) H1) vp p)
    (h : PostS X.K X.mg f.W f.rl f.M f.H0 f.A0 H B (.ex c wd p) E) (na : H1 a = none) :
    spC X.K wd (.ref a :: [vp]) (upd H1 a (exo a C none)) (fun v H2 => v = .non ∧ ∃ (d : Addr) (fs : List (Str × V)), H2 a = some (exo a C (some d)) ∧ H2 d = some (exd d fs) ∧ H1 d = none ∧ f.W (.ref C) (some d) σ (upd (del H2 a) d (.xd fs))) (fun _ _ _ => False) := by
  have e1 := e0.step s1
  refine ⟨a, vp, rfl, a, C, wd, vp, p, a :: (B ++ f.A0), rfl, T, upd_same, hw, fm, fun b m => ?_, Dp_mono dp (hid_new (same_new na) na), fun H2 dx s2 hdx hne => ?_⟩
  · rcases List.mem_cons.mp m with rfl | m
    · rw [upd_same]
      exact fun z => nomatch z
    · by_cases hb : b = a
      · rw [hb, upd_same]
        exact fun z => nomatch z
      · rw [upd_ne hb]
        exact e1.env.tr b m
  · obtain ⟨d1, m1, m2, sm⟩ := made_same (wd := wd) (vp := vp) na s2 hdx hne
    refine ⟨rfl, dx, xfs wd vp, m1, m2, d1, ?_⟩
    have h : ∀ cls dd σ' H', Same (hid f.M f.H0) (hid f.M H') → ExR X.K X.mg (hid f.A0 H') cls dd c wd p → f.W cls dd σ' H' := h
    refine h _ _ σ _ (e1.same.trans (hid_same sm)) ⟨hm, dx, vp, rfl, ?_, Dp_mono (Dp_mono dp hid_app) (hid_same sm)⟩
    rw [hid_out fun m => e1.env.tr dx (List.mem_append_right _ m) d1, upd_same]
    rfl
end

/-! ### raise C() -/
end Bd
/-! D52: try: .. except C as e: .., by data; the caught exception is a thing of the heap while the suite runs. -/
namespace Bd
open PySem L2

section
variable {Y : Cx} {σ : L2.St} {H : Hp} {s : Shared} {a C dd : Addr} {o : Obj} {vs : Array Value}
end

section
variable {X : Cx} {x n : Str} {c : Value} {i : Nat} {body suite : List Stmt} {b₀ : Stmt} {np pos pos' : Pos} {tb : WX → TS} {ts : TS} {Wout : WX}
end
end Bd
/-! D53: try: .. except C as e: .. as a statement by data; isinstance(e, C), e.word, e.place. -/
namespace Bd
open PySem L2

/-- an own class of errors, by its name -/
structure Xk (K : PySem.W.Frag) (c : Str) (C : Addr) : Prop where
  ns : PySem.W.nsIn K mainGlobals c = some (some (.ref C))
  ga : PySem.W.findIn K (.ref C) "__getattribute__" = some (some (.builtin "BaseException.__getattribute__"))
  gg : PySem.W.findIn K (.ref C) "__getattr__" = some none
  ex : PySem.W.subIn K (.ref C) (.type "BaseException") = some true
  ty : PySem.W.typeIn K (.ref C) = some (.type "type")
  hd : PySem.W.hasDictIn K C = true
  ic : PySem.W.isClsIn K C = true
  w : PySem.W.findIn K (.ref C) "word" = some none
  p : PySem.W.findIn K (.ref C) "place" = some none
  cl : PySem.W.findIn K (.ref C) "__class__" = some (some (.builtin "object.__class__"))
  gs : PySem.W.specialIn K (.builtin "object.__class__") "__get__" = some (some (.builtin "getset_descriptor.__get__"))
  tk : PySem.W.takesIn K (.builtin "object.__class__") = some true
  ob : PySem.W.mroIn K C (.type "object") = some true
theorem Xk.one {K : PySem.W.Frag} {c : Str} {C C' : Addr} (x : Xk K c C) (h : PySem.W.nsIn K mainGlobals c = some (some (.ref C'))) : C' = C := by
  have z := x.ns.symm.trans h
  cases z
  rfl
/-! ### the caught exception -/
section
variable {X : Cx} {W : WX} {σ : L2.St} {H : Hp} {A : List Addr} {η : Nv} {i : Nat} {c w : Str} {p : D} {s : Shared} {pins : List (Addr × Obj)}
end
section
variable {X : Cx} {W : WX} {i : Nat} {x : Str} {pn pos : Pos} {l : List (Str × Bool)} {cv : Value}
end

/-! ### isinstance(e, C) -/
section
variable {X : Cx} {W : WX} {x y : Str} {p p2 p3 pos : Pos} {l : List (Str × Bool)} {cv : Value} {t : V}
end
/-! ### try -/
section
variable {X : Cx} {f : Fx} {x n : Str} {cv : Value} {i : Nat} {l : List (Str × Bool)} {body suite : List Stmt} {b₀ : Stmt} {np pos pos' : Pos} {Gb Gs : Nv → Rs}
end
end Bd
/-! D54: xs[::2], xs[1::2] of a list. -/
namespace Bd
open PySem L2
/-- the places k, k + 2, .. below n -/
def idx2 (k n : Nat) : List Nat := (List.range ((n + 1 - k) / 2)).map fun m => k + 2 * m
theorem range2 (k n : Nat) (h : k ≤ n) : sliceRange (k : Int) (n : Int) 2 = idx2 k n := by
  unfold sliceRange idx2
  have e : (if (2 : Int) > 0 then (if (k : Int) < (n : Int) then ((n : Int) - (k : Int) + 2 - 1) / 2 else 0) else (if (k : Int) > (n : Int) then ((k : Int) - (n : Int) - 2 - 1) / (-2) else 0)).toNat = (n + 1 - k) / 2 := by
    rw [if_pos (by decide)]
    split
    · omega
    · omega
  simp only [e]
  refine List.map_congr_left fun m _ => ?_
  omega
theorem pick2_0 (items : Array Value) : PySem.slicePick items none none (some 2) = ((idx2 0 items.size).filterMap (items[·]?)).toArray := by
  unfold PySem.slicePick
  have b : PySem.sliceBounds none none (some 2) items.size = (((0 : Nat) : Int), (items.size : Int), 2) := by
    simp [PySem.sliceBounds]
  rw [b]
  show ((sliceRange ((0 : Nat) : Int) (items.size : Int) 2).filterMap (items[·]?)).toArray = _
  rw [range2 0 _ (Nat.zero_le _)]
theorem pick2_1 (items : Array Value) : PySem.slicePick items (some 1) none (some 2) = ((idx2 1 items.size).filterMap (items[·]?)).toArray := by
  unfold PySem.slicePick
  by_cases h : items.size = 0
  · have b : PySem.sliceBounds (some 1) none (some 2) items.size = (0, 0, 2) := by
      rw [h]
      rfl
    rw [b]
    have e1 : idx2 1 items.size = [] := by rw [h]; rfl
    rw [e1]
    rfl
  · have b : PySem.sliceBounds (some 1) none (some 2) items.size = (((1 : Nat) : Int), (items.size : Int), 2) := by
      simp only [PySem.sliceBounds, Option.getD_some]
      have h1 : (2 : Int) > 0 := by decide
      have h2 : ¬ (1 : Int) < 0 := by decide
      simp only [h1, h2, if_true, if_false]
      have : (1 : Int) ≤ items.size := by omega
      congr 1
      omega
    rw [b]
    show ((sliceRange ((1 : Nat) : Int) (items.size : Int) 2).filterMap (items[·]?)).toArray = _
    rw [range2 1 _ (by omega)]
theorem DpAll_idx {K : PySem.W.Frag} {T : Hp} {vs : List V} {ds : List D} (h : DpAll K T vs ds) : ∀ l : List Nat, DpAll K T (l.filterMap (vs[·]?)) (l.filterMap (ds[·]?))
  | [] => .nil
  | i :: l => by
    have ih := DpAll_idx h l
    cases e : ds[i]? with
    | some d =>
      obtain ⟨v, ev, q⟩ := DpAll_get h e
      rw [List.filterMap_cons_some ev, List.filterMap_cons_some e]
      exact .cons q ih
    | none =>
      have ev : vs[i]? = none := by
        have := DpAll_length h
        rw [List.getElem?_eq_none_iff] at e ⊢
        omega
      rw [List.filterMap_cons_none ev, List.filterMap_cons_none e]
      exact ih
theorem vals_idx {vs : List V} {its : List Value} (h : Vals vs its) : ∀ l : List Nat, Vals (l.filterMap (vs[·]?)) (l.filterMap (its[·]?))
  | [] => .nil
  | i :: l => by
    have ih := vals_idx h l
    have hl := h.length
    cases e : vs[i]? with
    | some v =>
      have hi := (List.getElem?_eq_some_iff.mp e).1
      have e2 : its[i]? = some (its[i]'(by omega)) := List.getElem?_eq_getElem (by omega)
      have q : RelV v (its[i]'(by omega)) := by
        have : ∀ {vs : List V} {its : List Value}, Vals vs its → ∀ (i : Nat) (v : V) (u : Value), vs[i]? = some v → its[i]? = some u → RelV v u := by
          intro vs its h
          induction h with
          | nil => intro i v u e; simp at e
          | cons r _ ih =>
            intro i v u e1 e2
            cases i with
            | zero => simp at e1 e2; subst e1 e2; exact r
            | succ i => exact ih i v u (by simpa using e1) (by simpa using e2)
        exact this h i v _ e e2
      rw [List.filterMap_cons_some e, List.filterMap_cons_some e2]
      exact .cons q ih
    | none =>
      have e2 : its[i]? = none := by
        rw [List.getElem?_eq_none_iff] at e ⊢
        omega
      rw [List.filterMap_cons_none e, List.filterMap_cons_none e2]
      exact ih
theorem idx_short {α : Type} (xs : List α) (k : Nat) : ((idx2 k xs.length).filterMap (xs[·]?)).length ≤ xs.length := by
  refine Nat.le_trans (List.length_filterMap_le _ _) ?_
  unfold idx2
  rw [List.length_map, List.length_range]
  omega
def step2V (k : Nat) : D → Option D
  | .list xs => some (.list ((idx2 k xs.length).filterMap (xs[·]?)))
  | _ => none
section
variable {X : Cx} {W : WX} {a : Expr} {Fa : Nv → R D} {pos : Pos}
def tAlt (K : PySem.W.Frag) (k : Nat) (te : TE) : TE := fun σ H Q => te σ H fun x H1 => ∃ a xs, x = .ref a ∧ SqL K H1 a xs ∧ ∀ p, H1 p = none → Q (.ref p) (upd H1 p (.lst ((idx2 k xs.length).filterMap (xs[·]?))))
theorem alt_core {te : TE} {k : Nat} {lo : Option Expr} {ov : Option Int} {e : Expr} {j : Nat} {q2 q3 : Pos} (he : PE X e te) (hlo : ∀ (pins : List (Addr × Obj)) (s : Shared) (σ : L2.St) (H : Hp), Inv X pins σ H s → wpAny (model X.prog X.w) X.A (evalPart lo X.env) (fun u s3 => ∃ o H3, Inv X pins σ H3 s3 ∧ IsPart u o ∧ o = ov ∧ H3 = H) X.xe s)
    (hp : ∀ items : Array Value, PySem.slicePick items ov none (some 2) = ((idx2 k items.size).filterMap (items[·]?)).toArray) :
    PE X (.Subscript e (.Slice lo none (some (.Constant (.int 2) j q2)) q3) pos) (tAlt X.K k te) := by
  refine ⟨fun pins s σ H Q J h => PyProof.Rows.Subscript_ (thn (he.run pins s σ H _ J h) fun v s1 z => ?_)⟩
  obtain ⟨x, H1, J1, r1, l, xs, rfl, hx, q⟩ := z
  cases r1
  have st : PO X (some (.Constant (.int 2) j q2)) (tPart (tC (.int 2))) := po_some pe_int
  refine wpAny_Slice (thn (hlo pins s1 σ H1 J1) fun vl s2 y => ?_)
  obtain ⟨o1, H2, J2, pl, rfl, rfl⟩ := y
  refine thn (po_none.run pins s2 σ H2 (fun o H3 => o = none ∧ H3 = H2) J2 ⟨rfl, rfl⟩) fun vu s3 y => ?_
  obtain ⟨o2, H3, J3, pu, rfl, rfl⟩ := y
  refine thn (st.run pins s3 σ H3 (fun o H4 => o = some 2 ∧ H4 = H3) J3 ⟨2, rfl, rfl, rfl⟩) fun vs s4 y => ?_
  obtain ⟨o3, H4, J4, ps, rfl, rfl⟩ := y
  have J5 : Inv X pins σ H4 { s4 with heap := s4.heap.push { cls := .type "slice", data := .fields #[vl, vu, vs] } } := J4.kept (t' := s4.toks) fun b ob z => Heap.get?_push_of_some _ z
  obtain ⟨its, rv, hl, hz⟩ := J5.list hx
  have hlen := rv.length
  refine PyProof.Rows.tail_any (ops := [.ref l, .ref s4.heap.objs.size]) hl.isList.typeIs (PySem.slot_list_getitem.lookup) ?_ (by with_unfolding_all rfl)
  refine wpAny_getItem_list_slice hl.isList (Heap.IsSliceOf.new _ vl vu vs) pl pu ps (by decide) ?_ (by rw [List.size_toArray]; omega)
  rw [hp]
  have e1 : ((idx2 k its.toArray.size).filterMap (its.toArray[·]?)).toArray = ((idx2 k its.length).filterMap (its[·]?)).toArray := by simp
  rw [e1, ← hlen]
  refine ⟨.ref _, _, J5.laid (t' := s4.toks) (o := .lst ((idx2 k xs.length).filterMap (xs[·]?))) (fun b ob z => Heap.get?_push_of_some _ z) (Nat.le_refl _) ?_, rfl, q _ (J5.hok.fresh (Nat.le_refl _))⟩
  exact ⟨Nat.le_trans (idx_short xs k) hz, _, 0, vals_idx rv _, Heap.get?_push_size _ rfl⟩
theorem alt_t {k : Nat} {st : Expr} (h : PE X st (tAlt X.K k (tR X.K X.mg W (rO X.K) Fa))) : TF X W st (e1 (step2V k) Fa) := peW h fun σ H Q q => by
  obtain ⟨η, A, E, p0⟩ := q
  have p : Post X.K X.mg W (rF X.K) σ A H ((Fa η).bind fun x => .of (step2V k x)) Q := p0
  refine (show tR X.K X.mg W (rO X.K) Fa σ H _ from ⟨η, A, E, ?_⟩)
  cases e1 : Fa η with
  | ex c w z => rw [e1] at p; exact p
  | no => rw [e1] at p; exact p
  | ok d =>
    rw [e1] at p
    cases d with
    | list xs =>
      intro v H1 s1 q1
      obtain ⟨l, vs, rfl, h1, q2⟩ := rO_list q1
      refine ⟨l, vs, rfl, h1, fun z hz => p _ _ (s1.trans (same_new hz)) (back_F _ _ _ _ _ _ s1 (dp_new_list (E.same s1).tr hz ?_))⟩
      rw [DpAll_length q2]
      exact DpAll_idx q2 _
    | _ => exact False.elim p
theorem t_step2_0 {j : Nat} {q2 q3 : Pos} (ha : TO X W a Fa) : TF X W (.Subscript a (.Slice none none (some (.Constant (.int 2) j q2)) q3) pos) (e1 (step2V 0) Fa) :=
  alt_t (alt_core ha (fun pins s σ H J => po_none.run pins s σ H (fun o H3 => o = none ∧ H3 = H) J ⟨rfl, rfl⟩) pick2_0)
theorem t_step2_1 {j j1 : Nat} {q1 q2 q3 : Pos} (ha : TO X W a Fa) : TF X W (.Subscript a (.Slice (some (.Constant (.int 1) j1 q1)) none (some (.Constant (.int 2) j q2)) q3) pos) (e1 (step2V 1) Fa) :=
  alt_t (alt_core ha (fun pins s σ H J => (po_some pe_int).run pins s σ H (fun o H3 => o = some 1 ∧ H3 = H) J ⟨1, rfl, rfl, rfl⟩) pick2_1)
end
end Bd
/-! D55: {e for t in xs if ..}, e an int, by data. -/
namespace Bd
open PySem L2
def asSet (ys : List D) : R D := match ints? ys with
  | some l => if l.length < 4000 then .ok (.list ((sset l).map PyData.int)) else .no
  | none => .no
def setCE (Fi : Nv → R (List D)) (T : Tgt) (C : Nv → R Bool) (El : Nv → R D) (vs : List Nat) : Nv → R D := fun η => (Fi η).bind fun xs => (compD T C El (wipeE η vs) xs).bindN asSet
section
variable {X : Cx} {W : WX} {tg iter elt : Expr} {ifs : List Expr} {pos : Pos}
theorem sc_t {Fi : Nv → R (List D)} {T : Tgt} {js vs : List Nat} {C : Nv → R Bool} {El : Nv → R D} (hj : ∀ j ∈ js, j ∈ vs) {σ : L2.St} {H : Hp} {Q : VK} (h : tR X.K X.mg W (rSs X.w) (setCE Fi T C El vs) σ H Q) :
    tSx X.w (tI X.K X.mg W Fi) (gD X.K T js) (tT X.K X.mg W0 C) (tR X.K X.mg W0 (rD X.K) El) vs σ H Q := by
  obtain ⟨η, A, E, p0⟩ := h
  have p : Post X.K X.mg W (rSs X.w) σ A H ((Fi η).bind fun xs => (compD T C El (wipeE η vs) xs).bindN asSet) Q := p0
  refine (show tI X.K X.mg W Fi σ H _ from ⟨η, A, E, ?_⟩)
  cases e1 : Fi η with
  | ex c w q => rw [e1] at p; exact p
  | no => rw [e1] at p; exact p
  | ok ds =>
    rw [e1] at p
    have p : Post X.K X.mg W (rSs X.w) σ A H ((compD T C El (wipeE η vs) ds).bindN asSet) Q := p
    cases e2 : compD T C El (wipeE η vs) ds with
    | ex c w q => rw [e2] at p; exact False.elim p
    | no => rw [e2] at p; exact False.elim p
    | ok ys =>
      rw [e2] at p
      have p : Post X.K X.mg W (rSs X.w) σ A H (asSet ys) Q := p
      unfold asSet at p
      cases ei : ints? ys with
      | none => rw [ei] at p; exact False.elim p
      | some l =>
      rw [ei] at p
      have p : Post X.K X.mg W (rSs X.w) σ A H (if l.length < 4000 then .ok (.list ((sset l).map PyData.int)) else .no) Q := p
      split at p
      · rename_i hz
        have ey := ints?_eq ei
        intro J H1 s1 wk M nM
        have E1 := E.same s1
        refine ⟨fun i m H2 => m + i = ds.length ∧ Same H1 H2 ∧ ∃ (dn : List Int) (rest : List D), l.map PyData.int = dn.map PyData.int ++ rest ∧ compD T C El (wipeE η vs) (ds.drop i) = .ok rest ∧ H2 M = some (SetL X.w M (sset dn)),
          ⟨ds.length, rfl, same_new nM, [], ys, by rw [ey]; rfl, e2, upd_same⟩, fun i m H2 hw => ?_⟩
        obtain ⟨em, s2, dn, rest, ey, er, hM⟩ := hw
        have sh : Same (hid A H1) (hid (M :: A) H2) := hid_new s2 nM
        have E2 : EnvD X.K H2 (M :: A) σ η := E1.new s2 nM (by rw [hM]; exact fun z => nomatch z)
        cases hx : ds[i]? with
        | none =>
          have hi : ds.length ≤ i := List.getElem?_eq_none_iff.mp hx
          have ei : i = ds.length := by omega
          subst ei
          rw [List.drop_length] at er
          have er : R.ok ([] : List D) = .ok rest := er
          cases er
          rw [List.append_nil] at ey
          have el : l = dn := by
            have := congrArg ints? ey
            rw [ints?_map, ints?_map] at this
            exact Option.some.inj this
          subst el
          exact .inl ⟨wk.stop _ _ sh, p _ H2 (s1.trans s2) ⟨M, _, rfl, rfl, sset_asc _, s1.free nM, hM⟩⟩
        | some x =>
          have hi : i < ds.length := (List.getElem?_eq_some_iff.mp hx).1
          have ed : ds.drop i = x :: ds.drop (i + 1) := by
            rw [List.drop_eq_getElem_cons hi]
            congr 1
            exact (List.getElem?_eq_some_iff.mp hx).2
          obtain ⟨g1, g2⟩ := wk.step i x hx _ _ sh E2.tr
          refine .inr ⟨g1, fun H' => ∃ m', m' < m ∧ (m' + (i + 1) = ds.length ∧ Same H1 H' ∧ ∃ (dn : List Int) (rest : List D), l.map PyData.int = dn.map PyData.int ++ rest ∧ compD T C El (wipeE η vs) (ds.drop (i + 1)) = .ok rest ∧ H' M = some (SetL X.w M (sset dn))), fun H' hN => hN, fun v H3 y => ?_⟩
          obtain ⟨s3, qv⟩ := g2 v H3 y
          rw [ed] at er
          unfold compD at er
          cases et : T x (wipeE η vs) with
          | none => rw [et] at er; cases er
          | some η1 =>
            rw [et] at er
            obtain ⟨bk, ec, er⟩ := R.bindN_ok er
            refine ⟨wipeE η vs, M :: A, x, η1, (E2.same s3).wipe vs, qv, et, fun σ2 E3 S => ⟨stored_wipe S hj (S.len.trans (wipe_length σ vs)), ?_⟩⟩
            · refine (show tT X.K X.mg W0 C σ2 H3 _ from ⟨η1, M :: A, E3, ?_⟩)
              rw [ec]
              intro H4 s4
              cases bk with
              | false =>
                refine iteF ⟨m - 1, by omega, by omega, (s2.trans s3).trans s4, dn, rest, ey, er, s4 _ _ (s3 _ _ hM)⟩
              | true =>
                obtain ⟨y, ee, er⟩ := R.bindN_ok er
                obtain ⟨rest', er', e3⟩ := R.bindN_ok er
                cases e3
                refine iteT (show tR X.K X.mg W0 (rD X.K) El σ2 H4 _ from ⟨η1, M :: A, E3.same s4, ?_⟩)
                rw [ee]
                intro w H5 s5 qw
                have sM : H5 M = some (SetL X.w M (sset dn)) := s5 _ _ (s4 _ _ (s3 _ _ hM))
                obtain ⟨k, rfl⟩ : ∃ k, y = .int k := by
                  have m : y ∈ l.map PyData.int := by rw [ey]; simp
                  obtain ⟨k, _, e⟩ := List.mem_map.mp m
                  exact ⟨k, e.symm⟩
                have lz : dn.length < l.length := by
                  have := congrArg List.length ey
                  rw [List.length_append, List.length_cons, List.length_map, List.length_map] at this
                  omega
                have := sset_len dn
                cases qw
                refine ⟨sset dn, k, rfl, sM, sset_asc _, by omega, m - 1, by omega, by omega, ?_, dn ++ [k], rest', by rw [ey, List.map_append, List.append_assoc]; rfl, er', by rw [upd_same, sins_end]⟩
                intro b o eb
                rw [upd_ne fun z => by subst z; rw [nM] at eb; cases eb]
                exact s5 _ _ (s4 _ _ (s3 _ _ (s2 _ _ eb)))
      · exact False.elim p
/-- {elt for tg in iter if ..} -/
theorem t_setC {scope : Scope} {own : List (Str × Nat)} {Fi : Nv → R (List D)} {T : Tgt} {js : List Nat} {C : Nv → R Bool} {El : Nv → R D} (hc : X.calm = true) (hN : X.N.Nodup) (hi : TI' X W tg iter Fi) (ok : BlkOk X.N X.env.scope scope own)
    (hg : ∀ (s : Shared) (H : Hp) (C : Addr) (cl : List (Str × Addr)) (fp : List Addr), TT' (X.blk s H scope (compEnvC scope cl C X.env) fp) tg T js)
    (ht : ∀ (s : Shared) (H : Hp) (D : Addr) (cl : List (Str × Addr)) (fp : List Addr), PTs (X.blk s H scope (compEnvC scope cl D X.env) fp) ifs (tT X.K X.mg W0 C))
    (he : ∀ (s : Shared) (H : Hp) (D : Addr) (cl : List (Str × Addr)) (fp : List Addr), TD (X.blk s H scope (compEnvC scope cl D X.env) fp) W0 elt El)
    {ws : List Nat} (hw : own.map (·.2) = ws := by rfl) (hj : ∀ j ∈ js, j ∈ own.map (·.2) := by decide) (hs : ∀ x, foldedSetIterable iter X.env x = pure x := by intro _; rfl) : PE X (.SetComp elt [⟨tg, iter, ifs, 0⟩] scope pos) (tR X.K X.mg W (rSs X.w) (setCE Fi T C El ws)) := by
  subst hw
  exact peW (pe_sx hc hN hi ok (fun s H C cl fp => show PG _ tg (gD X.K T js) from hg s H C cl fp) (fun s H C cl fp => ht s H C cl fp) (fun s H C cl fp => show PE _ elt (tR X.K X.mg W0 (rD X.K) El) from he s H C cl fp) hs) fun σ H Q h => sc_t hj h
end
end Bd
/-! Q1: dicts reckoned; the positions of faces, rims, the rim of a rim. -/
namespace Bd
open PySem L2

section
variable {QD : D → Prop} {η : Nv} {N B C : Nv → Prop} {T : D → Nv → Prop}
theorem wn_zget {i : Nat} {Fk : Nv → R D} {ks : List (D × D)} (h : η[i]? = some (.m ks)) : Wn (zget i Fk η) QD ↔ Wn (Fk η) fun k => Wn (.of (atM ks k)) QD := by
  unfold zget
  rw [h]
  exact wn_bind
end
theorem isK_tup (r k : Row) : isK (tupI r) k = decide (r = k) := by
  show decide (ints? (r.map PyData.int) = some k) = _
  rw [ints?_map]
  exact decide_eq_decide.mpr ⟨fun e => Option.some.inj e, fun e => by rw [e]⟩
/-! ### positions -/
def posI (os : List Row) (f : Row) : Int := (os.idxOf f : Nat)
theorem pos_inj {os : List Row} {f g : Row} (mf : f ∈ os) (mg : g ∈ os) (e : posI os f = posI os g) : f = g := by
  have e : os.idxOf f = os.idxOf g := by
    unfold posI at e
    omega
  have h1 := List.getElem_idxOf (List.idxOf_lt_length_iff.mpr mf)
  have h2 := List.getElem_idxOf (List.idxOf_lt_length_iff.mpr mg)
  rw [← h1, ← h2]
  congr 1
theorem Ordr.faces : ∀ {os : List Row}, Ordr os → ∀ s ∈ os, ∀ f ∈ facesL s, f ∈ os
  | _, .nil, s, m => absurd m List.not_mem_nil
  | _, .snoc h _ _ hf, x, m => fun f mf => by
    rcases List.mem_append.mp m with m | m
    · exact List.mem_append_left _ (h.faces x m f mf)
    · rw [List.mem_singleton.mp m] at mf
      exact List.mem_append_left _ (hf f mf)
theorem Ordr.nodup : ∀ {os : List Row}, Ordr os → os.Nodup
  | _, .nil => List.nodup_nil
  | _, .snoc h _ hn _ => List.nodup_append.mpr ⟨h.nodup, List.nodup_cons.mpr ⟨List.not_mem_nil, List.nodup_nil⟩, fun a ma b mb e => by
    rw [List.mem_singleton.mp mb] at e
    exact hn (e ▸ ma)⟩
/-- a simplex by its vertices -/
theorem Smp.cases {s : Row} (h : Smp s) : (∃ a, s = [a]) ∨ (∃ a b, s = [a, b] ∧ a < b) ∨ ∃ a b c, s = [a, b, c] ∧ a < b ∧ b < c := by
  have asc := h.u.asc
  have lo := h.lo
  have hi := h.hi
  match s, asc, lo, hi with
  | [a], _, _, _ => exact .inl ⟨a, rfl⟩
  | [a, b], asc, _, _ => exact .inr (.inl ⟨a, b, rfl, (List.pairwise_cons.mp asc).1 b List.mem_cons_self⟩)
  | [a, b, c], asc, _, _ => exact .inr (.inr ⟨a, b, c, rfl, (List.pairwise_cons.mp asc).1 b List.mem_cons_self, (List.pairwise_cons.mp (List.pairwise_cons.mp asc).2).1 c List.mem_cons_self⟩)
theorem faces1 (a : Int) : facesL [a] = [] := rfl
theorem faces2 (a b : Int) : facesL [a, b] = [[b], [a]] := rfl
theorem faces3 (a b c : Int) : facesL [a, b, c] = [[b, c], [a, c], [a, b]] := rfl
theorem faces_nodup {s : Row} (h : Smp s) : (facesL s).Nodup := by
  rcases h.cases with ⟨a, rfl⟩ | ⟨a, b, rfl, h1⟩ | ⟨a, b, c, rfl, h1, h2⟩
  · exact List.nodup_nil
  · rw [faces2]
    have : a ≠ b := Int.ne_of_lt h1
    simp [Ne.symm this]
  · rw [faces3]
    have n1 : a ≠ b := Int.ne_of_lt h1
    have n2 : b ≠ c := Int.ne_of_lt h2
    simp [Ne.symm n1, Ne.symm n2]
def rimL (os : List Row) (s : Row) : Row := isort ((facesL s).map (posI os))
theorem rim_nodup {os : List Row} {s : Row} (h : Ordr os) (m : s ∈ os) : ((facesL s).map (posI os)).Nodup :=
  List.pairwise_map.mpr ((faces_nodup (h.smp s m)).imp_of_mem fun ma mb ne e => ne (pos_inj (h.faces s m _ ma) (h.faces s m _ mb) e))
theorem rim_asc {os : List Row} {s : Row} (h : Ordr os) (m : s ∈ os) : Asc (rimL os s) := asc_sort (rim_nodup h m)
theorem mem_rim {os : List Row} {s : Row} {x : Int} : x ∈ rimL os s ↔ ∃ f ∈ facesL s, posI os f = x := by
  unfold rimL
  rw [(isort_perm _).mem_iff, List.mem_map]
theorem rim_in {os : List Row} {s : Row} (h : Ordr os) (m : s ∈ os) : InU (Pg.uptoI os.length) (rimL os s) := ⟨rim_asc h m, fun x mx => by
  obtain ⟨f, mf, rfl⟩ := mem_rim.mp mx
  have := List.idxOf_lt_length_iff.mpr (h.faces s m f mf)
  exact List.mem_map.mpr ⟨os.idxOf f, List.mem_range.mpr this, rfl⟩⟩
/-- all rims -/
def rimsL (os : List Row) : List Row := os.map (rimL os)
theorem rims_in {os : List Row} (h : Ordr os) : ∀ r ∈ rimsL os, InU (Pg.uptoI os.length) r := fun r m => by
  obtain ⟨s, ms, rfl⟩ := List.mem_map.mp m
  exact rim_in h ms
theorem rims_asc {os : List Row} (h : Ordr os) : AscR (rimsL os) := fun r m => (rims_in h r m).asc
theorem sumAt_in {U : List Int} {rows : List Row} (h : ∀ r ∈ rows, InU U r) (idx : List Int) : InU U (sumAt rows idx) := by
  have go : ∀ l : List Row, (∀ r ∈ l, InU U r) → InU U (sumR l) := fun l => by
    induction l with
    | nil => exact fun _ => .nil
    | cons r l ih => exact fun q => (q r List.mem_cons_self).sum (ih fun y m => q y (List.mem_cons_of_mem _ m))
  exact go _ (rowAt_in h idx)
/-- the rim of a chain -/
def bdy (os : List Row) (c : Row) : Row := sumAt (rimsL os) c
theorem bdy_in {os : List Row} (h : Ordr os) (c : Row) : InU (Pg.uptoI os.length) (bdy os c) := sumAt_in (rims_in h) c
theorem bdy_sum {os : List Row} (h : Ordr os) {a b : Row} (ha : Asc a) (hb : Asc b) : bdy os (sumL a b) = sumL (bdy os a) (bdy os b) := sumAt_sum (rims_asc h) ha hb
end Bd
/-! Q2: the program's faces, rims, boundaries; the laws' sums, edges, rims. -/
namespace Bd
open PySem L2
theorem wn_m2 {f : List D → D → Option D} {Fo Fe : Nv → R D} {η : Nv} {QD : D → Prop} (h : Wn (Fo η) fun a => ∃ ds, a = .list ds ∧ Wn (Fe η) fun y => Wn (.of (f ds y)) QD) : Wn (m2 f Fo Fe η) QD := by
  unfold m2
  rw [wn_bind]
  refine h.imp fun a ⟨ds, e, q⟩ => ?_
  subst e
  dsimp only
  rw [wn_bind]
  exact q
namespace Cb
def G_dimension_of : Nv → Rs :=
    (seqS (retS (e2 subV (eN lenV (aC (gv 0) a0)) (k0 (.int 1))))
    .nx)
def F_dimension_of : List D → R D := runD 1 (.ok .none) G_dimension_of
theorem dim_ok {s : Row} (h : Smp s) : F_dimension_of [tupI s] = .ok (.int ((s.length : Int) - 1)) := by
  have ln : lenV [tupI s] = some (.int (s.length : Nat)) := by
    show some (PyData.int ((s.map PyData.int).length : Nat)) = _
    rw [List.length_map]
  refine Wn.eq (wn_runD ?_)
  show Sn (G_dimension_of [.d (tupI s)]) _ _ _ _
  unfold G_dimension_of
  simp only [wn_ok, wn_some, wn_only, wn_noex, wn_e2, wn_e1, wn_eN, wn_a0, wn_aC, wn_call, wn_tb, wn_tup, wn_lst, wn_andB, wn_orB, wn_notB, wn_andV, wn_orV, wn_notV, wn_ifV, wn_iA, wn_iR1, wn_iR2, wn_iZ, wn_iEn, wn_iRR, wn_sl, wn_p0, wn_p1, wn_up, wn_upB, wn_upI, wn_x2, wn_x0, wn_xC, wn_xN, wn_xb, wn_xAnd, wn_xOr, wn_xNot, wn_xIf, wn_xCall, wn_xR1, wn_xR2, sn_nx, sn_rt, sn_bk, sn_ct, sn_seq, sn_set, sn_ret, sn_expr, sn_if, sn_for, sn_xSet, sn_xRet, sn_xExpr, sn_xIf, sn_xFor, sn_asg, sn_xAsg, sn_own, sn_xOwn, gv_zero, gv_succ, go_own, go_dat, go_succ, k0_def, gN_def, tru_bool, tru_none, tru_int, tru_list, asSeq_list, asSeq_tup, addV_int, subV_int, ltA_i, leA_i, gtA_i, geA_i, negV_int, intV_int, lenV_list, lenV_tup, ixV_list, ixV_tup, asInt_int, slV_list, slV_tup, slL_list, revV_tup, revV_list, tupleV_list, listV_list, listV_tup, eqV_str, neV_str, eqV_int, List.set_cons_zero, List.set_cons_succ, List.getElem?_cons_zero, List.getElem?_cons_succ, List.length_cons, List.length_nil, ↓reduceIte, Bool.false_eq_true, Bool.not_true, Bool.not_false, wn_ite, gT2, gT3, neV_tup, eqV_tup, in_tup, notin_tup', lineN_eq, Nat.reduceAdd, Nat.reduceLeDiff, Nat.zero_le, true_and, and_true, List.map_nil, List.map_cons, exists_eq_left', Option.some.injEq, PyData.list.injEq, exists_eq_left, PyData.int.injEq, R.ok.injEq, Sl.own.injEq, ln]
end Cb
end Bd
/-! Q3: the program's boundaries; the laws' sums, edges, rims. -/
namespace Bd
open PySem L2
theorem nin_ints (a : Int) (l : List Int) : ninV' (.int a) (.list (l.map PyData.int)) = some (.bool (notIn l a)) := by
  show (if SeqAt.shaped (.int a) = true ∧ SeqAt.shaped (.list (l.map PyData.int)) = true then some ((l.map PyData.int).any fun z => PyData.eqv z (.int a)) else none).map (fun b => PyData.bool !b) = _
  rw [if_pos ⟨rfl, shaped_ints l⟩, any_ints]
  rfl
/-- told of the row -/
def onRow (F : Row → D) : D → D
  | .tuple l => F ((ints? l).getD [])
  | _ => .none
theorem onRow_tup (F : Row → D) (s : Row) : onRow F (tupI s) = F s := by
  show F ((ints? (s.map PyData.int)).getD []) = F s
  rw [ints?_map]
  rfl
theorem onRows (F : Row → D) {xs : List Row} : ((xs.map tupI).filter fun _ => true).map (onRow F) = xs.map F := by
  rw [List.filter_eq_self.mpr fun _ _ => rfl, List.map_map]
  exact List.map_congr_left fun s _ => onRow_tup F s
namespace Cb
end Cb
end Bd
/-! Q31: own dicts with tuples for keys, and sorts by a key, reckoned. -/
namespace Bd
open PySem L2
theorem keyD_tup (s : Row) : keyD (tupI s) = some s := by
  show ints? (s.map PyData.int) = some s
  rw [ints?_map]
section
variable {QD : D → Prop} {QB : Bool → Prop} {QX : D × Nv → Prop} {η : Nv} {N B C : Nv → Prop} {T : D → Nv → Prop}
theorem wn_zgetD {i : Nat} {Fk : Nv → R D} {ks : List (Row × D)} (h : η[i]? = some (.dk (.tup ks))) : Wn (zgetD i Fk η) QD ↔ Wn (Fk η) fun k => ∃ l, keyD k = some l ∧ Wn (.of (zAtD ks l)) QD := by
  unfold zgetD
  rw [h]
  dsimp only
  rw [wn_bind]
  constructor <;> refine fun w => w.imp fun k w => ?_
  · split at w
    · rename_i l e
      exact ⟨l, e, w⟩
    · exact (wn_no.mp w).elim
  · obtain ⟨l, e, w⟩ := w
    rw [e]
    exact w
theorem wn_zhas {b : Bool} {i : Nat} {Fk : Nv → R D} {ks : List (D × D)} (h : η[i]? = some (.m ks)) (hI : isI ks = false) : Wn (zhas b i Fk η) QB ↔ Wn (Fk η) fun k => ∃ l, keyD k = some l ∧ QB ((atI ks l).isSome == b) := by
  unfold zhas
  rw [h]
  dsimp only
  rw [wn_bind]
  constructor <;> refine fun w => w.imp fun k w => ?_
  · split at w
    · rename_i l e
      rw [if_pos hI] at w
      exact ⟨l, e, wn_ok.mp w⟩
    · exact (wn_no.mp w).elim
  · obtain ⟨l, e, w⟩ := w
    rw [e]
    dsimp only
    rw [if_pos hI]
    exact wn_ok.mpr w
theorem wn_boV {G : Nv → R Bool} : Wn (boV G η) QD ↔ Wn (G η) fun b => QD (.bool b) := by
  unfold boV
  rw [wn_bind]
  simp only [wn_ok]
theorem wn_zlist {i : Nat} {ks : List (Row × D)} (h : η[i]? = some (.dk (.tup ks))) : Wn (zlist i η) QD ↔ ks.length ≤ lineN ∧ QD (.list (ks.map fun p => tupI p.1)) := by
  unfold zlist
  rw [h]
  dsimp only
  constructor
  · intro w
    split at w
    · rename_i hl
      exact ⟨hl, wn_ok.mp w⟩
    · exact (wn_no.mp w).elim
  · rintro ⟨hl, w⟩
    rw [if_pos hl]
    exact wn_ok.mpr w
theorem sn_newZ {i : Nat} : Sn (newZ i η) N T B C ↔ N (η.set i (.dk (.tup []))) := by
  unfold newZ
  exact sn_nx
theorem sn_zput {i : Nat} {F : Nv → R (D × Nv)} {Fk : Nv → R D} (h : Wn (F η) fun p => ∃ ks, p.2[i]? = some (.dk (.tup ks)) ∧ sole i p.2 = true ∧ ks.length < lineN ∧ Wn (Fk p.2) fun k => ∃ l, keyD k = some l ∧ N (p.2.set i (.dk (.tup (zPutD ks l p.1))))) : Sn (xZPut i F Fk η) N T B C := by
  unfold xZPut
  rw [sn_toS, wn_only]
  refine h.imp fun p ⟨ks, e, hs, hl, w⟩ => ?_
  rw [e]
  dsimp only
  rw [sn_toS, wn_only]
  refine w.imp fun k ⟨l, el, q⟩ => ?_
  rw [el]
  dsimp only
  rw [if_pos ⟨hs, hl⟩]
  exact sn_nx.mpr q
theorem wn_callKM {i j : Nat} {Fk : List D → List D → R (D × List D)} {Fs : Nv → R (List D × Nv)} {o : OL} {ks0 : List (Row × D)} (h0 : η[i]? = some (.own o)) (h1 : η[j]? = some (.dk (.tup ks0)))
    (h : Wn (Fs η) fun p => ∃ xs ks, p.2[i]? = some (.own xs) ∧ p.2[j]? = some (.dk (.tup ks)) ∧ ks.length ≤ lineN ∧ Wn (Fk xs.l (.dict (tkD ks) :: p.1)) fun r => QX (r.1, p.2.set i (.own ⟨xs.b, r.2⟩))) : Wn (xCallKM i j Fk Fs η) QX := by
  unfold xCallKM
  rw [h0, h1]
  dsimp only
  rw [wn_bind]
  refine h.imp fun p ⟨xs, ks, e, e2, hl, q⟩ => ?_
  rw [e2]
  dsimp only
  rw [if_pos hl]
  unfold xPut
  rw [e]
  dsimp only
  rw [wn_bind]
  simp only [wn_ok]
  exact q
theorem wn_runKM {m : Nat} {G : Nv → Rs} {kx ds : List D} {QK : D × List D → Prop} (h : Sn (G (initKM m kx ds)) (fun _ => False) (fun d η => ∃ kx', η[(0 : Nat)]? = some (.own ⟨false, kx'⟩) ∧ QK (d, kx')) (fun _ => False) (fun _ => False)) : Wn (runKM m G kx ds) QK := by
  unfold runKM
  unfold Sn at h
  cases e : G (initKM m kx ds) with
  | rt d η =>
    rw [e] at h
    obtain ⟨kx', h1, h2⟩ := h
    show Wn (outK d η) QK
    unfold outK
    rw [h1]
    exact wn_ok.mpr h2
  | nx η => rw [e] at h; exact h.elim
  | bk η => rw [e] at h; exact h.elim
  | ct η => rw [e] at h; exact h.elim
  | ex c w p => rw [e] at h; exact h.elim
  | no => rw [e] at h; exact h.elim
/-- sorted things that are told by the data g -/
theorem sortAV_map {α : Type} {g : α → D} {l : List α} (hi : sortIV [.list (l.map g)] = none) (hs : sortB (l.map g) = true) : sortAV [.list (l.map g)] = some (.list ((l.mergeSort (PySem.W.dataLe false g)).map g)) := by
  unfold sortAV
  rw [hi]
  show (if sortB (l.map g) then some (PyData.list (sortD (l.map g))) else none) = _
  rw [if_pos hs]
  unfold sortD
  have := (List.map_mergeSort (l := l) (f := g) (r := PySem.W.dataLe false g) (s := PySem.W.dataLe false id) fun a _ b _ => rfl).symm
  rw [this]
end
end Bd
/-! Q32: shapes: their items in the order of growing. -/
namespace Bd
open PySem L2
namespace Sh
abbrev Ih := Row × Int
/-- a shape: none twice, the faces there, not higher -/
structure Shp (it : List Ih) : Prop where
  nd : (it.map (·.1)).Nodup
  smp : ∀ p ∈ it, Smp p.1
  cl : ∀ p ∈ it, ∀ f ∈ facesL p.1, ∃ q ∈ it, q.1 = f ∧ q.2 ≤ p.2
  bd : ∀ p ∈ it, -1000000 < p.2 ∧ p.2 < 1000000
theorem Shp.nil : Shp [] := ⟨List.nodup_nil, fun p m => absurd m List.not_mem_nil, fun p m => absurd m List.not_mem_nil, fun p m => absurd m List.not_mem_nil⟩
theorem Shp.perm {a b : List Ih} (h : Shp a) (p : b.Perm a) : Shp b := ⟨(p.map (·.1)).nodup_iff.mpr h.nd, fun x m => h.smp x (p.mem_iff.mp m), fun x m f mf => by
  obtain ⟨q, mq, e⟩ := h.cl x (p.mem_iff.mp m) f mf
  exact ⟨q, p.mem_iff.mpr mq, e⟩, fun x m => h.bd x (p.mem_iff.mp m)⟩
def itD (p : Ih) : D := .tuple [tupI p.1, .int p.2]
theorem facesL_short {s f : Row} (h : Smp s) (m : f ∈ facesL s) : f.length < s.length := by
  rcases h.cases with ⟨a, rfl⟩ | ⟨a, b, rfl, _⟩ | ⟨a, b, c, rfl, _, _⟩
  · cases m
  · rw [faces2] at m
    rcases List.mem_cons.mp m with rfl | m
    · simp
    · rw [List.mem_singleton.mp m]; simp
  · rw [faces3] at m
    rcases List.mem_cons.mp m with rfl | m
    · simp
    · rcases List.mem_cons.mp m with rfl | m
      · simp
      · rw [List.mem_singleton.mp m]; simp
theorem fine_item {p : Ih} (h : Smp p.1) (b : -1000000 < p.2 ∧ p.2 < 1000000) : Fine 2 13000 (itD p) := by
  have f := fine_tuple (k := 1) (n := 6000) (xs := [tupI p.1, .int p.2]) fun d m => by
    rcases List.mem_cons.mp m with rfl | m
    · exact fine_row h.u (Pg.upto_asc 12) up12_len up12_small
    · rw [List.mem_singleton.mp m]
      exact (fine_int (by omega) (by omega)).mono (by decide) (by decide)
  exact f.mono (Nat.le_refl _) (by simp)
theorem fine_shape {it : List Ih} (h : Shp it) (hl : it.length ≤ 60) : Fine 3 1000000 (.list (it.map itD)) := by
  have f := fine_list (k := 2) (n := 13000) (xs := it.map itD) fun d m => by
    obtain ⟨p, mp, rfl⟩ := List.mem_map.mp m
    exact fine_item (h.smp p mp) (h.bd p mp)
  refine f.mono (Nat.le_refl _) ?_
  rw [List.length_map]
  omega
end Sh
end Bd
/-! Q33: shapes, as the laws of holes draw them. -/
namespace Bd
open PySem L2
namespace Sh
def G__law_names : Nv → Rs :=
    (seqS (ownS 2 (lrgV (k0 (.int 12))))
    (seqS (forS (iR1 (aC (e2 subV (k0 (.int 12)) (gv 1)) a0)) (gN 3) (seqS (xExpr (xPop 2 (xCallK 0 Dk.F_draw (xC (up (eN lenV (aC (go 2) a0))) x0))))
    .nx))
    (seqS (frzS 2)
    (seqS (retS (gv 2))
    .nx))))
def F__law_names : List D → List D → R (D × List D) := runK 4 G__law_names
def G__law_above : Nv → Rs :=
    (seqS (setS 4 (compE (iR1 (aC (eN lenV (aC (gv 2) a0)) a0)) (gN 5) (fun _ => .ok true) (e2 addV (slE slV (gv 2) p0 (p1 (gv 5))) (slE slV (gv 2) (p1 (e2 addV (gv 5) (k0 (.int 1)))) p0)) [5]))
    (seqS (ifS (notB (tb (eN allV (aC (compE (iA (gv 4)) (gN 6) (fun _ => .ok true) (boV (zhas true 1 (gv 6))) [6]) a0)))) (seqS (retS (k0 .none))
    .nx) .nx)
    (seqS (xRet (x2 addV (up (eN maxV (aC (compE (iA (gv 4)) (gN 6) (fun _ => .ok true) (zget 1 (gv 6)) [6]) a0))) (x2 ixV (xN (fun ds => if ds.length ≤ lineN then some (.list ds) else none) (xC (up (k0 (.int 0))) (xC (xCallK 0 Dk.F_draw (xC (up (gv 3)) x0)) x0))) (xCallK 0 Dk.F_draw (xC (up (k0 (.int 2))) x0)))))
    .nx)))
def F__law_above : List D → List D → R (D × List D) := runKM 7 G__law_above
def G__law_shape : Nv → Rs :=
    (seqS (xIfS (xb (x2 eqV' (xCallK 0 Dk.F_draw (xC (up (k0 (.int 12))) x0)) (up (k0 (.int 0))))) (seqS (retS (lstV a0))
    .nx) .nx)
    (seqS (xSet 2 (xCallK 0 F__law_names (xC (x2 addV (up (k0 (.int 1))) (xCallK 0 Dk.F_draw (xC (up (gv 1)) x0))) x0)))
    (seqS (xSet 3 (x2 ixV (up (lstV (aC (k0 (.int 2)) (aC (k0 (.int 6)) (aC (k0 (.int 30)) a0))))) (xCallK 0 Dk.F_draw (xC (up (k0 (.int 3))) x0))))
    (seqS (xSet 4 (x2 ixV (up (lstV (aC (k0 (.int 1)) (aC (k0 (.int 1)) (aC (k0 (.int 9)) a0))))) (xCallK 0 Dk.F_draw (xC (up (k0 (.int 3))) x0))))
    (seqS (newZ 5)
    (seqS (forS (iA (gv 2)) (gN 6) (seqS (xZPut 5 (x2 subV (xCallK 0 Dk.F_draw (xC (up (gv 3)) x0)) (xCallK 0 Dk.F_draw (xC (up (gv 3)) x0))) (tupV (aC (gv 6) a0)))
    .nx))
    (seqS (setS 7 (lstV a0))
    (seqS (forS (iA (gv 2)) (gN 8) (seqS (setS 7 (e2 addV (gv 7) (compE (iA (gv 2)) (gN 9) (tb (e2 ltA (gv 8) (gv 9))) (tupV (aC (gv 8) (aC (gv 9) a0))) [9])))
    .nx))
    (seqS (forS (iA (gv 7)) (gN 10) (seqS (xIfS (xb (x2 gtA (xCallK 0 Dk.F_draw (xC (up (k0 (.int 4))) x0)) (up (k0 (.int 0))))) (seqS (xZPut 5 (xCallKM 0 5 F__law_above (xC (up (gv 10)) (xC (up (gv 3)) x0))) (gv 10))
    .nx) .nx)
    .nx))
    (seqS (forS (iA (gv 7)) (gT 2 (gsC (gN 8) (gsC (gN 9) gs0))) (seqS (forS (iA (gv 2)) (gN 11) (seqS (xIfS (xAnd (upB (tb (e2 gtA (gv 11) (gv 9)))) (xb (x2 gtA (xCallK 0 Dk.F_draw (xC (up (k0 (.int 3))) x0)) (up (k0 (.int 0)))))) (seqS (xSet 12 (xCallKM 0 5 F__law_above (xC (up (tupV (aC (gv 8) (aC (gv 9) (aC (gv 11) a0))))) (xC (up (gv 3)) x0))))
    (seqS (ifS (tb (e2 isnotV (gv 12) (k0 .none))) (seqS (xZPut 5 (up (gv 12)) (tupV (aC (gv 8) (aC (gv 9) (aC (gv 11) a0)))))
    .nx) .nx)
    .nx)) .nx)
    .nx))
    .nx))
    (seqS (ownS 13 (lstV a0))
    (seqS (forS (iA (zlist 5)) (gN 14) (seqS (xIns 13 (xC (xCallK 0 Dk.F_draw (xC (up (e2 addV (eN lenV (aC (go 13) a0)) (k0 (.int 1)))) x0)) (xC (up (tupV (aC (gv 14) (aC (e2 mulV (gv 4) (zgetD 5 (gv 14))) a0)))) x0)))
    .nx))
    (seqS (frzS 13)
    (seqS (retS (gv 13))
    .nx))))))))))))))
def F__law_shape : List D → List D → R (D × List D) := runK 15 G__law_shape
/-! ### heights by simplices -/
def look (hs : List Ih) (s : Row) : Option Int := (hs.find? fun p => decide (p.1 = s)).map (·.2)
def zsD (hs : List Ih) : List (Row × D) := hs.map fun p => (p.1, PyData.int p.2)
def put (hs : List Ih) (s : Row) (h : Int) : List Ih := if s ∈ hs.map (·.1) then hs.map (fun p => if p.1 = s then (p.1, h) else p) else hs ++ [(s, h)]
theorem look_cons (p : Ih) (hs : List Ih) (s : Row) : look (p :: hs) s = if p.1 = s then some p.2 else look hs s := by
  unfold look
  rw [List.find?_cons]
  by_cases c : p.1 = s
  · rw [if_pos c, decide_eq_true c]
    rfl
  · rw [if_neg c, decide_eq_false c]
theorem zat_look (hs : List Ih) (s : Row) : zAtD (zsD hs) s = (look hs s).map PyData.int := by
  induction hs with
  | nil => rfl
  | cons p hs ih =>
    rw [look_cons]
    show ((((p.1, PyData.int p.2) :: zsD hs).find? fun p => decide (p.1 = s)).map (·.2)) = _
    rw [List.find?_cons]
    by_cases c : p.1 = s
    · rw [if_pos c, decide_eq_true c]
      rfl
    · rw [if_neg c, decide_eq_false c]
      exact ih
theorem atI_look (hs : List Ih) (s : Row) : Bd.atI (tkD (zsD hs)) s = (look hs s).map PyData.int := by
  induction hs with
  | nil => rfl
  | cons p hs ih =>
    rw [look_cons]
    show ((((tupI p.1, PyData.int p.2) :: tkD (zsD hs)).find? fun p => isK p.1 s).map (·.2)) = _
    rw [List.find?_cons]
    dsimp only
    rw [isK_tup]
    by_cases c : p.1 = s
    · rw [if_pos c, decide_eq_true c]
      rfl
    · rw [if_neg c, decide_eq_false c]
      exact ih
theorem zput_put (hs : List Ih) (s : Row) (h : Int) : zPutD (zsD hs) s (.int h) = zsD (put hs s h) := by
  unfold zPutD put
  have e : ((zsD hs).any fun p => decide (p.1 = s)) = decide (s ∈ hs.map (·.1)) := by
    rw [Bool.eq_iff_iff, List.any_eq_true, decide_eq_true_iff]
    constructor
    · rintro ⟨x, m, e⟩
      obtain ⟨p, mp, rfl⟩ := List.mem_map.mp m
      exact List.mem_map.mpr ⟨p, mp, of_decide_eq_true e⟩
    · intro m
      obtain ⟨p, mp, e⟩ := List.mem_map.mp m
      exact ⟨_, List.mem_map.mpr ⟨p, mp, rfl⟩, decide_eq_true e⟩
  rw [e]
  by_cases c : s ∈ hs.map (·.1)
  · rw [if_pos (decide_eq_true c), if_pos c]
    unfold zsD
    rw [List.map_map, List.map_map]
    refine List.map_congr_left fun p _ => ?_
    by_cases d : p.1 = s
    · simp [d]
    · simp [d]
  · rw [if_neg (by rw [decide_eq_false c]; exact Bool.false_ne_true), if_neg c]
    unfold zsD
    rw [List.map_append]
    rfl
theorem look_mem : ∀ {hs : List Ih} {s : Row} {h : Int}, look hs s = some h → (s, h) ∈ hs
  | [], _, _, e => nomatch e
  | p :: hs, s, h, e => by
    rw [look_cons] at e
    split at e
    · rename_i c
      cases e
      rw [← c]
      exact List.mem_cons_self
    · exact List.mem_cons_of_mem _ (look_mem e)
theorem look_of {hs : List Ih} {s : Row} (m : s ∈ hs.map (·.1)) : ∃ h, look hs s = some h := by
  induction hs with
  | nil => cases m
  | cons p hs ih =>
    rw [look_cons]
    by_cases c : p.1 = s
    · exact ⟨p.2, if_pos c⟩
    · rw [if_neg c]
      rcases List.mem_cons.mp m with e | m
      · exact absurd e.symm c
      · exact ih m
theorem look_isSome {hs : List Ih} {s : Row} : (look hs s).isSome = decide (s ∈ hs.map (·.1)) := by
  by_cases c : s ∈ hs.map (·.1)
  · obtain ⟨h, e⟩ := look_of c
    rw [e, decide_eq_true c]
    rfl
  · rw [decide_eq_false c]
    cases e : look hs s with
    | none => rfl
    | some h => exact absurd (List.mem_map.mpr ⟨_, look_mem e, rfl⟩) c
theorem look_eq {hs : List Ih} (nd : (hs.map (·.1)).Nodup) {p : Ih} (m : p ∈ hs) : look hs p.1 = some p.2 := by
  induction hs with
  | nil => cases m
  | cons q hs ih =>
    rw [List.map_cons, List.nodup_cons] at nd
    rw [look_cons]
    rcases List.mem_cons.mp m with rfl | m
    · rw [if_pos rfl]
    · rw [if_neg fun e => nd.1 (by rw [e]; exact List.mem_map.mpr ⟨p, m, rfl⟩)]
      exact ih nd.2 m
theorem put_keys (hs : List Ih) (s : Row) (h : Int) : (put hs s h).map (·.1) = if s ∈ hs.map (·.1) then hs.map (·.1) else hs.map (·.1) ++ [s] := by
  unfold put
  split
  · rw [List.map_map]
    refine List.map_congr_left fun p _ => ?_
    show (if p.1 = s then (p.1, h) else p).1 = p.1
    split <;> rfl
  · rw [List.map_append]
    rfl
theorem put_nodup {hs : List Ih} {s : Row} {h : Int} (nd : (hs.map (·.1)).Nodup) : ((put hs s h).map (·.1)).Nodup := by
  rw [put_keys]
  split
  · exact nd
  · rename_i c
    exact List.nodup_append.mpr ⟨nd, List.nodup_cons.mpr ⟨List.not_mem_nil, List.nodup_nil⟩, fun a ma b mb e => c (by
      rw [List.mem_singleton.mp mb] at e
      exact e ▸ ma)⟩
theorem mem_put {hs : List Ih} {s : Row} {h : Int} {x : Ih} (m : x ∈ put hs s h) : x = (s, h) ∨ (x ∈ hs ∧ x.1 ≠ s) := by
  unfold put at m
  split at m
  · obtain ⟨p, mp, e⟩ := List.mem_map.mp m
    split at e
    · rename_i c
      rw [← e, c]
      exact .inl rfl
    · rename_i c
      subst e
      exact .inr ⟨mp, c⟩
  · rename_i c
    rcases List.mem_append.mp m with m | m
    · exact .inr ⟨m, fun e => c (by rw [← e]; exact List.mem_map.mpr ⟨x, m, rfl⟩)⟩
    · exact .inl (List.mem_singleton.mp m)
theorem put_keep {hs : List Ih} {s : Row} {h : Int} {x : Ih} (m : x ∈ hs) (n : x.1 ≠ s) : x ∈ put hs s h := by
  unfold put
  split
  · exact List.mem_map.mpr ⟨x, m, if_neg n⟩
  · exact List.mem_append_left _ m
/-! ### a shape that grows -/
structure Gro (names : Row) (m : Nat) (hs : List Ih) : Prop where
  nd : (hs.map (·.1)).Nodup
  sub : ∀ p ∈ hs, InU names p.1 ∧ 1 ≤ p.1.length ∧ p.1.length ≤ m
  cl : ∀ p ∈ hs, ∀ f ∈ facesL p.1, ∃ q ∈ hs, q.1 = f ∧ q.2 ≤ p.2
  bd : ∀ p ∈ hs, -30 < p.2 ∧ p.2 < 30 * (p.1.length : Int)
theorem Gro.up {names : Row} {m : Nat} {hs : List Ih} (g : Gro names m hs) : Gro names (m + 1) hs := ⟨g.nd, fun p mp => ⟨(g.sub p mp).1, (g.sub p mp).2.1, Nat.le_succ_of_le (g.sub p mp).2.2⟩, g.cl, g.bd⟩
theorem Gro.nil {names : Row} : Gro names 1 [] := ⟨List.nodup_nil, fun p m => absurd m List.not_mem_nil, fun p m => absurd m List.not_mem_nil, fun p m => absurd m List.not_mem_nil⟩
theorem Gro.smp {names : Row} {hs : List Ih} (hn : InU (Pg.uptoI 12) names) {m : Nat} (hm : m ≤ 3) (g : Gro names m hs) : ∀ p ∈ hs, Smp p.1 := fun p mp => by
  obtain ⟨h1, h2, h3⟩ := g.sub p mp
  exact ⟨⟨h1.asc, fun x mx => hn.sub x (h1.sub x mx)⟩, h2, by omega⟩
theorem Gro.put {names : Row} {m : Nat} {hs : List Ih} {s : Row} {h : Int} (hn : InU (Pg.uptoI 12) names) (hm : m ≤ 3) (g : Gro names m hs) (hs1 : InU names s) (hl : s.length = m) (h1 : 1 ≤ m) (hf : ∀ f ∈ facesL s, ∃ v, look hs f = some v ∧ v ≤ h) (hb : -30 < h ∧ h < 30 * (m : Int)) : Gro names m (put hs s h) := by
  have ss : Smp s := ⟨⟨hs1.asc, fun x mx => hn.sub x (hs1.sub x mx)⟩, by omega, by omega⟩
  refine ⟨put_nodup g.nd, fun p mp => ?_, fun p mp f mf => ?_, fun p mp => ?_⟩
  · rcases mem_put mp with rfl | ⟨mp, _⟩
    · exact ⟨hs1, by show 1 ≤ s.length; omega, by show s.length ≤ m; omega⟩
    · exact g.sub p mp
  · rcases mem_put mp with rfl | ⟨mp, _⟩
    · obtain ⟨v, e, lv⟩ := hf f mf
      have := facesL_short ss mf
      exact ⟨(f, v), put_keep (look_mem e) (fun e => by
        have e : f = s := e
        rw [e] at this
        exact Nat.lt_irrefl _ this), rfl, lv⟩
    · obtain ⟨q, mq, e, lq⟩ := g.cl p mp f mf
      have z1 := facesL_short (g.smp hn hm p mp) mf
      have z2 := (g.sub p mp).2.2
      exact ⟨q, put_keep mq fun e2 => by
        have z3 : f = s := e.symm.trans e2
        rw [z3] at z1
        omega, e, lq⟩
  · rcases mem_put mp with rfl | ⟨mp, _⟩
    · rw [hl]
      exact hb
    · exact g.bd p mp
/-- all rows of a few -/
def subs : Row → List Row
  | [] => [[]]
  | x :: l => subs l ++ (subs l).map (x :: ·)
theorem subs_len : ∀ l : Row, (subs l).length = 2 ^ l.length
  | [] => rfl
  | x :: l => by
    unfold subs
    rw [List.length_append, List.length_map, subs_len l, List.length_cons, Nat.pow_succ]
    omega
theorem subs_mem : ∀ {l r : Row}, Asc l → InU l r → r ∈ subs l
  | [], r, _, h => by
    cases r with
    | nil => exact List.mem_singleton.mpr rfl
    | cons y r => exact absurd (h.sub y List.mem_cons_self) List.not_mem_nil
  | x :: l, r, ha, h => by
    obtain ⟨ha1, ha2⟩ := List.pairwise_cons.mp ha
    unfold subs
    cases r with
    | nil => exact List.mem_append_left _ (subs_mem ha2 ⟨.nil, fun y m => absurd m List.not_mem_nil⟩)
    | cons y r =>
      obtain ⟨r1, r2⟩ := List.pairwise_cons.mp h.asc
      have tl : ∀ z ∈ r, z ∈ l := fun z mz => by
        rcases List.mem_cons.mp (h.sub z (List.mem_cons_of_mem _ mz)) with e | m
        · have lt := r1 z mz
          rcases List.mem_cons.mp (h.sub y List.mem_cons_self) with e2 | m2
          · omega
          · have := ha1 y m2
            omega
        · exact m
      rcases List.mem_cons.mp (h.sub y List.mem_cons_self) with e | m
      · subst e
        exact List.mem_append_right _ (List.mem_map.mpr ⟨r, subs_mem ha2 ⟨r2, tl⟩, rfl⟩)
      · refine List.mem_append_left _ (subs_mem ha2 ⟨h.asc, fun z mz => ?_⟩)
        rcases List.mem_cons.mp mz with rfl | mz
        · exact m
        · exact tl z mz
theorem nodup_le {α : Type} [DecidableEq α] : ∀ {a b : List α}, a.Nodup → (∀ x ∈ a, x ∈ b) → a.length ≤ b.length
  | [], _, _, _ => Nat.zero_le _
  | x :: a, b, nd, h => by
    rw [List.nodup_cons] at nd
    have mb := h x List.mem_cons_self
    have := nodup_le (a := a) (b := b.erase x) nd.2 fun y my => (List.mem_erase_of_ne fun e => nd.1 (by rw [← e]; exact my)).mpr (h y (List.mem_cons_of_mem _ my))
    rw [List.length_erase_of_mem mb] at this
    have := List.length_pos_of_mem mb
    rw [List.length_cons]
    omega
theorem Gro.len {names : Row} {m : Nat} {hs : List Ih} (ha : Asc names) (hl : names.length ≤ 5) (g : Gro names m hs) : hs.length ≤ 32 := by
  have h := nodup_le g.nd (b := subs names) fun s ms => by
    obtain ⟨p, mp, rfl⟩ := List.mem_map.mp ms
    exact subs_mem ha (g.sub p mp).1
  rw [List.length_map, subs_len] at h
  exact Nat.le_trans h (Nat.pow_le_pow_right (by decide) hl)
theorem Gro.shp {names : Row} {hs : List Ih} (hn : InU (Pg.uptoI 12) names) (g : Gro names 3 hs) {far : Int} (f0 : 1 ≤ far) (f1 : far ≤ 9) : Shp (hs.map fun p => (p.1, far * p.2)) := by
  refine ⟨?_, fun p mp => ?_, fun p mp f mf => ?_, fun p mp => ?_⟩
  · rw [List.map_map]
    exact g.nd
  · obtain ⟨q, mq, rfl⟩ := List.mem_map.mp mp
    exact g.smp hn (Nat.le_refl _) q mq
  · obtain ⟨q, mq, rfl⟩ := List.mem_map.mp mp
    obtain ⟨r, mr, e, lr⟩ := g.cl q mq f mf
    exact ⟨(r.1, far * r.2), List.mem_map.mpr ⟨r, mr, rfl⟩, e, Int.mul_le_mul_of_nonneg_left lr (by omega)⟩
  · obtain ⟨q, mq, rfl⟩ := List.mem_map.mp mp
    obtain ⟨b1, b2⟩ := g.bd q mq
    have l3 := (g.sub q mq).2.2
    have b3 : q.2 < 90 := by omega
    constructor
    · show -1000000 < far * q.2
      have : far * (-30) ≤ far * q.2 := Int.mul_le_mul_of_nonneg_left (by omega) (by omega)
      omega
    · show far * q.2 < 1000000
      have : far * q.2 ≤ far * 90 := Int.mul_le_mul_of_nonneg_left (by omega) (by omega)
      omega
end Sh
end Bd
/-! Q34: .. names, heights above, shapes. -/
namespace Bd
open PySem L2
namespace Sh
theorem up12_rg {η : Nv} : lrgV (k0 (.int 12)) η = .ok (.list ((Pg.uptoI 12).map PyData.int)) := by
  show ((rgL (.int 12)).bind fun xs => R.ok (PyData.list xs)) = _
  rw [← Od.range_up]
  rfl
theorem names_w {kx : List D} {c : Int} {QK : D × List D → Prop} (hk : Dk.Deck kx) (h0 : 0 ≤ c) (h1 : c ≤ 12) (k : ∀ (l : Row) kx', Dk.Deck kx' → InU (Pg.uptoI 12) l → (l.length : Int) = c → QK (.list (l.map PyData.int), kx')) : Wn (F__law_names kx [.int c]) QK := by
  refine wn_runK ?_
  show Sn (G__law_names [.own ⟨false, kx⟩, .d (.int c), .no, .no]) _ _ _ _
  unfold G__law_names
  simp only [wn_ok, wn_some, wn_only, wn_noex, wn_e2, wn_e1, wn_eN, wn_a0, wn_aC, wn_call, wn_tb, wn_tup, wn_lst, wn_andB, wn_orB, wn_notB, wn_andV, wn_orV, wn_notV, wn_ifV, wn_iA, wn_iR1, wn_iR2, wn_iZ, wn_iEn, wn_iRR, wn_sl, wn_p0, wn_p1, wn_up, wn_upB, wn_upI, wn_x2, wn_x0, wn_xC, wn_xN, wn_xb, wn_xAnd, wn_xOr, wn_xNot, wn_xIf, wn_xCall, wn_xR1, wn_xR2, sn_nx, sn_rt, sn_bk, sn_ct, sn_seq, sn_set, sn_ret, sn_expr, sn_if, sn_for, sn_xSet, sn_xRet, sn_xExpr, sn_xIf, sn_xFor, sn_asg, sn_xAsg, sn_own, sn_xOwn, gv_zero, gv_succ, go_own, go_dat, go_succ, k0_def, gN_def, tru_bool, tru_none, tru_int, tru_list, asSeq_list, asSeq_tup, addV_int, subV_int, ltA_i, leA_i, gtA_i, geA_i, negV_int, intV_int, lenV_list, lenV_tup, ixV_list, ixV_tup, asInt_int, slV_list, slV_tup, slL_list, revV_tup, revV_list, tupleV_list, listV_list, listV_tup, eqV_str, neV_str, eqV_int, List.set_cons_zero, List.set_cons_succ, List.getElem?_cons_zero, List.getElem?_cons_succ, List.length_cons, List.length_nil, ↓reduceIte, Bool.false_eq_true, Bool.not_true, Bool.not_false, wn_ite, gT2, gT3, neV_tup, eqV_tup, in_tup, notin_tup', lineN_eq, Nat.reduceAdd, Nat.reduceLeDiff, Nat.zero_le, true_and, and_true, List.map_nil, List.map_cons, exists_eq_left', Option.some.injEq, PyData.list.injEq, exists_eq_left, PyData.int.injEq, R.ok.injEq, Sl.own.injEq, up12_rg]
  rw [wn_rng1 (by omega) (by omega)]
  refine sn_loop (fun rest η => ∃ (l : Row) (kx' : List D) (s3 : Sl), Dk.Deck kx' ∧ InU (Pg.uptoI 12) l ∧ (l.length : Int) = c + rest.length ∧
      η = [.own ⟨false, kx'⟩, .d (.int c), .own ⟨true, l.map PyData.int⟩, s3]) ?_ ?_ _ _ ⟨Pg.uptoI 12, kx, .no, hk, ⟨Pg.upto_asc 12, fun _ m => m⟩, ?_, rfl⟩
  · rintro x rest η ⟨l, kx', s3, hk', hl, hz, rfl⟩
    rw [List.length_cons] at hz
    have ll := hl.len (Pg.upto_asc 12)
    have := up12_len
    refine ⟨_, rfl, ?_⟩
    simp only [wn_ok, wn_some, wn_only, wn_noex, wn_e2, wn_e1, wn_eN, wn_a0, wn_aC, wn_call, wn_tb, wn_tup, wn_lst, wn_andB, wn_orB, wn_notB, wn_andV, wn_orV, wn_notV, wn_ifV, wn_iA, wn_iR1, wn_iR2, wn_iZ, wn_iEn, wn_iRR, wn_sl, wn_p0, wn_p1, wn_up, wn_upB, wn_upI, wn_x2, wn_x0, wn_xC, wn_xN, wn_xb, wn_xAnd, wn_xOr, wn_xNot, wn_xIf, wn_xCall, wn_xR1, wn_xR2, sn_nx, sn_rt, sn_bk, sn_ct, sn_seq, sn_set, sn_ret, sn_expr, sn_if, sn_for, sn_xSet, sn_xRet, sn_xExpr, sn_xIf, sn_xFor, sn_asg, sn_xAsg, sn_own, sn_xOwn, gv_zero, gv_succ, go_own, go_dat, go_succ, k0_def, gN_def, tru_bool, tru_none, tru_int, tru_list, asSeq_list, asSeq_tup, addV_int, subV_int, ltA_i, leA_i, gtA_i, geA_i, negV_int, intV_int, lenV_list, lenV_tup, ixV_list, ixV_tup, asInt_int, slV_list, slV_tup, slL_list, revV_tup, revV_list, tupleV_list, listV_list, listV_tup, eqV_str, neV_str, eqV_int, List.set_cons_zero, List.set_cons_succ, List.getElem?_cons_zero, List.getElem?_cons_succ, List.length_cons, List.length_nil, ↓reduceIte, Bool.false_eq_true, Bool.not_true, Bool.not_false, wn_ite, gT2, gT3, neV_tup, eqV_tup, in_tup, notin_tup', lineN_eq, Nat.reduceAdd, Nat.reduceLeDiff, Nat.zero_le, true_and, and_true, List.map_nil, List.map_cons, exists_eq_left', Option.some.injEq, PyData.list.injEq, exists_eq_left, PyData.int.injEq, R.ok.injEq, Sl.own.injEq]
    refine wn_xPop (o := ⟨true, l.map PyData.int⟩) rfl ?_
    refine wn_callK rfl ?_
    simp only [wn_ok, wn_some, wn_only, wn_noex, wn_e2, wn_e1, wn_eN, wn_a0, wn_aC, wn_call, wn_tb, wn_tup, wn_lst, wn_andB, wn_orB, wn_notB, wn_andV, wn_orV, wn_notV, wn_ifV, wn_iA, wn_iR1, wn_iR2, wn_iZ, wn_iEn, wn_iRR, wn_sl, wn_p0, wn_p1, wn_up, wn_upB, wn_upI, wn_x2, wn_x0, wn_xC, wn_xN, wn_xb, wn_xAnd, wn_xOr, wn_xNot, wn_xIf, wn_xCall, wn_xR1, wn_xR2, sn_nx, sn_rt, sn_bk, sn_ct, sn_seq, sn_set, sn_ret, sn_expr, sn_if, sn_for, sn_xSet, sn_xRet, sn_xExpr, sn_xIf, sn_xFor, sn_asg, sn_xAsg, sn_own, sn_xOwn, gv_zero, gv_succ, go_own, go_dat, go_succ, k0_def, gN_def, tru_bool, tru_none, tru_int, tru_list, asSeq_list, asSeq_tup, addV_int, subV_int, ltA_i, leA_i, gtA_i, geA_i, negV_int, intV_int, lenV_list, lenV_tup, ixV_list, ixV_tup, asInt_int, slV_list, slV_tup, slL_list, revV_tup, revV_list, tupleV_list, listV_list, listV_tup, eqV_str, neV_str, eqV_int, List.set_cons_zero, List.set_cons_succ, List.getElem?_cons_zero, List.getElem?_cons_succ, List.length_cons, List.length_nil, ↓reduceIte, Bool.false_eq_true, Bool.not_true, Bool.not_false, wn_ite, gT2, gT3, neV_tup, eqV_tup, in_tup, notin_tup', lineN_eq, Nat.reduceAdd, Nat.reduceLeDiff, Nat.zero_le, true_and, and_true, List.map_nil, List.map_cons, exists_eq_left', Option.some.injEq, PyData.list.injEq, exists_eq_left, PyData.int.injEq, R.ok.injEq, Sl.own.injEq, List.length_map]
    refine wn_draw hk' (by omega) fun j kx2 hk2 j0 j1 => ?_
    have jl : j.toNat < l.length := by omega
    refine ⟨⟨true, l.map PyData.int⟩, j, .int l[j.toNat], rfl, rfl, j0, by omega, by show (l.map PyData.int)[j.toNat]? = _; rw [List.getElem?_map, List.getElem?_eq_getElem jl]; rfl, ?_⟩
    refine ⟨l.eraseIdx j.toNat, kx2, .d x, hk2, ⟨hl.asc.sublist (List.eraseIdx_sublist l j.toNat), fun y my => hl.sub y ((List.eraseIdx_sublist l j.toNat).subset my)⟩, ?_, ?_⟩
    · rw [List.length_eraseIdx, if_pos jl]
      omega
    · simp only [wn_ok, wn_some, wn_only, wn_noex, wn_e2, wn_e1, wn_eN, wn_a0, wn_aC, wn_call, wn_tb, wn_tup, wn_lst, wn_andB, wn_orB, wn_notB, wn_andV, wn_orV, wn_notV, wn_ifV, wn_iA, wn_iR1, wn_iR2, wn_iZ, wn_iEn, wn_iRR, wn_sl, wn_p0, wn_p1, wn_up, wn_upB, wn_upI, wn_x2, wn_x0, wn_xC, wn_xN, wn_xb, wn_xAnd, wn_xOr, wn_xNot, wn_xIf, wn_xCall, wn_xR1, wn_xR2, sn_nx, sn_rt, sn_bk, sn_ct, sn_seq, sn_set, sn_ret, sn_expr, sn_if, sn_for, sn_xSet, sn_xRet, sn_xExpr, sn_xIf, sn_xFor, sn_asg, sn_xAsg, sn_own, sn_xOwn, gv_zero, gv_succ, go_own, go_dat, go_succ, k0_def, gN_def, tru_bool, tru_none, tru_int, tru_list, asSeq_list, asSeq_tup, addV_int, subV_int, ltA_i, leA_i, gtA_i, geA_i, negV_int, intV_int, lenV_list, lenV_tup, ixV_list, ixV_tup, asInt_int, slV_list, slV_tup, slL_list, revV_tup, revV_list, tupleV_list, listV_list, listV_tup, eqV_str, neV_str, eqV_int, List.set_cons_zero, List.set_cons_succ, List.getElem?_cons_zero, List.getElem?_cons_succ, List.length_cons, List.length_nil, ↓reduceIte, Bool.false_eq_true, Bool.not_true, Bool.not_false, wn_ite, gT2, gT3, neV_tup, eqV_tup, in_tup, notin_tup', lineN_eq, Nat.reduceAdd, Nat.reduceLeDiff, Nat.zero_le, true_and, and_true, List.map_nil, List.map_cons, exists_eq_left', Option.some.injEq, PyData.list.injEq, exists_eq_left, PyData.int.injEq, R.ok.injEq, Sl.own.injEq]
      rw [Od.erase_map]
  · rintro η ⟨l, kx', s3, hk', hl, hz, rfl⟩
    refine sn_frz (xs := l.map PyData.int) rfl ?_
    simp only [wn_ok, wn_some, wn_only, wn_noex, wn_e2, wn_e1, wn_eN, wn_a0, wn_aC, wn_call, wn_tb, wn_tup, wn_lst, wn_andB, wn_orB, wn_notB, wn_andV, wn_orV, wn_notV, wn_ifV, wn_iA, wn_iR1, wn_iR2, wn_iZ, wn_iEn, wn_iRR, wn_sl, wn_p0, wn_p1, wn_up, wn_upB, wn_upI, wn_x2, wn_x0, wn_xC, wn_xN, wn_xb, wn_xAnd, wn_xOr, wn_xNot, wn_xIf, wn_xCall, wn_xR1, wn_xR2, sn_nx, sn_rt, sn_bk, sn_ct, sn_seq, sn_set, sn_ret, sn_expr, sn_if, sn_for, sn_xSet, sn_xRet, sn_xExpr, sn_xIf, sn_xFor, sn_asg, sn_xAsg, sn_own, sn_xOwn, gv_zero, gv_succ, go_own, go_dat, go_succ, k0_def, gN_def, tru_bool, tru_none, tru_int, tru_list, asSeq_list, asSeq_tup, addV_int, subV_int, ltA_i, leA_i, gtA_i, geA_i, negV_int, intV_int, lenV_list, lenV_tup, ixV_list, ixV_tup, asInt_int, slV_list, slV_tup, slL_list, revV_tup, revV_list, tupleV_list, listV_list, listV_tup, eqV_str, neV_str, eqV_int, List.set_cons_zero, List.set_cons_succ, List.getElem?_cons_zero, List.getElem?_cons_succ, List.length_cons, List.length_nil, ↓reduceIte, Bool.false_eq_true, Bool.not_true, Bool.not_false, wn_ite, gT2, gT3, neV_tup, eqV_tup, in_tup, notin_tup', lineN_eq, Nat.reduceAdd, Nat.reduceLeDiff, Nat.zero_le, true_and, and_true, List.map_nil, List.map_cons, exists_eq_left', Option.some.injEq, PyData.list.injEq, exists_eq_left, PyData.int.injEq, R.ok.injEq, Sl.own.injEq]
    exact ⟨kx', rfl, k l kx' hk' hl (by simp at hz; omega)⟩
  · unfold rangeD
    rw [List.length_map, List.length_range]
    have : (Pg.uptoI 12).length = 12 := by decide
    simp
    omega
theorem maxV_ints {l : Row} (h : 0 < l.length) : maxV [.list (l.map PyData.int)] = some (.int (maxI l)) := by
  show ((ints? (l.map PyData.int)).bind fun ns => if 0 < ns.length then some (PyData.int (maxI ns)) else none) = _
  rw [ints?_map]
  show (if 0 < l.length then some (PyData.int (maxI l)) else none) = _
  rw [if_pos h]
theorem facesL_pos {s : Row} (h : Smp s) (h2 : 2 ≤ s.length) : 0 < (facesL s).length := by
  unfold facesL
  rw [if_neg (by omega), List.length_map, List.length_range]
  omega
theorem maxI_spec : ∀ {l : List Int}, 0 < l.length → maxI l ∈ l ∧ ∀ y ∈ l, y ≤ maxI l
  | [], h => absurd h (Nat.lt_irrefl _)
  | [x], _ => ⟨List.mem_cons_self, fun y m => by rw [List.mem_singleton.mp m]; exact Int.le_refl _⟩
  | x :: z :: r, _ => by
    obtain ⟨h1, h2⟩ := maxI_spec (l := z :: r) (by simp)
    have e : maxI (x :: z :: r) = if maxI (z :: r) < x then x else maxI (z :: r) := rfl
    rw [e]
    split
    · refine ⟨List.mem_cons_self, fun y m => ?_⟩
      rcases List.mem_cons.mp m with rfl | m
      · exact Int.le_refl _
      · have := h2 y m
        omega
    · refine ⟨List.mem_cons_of_mem _ h1, fun y m => ?_⟩
      rcases List.mem_cons.mp m with rfl | m
      · omega
      · exact h2 y m
def cutD (s : Row) : D → D
  | .int k => tupI (s.take k.toNat ++ s.drop (k.toNat + 1))
  | _ => .none
theorem above_w {kx : List D} {hs : List Ih} {s : Row} {wide : Int} {QK : D × List D → Prop} (hk : Dk.Deck kx) (hs1 : Smp s) (h2 : 2 ≤ s.length) (w0 : 1 ≤ wide) (w1 : wide ≤ 30)
    (kn : ∀ kx', Dk.Deck kx' → (∃ f ∈ facesL s, f ∉ hs.map (·.1)) → QK (.none, kx')) (k : ∀ (h : Int) kx', Dk.Deck kx' → (∀ f ∈ facesL s, ∃ v, look hs f = some v ∧ v ≤ h) → (∃ f ∈ facesL s, ∃ v, look hs f = some v ∧ h < v + wide) → QK (.int h, kx')) : Wn (F__law_above kx [.dict (tkD (zsD hs)), tupI s, .int wide]) QK := by
  have lo := hs1.lo
  have hi := hs1.hi
  have ln : lenV [tupI s] = some (.int (s.length : Nat)) := by
    show some (PyData.int ((s.map PyData.int).length : Nat)) = _
    rw [List.length_map]
  refine wn_runKM ?_
  show Sn (G__law_above [.own ⟨false, kx⟩, .m (tkD (zsD hs)), .d (tupI s), .d (.int wide), .no, .no, .no]) _ _ _ _
  unfold G__law_above
  generalize hM : tkD (zsD hs) = M
  have aM : ∀ f, Bd.atI M f = (look hs f).map PyData.int := fun f => by rw [← hM, atI_look]
  have hI : isI M = false := by rw [← hM]; exact isI_tk _
  simp only [wn_ok, wn_some, wn_only, wn_noex, wn_e2, wn_e1, wn_eN, wn_a0, wn_aC, wn_call, wn_tb, wn_tup, wn_lst, wn_andB, wn_orB, wn_notB, wn_andV, wn_orV, wn_notV, wn_ifV, wn_iA, wn_iR1, wn_iR2, wn_iZ, wn_iEn, wn_iRR, wn_sl, wn_p0, wn_p1, wn_up, wn_upB, wn_upI, wn_x2, wn_x0, wn_xC, wn_xN, wn_xb, wn_xAnd, wn_xOr, wn_xNot, wn_xIf, wn_xCall, wn_xR1, wn_xR2, sn_nx, sn_rt, sn_bk, sn_ct, sn_seq, sn_set, sn_ret, sn_expr, sn_if, sn_for, sn_xSet, sn_xRet, sn_xExpr, sn_xIf, sn_xFor, sn_asg, sn_xAsg, sn_own, sn_xOwn, gv_zero, gv_succ, go_own, go_dat, go_succ, k0_def, gN_def, tru_bool, tru_none, tru_int, tru_list, asSeq_list, asSeq_tup, addV_int, subV_int, ltA_i, leA_i, gtA_i, geA_i, negV_int, intV_int, lenV_list, lenV_tup, ixV_list, ixV_tup, asInt_int, slV_list, slV_tup, slL_list, revV_tup, revV_list, tupleV_list, listV_list, listV_tup, eqV_str, neV_str, eqV_int, List.set_cons_zero, List.set_cons_succ, List.getElem?_cons_zero, List.getElem?_cons_succ, List.length_cons, List.length_nil, ↓reduceIte, Bool.false_eq_true, Bool.not_true, Bool.not_false, wn_ite, gT2, gT3, neV_tup, eqV_tup, in_tup, notin_tup', lineN_eq, Nat.reduceAdd, Nat.reduceLeDiff, Nat.zero_le, true_and, and_true, List.map_nil, List.map_cons, exists_eq_left', Option.some.injEq, PyData.list.injEq, exists_eq_left, PyData.int.injEq, R.ok.injEq, Sl.own.injEq]
  refine wn_comp (xs := (Pg.uptoI s.length).map PyData.int) (fun _ => true) (cutD s) ?_ ?_ ?_ ?_
  · simp only [wn_ok, wn_some, wn_only, wn_noex, wn_e2, wn_e1, wn_eN, wn_a0, wn_aC, wn_call, wn_tb, wn_tup, wn_lst, wn_andB, wn_orB, wn_notB, wn_andV, wn_orV, wn_notV, wn_ifV, wn_iA, wn_iR1, wn_iR2, wn_iZ, wn_iEn, wn_iRR, wn_sl, wn_p0, wn_p1, wn_up, wn_upB, wn_upI, wn_x2, wn_x0, wn_xC, wn_xN, wn_xb, wn_xAnd, wn_xOr, wn_xNot, wn_xIf, wn_xCall, wn_xR1, wn_xR2, sn_nx, sn_rt, sn_bk, sn_ct, sn_seq, sn_set, sn_ret, sn_expr, sn_if, sn_for, sn_xSet, sn_xRet, sn_xExpr, sn_xIf, sn_xFor, sn_asg, sn_xAsg, sn_own, sn_xOwn, gv_zero, gv_succ, go_own, go_dat, go_succ, k0_def, gN_def, tru_bool, tru_none, tru_int, tru_list, asSeq_list, asSeq_tup, addV_int, subV_int, ltA_i, leA_i, gtA_i, geA_i, negV_int, intV_int, lenV_list, lenV_tup, ixV_list, ixV_tup, asInt_int, slV_list, slV_tup, slL_list, revV_tup, revV_list, tupleV_list, listV_list, listV_tup, eqV_str, neV_str, eqV_int, List.set_cons_zero, List.set_cons_succ, List.getElem?_cons_zero, List.getElem?_cons_succ, List.length_cons, List.length_nil, ↓reduceIte, Bool.false_eq_true, Bool.not_true, Bool.not_false, wn_ite, gT2, gT3, neV_tup, eqV_tup, in_tup, notin_tup', lineN_eq, Nat.reduceAdd, Nat.reduceLeDiff, Nat.zero_le, true_and, and_true, List.map_nil, List.map_cons, exists_eq_left', Option.some.injEq, PyData.list.injEq, exists_eq_left, PyData.int.injEq, R.ok.injEq, Sl.own.injEq, ln]
    refine (wn_rng1 (by omega) (by omega)).mpr ?_
    rw [Od.range_up, Int.toNat_natCast]
  · intro x m
    obtain ⟨j, mj, rfl⟩ := List.mem_map.mp m
    obtain ⟨k, hk, rfl⟩ := List.mem_map.mp mj
    refine ⟨_, rfl, wn_ok.mpr ⟨rfl, fun _ => ?_⟩⟩
    show Wn (e2 addV (slE slV (gv 2) p0 (p1 (gv 5))) (slE slV (gv 2) (p1 (e2 addV (gv 5) (k0 (.int 1)))) p0) [.own ⟨false, kx⟩, .m M, .d (tupI s), .d (.int wide), .no, .d (.int (k : Nat)), .no]) _
    simp only [wn_ok, wn_some, wn_only, wn_noex, wn_e2, wn_e1, wn_eN, wn_a0, wn_aC, wn_call, wn_tb, wn_tup, wn_lst, wn_andB, wn_orB, wn_notB, wn_andV, wn_orV, wn_notV, wn_ifV, wn_iA, wn_iR1, wn_iR2, wn_iZ, wn_iEn, wn_iRR, wn_sl, wn_p0, wn_p1, wn_up, wn_upB, wn_upI, wn_x2, wn_x0, wn_xC, wn_xN, wn_xb, wn_xAnd, wn_xOr, wn_xNot, wn_xIf, wn_xCall, wn_xR1, wn_xR2, sn_nx, sn_rt, sn_bk, sn_ct, sn_seq, sn_set, sn_ret, sn_expr, sn_if, sn_for, sn_xSet, sn_xRet, sn_xExpr, sn_xIf, sn_xFor, sn_asg, sn_xAsg, sn_own, sn_xOwn, gv_zero, gv_succ, go_own, go_dat, go_succ, k0_def, gN_def, tru_bool, tru_none, tru_int, tru_list, asSeq_list, asSeq_tup, addV_int, subV_int, ltA_i, leA_i, gtA_i, geA_i, negV_int, intV_int, lenV_list, lenV_tup, ixV_list, ixV_tup, asInt_int, slV_list, slV_tup, slL_list, revV_tup, revV_list, tupleV_list, listV_list, listV_tup, eqV_str, neV_str, eqV_int, List.set_cons_zero, List.set_cons_succ, List.getElem?_cons_zero, List.getElem?_cons_succ, List.length_cons, List.length_nil, ↓reduceIte, Bool.false_eq_true, Bool.not_true, Bool.not_false, wn_ite, gT2, gT3, neV_tup, eqV_tup, in_tup, notin_tup', lineN_eq, Nat.reduceAdd, Nat.reduceLeDiff, Nat.zero_le, true_and, and_true, List.map_nil, List.map_cons, exists_eq_left', Option.some.injEq, PyData.list.injEq, exists_eq_left, PyData.int.injEq, R.ok.injEq, Sl.own.injEq, tupI, cut_take (s.map PyData.int) (k : Int) (by omega), cut_drop (s.map PyData.int) ((k : Int) + 1) (by omega), Int.toNat_natCast, show ((k : Int) + 1).toNat = k + 1 by omega]
    rw [addV_tup (by rw [List.length_take, List.length_drop, List.length_map]; omega)]
    refine wn_some.mpr ?_
    show PyData.tuple _ = PyData.tuple _
    rw [List.map_append, List.map_take, List.map_drop, Int.toNat_natCast]
  · rw [List.length_map, List.length_map, List.length_range, lineN_eq]
    omega
  have ef : ((((Pg.uptoI s.length).map PyData.int).filter fun _ => true).map (cutD s)) = (facesL s).map tupI := by
    unfold facesL
    rw [if_neg (by omega), List.filter_eq_self.mpr fun _ _ => rfl]
    unfold Pg.uptoI
    rw [List.map_map, List.map_map, List.map_map]
    rfl
  rw [ef]
  have fl := Od.facesL_len hs1
  refine wn_comp (xs := (facesL s).map tupI) (fun _ => true) (onRow fun f => .bool (look hs f).isSome) ?_ ?_ ?_ ?_
  · simp only [wn_ok, wn_some, wn_only, wn_noex, wn_e2, wn_e1, wn_eN, wn_a0, wn_aC, wn_call, wn_tb, wn_tup, wn_lst, wn_andB, wn_orB, wn_notB, wn_andV, wn_orV, wn_notV, wn_ifV, wn_iA, wn_iR1, wn_iR2, wn_iZ, wn_iEn, wn_iRR, wn_sl, wn_p0, wn_p1, wn_up, wn_upB, wn_upI, wn_x2, wn_x0, wn_xC, wn_xN, wn_xb, wn_xAnd, wn_xOr, wn_xNot, wn_xIf, wn_xCall, wn_xR1, wn_xR2, sn_nx, sn_rt, sn_bk, sn_ct, sn_seq, sn_set, sn_ret, sn_expr, sn_if, sn_for, sn_xSet, sn_xRet, sn_xExpr, sn_xIf, sn_xFor, sn_asg, sn_xAsg, sn_own, sn_xOwn, gv_zero, gv_succ, go_own, go_dat, go_succ, k0_def, gN_def, tru_bool, tru_none, tru_int, tru_list, asSeq_list, asSeq_tup, addV_int, subV_int, ltA_i, leA_i, gtA_i, geA_i, negV_int, intV_int, lenV_list, lenV_tup, ixV_list, ixV_tup, asInt_int, slV_list, slV_tup, slL_list, revV_tup, revV_list, tupleV_list, listV_list, listV_tup, eqV_str, neV_str, eqV_int, List.set_cons_zero, List.set_cons_succ, List.getElem?_cons_zero, List.getElem?_cons_succ, List.length_cons, List.length_nil, ↓reduceIte, Bool.false_eq_true, Bool.not_true, Bool.not_false, wn_ite, gT2, gT3, neV_tup, eqV_tup, in_tup, notin_tup', lineN_eq, Nat.reduceAdd, Nat.reduceLeDiff, Nat.zero_le, true_and, and_true, List.map_nil, List.map_cons, exists_eq_left', Option.some.injEq, PyData.list.injEq, exists_eq_left, PyData.int.injEq, R.ok.injEq, Sl.own.injEq]
  · intro x m
    obtain ⟨f, mf, rfl⟩ := List.mem_map.mp m
    refine ⟨[.own ⟨false, kx⟩, .m M, .d (tupI s), .d (.int wide), .d (.list ((facesL s).map tupI)), .no, .d (tupI f)], rfl, wn_ok.mpr ⟨rfl, fun _ => ?_⟩⟩
    rw [wn_boV, wn_zhas (ks := M) rfl hI]
    simp only [wn_ok, wn_some, wn_only, wn_noex, wn_e2, wn_e1, wn_eN, wn_a0, wn_aC, wn_call, wn_tb, wn_tup, wn_lst, wn_andB, wn_orB, wn_notB, wn_andV, wn_orV, wn_notV, wn_ifV, wn_iA, wn_iR1, wn_iR2, wn_iZ, wn_iEn, wn_iRR, wn_sl, wn_p0, wn_p1, wn_up, wn_upB, wn_upI, wn_x2, wn_x0, wn_xC, wn_xN, wn_xb, wn_xAnd, wn_xOr, wn_xNot, wn_xIf, wn_xCall, wn_xR1, wn_xR2, sn_nx, sn_rt, sn_bk, sn_ct, sn_seq, sn_set, sn_ret, sn_expr, sn_if, sn_for, sn_xSet, sn_xRet, sn_xExpr, sn_xIf, sn_xFor, sn_asg, sn_xAsg, sn_own, sn_xOwn, gv_zero, gv_succ, go_own, go_dat, go_succ, k0_def, gN_def, tru_bool, tru_none, tru_int, tru_list, asSeq_list, asSeq_tup, addV_int, subV_int, ltA_i, leA_i, gtA_i, geA_i, negV_int, intV_int, lenV_list, lenV_tup, ixV_list, ixV_tup, asInt_int, slV_list, slV_tup, slL_list, revV_tup, revV_list, tupleV_list, listV_list, listV_tup, eqV_str, neV_str, eqV_int, List.set_cons_zero, List.set_cons_succ, List.getElem?_cons_zero, List.getElem?_cons_succ, List.length_cons, List.length_nil, ↓reduceIte, Bool.false_eq_true, Bool.not_true, Bool.not_false, wn_ite, gT2, gT3, neV_tup, eqV_tup, in_tup, notin_tup', lineN_eq, Nat.reduceAdd, Nat.reduceLeDiff, Nat.zero_le, true_and, and_true, List.map_nil, List.map_cons, exists_eq_left', Option.some.injEq, PyData.list.injEq, exists_eq_left, PyData.int.injEq, R.ok.injEq, Sl.own.injEq]
    refine ⟨f, keyD_tup f, ?_⟩
    rw [aM, onRow_tup, Option.isSome_map, beq_true]
  · rw [List.length_map, lineN_eq]
    omega
  rw [onRows]
  have eb : ((facesL s).map fun f => PyData.bool (look hs f).isSome) = ((facesL s).map fun f => (look hs f).isSome).map PyData.bool := by
    rw [List.map_map]
    rfl
  rw [eb]
  simp only [wn_ok, wn_some, wn_only, wn_noex, wn_e2, wn_e1, wn_eN, wn_a0, wn_aC, wn_call, wn_tb, wn_tup, wn_lst, wn_andB, wn_orB, wn_notB, wn_andV, wn_orV, wn_notV, wn_ifV, wn_iA, wn_iR1, wn_iR2, wn_iZ, wn_iEn, wn_iRR, wn_sl, wn_p0, wn_p1, wn_up, wn_upB, wn_upI, wn_x2, wn_x0, wn_xC, wn_xN, wn_xb, wn_xAnd, wn_xOr, wn_xNot, wn_xIf, wn_xCall, wn_xR1, wn_xR2, sn_nx, sn_rt, sn_bk, sn_ct, sn_seq, sn_set, sn_ret, sn_expr, sn_if, sn_for, sn_xSet, sn_xRet, sn_xExpr, sn_xIf, sn_xFor, sn_asg, sn_xAsg, sn_own, sn_xOwn, gv_zero, gv_succ, go_own, go_dat, go_succ, k0_def, gN_def, tru_bool, tru_none, tru_int, tru_list, asSeq_list, asSeq_tup, addV_int, subV_int, ltA_i, leA_i, gtA_i, geA_i, negV_int, intV_int, lenV_list, lenV_tup, ixV_list, ixV_tup, asInt_int, slV_list, slV_tup, slL_list, revV_tup, revV_list, tupleV_list, listV_list, listV_tup, eqV_str, neV_str, eqV_int, List.set_cons_zero, List.set_cons_succ, List.getElem?_cons_zero, List.getElem?_cons_succ, List.length_cons, List.length_nil, ↓reduceIte, Bool.false_eq_true, Bool.not_true, Bool.not_false, wn_ite, gT2, gT3, neV_tup, eqV_tup, in_tup, notin_tup', lineN_eq, Nat.reduceAdd, Nat.reduceLeDiff, Nat.zero_le, true_and, and_true, List.map_nil, List.map_cons, exists_eq_left', Option.some.injEq, PyData.list.injEq, exists_eq_left, PyData.int.injEq, R.ok.injEq, Sl.own.injEq, all_bools]
  cases ca : ((facesL s).map fun f => (look hs f).isSome).all id with
  | false =>
    simp only [Bool.not_false, ↓reduceIte]
    refine ⟨kx, rfl, kn kx hk ?_⟩
    rw [List.all_map, List.all_eq_false] at ca
    obtain ⟨f, mf, nf⟩ := ca
    refine ⟨f, mf, fun m => nf ?_⟩
    show (look hs f).isSome = true
    rw [look_isSome, decide_eq_true m]
  | true =>
    rw [List.all_map, List.all_eq_true] at ca
    have fd : ∀ f ∈ facesL s, ∃ v, look hs f = some v := fun f mf => Option.isSome_iff_exists.mp (ca f mf)
    simp only [Bool.not_true, Bool.false_eq_true, ↓reduceIte]
    refine wn_comp (xs := (facesL s).map tupI) (fun _ => true) (onRow fun f => .int ((look hs f).getD 0)) ?_ ?_ ?_ ?_
    · simp only [wn_ok, wn_some, wn_only, wn_noex, wn_e2, wn_e1, wn_eN, wn_a0, wn_aC, wn_call, wn_tb, wn_tup, wn_lst, wn_andB, wn_orB, wn_notB, wn_andV, wn_orV, wn_notV, wn_ifV, wn_iA, wn_iR1, wn_iR2, wn_iZ, wn_iEn, wn_iRR, wn_sl, wn_p0, wn_p1, wn_up, wn_upB, wn_upI, wn_x2, wn_x0, wn_xC, wn_xN, wn_xb, wn_xAnd, wn_xOr, wn_xNot, wn_xIf, wn_xCall, wn_xR1, wn_xR2, sn_nx, sn_rt, sn_bk, sn_ct, sn_seq, sn_set, sn_ret, sn_expr, sn_if, sn_for, sn_xSet, sn_xRet, sn_xExpr, sn_xIf, sn_xFor, sn_asg, sn_xAsg, sn_own, sn_xOwn, gv_zero, gv_succ, go_own, go_dat, go_succ, k0_def, gN_def, tru_bool, tru_none, tru_int, tru_list, asSeq_list, asSeq_tup, addV_int, subV_int, ltA_i, leA_i, gtA_i, geA_i, negV_int, intV_int, lenV_list, lenV_tup, ixV_list, ixV_tup, asInt_int, slV_list, slV_tup, slL_list, revV_tup, revV_list, tupleV_list, listV_list, listV_tup, eqV_str, neV_str, eqV_int, List.set_cons_zero, List.set_cons_succ, List.getElem?_cons_zero, List.getElem?_cons_succ, List.length_cons, List.length_nil, ↓reduceIte, Bool.false_eq_true, Bool.not_true, Bool.not_false, wn_ite, gT2, gT3, neV_tup, eqV_tup, in_tup, notin_tup', lineN_eq, Nat.reduceAdd, Nat.reduceLeDiff, Nat.zero_le, true_and, and_true, List.map_nil, List.map_cons, exists_eq_left', Option.some.injEq, PyData.list.injEq, exists_eq_left, PyData.int.injEq, R.ok.injEq, Sl.own.injEq]
    · intro x m
      obtain ⟨f, mf, rfl⟩ := List.mem_map.mp m
      refine ⟨[.own ⟨false, kx⟩, .m M, .d (tupI s), .d (.int wide), .d (.list ((facesL s).map tupI)), .no, .d (tupI f)], rfl, wn_ok.mpr ⟨rfl, fun _ => ?_⟩⟩
      obtain ⟨v, ev⟩ := fd f mf
      rw [wn_zget (ks := M) rfl]
      simp only [wn_ok, wn_some, wn_only, wn_noex, wn_e2, wn_e1, wn_eN, wn_a0, wn_aC, wn_call, wn_tb, wn_tup, wn_lst, wn_andB, wn_orB, wn_notB, wn_andV, wn_orV, wn_notV, wn_ifV, wn_iA, wn_iR1, wn_iR2, wn_iZ, wn_iEn, wn_iRR, wn_sl, wn_p0, wn_p1, wn_up, wn_upB, wn_upI, wn_x2, wn_x0, wn_xC, wn_xN, wn_xb, wn_xAnd, wn_xOr, wn_xNot, wn_xIf, wn_xCall, wn_xR1, wn_xR2, sn_nx, sn_rt, sn_bk, sn_ct, sn_seq, sn_set, sn_ret, sn_expr, sn_if, sn_for, sn_xSet, sn_xRet, sn_xExpr, sn_xIf, sn_xFor, sn_asg, sn_xAsg, sn_own, sn_xOwn, gv_zero, gv_succ, go_own, go_dat, go_succ, k0_def, gN_def, tru_bool, tru_none, tru_int, tru_list, asSeq_list, asSeq_tup, addV_int, subV_int, ltA_i, leA_i, gtA_i, geA_i, negV_int, intV_int, lenV_list, lenV_tup, ixV_list, ixV_tup, asInt_int, slV_list, slV_tup, slL_list, revV_tup, revV_list, tupleV_list, listV_list, listV_tup, eqV_str, neV_str, eqV_int, List.set_cons_zero, List.set_cons_succ, List.getElem?_cons_zero, List.getElem?_cons_succ, List.length_cons, List.length_nil, ↓reduceIte, Bool.false_eq_true, Bool.not_true, Bool.not_false, wn_ite, gT2, gT3, neV_tup, eqV_tup, in_tup, notin_tup', lineN_eq, Nat.reduceAdd, Nat.reduceLeDiff, Nat.zero_le, true_and, and_true, List.map_nil, List.map_cons, exists_eq_left', Option.some.injEq, PyData.list.injEq, exists_eq_left, PyData.int.injEq, R.ok.injEq, Sl.own.injEq]
      have : atM M (tupI f) = some (.int v) := by
        show (ints? (f.map PyData.int)).bind (fun l => Bd.atI M l) = _
        rw [ints?_map]
        show Bd.atI M f = _
        rw [aM, ev]
        rfl
      rw [this, onRow_tup, ev]
      exact wn_some.mpr rfl
    · rw [List.length_map, lineN_eq]
      omega
    rw [onRows]
    have ei : ((facesL s).map fun f => PyData.int ((look hs f).getD 0)) = ((facesL s).map fun f => (look hs f).getD 0).map PyData.int := by
      rw [List.map_map]
      rfl
    have lp : 0 < ((facesL s).map fun f => (look hs f).getD 0).length := by
      rw [List.length_map]
      exact facesL_pos hs1 h2
    rw [ei]
    simp only [wn_ok, wn_some, wn_only, wn_noex, wn_e2, wn_e1, wn_eN, wn_a0, wn_aC, wn_call, wn_tb, wn_tup, wn_lst, wn_andB, wn_orB, wn_notB, wn_andV, wn_orV, wn_notV, wn_ifV, wn_iA, wn_iR1, wn_iR2, wn_iZ, wn_iEn, wn_iRR, wn_sl, wn_p0, wn_p1, wn_up, wn_upB, wn_upI, wn_x2, wn_x0, wn_xC, wn_xN, wn_xb, wn_xAnd, wn_xOr, wn_xNot, wn_xIf, wn_xCall, wn_xR1, wn_xR2, sn_nx, sn_rt, sn_bk, sn_ct, sn_seq, sn_set, sn_ret, sn_expr, sn_if, sn_for, sn_xSet, sn_xRet, sn_xExpr, sn_xIf, sn_xFor, sn_asg, sn_xAsg, sn_own, sn_xOwn, gv_zero, gv_succ, go_own, go_dat, go_succ, k0_def, gN_def, tru_bool, tru_none, tru_int, tru_list, asSeq_list, asSeq_tup, addV_int, subV_int, ltA_i, leA_i, gtA_i, geA_i, negV_int, intV_int, lenV_list, lenV_tup, ixV_list, ixV_tup, asInt_int, slV_list, slV_tup, slL_list, revV_tup, revV_list, tupleV_list, listV_list, listV_tup, eqV_str, neV_str, eqV_int, List.set_cons_zero, List.set_cons_succ, List.getElem?_cons_zero, List.getElem?_cons_succ, List.length_cons, List.length_nil, ↓reduceIte, Bool.false_eq_true, Bool.not_true, Bool.not_false, wn_ite, gT2, gT3, neV_tup, eqV_tup, in_tup, notin_tup', lineN_eq, Nat.reduceAdd, Nat.reduceLeDiff, Nat.zero_le, true_and, and_true, List.map_nil, List.map_cons, exists_eq_left', Option.some.injEq, PyData.list.injEq, exists_eq_left, PyData.int.injEq, R.ok.injEq, Sl.own.injEq, maxV_ints lp]
    obtain ⟨mx1, mx2⟩ := maxI_spec lp
    have up : ∀ f ∈ facesL s, ∃ v, look hs f = some v ∧ v ≤ maxI ((facesL s).map fun f => (look hs f).getD 0) := fun f mf => by
      obtain ⟨v, ev⟩ := fd f mf
      refine ⟨v, ev, ?_⟩
      have := mx2 _ (List.mem_map.mpr ⟨f, mf, rfl⟩)
      rw [ev] at this
      exact this
    have dn : ∃ f ∈ facesL s, ∃ v, look hs f = some v ∧ v = maxI ((facesL s).map fun f => (look hs f).getD 0) := by
      obtain ⟨f, mf, e⟩ := List.mem_map.mp mx1
      obtain ⟨v, ev⟩ := fd f mf
      refine ⟨f, mf, v, ev, ?_⟩
      rw [ev] at e
      exact e
    generalize maxI ((facesL s).map fun f => (look hs f).getD 0) = mx at up dn
    refine wn_callK rfl ?_
    simp only [wn_ok, wn_some, wn_only, wn_noex, wn_e2, wn_e1, wn_eN, wn_a0, wn_aC, wn_call, wn_tb, wn_tup, wn_lst, wn_andB, wn_orB, wn_notB, wn_andV, wn_orV, wn_notV, wn_ifV, wn_iA, wn_iR1, wn_iR2, wn_iZ, wn_iEn, wn_iRR, wn_sl, wn_p0, wn_p1, wn_up, wn_upB, wn_upI, wn_x2, wn_x0, wn_xC, wn_xN, wn_xb, wn_xAnd, wn_xOr, wn_xNot, wn_xIf, wn_xCall, wn_xR1, wn_xR2, sn_nx, sn_rt, sn_bk, sn_ct, sn_seq, sn_set, sn_ret, sn_expr, sn_if, sn_for, sn_xSet, sn_xRet, sn_xExpr, sn_xIf, sn_xFor, sn_asg, sn_xAsg, sn_own, sn_xOwn, gv_zero, gv_succ, go_own, go_dat, go_succ, k0_def, gN_def, tru_bool, tru_none, tru_int, tru_list, asSeq_list, asSeq_tup, addV_int, subV_int, ltA_i, leA_i, gtA_i, geA_i, negV_int, intV_int, lenV_list, lenV_tup, ixV_list, ixV_tup, asInt_int, slV_list, slV_tup, slL_list, revV_tup, revV_list, tupleV_list, listV_list, listV_tup, eqV_str, neV_str, eqV_int, List.set_cons_zero, List.set_cons_succ, List.getElem?_cons_zero, List.getElem?_cons_succ, List.length_cons, List.length_nil, ↓reduceIte, Bool.false_eq_true, Bool.not_true, Bool.not_false, wn_ite, gT2, gT3, neV_tup, eqV_tup, in_tup, notin_tup', lineN_eq, Nat.reduceAdd, Nat.reduceLeDiff, Nat.zero_le, true_and, and_true, List.map_nil, List.map_cons, exists_eq_left', Option.some.injEq, PyData.list.injEq, exists_eq_left, PyData.int.injEq, R.ok.injEq, Sl.own.injEq]
    refine wn_draw hk (by omega) fun j kx2 hk2 j0 j1 => ?_
    simp only [wn_ok, wn_some, wn_only, wn_noex, wn_e2, wn_e1, wn_eN, wn_a0, wn_aC, wn_call, wn_tb, wn_tup, wn_lst, wn_andB, wn_orB, wn_notB, wn_andV, wn_orV, wn_notV, wn_ifV, wn_iA, wn_iR1, wn_iR2, wn_iZ, wn_iEn, wn_iRR, wn_sl, wn_p0, wn_p1, wn_up, wn_upB, wn_upI, wn_x2, wn_x0, wn_xC, wn_xN, wn_xb, wn_xAnd, wn_xOr, wn_xNot, wn_xIf, wn_xCall, wn_xR1, wn_xR2, sn_nx, sn_rt, sn_bk, sn_ct, sn_seq, sn_set, sn_ret, sn_expr, sn_if, sn_for, sn_xSet, sn_xRet, sn_xExpr, sn_xIf, sn_xFor, sn_asg, sn_xAsg, sn_own, sn_xOwn, gv_zero, gv_succ, go_own, go_dat, go_succ, k0_def, gN_def, tru_bool, tru_none, tru_int, tru_list, asSeq_list, asSeq_tup, addV_int, subV_int, ltA_i, leA_i, gtA_i, geA_i, negV_int, intV_int, lenV_list, lenV_tup, ixV_list, ixV_tup, asInt_int, slV_list, slV_tup, slL_list, revV_tup, revV_list, tupleV_list, listV_list, listV_tup, eqV_str, neV_str, eqV_int, List.set_cons_zero, List.set_cons_succ, List.getElem?_cons_zero, List.getElem?_cons_succ, List.length_cons, List.length_nil, ↓reduceIte, Bool.false_eq_true, Bool.not_true, Bool.not_false, wn_ite, gT2, gT3, neV_tup, eqV_tup, in_tup, notin_tup', lineN_eq, Nat.reduceAdd, Nat.reduceLeDiff, Nat.zero_le, true_and, and_true, List.map_nil, List.map_cons, exists_eq_left', Option.some.injEq, PyData.list.injEq, exists_eq_left, PyData.int.injEq, R.ok.injEq, Sl.own.injEq]
    refine wn_drw (b := 2) rfl hk2 (by decide) fun i kx3 hk3 i0 i1 => ?_
    have ai : atD [PyData.int 0, PyData.int j] i = some (.int (if i = 0 then 0 else j)) := by
      by_cases c : i = 0
      · subst c
        rfl
      · have : i = 1 := by omega
        subst this
        rfl
    simp only [wn_ok, wn_some, wn_only, wn_noex, wn_e2, wn_e1, wn_eN, wn_a0, wn_aC, wn_call, wn_tb, wn_tup, wn_lst, wn_andB, wn_orB, wn_notB, wn_andV, wn_orV, wn_notV, wn_ifV, wn_iA, wn_iR1, wn_iR2, wn_iZ, wn_iEn, wn_iRR, wn_sl, wn_p0, wn_p1, wn_up, wn_upB, wn_upI, wn_x2, wn_x0, wn_xC, wn_xN, wn_xb, wn_xAnd, wn_xOr, wn_xNot, wn_xIf, wn_xCall, wn_xR1, wn_xR2, sn_nx, sn_rt, sn_bk, sn_ct, sn_seq, sn_set, sn_ret, sn_expr, sn_if, sn_for, sn_xSet, sn_xRet, sn_xExpr, sn_xIf, sn_xFor, sn_asg, sn_xAsg, sn_own, sn_xOwn, gv_zero, gv_succ, go_own, go_dat, go_succ, k0_def, gN_def, tru_bool, tru_none, tru_int, tru_list, asSeq_list, asSeq_tup, addV_int, subV_int, ltA_i, leA_i, gtA_i, geA_i, negV_int, intV_int, lenV_list, lenV_tup, ixV_list, ixV_tup, asInt_int, slV_list, slV_tup, slL_list, revV_tup, revV_list, tupleV_list, listV_list, listV_tup, eqV_str, neV_str, eqV_int, List.set_cons_zero, List.set_cons_succ, List.getElem?_cons_zero, List.getElem?_cons_succ, List.length_cons, List.length_nil, ↓reduceIte, Bool.false_eq_true, Bool.not_true, Bool.not_false, wn_ite, gT2, gT3, neV_tup, eqV_tup, in_tup, notin_tup', lineN_eq, Nat.reduceAdd, Nat.reduceLeDiff, Nat.zero_le, true_and, and_true, List.map_nil, List.map_cons, exists_eq_left', Option.some.injEq, PyData.list.injEq, exists_eq_left, PyData.int.injEq, R.ok.injEq, Sl.own.injEq, ai]
    refine ⟨kx3, rfl, k _ kx3 hk3 (fun f mf => ?_) ?_⟩
    · obtain ⟨v, ev, lv⟩ := up f mf
      refine ⟨v, ev, ?_⟩
      split <;> omega
    · obtain ⟨f, mf, v, ev, e⟩ := dn
      refine ⟨f, mf, v, ev, ?_⟩
      split <;> omega
end Sh
end Bd
/-! Q35: shapes, drawn. -/
namespace Bd
open PySem L2
namespace Sh
def edgeR (e : Int × Int) : Row := [e.1, e.2]
/-- the edges of a few -/
def edgesOf (names : Row) (done : Row) : List (Int × Int) := done.flatMap fun a => (names.filter fun b => decide (a < b)).map fun b => (a, b)
theorem mem_edgesOf {names done : Row} {e : Int × Int} (m : e ∈ edgesOf names done) : e.1 ∈ done ∧ e.2 ∈ names ∧ e.1 < e.2 := by
  obtain ⟨a, ma, m⟩ := List.mem_flatMap.mp m
  obtain ⟨b, mb, rfl⟩ := List.mem_map.mp m
  obtain ⟨h1, h2⟩ := List.mem_filter.mp mb
  exact ⟨ma, h1, of_decide_eq_true h2⟩
theorem edges_len {names : Row} (hl : names.length ≤ 5) : ∀ done : Row, (edgesOf names done).length ≤ 5 * done.length
  | [] => Nat.zero_le _
  | a :: done => by
    have ih := edges_len hl done
    have e : edgesOf names (a :: done) = ((names.filter fun b => decide (a < b)).map fun b => (a, b)) ++ edgesOf names done := rfl
    rw [e, List.length_append, List.length_map, List.length_cons]
    have := List.length_filter_le (fun b => decide (a < b)) names
    omega
theorem in2 {names : Row} {a b : Int} (ha : a ∈ names) (hb : b ∈ names) (h : a < b) : InU names [a, b] := ⟨List.pairwise_cons.mpr ⟨fun y m => by rw [List.mem_singleton.mp m]; exact h, List.pairwise_singleton _ _⟩, fun x m => by
  rcases List.mem_cons.mp m with rfl | m
  · exact ha
  · rw [List.mem_singleton.mp m]; exact hb⟩
theorem in3 {names : Row} {a b c : Int} (ha : a ∈ names) (hb : b ∈ names) (hc : c ∈ names) (h : a < b) (h' : b < c) : InU names [a, b, c] := by
  refine ⟨List.pairwise_cons.mpr ⟨fun y m => ?_, (in2 hb hc h').asc⟩, fun x m => ?_⟩
  · rcases List.mem_cons.mp m with rfl | m
    · exact h
    · rw [List.mem_singleton.mp m]; omega
  · rcases List.mem_cons.mp m with rfl | m
    · exact ha
    · exact (in2 hb hc h').sub x m
theorem Gro.verts {names : Row} {m : Nat} {hs : List Ih} (hn : InU (Pg.uptoI 12) names) (hm : m ≤ 3) (g : Gro names m hs) {s : Row} (h : ∀ f ∈ facesL s, f ∈ hs.map (·.1)) {n : Int} (w : ∃ f ∈ facesL s, ∃ v, look hs f = some v ∧ n < v + 30) (hl : 2 ≤ s.length ∧ Smp s) (up : ∀ f ∈ facesL s, ∃ v, look hs f = some v ∧ v ≤ n) : -30 < n ∧ n < 30 * (s.length : Int) := by
  obtain ⟨f, mf, v, ev, lt⟩ := w
  obtain ⟨v2, ev2, le⟩ := up f mf
  rw [ev] at ev2
  cases ev2
  obtain ⟨b1, b2⟩ := g.bd _ (look_mem ev)
  have sh := facesL_short hl.2 mf
  have b2 : v < 30 * (f.length : Int) := b2
  have b1 : -30 < v := b1
  omega
theorem zs_len (hs : List Ih) : (zsD hs).length = hs.length := List.length_map ..
def liD (a : Int) : D → Bool
  | .int b => decide (a < b)
  | _ => false
def paD (a : Int) : D → D
  | .int b => .tuple [.int a, .int b]
  | _ => .none
/-- a name's slot that holds data or nothing -/
@[reducible] def od : Option D → Sl
  | none => .no
  | some d => .d d
/-- what stays as it is in the drawing of a shape -/
abbrev frm (kx : List D) (names : Row) (wide far : Int) (hs : List Ih) (s6 s7 s8 s9 s10 s11 s12 s13 s14 : Sl) : Nv :=
  [.own ⟨false, kx⟩, .d (.int 5), .d (.list (names.map PyData.int)), .d (.int wide), .d (.int far), .dk (.tup (zsD hs)), s6, s7, s8, s9, s10, s11, s12, s13, s14]
theorem shape_w {kx : List D} {QK : D × List D → Prop} (hk : Dk.Deck kx) (k : ∀ (it : List Ih) kx', Dk.Deck kx' → Shp it → it.length ≤ 32 → QK (.list (it.map itD), kx')) : Wn (F__law_shape kx [.int 5]) QK := by
  refine wn_runK ?_
  show Sn (G__law_shape [.own ⟨false, kx⟩, .d (.int 5), .no, .no, .no, .no, .no, .no, .no, .no, .no, .no, .no, .no, .no]) _ _ _ _
  unfold G__law_shape
  simp only [wn_ok, wn_some, wn_only, wn_noex, wn_e2, wn_e1, wn_eN, wn_a0, wn_aC, wn_call, wn_tb, wn_tup, wn_lst, wn_andB, wn_orB, wn_notB, wn_andV, wn_orV, wn_notV, wn_ifV, wn_iA, wn_iR1, wn_iR2, wn_iZ, wn_iEn, wn_iRR, wn_sl, wn_p0, wn_p1, wn_up, wn_upB, wn_upI, wn_x2, wn_x0, wn_xC, wn_xN, wn_xb, wn_xAnd, wn_xOr, wn_xNot, wn_xIf, wn_xCall, wn_xR1, wn_xR2, sn_nx, sn_rt, sn_bk, sn_ct, sn_seq, sn_set, sn_ret, sn_expr, sn_if, sn_for, sn_xSet, sn_xRet, sn_xExpr, sn_xIf, sn_xFor, sn_asg, sn_xAsg, sn_own, sn_xOwn, gv_zero, gv_succ, go_own, go_dat, go_succ, k0_def, gN_def, tru_bool, tru_none, tru_int, tru_list, asSeq_list, asSeq_tup, addV_int, subV_int, ltA_i, leA_i, gtA_i, geA_i, negV_int, intV_int, lenV_list, lenV_tup, ixV_list, ixV_tup, asInt_int, slV_list, slV_tup, slL_list, revV_tup, revV_list, tupleV_list, listV_list, listV_tup, eqV_str, neV_str, eqV_int, List.set_cons_zero, List.set_cons_succ, List.getElem?_cons_zero, List.getElem?_cons_succ, List.length_cons, List.length_nil, ↓reduceIte, Bool.false_eq_true, Bool.not_true, Bool.not_false, wn_ite, gT2, gT3, neV_tup, eqV_tup, in_tup, notin_tup', lineN_eq, Nat.reduceAdd, Nat.reduceLeDiff, Nat.zero_le, true_and, and_true, List.map_nil, List.map_cons, exists_eq_left', Option.some.injEq, PyData.list.injEq, exists_eq_left, PyData.int.injEq, R.ok.injEq, Sl.own.injEq]
  refine wn_drw (b := 12) rfl hk (by decide) fun i kx1 hk1 i0 i1 => ?_
  simp only [wn_ok, wn_some, wn_only, wn_noex, wn_e2, wn_e1, wn_eN, wn_a0, wn_aC, wn_call, wn_tb, wn_tup, wn_lst, wn_andB, wn_orB, wn_notB, wn_andV, wn_orV, wn_notV, wn_ifV, wn_iA, wn_iR1, wn_iR2, wn_iZ, wn_iEn, wn_iRR, wn_sl, wn_p0, wn_p1, wn_up, wn_upB, wn_upI, wn_x2, wn_x0, wn_xC, wn_xN, wn_xb, wn_xAnd, wn_xOr, wn_xNot, wn_xIf, wn_xCall, wn_xR1, wn_xR2, sn_nx, sn_rt, sn_bk, sn_ct, sn_seq, sn_set, sn_ret, sn_expr, sn_if, sn_for, sn_xSet, sn_xRet, sn_xExpr, sn_xIf, sn_xFor, sn_asg, sn_xAsg, sn_own, sn_xOwn, gv_zero, gv_succ, go_own, go_dat, go_succ, k0_def, gN_def, tru_bool, tru_none, tru_int, tru_list, asSeq_list, asSeq_tup, addV_int, subV_int, ltA_i, leA_i, gtA_i, geA_i, negV_int, intV_int, lenV_list, lenV_tup, ixV_list, ixV_tup, asInt_int, slV_list, slV_tup, slL_list, revV_tup, revV_list, tupleV_list, listV_list, listV_tup, eqV_str, neV_str, eqV_int, List.set_cons_zero, List.set_cons_succ, List.getElem?_cons_zero, List.getElem?_cons_succ, List.length_cons, List.length_nil, ↓reduceIte, Bool.false_eq_true, Bool.not_true, Bool.not_false, wn_ite, gT2, gT3, neV_tup, eqV_tup, in_tup, notin_tup', lineN_eq, Nat.reduceAdd, Nat.reduceLeDiff, Nat.zero_le, true_and, and_true, List.map_nil, List.map_cons, exists_eq_left', Option.some.injEq, PyData.list.injEq, exists_eq_left, PyData.int.injEq, R.ok.injEq, Sl.own.injEq]
  cases hb : (i == 0) with
  | true =>
    simp only [↓reduceIte]
    exact ⟨kx1, rfl, k [] kx1 hk1 Shp.nil (by decide)⟩
  | false =>
    simp only [Bool.false_eq_true, ↓reduceIte]
    refine wn_callK rfl ?_
    simp only [wn_ok, wn_some, wn_only, wn_noex, wn_e2, wn_e1, wn_eN, wn_a0, wn_aC, wn_call, wn_tb, wn_tup, wn_lst, wn_andB, wn_orB, wn_notB, wn_andV, wn_orV, wn_notV, wn_ifV, wn_iA, wn_iR1, wn_iR2, wn_iZ, wn_iEn, wn_iRR, wn_sl, wn_p0, wn_p1, wn_up, wn_upB, wn_upI, wn_x2, wn_x0, wn_xC, wn_xN, wn_xb, wn_xAnd, wn_xOr, wn_xNot, wn_xIf, wn_xCall, wn_xR1, wn_xR2, sn_nx, sn_rt, sn_bk, sn_ct, sn_seq, sn_set, sn_ret, sn_expr, sn_if, sn_for, sn_xSet, sn_xRet, sn_xExpr, sn_xIf, sn_xFor, sn_asg, sn_xAsg, sn_own, sn_xOwn, gv_zero, gv_succ, go_own, go_dat, go_succ, k0_def, gN_def, tru_bool, tru_none, tru_int, tru_list, asSeq_list, asSeq_tup, addV_int, subV_int, ltA_i, leA_i, gtA_i, geA_i, negV_int, intV_int, lenV_list, lenV_tup, ixV_list, ixV_tup, asInt_int, slV_list, slV_tup, slL_list, revV_tup, revV_list, tupleV_list, listV_list, listV_tup, eqV_str, neV_str, eqV_int, List.set_cons_zero, List.set_cons_succ, List.getElem?_cons_zero, List.getElem?_cons_succ, List.length_cons, List.length_nil, ↓reduceIte, Bool.false_eq_true, Bool.not_true, Bool.not_false, wn_ite, gT2, gT3, neV_tup, eqV_tup, in_tup, notin_tup', lineN_eq, Nat.reduceAdd, Nat.reduceLeDiff, Nat.zero_le, true_and, and_true, List.map_nil, List.map_cons, exists_eq_left', Option.some.injEq, PyData.list.injEq, exists_eq_left, PyData.int.injEq, R.ok.injEq, Sl.own.injEq]
    refine wn_callK rfl ?_
    simp only [wn_ok, wn_some, wn_only, wn_noex, wn_e2, wn_e1, wn_eN, wn_a0, wn_aC, wn_call, wn_tb, wn_tup, wn_lst, wn_andB, wn_orB, wn_notB, wn_andV, wn_orV, wn_notV, wn_ifV, wn_iA, wn_iR1, wn_iR2, wn_iZ, wn_iEn, wn_iRR, wn_sl, wn_p0, wn_p1, wn_up, wn_upB, wn_upI, wn_x2, wn_x0, wn_xC, wn_xN, wn_xb, wn_xAnd, wn_xOr, wn_xNot, wn_xIf, wn_xCall, wn_xR1, wn_xR2, sn_nx, sn_rt, sn_bk, sn_ct, sn_seq, sn_set, sn_ret, sn_expr, sn_if, sn_for, sn_xSet, sn_xRet, sn_xExpr, sn_xIf, sn_xFor, sn_asg, sn_xAsg, sn_own, sn_xOwn, gv_zero, gv_succ, go_own, go_dat, go_succ, k0_def, gN_def, tru_bool, tru_none, tru_int, tru_list, asSeq_list, asSeq_tup, addV_int, subV_int, ltA_i, leA_i, gtA_i, geA_i, negV_int, intV_int, lenV_list, lenV_tup, ixV_list, ixV_tup, asInt_int, slV_list, slV_tup, slL_list, revV_tup, revV_list, tupleV_list, listV_list, listV_tup, eqV_str, neV_str, eqV_int, List.set_cons_zero, List.set_cons_succ, List.getElem?_cons_zero, List.getElem?_cons_succ, List.length_cons, List.length_nil, ↓reduceIte, Bool.false_eq_true, Bool.not_true, Bool.not_false, wn_ite, gT2, gT3, neV_tup, eqV_tup, in_tup, notin_tup', lineN_eq, Nat.reduceAdd, Nat.reduceLeDiff, Nat.zero_le, true_and, and_true, List.map_nil, List.map_cons, exists_eq_left', Option.some.injEq, PyData.list.injEq, exists_eq_left, PyData.int.injEq, R.ok.injEq, Sl.own.injEq]
    refine wn_draw hk1 (by decide) fun c kx2 hk2 c0 c1 => ?_
    simp only [wn_ok, wn_some, wn_only, wn_noex, wn_e2, wn_e1, wn_eN, wn_a0, wn_aC, wn_call, wn_tb, wn_tup, wn_lst, wn_andB, wn_orB, wn_notB, wn_andV, wn_orV, wn_notV, wn_ifV, wn_iA, wn_iR1, wn_iR2, wn_iZ, wn_iEn, wn_iRR, wn_sl, wn_p0, wn_p1, wn_up, wn_upB, wn_upI, wn_x2, wn_x0, wn_xC, wn_xN, wn_xb, wn_xAnd, wn_xOr, wn_xNot, wn_xIf, wn_xCall, wn_xR1, wn_xR2, sn_nx, sn_rt, sn_bk, sn_ct, sn_seq, sn_set, sn_ret, sn_expr, sn_if, sn_for, sn_xSet, sn_xRet, sn_xExpr, sn_xIf, sn_xFor, sn_asg, sn_xAsg, sn_own, sn_xOwn, gv_zero, gv_succ, go_own, go_dat, go_succ, k0_def, gN_def, tru_bool, tru_none, tru_int, tru_list, asSeq_list, asSeq_tup, addV_int, subV_int, ltA_i, leA_i, gtA_i, geA_i, negV_int, intV_int, lenV_list, lenV_tup, ixV_list, ixV_tup, asInt_int, slV_list, slV_tup, slL_list, revV_tup, revV_list, tupleV_list, listV_list, listV_tup, eqV_str, neV_str, eqV_int, List.set_cons_zero, List.set_cons_succ, List.getElem?_cons_zero, List.getElem?_cons_succ, List.length_cons, List.length_nil, ↓reduceIte, Bool.false_eq_true, Bool.not_true, Bool.not_false, wn_ite, gT2, gT3, neV_tup, eqV_tup, in_tup, notin_tup', lineN_eq, Nat.reduceAdd, Nat.reduceLeDiff, Nat.zero_le, true_and, and_true, List.map_nil, List.map_cons, exists_eq_left', Option.some.injEq, PyData.list.injEq, exists_eq_left, PyData.int.injEq, R.ok.injEq, Sl.own.injEq]
    refine names_w hk2 (by omega) (by omega) fun names kx3 hk3 hn ln => ?_
    simp only [wn_ok, wn_some, wn_only, wn_noex, wn_e2, wn_e1, wn_eN, wn_a0, wn_aC, wn_call, wn_tb, wn_tup, wn_lst, wn_andB, wn_orB, wn_notB, wn_andV, wn_orV, wn_notV, wn_ifV, wn_iA, wn_iR1, wn_iR2, wn_iZ, wn_iEn, wn_iRR, wn_sl, wn_p0, wn_p1, wn_up, wn_upB, wn_upI, wn_x2, wn_x0, wn_xC, wn_xN, wn_xb, wn_xAnd, wn_xOr, wn_xNot, wn_xIf, wn_xCall, wn_xR1, wn_xR2, sn_nx, sn_rt, sn_bk, sn_ct, sn_seq, sn_set, sn_ret, sn_expr, sn_if, sn_for, sn_xSet, sn_xRet, sn_xExpr, sn_xIf, sn_xFor, sn_asg, sn_xAsg, sn_own, sn_xOwn, gv_zero, gv_succ, go_own, go_dat, go_succ, k0_def, gN_def, tru_bool, tru_none, tru_int, tru_list, asSeq_list, asSeq_tup, addV_int, subV_int, ltA_i, leA_i, gtA_i, geA_i, negV_int, intV_int, lenV_list, lenV_tup, ixV_list, ixV_tup, asInt_int, slV_list, slV_tup, slL_list, revV_tup, revV_list, tupleV_list, listV_list, listV_tup, eqV_str, neV_str, eqV_int, List.set_cons_zero, List.set_cons_succ, List.getElem?_cons_zero, List.getElem?_cons_succ, List.length_cons, List.length_nil, ↓reduceIte, Bool.false_eq_true, Bool.not_true, Bool.not_false, wn_ite, gT2, gT3, neV_tup, eqV_tup, in_tup, notin_tup', lineN_eq, Nat.reduceAdd, Nat.reduceLeDiff, Nat.zero_le, true_and, and_true, List.map_nil, List.map_cons, exists_eq_left', Option.some.injEq, PyData.list.injEq, exists_eq_left, PyData.int.injEq, R.ok.injEq, Sl.own.injEq]
    have nl : names.length ≤ 5 := by omega
    refine wn_drw (b := 3) rfl hk3 (by decide) fun j kx4 hk4 j0 j1 => ?_
    obtain ⟨wide, aw, w0, w1⟩ : ∃ wide, atD [PyData.int 2, PyData.int 6, PyData.int 30] j = some (.int wide) ∧ 1 ≤ wide ∧ wide ≤ 30 := by
      have : j = 0 ∨ j = 1 ∨ j = 2 := by omega
      rcases this with rfl | rfl | rfl
      · exact ⟨2, rfl, by decide, by decide⟩
      · exact ⟨6, rfl, by decide, by decide⟩
      · exact ⟨30, rfl, by decide, by decide⟩
    simp only [wn_ok, wn_some, wn_only, wn_noex, wn_e2, wn_e1, wn_eN, wn_a0, wn_aC, wn_call, wn_tb, wn_tup, wn_lst, wn_andB, wn_orB, wn_notB, wn_andV, wn_orV, wn_notV, wn_ifV, wn_iA, wn_iR1, wn_iR2, wn_iZ, wn_iEn, wn_iRR, wn_sl, wn_p0, wn_p1, wn_up, wn_upB, wn_upI, wn_x2, wn_x0, wn_xC, wn_xN, wn_xb, wn_xAnd, wn_xOr, wn_xNot, wn_xIf, wn_xCall, wn_xR1, wn_xR2, sn_nx, sn_rt, sn_bk, sn_ct, sn_seq, sn_set, sn_ret, sn_expr, sn_if, sn_for, sn_xSet, sn_xRet, sn_xExpr, sn_xIf, sn_xFor, sn_asg, sn_xAsg, sn_own, sn_xOwn, gv_zero, gv_succ, go_own, go_dat, go_succ, k0_def, gN_def, tru_bool, tru_none, tru_int, tru_list, asSeq_list, asSeq_tup, addV_int, subV_int, ltA_i, leA_i, gtA_i, geA_i, negV_int, intV_int, lenV_list, lenV_tup, ixV_list, ixV_tup, asInt_int, slV_list, slV_tup, slL_list, revV_tup, revV_list, tupleV_list, listV_list, listV_tup, eqV_str, neV_str, eqV_int, List.set_cons_zero, List.set_cons_succ, List.getElem?_cons_zero, List.getElem?_cons_succ, List.length_cons, List.length_nil, ↓reduceIte, Bool.false_eq_true, Bool.not_true, Bool.not_false, wn_ite, gT2, gT3, neV_tup, eqV_tup, in_tup, notin_tup', lineN_eq, Nat.reduceAdd, Nat.reduceLeDiff, Nat.zero_le, true_and, and_true, List.map_nil, List.map_cons, exists_eq_left', Option.some.injEq, PyData.list.injEq, exists_eq_left, PyData.int.injEq, R.ok.injEq, Sl.own.injEq, aw]
    refine wn_drw (b := 3) rfl hk4 (by decide) fun q kx5 hk5 q0 q1 => ?_
    obtain ⟨far, af, f0, f1⟩ : ∃ far, atD [PyData.int 1, PyData.int 1, PyData.int 9] q = some (.int far) ∧ 1 ≤ far ∧ far ≤ 9 := by
      have : q = 0 ∨ q = 1 ∨ q = 2 := by omega
      rcases this with rfl | rfl | rfl
      · exact ⟨1, rfl, by decide, by decide⟩
      · exact ⟨1, rfl, by decide, by decide⟩
      · exact ⟨9, rfl, by decide, by decide⟩
    simp only [wn_ok, wn_some, wn_only, wn_noex, wn_e2, wn_e1, wn_eN, wn_a0, wn_aC, wn_call, wn_tb, wn_tup, wn_lst, wn_andB, wn_orB, wn_notB, wn_andV, wn_orV, wn_notV, wn_ifV, wn_iA, wn_iR1, wn_iR2, wn_iZ, wn_iEn, wn_iRR, wn_sl, wn_p0, wn_p1, wn_up, wn_upB, wn_upI, wn_x2, wn_x0, wn_xC, wn_xN, wn_xb, wn_xAnd, wn_xOr, wn_xNot, wn_xIf, wn_xCall, wn_xR1, wn_xR2, sn_nx, sn_rt, sn_bk, sn_ct, sn_seq, sn_set, sn_ret, sn_expr, sn_if, sn_for, sn_xSet, sn_xRet, sn_xExpr, sn_xIf, sn_xFor, sn_asg, sn_xAsg, sn_own, sn_xOwn, gv_zero, gv_succ, go_own, go_dat, go_succ, k0_def, gN_def, tru_bool, tru_none, tru_int, tru_list, asSeq_list, asSeq_tup, addV_int, subV_int, ltA_i, leA_i, gtA_i, geA_i, negV_int, intV_int, lenV_list, lenV_tup, ixV_list, ixV_tup, asInt_int, slV_list, slV_tup, slL_list, revV_tup, revV_list, tupleV_list, listV_list, listV_tup, eqV_str, neV_str, eqV_int, List.set_cons_zero, List.set_cons_succ, List.getElem?_cons_zero, List.getElem?_cons_succ, List.length_cons, List.length_nil, ↓reduceIte, Bool.false_eq_true, Bool.not_true, Bool.not_false, wn_ite, gT2, gT3, neV_tup, eqV_tup, in_tup, notin_tup', lineN_eq, Nat.reduceAdd, Nat.reduceLeDiff, Nat.zero_le, true_and, and_true, List.map_nil, List.map_cons, exists_eq_left', Option.some.injEq, PyData.list.injEq, exists_eq_left, PyData.int.injEq, R.ok.injEq, Sl.own.injEq, af, sn_newZ]
    -- the vertices
    refine sn_loop (fun rest η => ∃ (l : Row) (hs : List Ih) (kx' : List D) (s6 : Option D), Dk.Deck kx' ∧ rest = l.map PyData.int ∧ (∀ x ∈ l, x ∈ names) ∧ Gro names 1 hs ∧ (∀ a ∈ names, a ∈ l ∨ [a] ∈ hs.map (·.1)) ∧
        η = frm kx' names wide far hs (od s6) .no .no .no .no .no .no .no .no) ?_ ?_ _ _ ⟨names, [], kx5, none, hk5, rfl, fun _ m => m, Gro.nil, fun a m => .inl m, rfl⟩
    · rintro x rest η ⟨l, hs, kx', s6, hk', e1, hl, g, hv, rfl⟩
      cases l with
      | nil => cases e1
      | cons a l =>
        rw [List.map_cons] at e1
        obtain ⟨rfl, rfl⟩ := List.cons.inj e1
        have ma := hl a List.mem_cons_self
        have lh := g.len hn.asc nl
        refine ⟨_, rfl, ?_⟩
        simp only [wn_ok, wn_some, wn_only, wn_noex, wn_e2, wn_e1, wn_eN, wn_a0, wn_aC, wn_call, wn_tb, wn_tup, wn_lst, wn_andB, wn_orB, wn_notB, wn_andV, wn_orV, wn_notV, wn_ifV, wn_iA, wn_iR1, wn_iR2, wn_iZ, wn_iEn, wn_iRR, wn_sl, wn_p0, wn_p1, wn_up, wn_upB, wn_upI, wn_x2, wn_x0, wn_xC, wn_xN, wn_xb, wn_xAnd, wn_xOr, wn_xNot, wn_xIf, wn_xCall, wn_xR1, wn_xR2, sn_nx, sn_rt, sn_bk, sn_ct, sn_seq, sn_set, sn_ret, sn_expr, sn_if, sn_for, sn_xSet, sn_xRet, sn_xExpr, sn_xIf, sn_xFor, sn_asg, sn_xAsg, sn_own, sn_xOwn, gv_zero, gv_succ, go_own, go_dat, go_succ, k0_def, gN_def, tru_bool, tru_none, tru_int, tru_list, asSeq_list, asSeq_tup, addV_int, subV_int, ltA_i, leA_i, gtA_i, geA_i, negV_int, intV_int, lenV_list, lenV_tup, ixV_list, ixV_tup, asInt_int, slV_list, slV_tup, slL_list, revV_tup, revV_list, tupleV_list, listV_list, listV_tup, eqV_str, neV_str, eqV_int, List.set_cons_zero, List.set_cons_succ, List.getElem?_cons_zero, List.getElem?_cons_succ, List.length_cons, List.length_nil, ↓reduceIte, Bool.false_eq_true, Bool.not_true, Bool.not_false, wn_ite, gT2, gT3, neV_tup, eqV_tup, in_tup, notin_tup', lineN_eq, Nat.reduceAdd, Nat.reduceLeDiff, Nat.zero_le, true_and, and_true, List.map_nil, List.map_cons, exists_eq_left', Option.some.injEq, PyData.list.injEq, exists_eq_left, PyData.int.injEq, R.ok.injEq, Sl.own.injEq]
        refine sn_zput ?_
        simp only [wn_ok, wn_some, wn_only, wn_noex, wn_e2, wn_e1, wn_eN, wn_a0, wn_aC, wn_call, wn_tb, wn_tup, wn_lst, wn_andB, wn_orB, wn_notB, wn_andV, wn_orV, wn_notV, wn_ifV, wn_iA, wn_iR1, wn_iR2, wn_iZ, wn_iEn, wn_iRR, wn_sl, wn_p0, wn_p1, wn_up, wn_upB, wn_upI, wn_x2, wn_x0, wn_xC, wn_xN, wn_xb, wn_xAnd, wn_xOr, wn_xNot, wn_xIf, wn_xCall, wn_xR1, wn_xR2, sn_nx, sn_rt, sn_bk, sn_ct, sn_seq, sn_set, sn_ret, sn_expr, sn_if, sn_for, sn_xSet, sn_xRet, sn_xExpr, sn_xIf, sn_xFor, sn_asg, sn_xAsg, sn_own, sn_xOwn, gv_zero, gv_succ, go_own, go_dat, go_succ, k0_def, gN_def, tru_bool, tru_none, tru_int, tru_list, asSeq_list, asSeq_tup, addV_int, subV_int, ltA_i, leA_i, gtA_i, geA_i, negV_int, intV_int, lenV_list, lenV_tup, ixV_list, ixV_tup, asInt_int, slV_list, slV_tup, slL_list, revV_tup, revV_list, tupleV_list, listV_list, listV_tup, eqV_str, neV_str, eqV_int, List.set_cons_zero, List.set_cons_succ, List.getElem?_cons_zero, List.getElem?_cons_succ, List.length_cons, List.length_nil, ↓reduceIte, Bool.false_eq_true, Bool.not_true, Bool.not_false, wn_ite, gT2, gT3, neV_tup, eqV_tup, in_tup, notin_tup', lineN_eq, Nat.reduceAdd, Nat.reduceLeDiff, Nat.zero_le, true_and, and_true, List.map_nil, List.map_cons, exists_eq_left', Option.some.injEq, PyData.list.injEq, exists_eq_left, PyData.int.injEq, R.ok.injEq, Sl.own.injEq]
        refine wn_callK rfl ?_
        simp only [wn_ok, wn_some, wn_only, wn_noex, wn_e2, wn_e1, wn_eN, wn_a0, wn_aC, wn_call, wn_tb, wn_tup, wn_lst, wn_andB, wn_orB, wn_notB, wn_andV, wn_orV, wn_notV, wn_ifV, wn_iA, wn_iR1, wn_iR2, wn_iZ, wn_iEn, wn_iRR, wn_sl, wn_p0, wn_p1, wn_up, wn_upB, wn_upI, wn_x2, wn_x0, wn_xC, wn_xN, wn_xb, wn_xAnd, wn_xOr, wn_xNot, wn_xIf, wn_xCall, wn_xR1, wn_xR2, sn_nx, sn_rt, sn_bk, sn_ct, sn_seq, sn_set, sn_ret, sn_expr, sn_if, sn_for, sn_xSet, sn_xRet, sn_xExpr, sn_xIf, sn_xFor, sn_asg, sn_xAsg, sn_own, sn_xOwn, gv_zero, gv_succ, go_own, go_dat, go_succ, k0_def, gN_def, tru_bool, tru_none, tru_int, tru_list, asSeq_list, asSeq_tup, addV_int, subV_int, ltA_i, leA_i, gtA_i, geA_i, negV_int, intV_int, lenV_list, lenV_tup, ixV_list, ixV_tup, asInt_int, slV_list, slV_tup, slL_list, revV_tup, revV_list, tupleV_list, listV_list, listV_tup, eqV_str, neV_str, eqV_int, List.set_cons_zero, List.set_cons_succ, List.getElem?_cons_zero, List.getElem?_cons_succ, List.length_cons, List.length_nil, ↓reduceIte, Bool.false_eq_true, Bool.not_true, Bool.not_false, wn_ite, gT2, gT3, neV_tup, eqV_tup, in_tup, notin_tup', lineN_eq, Nat.reduceAdd, Nat.reduceLeDiff, Nat.zero_le, true_and, and_true, List.map_nil, List.map_cons, exists_eq_left', Option.some.injEq, PyData.list.injEq, exists_eq_left, PyData.int.injEq, R.ok.injEq, Sl.own.injEq]
        refine wn_draw hk' (by omega) fun u kx6 hk6 u0 u1 => ?_
        simp only [wn_ok, wn_some, wn_only, wn_noex, wn_e2, wn_e1, wn_eN, wn_a0, wn_aC, wn_call, wn_tb, wn_tup, wn_lst, wn_andB, wn_orB, wn_notB, wn_andV, wn_orV, wn_notV, wn_ifV, wn_iA, wn_iR1, wn_iR2, wn_iZ, wn_iEn, wn_iRR, wn_sl, wn_p0, wn_p1, wn_up, wn_upB, wn_upI, wn_x2, wn_x0, wn_xC, wn_xN, wn_xb, wn_xAnd, wn_xOr, wn_xNot, wn_xIf, wn_xCall, wn_xR1, wn_xR2, sn_nx, sn_rt, sn_bk, sn_ct, sn_seq, sn_set, sn_ret, sn_expr, sn_if, sn_for, sn_xSet, sn_xRet, sn_xExpr, sn_xIf, sn_xFor, sn_asg, sn_xAsg, sn_own, sn_xOwn, gv_zero, gv_succ, go_own, go_dat, go_succ, k0_def, gN_def, tru_bool, tru_none, tru_int, tru_list, asSeq_list, asSeq_tup, addV_int, subV_int, ltA_i, leA_i, gtA_i, geA_i, negV_int, intV_int, lenV_list, lenV_tup, ixV_list, ixV_tup, asInt_int, slV_list, slV_tup, slL_list, revV_tup, revV_list, tupleV_list, listV_list, listV_tup, eqV_str, neV_str, eqV_int, List.set_cons_zero, List.set_cons_succ, List.getElem?_cons_zero, List.getElem?_cons_succ, List.length_cons, List.length_nil, ↓reduceIte, Bool.false_eq_true, Bool.not_true, Bool.not_false, wn_ite, gT2, gT3, neV_tup, eqV_tup, in_tup, notin_tup', lineN_eq, Nat.reduceAdd, Nat.reduceLeDiff, Nat.zero_le, true_and, and_true, List.map_nil, List.map_cons, exists_eq_left', Option.some.injEq, PyData.list.injEq, exists_eq_left, PyData.int.injEq, R.ok.injEq, Sl.own.injEq]
        refine wn_callK rfl ?_
        simp only [wn_ok, wn_some, wn_only, wn_noex, wn_e2, wn_e1, wn_eN, wn_a0, wn_aC, wn_call, wn_tb, wn_tup, wn_lst, wn_andB, wn_orB, wn_notB, wn_andV, wn_orV, wn_notV, wn_ifV, wn_iA, wn_iR1, wn_iR2, wn_iZ, wn_iEn, wn_iRR, wn_sl, wn_p0, wn_p1, wn_up, wn_upB, wn_upI, wn_x2, wn_x0, wn_xC, wn_xN, wn_xb, wn_xAnd, wn_xOr, wn_xNot, wn_xIf, wn_xCall, wn_xR1, wn_xR2, sn_nx, sn_rt, sn_bk, sn_ct, sn_seq, sn_set, sn_ret, sn_expr, sn_if, sn_for, sn_xSet, sn_xRet, sn_xExpr, sn_xIf, sn_xFor, sn_asg, sn_xAsg, sn_own, sn_xOwn, gv_zero, gv_succ, go_own, go_dat, go_succ, k0_def, gN_def, tru_bool, tru_none, tru_int, tru_list, asSeq_list, asSeq_tup, addV_int, subV_int, ltA_i, leA_i, gtA_i, geA_i, negV_int, intV_int, lenV_list, lenV_tup, ixV_list, ixV_tup, asInt_int, slV_list, slV_tup, slL_list, revV_tup, revV_list, tupleV_list, listV_list, listV_tup, eqV_str, neV_str, eqV_int, List.set_cons_zero, List.set_cons_succ, List.getElem?_cons_zero, List.getElem?_cons_succ, List.length_cons, List.length_nil, ↓reduceIte, Bool.false_eq_true, Bool.not_true, Bool.not_false, wn_ite, gT2, gT3, neV_tup, eqV_tup, in_tup, notin_tup', lineN_eq, Nat.reduceAdd, Nat.reduceLeDiff, Nat.zero_le, true_and, and_true, List.map_nil, List.map_cons, exists_eq_left', Option.some.injEq, PyData.list.injEq, exists_eq_left, PyData.int.injEq, R.ok.injEq, Sl.own.injEq]
        refine wn_draw hk6 (by omega) fun v kx7 hk7 v0 v1 => ?_
        simp only [wn_ok, wn_some, wn_only, wn_noex, wn_e2, wn_e1, wn_eN, wn_a0, wn_aC, wn_call, wn_tb, wn_tup, wn_lst, wn_andB, wn_orB, wn_notB, wn_andV, wn_orV, wn_notV, wn_ifV, wn_iA, wn_iR1, wn_iR2, wn_iZ, wn_iEn, wn_iRR, wn_sl, wn_p0, wn_p1, wn_up, wn_upB, wn_upI, wn_x2, wn_x0, wn_xC, wn_xN, wn_xb, wn_xAnd, wn_xOr, wn_xNot, wn_xIf, wn_xCall, wn_xR1, wn_xR2, sn_nx, sn_rt, sn_bk, sn_ct, sn_seq, sn_set, sn_ret, sn_expr, sn_if, sn_for, sn_xSet, sn_xRet, sn_xExpr, sn_xIf, sn_xFor, sn_asg, sn_xAsg, sn_own, sn_xOwn, gv_zero, gv_succ, go_own, go_dat, go_succ, k0_def, gN_def, tru_bool, tru_none, tru_int, tru_list, asSeq_list, asSeq_tup, addV_int, subV_int, ltA_i, leA_i, gtA_i, geA_i, negV_int, intV_int, lenV_list, lenV_tup, ixV_list, ixV_tup, asInt_int, slV_list, slV_tup, slL_list, revV_tup, revV_list, tupleV_list, listV_list, listV_tup, eqV_str, neV_str, eqV_int, List.set_cons_zero, List.set_cons_succ, List.getElem?_cons_zero, List.getElem?_cons_succ, List.length_cons, List.length_nil, ↓reduceIte, Bool.false_eq_true, Bool.not_true, Bool.not_false, wn_ite, gT2, gT3, neV_tup, eqV_tup, in_tup, notin_tup', lineN_eq, Nat.reduceAdd, Nat.reduceLeDiff, Nat.zero_le, true_and, and_true, List.map_nil, List.map_cons, exists_eq_left', Option.some.injEq, PyData.list.injEq, exists_eq_left, PyData.int.injEq, R.ok.injEq, Sl.own.injEq]
        refine ⟨zsD hs, rfl, rfl, by rw [zs_len]; omega, [a], rfl, ?_⟩
        refine ⟨l, put hs [a] (u - v), kx7, some (.int a), hk7, rfl, fun y m => hl y (List.mem_cons_of_mem _ m), ?_, fun b mb => ?_, ?_⟩
        · exact g.put hn (by decide) ⟨List.pairwise_singleton _ _, fun y m => by rw [List.mem_singleton.mp m]; exact ma⟩ rfl (by decide) (fun f mf => absurd mf List.not_mem_nil) (by omega)
        · rw [put_keys]
          rcases hv b mb with m | m
          · rcases List.mem_cons.mp m with rfl | m
            · right
              split
              · assumption
              · exact List.mem_append_right _ List.mem_cons_self
            · exact .inl m
          · right
            split
            · exact m
            · exact List.mem_append_left _ m
        · rw [zput_put]
    · rintro η ⟨l, hs, kx6, s6, hk6, e1, hl, g, hv, rfl⟩
      have : l = [] := List.map_eq_nil_iff.mp e1.symm
      subst this
      have hv : ∀ a ∈ names, [a] ∈ hs.map (·.1) := fun a m => (hv a m).elim (fun z => absurd z List.not_mem_nil) id
      simp only [wn_ok, wn_some, wn_only, wn_noex, wn_e2, wn_e1, wn_eN, wn_a0, wn_aC, wn_call, wn_tb, wn_tup, wn_lst, wn_andB, wn_orB, wn_notB, wn_andV, wn_orV, wn_notV, wn_ifV, wn_iA, wn_iR1, wn_iR2, wn_iZ, wn_iEn, wn_iRR, wn_sl, wn_p0, wn_p1, wn_up, wn_upB, wn_upI, wn_x2, wn_x0, wn_xC, wn_xN, wn_xb, wn_xAnd, wn_xOr, wn_xNot, wn_xIf, wn_xCall, wn_xR1, wn_xR2, sn_nx, sn_rt, sn_bk, sn_ct, sn_seq, sn_set, sn_ret, sn_expr, sn_if, sn_for, sn_xSet, sn_xRet, sn_xExpr, sn_xIf, sn_xFor, sn_asg, sn_xAsg, sn_own, sn_xOwn, gv_zero, gv_succ, go_own, go_dat, go_succ, k0_def, gN_def, tru_bool, tru_none, tru_int, tru_list, asSeq_list, asSeq_tup, addV_int, subV_int, ltA_i, leA_i, gtA_i, geA_i, negV_int, intV_int, lenV_list, lenV_tup, ixV_list, ixV_tup, asInt_int, slV_list, slV_tup, slL_list, revV_tup, revV_list, tupleV_list, listV_list, listV_tup, eqV_str, neV_str, eqV_int, List.set_cons_zero, List.set_cons_succ, List.getElem?_cons_zero, List.getElem?_cons_succ, List.length_cons, List.length_nil, ↓reduceIte, Bool.false_eq_true, Bool.not_true, Bool.not_false, wn_ite, gT2, gT3, neV_tup, eqV_tup, in_tup, notin_tup', lineN_eq, Nat.reduceAdd, Nat.reduceLeDiff, Nat.zero_le, true_and, and_true, List.map_nil, List.map_cons, exists_eq_left', Option.some.injEq, PyData.list.injEq, exists_eq_left, PyData.int.injEq, R.ok.injEq, Sl.own.injEq]
      -- the edges' list
      refine sn_loop (fun rest η => ∃ (l done : Row) (s8 s9 : Option D), rest = l.map PyData.int ∧ done ++ l = names ∧
          η = frm kx6 names wide far hs (od s6) (.d (.list ((edgesOf names done).map fun e => tupI (edgeR e)))) (od s8) (od s9) .no .no .no .no .no) ?_ ?_ _ _ ⟨names, [], none, none, rfl, rfl, rfl⟩
      · rintro x rest η ⟨l, done, s8, s9, e1, hd, rfl⟩
        cases l with
        | nil => cases e1
        | cons a l =>
          rw [List.map_cons] at e1
          obtain ⟨rfl, rfl⟩ := List.cons.inj e1
          refine ⟨_, rfl, ?_⟩
          simp only [wn_ok, wn_some, wn_only, wn_noex, wn_e2, wn_e1, wn_eN, wn_a0, wn_aC, wn_call, wn_tb, wn_tup, wn_lst, wn_andB, wn_orB, wn_notB, wn_andV, wn_orV, wn_notV, wn_ifV, wn_iA, wn_iR1, wn_iR2, wn_iZ, wn_iEn, wn_iRR, wn_sl, wn_p0, wn_p1, wn_up, wn_upB, wn_upI, wn_x2, wn_x0, wn_xC, wn_xN, wn_xb, wn_xAnd, wn_xOr, wn_xNot, wn_xIf, wn_xCall, wn_xR1, wn_xR2, sn_nx, sn_rt, sn_bk, sn_ct, sn_seq, sn_set, sn_ret, sn_expr, sn_if, sn_for, sn_xSet, sn_xRet, sn_xExpr, sn_xIf, sn_xFor, sn_asg, sn_xAsg, sn_own, sn_xOwn, gv_zero, gv_succ, go_own, go_dat, go_succ, k0_def, gN_def, tru_bool, tru_none, tru_int, tru_list, asSeq_list, asSeq_tup, addV_int, subV_int, ltA_i, leA_i, gtA_i, geA_i, negV_int, intV_int, lenV_list, lenV_tup, ixV_list, ixV_tup, asInt_int, slV_list, slV_tup, slL_list, revV_tup, revV_list, tupleV_list, listV_list, listV_tup, eqV_str, neV_str, eqV_int, List.set_cons_zero, List.set_cons_succ, List.getElem?_cons_zero, List.getElem?_cons_succ, List.length_cons, List.length_nil, ↓reduceIte, Bool.false_eq_true, Bool.not_true, Bool.not_false, wn_ite, gT2, gT3, neV_tup, eqV_tup, in_tup, notin_tup', lineN_eq, Nat.reduceAdd, Nat.reduceLeDiff, Nat.zero_le, true_and, and_true, List.map_nil, List.map_cons, exists_eq_left', Option.some.injEq, PyData.list.injEq, exists_eq_left, PyData.int.injEq, R.ok.injEq, Sl.own.injEq]
          refine wn_comp (xs := names.map PyData.int) (liD a) (paD a) ?_ ?_ ?_ ?_
          · simp only [wn_ok, wn_some, wn_only, wn_noex, wn_e2, wn_e1, wn_eN, wn_a0, wn_aC, wn_call, wn_tb, wn_tup, wn_lst, wn_andB, wn_orB, wn_notB, wn_andV, wn_orV, wn_notV, wn_ifV, wn_iA, wn_iR1, wn_iR2, wn_iZ, wn_iEn, wn_iRR, wn_sl, wn_p0, wn_p1, wn_up, wn_upB, wn_upI, wn_x2, wn_x0, wn_xC, wn_xN, wn_xb, wn_xAnd, wn_xOr, wn_xNot, wn_xIf, wn_xCall, wn_xR1, wn_xR2, sn_nx, sn_rt, sn_bk, sn_ct, sn_seq, sn_set, sn_ret, sn_expr, sn_if, sn_for, sn_xSet, sn_xRet, sn_xExpr, sn_xIf, sn_xFor, sn_asg, sn_xAsg, sn_own, sn_xOwn, gv_zero, gv_succ, go_own, go_dat, go_succ, k0_def, gN_def, tru_bool, tru_none, tru_int, tru_list, asSeq_list, asSeq_tup, addV_int, subV_int, ltA_i, leA_i, gtA_i, geA_i, negV_int, intV_int, lenV_list, lenV_tup, ixV_list, ixV_tup, asInt_int, slV_list, slV_tup, slL_list, revV_tup, revV_list, tupleV_list, listV_list, listV_tup, eqV_str, neV_str, eqV_int, List.set_cons_zero, List.set_cons_succ, List.getElem?_cons_zero, List.getElem?_cons_succ, List.length_cons, List.length_nil, ↓reduceIte, Bool.false_eq_true, Bool.not_true, Bool.not_false, wn_ite, gT2, gT3, neV_tup, eqV_tup, in_tup, notin_tup', lineN_eq, Nat.reduceAdd, Nat.reduceLeDiff, Nat.zero_le, true_and, and_true, List.map_nil, List.map_cons, exists_eq_left', Option.some.injEq, PyData.list.injEq, exists_eq_left, PyData.int.injEq, R.ok.injEq, Sl.own.injEq]
          · intro y my
            obtain ⟨b, mb, rfl⟩ := List.mem_map.mp my
            refine ⟨frm kx6 names wide far hs (od s6) (.d (.list ((edgesOf names done).map fun e => tupI (edgeR e)))) (.d (.int a)) (.d (.int b)) .no .no .no .no .no, rfl, ?_⟩
            simp only [wn_ok, wn_some, wn_only, wn_noex, wn_e2, wn_e1, wn_eN, wn_a0, wn_aC, wn_call, wn_tb, wn_tup, wn_lst, wn_andB, wn_orB, wn_notB, wn_andV, wn_orV, wn_notV, wn_ifV, wn_iA, wn_iR1, wn_iR2, wn_iZ, wn_iEn, wn_iRR, wn_sl, wn_p0, wn_p1, wn_up, wn_upB, wn_upI, wn_x2, wn_x0, wn_xC, wn_xN, wn_xb, wn_xAnd, wn_xOr, wn_xNot, wn_xIf, wn_xCall, wn_xR1, wn_xR2, sn_nx, sn_rt, sn_bk, sn_ct, sn_seq, sn_set, sn_ret, sn_expr, sn_if, sn_for, sn_xSet, sn_xRet, sn_xExpr, sn_xIf, sn_xFor, sn_asg, sn_xAsg, sn_own, sn_xOwn, gv_zero, gv_succ, go_own, go_dat, go_succ, k0_def, gN_def, tru_bool, tru_none, tru_int, tru_list, asSeq_list, asSeq_tup, addV_int, subV_int, ltA_i, leA_i, gtA_i, geA_i, negV_int, intV_int, lenV_list, lenV_tup, ixV_list, ixV_tup, asInt_int, slV_list, slV_tup, slL_list, revV_tup, revV_list, tupleV_list, listV_list, listV_tup, eqV_str, neV_str, eqV_int, List.set_cons_zero, List.set_cons_succ, List.getElem?_cons_zero, List.getElem?_cons_succ, List.length_cons, List.length_nil, ↓reduceIte, Bool.false_eq_true, Bool.not_true, Bool.not_false, wn_ite, gT2, gT3, neV_tup, eqV_tup, in_tup, notin_tup', lineN_eq, Nat.reduceAdd, Nat.reduceLeDiff, Nat.zero_le, true_and, and_true, List.map_nil, List.map_cons, exists_eq_left', Option.some.injEq, PyData.list.injEq, exists_eq_left, PyData.int.injEq, R.ok.injEq, Sl.own.injEq]
            exact ⟨rfl, fun _ => rfl⟩
          · rw [List.length_map, lineN_eq]
            omega
          have ee : ((names.map PyData.int).filter (liD a)).map (paD a) = ((names.filter fun b => decide (a < b)).map fun b => (a, b)).map fun e => tupI (edgeR e) := by
            rw [List.filter_map, List.map_map, List.map_map]
            rfl
          have le := edges_len nl done
          have ld : done.length ≤ 5 := by
            have := congrArg List.length hd
            rw [List.length_append] at this
            omega
          have lf := List.length_filter_le (fun b => decide (a < b)) names
          rw [ee, addV_list (by rw [List.length_map, List.length_map, List.length_map]; omega), ← List.map_append]
          simp only [wn_ok, wn_some, wn_only, wn_noex, wn_e2, wn_e1, wn_eN, wn_a0, wn_aC, wn_call, wn_tb, wn_tup, wn_lst, wn_andB, wn_orB, wn_notB, wn_andV, wn_orV, wn_notV, wn_ifV, wn_iA, wn_iR1, wn_iR2, wn_iZ, wn_iEn, wn_iRR, wn_sl, wn_p0, wn_p1, wn_up, wn_upB, wn_upI, wn_x2, wn_x0, wn_xC, wn_xN, wn_xb, wn_xAnd, wn_xOr, wn_xNot, wn_xIf, wn_xCall, wn_xR1, wn_xR2, sn_nx, sn_rt, sn_bk, sn_ct, sn_seq, sn_set, sn_ret, sn_expr, sn_if, sn_for, sn_xSet, sn_xRet, sn_xExpr, sn_xIf, sn_xFor, sn_asg, sn_xAsg, sn_own, sn_xOwn, gv_zero, gv_succ, go_own, go_dat, go_succ, k0_def, gN_def, tru_bool, tru_none, tru_int, tru_list, asSeq_list, asSeq_tup, addV_int, subV_int, ltA_i, leA_i, gtA_i, geA_i, negV_int, intV_int, lenV_list, lenV_tup, ixV_list, ixV_tup, asInt_int, slV_list, slV_tup, slL_list, revV_tup, revV_list, tupleV_list, listV_list, listV_tup, eqV_str, neV_str, eqV_int, List.set_cons_zero, List.set_cons_succ, List.getElem?_cons_zero, List.getElem?_cons_succ, List.length_cons, List.length_nil, ↓reduceIte, Bool.false_eq_true, Bool.not_true, Bool.not_false, wn_ite, gT2, gT3, neV_tup, eqV_tup, in_tup, notin_tup', lineN_eq, Nat.reduceAdd, Nat.reduceLeDiff, Nat.zero_le, true_and, and_true, List.map_nil, List.map_cons, exists_eq_left', Option.some.injEq, PyData.list.injEq, exists_eq_left, PyData.int.injEq, R.ok.injEq, Sl.own.injEq]
          refine ⟨l, done ++ [a], some (.int a), s9, rfl, by rw [List.append_assoc]; exact hd, ?_⟩
          have ed : edgesOf names done ++ (names.filter fun b => decide (a < b)).map (fun b => (a, b)) = edgesOf names (done ++ [a]) := by
            unfold edgesOf
            rw [List.flatMap_append]
            simp
          rw [ed]
      · rintro η ⟨l, done, s8, s9, e1, hd, rfl⟩
        have : l = [] := List.map_eq_nil_iff.mp e1.symm
        subst this
        rw [List.append_nil] at hd
        subst hd
        have em : ∀ e ∈ edgesOf done done, e.1 ∈ done ∧ e.2 ∈ done ∧ e.1 < e.2 := fun e m => mem_edgesOf m
        generalize edgesOf done done = es at em
        simp only [wn_ok, wn_some, wn_only, wn_noex, wn_e2, wn_e1, wn_eN, wn_a0, wn_aC, wn_call, wn_tb, wn_tup, wn_lst, wn_andB, wn_orB, wn_notB, wn_andV, wn_orV, wn_notV, wn_ifV, wn_iA, wn_iR1, wn_iR2, wn_iZ, wn_iEn, wn_iRR, wn_sl, wn_p0, wn_p1, wn_up, wn_upB, wn_upI, wn_x2, wn_x0, wn_xC, wn_xN, wn_xb, wn_xAnd, wn_xOr, wn_xNot, wn_xIf, wn_xCall, wn_xR1, wn_xR2, sn_nx, sn_rt, sn_bk, sn_ct, sn_seq, sn_set, sn_ret, sn_expr, sn_if, sn_for, sn_xSet, sn_xRet, sn_xExpr, sn_xIf, sn_xFor, sn_asg, sn_xAsg, sn_own, sn_xOwn, gv_zero, gv_succ, go_own, go_dat, go_succ, k0_def, gN_def, tru_bool, tru_none, tru_int, tru_list, asSeq_list, asSeq_tup, addV_int, subV_int, ltA_i, leA_i, gtA_i, geA_i, negV_int, intV_int, lenV_list, lenV_tup, ixV_list, ixV_tup, asInt_int, slV_list, slV_tup, slL_list, revV_tup, revV_list, tupleV_list, listV_list, listV_tup, eqV_str, neV_str, eqV_int, List.set_cons_zero, List.set_cons_succ, List.getElem?_cons_zero, List.getElem?_cons_succ, List.length_cons, List.length_nil, ↓reduceIte, Bool.false_eq_true, Bool.not_true, Bool.not_false, wn_ite, gT2, gT3, neV_tup, eqV_tup, in_tup, notin_tup', lineN_eq, Nat.reduceAdd, Nat.reduceLeDiff, Nat.zero_le, true_and, and_true, List.map_nil, List.map_cons, exists_eq_left', Option.some.injEq, PyData.list.injEq, exists_eq_left, PyData.int.injEq, R.ok.injEq, Sl.own.injEq]
        -- the edges
        refine sn_loop (fun rest η => ∃ (l : List (Int × Int)) (hs : List Ih) (kx' : List D) (s10 : Option D), Dk.Deck kx' ∧ rest = l.map (fun e => tupI (edgeR e)) ∧ (∀ e ∈ l, e ∈ es) ∧ Gro done 2 hs ∧ (∀ a ∈ done, [a] ∈ hs.map (·.1)) ∧
            η = frm kx' done wide far hs (od s6) (.d (.list (es.map fun e => tupI (edgeR e)))) (od s8) (od s9) (od s10) .no .no .no .no) ?_ ?_ _ _ ⟨es, hs, kx6, none, hk6, rfl, fun _ m => m, g.up, ?_, rfl⟩
        · rintro x rest η ⟨l, hs, kx', s10, hk', e1, hl, g, hv, rfl⟩
          cases l with
          | nil => cases e1
          | cons e l =>
            rw [List.map_cons] at e1
            obtain ⟨rfl, rfl⟩ := List.cons.inj e1
            obtain ⟨m1, m2, lt⟩ := em e (hl e List.mem_cons_self)
            have lh := g.len hn.asc nl
            have se := Od.smp2 (hn.sub _ m1) (hn.sub _ m2) lt
            refine ⟨_, rfl, ?_⟩
            simp only [wn_ok, wn_some, wn_only, wn_noex, wn_e2, wn_e1, wn_eN, wn_a0, wn_aC, wn_call, wn_tb, wn_tup, wn_lst, wn_andB, wn_orB, wn_notB, wn_andV, wn_orV, wn_notV, wn_ifV, wn_iA, wn_iR1, wn_iR2, wn_iZ, wn_iEn, wn_iRR, wn_sl, wn_p0, wn_p1, wn_up, wn_upB, wn_upI, wn_x2, wn_x0, wn_xC, wn_xN, wn_xb, wn_xAnd, wn_xOr, wn_xNot, wn_xIf, wn_xCall, wn_xR1, wn_xR2, sn_nx, sn_rt, sn_bk, sn_ct, sn_seq, sn_set, sn_ret, sn_expr, sn_if, sn_for, sn_xSet, sn_xRet, sn_xExpr, sn_xIf, sn_xFor, sn_asg, sn_xAsg, sn_own, sn_xOwn, gv_zero, gv_succ, go_own, go_dat, go_succ, k0_def, gN_def, tru_bool, tru_none, tru_int, tru_list, asSeq_list, asSeq_tup, addV_int, subV_int, ltA_i, leA_i, gtA_i, geA_i, negV_int, intV_int, lenV_list, lenV_tup, ixV_list, ixV_tup, asInt_int, slV_list, slV_tup, slL_list, revV_tup, revV_list, tupleV_list, listV_list, listV_tup, eqV_str, neV_str, eqV_int, List.set_cons_zero, List.set_cons_succ, List.getElem?_cons_zero, List.getElem?_cons_succ, List.length_cons, List.length_nil, ↓reduceIte, Bool.false_eq_true, Bool.not_true, Bool.not_false, wn_ite, gT2, gT3, neV_tup, eqV_tup, in_tup, notin_tup', lineN_eq, Nat.reduceAdd, Nat.reduceLeDiff, Nat.zero_le, true_and, and_true, List.map_nil, List.map_cons, exists_eq_left', Option.some.injEq, PyData.list.injEq, exists_eq_left, PyData.int.injEq, R.ok.injEq, Sl.own.injEq]
            refine wn_drw (b := 4) rfl hk' (by decide) fun u kx7 hk7 u0 u1 => ?_
            simp only [wn_ok, wn_some, wn_only, wn_noex, wn_e2, wn_e1, wn_eN, wn_a0, wn_aC, wn_call, wn_tb, wn_tup, wn_lst, wn_andB, wn_orB, wn_notB, wn_andV, wn_orV, wn_notV, wn_ifV, wn_iA, wn_iR1, wn_iR2, wn_iZ, wn_iEn, wn_iRR, wn_sl, wn_p0, wn_p1, wn_up, wn_upB, wn_upI, wn_x2, wn_x0, wn_xC, wn_xN, wn_xb, wn_xAnd, wn_xOr, wn_xNot, wn_xIf, wn_xCall, wn_xR1, wn_xR2, sn_nx, sn_rt, sn_bk, sn_ct, sn_seq, sn_set, sn_ret, sn_expr, sn_if, sn_for, sn_xSet, sn_xRet, sn_xExpr, sn_xIf, sn_xFor, sn_asg, sn_xAsg, sn_own, sn_xOwn, gv_zero, gv_succ, go_own, go_dat, go_succ, k0_def, gN_def, tru_bool, tru_none, tru_int, tru_list, asSeq_list, asSeq_tup, addV_int, subV_int, ltA_i, leA_i, gtA_i, geA_i, negV_int, intV_int, lenV_list, lenV_tup, ixV_list, ixV_tup, asInt_int, slV_list, slV_tup, slL_list, revV_tup, revV_list, tupleV_list, listV_list, listV_tup, eqV_str, neV_str, eqV_int, List.set_cons_zero, List.set_cons_succ, List.getElem?_cons_zero, List.getElem?_cons_succ, List.length_cons, List.length_nil, ↓reduceIte, Bool.false_eq_true, Bool.not_true, Bool.not_false, wn_ite, gT2, gT3, neV_tup, eqV_tup, in_tup, notin_tup', lineN_eq, Nat.reduceAdd, Nat.reduceLeDiff, Nat.zero_le, true_and, and_true, List.map_nil, List.map_cons, exists_eq_left', Option.some.injEq, PyData.list.injEq, exists_eq_left, PyData.int.injEq, R.ok.injEq, Sl.own.injEq]
            cases hu : decide (0 < u) with
            | false =>
              simp only [Bool.false_eq_true, ↓reduceIte]
              exact ⟨l, hs, kx7, some _, hk7, rfl, fun y m => hl y (List.mem_cons_of_mem _ m), g, hv, rfl⟩
            | true =>
              simp only [↓reduceIte]
              refine sn_zput ?_
              refine wn_callKM rfl rfl ?_
              simp only [wn_ok, wn_some, wn_only, wn_noex, wn_e2, wn_e1, wn_eN, wn_a0, wn_aC, wn_call, wn_tb, wn_tup, wn_lst, wn_andB, wn_orB, wn_notB, wn_andV, wn_orV, wn_notV, wn_ifV, wn_iA, wn_iR1, wn_iR2, wn_iZ, wn_iEn, wn_iRR, wn_sl, wn_p0, wn_p1, wn_up, wn_upB, wn_upI, wn_x2, wn_x0, wn_xC, wn_xN, wn_xb, wn_xAnd, wn_xOr, wn_xNot, wn_xIf, wn_xCall, wn_xR1, wn_xR2, sn_nx, sn_rt, sn_bk, sn_ct, sn_seq, sn_set, sn_ret, sn_expr, sn_if, sn_for, sn_xSet, sn_xRet, sn_xExpr, sn_xIf, sn_xFor, sn_asg, sn_xAsg, sn_own, sn_xOwn, gv_zero, gv_succ, go_own, go_dat, go_succ, k0_def, gN_def, tru_bool, tru_none, tru_int, tru_list, asSeq_list, asSeq_tup, addV_int, subV_int, ltA_i, leA_i, gtA_i, geA_i, negV_int, intV_int, lenV_list, lenV_tup, ixV_list, ixV_tup, asInt_int, slV_list, slV_tup, slL_list, revV_tup, revV_list, tupleV_list, listV_list, listV_tup, eqV_str, neV_str, eqV_int, List.set_cons_zero, List.set_cons_succ, List.getElem?_cons_zero, List.getElem?_cons_succ, List.length_cons, List.length_nil, ↓reduceIte, Bool.false_eq_true, Bool.not_true, Bool.not_false, wn_ite, gT2, gT3, neV_tup, eqV_tup, in_tup, notin_tup', lineN_eq, Nat.reduceAdd, Nat.reduceLeDiff, Nat.zero_le, true_and, and_true, List.map_nil, List.map_cons, exists_eq_left', Option.some.injEq, PyData.list.injEq, exists_eq_left, PyData.int.injEq, R.ok.injEq, Sl.own.injEq]
              refine ⟨_, zsD hs, rfl, rfl, by rw [zs_len]; omega, ?_⟩
              refine above_w (hs := hs) (s := edgeR e) hk7 se (by show 2 ≤ 2; decide) w0 w1 (fun kx8 _ z => ?_) fun h kx8 hk8 up dn => ?_
              · obtain ⟨f, mf, nf⟩ := z
                unfold edgeR at mf
                rw [faces2] at mf
                rcases List.mem_cons.mp mf with rfl | mf
                · exact absurd (hv _ m2) nf
                · rw [List.mem_singleton.mp mf] at nf
                  exact absurd (hv _ m1) nf
              · simp only [wn_ok, wn_some, wn_only, wn_noex, wn_e2, wn_e1, wn_eN, wn_a0, wn_aC, wn_call, wn_tb, wn_tup, wn_lst, wn_andB, wn_orB, wn_notB, wn_andV, wn_orV, wn_notV, wn_ifV, wn_iA, wn_iR1, wn_iR2, wn_iZ, wn_iEn, wn_iRR, wn_sl, wn_p0, wn_p1, wn_up, wn_upB, wn_upI, wn_x2, wn_x0, wn_xC, wn_xN, wn_xb, wn_xAnd, wn_xOr, wn_xNot, wn_xIf, wn_xCall, wn_xR1, wn_xR2, sn_nx, sn_rt, sn_bk, sn_ct, sn_seq, sn_set, sn_ret, sn_expr, sn_if, sn_for, sn_xSet, sn_xRet, sn_xExpr, sn_xIf, sn_xFor, sn_asg, sn_xAsg, sn_own, sn_xOwn, gv_zero, gv_succ, go_own, go_dat, go_succ, k0_def, gN_def, tru_bool, tru_none, tru_int, tru_list, asSeq_list, asSeq_tup, addV_int, subV_int, ltA_i, leA_i, gtA_i, geA_i, negV_int, intV_int, lenV_list, lenV_tup, ixV_list, ixV_tup, asInt_int, slV_list, slV_tup, slL_list, revV_tup, revV_list, tupleV_list, listV_list, listV_tup, eqV_str, neV_str, eqV_int, List.set_cons_zero, List.set_cons_succ, List.getElem?_cons_zero, List.getElem?_cons_succ, List.length_cons, List.length_nil, ↓reduceIte, Bool.false_eq_true, Bool.not_true, Bool.not_false, wn_ite, gT2, gT3, neV_tup, eqV_tup, in_tup, notin_tup', lineN_eq, Nat.reduceAdd, Nat.reduceLeDiff, Nat.zero_le, true_and, and_true, List.map_nil, List.map_cons, exists_eq_left', Option.some.injEq, PyData.list.injEq, exists_eq_left, PyData.int.injEq, R.ok.injEq, Sl.own.injEq]
                refine ⟨zsD hs, rfl, by cases s6 <;> cases s8 <;> cases s9 <;> rfl, by rw [zs_len]; omega, edgeR e, keyD_tup _, ?_⟩
                have b := Gro.verts (n := h) hn (by decide) g (s := edgeR e) (fun f mf => ?_) (by
                  obtain ⟨f, mf, v, ev, l⟩ := dn
                  exact ⟨f, mf, v, ev, by omega⟩) ⟨Nat.le_refl 2, se⟩ up
                · refine ⟨l, put hs (edgeR e) h, kx8, some (tupI (edgeR e)), hk8, rfl, fun y m => hl y (List.mem_cons_of_mem _ m), g.put hn (by decide) (in2 m1 m2 lt) rfl (by decide) up b, fun a ma => ?_, ?_⟩
                  · rw [put_keys]
                    split
                    · exact hv a ma
                    · exact List.mem_append_left _ (hv a ma)
                  · rw [zput_put]
                · obtain ⟨v, ev, _⟩ := up f mf
                  exact List.mem_map.mpr ⟨_, look_mem ev, rfl⟩
        · rintro η ⟨l, hs, kx7, s10, hk7, e1, hl, g, hv, rfl⟩
          simp only [wn_ok, wn_some, wn_only, wn_noex, wn_e2, wn_e1, wn_eN, wn_a0, wn_aC, wn_call, wn_tb, wn_tup, wn_lst, wn_andB, wn_orB, wn_notB, wn_andV, wn_orV, wn_notV, wn_ifV, wn_iA, wn_iR1, wn_iR2, wn_iZ, wn_iEn, wn_iRR, wn_sl, wn_p0, wn_p1, wn_up, wn_upB, wn_upI, wn_x2, wn_x0, wn_xC, wn_xN, wn_xb, wn_xAnd, wn_xOr, wn_xNot, wn_xIf, wn_xCall, wn_xR1, wn_xR2, sn_nx, sn_rt, sn_bk, sn_ct, sn_seq, sn_set, sn_ret, sn_expr, sn_if, sn_for, sn_xSet, sn_xRet, sn_xExpr, sn_xIf, sn_xFor, sn_asg, sn_xAsg, sn_own, sn_xOwn, gv_zero, gv_succ, go_own, go_dat, go_succ, k0_def, gN_def, tru_bool, tru_none, tru_int, tru_list, asSeq_list, asSeq_tup, addV_int, subV_int, ltA_i, leA_i, gtA_i, geA_i, negV_int, intV_int, lenV_list, lenV_tup, ixV_list, ixV_tup, asInt_int, slV_list, slV_tup, slL_list, revV_tup, revV_list, tupleV_list, listV_list, listV_tup, eqV_str, neV_str, eqV_int, List.set_cons_zero, List.set_cons_succ, List.getElem?_cons_zero, List.getElem?_cons_succ, List.length_cons, List.length_nil, ↓reduceIte, Bool.false_eq_true, Bool.not_true, Bool.not_false, wn_ite, gT2, gT3, neV_tup, eqV_tup, in_tup, notin_tup', lineN_eq, Nat.reduceAdd, Nat.reduceLeDiff, Nat.zero_le, true_and, and_true, List.map_nil, List.map_cons, exists_eq_left', Option.some.injEq, PyData.list.injEq, exists_eq_left, PyData.int.injEq, R.ok.injEq, Sl.own.injEq]
          -- the triangles
          refine sn_loop (fun rest η => ∃ (l : List (Int × Int)) (hs : List Ih) (kx' : List D) (s8 s9 s11 s12 : Option D), Dk.Deck kx' ∧ rest = l.map (fun e => tupI (edgeR e)) ∧ (∀ e ∈ l, e ∈ es) ∧ Gro done 3 hs ∧
              η = frm kx' done wide far hs (od s6) (.d (.list (es.map fun e => tupI (edgeR e)))) (od s8) (od s9) (od s10) (od s11) (od s12) .no .no) ?_ ?_ _ _ ⟨es, hs, kx7, s8, s9, none, none, hk7, rfl, fun _ m => m, g.up, rfl⟩
          · rintro x rest η ⟨l, hs, kx', s8, s9, s11, s12, hk', e1, hl, g, rfl⟩
            cases l with
            | nil => cases e1
            | cons e l =>
              rw [List.map_cons] at e1
              obtain ⟨rfl, rfl⟩ := List.cons.inj e1
              obtain ⟨m1, m2, lt⟩ := em e (hl e List.mem_cons_self)
              refine ⟨frm kx' done wide far hs (od s6) (.d (.list (es.map fun e => tupI (edgeR e)))) (.d (.int e.1)) (.d (.int e.2)) (od s10) (od s11) (od s12) .no .no, rfl, ?_⟩
              simp only [wn_ok, wn_some, wn_only, wn_noex, wn_e2, wn_e1, wn_eN, wn_a0, wn_aC, wn_call, wn_tb, wn_tup, wn_lst, wn_andB, wn_orB, wn_notB, wn_andV, wn_orV, wn_notV, wn_ifV, wn_iA, wn_iR1, wn_iR2, wn_iZ, wn_iEn, wn_iRR, wn_sl, wn_p0, wn_p1, wn_up, wn_upB, wn_upI, wn_x2, wn_x0, wn_xC, wn_xN, wn_xb, wn_xAnd, wn_xOr, wn_xNot, wn_xIf, wn_xCall, wn_xR1, wn_xR2, sn_nx, sn_rt, sn_bk, sn_ct, sn_seq, sn_set, sn_ret, sn_expr, sn_if, sn_for, sn_xSet, sn_xRet, sn_xExpr, sn_xIf, sn_xFor, sn_asg, sn_xAsg, sn_own, sn_xOwn, gv_zero, gv_succ, go_own, go_dat, go_succ, k0_def, gN_def, tru_bool, tru_none, tru_int, tru_list, asSeq_list, asSeq_tup, addV_int, subV_int, ltA_i, leA_i, gtA_i, geA_i, negV_int, intV_int, lenV_list, lenV_tup, ixV_list, ixV_tup, asInt_int, slV_list, slV_tup, slL_list, revV_tup, revV_list, tupleV_list, listV_list, listV_tup, eqV_str, neV_str, eqV_int, List.set_cons_zero, List.set_cons_succ, List.getElem?_cons_zero, List.getElem?_cons_succ, List.length_cons, List.length_nil, ↓reduceIte, Bool.false_eq_true, Bool.not_true, Bool.not_false, wn_ite, gT2, gT3, neV_tup, eqV_tup, in_tup, notin_tup', lineN_eq, Nat.reduceAdd, Nat.reduceLeDiff, Nat.zero_le, true_and, and_true, List.map_nil, List.map_cons, exists_eq_left', Option.some.injEq, PyData.list.injEq, exists_eq_left, PyData.int.injEq, R.ok.injEq, Sl.own.injEq]
              refine sn_loop (fun rest η => ∃ (m : Row) (hs : List Ih) (kx' : List D) (s11 s12 : Option D), Dk.Deck kx' ∧ rest = m.map PyData.int ∧ (∀ x ∈ m, x ∈ done) ∧ Gro done 3 hs ∧
                  η = frm kx' done wide far hs (od s6) (.d (.list (es.map fun e => tupI (edgeR e)))) (.d (.int e.1)) (.d (.int e.2)) (od s10) (od s11) (od s12) .no .no) ?_ ?_ _ _ ⟨done, hs, kx', s11, s12, hk', rfl, fun _ m => m, g, rfl⟩
              · rintro x rest η ⟨m, hs, kx', s11, s12, hk', e1, hm, g, rfl⟩
                cases m with
                | nil => cases e1
                | cons c m =>
                  rw [List.map_cons] at e1
                  obtain ⟨rfl, rfl⟩ := List.cons.inj e1
                  have mc := hm c List.mem_cons_self
                  have hm' : ∀ x ∈ m, x ∈ done := fun y my => hm y (List.mem_cons_of_mem _ my)
                  have lh := g.len hn.asc nl
                  refine ⟨_, rfl, ?_⟩
                  simp only [wn_ok, wn_some, wn_only, wn_noex, wn_e2, wn_e1, wn_eN, wn_a0, wn_aC, wn_call, wn_tb, wn_tup, wn_lst, wn_andB, wn_orB, wn_notB, wn_andV, wn_orV, wn_notV, wn_ifV, wn_iA, wn_iR1, wn_iR2, wn_iZ, wn_iEn, wn_iRR, wn_sl, wn_p0, wn_p1, wn_up, wn_upB, wn_upI, wn_x2, wn_x0, wn_xC, wn_xN, wn_xb, wn_xAnd, wn_xOr, wn_xNot, wn_xIf, wn_xCall, wn_xR1, wn_xR2, sn_nx, sn_rt, sn_bk, sn_ct, sn_seq, sn_set, sn_ret, sn_expr, sn_if, sn_for, sn_xSet, sn_xRet, sn_xExpr, sn_xIf, sn_xFor, sn_asg, sn_xAsg, sn_own, sn_xOwn, gv_zero, gv_succ, go_own, go_dat, go_succ, k0_def, gN_def, tru_bool, tru_none, tru_int, tru_list, asSeq_list, asSeq_tup, addV_int, subV_int, ltA_i, leA_i, gtA_i, geA_i, negV_int, intV_int, lenV_list, lenV_tup, ixV_list, ixV_tup, asInt_int, slV_list, slV_tup, slL_list, revV_tup, revV_list, tupleV_list, listV_list, listV_tup, eqV_str, neV_str, eqV_int, List.set_cons_zero, List.set_cons_succ, List.getElem?_cons_zero, List.getElem?_cons_succ, List.length_cons, List.length_nil, ↓reduceIte, Bool.false_eq_true, Bool.not_true, Bool.not_false, wn_ite, gT2, gT3, neV_tup, eqV_tup, in_tup, notin_tup', lineN_eq, Nat.reduceAdd, Nat.reduceLeDiff, Nat.zero_le, true_and, and_true, List.map_nil, List.map_cons, exists_eq_left', Option.some.injEq, PyData.list.injEq, exists_eq_left, PyData.int.injEq, R.ok.injEq, Sl.own.injEq]
                  cases hc : decide (e.2 < c) with
                  | false =>
                    simp only [Bool.false_eq_true, ↓reduceIte]
                    exact ⟨m, hs, kx', some _, s12, hk', rfl, hm', g, rfl⟩
                  | true =>
                    simp only [↓reduceIte]
                    have lt2 : e.2 < c := of_decide_eq_true hc
                    have st := Od.smp3 (hn.sub _ m1) (hn.sub _ m2) (hn.sub _ mc) lt lt2
                    refine wn_drw (b := 3) rfl hk' (by decide) fun u kx8 hk8 u0 u1 => ?_
                    simp only [wn_ok, wn_some, wn_only, wn_noex, wn_e2, wn_e1, wn_eN, wn_a0, wn_aC, wn_call, wn_tb, wn_tup, wn_lst, wn_andB, wn_orB, wn_notB, wn_andV, wn_orV, wn_notV, wn_ifV, wn_iA, wn_iR1, wn_iR2, wn_iZ, wn_iEn, wn_iRR, wn_sl, wn_p0, wn_p1, wn_up, wn_upB, wn_upI, wn_x2, wn_x0, wn_xC, wn_xN, wn_xb, wn_xAnd, wn_xOr, wn_xNot, wn_xIf, wn_xCall, wn_xR1, wn_xR2, sn_nx, sn_rt, sn_bk, sn_ct, sn_seq, sn_set, sn_ret, sn_expr, sn_if, sn_for, sn_xSet, sn_xRet, sn_xExpr, sn_xIf, sn_xFor, sn_asg, sn_xAsg, sn_own, sn_xOwn, gv_zero, gv_succ, go_own, go_dat, go_succ, k0_def, gN_def, tru_bool, tru_none, tru_int, tru_list, asSeq_list, asSeq_tup, addV_int, subV_int, ltA_i, leA_i, gtA_i, geA_i, negV_int, intV_int, lenV_list, lenV_tup, ixV_list, ixV_tup, asInt_int, slV_list, slV_tup, slL_list, revV_tup, revV_list, tupleV_list, listV_list, listV_tup, eqV_str, neV_str, eqV_int, List.set_cons_zero, List.set_cons_succ, List.getElem?_cons_zero, List.getElem?_cons_succ, List.length_cons, List.length_nil, ↓reduceIte, Bool.false_eq_true, Bool.not_true, Bool.not_false, wn_ite, gT2, gT3, neV_tup, eqV_tup, in_tup, notin_tup', lineN_eq, Nat.reduceAdd, Nat.reduceLeDiff, Nat.zero_le, true_and, and_true, List.map_nil, List.map_cons, exists_eq_left', Option.some.injEq, PyData.list.injEq, exists_eq_left, PyData.int.injEq, R.ok.injEq, Sl.own.injEq]
                    cases hu : decide (0 < u) with
                    | false =>
                      simp only [Bool.false_eq_true, ↓reduceIte]
                      exact ⟨m, hs, kx8, some _, s12, hk8, rfl, hm', g, rfl⟩
                    | true =>
                      simp only [↓reduceIte]
                      refine wn_callKM rfl rfl ?_
                      simp only [wn_ok, wn_some, wn_only, wn_noex, wn_e2, wn_e1, wn_eN, wn_a0, wn_aC, wn_call, wn_tb, wn_tup, wn_lst, wn_andB, wn_orB, wn_notB, wn_andV, wn_orV, wn_notV, wn_ifV, wn_iA, wn_iR1, wn_iR2, wn_iZ, wn_iEn, wn_iRR, wn_sl, wn_p0, wn_p1, wn_up, wn_upB, wn_upI, wn_x2, wn_x0, wn_xC, wn_xN, wn_xb, wn_xAnd, wn_xOr, wn_xNot, wn_xIf, wn_xCall, wn_xR1, wn_xR2, sn_nx, sn_rt, sn_bk, sn_ct, sn_seq, sn_set, sn_ret, sn_expr, sn_if, sn_for, sn_xSet, sn_xRet, sn_xExpr, sn_xIf, sn_xFor, sn_asg, sn_xAsg, sn_own, sn_xOwn, gv_zero, gv_succ, go_own, go_dat, go_succ, k0_def, gN_def, tru_bool, tru_none, tru_int, tru_list, asSeq_list, asSeq_tup, addV_int, subV_int, ltA_i, leA_i, gtA_i, geA_i, negV_int, intV_int, lenV_list, lenV_tup, ixV_list, ixV_tup, asInt_int, slV_list, slV_tup, slL_list, revV_tup, revV_list, tupleV_list, listV_list, listV_tup, eqV_str, neV_str, eqV_int, List.set_cons_zero, List.set_cons_succ, List.getElem?_cons_zero, List.getElem?_cons_succ, List.length_cons, List.length_nil, ↓reduceIte, Bool.false_eq_true, Bool.not_true, Bool.not_false, wn_ite, gT2, gT3, neV_tup, eqV_tup, in_tup, notin_tup', lineN_eq, Nat.reduceAdd, Nat.reduceLeDiff, Nat.zero_le, true_and, and_true, List.map_nil, List.map_cons, exists_eq_left', Option.some.injEq, PyData.list.injEq, exists_eq_left, PyData.int.injEq, R.ok.injEq, Sl.own.injEq]
                      refine ⟨_, zsD hs, rfl, rfl, by rw [zs_len]; omega, ?_⟩
                      refine above_w (hs := hs) (s := [e.1, e.2, c]) hk8 st (by show 2 ≤ 3; decide) w0 w1 (fun kx9 hk9 _ => ?_) fun h kx9 hk9 up dn => ?_
                      · simp only [wn_ok, wn_some, wn_only, wn_noex, wn_e2, wn_e1, wn_eN, wn_a0, wn_aC, wn_call, wn_tb, wn_tup, wn_lst, wn_andB, wn_orB, wn_notB, wn_andV, wn_orV, wn_notV, wn_ifV, wn_iA, wn_iR1, wn_iR2, wn_iZ, wn_iEn, wn_iRR, wn_sl, wn_p0, wn_p1, wn_up, wn_upB, wn_upI, wn_x2, wn_x0, wn_xC, wn_xN, wn_xb, wn_xAnd, wn_xOr, wn_xNot, wn_xIf, wn_xCall, wn_xR1, wn_xR2, sn_nx, sn_rt, sn_bk, sn_ct, sn_seq, sn_set, sn_ret, sn_expr, sn_if, sn_for, sn_xSet, sn_xRet, sn_xExpr, sn_xIf, sn_xFor, sn_asg, sn_xAsg, sn_own, sn_xOwn, gv_zero, gv_succ, go_own, go_dat, go_succ, k0_def, gN_def, tru_bool, tru_none, tru_int, tru_list, asSeq_list, asSeq_tup, addV_int, subV_int, ltA_i, leA_i, gtA_i, geA_i, negV_int, intV_int, lenV_list, lenV_tup, ixV_list, ixV_tup, asInt_int, slV_list, slV_tup, slL_list, revV_tup, revV_list, tupleV_list, listV_list, listV_tup, eqV_str, neV_str, eqV_int, List.set_cons_zero, List.set_cons_succ, List.getElem?_cons_zero, List.getElem?_cons_succ, List.length_cons, List.length_nil, ↓reduceIte, Bool.false_eq_true, Bool.not_true, Bool.not_false, wn_ite, gT2, gT3, neV_tup, eqV_tup, in_tup, notin_tup', lineN_eq, Nat.reduceAdd, Nat.reduceLeDiff, Nat.zero_le, true_and, and_true, List.map_nil, List.map_cons, exists_eq_left', Option.some.injEq, PyData.list.injEq, exists_eq_left, PyData.int.injEq, R.ok.injEq, Sl.own.injEq]
                        refine Wn.mk (a := .bool false) rfl ?_
                        simp only [wn_ok, wn_some, wn_only, wn_noex, wn_e2, wn_e1, wn_eN, wn_a0, wn_aC, wn_call, wn_tb, wn_tup, wn_lst, wn_andB, wn_orB, wn_notB, wn_andV, wn_orV, wn_notV, wn_ifV, wn_iA, wn_iR1, wn_iR2, wn_iZ, wn_iEn, wn_iRR, wn_sl, wn_p0, wn_p1, wn_up, wn_upB, wn_upI, wn_x2, wn_x0, wn_xC, wn_xN, wn_xb, wn_xAnd, wn_xOr, wn_xNot, wn_xIf, wn_xCall, wn_xR1, wn_xR2, sn_nx, sn_rt, sn_bk, sn_ct, sn_seq, sn_set, sn_ret, sn_expr, sn_if, sn_for, sn_xSet, sn_xRet, sn_xExpr, sn_xIf, sn_xFor, sn_asg, sn_xAsg, sn_own, sn_xOwn, gv_zero, gv_succ, go_own, go_dat, go_succ, k0_def, gN_def, tru_bool, tru_none, tru_int, tru_list, asSeq_list, asSeq_tup, addV_int, subV_int, ltA_i, leA_i, gtA_i, geA_i, negV_int, intV_int, lenV_list, lenV_tup, ixV_list, ixV_tup, asInt_int, slV_list, slV_tup, slL_list, revV_tup, revV_list, tupleV_list, listV_list, listV_tup, eqV_str, neV_str, eqV_int, List.set_cons_zero, List.set_cons_succ, List.getElem?_cons_zero, List.getElem?_cons_succ, List.length_cons, List.length_nil, ↓reduceIte, Bool.false_eq_true, Bool.not_true, Bool.not_false, wn_ite, gT2, gT3, neV_tup, eqV_tup, in_tup, notin_tup', lineN_eq, Nat.reduceAdd, Nat.reduceLeDiff, Nat.zero_le, true_and, and_true, List.map_nil, List.map_cons, exists_eq_left', Option.some.injEq, PyData.list.injEq, exists_eq_left, PyData.int.injEq, R.ok.injEq, Sl.own.injEq]
                        exact ⟨m, hs, kx9, some _, some _, hk9, rfl, hm', g, rfl⟩
                      · simp only [wn_ok, wn_some, wn_only, wn_noex, wn_e2, wn_e1, wn_eN, wn_a0, wn_aC, wn_call, wn_tb, wn_tup, wn_lst, wn_andB, wn_orB, wn_notB, wn_andV, wn_orV, wn_notV, wn_ifV, wn_iA, wn_iR1, wn_iR2, wn_iZ, wn_iEn, wn_iRR, wn_sl, wn_p0, wn_p1, wn_up, wn_upB, wn_upI, wn_x2, wn_x0, wn_xC, wn_xN, wn_xb, wn_xAnd, wn_xOr, wn_xNot, wn_xIf, wn_xCall, wn_xR1, wn_xR2, sn_nx, sn_rt, sn_bk, sn_ct, sn_seq, sn_set, sn_ret, sn_expr, sn_if, sn_for, sn_xSet, sn_xRet, sn_xExpr, sn_xIf, sn_xFor, sn_asg, sn_xAsg, sn_own, sn_xOwn, gv_zero, gv_succ, go_own, go_dat, go_succ, k0_def, gN_def, tru_bool, tru_none, tru_int, tru_list, asSeq_list, asSeq_tup, addV_int, subV_int, ltA_i, leA_i, gtA_i, geA_i, negV_int, intV_int, lenV_list, lenV_tup, ixV_list, ixV_tup, asInt_int, slV_list, slV_tup, slL_list, revV_tup, revV_list, tupleV_list, listV_list, listV_tup, eqV_str, neV_str, eqV_int, List.set_cons_zero, List.set_cons_succ, List.getElem?_cons_zero, List.getElem?_cons_succ, List.length_cons, List.length_nil, ↓reduceIte, Bool.false_eq_true, Bool.not_true, Bool.not_false, wn_ite, gT2, gT3, neV_tup, eqV_tup, in_tup, notin_tup', lineN_eq, Nat.reduceAdd, Nat.reduceLeDiff, Nat.zero_le, true_and, and_true, List.map_nil, List.map_cons, exists_eq_left', Option.some.injEq, PyData.list.injEq, exists_eq_left, PyData.int.injEq, R.ok.injEq, Sl.own.injEq]
                        refine Wn.mk (a := .bool true) rfl ?_
                        simp only [wn_ok, wn_some, wn_only, wn_noex, wn_e2, wn_e1, wn_eN, wn_a0, wn_aC, wn_call, wn_tb, wn_tup, wn_lst, wn_andB, wn_orB, wn_notB, wn_andV, wn_orV, wn_notV, wn_ifV, wn_iA, wn_iR1, wn_iR2, wn_iZ, wn_iEn, wn_iRR, wn_sl, wn_p0, wn_p1, wn_up, wn_upB, wn_upI, wn_x2, wn_x0, wn_xC, wn_xN, wn_xb, wn_xAnd, wn_xOr, wn_xNot, wn_xIf, wn_xCall, wn_xR1, wn_xR2, sn_nx, sn_rt, sn_bk, sn_ct, sn_seq, sn_set, sn_ret, sn_expr, sn_if, sn_for, sn_xSet, sn_xRet, sn_xExpr, sn_xIf, sn_xFor, sn_asg, sn_xAsg, sn_own, sn_xOwn, gv_zero, gv_succ, go_own, go_dat, go_succ, k0_def, gN_def, tru_bool, tru_none, tru_int, tru_list, asSeq_list, asSeq_tup, addV_int, subV_int, ltA_i, leA_i, gtA_i, geA_i, negV_int, intV_int, lenV_list, lenV_tup, ixV_list, ixV_tup, asInt_int, slV_list, slV_tup, slL_list, revV_tup, revV_list, tupleV_list, listV_list, listV_tup, eqV_str, neV_str, eqV_int, List.set_cons_zero, List.set_cons_succ, List.getElem?_cons_zero, List.getElem?_cons_succ, List.length_cons, List.length_nil, ↓reduceIte, Bool.false_eq_true, Bool.not_true, Bool.not_false, wn_ite, gT2, gT3, neV_tup, eqV_tup, in_tup, notin_tup', lineN_eq, Nat.reduceAdd, Nat.reduceLeDiff, Nat.zero_le, true_and, and_true, List.map_nil, List.map_cons, exists_eq_left', Option.some.injEq, PyData.list.injEq, exists_eq_left, PyData.int.injEq, R.ok.injEq, Sl.own.injEq]
                        refine sn_zput ?_
                        simp only [wn_ok, wn_some, wn_only, wn_noex, wn_e2, wn_e1, wn_eN, wn_a0, wn_aC, wn_call, wn_tb, wn_tup, wn_lst, wn_andB, wn_orB, wn_notB, wn_andV, wn_orV, wn_notV, wn_ifV, wn_iA, wn_iR1, wn_iR2, wn_iZ, wn_iEn, wn_iRR, wn_sl, wn_p0, wn_p1, wn_up, wn_upB, wn_upI, wn_x2, wn_x0, wn_xC, wn_xN, wn_xb, wn_xAnd, wn_xOr, wn_xNot, wn_xIf, wn_xCall, wn_xR1, wn_xR2, sn_nx, sn_rt, sn_bk, sn_ct, sn_seq, sn_set, sn_ret, sn_expr, sn_if, sn_for, sn_xSet, sn_xRet, sn_xExpr, sn_xIf, sn_xFor, sn_asg, sn_xAsg, sn_own, sn_xOwn, gv_zero, gv_succ, go_own, go_dat, go_succ, k0_def, gN_def, tru_bool, tru_none, tru_int, tru_list, asSeq_list, asSeq_tup, addV_int, subV_int, ltA_i, leA_i, gtA_i, geA_i, negV_int, intV_int, lenV_list, lenV_tup, ixV_list, ixV_tup, asInt_int, slV_list, slV_tup, slL_list, revV_tup, revV_list, tupleV_list, listV_list, listV_tup, eqV_str, neV_str, eqV_int, List.set_cons_zero, List.set_cons_succ, List.getElem?_cons_zero, List.getElem?_cons_succ, List.length_cons, List.length_nil, ↓reduceIte, Bool.false_eq_true, Bool.not_true, Bool.not_false, wn_ite, gT2, gT3, neV_tup, eqV_tup, in_tup, notin_tup', lineN_eq, Nat.reduceAdd, Nat.reduceLeDiff, Nat.zero_le, true_and, and_true, List.map_nil, List.map_cons, exists_eq_left', Option.some.injEq, PyData.list.injEq, exists_eq_left, PyData.int.injEq, R.ok.injEq, Sl.own.injEq]
                        refine ⟨zsD hs, rfl, by cases s6 <;> cases s10 <;> rfl, by rw [zs_len]; omega, [e.1, e.2, c], rfl, ?_⟩
                        have b := Gro.verts (n := h) hn (by decide) g (s := [e.1, e.2, c]) (fun f mf => ?_) (by
                          obtain ⟨f, mf, v, ev, l⟩ := dn
                          exact ⟨f, mf, v, ev, by omega⟩) ⟨by show 2 ≤ 3; decide, st⟩ up
                        · refine ⟨m, put hs [e.1, e.2, c] h, kx9, some (.int c), some (.int h), hk9, rfl, hm', g.put hn (by decide) (in3 m1 m2 mc lt lt2) rfl (by decide) up b, ?_⟩
                          rw [zput_put]
                        · obtain ⟨v, ev, _⟩ := up f mf
                          exact List.mem_map.mpr ⟨_, look_mem ev, rfl⟩
              · rintro η ⟨m, hs, kx', s11, s12, hk', e1, hm, g, rfl⟩
                exact ⟨l, hs, kx', some _, some _, s11, s12, hk', rfl, fun y my => hl y (List.mem_cons_of_mem _ my), g, rfl⟩
          · rintro η ⟨l, hs, kx8, s8, s9, s11, s12, hk8, e1, hl, g, rfl⟩
            have lh := g.len hn.asc nl
            simp only [wn_ok, wn_some, wn_only, wn_noex, wn_e2, wn_e1, wn_eN, wn_a0, wn_aC, wn_call, wn_tb, wn_tup, wn_lst, wn_andB, wn_orB, wn_notB, wn_andV, wn_orV, wn_notV, wn_ifV, wn_iA, wn_iR1, wn_iR2, wn_iZ, wn_iEn, wn_iRR, wn_sl, wn_p0, wn_p1, wn_up, wn_upB, wn_upI, wn_x2, wn_x0, wn_xC, wn_xN, wn_xb, wn_xAnd, wn_xOr, wn_xNot, wn_xIf, wn_xCall, wn_xR1, wn_xR2, sn_nx, sn_rt, sn_bk, sn_ct, sn_seq, sn_set, sn_ret, sn_expr, sn_if, sn_for, sn_xSet, sn_xRet, sn_xExpr, sn_xIf, sn_xFor, sn_asg, sn_xAsg, sn_own, sn_xOwn, gv_zero, gv_succ, go_own, go_dat, go_succ, k0_def, gN_def, tru_bool, tru_none, tru_int, tru_list, asSeq_list, asSeq_tup, addV_int, subV_int, ltA_i, leA_i, gtA_i, geA_i, negV_int, intV_int, lenV_list, lenV_tup, ixV_list, ixV_tup, asInt_int, slV_list, slV_tup, slL_list, revV_tup, revV_list, tupleV_list, listV_list, listV_tup, eqV_str, neV_str, eqV_int, List.set_cons_zero, List.set_cons_succ, List.getElem?_cons_zero, List.getElem?_cons_succ, List.length_cons, List.length_nil, ↓reduceIte, Bool.false_eq_true, Bool.not_true, Bool.not_false, wn_ite, gT2, gT3, neV_tup, eqV_tup, in_tup, notin_tup', lineN_eq, Nat.reduceAdd, Nat.reduceLeDiff, Nat.zero_le, true_and, and_true, List.map_nil, List.map_cons, exists_eq_left', Option.some.injEq, PyData.list.injEq, exists_eq_left, PyData.int.injEq, R.ok.injEq, Sl.own.injEq]
            rw [wn_zlist (ks := zsD hs) rfl]
            refine ⟨by rw [zs_len, lineN_eq]; omega, ?_⟩
            have ek : (zsD hs).map (fun p => tupI p.1) = hs.map fun p => tupI p.1 := by
              unfold zsD
              rw [List.map_map]
              rfl
            rw [ek]
            simp only [wn_ok, wn_some, wn_only, wn_noex, wn_e2, wn_e1, wn_eN, wn_a0, wn_aC, wn_call, wn_tb, wn_tup, wn_lst, wn_andB, wn_orB, wn_notB, wn_andV, wn_orV, wn_notV, wn_ifV, wn_iA, wn_iR1, wn_iR2, wn_iZ, wn_iEn, wn_iRR, wn_sl, wn_p0, wn_p1, wn_up, wn_upB, wn_upI, wn_x2, wn_x0, wn_xC, wn_xN, wn_xb, wn_xAnd, wn_xOr, wn_xNot, wn_xIf, wn_xCall, wn_xR1, wn_xR2, sn_nx, sn_rt, sn_bk, sn_ct, sn_seq, sn_set, sn_ret, sn_expr, sn_if, sn_for, sn_xSet, sn_xRet, sn_xExpr, sn_xIf, sn_xFor, sn_asg, sn_xAsg, sn_own, sn_xOwn, gv_zero, gv_succ, go_own, go_dat, go_succ, k0_def, gN_def, tru_bool, tru_none, tru_int, tru_list, asSeq_list, asSeq_tup, addV_int, subV_int, ltA_i, leA_i, gtA_i, geA_i, negV_int, intV_int, lenV_list, lenV_tup, ixV_list, ixV_tup, asInt_int, slV_list, slV_tup, slL_list, revV_tup, revV_list, tupleV_list, listV_list, listV_tup, eqV_str, neV_str, eqV_int, List.set_cons_zero, List.set_cons_succ, List.getElem?_cons_zero, List.getElem?_cons_succ, List.length_cons, List.length_nil, ↓reduceIte, Bool.false_eq_true, Bool.not_true, Bool.not_false, wn_ite, gT2, gT3, neV_tup, eqV_tup, in_tup, notin_tup', lineN_eq, Nat.reduceAdd, Nat.reduceLeDiff, Nat.zero_le, true_and, and_true, List.map_nil, List.map_cons, exists_eq_left', Option.some.injEq, PyData.list.injEq, exists_eq_left, PyData.int.injEq, R.ok.injEq, Sl.own.injEq]
            -- the items in any sequence
            refine sn_loop (fun rest η => ∃ (l : List Ih) (it : List Ih) (kx' : List D) (s14 : Option D), Dk.Deck kx' ∧ rest = l.map (fun p => tupI p.1) ∧ (it ++ l.map fun p => (p.1, far * p.2)).Perm (hs.map fun p => (p.1, far * p.2)) ∧ (∀ p ∈ l, p ∈ hs) ∧
                η = frm kx' done wide far hs (od s6) (.d (.list (es.map fun e => tupI (edgeR e)))) (od s8) (od s9) (od s10) (od s11) (od s12) (.own ⟨true, it.map itD⟩) (od s14)) ?_ ?_ _ _ ⟨hs, [], kx8, none, hk8, rfl, List.Perm.refl _, fun _ m => m, rfl⟩
            · rintro x rest η ⟨l, it, kx', s14, hk', e1, hp, hl, rfl⟩
              cases l with
              | nil => cases e1
              | cons p l =>
                rw [List.map_cons] at e1
                obtain ⟨rfl, rfl⟩ := List.cons.inj e1
                have pl := hp.length_eq
                rw [List.length_append, List.length_map, List.length_map, List.length_cons] at pl
                refine ⟨_, rfl, ?_⟩
                simp only [wn_ok, wn_some, wn_only, wn_noex, wn_e2, wn_e1, wn_eN, wn_a0, wn_aC, wn_call, wn_tb, wn_tup, wn_lst, wn_andB, wn_orB, wn_notB, wn_andV, wn_orV, wn_notV, wn_ifV, wn_iA, wn_iR1, wn_iR2, wn_iZ, wn_iEn, wn_iRR, wn_sl, wn_p0, wn_p1, wn_up, wn_upB, wn_upI, wn_x2, wn_x0, wn_xC, wn_xN, wn_xb, wn_xAnd, wn_xOr, wn_xNot, wn_xIf, wn_xCall, wn_xR1, wn_xR2, sn_nx, sn_rt, sn_bk, sn_ct, sn_seq, sn_set, sn_ret, sn_expr, sn_if, sn_for, sn_xSet, sn_xRet, sn_xExpr, sn_xIf, sn_xFor, sn_asg, sn_xAsg, sn_own, sn_xOwn, gv_zero, gv_succ, go_own, go_dat, go_succ, k0_def, gN_def, tru_bool, tru_none, tru_int, tru_list, asSeq_list, asSeq_tup, addV_int, subV_int, ltA_i, leA_i, gtA_i, geA_i, negV_int, intV_int, lenV_list, lenV_tup, ixV_list, ixV_tup, asInt_int, slV_list, slV_tup, slL_list, revV_tup, revV_list, tupleV_list, listV_list, listV_tup, eqV_str, neV_str, eqV_int, List.set_cons_zero, List.set_cons_succ, List.getElem?_cons_zero, List.getElem?_cons_succ, List.length_cons, List.length_nil, ↓reduceIte, Bool.false_eq_true, Bool.not_true, Bool.not_false, wn_ite, gT2, gT3, neV_tup, eqV_tup, in_tup, notin_tup', lineN_eq, Nat.reduceAdd, Nat.reduceLeDiff, Nat.zero_le, true_and, and_true, List.map_nil, List.map_cons, exists_eq_left', Option.some.injEq, PyData.list.injEq, exists_eq_left, PyData.int.injEq, R.ok.injEq, Sl.own.injEq]
                refine sn_xIns (o := ⟨true, it.map itD⟩) rfl ?_
                simp only [wn_ok, wn_some, wn_only, wn_noex, wn_e2, wn_e1, wn_eN, wn_a0, wn_aC, wn_call, wn_tb, wn_tup, wn_lst, wn_andB, wn_orB, wn_notB, wn_andV, wn_orV, wn_notV, wn_ifV, wn_iA, wn_iR1, wn_iR2, wn_iZ, wn_iEn, wn_iRR, wn_sl, wn_p0, wn_p1, wn_up, wn_upB, wn_upI, wn_x2, wn_x0, wn_xC, wn_xN, wn_xb, wn_xAnd, wn_xOr, wn_xNot, wn_xIf, wn_xCall, wn_xR1, wn_xR2, sn_nx, sn_rt, sn_bk, sn_ct, sn_seq, sn_set, sn_ret, sn_expr, sn_if, sn_for, sn_xSet, sn_xRet, sn_xExpr, sn_xIf, sn_xFor, sn_asg, sn_xAsg, sn_own, sn_xOwn, gv_zero, gv_succ, go_own, go_dat, go_succ, k0_def, gN_def, tru_bool, tru_none, tru_int, tru_list, asSeq_list, asSeq_tup, addV_int, subV_int, ltA_i, leA_i, gtA_i, geA_i, negV_int, intV_int, lenV_list, lenV_tup, ixV_list, ixV_tup, asInt_int, slV_list, slV_tup, slL_list, revV_tup, revV_list, tupleV_list, listV_list, listV_tup, eqV_str, neV_str, eqV_int, List.set_cons_zero, List.set_cons_succ, List.getElem?_cons_zero, List.getElem?_cons_succ, List.length_cons, List.length_nil, ↓reduceIte, Bool.false_eq_true, Bool.not_true, Bool.not_false, wn_ite, gT2, gT3, neV_tup, eqV_tup, in_tup, notin_tup', lineN_eq, Nat.reduceAdd, Nat.reduceLeDiff, Nat.zero_le, true_and, and_true, List.map_nil, List.map_cons, exists_eq_left', Option.some.injEq, PyData.list.injEq, exists_eq_left, PyData.int.injEq, R.ok.injEq, Sl.own.injEq]
                refine wn_callK rfl ?_
                simp only [wn_ok, wn_some, wn_only, wn_noex, wn_e2, wn_e1, wn_eN, wn_a0, wn_aC, wn_call, wn_tb, wn_tup, wn_lst, wn_andB, wn_orB, wn_notB, wn_andV, wn_orV, wn_notV, wn_ifV, wn_iA, wn_iR1, wn_iR2, wn_iZ, wn_iEn, wn_iRR, wn_sl, wn_p0, wn_p1, wn_up, wn_upB, wn_upI, wn_x2, wn_x0, wn_xC, wn_xN, wn_xb, wn_xAnd, wn_xOr, wn_xNot, wn_xIf, wn_xCall, wn_xR1, wn_xR2, sn_nx, sn_rt, sn_bk, sn_ct, sn_seq, sn_set, sn_ret, sn_expr, sn_if, sn_for, sn_xSet, sn_xRet, sn_xExpr, sn_xIf, sn_xFor, sn_asg, sn_xAsg, sn_own, sn_xOwn, gv_zero, gv_succ, go_own, go_dat, go_succ, k0_def, gN_def, tru_bool, tru_none, tru_int, tru_list, asSeq_list, asSeq_tup, addV_int, subV_int, ltA_i, leA_i, gtA_i, geA_i, negV_int, intV_int, lenV_list, lenV_tup, ixV_list, ixV_tup, asInt_int, slV_list, slV_tup, slL_list, revV_tup, revV_list, tupleV_list, listV_list, listV_tup, eqV_str, neV_str, eqV_int, List.set_cons_zero, List.set_cons_succ, List.getElem?_cons_zero, List.getElem?_cons_succ, List.length_cons, List.length_nil, ↓reduceIte, Bool.false_eq_true, Bool.not_true, Bool.not_false, wn_ite, gT2, gT3, neV_tup, eqV_tup, in_tup, notin_tup', lineN_eq, Nat.reduceAdd, Nat.reduceLeDiff, Nat.zero_le, true_and, and_true, List.map_nil, List.map_cons, exists_eq_left', Option.some.injEq, PyData.list.injEq, exists_eq_left, PyData.int.injEq, R.ok.injEq, Sl.own.injEq, List.length_map]
                refine wn_draw hk' (by omega) fun j kx9 hk9 j0 j1 => ?_
                simp only [wn_ok, wn_some, wn_only, wn_noex, wn_e2, wn_e1, wn_eN, wn_a0, wn_aC, wn_call, wn_tb, wn_tup, wn_lst, wn_andB, wn_orB, wn_notB, wn_andV, wn_orV, wn_notV, wn_ifV, wn_iA, wn_iR1, wn_iR2, wn_iZ, wn_iEn, wn_iRR, wn_sl, wn_p0, wn_p1, wn_up, wn_upB, wn_upI, wn_x2, wn_x0, wn_xC, wn_xN, wn_xb, wn_xAnd, wn_xOr, wn_xNot, wn_xIf, wn_xCall, wn_xR1, wn_xR2, sn_nx, sn_rt, sn_bk, sn_ct, sn_seq, sn_set, sn_ret, sn_expr, sn_if, sn_for, sn_xSet, sn_xRet, sn_xExpr, sn_xIf, sn_xFor, sn_asg, sn_xAsg, sn_own, sn_xOwn, gv_zero, gv_succ, go_own, go_dat, go_succ, k0_def, gN_def, tru_bool, tru_none, tru_int, tru_list, asSeq_list, asSeq_tup, addV_int, subV_int, ltA_i, leA_i, gtA_i, geA_i, negV_int, intV_int, lenV_list, lenV_tup, ixV_list, ixV_tup, asInt_int, slV_list, slV_tup, slL_list, revV_tup, revV_list, tupleV_list, listV_list, listV_tup, eqV_str, neV_str, eqV_int, List.set_cons_zero, List.set_cons_succ, List.getElem?_cons_zero, List.getElem?_cons_succ, List.length_cons, List.length_nil, ↓reduceIte, Bool.false_eq_true, Bool.not_true, Bool.not_false, wn_ite, gT2, gT3, neV_tup, eqV_tup, in_tup, notin_tup', lineN_eq, Nat.reduceAdd, Nat.reduceLeDiff, Nat.zero_le, true_and, and_true, List.map_nil, List.map_cons, exists_eq_left', Option.some.injEq, PyData.list.injEq, exists_eq_left, PyData.int.injEq, R.ok.injEq, Sl.own.injEq]
                rw [wn_zgetD (ks := zsD hs) rfl]
                simp only [wn_ok, wn_some, wn_only, wn_noex, wn_e2, wn_e1, wn_eN, wn_a0, wn_aC, wn_call, wn_tb, wn_tup, wn_lst, wn_andB, wn_orB, wn_notB, wn_andV, wn_orV, wn_notV, wn_ifV, wn_iA, wn_iR1, wn_iR2, wn_iZ, wn_iEn, wn_iRR, wn_sl, wn_p0, wn_p1, wn_up, wn_upB, wn_upI, wn_x2, wn_x0, wn_xC, wn_xN, wn_xb, wn_xAnd, wn_xOr, wn_xNot, wn_xIf, wn_xCall, wn_xR1, wn_xR2, sn_nx, sn_rt, sn_bk, sn_ct, sn_seq, sn_set, sn_ret, sn_expr, sn_if, sn_for, sn_xSet, sn_xRet, sn_xExpr, sn_xIf, sn_xFor, sn_asg, sn_xAsg, sn_own, sn_xOwn, gv_zero, gv_succ, go_own, go_dat, go_succ, k0_def, gN_def, tru_bool, tru_none, tru_int, tru_list, asSeq_list, asSeq_tup, addV_int, subV_int, ltA_i, leA_i, gtA_i, geA_i, negV_int, intV_int, lenV_list, lenV_tup, ixV_list, ixV_tup, asInt_int, slV_list, slV_tup, slL_list, revV_tup, revV_list, tupleV_list, listV_list, listV_tup, eqV_str, neV_str, eqV_int, List.set_cons_zero, List.set_cons_succ, List.getElem?_cons_zero, List.getElem?_cons_succ, List.length_cons, List.length_nil, ↓reduceIte, Bool.false_eq_true, Bool.not_true, Bool.not_false, wn_ite, gT2, gT3, neV_tup, eqV_tup, in_tup, notin_tup', lineN_eq, Nat.reduceAdd, Nat.reduceLeDiff, Nat.zero_le, true_and, and_true, List.map_nil, List.map_cons, exists_eq_left', Option.some.injEq, PyData.list.injEq, exists_eq_left, PyData.int.injEq, R.ok.injEq, Sl.own.injEq]
                refine ⟨p.1, keyD_tup _, ?_⟩
                rw [zat_look, look_eq g.nd (hl p List.mem_cons_self)]
                obtain ⟨b1, b2⟩ := g.bd p (hl p List.mem_cons_self)
                rw [show (Option.map PyData.int (some p.2)) = some (PyData.int p.2) from rfl]
                simp only [wn_ok, wn_some, wn_only, wn_noex, wn_e2, wn_e1, wn_eN, wn_a0, wn_aC, wn_call, wn_tb, wn_tup, wn_lst, wn_andB, wn_orB, wn_notB, wn_andV, wn_orV, wn_notV, wn_ifV, wn_iA, wn_iR1, wn_iR2, wn_iZ, wn_iEn, wn_iRR, wn_sl, wn_p0, wn_p1, wn_up, wn_upB, wn_upI, wn_x2, wn_x0, wn_xC, wn_xN, wn_xb, wn_xAnd, wn_xOr, wn_xNot, wn_xIf, wn_xCall, wn_xR1, wn_xR2, sn_nx, sn_rt, sn_bk, sn_ct, sn_seq, sn_set, sn_ret, sn_expr, sn_if, sn_for, sn_xSet, sn_xRet, sn_xExpr, sn_xIf, sn_xFor, sn_asg, sn_xAsg, sn_own, sn_xOwn, gv_zero, gv_succ, go_own, go_dat, go_succ, k0_def, gN_def, tru_bool, tru_none, tru_int, tru_list, asSeq_list, asSeq_tup, addV_int, subV_int, ltA_i, leA_i, gtA_i, geA_i, negV_int, intV_int, lenV_list, lenV_tup, ixV_list, ixV_tup, asInt_int, slV_list, slV_tup, slL_list, revV_tup, revV_list, tupleV_list, listV_list, listV_tup, eqV_str, neV_str, eqV_int, List.set_cons_zero, List.set_cons_succ, List.getElem?_cons_zero, List.getElem?_cons_succ, List.length_cons, List.length_nil, ↓reduceIte, Bool.false_eq_true, Bool.not_true, Bool.not_false, wn_ite, gT2, gT3, neV_tup, eqV_tup, in_tup, notin_tup', lineN_eq, Nat.reduceAdd, Nat.reduceLeDiff, Nat.zero_le, true_and, and_true, List.map_nil, List.map_cons, exists_eq_left', Option.some.injEq, PyData.list.injEq, exists_eq_left, PyData.int.injEq, R.ok.injEq, Sl.own.injEq]
                rw [mulV_int (.inl (by omega))]
                simp only [wn_ok, wn_some, wn_only, wn_noex, wn_e2, wn_e1, wn_eN, wn_a0, wn_aC, wn_call, wn_tb, wn_tup, wn_lst, wn_andB, wn_orB, wn_notB, wn_andV, wn_orV, wn_notV, wn_ifV, wn_iA, wn_iR1, wn_iR2, wn_iZ, wn_iEn, wn_iRR, wn_sl, wn_p0, wn_p1, wn_up, wn_upB, wn_upI, wn_x2, wn_x0, wn_xC, wn_xN, wn_xb, wn_xAnd, wn_xOr, wn_xNot, wn_xIf, wn_xCall, wn_xR1, wn_xR2, sn_nx, sn_rt, sn_bk, sn_ct, sn_seq, sn_set, sn_ret, sn_expr, sn_if, sn_for, sn_xSet, sn_xRet, sn_xExpr, sn_xIf, sn_xFor, sn_asg, sn_xAsg, sn_own, sn_xOwn, gv_zero, gv_succ, go_own, go_dat, go_succ, k0_def, gN_def, tru_bool, tru_none, tru_int, tru_list, asSeq_list, asSeq_tup, addV_int, subV_int, ltA_i, leA_i, gtA_i, geA_i, negV_int, intV_int, lenV_list, lenV_tup, ixV_list, ixV_tup, asInt_int, slV_list, slV_tup, slL_list, revV_tup, revV_list, tupleV_list, listV_list, listV_tup, eqV_str, neV_str, eqV_int, List.set_cons_zero, List.set_cons_succ, List.getElem?_cons_zero, List.getElem?_cons_succ, List.length_cons, List.length_nil, ↓reduceIte, Bool.false_eq_true, Bool.not_true, Bool.not_false, wn_ite, gT2, gT3, neV_tup, eqV_tup, in_tup, notin_tup', lineN_eq, Nat.reduceAdd, Nat.reduceLeDiff, Nat.zero_le, true_and, and_true, List.map_nil, List.map_cons, exists_eq_left', Option.some.injEq, PyData.list.injEq, exists_eq_left, PyData.int.injEq, R.ok.injEq, Sl.own.injEq]
                refine ⟨_, j, _, rfl, rfl, j0, by omega, by rw [List.length_map]; omega, ?_⟩
                refine ⟨l, it.take j.toNat ++ [(p.1, far * p.2)] ++ it.drop j.toNat, kx9, some (tupI p.1), hk9, rfl, ?_, fun y m => hl y (List.mem_cons_of_mem _ m), ?_⟩
                · refine List.Perm.trans ?_ hp
                  rw [List.map_cons]
                  have q1 : (it.take j.toNat ++ [(p.1, far * p.2)] ++ it.drop j.toNat).Perm (it ++ [(p.1, far * p.2)]) := by
                    have e0 := List.take_append_drop j.toNat it
                    have p1 : ([(p.1, far * p.2)] ++ it.drop j.toNat).Perm (it.drop j.toNat ++ [(p.1, far * p.2)]) := List.perm_append_comm
                    have p2 := p1.append_left (it.take j.toNat)
                    rw [← List.append_assoc, ← List.append_assoc, e0] at p2
                    exact p2
                  have q2 := q1.append_right (l.map fun p => (p.1, far * p.2))
                  rw [List.append_assoc it] at q2
                  exact q2
                · rw [List.map_append, List.map_append, List.map_take, List.map_drop]
                  rfl
            · rintro η ⟨l, it, kx', s14, hk', e1, hp, hl, rfl⟩
              have : l = [] := List.map_eq_nil_iff.mp e1.symm
              subst this
              rw [List.map_nil, List.append_nil] at hp
              refine sn_frz (xs := it.map itD) rfl ?_
              simp only [wn_ok, wn_some, wn_only, wn_noex, wn_e2, wn_e1, wn_eN, wn_a0, wn_aC, wn_call, wn_tb, wn_tup, wn_lst, wn_andB, wn_orB, wn_notB, wn_andV, wn_orV, wn_notV, wn_ifV, wn_iA, wn_iR1, wn_iR2, wn_iZ, wn_iEn, wn_iRR, wn_sl, wn_p0, wn_p1, wn_up, wn_upB, wn_upI, wn_x2, wn_x0, wn_xC, wn_xN, wn_xb, wn_xAnd, wn_xOr, wn_xNot, wn_xIf, wn_xCall, wn_xR1, wn_xR2, sn_nx, sn_rt, sn_bk, sn_ct, sn_seq, sn_set, sn_ret, sn_expr, sn_if, sn_for, sn_xSet, sn_xRet, sn_xExpr, sn_xIf, sn_xFor, sn_asg, sn_xAsg, sn_own, sn_xOwn, gv_zero, gv_succ, go_own, go_dat, go_succ, k0_def, gN_def, tru_bool, tru_none, tru_int, tru_list, asSeq_list, asSeq_tup, addV_int, subV_int, ltA_i, leA_i, gtA_i, geA_i, negV_int, intV_int, lenV_list, lenV_tup, ixV_list, ixV_tup, asInt_int, slV_list, slV_tup, slL_list, revV_tup, revV_list, tupleV_list, listV_list, listV_tup, eqV_str, neV_str, eqV_int, List.set_cons_zero, List.set_cons_succ, List.getElem?_cons_zero, List.getElem?_cons_succ, List.length_cons, List.length_nil, ↓reduceIte, Bool.false_eq_true, Bool.not_true, Bool.not_false, wn_ite, gT2, gT3, neV_tup, eqV_tup, in_tup, notin_tup', lineN_eq, Nat.reduceAdd, Nat.reduceLeDiff, Nat.zero_le, true_and, and_true, List.map_nil, List.map_cons, exists_eq_left', Option.some.injEq, PyData.list.injEq, exists_eq_left, PyData.int.injEq, R.ok.injEq, Sl.own.injEq]
              refine ⟨kx', rfl, k it kx' hk' ((g.shp hn f0 f1).perm hp) ?_⟩
              rw [hp.length_eq, List.length_map]
              exact lh
        · exact hv
end Sh
end Bd
/-! Q36: both sides' order of growing, places up to a height, their rims. -/
namespace Bd
open PySem L2
namespace Sh
theorem len_tup (s : Row) : lenV [tupI s] = some (.int (s.length : Nat)) := by
  show some (PyData.int ((s.map PyData.int).length : Nat)) = _
  rw [List.length_map]
theorem tup_depth (s : Row) : (tupI s).depth ≤ 1 := by
  have : (tupI s).depth = (PyData.depthAll (s.map PyData.int)) + 1 := by
    show (PyData.tuple (s.map PyData.int)).depth = _
    rw [PyData.depth]
  have z : ∀ l : Row, PyData.depthAll (l.map PyData.int) = 0 := by
    intro l
    induction l with
    | nil => rfl
    | cons x l ih =>
      rw [List.map_cons, PyData.depthAll, ih, PyData.depth]
      rfl
  rw [this, z]
  exact Nat.le_refl _
theorem alike_ints : ∀ a b : Row, PySem.W.alikeAll (a.map PyData.int) (b.map PyData.int) = true
  | [], b => by cases b <;> simp [PySem.W.alikeAll]
  | x :: a, [] => by simp [PySem.W.alikeAll]
  | x :: a, y :: b => by simp [PySem.W.alikeAll, PySem.W.alike, alike_ints a b]
/-- told of an item -/
def onIt (F : Ih → D) : D → D
  | .tuple [.tuple l, .int h] => F ((ints? l).getD [], h)
  | _ => .none
theorem onIt_it (F : Ih → D) (p : Ih) : onIt F (itD p) = F p := by
  show F ((ints? (p.1.map PyData.int)).getD [], p.2) = F p
  rw [ints?_map]
  rfl
theorem onIts (F : Ih → D) {xs : List Ih} : ((xs.map itD).filter fun _ => true).map (onIt F) = xs.map F := by
  rw [List.filter_eq_self.mpr fun _ _ => rfl, List.map_map]
  exact List.map_congr_left fun s _ => onIt_it F s
/-- which items -/
def byIt (F : Ih → Bool) : D → Bool
  | .tuple [.tuple l, .int h] => F ((ints? l).getD [], h)
  | _ => false
theorem byIt_it (F : Ih → Bool) (p : Ih) : byIt F (itD p) = F p := by
  show F ((ints? (p.1.map PyData.int)).getD [], p.2) = F p
  rw [ints?_map]
  rfl
theorem byIts (F : Ih → Bool) (G : Ih → D) {xs : List Ih} : ((xs.map itD).filter (byIt F)).map (onIt G) = (xs.filter F).map G := by
  rw [List.filter_map, List.map_map]
  have : (byIt F ∘ itD) = F := funext fun p => byIt_it F p
  rw [this]
  exact List.map_congr_left fun s _ => onIt_it G s
end Sh
end Bd
/-! M8: the calculus with errors: Sx (statements). -/
namespace Bd
open PySem L2
@[irreducible] def Sx (r : Rs) (N : Nv → Prop) (T : D → Nv → Prop) (B C : Nv → Prop) (X : Str → Str → D → Prop) : Prop := match r with
  | .nx η => N η
  | .rt d η => T d η
  | .bk η => B η
  | .ct η => C η
  | .ex c w p => X c w p
  | .no => False
section
variable {r : Rs} {N B C : Nv → Prop} {T : D → Nv → Prop} {X : Str → Str → D → Prop} {η : Nv}
theorem Sx.imp {N' B' C' : Nv → Prop} {T' : D → Nv → Prop} {X' : Str → Str → D → Prop} (h : Sx r N T B C X) (kN : ∀ η, N η → N' η) (kT : ∀ d η, T d η → T' d η) (kB : ∀ η, B η → B' η) (kC : ∀ η, C η → C' η) (kX : ∀ c w p, X c w p → X' c w p) : Sx r N' T' B' C' X' := by
  unfold Sx at *
  cases r with
  | nx η => exact kN _ h
  | rt d η => exact kT _ _ h
  | bk η => exact kB _ h
  | ct η => exact kC _ h
  | ex c w p => exact kX _ _ _ h
  | no => exact h
end
end Bd
/-! R1: shapes by cells: the laws' _law_faces, _law_parts, _law_closed. -/
namespace Bd
open PySem L2
namespace Sc
open Sh
def G__law_faces : Nv → Rs :=
    (seqS (ifS (tb (e2 eqV' (eN lenV (aC (gv 0) a0)) (k0 (.int 1)))) (seqS (retS (lstV a0))
    .nx) .nx)
    (seqS (retS (compE (iA (slE slV (lstV (aC (k0 (.int 2)) (aC (k0 (.int 1)) (aC (k0 (.int 0)) a0)))) (p1 (e2 subV (k0 (.int 3)) (eN lenV (aC (gv 0) a0)))) p0)) (gN 1) (fun _ => .ok true) (e2 addV (slE slV (gv 0) p0 (p1 (gv 1))) (slE slV (gv 0) (p1 (e2 addV (gv 1) (k0 (.int 1)))) p0)) [1]))
    .nx))
def F__law_faces : List D → R D := runD 2 .no G__law_faces
def G__law_parts : Nv → Rs :=
    (seqS (ownS 1 (lstV a0))
    (seqS (forS (iR2 (aC (k0 (.int 1)) (aC (e2 ixV (lstV (aC (k0 (.int 2)) (aC (k0 (.int 4)) (aC (k0 (.int 8)) a0)))) (e2 subV (eN lenV (aC (gv 0) a0)) (k0 (.int 1)))) a0))) (gN 2) (seqS (appS 1 (eN tupleV (aC (compE (iR1 (aC (eN lenV (aC (gv 0) a0)) a0)) (gN 3) (tb (e2 eqV' (e2 modV (eN intV (aC (e2 fdivV (gv 2) (e2 ixV (lstV (aC (k0 (.int 1)) (aC (k0 (.int 2)) (aC (k0 (.int 4)) a0)))) (gv 3))) a0)) (k0 (.int 2))) (k0 (.int 1)))) (e2 ixV (gv 0) (gv 3)) [3]) a0)))
    .nx))
    (seqS (retO 1)
    .nx)))
def F__law_parts : List D → R D := runD 4 .no G__law_parts
def G__law_closed : Nv → Rs :=
    (seqS (setS 3 (e2 addV (k0 (.int 1)) (e2 modV (eN intV (aC (e2 ixV (gv 0) (k0 (.int 0))) a0)) (k0 (.int 2)))))
    (seqS (setS 4 (e2 modV (eN intV (aC (e2 ixV (gv 0) (k0 (.int 1))) a0)) (e2 ixV (lstV (aC (k0 (.int 7)) (aC (k0 (.int 2)) a0))) (e2 subV (gv 3) (k0 (.int 1))))))
    (seqS (ownS 5 (lstV a0))
    (seqS (forS (iR1 (aC (gv 2) a0)) (gN 6) (seqS (setS 7 (callV Lw.F_row (aC (e2 addV (eN intV (aC (gv 1) a0)) (e2 mulV (k0 (.int 1009)) (gv 6))) (aC (k0 (.int 4)) (aC (k0 (.int 720)) a0)))))
    (seqS (setS 8 (compE (iR1 (aC (e2 addV (k0 (.int 1)) (e2 modV (eN intV (aC (e2 ixV (gv 7) (k0 (.int 3))) a0)) (k0 (.int 3)))) a0)) (gN 12) (fun _ => .ok true) (e2 addV (gv 4) (e2 mulV (gv 3) (e2 modV (eN intV (aC (e2 ixV (gv 7) (gv 12)) a0)) (k0 (.int 6))))) [12]))
    (seqS (setS 9 (eN sortAV (aC (compE (iR1 (aC (eN lenV (aC (gv 8) a0)) a0)) (gN 12) (tb (e2 ninV' (e2 ixV (gv 8) (gv 12)) (slE slV (gv 8) p0 (p1 (gv 12))))) (e2 ixV (gv 8) (gv 12)) [12]) a0)))
    (seqS (forS (iA (callV F__law_parts (aC (gv 9) a0))) (gN 10) (seqS (ifS (tb (e2 ninV' (tupV (aC (eN lenV (aC (gv 10) a0)) (aC (gv 10) a0))) (go 5))) (seqS (appS 5 (tupV (aC (eN lenV (aC (gv 10) a0)) (aC (gv 10) a0))))
    .nx) .nx)
    .nx))
    .nx)))))
    (seqS (frzS 5)
    (seqS (retS (compE (iA (eN sortAV (aC (gv 5) a0))) (gT 2 (gsC (gN 11) (gsC (gN 10) gs0))) (fun _ => .ok true) (gv 10) [11, 10]))
    .nx))))))
def F__law_closed : List D → R D := runD 13 .no G__law_closed
theorem sl_take (s : Row) (k : Nat) : slV none (some (k : Int)) (tupI s) = some (tupI (s.take k)) := by
  show some (PyData.tuple (Bd.cutD (s.map PyData.int) none (some (k : Int)))) = _
  rw [cut_take _ _ (by omega), Int.toNat_natCast, ← List.map_take]
  rfl
theorem sl_drop (s : Row) (k : Nat) : slV (some (k : Int)) none (tupI s) = some (tupI (s.drop k)) := by
  show some (PyData.tuple (Bd.cutD (s.map PyData.int) (some (k : Int)) none)) = _
  rw [cut_drop _ _ (by omega), Int.toNat_natCast, ← List.map_drop]
  rfl
theorem add_tupI (a b : Row) (h : a.length + b.length ≤ 1000) : addV (tupI a) (tupI b) = some (tupI (a ++ b)) := by
  show addV (.tuple (a.map PyData.int)) (.tuple (b.map PyData.int)) = _
  rw [addV_tup (by rw [List.length_map, List.length_map]; omega), ← List.map_append]
  rfl
def outD (s : Row) : D → D
  | .int i => tupI (s.take i.toNat ++ s.drop (i.toNat + 1))
  | _ => .none
theorem lfaces_ok {s : Row} (hs : Smp s) : F__law_faces [tupI s] = .ok (.list ((facesL s).reverse.map tupI)) := by
  refine Wn.eq (wn_runD ?_)
  show Sn (G__law_faces [.d (tupI s), .no]) _ _ _ _
  unfold G__law_faces
  have h1 := hs.lo
  have h2 := hs.hi
  by_cases l1 : s.length = 1
  · have e1 : (((s.length : Nat) : Int) == 1) = true := by simp [l1]
    simp only [wn_ok, wn_some, wn_only, wn_noex, wn_e2, wn_e1, wn_eN, wn_a0, wn_aC, wn_call, wn_tb, wn_tup, wn_lst, wn_andB, wn_orB, wn_notB, wn_andV, wn_orV, wn_notV, wn_ifV, wn_iA, wn_iR1, wn_iR2, wn_iZ, wn_iEn, wn_iRR, wn_sl, wn_p0, wn_p1, wn_up, wn_upB, wn_upI, wn_x2, wn_x0, wn_xC, wn_xN, wn_xb, wn_xAnd, wn_xOr, wn_xNot, wn_xIf, wn_xCall, wn_xR1, wn_xR2, sn_nx, sn_rt, sn_bk, sn_ct, sn_seq, sn_set, sn_ret, sn_expr, sn_if, sn_for, sn_xSet, sn_xRet, sn_xExpr, sn_xIf, sn_xFor, sn_asg, sn_xAsg, sn_own, sn_xOwn, gv_zero, gv_succ, go_own, go_dat, go_succ, k0_def, gN_def, tru_bool, tru_none, tru_int, tru_list, asSeq_list, asSeq_tup, addV_int, subV_int, ltA_i, leA_i, gtA_i, geA_i, negV_int, intV_int, lenV_list, lenV_tup, ixV_list, ixV_tup, asInt_int, slV_list, slV_tup, slL_list, revV_tup, revV_list, tupleV_list, listV_list, listV_tup, eqV_str, neV_str, eqV_int, List.set_cons_zero, List.set_cons_succ, List.getElem?_cons_zero, List.getElem?_cons_succ, List.length_cons, List.length_nil, ↓reduceIte, Bool.false_eq_true, Bool.not_true, Bool.not_false, wn_ite, gT2, gT3, neV_tup, eqV_tup, in_tup, notin_tup', lineN_eq, Nat.reduceAdd, Nat.reduceLeDiff, Nat.zero_le, true_and, and_true, List.map_nil, List.map_cons, exists_eq_left', Option.some.injEq, PyData.list.injEq, exists_eq_left, PyData.int.injEq, R.ok.injEq, Sl.own.injEq, len_tup, e1]
    unfold facesL
    rw [if_pos l1]
    rfl
  · have e1 : (((s.length : Nat) : Int) == 1) = false := by simp; omega
    simp only [wn_ok, wn_some, wn_only, wn_noex, wn_e2, wn_e1, wn_eN, wn_a0, wn_aC, wn_call, wn_tb, wn_tup, wn_lst, wn_andB, wn_orB, wn_notB, wn_andV, wn_orV, wn_notV, wn_ifV, wn_iA, wn_iR1, wn_iR2, wn_iZ, wn_iEn, wn_iRR, wn_sl, wn_p0, wn_p1, wn_up, wn_upB, wn_upI, wn_x2, wn_x0, wn_xC, wn_xN, wn_xb, wn_xAnd, wn_xOr, wn_xNot, wn_xIf, wn_xCall, wn_xR1, wn_xR2, sn_nx, sn_rt, sn_bk, sn_ct, sn_seq, sn_set, sn_ret, sn_expr, sn_if, sn_for, sn_xSet, sn_xRet, sn_xExpr, sn_xIf, sn_xFor, sn_asg, sn_xAsg, sn_own, sn_xOwn, gv_zero, gv_succ, go_own, go_dat, go_succ, k0_def, gN_def, tru_bool, tru_none, tru_int, tru_list, asSeq_list, asSeq_tup, addV_int, subV_int, ltA_i, leA_i, gtA_i, geA_i, negV_int, intV_int, lenV_list, lenV_tup, ixV_list, ixV_tup, asInt_int, slV_list, slV_tup, slL_list, revV_tup, revV_list, tupleV_list, listV_list, listV_tup, eqV_str, neV_str, eqV_int, List.set_cons_zero, List.set_cons_succ, List.getElem?_cons_zero, List.getElem?_cons_succ, List.length_cons, List.length_nil, ↓reduceIte, Bool.false_eq_true, Bool.not_true, Bool.not_false, wn_ite, gT2, gT3, neV_tup, eqV_tup, in_tup, notin_tup', lineN_eq, Nat.reduceAdd, Nat.reduceLeDiff, Nat.zero_le, true_and, and_true, List.map_nil, List.map_cons, exists_eq_left', Option.some.injEq, PyData.list.injEq, exists_eq_left, PyData.int.injEq, R.ok.injEq, Sl.own.injEq, len_tup, e1]
    refine wn_comp (xs := (List.range s.length).reverse.map fun k => PyData.int ((k : Nat) : Int)) (fun _ => true) (outD s) ?_ ?_ ?_ ?_
    · simp only [wn_ok, wn_some, wn_only, wn_noex, wn_e2, wn_e1, wn_eN, wn_a0, wn_aC, wn_call, wn_tb, wn_tup, wn_lst, wn_andB, wn_orB, wn_notB, wn_andV, wn_orV, wn_notV, wn_ifV, wn_iA, wn_iR1, wn_iR2, wn_iZ, wn_iEn, wn_iRR, wn_sl, wn_p0, wn_p1, wn_up, wn_upB, wn_upI, wn_x2, wn_x0, wn_xC, wn_xN, wn_xb, wn_xAnd, wn_xOr, wn_xNot, wn_xIf, wn_xCall, wn_xR1, wn_xR2, sn_nx, sn_rt, sn_bk, sn_ct, sn_seq, sn_set, sn_ret, sn_expr, sn_if, sn_for, sn_xSet, sn_xRet, sn_xExpr, sn_xIf, sn_xFor, sn_asg, sn_xAsg, sn_own, sn_xOwn, gv_zero, gv_succ, go_own, go_dat, go_succ, k0_def, gN_def, tru_bool, tru_none, tru_int, tru_list, asSeq_list, asSeq_tup, addV_int, subV_int, ltA_i, leA_i, gtA_i, geA_i, negV_int, intV_int, lenV_list, lenV_tup, ixV_list, ixV_tup, asInt_int, slV_list, slV_tup, slL_list, revV_tup, revV_list, tupleV_list, listV_list, listV_tup, eqV_str, neV_str, eqV_int, List.set_cons_zero, List.set_cons_succ, List.getElem?_cons_zero, List.getElem?_cons_succ, List.length_cons, List.length_nil, ↓reduceIte, Bool.false_eq_true, Bool.not_true, Bool.not_false, wn_ite, gT2, gT3, neV_tup, eqV_tup, in_tup, notin_tup', lineN_eq, Nat.reduceAdd, Nat.reduceLeDiff, Nat.zero_le, true_and, and_true, List.map_nil, List.map_cons, exists_eq_left', Option.some.injEq, PyData.list.injEq, exists_eq_left, PyData.int.injEq, R.ok.injEq, Sl.own.injEq, len_tup]
      have : s.length = 2 ∨ s.length = 3 := by omega
      rcases this with h | h <;> rw [h] <;> rfl
    · intro y m
      obtain ⟨k, mk, rfl⟩ := List.mem_map.mp m
      refine ⟨[.d (tupI s), .d (.int ((k : Nat) : Int))], rfl, ?_⟩
      rw [wn_ok]
      refine ⟨rfl, fun _ => ?_⟩
      have e2 : ((k : Nat) : Int) + 1 = ((k + 1 : Nat) : Int) := by omega
      simp only [wn_ok, wn_some, wn_only, wn_noex, wn_e2, wn_e1, wn_eN, wn_a0, wn_aC, wn_call, wn_tb, wn_tup, wn_lst, wn_andB, wn_orB, wn_notB, wn_andV, wn_orV, wn_notV, wn_ifV, wn_iA, wn_iR1, wn_iR2, wn_iZ, wn_iEn, wn_iRR, wn_sl, wn_p0, wn_p1, wn_up, wn_upB, wn_upI, wn_x2, wn_x0, wn_xC, wn_xN, wn_xb, wn_xAnd, wn_xOr, wn_xNot, wn_xIf, wn_xCall, wn_xR1, wn_xR2, sn_nx, sn_rt, sn_bk, sn_ct, sn_seq, sn_set, sn_ret, sn_expr, sn_if, sn_for, sn_xSet, sn_xRet, sn_xExpr, sn_xIf, sn_xFor, sn_asg, sn_xAsg, sn_own, sn_xOwn, gv_zero, gv_succ, go_own, go_dat, go_succ, k0_def, gN_def, tru_bool, tru_none, tru_int, tru_list, asSeq_list, asSeq_tup, addV_int, subV_int, ltA_i, leA_i, gtA_i, geA_i, negV_int, intV_int, lenV_list, lenV_tup, ixV_list, ixV_tup, asInt_int, slV_list, slV_tup, slL_list, revV_tup, revV_list, tupleV_list, listV_list, listV_tup, eqV_str, neV_str, eqV_int, List.set_cons_zero, List.set_cons_succ, List.getElem?_cons_zero, List.getElem?_cons_succ, List.length_cons, List.length_nil, ↓reduceIte, Bool.false_eq_true, Bool.not_true, Bool.not_false, wn_ite, gT2, gT3, neV_tup, eqV_tup, in_tup, notin_tup', lineN_eq, Nat.reduceAdd, Nat.reduceLeDiff, Nat.zero_le, true_and, and_true, List.map_nil, List.map_cons, exists_eq_left', Option.some.injEq, PyData.list.injEq, exists_eq_left, PyData.int.injEq, R.ok.injEq, Sl.own.injEq, sl_take, e2, sl_drop]
      rw [add_tupI _ _ (by rw [List.length_take, List.length_drop]; omega)]
      simp only [wn_ok, wn_some, wn_only, wn_noex, wn_e2, wn_e1, wn_eN, wn_a0, wn_aC, wn_call, wn_tb, wn_tup, wn_lst, wn_andB, wn_orB, wn_notB, wn_andV, wn_orV, wn_notV, wn_ifV, wn_iA, wn_iR1, wn_iR2, wn_iZ, wn_iEn, wn_iRR, wn_sl, wn_p0, wn_p1, wn_up, wn_upB, wn_upI, wn_x2, wn_x0, wn_xC, wn_xN, wn_xb, wn_xAnd, wn_xOr, wn_xNot, wn_xIf, wn_xCall, wn_xR1, wn_xR2, sn_nx, sn_rt, sn_bk, sn_ct, sn_seq, sn_set, sn_ret, sn_expr, sn_if, sn_for, sn_xSet, sn_xRet, sn_xExpr, sn_xIf, sn_xFor, sn_asg, sn_xAsg, sn_own, sn_xOwn, gv_zero, gv_succ, go_own, go_dat, go_succ, k0_def, gN_def, tru_bool, tru_none, tru_int, tru_list, asSeq_list, asSeq_tup, addV_int, subV_int, ltA_i, leA_i, gtA_i, geA_i, negV_int, intV_int, lenV_list, lenV_tup, ixV_list, ixV_tup, asInt_int, slV_list, slV_tup, slL_list, revV_tup, revV_list, tupleV_list, listV_list, listV_tup, eqV_str, neV_str, eqV_int, List.set_cons_zero, List.set_cons_succ, List.getElem?_cons_zero, List.getElem?_cons_succ, List.length_cons, List.length_nil, ↓reduceIte, Bool.false_eq_true, Bool.not_true, Bool.not_false, wn_ite, gT2, gT3, neV_tup, eqV_tup, in_tup, notin_tup', lineN_eq, Nat.reduceAdd, Nat.reduceLeDiff, Nat.zero_le, true_and, and_true, List.map_nil, List.map_cons, exists_eq_left', Option.some.injEq, PyData.list.injEq, exists_eq_left, PyData.int.injEq, R.ok.injEq, Sl.own.injEq]
      show _ = tupI (s.take ((k : Nat) : Int).toNat ++ s.drop (((k : Nat) : Int).toNat + 1))
      rw [Int.toNat_natCast]
    · rw [List.length_map, List.length_reverse, List.length_range, lineN_eq]; omega
    · rw [List.filter_eq_self.mpr fun _ _ => rfl, List.map_map]
      unfold facesL
      rw [if_neg l1, ← List.map_reverse, List.map_map]
      congr 1

/-! ### the parts of a few names -/
def w3 (j : Nat) : Nat := [1, 2, 4].getD j 1
def partL (names : Row) (bits : Nat) : Row := ((List.range names.length).filter fun j => bits / w3 j % 2 == 1).map fun j => names.getD j 0
def partsL (names : Row) : List Row := (List.range' 1 (2 ^ names.length - 1)).map (partL names)
theorem parts1 (a : Int) : partsL [a] = [[a]] := rfl
theorem parts2 (a b : Int) : partsL [a, b] = [[a], [b], [a, b]] := by simp [partsL, partL, w3, List.range'_succ, List.range_succ, List.filter_cons]
theorem parts3 (a b c : Int) : partsL [a, b, c] = [[a], [b], [a, b], [c], [a, c], [b, c], [a, b, c]] := by simp [partsL, partL, w3, List.range'_succ, List.range_succ, List.filter_cons]
def partC (bits : Nat) : D → Bool
  | .int j => bits / w3 j.toNat % 2 == 1
  | _ => false
def partG (names : Row) : D → D
  | .int j => .int (names.getD j.toNat 0)
  | _ => .none
theorem part_comp {names : Row} {bits : Nat} {s1 s3 : Sl} (hl : names.length ≤ 3) : compE (iR1 (aC (eN lenV (aC (gv 0) a0)) a0)) (gN 3) (tb (e2 eqV' (e2 modV (eN intV (aC (e2 fdivV (gv 2) (e2 ixV (lstV (aC (k0 (.int 1)) (aC (k0 (.int 2)) (aC (k0 (.int 4)) a0)))) (gv 3))) a0)) (k0 (.int 2))) (k0 (.int 1)))) (e2 ixV (gv 0) (gv 3)) [3]
    [.d (.list (names.map PyData.int)), s1, .d (.int ((bits : Nat) : Int)), s3] = .ok (.list ((partL names bits).map PyData.int)) := by
  refine Wn.eq (wn_comp (xs := rangeD 0 names.length) (partC bits) (partG names) ?_ ?_ ?_ ?_)
  · simp only [wn_ok, wn_some, wn_only, wn_noex, wn_e2, wn_e1, wn_eN, wn_a0, wn_aC, wn_call, wn_tb, wn_tup, wn_lst, wn_andB, wn_orB, wn_notB, wn_andV, wn_orV, wn_notV, wn_ifV, wn_iA, wn_iR1, wn_iR2, wn_iZ, wn_iEn, wn_iRR, wn_sl, wn_p0, wn_p1, wn_up, wn_upB, wn_upI, wn_x2, wn_x0, wn_xC, wn_xN, wn_xb, wn_xAnd, wn_xOr, wn_xNot, wn_xIf, wn_xCall, wn_xR1, wn_xR2, sn_nx, sn_rt, sn_bk, sn_ct, sn_seq, sn_set, sn_ret, sn_expr, sn_if, sn_for, sn_xSet, sn_xRet, sn_xExpr, sn_xIf, sn_xFor, sn_asg, sn_xAsg, sn_own, sn_xOwn, gv_zero, gv_succ, go_own, go_dat, go_succ, k0_def, gN_def, tru_bool, tru_none, tru_int, tru_list, asSeq_list, asSeq_tup, addV_int, subV_int, ltA_i, leA_i, gtA_i, geA_i, negV_int, intV_int, lenV_list, lenV_tup, ixV_list, ixV_tup, asInt_int, slV_list, slV_tup, slL_list, revV_tup, revV_list, tupleV_list, listV_list, listV_tup, eqV_str, neV_str, eqV_int, List.set_cons_zero, List.set_cons_succ, List.getElem?_cons_zero, List.getElem?_cons_succ, List.length_cons, List.length_nil, ↓reduceIte, Bool.false_eq_true, Bool.not_true, Bool.not_false, wn_ite, gT2, gT3, neV_tup, eqV_tup, in_tup, notin_tup', lineN_eq, Nat.reduceAdd, Nat.reduceLeDiff, Nat.zero_le, true_and, and_true, List.map_nil, List.map_cons, exists_eq_left', Option.some.injEq, PyData.list.injEq, exists_eq_left, PyData.int.injEq, R.ok.injEq, Sl.own.injEq]
    rw [List.length_map, wn_rng1 (by omega) (by omega), Int.toNat_natCast]
  · intro y m
    obtain ⟨j, mj, rfl⟩ := List.mem_map.mp m
    have mj := List.mem_range.mp mj
    rw [Int.zero_add]
    refine ⟨[.d (.list (names.map PyData.int)), s1, .d (.int ((bits : Nat) : Int)), .d (.int ((j : Nat) : Int))], rfl, ?_⟩
    have a1 : atD [PyData.int 1, .int 2, .int 4] ((j : Nat) : Int) = some (.int ((w3 j : Nat) : Int)) := by
      have : j = 0 ∨ j = 1 ∨ j = 2 := by omega
      rcases this with rfl | rfl | rfl <;> rfl
    have a2 : atD (names.map PyData.int) ((j : Nat) : Int) = some (.int (names.getD j 0)) := atD_nat (by omega) (by
      rw [Int.toNat_natCast, List.getElem?_map, List.getElem?_eq_getElem mj, List.getD_eq_getElem?_getD, List.getElem?_eq_getElem mj]
      rfl)
    have wp : 0 < w3 j ∧ w3 j ≤ 4 := by
      have : j = 0 ∨ j = 1 ∨ j = 2 := by omega
      rcases this with rfl | rfl | rfl <;> decide
    have f1 : fdivV (.int ((bits : Nat) : Int)) (.int ((w3 j : Nat) : Int)) = some (.int (((bits : Nat) : Int) / ((w3 j : Nat) : Int))) := fdivV_int (by omega)
    have m2 : ∀ z : Int, modV (.int z) (.int 2) = some (.int (z % 2)) := fun z => modV_int (by decide)
    simp only [wn_ok, wn_some, wn_only, wn_noex, wn_e2, wn_e1, wn_eN, wn_a0, wn_aC, wn_call, wn_tb, wn_tup, wn_lst, wn_andB, wn_orB, wn_notB, wn_andV, wn_orV, wn_notV, wn_ifV, wn_iA, wn_iR1, wn_iR2, wn_iZ, wn_iEn, wn_iRR, wn_sl, wn_p0, wn_p1, wn_up, wn_upB, wn_upI, wn_x2, wn_x0, wn_xC, wn_xN, wn_xb, wn_xAnd, wn_xOr, wn_xNot, wn_xIf, wn_xCall, wn_xR1, wn_xR2, sn_nx, sn_rt, sn_bk, sn_ct, sn_seq, sn_set, sn_ret, sn_expr, sn_if, sn_for, sn_xSet, sn_xRet, sn_xExpr, sn_xIf, sn_xFor, sn_asg, sn_xAsg, sn_own, sn_xOwn, gv_zero, gv_succ, go_own, go_dat, go_succ, k0_def, gN_def, tru_bool, tru_none, tru_int, tru_list, asSeq_list, asSeq_tup, addV_int, subV_int, ltA_i, leA_i, gtA_i, geA_i, negV_int, intV_int, lenV_list, lenV_tup, ixV_list, ixV_tup, asInt_int, slV_list, slV_tup, slL_list, revV_tup, revV_list, tupleV_list, listV_list, listV_tup, eqV_str, neV_str, eqV_int, List.set_cons_zero, List.set_cons_succ, List.getElem?_cons_zero, List.getElem?_cons_succ, List.length_cons, List.length_nil, ↓reduceIte, Bool.false_eq_true, Bool.not_true, Bool.not_false, wn_ite, gT2, gT3, neV_tup, eqV_tup, in_tup, notin_tup', lineN_eq, Nat.reduceAdd, Nat.reduceLeDiff, Nat.zero_le, true_and, and_true, List.map_nil, List.map_cons, exists_eq_left', Option.some.injEq, PyData.list.injEq, exists_eq_left, PyData.int.injEq, R.ok.injEq, Sl.own.injEq, a1, a2, f1, m2]
    refine ⟨?_, fun _ => ?_⟩
    · show _ = (bits / w3 ((j : Nat) : Int).toNat % 2 == 1)
      rw [Int.toNat_natCast, Bool.eq_iff_iff, beq_iff_eq, beq_iff_eq]
      have : ((bits : Nat) : Int) / ((w3 j : Nat) : Int) = ((bits / w3 j : Nat) : Int) := by simp
      rw [this]
      omega
    · show _ = PyData.int (names.getD ((j : Nat) : Int).toNat 0)
      rw [Int.toNat_natCast]
  · unfold rangeD
    rw [List.length_map, List.length_range, lineN_eq]
    omega
  · unfold partL rangeD
    rw [List.filter_map, List.map_map, List.map_map]
    congr 1
    have : (partC bits ∘ fun i : Nat => PyData.int (0 + (i : Nat))) = fun j => bits / w3 j % 2 == 1 := by
      funext j
      show (bits / w3 (0 + ((j : Nat) : Int)).toNat % 2 == 1) = _
      rw [Int.zero_add, Int.toNat_natCast]
    rw [this]
    refine List.map_congr_left fun j _ => ?_
    show PyData.int (names.getD (0 + ((j : Nat) : Int)).toNat 0) = _
    rw [Int.zero_add, Int.toNat_natCast]
    rfl
theorem lparts_ok {names : Row} (h1 : 1 ≤ names.length) (h3 : names.length ≤ 3) : F__law_parts [.list (names.map PyData.int)] = .ok (.list ((partsL names).map tupI)) := by
  refine Wn.eq (wn_runD ?_)
  show Sn (G__law_parts [.d (.list (names.map PyData.int)), .no, .no, .no]) _ _ _ _
  unfold G__law_parts
  have a1 : atD [PyData.int 2, .int 4, .int 8] (((names.length : Nat) : Int) - 1) = some (.int ((2 ^ names.length : Nat) : Int)) := by
    have : names.length = 1 ∨ names.length = 2 ∨ names.length = 3 := by omega
    rcases this with h | h | h <;> rw [h] <;> rfl
  simp only [wn_ok, wn_some, wn_only, wn_noex, wn_e2, wn_e1, wn_eN, wn_a0, wn_aC, wn_call, wn_tb, wn_tup, wn_lst, wn_andB, wn_orB, wn_notB, wn_andV, wn_orV, wn_notV, wn_ifV, wn_iA, wn_iR1, wn_iR2, wn_iZ, wn_iEn, wn_iRR, wn_sl, wn_p0, wn_p1, wn_up, wn_upB, wn_upI, wn_x2, wn_x0, wn_xC, wn_xN, wn_xb, wn_xAnd, wn_xOr, wn_xNot, wn_xIf, wn_xCall, wn_xR1, wn_xR2, sn_nx, sn_rt, sn_bk, sn_ct, sn_seq, sn_set, sn_ret, sn_expr, sn_if, sn_for, sn_xSet, sn_xRet, sn_xExpr, sn_xIf, sn_xFor, sn_asg, sn_xAsg, sn_own, sn_xOwn, gv_zero, gv_succ, go_own, go_dat, go_succ, k0_def, gN_def, tru_bool, tru_none, tru_int, tru_list, asSeq_list, asSeq_tup, addV_int, subV_int, ltA_i, leA_i, gtA_i, geA_i, negV_int, intV_int, lenV_list, lenV_tup, ixV_list, ixV_tup, asInt_int, slV_list, slV_tup, slL_list, revV_tup, revV_list, tupleV_list, listV_list, listV_tup, eqV_str, neV_str, eqV_int, List.set_cons_zero, List.set_cons_succ, List.getElem?_cons_zero, List.getElem?_cons_succ, List.length_cons, List.length_nil, ↓reduceIte, Bool.false_eq_true, Bool.not_true, Bool.not_false, wn_ite, gT2, gT3, neV_tup, eqV_tup, in_tup, notin_tup', lineN_eq, Nat.reduceAdd, Nat.reduceLeDiff, Nat.zero_le, true_and, and_true, List.map_nil, List.map_cons, exists_eq_left', Option.some.injEq, PyData.list.injEq, exists_eq_left, PyData.int.injEq, R.ok.injEq, Sl.own.injEq]
  rw [List.length_map]
  simp only [wn_ok, wn_some, wn_only, wn_noex, wn_e2, wn_e1, wn_eN, wn_a0, wn_aC, wn_call, wn_tb, wn_tup, wn_lst, wn_andB, wn_orB, wn_notB, wn_andV, wn_orV, wn_notV, wn_ifV, wn_iA, wn_iR1, wn_iR2, wn_iZ, wn_iEn, wn_iRR, wn_sl, wn_p0, wn_p1, wn_up, wn_upB, wn_upI, wn_x2, wn_x0, wn_xC, wn_xN, wn_xb, wn_xAnd, wn_xOr, wn_xNot, wn_xIf, wn_xCall, wn_xR1, wn_xR2, sn_nx, sn_rt, sn_bk, sn_ct, sn_seq, sn_set, sn_ret, sn_expr, sn_if, sn_for, sn_xSet, sn_xRet, sn_xExpr, sn_xIf, sn_xFor, sn_asg, sn_xAsg, sn_own, sn_xOwn, gv_zero, gv_succ, go_own, go_dat, go_succ, k0_def, gN_def, tru_bool, tru_none, tru_int, tru_list, asSeq_list, asSeq_tup, addV_int, subV_int, ltA_i, leA_i, gtA_i, geA_i, negV_int, intV_int, lenV_list, lenV_tup, ixV_list, ixV_tup, asInt_int, slV_list, slV_tup, slL_list, revV_tup, revV_list, tupleV_list, listV_list, listV_tup, eqV_str, neV_str, eqV_int, List.set_cons_zero, List.set_cons_succ, List.getElem?_cons_zero, List.getElem?_cons_succ, List.length_cons, List.length_nil, ↓reduceIte, Bool.false_eq_true, Bool.not_true, Bool.not_false, wn_ite, gT2, gT3, neV_tup, eqV_tup, in_tup, notin_tup', lineN_eq, Nat.reduceAdd, Nat.reduceLeDiff, Nat.zero_le, true_and, and_true, List.map_nil, List.map_cons, exists_eq_left', Option.some.injEq, PyData.list.injEq, exists_eq_left, PyData.int.injEq, R.ok.injEq, Sl.own.injEq, a1]
  have pw : 2 ≤ 2 ^ names.length ∧ 2 ^ names.length ≤ 8 := by
    have : names.length = 1 ∨ names.length = 2 ∨ names.length = 3 := by omega
    rcases this with h | h | h <;> rw [h] <;> decide
  have rg : rng2 [.int 1, .int ((2 ^ names.length : Nat) : Int)] = .ok ((List.range' 1 (2 ^ names.length - 1)).map fun k => PyData.int ((k : Nat) : Int)) := by
    have : names.length = 1 ∨ names.length = 2 ∨ names.length = 3 := by omega
    rcases this with h | h | h <;> rw [h] <;> rfl
  refine Wn.mk rg ?_
  refine sn_loop (fun xs η => ∃ (l : List Nat) (acc : List Row) (s2 s3 : Sl), xs = l.map (fun k => PyData.int ((k : Nat) : Int)) ∧ η = [.d (.list (names.map PyData.int)), .own ⟨true, acc.map tupI⟩, s2, s3] ∧ acc ++ l.map (partL names) = partsL names) ?_ ?_ _ _ ⟨_, [], .no, .no, rfl, rfl, rfl⟩
  · rintro x xs η ⟨l, acc, s2, s3, e, rfl, h⟩
    match l, e with
    | b :: l, e =>
      cases e
      refine ⟨[.d (.list (names.map PyData.int)), .own ⟨true, acc.map tupI⟩, .d (.int ((b : Nat) : Int)), s3], rfl, ?_⟩
      rw [sn_seq]
      refine sn_app rfl ?_
      rw [wn_eN, wn_aC]
      refine Wn.mk (part_comp h3) ?_
      simp only [wn_ok, wn_some, wn_only, wn_noex, wn_e2, wn_e1, wn_eN, wn_a0, wn_aC, wn_call, wn_tb, wn_tup, wn_lst, wn_andB, wn_orB, wn_notB, wn_andV, wn_orV, wn_notV, wn_ifV, wn_iA, wn_iR1, wn_iR2, wn_iZ, wn_iEn, wn_iRR, wn_sl, wn_p0, wn_p1, wn_up, wn_upB, wn_upI, wn_x2, wn_x0, wn_xC, wn_xN, wn_xb, wn_xAnd, wn_xOr, wn_xNot, wn_xIf, wn_xCall, wn_xR1, wn_xR2, sn_nx, sn_rt, sn_bk, sn_ct, sn_seq, sn_set, sn_ret, sn_expr, sn_if, sn_for, sn_xSet, sn_xRet, sn_xExpr, sn_xIf, sn_xFor, sn_asg, sn_xAsg, sn_own, sn_xOwn, gv_zero, gv_succ, go_own, go_dat, go_succ, k0_def, gN_def, tru_bool, tru_none, tru_int, tru_list, asSeq_list, asSeq_tup, addV_int, subV_int, ltA_i, leA_i, gtA_i, geA_i, negV_int, intV_int, lenV_list, lenV_tup, ixV_list, ixV_tup, asInt_int, slV_list, slV_tup, slL_list, revV_tup, revV_list, tupleV_list, listV_list, listV_tup, eqV_str, neV_str, eqV_int, List.set_cons_zero, List.set_cons_succ, List.getElem?_cons_zero, List.getElem?_cons_succ, List.length_cons, List.length_nil, ↓reduceIte, Bool.false_eq_true, Bool.not_true, Bool.not_false, wn_ite, gT2, gT3, neV_tup, eqV_tup, in_tup, notin_tup', lineN_eq, Nat.reduceAdd, Nat.reduceLeDiff, Nat.zero_le, true_and, and_true, List.map_nil, List.map_cons, exists_eq_left', Option.some.injEq, PyData.list.injEq, exists_eq_left, PyData.int.injEq, R.ok.injEq, Sl.own.injEq]
      have la : acc.length ≤ 7 := by
        have := congrArg List.length h
        unfold partsL at this
        rw [List.length_append, List.length_map, List.length_map, List.length_range'] at this
        omega
      refine ⟨by rw [List.length_map]; omega, l, acc ++ [partL names b], .d (.int ((b : Nat) : Int)), s3, rfl, ?_, by rw [List.append_assoc]; exact h⟩
      rw [List.map_append]
      rfl
  · rintro η ⟨l, acc, s2, s3, e, rfl, h⟩
    match l, e with
    | [], _ =>
      rw [List.map_nil, List.append_nil] at h
      subst h
      exact sn_retO rfl rfl

theorem in1 {U : Row} {a : Int} (h : a ∈ U) : InU U [a] := ⟨List.pairwise_singleton _ _, fun x m => by rw [List.mem_singleton.mp m]; exact h⟩
/-- what the parts of a few names are -/
theorem parts_prop {names : Row} (h : InU (Pg.uptoI 12) names) (h1 : 1 ≤ names.length) (h3 : names.length ≤ 3) : (∀ p ∈ partsL names, Smp p) ∧ (∀ p ∈ partsL names, ∀ f ∈ facesL p, f ∈ partsL names) ∧ (partsL names).length ≤ 7 := by
  have asc := h.asc
  have sub := h.sub
  match names, h1, h3 with
  | [a], _, _ =>
    rw [parts1]
    have ma := sub a (by simp)
    refine ⟨fun p m => ?_, fun p m f mf => ?_, by simp⟩
    · rw [List.mem_singleton.mp m]; exact ⟨in1 ma, Nat.le_refl 1, (by decide : 1 ≤ 3)⟩
    · rw [List.mem_singleton.mp m] at mf
      rw [faces1] at mf
      exact absurd mf List.not_mem_nil
  | [a, b], _, _ =>
    rw [parts2]
    have ma := sub a (by simp)
    have mb := sub b (by simp)
    have ab : a < b := (List.pairwise_cons.mp asc).1 b (by simp)
    refine ⟨fun p m => ?_, fun p m f mf => ?_, by simp⟩
    · simp only [List.mem_cons, List.not_mem_nil, or_false] at m
      rcases m with rfl | rfl | rfl
      · exact ⟨in1 ma, Nat.le_refl 1, (by decide : 1 ≤ 3)⟩
      · exact ⟨in1 mb, Nat.le_refl 1, (by decide : 1 ≤ 3)⟩
      · exact ⟨in2 ma mb ab, (by decide : 1 ≤ 2), (by decide : 2 ≤ 3)⟩
    · simp only [List.mem_cons, List.not_mem_nil, or_false] at m
      rcases m with rfl | rfl | rfl
      · rw [faces1] at mf; exact absurd mf List.not_mem_nil
      · rw [faces1] at mf; exact absurd mf List.not_mem_nil
      · rw [faces2] at mf
        simp only [List.mem_cons, List.not_mem_nil, or_false] at mf
        rcases mf with rfl | rfl <;> simp
  | [a, b, c], _, _ =>
    rw [parts3]
    have ma := sub a (by simp)
    have mb := sub b (by simp)
    have mc := sub c (by simp)
    obtain ⟨p1, p2⟩ := List.pairwise_cons.mp asc
    have ab : a < b := p1 b (by simp)
    have bc : b < c := (List.pairwise_cons.mp p2).1 c (by simp)
    have ac : a < c := p1 c (by simp)
    refine ⟨fun p m => ?_, fun p m f mf => ?_, by simp⟩
    · simp only [List.mem_cons, List.not_mem_nil, or_false] at m
      rcases m with rfl | rfl | rfl | rfl | rfl | rfl | rfl
      · exact ⟨in1 ma, Nat.le_refl 1, (by decide : 1 ≤ 3)⟩
      · exact ⟨in1 mb, Nat.le_refl 1, (by decide : 1 ≤ 3)⟩
      · exact ⟨in2 ma mb ab, (by decide : 1 ≤ 2), (by decide : 2 ≤ 3)⟩
      · exact ⟨in1 mc, Nat.le_refl 1, (by decide : 1 ≤ 3)⟩
      · exact ⟨in2 ma mc ac, (by decide : 1 ≤ 2), (by decide : 2 ≤ 3)⟩
      · exact ⟨in2 mb mc bc, (by decide : 1 ≤ 2), (by decide : 2 ≤ 3)⟩
      · exact ⟨in3 ma mb mc ab bc, (by decide : 1 ≤ 3), (by decide : 3 ≤ 3)⟩
    · simp only [List.mem_cons, List.not_mem_nil, or_false] at m
      rcases m with rfl | rfl | rfl | rfl | rfl | rfl | rfl
      · rw [faces1] at mf; exact absurd mf List.not_mem_nil
      · rw [faces1] at mf; exact absurd mf List.not_mem_nil
      · rw [faces2] at mf
        simp only [List.mem_cons, List.not_mem_nil, or_false] at mf
        rcases mf with rfl | rfl <;> simp
      · rw [faces1] at mf; exact absurd mf List.not_mem_nil
      · rw [faces2] at mf
        simp only [List.mem_cons, List.not_mem_nil, or_false] at mf
        rcases mf with rfl | rfl <;> simp
      · rw [faces2] at mf
        simp only [List.mem_cons, List.not_mem_nil, or_false] at mf
        rcases mf with rfl | rfl <;> simp
      · rw [faces3] at mf
        simp only [List.mem_cons, List.not_mem_nil, or_false] at mf
        rcases mf with rfl | rfl | rfl <;> simp
/-! ### all that is closed -/
def prD (s : Row) : D := .tuple [.int (s.length : Nat), tupI s]
theorem eqv_pr (a b : Row) : PyData.eqv (prD a) (prD b) = decide (a = b) := by
  have e : PyData.eqv (prD a) (prD b) = (PyData.eqv (.int (a.length : Nat)) (.int (b.length : Nat)) && (PyData.eqv (tupI a) (tupI b) && true)) := by
    simp [prD, PyData.eqv, PyData.eqvAll]
  rw [e, eqv_tup, Bool.and_true]
  by_cases h : a = b
  · subst h
    simp [PyData.eqv]
  · rw [decide_eq_false h, Bool.and_false]
theorem any_prs (s : Row) (os : List Row) : ((os.map prD).any fun z => PyData.eqv z (prD s)) = decide (s ∈ os) := by
  rw [Bool.eq_iff_iff, List.any_eq_true, decide_eq_true_iff]
  constructor
  · rintro ⟨z, m, e⟩
    obtain ⟨r, mr, rfl⟩ := List.mem_map.mp m
    rw [eqv_pr, decide_eq_true_iff] at e
    subst e
    exact mr
  · exact fun m => ⟨prD s, List.mem_map.mpr ⟨s, m, rfl⟩, by rw [eqv_pr]; exact decide_eq_true rfl⟩
theorem fine_pr {s : Row} (h : Smp s) : Fine 2 13000 (prD s) := by
  refine (fine_tuple (k := 1) (n := 6000) fun x m => ?_).mono (Nat.le_refl _) (by simp)
  simp only [List.mem_cons, List.not_mem_nil, or_false] at m
  have := h.hi
  rcases m with rfl | rfl
  · exact (fine_int (by omega) (by omega)).mono (by decide) (by decide)
  · exact fine_row h.u (Pg.upto_asc 12) up12_len up12_small
theorem nin_prs {s : Row} {os : List Row} (hs : Smp s) (h : ∀ s ∈ os, Smp s) : ninV' (prD s) (.list (os.map prD)) = some (.bool (!decide (s ∈ os))) := by
  have fo : Fine 3 (os.length * 13001) (.list (os.map prD)) := by
    have := fine_list (k := 2) (n := 13000) (xs := os.map prD) fun d m => by
      obtain ⟨x, mx, rfl⟩ := List.mem_map.mp m
      exact fine_pr (h x mx)
    rw [List.length_map] at this
    exact this
  show (if SeqAt.shaped (prD s) = true ∧ SeqAt.shaped (.list (os.map prD)) = true then some ((os.map prD).any fun z => PyData.eqv z (prD s)) else none).map (fun b => PyData.bool !b) = _
  rw [if_pos ⟨(fine_pr hs).shaped (by decide), fo.shaped (by decide)⟩, any_prs]
  rfl
end Sc
end Bd
/-! R2: all that is closed, by cells. -/
namespace Bd
open PySem L2
namespace Sc
open Sh
structure Cl (L : List Row) : Prop where
  nd : L.Nodup
  smp : ∀ s ∈ L, Smp s
  cl : ∀ s ∈ L, ∀ f ∈ facesL s, f ∈ L
theorem prLt (a b : Row) (h : PySem.W.dataLt (prD b) (prD a) = false) : a.length ≤ b.length := by
  have ai : ∀ a b : Int, PySem.W.alike (.int a) (.int b) = true := fun a b => by simp [PySem.W.alike]
  have at' : ∀ a b : Row, PySem.W.alike (tupI a) (tupI b) = true := fun a b => by
    show PySem.W.alike (.tuple (a.map PyData.int)) (.tuple (b.map PyData.int)) = true
    simp [PySem.W.alike, alike_ints]
  have ev : ∀ a b : Int, (PyData.eqv (.int a) (.int b) = true) = (a = b) := fun a b => by simp [PyData.eqv]
  unfold prD at h
  rw [PySem.W.dataLt_tuple, PySem.W.dataLt_cons (ai _ _), PySem.W.dataLt_int] at h
  simp only [ev] at h
  by_cases e : ((b.length : Nat) : Int) = ((a.length : Nat) : Int)
  · omega
  · rw [if_neg e, decide_eq_false_iff_not] at h
    omega
theorem pr_sortB (L : List Row) : sortB (L.map prD) = true := by
  unfold sortB
  simp only [Bool.and_eq_true, Bool.or_eq_true, List.all_eq_true, decide_eq_true_eq]
  refine ⟨⟨?_, .inl ?_⟩, ?_⟩
  · unfold alikeB
    simp only [List.all_eq_true]
    intro d hd e he
    obtain ⟨p, _, rfl⟩ := List.mem_map.mp hd
    obtain ⟨q, _, rfl⟩ := List.mem_map.mp he
    have e : PySem.W.alike (tupI p) (tupI q) = true := by
      show PySem.W.alike (.tuple (p.map PyData.int)) (.tuple (q.map PyData.int)) = true
      simp [PySem.W.alike, alike_ints]
    simp [prD, PySem.W.alike, PySem.W.alikeAll, e]
  · intro d hd
    obtain ⟨p, _, rfl⟩ := List.mem_map.mp hd
    rfl
  · intro d hd
    obtain ⟨p, _, rfl⟩ := List.mem_map.mp hd
    have := tup_depth p
    simp only [prD, PyData.depth, PyData.depthAll]
    omega
def srtP (L : List Row) : List Row := L.mergeSort (PySem.W.dataLe false prD)
theorem sort_pr {L : List Row} (hn : 0 < L.length) : sortAV [.list (L.map prD)] = some (.list ((srtP L).map prD)) := by
  refine sortAV_map ?_ (pr_sortB L)
  cases L with
  | nil => cases hn
  | cons a l => rfl
theorem sort_pr0 : sortAV [.list (([] : List Row).map prD)] = some (.list ((srtP []).map prD)) := by
  have e : srtP [] = [] := by simp [srtP]
  rw [e]
  exact sortAV_ints []
theorem srtP_perm (L : List Row) : (srtP L).Perm L := List.mergeSort_perm _ _
theorem srtP_len (L : List Row) : (srtP L).Pairwise fun a b => a.length ≤ b.length := by
  have t := PySem.W.sortLe_total (PyProof.Rows.listOrd PyProof.Rows.itemOrd) false fun s : Row => PySem.W.keyToks (prD s)
  have pw := List.pairwise_mergeSort (le := PySem.W.dataLe false prD) (fun a b c => t.trans a b c) (fun a b => by rw [Bool.or_eq_true]; exact t.total a b) L
  refine pw.imp fun {a b} h => prLt a b ?_
  have q : (!PySem.W.dataLt (prD b) (prD a)) = true := h
  rwa [Bool.not_eq_true'] at q
def onP : D → D
  | .tuple [_, s] => s
  | _ => .none
theorem closed_w {r0 r1 r2 r3 r4 cell count : Int} {QD : D → Prop} (p0 : 0 ≤ r0) (p1 : 0 ≤ r1) (c0 : 0 ≤ count) (c1 : count ≤ 6)
    (k : ∀ L : List Row, Cl L → (L.Pairwise fun a b => a.length ≤ b.length) → L.length ≤ 42 → QD (.list (L.map tupI))) : Wn (F__law_closed [.list [.int r0, .int r1, .int r2, .int r3, .int r4], .int cell, .int count]) QD := by
  refine wn_runD ?_
  show Sn (G__law_closed [.d (.list [.int r0, .int r1, .int r2, .int r3, .int r4]), .d (.int cell), .d (.int count), .no, .no, .no, .no, .no, .no, .no, .no, .no, .no]) _ _ _ _
  unfold G__law_closed
  have x0 : atD [PyData.int r0, .int r1, .int r2, .int r3, .int r4] 0 = some (.int r0) := rfl
  have x1 : atD [PyData.int r0, .int r1, .int r2, .int r3, .int r4] 1 = some (.int r1) := rfl
  have m2 : ∀ z : Int, modV (.int z) (.int 2) = some (.int (z % 2)) := fun z => modV_int (by decide)
  have m3 : ∀ z : Int, modV (.int z) (.int 3) = some (.int (z % 3)) := fun z => modV_int (by decide)
  have m6 : ∀ z : Int, modV (.int z) (.int 6) = some (.int (z % 6)) := fun z => modV_int (by decide)
  obtain ⟨st, w, hst, aw, sw⟩ : ∃ st w : Int, 1 + r0 % 2 = st ∧ atD [PyData.int 7, .int 2] (st - 1) = some (.int w) ∧ ((st = 1 ∧ w = 7) ∨ (st = 2 ∧ w = 2)) := by
    have : r0 % 2 = 0 ∨ r0 % 2 = 1 := by omega
    rcases this with h | h
    · exact ⟨1, 7, by omega, rfl, .inl ⟨rfl, rfl⟩⟩
    · exact ⟨2, 2, by omega, rfl, .inr ⟨rfl, rfl⟩⟩
  have mw : ∀ z : Int, modV (.int z) (.int w) = some (.int (z % w)) := fun z => modV_int (by omega)
  simp only [wn_ok, wn_some, wn_only, wn_noex, wn_e2, wn_e1, wn_eN, wn_a0, wn_aC, wn_call, wn_tb, wn_tup, wn_lst, wn_andB, wn_orB, wn_notB, wn_andV, wn_orV, wn_notV, wn_ifV, wn_iA, wn_iR1, wn_iR2, wn_iZ, wn_iEn, wn_iRR, wn_sl, wn_p0, wn_p1, wn_up, wn_upB, wn_upI, wn_x2, wn_x0, wn_xC, wn_xN, wn_xb, wn_xAnd, wn_xOr, wn_xNot, wn_xIf, wn_xCall, wn_xR1, wn_xR2, sn_nx, sn_rt, sn_bk, sn_ct, sn_seq, sn_set, sn_ret, sn_expr, sn_if, sn_for, sn_xSet, sn_xRet, sn_xExpr, sn_xIf, sn_xFor, sn_asg, sn_xAsg, sn_own, sn_xOwn, gv_zero, gv_succ, go_own, go_dat, go_succ, k0_def, gN_def, tru_bool, tru_none, tru_int, tru_list, asSeq_list, asSeq_tup, addV_int, subV_int, ltA_i, leA_i, gtA_i, geA_i, negV_int, intV_int, lenV_list, lenV_tup, ixV_list, ixV_tup, asInt_int, slV_list, slV_tup, slL_list, revV_tup, revV_list, tupleV_list, listV_list, listV_tup, eqV_str, neV_str, eqV_int, List.set_cons_zero, List.set_cons_succ, List.getElem?_cons_zero, List.getElem?_cons_succ, List.length_cons, List.length_nil, ↓reduceIte, Bool.false_eq_true, Bool.not_true, Bool.not_false, wn_ite, gT2, gT3, neV_tup, eqV_tup, in_tup, notin_tup', lineN_eq, Nat.reduceAdd, Nat.reduceLeDiff, Nat.zero_le, true_and, and_true, List.map_nil, List.map_cons, exists_eq_left', Option.some.injEq, PyData.list.injEq, exists_eq_left, PyData.int.injEq, R.ok.injEq, Sl.own.injEq, x0, x1, m2, hst, aw, mw]
  have s0 := Int.emod_nonneg r1 (show w ≠ 0 by omega)
  have s1 := Int.emod_lt_of_pos r1 (show 0 < w by omega)
  generalize r1 % w = sh at s0 s1 ⊢
  rw [wn_rng1 c0 (by omega)]
  -- one after another
  have pk : ∀ (i : Nat), i ≤ 5 → ∃ v : Int, sh + st * ((i : Nat) : Int) = v ∧ 0 ≤ v ∧ v ≤ 11 := fun i hi => ⟨_, rfl, by
    rcases sw with ⟨rfl, rfl⟩ | ⟨rfl, rfl⟩ <;> omega, by
    rcases sw with ⟨rfl, rfl⟩ | ⟨rfl, rfl⟩ <;> omega⟩
  refine sn_loop (fun xs η => ∃ (l : List Nat) (n : Nat) (acc : List Row) (s6 s7 s8 s9 s10 s12 : Sl), xs = l.map (fun k => PyData.int ((k : Nat) : Int)) ∧ Cl acc ∧ acc.length ≤ 7 * n ∧ n + l.length ≤ 6 ∧
    η = [.d (.list [.int r0, .int r1, .int r2, .int r3, .int r4]), .d (.int cell), .d (.int count), .d (.int st), .d (.int sh), .own ⟨true, acc.map prD⟩, s6, s7, s8, s9, s10, .no, s12]) ?_ ?_ _ _ ⟨List.range count.toNat, 0, [], .no, .no, .no, .no, .no, .no, ?_, ⟨List.nodup_nil, fun s m => absurd m List.not_mem_nil, fun s m => absurd m List.not_mem_nil⟩, Nat.le_refl _, by rw [List.length_range]; omega, rfl⟩
  · rintro x xs η ⟨l, n, acc, s6, s7, s8, s9, s10, s12, e, ca, la, ln, rfl⟩
    match l, e with
    | b :: l, e =>
      cases e
      rw [List.length_cons] at ln
      refine ⟨[.d (.list [.int r0, .int r1, .int r2, .int r3, .int r4]), .d (.int cell), .d (.int count), .d (.int st), .d (.int sh), .own ⟨true, acc.map prD⟩, .d (.int ((b : Nat) : Int)), s7, s8, s9, s10, .no, s12], rfl, ?_⟩
      have mu : mulV (.int 1009) (.int ((b : Nat) : Int)) = some (.int (1009 * ((b : Nat) : Int))) := mulV_int (.inl (by decide))
      obtain ⟨ys, yl, yb, ye⟩ := Lw.row_ok (c := cell + 1009 * ((b : Nat) : Int)) (b := 720) (n := 4) (by decide) (by decide)
      have ye : Lw.F_row [.int (cell + 1009 * ((b : Nat) : Int)), .int 4, .int 720] = .ok (.list ys) := ye
      match ys, yl with
      | [y0, y1, y2, y3], _ =>
        obtain ⟨i0, rfl, a0, b0⟩ := yb y0 (by simp)
        obtain ⟨i1, rfl, a1, b1⟩ := yb y1 (by simp)
        obtain ⟨i2, rfl, a2, b2⟩ := yb y2 (by simp)
        obtain ⟨i3, rfl, a3, b3⟩ := yb y3 (by simp)
        have z3 : atD [PyData.int i0, .int i1, .int i2, .int i3] 3 = some (.int i3) := rfl
        simp only [wn_ok, wn_some, wn_only, wn_noex, wn_e2, wn_e1, wn_eN, wn_a0, wn_aC, wn_call, wn_tb, wn_tup, wn_lst, wn_andB, wn_orB, wn_notB, wn_andV, wn_orV, wn_notV, wn_ifV, wn_iA, wn_iR1, wn_iR2, wn_iZ, wn_iEn, wn_iRR, wn_sl, wn_p0, wn_p1, wn_up, wn_upB, wn_upI, wn_x2, wn_x0, wn_xC, wn_xN, wn_xb, wn_xAnd, wn_xOr, wn_xNot, wn_xIf, wn_xCall, wn_xR1, wn_xR2, sn_nx, sn_rt, sn_bk, sn_ct, sn_seq, sn_set, sn_ret, sn_expr, sn_if, sn_for, sn_xSet, sn_xRet, sn_xExpr, sn_xIf, sn_xFor, sn_asg, sn_xAsg, sn_own, sn_xOwn, gv_zero, gv_succ, go_own, go_dat, go_succ, k0_def, gN_def, tru_bool, tru_none, tru_int, tru_list, asSeq_list, asSeq_tup, addV_int, subV_int, ltA_i, leA_i, gtA_i, geA_i, negV_int, intV_int, lenV_list, lenV_tup, ixV_list, ixV_tup, asInt_int, slV_list, slV_tup, slL_list, revV_tup, revV_list, tupleV_list, listV_list, listV_tup, eqV_str, neV_str, eqV_int, List.set_cons_zero, List.set_cons_succ, List.getElem?_cons_zero, List.getElem?_cons_succ, List.length_cons, List.length_nil, ↓reduceIte, Bool.false_eq_true, Bool.not_true, Bool.not_false, wn_ite, gT2, gT3, neV_tup, eqV_tup, in_tup, notin_tup', lineN_eq, Nat.reduceAdd, Nat.reduceLeDiff, Nat.zero_le, true_and, and_true, List.map_nil, List.map_cons, exists_eq_left', Option.some.injEq, PyData.list.injEq, exists_eq_left, PyData.int.injEq, R.ok.injEq, Sl.own.injEq, mu, ye]
        obtain ⟨t, ht, t0, t1⟩ : ∃ t : Nat, 1 + i3 % 3 = ((t : Nat) : Int) ∧ 1 ≤ t ∧ t ≤ 3 := ⟨(1 + i3 % 3).toNat, by omega, by omega, by omega⟩
        let num : Nat → Int := fun j => ([i0, i1, i2].getD j 0)
        have num0 : ∀ j, 0 ≤ num j := fun j => by
          match j with
          | 0 => exact a0
          | 1 => exact a1
          | 2 => exact a2
          | _ + 3 => exact Int.le_refl 0
        refine wn_comp (xs := rangeD 0 t) (fun _ => true) (fun d => match d with | .int j => .int (sh + st * (num j.toNat % 6)) | _ => .none) ?_ ?_ ?_ ?_
        · simp only [wn_ok, wn_some, wn_only, wn_noex, wn_e2, wn_e1, wn_eN, wn_a0, wn_aC, wn_call, wn_tb, wn_tup, wn_lst, wn_andB, wn_orB, wn_notB, wn_andV, wn_orV, wn_notV, wn_ifV, wn_iA, wn_iR1, wn_iR2, wn_iZ, wn_iEn, wn_iRR, wn_sl, wn_p0, wn_p1, wn_up, wn_upB, wn_upI, wn_x2, wn_x0, wn_xC, wn_xN, wn_xb, wn_xAnd, wn_xOr, wn_xNot, wn_xIf, wn_xCall, wn_xR1, wn_xR2, sn_nx, sn_rt, sn_bk, sn_ct, sn_seq, sn_set, sn_ret, sn_expr, sn_if, sn_for, sn_xSet, sn_xRet, sn_xExpr, sn_xIf, sn_xFor, sn_asg, sn_xAsg, sn_own, sn_xOwn, gv_zero, gv_succ, go_own, go_dat, go_succ, k0_def, gN_def, tru_bool, tru_none, tru_int, tru_list, asSeq_list, asSeq_tup, addV_int, subV_int, ltA_i, leA_i, gtA_i, geA_i, negV_int, intV_int, lenV_list, lenV_tup, ixV_list, ixV_tup, asInt_int, slV_list, slV_tup, slL_list, revV_tup, revV_list, tupleV_list, listV_list, listV_tup, eqV_str, neV_str, eqV_int, List.set_cons_zero, List.set_cons_succ, List.getElem?_cons_zero, List.getElem?_cons_succ, List.length_cons, List.length_nil, ↓reduceIte, Bool.false_eq_true, Bool.not_true, Bool.not_false, wn_ite, gT2, gT3, neV_tup, eqV_tup, in_tup, notin_tup', lineN_eq, Nat.reduceAdd, Nat.reduceLeDiff, Nat.zero_le, true_and, and_true, List.map_nil, List.map_cons, exists_eq_left', Option.some.injEq, PyData.list.injEq, exists_eq_left, PyData.int.injEq, R.ok.injEq, Sl.own.injEq, z3, m3, ht]
          rw [wn_rng1 (by omega) (by omega), Int.toNat_natCast]
        · intro y m
          obtain ⟨j, mj, rfl⟩ := List.mem_map.mp m
          have mj := List.mem_range.mp mj
          rw [Int.zero_add]
          refine ⟨[.d (.list [.int r0, .int r1, .int r2, .int r3, .int r4]), .d (.int cell), .d (.int count), .d (.int st), .d (.int sh), .own ⟨true, acc.map prD⟩, .d (.int ((b : Nat) : Int)), .d (.list [.int i0, .int i1, .int i2, .int i3]), s8, s9, s10, .no, .d (.int ((j : Nat) : Int))], rfl, ?_⟩
          rw [wn_ok]
          refine ⟨rfl, fun _ => ?_⟩
          have aj : atD [PyData.int i0, .int i1, .int i2, .int i3] ((j : Nat) : Int) = some (.int (num j)) := by
            have : j = 0 ∨ j = 1 ∨ j = 2 := by omega
            rcases this with rfl | rfl | rfl <;> rfl
          have mm : ∀ z : Int, mulV (.int st) (.int z) = some (.int (st * z)) := fun z => mulV_int (.inl (by omega))
          simp only [wn_ok, wn_some, wn_only, wn_noex, wn_e2, wn_e1, wn_eN, wn_a0, wn_aC, wn_call, wn_tb, wn_tup, wn_lst, wn_andB, wn_orB, wn_notB, wn_andV, wn_orV, wn_notV, wn_ifV, wn_iA, wn_iR1, wn_iR2, wn_iZ, wn_iEn, wn_iRR, wn_sl, wn_p0, wn_p1, wn_up, wn_upB, wn_upI, wn_x2, wn_x0, wn_xC, wn_xN, wn_xb, wn_xAnd, wn_xOr, wn_xNot, wn_xIf, wn_xCall, wn_xR1, wn_xR2, sn_nx, sn_rt, sn_bk, sn_ct, sn_seq, sn_set, sn_ret, sn_expr, sn_if, sn_for, sn_xSet, sn_xRet, sn_xExpr, sn_xIf, sn_xFor, sn_asg, sn_xAsg, sn_own, sn_xOwn, gv_zero, gv_succ, go_own, go_dat, go_succ, k0_def, gN_def, tru_bool, tru_none, tru_int, tru_list, asSeq_list, asSeq_tup, addV_int, subV_int, ltA_i, leA_i, gtA_i, geA_i, negV_int, intV_int, lenV_list, lenV_tup, ixV_list, ixV_tup, asInt_int, slV_list, slV_tup, slL_list, revV_tup, revV_list, tupleV_list, listV_list, listV_tup, eqV_str, neV_str, eqV_int, List.set_cons_zero, List.set_cons_succ, List.getElem?_cons_zero, List.getElem?_cons_succ, List.length_cons, List.length_nil, ↓reduceIte, Bool.false_eq_true, Bool.not_true, Bool.not_false, wn_ite, gT2, gT3, neV_tup, eqV_tup, in_tup, notin_tup', lineN_eq, Nat.reduceAdd, Nat.reduceLeDiff, Nat.zero_le, true_and, and_true, List.map_nil, List.map_cons, exists_eq_left', Option.some.injEq, PyData.list.injEq, exists_eq_left, PyData.int.injEq, R.ok.injEq, Sl.own.injEq, aj, m6, mm]
          show sh + st * (num j % 6) = sh + st * (num ((j : Nat) : Int).toNat % 6)
          rw [Int.toNat_natCast]
        · unfold rangeD
          rw [List.length_map, List.length_range, lineN_eq]
          omega
        · obtain ⟨pks, hpk⟩ : ∃ pks : Row, pks = (List.range t).map fun j => sh + st * (num j % 6) := ⟨_, rfl⟩
          have epk : ((rangeD 0 t).filter fun _ => true).map (fun d => match d with | .int j => PyData.int (sh + st * (num j.toNat % 6)) | _ => .none) = pks.map PyData.int := by
            rw [List.filter_eq_self.mpr fun _ _ => rfl, hpk]
            unfold rangeD
            rw [List.map_map, List.map_map]
            refine List.map_congr_left fun j _ => ?_
            show PyData.int (sh + st * (num (0 + ((j : Nat) : Int)).toNat % 6)) = _
            rw [Int.zero_add, Int.toNat_natCast]
            rfl
          rw [epk]
          have pl : pks.length = t := by rw [hpk, List.length_map, List.length_range]
          have pu : ∀ x ∈ pks, x ∈ Pg.uptoI 12 := fun x m => by
            rw [hpk] at m
            obtain ⟨j, _, rfl⟩ := List.mem_map.mp m
            have q0 := Int.emod_nonneg (num j) (show (6 : Int) ≠ 0 by decide)
            have q1 := Int.emod_lt_of_pos (num j) (show (0 : Int) < 6 by decide)
            generalize num j % 6 = q at q0 q1 ⊢
            refine List.mem_map.mpr ⟨(sh + st * q).toNat, List.mem_range.mpr ?_, ?_⟩
            · rcases sw with ⟨rfl, rfl⟩ | ⟨rfl, rfl⟩ <;> omega
            · rcases sw with ⟨rfl, rfl⟩ | ⟨rfl, rfl⟩ <;> omega
          clear epk hpk
          refine Wn.mk (pick_comp (sp := 8) (sk := 12) (p := pks) (by omega) rfl (fun _ => rfl) (fun _ => rfl)) ?_
          simp only [wn_ok, wn_some, wn_only, wn_noex, wn_e2, wn_e1, wn_eN, wn_a0, wn_aC, wn_call, wn_tb, wn_tup, wn_lst, wn_andB, wn_orB, wn_notB, wn_andV, wn_orV, wn_notV, wn_ifV, wn_iA, wn_iR1, wn_iR2, wn_iZ, wn_iEn, wn_iRR, wn_sl, wn_p0, wn_p1, wn_up, wn_upB, wn_upI, wn_x2, wn_x0, wn_xC, wn_xN, wn_xb, wn_xAnd, wn_xOr, wn_xNot, wn_xIf, wn_xCall, wn_xR1, wn_xR2, sn_nx, sn_rt, sn_bk, sn_ct, sn_seq, sn_set, sn_ret, sn_expr, sn_if, sn_for, sn_xSet, sn_xRet, sn_xExpr, sn_xIf, sn_xFor, sn_asg, sn_xAsg, sn_own, sn_xOwn, gv_zero, gv_succ, go_own, go_dat, go_succ, k0_def, gN_def, tru_bool, tru_none, tru_int, tru_list, asSeq_list, asSeq_tup, addV_int, subV_int, ltA_i, leA_i, gtA_i, geA_i, negV_int, intV_int, lenV_list, lenV_tup, ixV_list, ixV_tup, asInt_int, slV_list, slV_tup, slL_list, revV_tup, revV_list, tupleV_list, listV_list, listV_tup, eqV_str, neV_str, eqV_int, List.set_cons_zero, List.set_cons_succ, List.getElem?_cons_zero, List.getElem?_cons_succ, List.length_cons, List.length_nil, ↓reduceIte, Bool.false_eq_true, Bool.not_true, Bool.not_false, wn_ite, gT2, gT3, neV_tup, eqV_tup, in_tup, notin_tup', lineN_eq, Nat.reduceAdd, Nat.reduceLeDiff, Nat.zero_le, true_and, and_true, List.map_nil, List.map_cons, exists_eq_left', Option.some.injEq, PyData.list.injEq, exists_eq_left, PyData.int.injEq, R.ok.injEq, Sl.own.injEq, sortAV_ints]
          have hna : InU (Pg.uptoI 12) (isort (once pks)) := ⟨asc_sort (once_nodup pks), fun x m => pu x (once_mem ((isort_perm _).mem_iff.mp m))⟩
          have nl1 : 1 ≤ (isort (once pks)).length := by
            rw [(isort_perm _).length_eq]
            have := once_ne (p := pks) (by omega)
            omega
          have nl3 : (isort (once pks)).length ≤ 3 := by
            rw [(isort_perm _).length_eq]
            have := once_len pks
            omega
          generalize isort (once pks) = names at hna nl1 nl3 ⊢
          obtain ⟨pp1, pp2, pp3⟩ := parts_prop hna nl1 nl3
          simp only [wn_ok, wn_some, wn_only, wn_noex, wn_e2, wn_e1, wn_eN, wn_a0, wn_aC, wn_call, wn_tb, wn_tup, wn_lst, wn_andB, wn_orB, wn_notB, wn_andV, wn_orV, wn_notV, wn_ifV, wn_iA, wn_iR1, wn_iR2, wn_iZ, wn_iEn, wn_iRR, wn_sl, wn_p0, wn_p1, wn_up, wn_upB, wn_upI, wn_x2, wn_x0, wn_xC, wn_xN, wn_xb, wn_xAnd, wn_xOr, wn_xNot, wn_xIf, wn_xCall, wn_xR1, wn_xR2, sn_nx, sn_rt, sn_bk, sn_ct, sn_seq, sn_set, sn_ret, sn_expr, sn_if, sn_for, sn_xSet, sn_xRet, sn_xExpr, sn_xIf, sn_xFor, sn_asg, sn_xAsg, sn_own, sn_xOwn, gv_zero, gv_succ, go_own, go_dat, go_succ, k0_def, gN_def, tru_bool, tru_none, tru_int, tru_list, asSeq_list, asSeq_tup, addV_int, subV_int, ltA_i, leA_i, gtA_i, geA_i, negV_int, intV_int, lenV_list, lenV_tup, ixV_list, ixV_tup, asInt_int, slV_list, slV_tup, slL_list, revV_tup, revV_list, tupleV_list, listV_list, listV_tup, eqV_str, neV_str, eqV_int, List.set_cons_zero, List.set_cons_succ, List.getElem?_cons_zero, List.getElem?_cons_succ, List.length_cons, List.length_nil, ↓reduceIte, Bool.false_eq_true, Bool.not_true, Bool.not_false, wn_ite, gT2, gT3, neV_tup, eqV_tup, in_tup, notin_tup', lineN_eq, Nat.reduceAdd, Nat.reduceLeDiff, Nat.zero_le, true_and, and_true, List.map_nil, List.map_cons, exists_eq_left', Option.some.injEq, PyData.list.injEq, exists_eq_left, PyData.int.injEq, R.ok.injEq, Sl.own.injEq, lparts_ok nl1 nl3]
          -- what is new goes in
          refine sn_loop (fun xs η => ∃ (todo done acc2 : List Row) (s10 : Sl), xs = todo.map tupI ∧ done ++ todo = partsL names ∧ acc2.Nodup ∧ (∀ s ∈ acc, s ∈ acc2) ∧ (∀ s ∈ done, s ∈ acc2) ∧ (∀ s ∈ acc2, s ∈ acc ∨ s ∈ partsL names) ∧ acc2.length ≤ acc.length + done.length ∧
            η = [.d (.list [.int r0, .int r1, .int r2, .int r3, .int r4]), .d (.int cell), .d (.int count), .d (.int st), .d (.int sh), .own ⟨true, acc2.map prD⟩, .d (.int ((b : Nat) : Int)), .d (.list [.int i0, .int i1, .int i2, .int i3]), .d (.list (pks.map PyData.int)), .d (.list (names.map PyData.int)), s10, .no, s12]) ?_ ?_ _ _ ⟨partsL names, [], acc, s10, rfl, rfl, ca.nd, fun s m => m, fun s m => absurd m List.not_mem_nil, fun s m => .inl m, Nat.le_refl _, rfl⟩
          · rintro x xs η ⟨todo, done, acc2, s10, e, hd, nd2, h1, h2, h3, h4, rfl⟩
            match todo, e with
            | s :: todo, e =>
              cases e
              have ms : s ∈ partsL names := by rw [← hd]; exact List.mem_append_right _ List.mem_cons_self
              have ss := pp1 s ms
              have sm2 : ∀ r ∈ acc2, Smp r := fun r m => (h3 r m).elim (ca.smp r) (pp1 r)
              refine ⟨[.d (.list [.int r0, .int r1, .int r2, .int r3, .int r4]), .d (.int cell), .d (.int count), .d (.int st), .d (.int sh), .own ⟨true, acc2.map prD⟩, .d (.int ((b : Nat) : Int)), .d (.list [.int i0, .int i1, .int i2, .int i3]), .d (.list (pks.map PyData.int)), .d (.list (names.map PyData.int)), .d (tupI s), .no, s12], rfl, ?_⟩
              have nn : ninV' (.tuple [.int (s.length : Nat), tupI s]) (.list (acc2.map prD)) = some (.bool (!decide (s ∈ acc2))) := nin_prs ss sm2
              have hdl := congrArg List.length hd
              rw [List.length_append, List.length_cons] at hdl
              simp only [wn_ok, wn_some, wn_only, wn_noex, wn_e2, wn_e1, wn_eN, wn_a0, wn_aC, wn_call, wn_tb, wn_tup, wn_lst, wn_andB, wn_orB, wn_notB, wn_andV, wn_orV, wn_notV, wn_ifV, wn_iA, wn_iR1, wn_iR2, wn_iZ, wn_iEn, wn_iRR, wn_sl, wn_p0, wn_p1, wn_up, wn_upB, wn_upI, wn_x2, wn_x0, wn_xC, wn_xN, wn_xb, wn_xAnd, wn_xOr, wn_xNot, wn_xIf, wn_xCall, wn_xR1, wn_xR2, sn_nx, sn_rt, sn_bk, sn_ct, sn_seq, sn_set, sn_ret, sn_expr, sn_if, sn_for, sn_xSet, sn_xRet, sn_xExpr, sn_xIf, sn_xFor, sn_asg, sn_xAsg, sn_own, sn_xOwn, gv_zero, gv_succ, go_own, go_dat, go_succ, k0_def, gN_def, tru_bool, tru_none, tru_int, tru_list, asSeq_list, asSeq_tup, addV_int, subV_int, ltA_i, leA_i, gtA_i, geA_i, negV_int, intV_int, lenV_list, lenV_tup, ixV_list, ixV_tup, asInt_int, slV_list, slV_tup, slL_list, revV_tup, revV_list, tupleV_list, listV_list, listV_tup, eqV_str, neV_str, eqV_int, List.set_cons_zero, List.set_cons_succ, List.getElem?_cons_zero, List.getElem?_cons_succ, List.length_cons, List.length_nil, ↓reduceIte, Bool.false_eq_true, Bool.not_true, Bool.not_false, wn_ite, gT2, gT3, neV_tup, eqV_tup, in_tup, notin_tup', lineN_eq, Nat.reduceAdd, Nat.reduceLeDiff, Nat.zero_le, true_and, and_true, List.map_nil, List.map_cons, exists_eq_left', Option.some.injEq, PyData.list.injEq, exists_eq_left, PyData.int.injEq, R.ok.injEq, Sl.own.injEq, len_tup, nn]
              by_cases mem : s ∈ acc2
              · rw [decide_eq_true mem]
                simp only [Bool.not_true, Bool.false_eq_true, ↓reduceIte]
                refine ⟨todo, done ++ [s], acc2, _, rfl, by rw [List.append_assoc]; exact hd, nd2, h1, fun r m => ?_, h3, by rw [List.length_append]; omega, rfl⟩
                rcases List.mem_append.mp m with m | m
                · exact h2 r m
                · rw [List.mem_singleton.mp m]; exact mem
              · rw [decide_eq_false mem]
                simp only [Bool.not_false, ↓reduceIte]
                refine sn_app rfl ?_
                simp only [wn_ok, wn_some, wn_only, wn_noex, wn_e2, wn_e1, wn_eN, wn_a0, wn_aC, wn_call, wn_tb, wn_tup, wn_lst, wn_andB, wn_orB, wn_notB, wn_andV, wn_orV, wn_notV, wn_ifV, wn_iA, wn_iR1, wn_iR2, wn_iZ, wn_iEn, wn_iRR, wn_sl, wn_p0, wn_p1, wn_up, wn_upB, wn_upI, wn_x2, wn_x0, wn_xC, wn_xN, wn_xb, wn_xAnd, wn_xOr, wn_xNot, wn_xIf, wn_xCall, wn_xR1, wn_xR2, sn_nx, sn_rt, sn_bk, sn_ct, sn_seq, sn_set, sn_ret, sn_expr, sn_if, sn_for, sn_xSet, sn_xRet, sn_xExpr, sn_xIf, sn_xFor, sn_asg, sn_xAsg, sn_own, sn_xOwn, gv_zero, gv_succ, go_own, go_dat, go_succ, k0_def, gN_def, tru_bool, tru_none, tru_int, tru_list, asSeq_list, asSeq_tup, addV_int, subV_int, ltA_i, leA_i, gtA_i, geA_i, negV_int, intV_int, lenV_list, lenV_tup, ixV_list, ixV_tup, asInt_int, slV_list, slV_tup, slL_list, revV_tup, revV_list, tupleV_list, listV_list, listV_tup, eqV_str, neV_str, eqV_int, List.set_cons_zero, List.set_cons_succ, List.getElem?_cons_zero, List.getElem?_cons_succ, List.length_cons, List.length_nil, ↓reduceIte, Bool.false_eq_true, Bool.not_true, Bool.not_false, wn_ite, gT2, gT3, neV_tup, eqV_tup, in_tup, notin_tup', lineN_eq, Nat.reduceAdd, Nat.reduceLeDiff, Nat.zero_le, true_and, and_true, List.map_nil, List.map_cons, exists_eq_left', Option.some.injEq, PyData.list.injEq, exists_eq_left, PyData.int.injEq, R.ok.injEq, Sl.own.injEq, len_tup]
                refine ⟨by rw [List.length_map]; omega, ?_⟩
                refine ⟨todo, done ++ [s], acc2 ++ [s], .d (tupI s), rfl, by rw [List.append_assoc]; exact hd, ?_, fun r m => List.mem_append_left _ (h1 r m), fun r m => ?_, fun r m => ?_, by rw [List.length_append, List.length_append]; simp; omega, ?_⟩
                · refine List.nodup_append.mpr ⟨nd2, List.pairwise_singleton _ _, fun a ma b mb e => ?_⟩
                  rw [List.mem_singleton.mp mb] at e
                  exact mem (e ▸ ma)
                · rcases List.mem_append.mp m with m | m
                  · exact List.mem_append_left _ (h2 r m)
                  · rw [List.mem_singleton.mp m]; exact List.mem_append_right _ List.mem_cons_self
                · rcases List.mem_append.mp m with m | m
                  · exact h3 r m
                  · rw [List.mem_singleton.mp m]; exact .inr ms
                · rw [List.map_append]
                  rfl
          · rintro η ⟨todo, done, acc2, s10, e, hd, nd2, h1, h2, h3, h4, rfl⟩
            match todo, e with
            | [], _ =>
              rw [List.append_nil] at hd
              subst hd
              refine ⟨l, n + 1, acc2, _, _, _, _, _, _, rfl, ⟨nd2, fun s m => (h3 s m).elim (ca.smp s) (pp1 s), fun s m f mf => ?_⟩, by omega, by omega, rfl⟩
              rcases h3 s m with m | m
              · exact h1 f (ca.cl s m f mf)
              · exact h2 f (pp2 s m f mf)
  · rintro η ⟨l, n, acc, s6, s7, s8, s9, s10, s12, e, ca, la, ln, rfl⟩
    match l, e with
    | [], _ =>
      refine sn_frz rfl ?_
      have srt : sortAV [.list (acc.map prD)] = some (.list ((srtP acc).map prD)) := by
        cases acc with
        | nil => exact sort_pr0
        | cons a r => exact sort_pr (Nat.zero_lt_succ _)
      have sl := (srtP_perm acc).length_eq
      simp only [wn_ok, wn_some, wn_only, wn_noex, wn_e2, wn_e1, wn_eN, wn_a0, wn_aC, wn_call, wn_tb, wn_tup, wn_lst, wn_andB, wn_orB, wn_notB, wn_andV, wn_orV, wn_notV, wn_ifV, wn_iA, wn_iR1, wn_iR2, wn_iZ, wn_iEn, wn_iRR, wn_sl, wn_p0, wn_p1, wn_up, wn_upB, wn_upI, wn_x2, wn_x0, wn_xC, wn_xN, wn_xb, wn_xAnd, wn_xOr, wn_xNot, wn_xIf, wn_xCall, wn_xR1, wn_xR2, sn_nx, sn_rt, sn_bk, sn_ct, sn_seq, sn_set, sn_ret, sn_expr, sn_if, sn_for, sn_xSet, sn_xRet, sn_xExpr, sn_xIf, sn_xFor, sn_asg, sn_xAsg, sn_own, sn_xOwn, gv_zero, gv_succ, go_own, go_dat, go_succ, k0_def, gN_def, tru_bool, tru_none, tru_int, tru_list, asSeq_list, asSeq_tup, addV_int, subV_int, ltA_i, leA_i, gtA_i, geA_i, negV_int, intV_int, lenV_list, lenV_tup, ixV_list, ixV_tup, asInt_int, slV_list, slV_tup, slL_list, revV_tup, revV_list, tupleV_list, listV_list, listV_tup, eqV_str, neV_str, eqV_int, List.set_cons_zero, List.set_cons_succ, List.getElem?_cons_zero, List.getElem?_cons_succ, List.length_cons, List.length_nil, ↓reduceIte, Bool.false_eq_true, Bool.not_true, Bool.not_false, wn_ite, gT2, gT3, neV_tup, eqV_tup, in_tup, notin_tup', lineN_eq, Nat.reduceAdd, Nat.reduceLeDiff, Nat.zero_le, true_and, and_true, List.map_nil, List.map_cons, exists_eq_left', Option.some.injEq, PyData.list.injEq, exists_eq_left, PyData.int.injEq, R.ok.injEq, Sl.own.injEq]
      refine wn_comp (xs := (srtP acc).map prD) (fun _ => true) onP ?_ ?_ ?_ ?_
      · simp only [wn_ok, wn_some, wn_only, wn_noex, wn_e2, wn_e1, wn_eN, wn_a0, wn_aC, wn_call, wn_tb, wn_tup, wn_lst, wn_andB, wn_orB, wn_notB, wn_andV, wn_orV, wn_notV, wn_ifV, wn_iA, wn_iR1, wn_iR2, wn_iZ, wn_iEn, wn_iRR, wn_sl, wn_p0, wn_p1, wn_up, wn_upB, wn_upI, wn_x2, wn_x0, wn_xC, wn_xN, wn_xb, wn_xAnd, wn_xOr, wn_xNot, wn_xIf, wn_xCall, wn_xR1, wn_xR2, sn_nx, sn_rt, sn_bk, sn_ct, sn_seq, sn_set, sn_ret, sn_expr, sn_if, sn_for, sn_xSet, sn_xRet, sn_xExpr, sn_xIf, sn_xFor, sn_asg, sn_xAsg, sn_own, sn_xOwn, gv_zero, gv_succ, go_own, go_dat, go_succ, k0_def, gN_def, tru_bool, tru_none, tru_int, tru_list, asSeq_list, asSeq_tup, addV_int, subV_int, ltA_i, leA_i, gtA_i, geA_i, negV_int, intV_int, lenV_list, lenV_tup, ixV_list, ixV_tup, asInt_int, slV_list, slV_tup, slL_list, revV_tup, revV_list, tupleV_list, listV_list, listV_tup, eqV_str, neV_str, eqV_int, List.set_cons_zero, List.set_cons_succ, List.getElem?_cons_zero, List.getElem?_cons_succ, List.length_cons, List.length_nil, ↓reduceIte, Bool.false_eq_true, Bool.not_true, Bool.not_false, wn_ite, gT2, gT3, neV_tup, eqV_tup, in_tup, notin_tup', lineN_eq, Nat.reduceAdd, Nat.reduceLeDiff, Nat.zero_le, true_and, and_true, List.map_nil, List.map_cons, exists_eq_left', Option.some.injEq, PyData.list.injEq, exists_eq_left, PyData.int.injEq, R.ok.injEq, Sl.own.injEq, srt]
      · intro y m
        obtain ⟨s, ms, rfl⟩ := List.mem_map.mp m
        refine ⟨[.d (.list [.int r0, .int r1, .int r2, .int r3, .int r4]), .d (.int cell), .d (.int count), .d (.int st), .d (.int sh), .d (.list (acc.map prD)), s6, s7, s8, s9, .d (tupI s), .d (.int (s.length : Nat)), s12], rfl, ?_⟩
        rw [wn_ok]
        exact ⟨rfl, fun _ => by simp only [wn_ok, wn_some, wn_only, wn_noex, wn_e2, wn_e1, wn_eN, wn_a0, wn_aC, wn_call, wn_tb, wn_tup, wn_lst, wn_andB, wn_orB, wn_notB, wn_andV, wn_orV, wn_notV, wn_ifV, wn_iA, wn_iR1, wn_iR2, wn_iZ, wn_iEn, wn_iRR, wn_sl, wn_p0, wn_p1, wn_up, wn_upB, wn_upI, wn_x2, wn_x0, wn_xC, wn_xN, wn_xb, wn_xAnd, wn_xOr, wn_xNot, wn_xIf, wn_xCall, wn_xR1, wn_xR2, sn_nx, sn_rt, sn_bk, sn_ct, sn_seq, sn_set, sn_ret, sn_expr, sn_if, sn_for, sn_xSet, sn_xRet, sn_xExpr, sn_xIf, sn_xFor, sn_asg, sn_xAsg, sn_own, sn_xOwn, gv_zero, gv_succ, go_own, go_dat, go_succ, k0_def, gN_def, tru_bool, tru_none, tru_int, tru_list, asSeq_list, asSeq_tup, addV_int, subV_int, ltA_i, leA_i, gtA_i, geA_i, negV_int, intV_int, lenV_list, lenV_tup, ixV_list, ixV_tup, asInt_int, slV_list, slV_tup, slL_list, revV_tup, revV_list, tupleV_list, listV_list, listV_tup, eqV_str, neV_str, eqV_int, List.set_cons_zero, List.set_cons_succ, List.getElem?_cons_zero, List.getElem?_cons_succ, List.length_cons, List.length_nil, ↓reduceIte, Bool.false_eq_true, Bool.not_true, Bool.not_false, wn_ite, gT2, gT3, neV_tup, eqV_tup, in_tup, notin_tup', lineN_eq, Nat.reduceAdd, Nat.reduceLeDiff, Nat.zero_le, true_and, and_true, List.map_nil, List.map_cons, exists_eq_left', Option.some.injEq, PyData.list.injEq, exists_eq_left, PyData.int.injEq, R.ok.injEq, Sl.own.injEq]; rfl⟩
      · rw [List.length_map, lineN_eq]
        omega
      · have e2 : (((srtP acc).map prD).filter fun _ => true).map onP = (srtP acc).map tupI := by
          rw [List.filter_eq_self.mpr fun _ _ => rfl, List.map_map]
          rfl
        rw [e2]
        have pm := srtP_perm acc
        exact k (srtP acc) ⟨pm.nodup_iff.mpr ca.nd, fun s m => ca.smp s (pm.mem_iff.mp m), fun s m f mf => pm.mem_iff.mpr (ca.cl s (pm.mem_iff.mp m) f mf)⟩ (srtP_len acc) (by omega)
  · unfold rangeD
    refine List.map_congr_left fun j _ => ?_
    rw [Int.zero_add]
end Sc
end Bd
/-! R3: shapes by cells. -/
namespace Bd
open PySem L2
namespace Sc
open Sh
def G__law_shape : Nv → Rs :=
    (seqS (setS 2 (callV Lw.F_row (aC (callV Lw.F_cell (aC (gv 0) (aC (gv 1) a0))) (aC (k0 (.int 5)) (aC (k0 (.int 5040)) a0)))))
    (seqS (newZ 3)
    (seqS (setS 4 (e2 ixV (lstV (aC (k0 (.int 1)) (aC (k0 (.int 4)) (aC (k0 (.int 40)) (aC (k0 (.int 300)) a0))))) (e2 modV (eN intV (aC (e2 ixV (gv 2) (k0 (.int 3))) a0)) (k0 (.int 4)))))
    (seqS (setS 5 (e2 subV (e2 modV (eN intV (aC (callV Lw.F_cell (aC (gv 0) (aC (e2 addV (gv 1) (k0 (.int 2))) a0))) a0)) (k0 (.int 1201))) (k0 (.int 600))))
    (seqS (ownS 6 (lstV a0))
    (seqS (forS (iA (callV F__law_closed (aC (gv 2) (aC (callV Lw.F_cell (aC (gv 0) (aC (e2 addV (gv 1) (k0 (.int 1))) a0))) (aC (e2 modV (eN intV (aC (e2 ixV (gv 2) (k0 (.int 2))) a0)) (k0 (.int 7))) a0))))) (gN 7) (seqS (setS 8 (e2 ixV (callV Lw.F_row (aC (e2 addV (eN intV (aC (callV Lw.F_cell (aC (gv 0) (aC (e2 addV (gv 1) (k0 (.int 3))) a0))) a0)) (e2 mulV (k0 (.int 1009)) (eN lenV (aC (go 6) a0)))) (aC (k0 (.int 1)) (aC (k0 (.int 720)) a0)))) (k0 (.int 0))))
    (seqS (setS 9 (eN minV (aC (k0 (.int 1000)) (aC (e2 addV (eN maxV (aC (e2 addV (lstV (aC (gv 5) a0)) (compE (iA (callV F__law_faces (aC (gv 7) a0))) (gN 10) (fun _ => .ok true) (zgetD 3 (gv 10)) [10])) a0)) (e2 modV (eN intV (aC (gv 8) a0)) (gv 4))) a0))))
    (seqS (xZPut 3 (up (gv 9)) (gv 7))
    (seqS (appS 6 (tupV (aC (gv 7) (aC (gv 9) a0))))
    .nx)))))
    (seqS (frzS 6)
    (seqS (ifS (tb (e2 eqV' (e2 modV (eN intV (aC (e2 ixV (gv 2) (k0 (.int 4))) a0)) (k0 (.int 3))) (k0 (.int 1)))) (seqS (setS 6 (e1 revV (gv 6)))
    .nx) .nx)
    (seqS (ifS (tb (e2 eqV' (e2 modV (eN intV (aC (e2 ixV (gv 2) (k0 (.int 4))) a0)) (k0 (.int 3))) (k0 (.int 2)))) (seqS (setS 6 (e2 addV (e1 (step2V 1) (gv 6)) (e1 (step2V 0) (gv 6))))
    .nx) .nx)
    (seqS (retS (gv 6))
    .nx))))))))))
def F__law_shape : List D → R D := runD 11 (.ok .none) G__law_shape
theorem mem_idx2 {k n i : Nat} : i ∈ idx2 k n ↔ k ≤ i ∧ i < n ∧ (i - k) % 2 = 0 := by
  unfold idx2
  constructor
  · intro m
    obtain ⟨j, mj, rfl⟩ := List.mem_map.mp m
    have := List.mem_range.mp mj
    omega
  · rintro ⟨h1, h2, h3⟩
    exact List.mem_map.mpr ⟨(i - k) / 2, List.mem_range.mpr (by omega), by omega⟩
theorem idx2_nodup (k n : Nat) : (idx2 k n).Nodup := by
  unfold idx2
  rw [List.Nodup, List.pairwise_map]
  exact (List.pairwise_lt_range (n := (n + 1 - k) / 2)).imp fun h => by omega
theorem idx2_perm (n : Nat) : (idx2 1 n ++ idx2 0 n).Perm (List.range n) := by
  refine (List.perm_ext_iff_of_nodup ?_ List.nodup_range).mpr fun i => ?_
  · refine List.nodup_append.mpr ⟨idx2_nodup _ _, idx2_nodup _ _, fun a ma b mb e => ?_⟩
    have h1 := mem_idx2.mp ma
    have h2 := mem_idx2.mp mb
    omega
  · rw [List.mem_append, mem_idx2, mem_idx2, List.mem_range]
    omega
theorem all_idx {α : Type} (xs : List α) : (List.range xs.length).filterMap (xs[·]?) = xs := by
  have h := PySem.W.krv_all xs.toArray
  simpa using h
theorem alt_perm {α : Type} (xs : List α) : ((idx2 1 xs.length).filterMap (xs[·]?) ++ (idx2 0 xs.length).filterMap (xs[·]?)).Perm xs := by
  rw [← List.filterMap_append]
  have := (idx2_perm xs.length).filterMap (xs[·]?)
  rw [all_idx] at this
  exact this
theorem idx_map {α β : Type} (f : α → β) (xs : List α) (l : List Nat) : l.filterMap ((xs.map f)[·]?) = (l.filterMap (xs[·]?)).map f := by
  rw [List.map_filterMap]
  congr 1
  funext i
  rw [List.getElem?_map]
def hgt (hs : List Ih) (f : Row) : Int := (look hs f).getD 0
def hgtD (hs : List Ih) (d : D) : D := match keyD d with
  | some f => .int (hgt hs f)
  | none => .none
theorem O_faces_len {s : Row} (hs : Smp s) : (facesL s).length ≤ 3 := by
  unfold facesL
  have := hs.hi
  split
  · exact Nat.zero_le _
  · rw [List.length_map, List.length_range]; exact this
theorem min_2 (a b : Int) : minV [.int a, .int b] = some (.int (if b < a then b else a)) := rfl
structure Bd1 (it : List Ih) : Prop where
  shp : Shp it
  bd : ∀ p ∈ it, -1000 ≤ p.2 ∧ p.2 ≤ 1000
  len : it.length ≤ 42
theorem Bd1.perm {a b : List Ih} (h : Bd1 a) (p : b.Perm a) : Bd1 b := ⟨h.shp.perm p, fun x m => h.bd x (p.mem_iff.mp m), by rw [p.length_eq]; exact h.len⟩
theorem shape_w (ns : List Int) (start : Nat) {QD : D → Prop} (k : ∀ it : List Ih, Bd1 it → QD (.list (it.map itD))) : Wn (F__law_shape [.list (ns.map PyData.int), .int ((start : Nat) : Int)]) QD := by
  refine wn_runD ?_
  show Sn (G__law_shape [.d (.list (ns.map PyData.int)), .d (.int ((start : Nat) : Int)), .no, .no, .no, .no, .no, .no, .no, .no, .no]) _ _ _ _
  unfold G__law_shape
  have cc : ∀ j : Nat, Lw.F_cell [.list (ns.map PyData.int), .int (((start : Nat) : Int) + ((j : Nat) : Int))] = .ok (.int (Lw.cell ns (start + j))) := fun j => by
    rw [show ((start : Nat) : Int) + ((j : Nat) : Int) = ((start + j : Nat) : Int) by omega]
    exact Lw.cell_ok ns _
  have c1 := cc 1
  have c2 := cc 2
  have c3 := cc 3
  rw [show ((1 : Nat) : Int) = 1 from rfl] at c1
  rw [show ((2 : Nat) : Int) = 2 from rfl] at c2
  rw [show ((3 : Nat) : Int) = 3 from rfl] at c3
  have c0 := Lw.cell_ok ns start
  obtain ⟨ys, yl, yb, ye⟩ := Lw.row_ok (c := Lw.cell ns start) (b := 5040) (n := 5) (by decide) (by decide)
  have ye : Lw.F_row [.int (Lw.cell ns start), .int 5, .int 5040] = .ok (.list ys) := ye
  match ys, yl with
  | [y0, y1, y2, y3, y4], _ =>
    obtain ⟨r0, rfl, a0, b0⟩ := yb y0 (by simp)
    obtain ⟨r1, rfl, a1, b1⟩ := yb y1 (by simp)
    obtain ⟨r2, rfl, a2, b2⟩ := yb y2 (by simp)
    obtain ⟨r3, rfl, a3, b3⟩ := yb y3 (by simp)
    obtain ⟨r4, rfl, a4, b4⟩ := yb y4 (by simp)
    have x2 : atD [PyData.int r0, .int r1, .int r2, .int r3, .int r4] 2 = some (.int r2) := rfl
    have x3 : atD [PyData.int r0, .int r1, .int r2, .int r3, .int r4] 3 = some (.int r3) := rfl
    have x4 : atD [PyData.int r0, .int r1, .int r2, .int r3, .int r4] 4 = some (.int r4) := rfl
    have m3 : ∀ z : Int, modV (.int z) (.int 3) = some (.int (z % 3)) := fun z => modV_int (by decide)
    have m4 : ∀ z : Int, modV (.int z) (.int 4) = some (.int (z % 4)) := fun z => modV_int (by decide)
    have m7 : ∀ z : Int, modV (.int z) (.int 7) = some (.int (z % 7)) := fun z => modV_int (by decide)
    have mL : ∀ z : Int, modV (.int z) (.int 1201) = some (.int (z % 1201)) := fun z => modV_int (by decide)
    obtain ⟨wide, aw, w0, w1⟩ : ∃ wide : Int, atD [PyData.int 1, .int 4, .int 40, .int 300] (r3 % 4) = some (.int wide) ∧ 1 ≤ wide ∧ wide ≤ 300 := by
      have : r3 % 4 = 0 ∨ r3 % 4 = 1 ∨ r3 % 4 = 2 ∨ r3 % 4 = 3 := by omega
      rcases this with h | h | h | h <;> rw [h]
      · exact ⟨1, rfl, by decide, by decide⟩
      · exact ⟨4, rfl, by decide, by decide⟩
      · exact ⟨40, rfl, by decide, by decide⟩
      · exact ⟨300, rfl, by decide, by decide⟩
    have mw : ∀ z : Int, modV (.int z) (.int wide) = some (.int (z % wide)) := fun z => modV_int (by omega)
    obtain ⟨low, hlow, l0, l1⟩ : ∃ low : Int, Lw.cell ns (start + 2) % 1201 - 600 = low ∧ -600 ≤ low ∧ low ≤ 600 := ⟨_, rfl, by omega, by omega⟩
    simp only [wn_ok, wn_some, wn_only, wn_noex, wn_e2, wn_e1, wn_eN, wn_a0, wn_aC, wn_call, wn_tb, wn_tup, wn_lst, wn_andB, wn_orB, wn_notB, wn_andV, wn_orV, wn_notV, wn_ifV, wn_iA, wn_iR1, wn_iR2, wn_iZ, wn_iEn, wn_iRR, wn_sl, wn_p0, wn_p1, wn_up, wn_upB, wn_upI, wn_x2, wn_x0, wn_xC, wn_xN, wn_xb, wn_xAnd, wn_xOr, wn_xNot, wn_xIf, wn_xCall, wn_xR1, wn_xR2, sn_nx, sn_rt, sn_bk, sn_ct, sn_seq, sn_set, sn_ret, sn_expr, sn_if, sn_for, sn_xSet, sn_xRet, sn_xExpr, sn_xIf, sn_xFor, sn_asg, sn_xAsg, sn_own, sn_xOwn, gv_zero, gv_succ, go_own, go_dat, go_succ, k0_def, gN_def, tru_bool, tru_none, tru_int, tru_list, asSeq_list, asSeq_tup, addV_int, subV_int, ltA_i, leA_i, gtA_i, geA_i, negV_int, intV_int, lenV_list, lenV_tup, ixV_list, ixV_tup, asInt_int, slV_list, slV_tup, slL_list, revV_tup, revV_list, tupleV_list, listV_list, listV_tup, eqV_str, neV_str, eqV_int, List.set_cons_zero, List.set_cons_succ, List.getElem?_cons_zero, List.getElem?_cons_succ, List.length_cons, List.length_nil, ↓reduceIte, Bool.false_eq_true, Bool.not_true, Bool.not_false, wn_ite, gT2, gT3, neV_tup, eqV_tup, in_tup, notin_tup', lineN_eq, Nat.reduceAdd, Nat.reduceLeDiff, Nat.zero_le, true_and, and_true, List.map_nil, List.map_cons, exists_eq_left', Option.some.injEq, PyData.list.injEq, exists_eq_left, PyData.int.injEq, R.ok.injEq, Sl.own.injEq, c0, ye, sn_newZ, x3, m4, aw, c2, mL, hlow, c1, x2, m7]
    refine closed_w a0 a1 (by omega) (by omega) fun L cl pw ll => ?_
    simp only [wn_ok, wn_some, wn_only, wn_noex, wn_e2, wn_e1, wn_eN, wn_a0, wn_aC, wn_call, wn_tb, wn_tup, wn_lst, wn_andB, wn_orB, wn_notB, wn_andV, wn_orV, wn_notV, wn_ifV, wn_iA, wn_iR1, wn_iR2, wn_iZ, wn_iEn, wn_iRR, wn_sl, wn_p0, wn_p1, wn_up, wn_upB, wn_upI, wn_x2, wn_x0, wn_xC, wn_xN, wn_xb, wn_xAnd, wn_xOr, wn_xNot, wn_xIf, wn_xCall, wn_xR1, wn_xR2, sn_nx, sn_rt, sn_bk, sn_ct, sn_seq, sn_set, sn_ret, sn_expr, sn_if, sn_for, sn_xSet, sn_xRet, sn_xExpr, sn_xIf, sn_xFor, sn_asg, sn_xAsg, sn_own, sn_xOwn, gv_zero, gv_succ, go_own, go_dat, go_succ, k0_def, gN_def, tru_bool, tru_none, tru_int, tru_list, asSeq_list, asSeq_tup, addV_int, subV_int, ltA_i, leA_i, gtA_i, geA_i, negV_int, intV_int, lenV_list, lenV_tup, ixV_list, ixV_tup, asInt_int, slV_list, slV_tup, slL_list, revV_tup, revV_list, tupleV_list, listV_list, listV_tup, eqV_str, neV_str, eqV_int, List.set_cons_zero, List.set_cons_succ, List.getElem?_cons_zero, List.getElem?_cons_succ, List.length_cons, List.length_nil, ↓reduceIte, Bool.false_eq_true, Bool.not_true, Bool.not_false, wn_ite, gT2, gT3, neV_tup, eqV_tup, in_tup, notin_tup', lineN_eq, Nat.reduceAdd, Nat.reduceLeDiff, Nat.zero_le, true_and, and_true, List.map_nil, List.map_cons, exists_eq_left', Option.some.injEq, PyData.list.injEq, exists_eq_left, PyData.int.injEq, R.ok.injEq, Sl.own.injEq]
    refine sn_loop (fun xs η => ∃ (todo : List Row) (hs : List Ih) (s7 s8 s9 s10 : Sl), xs = todo.map tupI ∧ hs.map (·.1) ++ todo = L ∧ (∀ p ∈ hs, -1000 ≤ p.2 ∧ p.2 ≤ 1000) ∧ (∀ p ∈ hs, ∀ f ∈ facesL p.1, ∃ q ∈ hs, q.1 = f ∧ q.2 ≤ p.2) ∧
      η = [.d (.list (ns.map PyData.int)), .d (.int ((start : Nat) : Int)), .d (.list [.int r0, .int r1, .int r2, .int r3, .int r4]), .dk (.tup (zsD hs)), .d (.int wide), .d (.int low), .own ⟨true, hs.map itD⟩, s7, s8, s9, s10]) ?_ ?_ _ _ ⟨L, [], .no, .no, .no, .no, rfl, rfl, fun p m => absurd m List.not_mem_nil, fun p m => absurd m List.not_mem_nil, rfl⟩
    · rintro x xs η ⟨todo, hs, s7, s8, s9, s10, e, hd, hb, hf, rfl⟩
      cases todo with
      | nil => cases e
      | cons s todo =>
        rw [List.map_cons] at e
        obtain ⟨rfl, rfl⟩ := List.cons.inj e
        have lenE := congrArg List.length hd
        rw [List.length_append, List.length_map, List.length_cons] at lenE
        have ms : s ∈ L := by rw [← hd]; exact List.mem_append_right _ List.mem_cons_self
        have ss := cl.smp s ms
        have ndL := cl.nd
        rw [← hd] at ndL
        have hnd : (hs.map (·.1)).Nodup := (List.nodup_append.mp ndL).1
        have snot : s ∉ hs.map (·.1) := fun m => (List.nodup_append.mp ndL).2.2 s m s List.mem_cons_self rfl
        have there : ∀ f ∈ facesL s, f ∈ hs.map (·.1) := fun f mf => by
          have mL := cl.cl s ms f mf
          rw [← hd] at mL
          rcases List.mem_append.mp mL with m | m
          · exact m
          · exfalso
            have sh := facesL_short ss mf
            rw [← hd] at pw
            have pw2 := (List.pairwise_append.mp pw).2.1
            rcases List.mem_cons.mp m with rfl | m
            · omega
            · have := (List.pairwise_cons.mp pw2).1 f m
              omega
        have lk : ∀ f ∈ facesL s, look hs f = some (hgt hs f) := fun f mf => by
          obtain ⟨h, e⟩ := look_of (there f mf)
          unfold hgt
          rw [e]
          rfl
        refine ⟨[.d (.list (ns.map PyData.int)), .d (.int ((start : Nat) : Int)), .d (.list [.int r0, .int r1, .int r2, .int r3, .int r4]), .dk (.tup (zsD hs)), .d (.int wide), .d (.int low), .own ⟨true, hs.map itD⟩, .d (tupI s), s8, s9, s10], rfl, ?_⟩
        have mu : mulV (.int 1009) (.int ((hs.length : Nat) : Int)) = some (.int (1009 * ((hs.length : Nat) : Int))) := mulV_int (.inl (by decide))
        obtain ⟨zs, zl, zb, ze⟩ := Lw.row_ok (c := Lw.cell ns (start + 3) + 1009 * ((hs.length : Nat) : Int)) (b := 720) (n := 1) (by decide) (by decide)
        have ze : Lw.F_row [.int (Lw.cell ns (start + 3) + 1009 * ((hs.length : Nat) : Int)), .int 1, .int 720] = .ok (.list zs) := ze
        match zs, zl with
        | [z0], _ =>
          obtain ⟨more, rfl, q0, q1⟩ := zb z0 (by simp)
          have z0 : atD [PyData.int more] 0 = some (.int more) := rfl
          have ll2 : lenV [.list (hs.map itD)] = some (.int ((hs.length : Nat) : Int)) := by
            show some (PyData.int ((hs.map itD).length : Nat)) = _
            rw [List.length_map]
          simp only [wn_ok, wn_some, wn_only, wn_noex, wn_e2, wn_e1, wn_eN, wn_a0, wn_aC, wn_call, wn_tb, wn_tup, wn_lst, wn_andB, wn_orB, wn_notB, wn_andV, wn_orV, wn_notV, wn_ifV, wn_iA, wn_iR1, wn_iR2, wn_iZ, wn_iEn, wn_iRR, wn_sl, wn_p0, wn_p1, wn_up, wn_upB, wn_upI, wn_x2, wn_x0, wn_xC, wn_xN, wn_xb, wn_xAnd, wn_xOr, wn_xNot, wn_xIf, wn_xCall, wn_xR1, wn_xR2, sn_nx, sn_rt, sn_bk, sn_ct, sn_seq, sn_set, sn_ret, sn_expr, sn_if, sn_for, sn_xSet, sn_xRet, sn_xExpr, sn_xIf, sn_xFor, sn_asg, sn_xAsg, sn_own, sn_xOwn, gv_zero, gv_succ, go_own, go_dat, go_succ, k0_def, gN_def, tru_bool, tru_none, tru_int, tru_list, asSeq_list, asSeq_tup, addV_int, subV_int, ltA_i, leA_i, gtA_i, geA_i, negV_int, intV_int, lenV_list, lenV_tup, ixV_list, ixV_tup, asInt_int, slV_list, slV_tup, slL_list, revV_tup, revV_list, tupleV_list, listV_list, listV_tup, eqV_str, neV_str, eqV_int, List.set_cons_zero, List.set_cons_succ, List.getElem?_cons_zero, List.getElem?_cons_succ, List.length_cons, List.length_nil, ↓reduceIte, Bool.false_eq_true, Bool.not_true, Bool.not_false, wn_ite, gT2, gT3, neV_tup, eqV_tup, in_tup, notin_tup', lineN_eq, Nat.reduceAdd, Nat.reduceLeDiff, Nat.zero_le, true_and, and_true, List.map_nil, List.map_cons, exists_eq_left', Option.some.injEq, PyData.list.injEq, exists_eq_left, PyData.int.injEq, R.ok.injEq, Sl.own.injEq, c3, mu, ze, z0, ll2]
          refine wn_comp (xs := (facesL s).reverse.map tupI) (fun _ => true) (hgtD hs) ?_ ?_ ?_ ?_
          · simp only [wn_ok, wn_some, wn_only, wn_noex, wn_e2, wn_e1, wn_eN, wn_a0, wn_aC, wn_call, wn_tb, wn_tup, wn_lst, wn_andB, wn_orB, wn_notB, wn_andV, wn_orV, wn_notV, wn_ifV, wn_iA, wn_iR1, wn_iR2, wn_iZ, wn_iEn, wn_iRR, wn_sl, wn_p0, wn_p1, wn_up, wn_upB, wn_upI, wn_x2, wn_x0, wn_xC, wn_xN, wn_xb, wn_xAnd, wn_xOr, wn_xNot, wn_xIf, wn_xCall, wn_xR1, wn_xR2, sn_nx, sn_rt, sn_bk, sn_ct, sn_seq, sn_set, sn_ret, sn_expr, sn_if, sn_for, sn_xSet, sn_xRet, sn_xExpr, sn_xIf, sn_xFor, sn_asg, sn_xAsg, sn_own, sn_xOwn, gv_zero, gv_succ, go_own, go_dat, go_succ, k0_def, gN_def, tru_bool, tru_none, tru_int, tru_list, asSeq_list, asSeq_tup, addV_int, subV_int, ltA_i, leA_i, gtA_i, geA_i, negV_int, intV_int, lenV_list, lenV_tup, ixV_list, ixV_tup, asInt_int, slV_list, slV_tup, slL_list, revV_tup, revV_list, tupleV_list, listV_list, listV_tup, eqV_str, neV_str, eqV_int, List.set_cons_zero, List.set_cons_succ, List.getElem?_cons_zero, List.getElem?_cons_succ, List.length_cons, List.length_nil, ↓reduceIte, Bool.false_eq_true, Bool.not_true, Bool.not_false, wn_ite, gT2, gT3, neV_tup, eqV_tup, in_tup, notin_tup', lineN_eq, Nat.reduceAdd, Nat.reduceLeDiff, Nat.zero_le, true_and, and_true, List.map_nil, List.map_cons, exists_eq_left', Option.some.injEq, PyData.list.injEq, exists_eq_left, PyData.int.injEq, R.ok.injEq, Sl.own.injEq, lfaces_ok ss]
          · intro y m
            obtain ⟨f, mf, rfl⟩ := List.mem_map.mp m
            have mf := List.mem_reverse.mp mf
            refine ⟨[.d (.list (ns.map PyData.int)), .d (.int ((start : Nat) : Int)), .d (.list [.int r0, .int r1, .int r2, .int r3, .int r4]), .dk (.tup (zsD hs)), .d (.int wide), .d (.int low), .own ⟨true, hs.map itD⟩, .d (tupI s), .d (.int more), s9, .d (tupI f)], rfl, ?_⟩
            rw [wn_ok]
            refine ⟨rfl, fun _ => ?_⟩
            rw [wn_zgetD (ks := zsD hs) rfl]
            simp only [wn_ok, wn_some, wn_only, wn_noex, wn_e2, wn_e1, wn_eN, wn_a0, wn_aC, wn_call, wn_tb, wn_tup, wn_lst, wn_andB, wn_orB, wn_notB, wn_andV, wn_orV, wn_notV, wn_ifV, wn_iA, wn_iR1, wn_iR2, wn_iZ, wn_iEn, wn_iRR, wn_sl, wn_p0, wn_p1, wn_up, wn_upB, wn_upI, wn_x2, wn_x0, wn_xC, wn_xN, wn_xb, wn_xAnd, wn_xOr, wn_xNot, wn_xIf, wn_xCall, wn_xR1, wn_xR2, sn_nx, sn_rt, sn_bk, sn_ct, sn_seq, sn_set, sn_ret, sn_expr, sn_if, sn_for, sn_xSet, sn_xRet, sn_xExpr, sn_xIf, sn_xFor, sn_asg, sn_xAsg, sn_own, sn_xOwn, gv_zero, gv_succ, go_own, go_dat, go_succ, k0_def, gN_def, tru_bool, tru_none, tru_int, tru_list, asSeq_list, asSeq_tup, addV_int, subV_int, ltA_i, leA_i, gtA_i, geA_i, negV_int, intV_int, lenV_list, lenV_tup, ixV_list, ixV_tup, asInt_int, slV_list, slV_tup, slL_list, revV_tup, revV_list, tupleV_list, listV_list, listV_tup, eqV_str, neV_str, eqV_int, List.set_cons_zero, List.set_cons_succ, List.getElem?_cons_zero, List.getElem?_cons_succ, List.length_cons, List.length_nil, ↓reduceIte, Bool.false_eq_true, Bool.not_true, Bool.not_false, wn_ite, gT2, gT3, neV_tup, eqV_tup, in_tup, notin_tup', lineN_eq, Nat.reduceAdd, Nat.reduceLeDiff, Nat.zero_le, true_and, and_true, List.map_nil, List.map_cons, exists_eq_left', Option.some.injEq, PyData.list.injEq, exists_eq_left, PyData.int.injEq, R.ok.injEq, Sl.own.injEq]
            refine ⟨f, keyD_tup f, ?_⟩
            rw [zat_look, lk f mf]
            show Wn (.of (some (PyData.int (hgt hs f)))) _
            simp only [wn_ok, wn_some, wn_only, wn_noex, wn_e2, wn_e1, wn_eN, wn_a0, wn_aC, wn_call, wn_tb, wn_tup, wn_lst, wn_andB, wn_orB, wn_notB, wn_andV, wn_orV, wn_notV, wn_ifV, wn_iA, wn_iR1, wn_iR2, wn_iZ, wn_iEn, wn_iRR, wn_sl, wn_p0, wn_p1, wn_up, wn_upB, wn_upI, wn_x2, wn_x0, wn_xC, wn_xN, wn_xb, wn_xAnd, wn_xOr, wn_xNot, wn_xIf, wn_xCall, wn_xR1, wn_xR2, sn_nx, sn_rt, sn_bk, sn_ct, sn_seq, sn_set, sn_ret, sn_expr, sn_if, sn_for, sn_xSet, sn_xRet, sn_xExpr, sn_xIf, sn_xFor, sn_asg, sn_xAsg, sn_own, sn_xOwn, gv_zero, gv_succ, go_own, go_dat, go_succ, k0_def, gN_def, tru_bool, tru_none, tru_int, tru_list, asSeq_list, asSeq_tup, addV_int, subV_int, ltA_i, leA_i, gtA_i, geA_i, negV_int, intV_int, lenV_list, lenV_tup, ixV_list, ixV_tup, asInt_int, slV_list, slV_tup, slL_list, revV_tup, revV_list, tupleV_list, listV_list, listV_tup, eqV_str, neV_str, eqV_int, List.set_cons_zero, List.set_cons_succ, List.getElem?_cons_zero, List.getElem?_cons_succ, List.length_cons, List.length_nil, ↓reduceIte, Bool.false_eq_true, Bool.not_true, Bool.not_false, wn_ite, gT2, gT3, neV_tup, eqV_tup, in_tup, notin_tup', lineN_eq, Nat.reduceAdd, Nat.reduceLeDiff, Nat.zero_le, true_and, and_true, List.map_nil, List.map_cons, exists_eq_left', Option.some.injEq, PyData.list.injEq, exists_eq_left, PyData.int.injEq, R.ok.injEq, Sl.own.injEq]
            show _ = hgtD hs (tupI f)
            unfold hgtD
            rw [keyD_tup]
          · rw [List.length_map, List.length_reverse, lineN_eq]
            have := O_faces_len ss
            omega
          · have eL : (((facesL s).reverse.map tupI).filter fun _ => true).map (hgtD hs) = ((facesL s).reverse.map (hgt hs)).map PyData.int := by
              rw [List.filter_eq_self.mpr fun _ _ => rfl, List.map_map, List.map_map]
              refine List.map_congr_left fun f _ => ?_
              show hgtD hs (tupI f) = _
              unfold hgtD
              rw [keyD_tup]
              rfl
            rw [eL]
            have fl := O_faces_len ss
            have ad : addV (.list [.int low]) (.list (((facesL s).reverse.map (hgt hs)).map PyData.int)) = some (.list ((low :: (facesL s).reverse.map (hgt hs)).map PyData.int)) := by
              rw [addV_list (by rw [List.length_map, List.length_map, List.length_reverse, List.length_singleton]; omega)]
              rfl
            obtain ⟨mx1, mx2⟩ := maxI_spec (l := low :: (facesL s).reverse.map (hgt hs)) (Nat.zero_lt_succ _)
            have mxv : maxV [.list (PyData.int low :: ((facesL s).reverse.map (hgt hs)).map PyData.int)] = some (.int (maxI (low :: (facesL s).reverse.map (hgt hs)))) := maxV_ints (l := low :: (facesL s).reverse.map (hgt hs)) (Nat.zero_lt_succ _)
            have mxL := mx2 low List.mem_cons_self
            have mxF : ∀ f ∈ facesL s, hgt hs f ≤ maxI (low :: (facesL s).reverse.map (hgt hs)) := fun f mf => mx2 _ (List.mem_cons_of_mem _ (List.mem_map.mpr ⟨f, List.mem_reverse.mpr mf, rfl⟩))
            have hF : ∀ f ∈ facesL s, (f, hgt hs f) ∈ hs := fun f mf => look_mem (lk f mf)
            generalize maxI (low :: (facesL s).reverse.map (hgt hs)) = mx at mxv mxL mxF
            have g0 := Int.emod_nonneg more (show wide ≠ 0 by omega)
            obtain ⟨h, hh, h1, h2, h3⟩ : ∃ h : Int, (if mx + more % wide < 1000 then mx + more % wide else 1000) = h ∧ h ≤ 1000 ∧ -1000 ≤ h ∧ ∀ f ∈ facesL s, hgt hs f ≤ h := by
              refine ⟨_, rfl, ?_, ?_, fun f mf => ?_⟩
              · split <;> omega
              · split <;> omega
              · have a := mxF f mf
                have b : hgt hs f ≤ 1000 := (hb _ (hF f mf)).2
                split <;> omega
            simp only [wn_ok, wn_some, wn_only, wn_noex, wn_e2, wn_e1, wn_eN, wn_a0, wn_aC, wn_call, wn_tb, wn_tup, wn_lst, wn_andB, wn_orB, wn_notB, wn_andV, wn_orV, wn_notV, wn_ifV, wn_iA, wn_iR1, wn_iR2, wn_iZ, wn_iEn, wn_iRR, wn_sl, wn_p0, wn_p1, wn_up, wn_upB, wn_upI, wn_x2, wn_x0, wn_xC, wn_xN, wn_xb, wn_xAnd, wn_xOr, wn_xNot, wn_xIf, wn_xCall, wn_xR1, wn_xR2, sn_nx, sn_rt, sn_bk, sn_ct, sn_seq, sn_set, sn_ret, sn_expr, sn_if, sn_for, sn_xSet, sn_xRet, sn_xExpr, sn_xIf, sn_xFor, sn_asg, sn_xAsg, sn_own, sn_xOwn, gv_zero, gv_succ, go_own, go_dat, go_succ, k0_def, gN_def, tru_bool, tru_none, tru_int, tru_list, asSeq_list, asSeq_tup, addV_int, subV_int, ltA_i, leA_i, gtA_i, geA_i, negV_int, intV_int, lenV_list, lenV_tup, ixV_list, ixV_tup, asInt_int, slV_list, slV_tup, slL_list, revV_tup, revV_list, tupleV_list, listV_list, listV_tup, eqV_str, neV_str, eqV_int, List.set_cons_zero, List.set_cons_succ, List.getElem?_cons_zero, List.getElem?_cons_succ, List.length_cons, List.length_nil, ↓reduceIte, Bool.false_eq_true, Bool.not_true, Bool.not_false, wn_ite, gT2, gT3, neV_tup, eqV_tup, in_tup, notin_tup', lineN_eq, Nat.reduceAdd, Nat.reduceLeDiff, Nat.zero_le, true_and, and_true, List.map_nil, List.map_cons, exists_eq_left', Option.some.injEq, PyData.list.injEq, exists_eq_left, PyData.int.injEq, R.ok.injEq, Sl.own.injEq, ad, mxv, mw, min_2, hh]
            refine sn_zput ?_
            simp only [wn_ok, wn_some, wn_only, wn_noex, wn_e2, wn_e1, wn_eN, wn_a0, wn_aC, wn_call, wn_tb, wn_tup, wn_lst, wn_andB, wn_orB, wn_notB, wn_andV, wn_orV, wn_notV, wn_ifV, wn_iA, wn_iR1, wn_iR2, wn_iZ, wn_iEn, wn_iRR, wn_sl, wn_p0, wn_p1, wn_up, wn_upB, wn_upI, wn_x2, wn_x0, wn_xC, wn_xN, wn_xb, wn_xAnd, wn_xOr, wn_xNot, wn_xIf, wn_xCall, wn_xR1, wn_xR2, sn_nx, sn_rt, sn_bk, sn_ct, sn_seq, sn_set, sn_ret, sn_expr, sn_if, sn_for, sn_xSet, sn_xRet, sn_xExpr, sn_xIf, sn_xFor, sn_asg, sn_xAsg, sn_own, sn_xOwn, gv_zero, gv_succ, go_own, go_dat, go_succ, k0_def, gN_def, tru_bool, tru_none, tru_int, tru_list, asSeq_list, asSeq_tup, addV_int, subV_int, ltA_i, leA_i, gtA_i, geA_i, negV_int, intV_int, lenV_list, lenV_tup, ixV_list, ixV_tup, asInt_int, slV_list, slV_tup, slL_list, revV_tup, revV_list, tupleV_list, listV_list, listV_tup, eqV_str, neV_str, eqV_int, List.set_cons_zero, List.set_cons_succ, List.getElem?_cons_zero, List.getElem?_cons_succ, List.length_cons, List.length_nil, ↓reduceIte, Bool.false_eq_true, Bool.not_true, Bool.not_false, wn_ite, gT2, gT3, neV_tup, eqV_tup, in_tup, notin_tup', lineN_eq, Nat.reduceAdd, Nat.reduceLeDiff, Nat.zero_le, true_and, and_true, List.map_nil, List.map_cons, exists_eq_left', Option.some.injEq, PyData.list.injEq, exists_eq_left, PyData.int.injEq, R.ok.injEq, Sl.own.injEq]
            refine ⟨zsD hs, rfl, rfl, by rw [zs_len]; omega, s, keyD_tup s, ?_⟩
            rw [zput_put]
            have pt : put hs s h = hs ++ [(s, h)] := by
              unfold put
              rw [if_neg snot]
            rw [pt]
            refine sn_app rfl ?_
            simp only [wn_ok, wn_some, wn_only, wn_noex, wn_e2, wn_e1, wn_eN, wn_a0, wn_aC, wn_call, wn_tb, wn_tup, wn_lst, wn_andB, wn_orB, wn_notB, wn_andV, wn_orV, wn_notV, wn_ifV, wn_iA, wn_iR1, wn_iR2, wn_iZ, wn_iEn, wn_iRR, wn_sl, wn_p0, wn_p1, wn_up, wn_upB, wn_upI, wn_x2, wn_x0, wn_xC, wn_xN, wn_xb, wn_xAnd, wn_xOr, wn_xNot, wn_xIf, wn_xCall, wn_xR1, wn_xR2, sn_nx, sn_rt, sn_bk, sn_ct, sn_seq, sn_set, sn_ret, sn_expr, sn_if, sn_for, sn_xSet, sn_xRet, sn_xExpr, sn_xIf, sn_xFor, sn_asg, sn_xAsg, sn_own, sn_xOwn, gv_zero, gv_succ, go_own, go_dat, go_succ, k0_def, gN_def, tru_bool, tru_none, tru_int, tru_list, asSeq_list, asSeq_tup, addV_int, subV_int, ltA_i, leA_i, gtA_i, geA_i, negV_int, intV_int, lenV_list, lenV_tup, ixV_list, ixV_tup, asInt_int, slV_list, slV_tup, slL_list, revV_tup, revV_list, tupleV_list, listV_list, listV_tup, eqV_str, neV_str, eqV_int, List.set_cons_zero, List.set_cons_succ, List.getElem?_cons_zero, List.getElem?_cons_succ, List.length_cons, List.length_nil, ↓reduceIte, Bool.false_eq_true, Bool.not_true, Bool.not_false, wn_ite, gT2, gT3, neV_tup, eqV_tup, in_tup, notin_tup', lineN_eq, Nat.reduceAdd, Nat.reduceLeDiff, Nat.zero_le, true_and, and_true, List.map_nil, List.map_cons, exists_eq_left', Option.some.injEq, PyData.list.injEq, exists_eq_left, PyData.int.injEq, R.ok.injEq, Sl.own.injEq]
            refine ⟨by rw [List.length_map]; omega, ?_⟩
            refine ⟨todo, hs ++ [(s, h)], .d (tupI s), .d (.int more), .d (.int h), s10, rfl, by rw [List.map_append, List.append_assoc]; exact hd, fun p m => ?_, fun p m f mf => ?_, ?_⟩
            · rcases List.mem_append.mp m with m | m
              · exact hb p m
              · rw [List.mem_singleton.mp m]; exact ⟨h2, h1⟩
            · rcases List.mem_append.mp m with m | m
              · obtain ⟨q, mq, e⟩ := hf p m f mf
                exact ⟨q, List.mem_append_left _ mq, e⟩
              · rw [List.mem_singleton.mp m] at mf ⊢
                exact ⟨_, List.mem_append_left _ (hF f mf), rfl, h3 f mf⟩
            · rw [List.map_append]
              rfl
    · rintro η ⟨todo, hs, s7, s8, s9, s10, e, hd, hb, hf, rfl⟩
      have : todo = [] := List.map_eq_nil_iff.mp e.symm
      subst this
      rw [List.append_nil] at hd
      have b1 : Bd1 hs := ⟨⟨by rw [hd]; exact cl.nd, fun p m => cl.smp p.1 (by rw [← hd]; exact List.mem_map.mpr ⟨p, m, rfl⟩), hf, fun p m => ⟨by have := (hb p m).1; omega, by have := (hb p m).2; omega⟩⟩, hb, by rw [← List.length_map (f := fun p : Ih => p.1), hd]; exact ll⟩
      refine sn_frz rfl ?_
      simp only [wn_ok, wn_some, wn_only, wn_noex, wn_e2, wn_e1, wn_eN, wn_a0, wn_aC, wn_call, wn_tb, wn_tup, wn_lst, wn_andB, wn_orB, wn_notB, wn_andV, wn_orV, wn_notV, wn_ifV, wn_iA, wn_iR1, wn_iR2, wn_iZ, wn_iEn, wn_iRR, wn_sl, wn_p0, wn_p1, wn_up, wn_upB, wn_upI, wn_x2, wn_x0, wn_xC, wn_xN, wn_xb, wn_xAnd, wn_xOr, wn_xNot, wn_xIf, wn_xCall, wn_xR1, wn_xR2, sn_nx, sn_rt, sn_bk, sn_ct, sn_seq, sn_set, sn_ret, sn_expr, sn_if, sn_for, sn_xSet, sn_xRet, sn_xExpr, sn_xIf, sn_xFor, sn_asg, sn_xAsg, sn_own, sn_xOwn, gv_zero, gv_succ, go_own, go_dat, go_succ, k0_def, gN_def, tru_bool, tru_none, tru_int, tru_list, asSeq_list, asSeq_tup, addV_int, subV_int, ltA_i, leA_i, gtA_i, geA_i, negV_int, intV_int, lenV_list, lenV_tup, ixV_list, ixV_tup, asInt_int, slV_list, slV_tup, slL_list, revV_tup, revV_list, tupleV_list, listV_list, listV_tup, eqV_str, neV_str, eqV_int, List.set_cons_zero, List.set_cons_succ, List.getElem?_cons_zero, List.getElem?_cons_succ, List.length_cons, List.length_nil, ↓reduceIte, Bool.false_eq_true, Bool.not_true, Bool.not_false, wn_ite, gT2, gT3, neV_tup, eqV_tup, in_tup, notin_tup', lineN_eq, Nat.reduceAdd, Nat.reduceLeDiff, Nat.zero_le, true_and, and_true, List.map_nil, List.map_cons, exists_eq_left', Option.some.injEq, PyData.list.injEq, exists_eq_left, PyData.int.injEq, R.ok.injEq, Sl.own.injEq, x4, m3]
      have t0 := Int.emod_nonneg r4 (show (3 : Int) ≠ 0 by decide)
      have t1 := Int.emod_lt_of_pos r4 (show (0 : Int) < 3 by decide)
      generalize r4 % 3 = t at t0 t1 ⊢
      have : t = 0 ∨ t = 1 ∨ t = 2 := by omega
      rcases this with rfl | rfl | rfl
      · simp only [show ((0 : Int) == 1) = false from rfl, show ((0 : Int) == 2) = false from rfl, Bool.false_eq_true, ↓reduceIte]
        try simp only [wn_ok, wn_some, wn_only, wn_noex, wn_e2, wn_e1, wn_eN, wn_a0, wn_aC, wn_call, wn_tb, wn_tup, wn_lst, wn_andB, wn_orB, wn_notB, wn_andV, wn_orV, wn_notV, wn_ifV, wn_iA, wn_iR1, wn_iR2, wn_iZ, wn_iEn, wn_iRR, wn_sl, wn_p0, wn_p1, wn_up, wn_upB, wn_upI, wn_x2, wn_x0, wn_xC, wn_xN, wn_xb, wn_xAnd, wn_xOr, wn_xNot, wn_xIf, wn_xCall, wn_xR1, wn_xR2, sn_nx, sn_rt, sn_bk, sn_ct, sn_seq, sn_set, sn_ret, sn_expr, sn_if, sn_for, sn_xSet, sn_xRet, sn_xExpr, sn_xIf, sn_xFor, sn_asg, sn_xAsg, sn_own, sn_xOwn, gv_zero, gv_succ, go_own, go_dat, go_succ, k0_def, gN_def, tru_bool, tru_none, tru_int, tru_list, asSeq_list, asSeq_tup, addV_int, subV_int, ltA_i, leA_i, gtA_i, geA_i, negV_int, intV_int, lenV_list, lenV_tup, ixV_list, ixV_tup, asInt_int, slV_list, slV_tup, slL_list, revV_tup, revV_list, tupleV_list, listV_list, listV_tup, eqV_str, neV_str, eqV_int, List.set_cons_zero, List.set_cons_succ, List.getElem?_cons_zero, List.getElem?_cons_succ, List.length_cons, List.length_nil, ↓reduceIte, Bool.false_eq_true, Bool.not_true, Bool.not_false, wn_ite, gT2, gT3, neV_tup, eqV_tup, in_tup, notin_tup', lineN_eq, Nat.reduceAdd, Nat.reduceLeDiff, Nat.zero_le, true_and, and_true, List.map_nil, List.map_cons, exists_eq_left', Option.some.injEq, PyData.list.injEq, exists_eq_left, PyData.int.injEq, R.ok.injEq, Sl.own.injEq, x4, m3]
        exact k hs b1
      · simp only [show ((1 : Int) == 1) = true from rfl, show ((1 : Int) == 2) = false from rfl, Bool.false_eq_true, ↓reduceIte]
        rw [← List.map_reverse]
        exact k _ (b1.perm (List.reverse_perm hs))
      · simp only [show ((2 : Int) == 1) = false from rfl, show ((2 : Int) == 2) = true from rfl, Bool.false_eq_true, ↓reduceIte]
        have s1 : ∀ j, step2V j (.list (hs.map itD)) = some (.list (((idx2 j hs.length).filterMap (hs[·]?)).map itD)) := fun j => by
          show some (PyData.list ((idx2 j (hs.map itD).length).filterMap ((hs.map itD)[·]?))) = _
          rw [List.length_map, idx_map]
        have p := alt_perm hs
        have pl := p.length_eq
        rw [List.length_append] at pl
        have hl := b1.len
        simp only [wn_ok, wn_some, wn_only, wn_noex, wn_e2, wn_e1, wn_eN, wn_a0, wn_aC, wn_call, wn_tb, wn_tup, wn_lst, wn_andB, wn_orB, wn_notB, wn_andV, wn_orV, wn_notV, wn_ifV, wn_iA, wn_iR1, wn_iR2, wn_iZ, wn_iEn, wn_iRR, wn_sl, wn_p0, wn_p1, wn_up, wn_upB, wn_upI, wn_x2, wn_x0, wn_xC, wn_xN, wn_xb, wn_xAnd, wn_xOr, wn_xNot, wn_xIf, wn_xCall, wn_xR1, wn_xR2, sn_nx, sn_rt, sn_bk, sn_ct, sn_seq, sn_set, sn_ret, sn_expr, sn_if, sn_for, sn_xSet, sn_xRet, sn_xExpr, sn_xIf, sn_xFor, sn_asg, sn_xAsg, sn_own, sn_xOwn, gv_zero, gv_succ, go_own, go_dat, go_succ, k0_def, gN_def, tru_bool, tru_none, tru_int, tru_list, asSeq_list, asSeq_tup, addV_int, subV_int, ltA_i, leA_i, gtA_i, geA_i, negV_int, intV_int, lenV_list, lenV_tup, ixV_list, ixV_tup, asInt_int, slV_list, slV_tup, slL_list, revV_tup, revV_list, tupleV_list, listV_list, listV_tup, eqV_str, neV_str, eqV_int, List.set_cons_zero, List.set_cons_succ, List.getElem?_cons_zero, List.getElem?_cons_succ, List.length_cons, List.length_nil, ↓reduceIte, Bool.false_eq_true, Bool.not_true, Bool.not_false, wn_ite, gT2, gT3, neV_tup, eqV_tup, in_tup, notin_tup', lineN_eq, Nat.reduceAdd, Nat.reduceLeDiff, Nat.zero_le, true_and, and_true, List.map_nil, List.map_cons, exists_eq_left', Option.some.injEq, PyData.list.injEq, exists_eq_left, PyData.int.injEq, R.ok.injEq, Sl.own.injEq, x4, m3, s1]
        rw [addV_list (by rw [List.length_map, List.length_map]; omega), ← List.map_append]
        try simp only [wn_ok, wn_some, wn_only, wn_noex, wn_e2, wn_e1, wn_eN, wn_a0, wn_aC, wn_call, wn_tb, wn_tup, wn_lst, wn_andB, wn_orB, wn_notB, wn_andV, wn_orV, wn_notV, wn_ifV, wn_iA, wn_iR1, wn_iR2, wn_iZ, wn_iEn, wn_iRR, wn_sl, wn_p0, wn_p1, wn_up, wn_upB, wn_upI, wn_x2, wn_x0, wn_xC, wn_xN, wn_xb, wn_xAnd, wn_xOr, wn_xNot, wn_xIf, wn_xCall, wn_xR1, wn_xR2, sn_nx, sn_rt, sn_bk, sn_ct, sn_seq, sn_set, sn_ret, sn_expr, sn_if, sn_for, sn_xSet, sn_xRet, sn_xExpr, sn_xIf, sn_xFor, sn_asg, sn_xAsg, sn_own, sn_xOwn, gv_zero, gv_succ, go_own, go_dat, go_succ, k0_def, gN_def, tru_bool, tru_none, tru_int, tru_list, asSeq_list, asSeq_tup, addV_int, subV_int, ltA_i, leA_i, gtA_i, geA_i, negV_int, intV_int, lenV_list, lenV_tup, ixV_list, ixV_tup, asInt_int, slV_list, slV_tup, slL_list, revV_tup, revV_list, tupleV_list, listV_list, listV_tup, eqV_str, neV_str, eqV_int, List.set_cons_zero, List.set_cons_succ, List.getElem?_cons_zero, List.getElem?_cons_succ, List.length_cons, List.length_nil, ↓reduceIte, Bool.false_eq_true, Bool.not_true, Bool.not_false, wn_ite, gT2, gT3, neV_tup, eqV_tup, in_tup, notin_tup', lineN_eq, Nat.reduceAdd, Nat.reduceLeDiff, Nat.zero_le, true_and, and_true, List.map_nil, List.map_cons, exists_eq_left', Option.some.injEq, PyData.list.injEq, exists_eq_left, PyData.int.injEq, R.ok.injEq, Sl.own.injEq]
        exact k _ (b1.perm p)
end Sc
end Bd
/-! Q37: places and rims up to a height. -/
namespace Bd
open PySem L2
namespace Sh
/-- how many are there at a height -/
def cntH (it : List Ih) (h : Int) : Nat := (it.filter fun p => decide (p.2 ≤ h)).length
/-- the positions of a dimension among the first ones -/
def plc (os : List Row) (dim : Int) (n : Nat) : List Nat := (List.range n).filter fun i => decide (((os.getD i []).length : Int) = dim + 1)
def rimsD (os : List Row) (dim : Int) (n : Nat) : List Row := (plc os dim n).map fun i => rimL os (os.getD i [])
theorem cnt_le (it : List Ih) (h : Int) : cntH it h ≤ it.length := List.length_filter_le _ _
theorem plc_mem {os : List Row} {dim : Int} {n i : Nat} : i ∈ plc os dim n ↔ i < n ∧ ((os.getD i []).length : Int) = dim + 1 := by
  unfold plc
  rw [List.mem_filter, List.mem_range, decide_eq_true_iff]
end Sh
end Bd
/-! Q38: .. holes; the laws' rims and heights. -/
namespace Bd
open PySem L2
namespace Sh
theorem getD_at {os : List Row} {i : Nat} (h : i < os.length) : os[i]? = some (os.getD i []) := by
  rw [List.getD_eq_getElem?_getD, List.getElem?_eq_getElem h]
  rfl
theorem getD_mem {os : List Row} {i : Nat} (h : i < os.length) : os.getD i [] ∈ os := List.mem_of_getElem? (getD_at h)
theorem rims_at {os : List Row} {i : Nat} (h : i < os.length) : (rimsL os).getD i [] = rimL os (os.getD i []) := by
  unfold rimsL
  rw [List.getD_eq_getElem?_getD, List.getElem?_map, getD_at h]
  rfl
theorem plc_lt {os : List Row} {dim : Int} {n : Nat} (hn : n ≤ os.length) : ∀ i ∈ plc os dim n, i < os.length := fun i m => Nat.lt_of_lt_of_le (plc_mem.mp m).1 hn
theorem rimsD_in {os : List Row} (h : Ordr os) {dim : Int} {n : Nat} (hn : n ≤ os.length) : ∀ r ∈ rimsD os dim n, InU (Pg.uptoI os.length) r := fun r m => by
  obtain ⟨i, mi, rfl⟩ := List.mem_map.mp m
  exact rim_in h (getD_mem (plc_lt hn i mi))
end Sh
end Bd
/-! Q4: what is a chain, as the laws tell it. -/
namespace Bd
open PySem L2
namespace Ch
def isOk (n : Nat) : D → Bool
  | .int i => decide (0 ≤ i) && decide (i < (n : Int))
  | _ => false
def lenAt (os : List Row) (p : Int) : Nat := (os.getD p.toNat []).length
def stepB (os : List Row) : Option Int → D → Bool
  | some q, .int i => decide (q < i) && decide (lenAt os q = lenAt os i)
  | _, _ => true
def nextQ : D → Option Int
  | .int i => some i
  | _ => none
/-- is it a chain? behind the position q -/
def goC (os : List Row) : Option Int → List D → Bool
  | _, [] => true
  | q, p :: ps => isOk os.length p && stepB os q p && goC os (nextQ p) ps
def isC (os : List Row) : D → Bool
  | .tuple ps => goC os none ps
  | _ => false
theorem len_tup (s : Row) : lenV [tupI s] = some (.int (s.length : Nat)) := by
  show some (PyData.int ((s.map PyData.int).length : Nat)) = _
  rw [List.length_map]
/-! ### the law's own -/
end Ch
end Bd
/-! Q5: the neat chains. -/
namespace Bd
open PySem L2
/-- a row of positions of simplices with d vertices -/
def Dim (os : List Row) (d : Nat) (c : Row) : Prop := ∀ p ∈ c, (rowAt os p).length = d
/-- .. with one vertex less than d -/
def DimF (os : List Row) (d : Nat) (c : Row) : Prop := ∀ p ∈ c, (rowAt os p).length + 1 = d
theorem Dim.sum {os : List Row} {d : Nat} {a b : Row} (ha : Dim os d a) (hb : Dim os d b) : Dim os d (sumL a b) := fun p m => by
  rcases mem_sumL.mp m with ⟨m, _⟩ | ⟨m, _⟩
  · exact ha p m
  · exact hb p m
theorem DimF.sum {os : List Row} {d : Nat} {a b : Row} (ha : DimF os d a) (hb : DimF os d b) : DimF os d (sumL a b) := fun p m => by
  rcases mem_sumL.mp m with ⟨m, _⟩ | ⟨m, _⟩
  · exact ha p m
  · exact hb p m
/-- neat chains of an order -/
structure NeatC (os cs : List Row) : Prop where
  len : cs.length = os.length
  ok : ∀ (i : Nat) (c : Row), cs[i]? = some c → InU (Pg.uptoI os.length) c ∧ Dim os (rowAt os (i : Int)).length c ∧
    (∃ J, c = J ++ [(i : Int)] ∧ ∀ j ∈ J, 0 ≤ j ∧ j < (i : Int) ∧ ∃ c', cs[j.toNat]? = some c' ∧ bdy os c' ≠ []) ∧
    ∀ (j : Nat) (c' : Row) (k : Int), j < i → cs[j]? = some c' → (bdy os c').getLast? = some k → k ∉ bdy os c
end Bd
/-! Q6: the laws' faults and neat chains, where there is no fault. -/
namespace Bd
open PySem L2
namespace Ch
/-- the last ones -/
def lastsL (rs : List Row) : Row := rs.filterMap List.getLast?
end Ch
end Bd
/-! Q7: the program's reduced. -/
namespace Bd
open PySem L2
namespace Cb
end Cb
end Bd
/-! Q8: what is a chain, as the program tells it; small things that can be shown. -/
namespace Bd
open PySem L2
namespace Ch
/-! ### the program's -/
theorem dim_ok (s : Row) : Cb.F_dimension_of [tupI s] = .ok (.int ((s.length : Int) - 1)) := by
  refine Wn.eq (wn_runD ?_)
  show Sn (Cb.G_dimension_of [.d (tupI s)]) _ _ _ _
  unfold Cb.G_dimension_of
  simp only [wn_ok, wn_some, wn_only, wn_noex, wn_e2, wn_e1, wn_eN, wn_a0, wn_aC, wn_call, wn_tb, wn_tup, wn_lst, wn_andB, wn_orB, wn_notB, wn_andV, wn_orV, wn_notV, wn_ifV, wn_iA, wn_iR1, wn_iR2, wn_iZ, wn_iEn, wn_iRR, wn_sl, wn_p0, wn_p1, wn_up, wn_upB, wn_upI, wn_x2, wn_x0, wn_xC, wn_xN, wn_xb, wn_xAnd, wn_xOr, wn_xNot, wn_xIf, wn_xCall, wn_xR1, wn_xR2, sn_nx, sn_rt, sn_bk, sn_ct, sn_seq, sn_set, sn_ret, sn_expr, sn_if, sn_for, sn_xSet, sn_xRet, sn_xExpr, sn_xIf, sn_xFor, sn_asg, sn_xAsg, sn_own, sn_xOwn, gv_zero, gv_succ, go_own, go_dat, go_succ, k0_def, gN_def, tru_bool, tru_none, tru_int, tru_list, asSeq_list, asSeq_tup, addV_int, subV_int, ltA_i, leA_i, gtA_i, geA_i, negV_int, intV_int, lenV_list, lenV_tup, ixV_list, ixV_tup, asInt_int, slV_list, slV_tup, slL_list, revV_tup, revV_list, tupleV_list, listV_list, listV_tup, eqV_str, neV_str, eqV_int, List.set_cons_zero, List.set_cons_succ, List.getElem?_cons_zero, List.getElem?_cons_succ, List.length_cons, List.length_nil, ↓reduceIte, Bool.false_eq_true, Bool.not_true, Bool.not_false, wn_ite, gT2, gT3, neV_tup, eqV_tup, in_tup, notin_tup', lineN_eq, Nat.reduceAdd, Nat.reduceLeDiff, Nat.zero_le, true_and, and_true, List.map_nil, List.map_cons, exists_eq_left', Option.some.injEq, PyData.list.injEq, exists_eq_left, PyData.int.injEq, R.ok.injEq, Sl.own.injEq, len_tup]
end Ch
end Bd
/-! Q9: the faults of whatever is taken for right chains. -/
namespace Bd
open PySem L2
namespace Ch
def itemsD : D → Option (List D)
  | .list xs => some xs
  | .tuple xs => some xs
  | _ => none
def SzAll (xs : List D) : Prop := ∀ x ∈ xs, ∀ ps, x = .tuple ps → ps.length ≤ 1000
end Ch
end Bd
/-! Q10: what the laws draw beside the neat chains. -/
namespace Bd
open PySem L2
namespace Ch
/-- a thing that may stand for a chain -/
structure Itm (x : D) : Prop where
  sz : ∀ ps, x = .tuple ps → ps.length ≤ 1000
  f : Fine 2 6000 x
/-- a value that may be judged and shown -/
structure VOk (v : D) : Prop where
  sz : ∀ xs, itemsD v = some xs → SzAll xs
  f : Fine 4 400000 v
end Ch
end Bd
/-! Q11: there is only one list of neat chains. -/
namespace Bd
open PySem L2
theorem last_le : ∀ {l : Row} {m : Int}, Asc l → l.getLast? = some m → ∀ x ∈ l, x ≤ m := fun {l m} h e x mx => by
  rcases List.eq_nil_or_concat l with rfl | ⟨J, i, rfl⟩
  · cases mx
  · rw [List.concat_eq_append] at h e mx
    rw [List.getLast?_concat] at e
    cases e
    rcases List.mem_append.mp mx with mx | mx
    · have := (List.pairwise_append.mp h).2.2 x mx m (List.mem_singleton.mpr rfl)
      omega
    · rw [List.mem_singleton.mp mx]
      exact Int.le_refl _
theorem asc_last {l : Row} {m : Int} (h : Asc l) (hm : m ∈ l) (hx : ∀ x ∈ l, x ≤ m) : l.getLast? = some m := by
  cases e : l.getLast? with
  | none =>
    rw [List.getLast?_eq_none_iff.mp e] at hm
    cases hm
  | some k =>
    have h1 := last_le h e m hm
    have h2 := hx k (List.mem_of_getLast? e)
    congr 1
    omega
theorem last_sum {a b : Row} {x y : Int} (ha : Asc a) (hb : Asc b) (ea : a.getLast? = some x) (eb : b.getLast? = some y) (ne : x ≠ y) : (sumL a b).getLast? = some (if x < y then y else x) := by
  have la := last_le ha ea
  have lb := last_le hb eb
  have mx := List.mem_of_getLast? ea
  have my := List.mem_of_getLast? eb
  refine asc_last (sumL_asc ha hb) ?_ fun z mz => ?_
  · split
    · exact mem_sumL.mpr (.inr ⟨my, fun q => by have := la y q; omega⟩)
    · exact mem_sumL.mpr (.inl ⟨mx, fun q => by have := lb x q; omega⟩)
  · rcases mem_sumL.mp mz with ⟨m, _⟩ | ⟨m, _⟩
    · have := la z m
      split <;> omega
    · have := lb z m
      split <;> omega
end Bd
/-! Q12: which chains are neat, by the laws and by the program. -/
namespace Bd
open PySem L2
namespace Ch
structure RightC (os cs : List Row) : Prop where
  len : cs.length = os.length
  ok : ∀ (i : Nat) (c : Row), cs[i]? = some c → InU (Pg.uptoI os.length) c ∧ isC os (tupI c) = true ∧ c.getLast? = some (i : Int)
end Ch
end Bd
/-! Q13: is_neat of both sides. -/
namespace Bd
open PySem L2
namespace Ch
end Ch
end Bd
/-! Q14: dicts with int keys in the calculus; rows made residue: their ends are the same whatever way. -/
namespace Bd
open PySem L2
section
variable {QD : D → Prop} {QB : Bool → Prop} {η : Nv} {N B C : Nv → Prop} {T : D → Nv → Prop} {i : Nat} {Fk Fx Fv : Nv → R D}
end
/-! ### what a dict holds -/
theorem kAt_nil (n : Int) : kAt [] n = none := rfl
theorem kAt_cons (p : Int × D) (t : List (Int × D)) (m : Int) : kAt (p :: t) m = if p.1 = m then some p.2 else kAt t m := by
  unfold kAt
  rw [List.find?_cons]
  by_cases c : p.1 = m
  · rw [decide_eq_true c, if_pos c]
    rfl
  · rw [decide_eq_false c, if_neg c]
theorem kAt_put (ks : List (Int × D)) (n m : Int) (v : D) : kAt (kPut ks n v) m = if n = m then some v else kAt ks m := by
  unfold kPut
  split
  · rename_i h
    induction ks with
    | nil => cases h
    | cons p t ih =>
      rw [List.map_cons, kAt_cons, kAt_cons]
      by_cases c : p.1 = n
      · rw [if_pos c]
        by_cases d : n = m
        · rw [if_pos d, if_pos (c.trans d)]
        · rw [if_neg d]
          have c' : ¬ p.1 = m := fun e => d (c.symm.trans e)
          rw [if_neg c', if_neg c']
          clear ih h
          induction t with
          | nil => rfl
          | cons q t ih =>
            rw [List.map_cons, kAt_cons, kAt_cons, ih]
            by_cases c2 : q.1 = n
            · rw [if_pos c2]
              have : ¬ q.1 = m := fun e => d (c2.symm.trans e)
              rw [if_neg this, if_neg this]
            · rw [if_neg c2]
      · rw [if_neg c]
        have h' : (t.any fun p => decide (p.1 = n)) = true := by
          rw [List.any_cons, decide_eq_false c, Bool.false_or] at h
          exact h
        rw [ih h']
        by_cases d : p.1 = m
        · rw [if_pos d, if_pos d]
          have : ¬ n = m := fun e => c (d.trans e.symm)
          rw [if_neg this]
        · rw [if_neg d, if_neg d]
  · rename_i h
    have h' : (ks.any fun p => decide (p.1 = n)) = false := Bool.eq_false_iff.mpr h
    clear h
    induction ks with
    | nil => rw [List.nil_append, kAt_cons, kAt_nil]
    | cons p t ih =>
      rw [List.any_cons, Bool.or_eq_false_iff] at h'
      rw [List.cons_append, kAt_cons, kAt_cons, ih h'.2]
      have c := of_decide_eq_false h'.1
      by_cases d : p.1 = m
      · rw [if_pos d, if_pos d]
        have : ¬ n = m := fun e => c (d.trans e.symm)
        rw [if_neg this]
      · rw [if_neg d, if_neg d]
theorem kPut_le (ks : List (Int × D)) (n : Int) (v : D) : (kPut ks n v).length ≤ ks.length + 1 := kPut_len
/-! ### ends of residues -/
theorem span_same {rs ss : List Row} (hr : AscR rs) (h : ∀ r, r ∈ rs ↔ r ∈ ss) : ∀ x, x ∈ spanL rs ↔ x ∈ spanL ss :=
  have hs : AscR ss := fun r m => hr r ((h r).mpr m)
  span_ext hr hs (fun r m => span_mem hs r ((h r).mp m)) fun r m => span_mem hr r ((h r).mpr m)
theorem span_snoc {rs : List Row} {r x : Row} (h : AscR (rs ++ [r])) (hx : Asc x) : x ∈ spanL (rs ++ [r]) ↔ x ∈ spanL rs ∨ sumL r x ∈ spanL rs := by
  have h' : AscR (r :: rs) := fun y m => h y (by simpa [or_comm] using m)
  rw [span_same h (ss := r :: rs) fun y => by simp [or_comm], span_cons h' hx]
theorem span_last : ∀ {rs : List Row}, AscR rs → (Ch.lastsL rs).Nodup → ∀ x ∈ spanL rs, x ≠ [] → ∃ j, x.getLast? = some j ∧ j ∈ Ch.lastsL rs
  | [], _, _, x, m, ne => absurd (List.mem_singleton.mp m) ne
  | r :: rs, ha, hd, x, m, ne => by
    have hx := span_asc ha x m
    have hr := ha.head
    cases er : r.getLast? with
    | none =>
      have e : Ch.lastsL (r :: rs) = Ch.lastsL rs := by
        unfold Ch.lastsL
        rw [List.filterMap_cons_none er]
      have r0 : r = [] := List.getLast?_eq_none_iff.mp er
      rw [e] at hd ⊢
      rcases (span_cons ha hx).mp m with m | m
      · exact span_last ha.tail hd x m ne
      · rw [r0, sumL_nil hx] at m
        exact span_last ha.tail hd x m ne
    | some k =>
      have e : Ch.lastsL (r :: rs) = k :: Ch.lastsL rs := by
        unfold Ch.lastsL
        rw [List.filterMap_cons_some er]
      rw [e, List.nodup_cons] at hd
      rw [e]
      rcases (span_cons ha hx).mp m with m | m
      · obtain ⟨j, h1, h2⟩ := span_last ha.tail hd.2 x m ne
        exact ⟨j, h1, List.mem_cons_of_mem _ h2⟩
      · have ex : x = sumL r (sumL r x) := (sumL_right hr hx).symm
        by_cases y0 : sumL r x = []
        · rw [y0, sumL_nil' hr] at ex
          rw [ex]
          exact ⟨k, er, List.mem_cons_self⟩
        · obtain ⟨j, h1, h2⟩ := span_last ha.tail hd.2 _ m y0
          have nk : k ≠ j := fun z => hd.1 (z ▸ h2)
          rw [ex, last_sum hr (sumL_asc hr hx) er h1 nk]
          split
          · exact ⟨j, rfl, List.mem_cons_of_mem _ h2⟩
          · exact ⟨k, rfl, List.mem_cons_self⟩
/-- es is rows made residue, one by one -/
inductive Red : List Row → List Row → Prop where
  | nil : Red [] []
  | snoc {rows es : List Row} {r e : Row} (h : Red rows es) (hr : Asc r) (he : Asc e) (hs : sumL r e ∈ spanL rows) (hl : ∀ j, e.getLast? = some j → j ∉ Ch.lastsL es) : Red (rows ++ [r]) (es ++ [e])
theorem Red.len {rows es : List Row} (h : Red rows es) : es.length = rows.length := by
  induction h with
  | nil => rfl
  | snoc h hr he hs hl ih => rw [List.length_append, List.length_append, ih]; rfl
theorem asc_snocR {rows : List Row} {r : Row} (h : AscR rows) (hr : Asc r) : AscR (rows ++ [r]) := fun y m => by
  rcases List.mem_append.mp m with m | m
  · exact h y m
  · rw [List.mem_singleton.mp m]
    exact hr
theorem Red.asc {rows es : List Row} (h : Red rows es) : AscR rows ∧ AscR es := by
  induction h with
  | nil => exact ⟨fun _ m => (List.not_mem_nil m).elim, fun _ m => (List.not_mem_nil m).elim⟩
  | snoc h hr he hs hl ih => exact ⟨asc_snocR ih.1 hr, asc_snocR ih.2 he⟩
theorem lasts_snoc (es : List Row) (e : Row) : Ch.lastsL (es ++ [e]) = Ch.lastsL es ++ e.getLast?.toList := by
  unfold Ch.lastsL
  rw [List.filterMap_append]
  cases h : e.getLast? with
  | none => rw [List.filterMap_cons_none h]; rfl
  | some j => rw [List.filterMap_cons_some h]; rfl
theorem Red.nodup {rows es : List Row} (h : Red rows es) : (Ch.lastsL es).Nodup := by
  induction h with
  | nil => exact List.nodup_nil
  | snoc h hr he hs hl ih =>
    rename_i rows es r e
    rw [lasts_snoc]
    cases el : e.getLast? with
    | none => simpa using ih
    | some j =>
      have := hl j el
      rw [List.nodup_append]
      refine ⟨ih, by simp, fun a ma b mb => ?_⟩
      have : b = j := by simpa using mb
      intro z
      subst z
      subst this
      exact hl _ el ma
theorem Red.span {rows es : List Row} (h : Red rows es) : ∀ x, x ∈ spanL rows ↔ x ∈ spanL es := by
  induction h with
  | nil => exact fun x => Iff.rfl
  | snoc h hr he hs hl ih =>
    rename_i rows es r e
    have a1 := asc_snocR h.asc.1 hr
    have a2 := asc_snocR h.asc.2 he
    have s1 : ∀ {y : Row}, y ∈ spanL rows → y ∈ spanL (rows ++ [r]) := fun {y} m => (span_snoc a1 (span_asc h.asc.1 y m)).mpr (.inl m)
    have s2 : ∀ {y : Row}, y ∈ spanL es → y ∈ spanL (es ++ [e]) := fun {y} m => (span_snoc a2 (span_asc h.asc.2 y m)).mpr (.inl m)
    have m1 : r ∈ spanL (rows ++ [r]) := span_mem a1 r (by simp)
    have m2 : e ∈ spanL (es ++ [e]) := span_mem a2 e (by simp)
    refine span_ext a1 a2 (fun y m => ?_) fun y m => ?_
    · rcases List.mem_append.mp m with m | m
      · exact s2 ((ih y).mp (span_mem h.asc.1 y m))
      · rw [List.mem_singleton.mp m]
        have := span_sum a2 (s2 ((ih _).mp hs)) m2
        rwa [sumL_comm (sumL_asc hr he) he, sumL_comm hr he, sumL_right he hr] at this
    · rcases List.mem_append.mp m with m | m
      · exact s1 ((ih y).mpr (span_mem h.asc.2 y m))
      · rw [List.mem_singleton.mp m]
        have := span_sum a1 m1 (s1 hs)
        rwa [sumL_right hr he] at this
theorem Red.inv {rows es : List Row} {r : Row} (h : Red (rows ++ [r]) es) : ∃ es' e, es = es' ++ [e] ∧ Red rows es' ∧ Asc r ∧ Asc e ∧ sumL r e ∈ spanL rows ∧ ∀ j, e.getLast? = some j → j ∉ Ch.lastsL es' := by
  generalize hq : rows ++ [r] = q at h
  cases h with
  | nil => exact absurd hq (by simp)
  | snoc h hr he hs hl =>
    obtain ⟨rfl, e2⟩ := List.append_inj' hq rfl
    cases e2
    exact ⟨_, _, rfl, h, hr, he, hs, hl⟩
theorem lasts_ends (es : List Row) : Ch.lastsL es = (es.map List.getLast?).filterMap id := by
  unfold Ch.lastsL
  rw [List.filterMap_map]
  rfl
theorem Red.uniq (rows : List Row) : ∀ es ds : List Row, Red rows es → Red rows ds → es.map List.getLast? = ds.map List.getLast? := by
  induction rows using snoc_ind with
  | nil =>
    intro es ds h k
    have e1 := h.len
    have e2 := k.len
    rw [List.eq_nil_of_length_eq_zero e1, List.eq_nil_of_length_eq_zero e2]
  | snoc rows r ih =>
    intro es ds h k
    obtain ⟨es, e, rfl, h, hr, he, hs, hl⟩ := h.inv
    obtain ⟨ds, d, rfl, k, _, kd, ks, kl⟩ := k.inv
    have q := ih es ds h k
    have ql : Ch.lastsL es = Ch.lastsL ds := by rw [lasts_ends, lasts_ends, q]
    rw [List.map_append, List.map_append, q]
    congr 1
    show [e.getLast?] = [d.getLast?]
    congr 1
    have mx : sumL e d ∈ spanL rows := by
      have := span_sum h.asc.1 hs ks
      have z : sumL (sumL r e) (sumL r d) = sumL e d := by
        rw [sumL_comm hr he, sumL_assoc he hr (sumL_asc hr kd), sumL_right hr kd]
      rwa [z] at this
    have mx := (h.span _).mp mx
    have key := span_last h.asc.2 h.nodup _ mx
    cases ee : e.getLast? with
    | none =>
      have e0 : e = [] := List.getLast?_eq_none_iff.mp ee
      cases ed : d.getLast? with
      | none => rfl
      | some b =>
        exfalso
        rw [e0, sumL_nil kd] at key
        obtain ⟨j, h1, h2⟩ := key (fun z => by rw [z] at ed; cases ed)
        rw [ed] at h1
        cases h1
        exact kl b ed (ql ▸ h2)
    | some a =>
      cases ed : d.getLast? with
      | none =>
        exfalso
        have d0 : d = [] := List.getLast?_eq_none_iff.mp ed
        rw [d0, sumL_nil' he] at key
        obtain ⟨j, h1, h2⟩ := key (fun z => by rw [z] at ee; cases ee)
        rw [ee] at h1
        cases h1
        exact hl a ee h2
      | some b =>
        by_cases ab : a = b
        · rw [ab]
        · exfalso
          have ls := last_sum he kd ee ed ab
          obtain ⟨j, h1, h2⟩ := key (fun z => by rw [z] at ls; cases ls)
          rw [ls] at h1
          cases h1
          split at h2
          · exact kl b ed (ql ▸ h2)
          · exact hl a ee h2
end Bd
/-! Q39: rows by their first parts; cycles among the first simplices. -/
namespace Bd
open PySem L2
def headsL (rs : List Row) : Row := rs.filterMap List.head?
namespace Sh
/-- a cycle of a dimension among the first ones -/
structure IsCyc (os : List Row) (dim : Int) (n : Nat) (c : Row) : Prop where
  asc : Asc c
  pl : ∀ x ∈ c, ∃ i ∈ plc os dim n, x = (i : Int)
  zero : bdy os c = []
theorem IsCyc.nil {os : List Row} {dim : Int} {n : Nat} : IsCyc os dim n [] := ⟨.nil, fun x m => absurd m List.not_mem_nil, rfl⟩
theorem IsCyc.sum {os : List Row} (h : Ordr os) {dim : Int} {n : Nat} {a b : Row} (ha : IsCyc os dim n a) (hb : IsCyc os dim n b) : IsCyc os dim n (sumL a b) := ⟨sumL_asc ha.asc hb.asc, fun x m => by
  rcases mem_sumL.mp m with ⟨m, _⟩ | ⟨m, _⟩
  · exact ha.pl x m
  · exact hb.pl x m, by rw [bdy_sum h ha.asc hb.asc, ha.zero, hb.zero]; rfl⟩
theorem rowAt_rims {os : List Row} {i : Nat} (hi : i < os.length) : rowAt (rimsL os) (i : Int) = rimL os (os.getD i []) := by
  unfold rowAt
  rw [Int.toNat_natCast]
  exact rims_at hi
theorem rimsD_asc {os : List Row} (h : Ordr os) {dim : Int} {n : Nat} (hn : n ≤ os.length) : AscR (rimsD os dim n) := fun r m => (rimsD_in h hn r m).asc
/-- where a cycle ends, the rim is made of those ahead -/
theorem IsCyc.last {os : List Row} (h : Ordr os) {dim : Int} {n : Nat} (hn : n ≤ os.length) {z : Row} (hz : IsCyc os dim n z) {p : Nat} (e : z.getLast? = some (p : Int)) : rimL os (os.getD p []) ∈ spanL (rimsD os dim p) := by
  have mz := List.mem_of_getLast? e
  obtain ⟨q, mq, eq⟩ := hz.pl _ mz
  have eq : p = q := by omega
  subst eq
  have pn := (plc_mem.mp mq).1
  have sp : z = z.dropLast ++ [(p : Int)] := by
    have ne : z ≠ [] := fun w => by rw [w] at e; cases e
    have := List.dropLast_concat_getLast ne
    rw [← this]
    congr 2
    · rw [this]
    · rw [List.getLast?_eq_some_getLast ne] at e
      exact Option.some.inj e
  have az := hz.asc
  rw [sp] at az
  obtain ⟨a1, _, a3⟩ := List.pairwise_append.mp az
  have hp : AscR (rimsD os dim p) := rimsD_asc h (by omega)
  have ra := rims_asc h
  have zero := hz.zero
  unfold bdy sumAt at zero
  rw [sp, List.map_append, sumR_append (rowAt_all ra _) (rowAt_all ra _)] at zero
  have e1 : sumR ([(p : Int)].map (rowAt (rimsL os))) = rimL os (os.getD p []) := by
    show sumL (rowAt (rimsL os) (p : Int)) [] = _
    rw [rowAt_rims (by omega), sumL_nil' (rim_asc h (getD_mem (by omega)))]
  rw [e1] at zero
  have e2 : sumR (z.dropLast.map (rowAt (rimsL os))) = rimL os (os.getD p []) := by
    have b1 : Asc (sumR (z.dropLast.map (rowAt (rimsL os)))) := sumR_asc (rowAt_all ra _)
    have b2 := rim_asc h (getD_mem (os := os) (show p < os.length by omega))
    have := sumL_right b1 b2
    rw [zero, sumL_nil' b1] at this
    exact this
  rw [← e2]
  have go : ∀ l : Row, (∀ x ∈ l, x ∈ z ∧ x < (p : Int)) → sumR (l.map (rowAt (rimsL os))) ∈ spanL (rimsD os dim p) := by
    intro l
    induction l with
    | nil => exact fun _ => nil_span _
    | cons x l ih =>
      intro hx
      obtain ⟨mx, lx⟩ := hx x List.mem_cons_self
      obtain ⟨i, mi, rfl⟩ := hz.pl x mx
      have mi2 := plc_mem.mp mi
      refine span_sum hp (span_mem hp _ ?_) (ih fun y my => hx y (List.mem_cons_of_mem _ my))
      rw [rowAt_rims (by omega)]
      exact List.mem_map.mpr ⟨i, plc_mem.mpr ⟨by omega, mi2.2⟩, rfl⟩
  exact go _ fun x m => ⟨by rw [sp]; exact List.mem_append_left _ m, a3 x m _ List.mem_cons_self⟩
/-- chains that make all cycles -/
structure CycB (os : List Row) (dim : Int) (n : Nat) (Z : List Row) : Prop where
  cy : ∀ c ∈ Z, IsCyc os dim n c
  all : ∀ z, IsCyc os dim n z → z ∈ spanL Z
theorem CycB.asc {os : List Row} {dim : Int} {n : Nat} {Z : List Row} (h : CycB os dim n Z) : AscR Z := fun r m => (h.cy r m).asc
theorem CycB.span {os : List Row} {dim : Int} {n : Nat} {Y Z : List Row} (hy : CycB os dim n Y) (hz : CycB os dim n Z) : ∀ x, x ∈ spanL Y ↔ x ∈ spanL Z := span_ext hy.asc hz.asc (fun r m => hz.all r (hy.cy r m)) fun r m => hy.all r (hz.cy r m)
end Sh
end Bd
/-! Q40: the program's cycles, holes that last. -/
namespace Bd
open PySem L2
namespace Sh
end Sh
end Bd
/-! Q41: holes that last, by both sides; what they are at most. -/
namespace Bd
open PySem L2
namespace Sh
theorem facesL_len1 {s f : Row} (h : Smp s) (m : f ∈ facesL s) : f.length + 1 = s.length := by
  rcases h.cases with ⟨a, rfl⟩ | ⟨a, b, rfl, _⟩ | ⟨a, b, c, rfl, _, _⟩
  · cases m
  · rw [faces2] at m
    rcases List.mem_cons.mp m with rfl | m
    · rfl
    · rw [List.mem_singleton.mp m]; rfl
  · rw [faces3] at m
    rcases List.mem_cons.mp m with rfl | m
    · rfl
    · rcases List.mem_cons.mp m with rfl | m
      · rfl
      · rw [List.mem_singleton.mp m]; rfl
end Sh
end Bd
/-! Q42: the laws' cycles. -/
namespace Bd
open PySem L2
namespace Sh
def prD (e : Row × Row) : D := .tuple [tupI e.1, tupI e.2]
def hdB (h : Int) (e : Row × Row) : Bool := decide (e.1.head? = some h)
def DkC (ks : List (Int × D)) (kept : List (Row × Row)) : Prop := ks.length ≤ kept.length ∧ ∀ h, kAt ks h = (kept.find? (hdB h)).map prD
theorem DkC.put {ks : List (Int × D)} {kept : List (Row × Row)} {e : Row × Row} {h : Int} (d : DkC ks kept) (eh : e.1.head? = some h) (no : kept.find? (hdB h) = none) : DkC (kPut ks h (prD e)) (kept ++ [e]) := by
  refine ⟨?_, fun m => ?_⟩
  · have := kPut_le ks h (prD e)
    have := d.1
    rw [List.length_append, List.length_singleton]
    omega
  · rw [kAt_put, List.find?_append]
    by_cases c : h = m
    · subst c
      rw [if_pos rfl, no]
      show _ = (([e].find? (hdB h)).map prD)
      rw [List.find?_cons]
      have : hdB h e = true := decide_eq_true eh
      rw [this]
      rfl
    · rw [if_neg c, d.2 m]
      have : hdB m e = false := decide_eq_false fun z => c (by
        rw [eh] at z
        exact Option.some.inj z)
      have e0 : [e].find? (hdB m) = none := by
        rw [List.find?_cons, this]
        rfl
      rw [e0, Option.or_none]
structure Kst (os : List Row) (dim : Int) (done : List Nat) (kept : List (Row × Row)) (found : List Row) : Prop where
  k1 : ∀ e ∈ kept, Asc e.2 ∧ (∀ x ∈ e.2, ∃ i ∈ done, x = (i : Int)) ∧ bdy os e.2 = e.1 ∧ e.1 ≠ []
  hd : (headsL (kept.map (·.1))).Nodup
  sp : ∀ x, x ∈ spanL (kept.map (·.1)) ↔ x ∈ spanL (done.map fun i => rimL os (os.getD i []))
  fo : ∀ c ∈ found, Asc c ∧ (∀ x ∈ c, ∃ i ∈ done, x = (i : Int)) ∧ bdy os c = []
  al : ∀ p ∈ done, (∃ c ∈ found, c.getLast? = some (p : Int)) ∨ rimL os (os.getD p []) ∉ spanL (rimsD os dim p)
theorem last_max {l : Row} {m : Int} (hl : Asc l) (mm : m ∈ l) (h : ∀ z ∈ l, z ≤ m) : l.getLast? = some m := by
  cases e : l.getLast? with
  | none =>
    rw [List.getLast?_eq_none_iff.mp e] at mm
    cases mm
  | some x =>
    have h1 := last_le hl e m mm
    have h2 := h x (List.mem_of_getLast? e)
    have : x = m := by omega
    rw [this]
/-- within the inner loop -/
structure Kin1 (os : List Row) (kept : List (Row × Row)) (done : List Nat) (p : Nat) (row chain : Row) : Prop where
  asc : Asc chain
  la : chain.getLast? = some (p : Int)
  el : ∀ x ∈ chain, x = (p : Int) ∨ ∃ i ∈ done, x = (i : Int)
  bd : bdy os chain = row
  sp : sumL (rimL os (os.getD p [])) row ∈ spanL (kept.map (·.1))
theorem Kst.asc {os : List Row} (h : Ordr os) {dim : Int} {done : List Nat} {kept : List (Row × Row)} {found : List Row} (k : Kst os dim done kept found) : AscR (kept.map (·.1)) := fun r m => by
  obtain ⟨e, me, rfl⟩ := List.mem_map.mp m
  rw [← (k.k1 e me).2.2.1]
  exact (bdy_in h _).asc
theorem Kin1.step {os : List Row} (h : Ordr os) {dim : Int} {done : List Nat} {kept : List (Row × Row)} {found : List Row} (k : Kst os dim done kept found) {p : Nat} (hd : ∀ i ∈ done, i < p) (hp : p < os.length) {row chain : Row} (q : Kin1 os kept done p row chain) {e : Row × Row} (me : e ∈ kept) : Kin1 os kept done p (sumL row e.1) (sumL chain e.2) := by
  obtain ⟨a1, a2, a3, _⟩ := k.k1 e me
  have rr : Asc row := by
    rw [← q.bd]
    exact (bdy_in h _).asc
  have re : Asc e.1 := by
    rw [← a3]
    exact (bdy_in h _).asc
  have rp := rim_asc h (getD_mem hp)
  refine ⟨sumL_asc q.asc a1, ?_, fun x m => ?_, by rw [bdy_sum h q.asc a1, q.bd, a3], ?_⟩
  · refine last_max (sumL_asc q.asc a1) (mem_sumL.mpr (.inl ⟨List.mem_of_getLast? q.la, fun m => ?_⟩)) fun z m => ?_
    · obtain ⟨i, mi, ei⟩ := a2 _ m
      have := hd i mi
      omega
    · rcases mem_sumL.mp m with ⟨m, _⟩ | ⟨m, _⟩
      · exact last_le q.asc q.la z m
      · obtain ⟨i, mi, ei⟩ := a2 _ m
        have := hd i mi
        omega
  · rcases mem_sumL.mp m with ⟨m, _⟩ | ⟨m, _⟩
    · exact q.el x m
    · exact .inr (a2 x m)
  · rw [← sumL_assoc rp rr re]
    exact span_sum (k.asc h) q.sp (span_mem (k.asc h) _ (List.mem_map.mpr ⟨e, me, rfl⟩))
end Sh
end Bd
/-! Q43: the laws' cycles, holes that last. -/
namespace Bd
open PySem L2
namespace Sh
end Sh
end Bd
/-! Q44: orders drawn of a shape; sums drawn of rows. -/
namespace Bd
open PySem L2
namespace Sh
theorem map_erase : ∀ (os : List Row) (j : Nat), (os.map tupI).eraseIdx j = (os.eraseIdx j).map tupI
  | [], _ => rfl
  | _ :: _, 0 => rfl
  | s :: os, j + 1 => by
    show tupI s :: (os.map tupI).eraseIdx j = tupI s :: (os.eraseIdx j).map tupI
    rw [map_erase os j]
theorem erase_map {os : List Row} {s : Row} (m : s ∈ os) : (os.map tupI).eraseIdx (os.idxOf s) = (os.erase s).map tupI := by
  rw [List.erase_eq_eraseIdx_of_idxOf rfl]
  exact map_erase _ _
end Sh
end Bd
/-! Q45: what fills a chain of one dimension; whether two cycles are of one hole. -/
namespace Bd
open PySem L2
namespace Sh
end Sh
end Bd
/-! Q15: the pairs that residues tell, by the program. -/
namespace Bd
open PySem L2
namespace Pr
/-- where an end stands -/
def lastO (ls : List (Option Int)) (j : Int) : Option Nat := ls.findIdx? fun o => decide (o = some j)
/-- the dict of the ends -/
def DkOf (ls : List (Option Int)) (ks : List (Int × D)) : Prop := ∀ j, kAt ks j = (lastO ls j).map fun p => .int (p : Nat)
theorem lastO_snoc (ls : List (Option Int)) (o : Option Int) (j : Int) : lastO (ls ++ [o]) j = (lastO ls j).or (if o = some j then some ls.length else none) := by
  unfold lastO
  rw [List.findIdx?_append, List.findIdx?_singleton]
  congr 1
  by_cases c : o = some j
  · rw [decide_eq_true c, if_pos c]
    simp
  · rw [decide_eq_false c, if_neg c]
    simp
theorem lastO_none {ls : List (Option Int)} {j : Int} : lastO ls j = none ↔ some j ∉ ls := by
  unfold lastO
  rw [List.findIdx?_eq_none_iff]
  constructor
  · intro h m
    have := h _ m
    simp at this
  · intro h o m
    exact decide_eq_false fun e => h (e ▸ m)
theorem DkOf.skip {ls : List (Option Int)} {ks : List (Int × D)} (h : DkOf ls ks) : DkOf (ls ++ [none]) ks := fun j => by
  rw [h j, lastO_snoc]
  simp
theorem DkOf.put {ls : List (Option Int)} {ks : List (Int × D)} {k : Int} (h : DkOf ls ks) (hn : some k ∉ ls) : DkOf (ls ++ [some k]) (kPut ks k (.int (ls.length : Nat))) := fun j => by
  rw [kAt_put, lastO_snoc]
  by_cases c : k = j
  · subst c
    rw [if_pos rfl, if_pos rfl, lastO_none.mpr hn]
    rfl
  · rw [if_neg c, if_neg fun e => c (Option.some.inj e), Option.or_none]
    exact h j
theorem DkOf.has {ls : List (Option Int)} {ks : List (Int × D)} (h : DkOf ls ks) (j : Int) : (kAt ks j).isSome = decide (some j ∈ ls) := by
  rw [h j, Option.isSome_map]
  cases e : lastO ls j with
  | none => exact (decide_eq_false (lastO_none.mp e)).symm
  | some p =>
    refine (decide_eq_true (Classical.byContradiction fun n => ?_)).symm
    rw [lastO_none.mpr n] at e
    cases e
/-! ### pairs_by -/
end Pr
end Bd
/-! Q16: the pairs of an order, by the program and by the laws. -/
namespace Bd
open PySem L2
/-- a row as a list -/
abbrev lstI (r : Row) : D := .list (r.map PyData.int)
namespace Pr
end Pr
end Bd
/-! Q17: pairs may be shown; len of a dict. -/
namespace Bd
open PySem L2
namespace Pr
end Pr
end Bd
/-! Q18: right chains tell the same pairs. -/
namespace Bd
open PySem L2
namespace Ch
end Ch
namespace Pr
end Pr
end Bd
/-! Q19: rows cut below; ranks by ends. -/
namespace Bd
open PySem L2
/-- what is at least low -/
def fl (low : Int) (r : Row) : Row := r.filter fun x => decide (low ≤ x)
theorem fl_asc {low : Int} {r : Row} (h : Asc r) : Asc (fl low r) := List.Pairwise.filter _ h
theorem mem_fl {low x : Int} {r : Row} : x ∈ fl low r ↔ x ∈ r ∧ low ≤ x := by
  unfold fl
  rw [List.mem_filter, decide_eq_true_eq]
theorem fl_sum {low : Int} {a b : Row} (ha : Asc a) (hb : Asc b) : fl low (sumL a b) = sumL (fl low a) (fl low b) := asc_ext (fl_asc (sumL_asc ha hb)) (sumL_asc (fl_asc ha) (fl_asc hb)) fun x => by
  rw [mem_fl, mem_sumL, mem_sumL, mem_fl, mem_fl]
  constructor
  · rintro ⟨⟨m, n⟩ | ⟨m, n⟩, l⟩
    · exact .inl ⟨⟨m, l⟩, fun z => n z.1⟩
    · exact .inr ⟨⟨m, l⟩, fun z => n z.1⟩
  · rintro (⟨⟨m, l⟩, n⟩ | ⟨⟨m, l⟩, n⟩)
    · exact ⟨.inl ⟨m, fun z => n ⟨z, l⟩⟩, l⟩
    · exact ⟨.inr ⟨m, fun z => n ⟨z, l⟩⟩, l⟩
theorem fl_ascR {low : Int} {rs : List Row} (h : AscR rs) : AscR (rs.map (fl low)) := fun y m => by
  obtain ⟨r, mr, rfl⟩ := List.mem_map.mp m
  exact fl_asc (h r mr)
theorem fl_span {low : Int} {rs : List Row} (h : AscR rs) : ∀ x ∈ spanL rs, fl low x ∈ spanL (rs.map (fl low)) :=
  span_sub (S := fun x => fl low x ∈ spanL (rs.map (fl low))) h (nil_span _) fun r mr x hx hS => by
    show fl low (sumL r x) ∈ _
    rw [fl_sum (h r mr) hx]
    exact span_sum (fl_ascR h) (span_mem (fl_ascR h) _ (List.mem_map.mpr ⟨r, mr, rfl⟩)) hS
theorem last_fl {low : Int} {r : Row} (h : Asc r) : (fl low r).getLast? = r.getLast?.filter fun x => decide (low ≤ x) := by
  cases q : r.getLast? with
  | none =>
    rw [List.getLast?_eq_none_iff.mp q]
    rfl
  | some k =>
    rw [Option.filter_some]
    by_cases c : low ≤ k
    · rw [decide_eq_true c]
      simp only [↓reduceIte]
      exact asc_last (fl_asc h) (mem_fl.mpr ⟨List.mem_of_getLast? q, c⟩) fun x m => last_le h q x (mem_fl.mp m).1
    · rw [decide_eq_false c]
      simp only [Bool.false_eq_true, ↓reduceIte]
      refine List.getLast?_eq_none_iff.mpr ?_
      refine List.eq_nil_iff_forall_not_mem.mpr fun x m => ?_
      have := last_le h q x (mem_fl.mp m).1
      have := (mem_fl.mp m).2
      omega
theorem Red.cut {low : Int} {rows es : List Row} (h : Red rows es) : Red (rows.map (fl low)) (es.map (fl low)) := by
  induction h with
  | nil => exact .nil
  | snoc h hr he hs hl ih =>
    rw [List.map_append, List.map_append]
    refine .snoc ih (fl_asc hr) (fl_asc he) ?_ fun j ej mj => ?_
    · rw [← fl_sum hr he]
      exact fl_span h.asc.1 _ hs
    · rw [last_fl he, Option.filter_eq_some_iff] at ej
      obtain ⟨f, mf, ef⟩ := List.mem_filterMap.mp mj
      obtain ⟨g, mg, rfl⟩ := List.mem_map.mp mf
      rw [last_fl (h.asc.2 g mg), Option.filter_eq_some_iff] at ef
      exact hl j ej.1 (List.mem_filterMap.mpr ⟨g, mg, ef.1⟩)
namespace Pr
/-- how many ends -/
def cntO (ls : List (Option Int)) : Nat := ls.countP Option.isSome
def atE (es : List Row) (j : Int) : Option Row := es.find? fun e => decide (e.getLast? = some j)
def DkR (es : List Row) (ks : List (Int × D)) : Prop := (∀ j, kAt ks j = (atE es j).map lstI) ∧ ks.length = cntO (es.map List.getLast?)
theorem atE_none {es : List Row} {j : Int} : atE es j = none ↔ some j ∉ es.map List.getLast? := by
  unfold atE
  rw [List.find?_eq_none]
  constructor
  · intro h m
    obtain ⟨e, me, q⟩ := List.mem_map.mp m
    exact h e me (decide_eq_true q)
  · intro h e m q
    exact h (List.mem_map.mpr ⟨e, m, of_decide_eq_true q⟩)
theorem cntO_snoc (ls : List (Option Int)) (o : Option Int) : cntO (ls ++ [o]) = cntO ls + (if o.isSome then 1 else 0) := by
  unfold cntO
  rw [List.countP_append, List.countP_singleton]
theorem DkR.skip {es : List Row} {ks : List (Int × D)} (h : DkR es ks) : DkR (es ++ [[]]) ks := by
  refine ⟨fun j => ?_, ?_⟩
  · rw [h.1 j]
    unfold atE
    rw [List.find?_append]
    cases List.find? (fun e => decide (e.getLast? = some j)) es <;> rfl
  · rw [h.2, List.map_append]
    show _ = cntO (_ ++ [none])
    rw [cntO_snoc]
    rfl
theorem kPut_new {ks : List (Int × D)} {k : Int} {v : D} (h : kAt ks k = none) : (kPut ks k v).length = ks.length + 1 := by
  have : (ks.any fun p => decide (p.1 = k)) = false := by
    rw [List.any_eq_false]
    intro p m q
    unfold kAt at h
    rw [Option.map_eq_none_iff, List.find?_eq_none] at h
    exact h p m q
  unfold kPut
  rw [this]
  simp
theorem DkR.put {es : List Row} {ks : List (Int × D)} {e : Row} {k : Int} (h : DkR es ks) (hk : e.getLast? = some k) (hn : some k ∉ es.map List.getLast?) : DkR (es ++ [e]) (kPut ks k (lstI e)) := by
  refine ⟨fun j => ?_, ?_⟩
  · rw [kAt_put, h.1 j]
    unfold atE
    rw [List.find?_append, List.find?_singleton]
    by_cases c : k = j
    · subst c
      have z := atE_none.mpr hn
      unfold atE at z
      rw [if_pos rfl, z, decide_eq_true hk]
      rfl
    · have : ¬ e.getLast? = some j := fun z => c (Option.some.inj (hk.symm.trans z))
      rw [if_neg c, decide_eq_false this]
      cases List.find? (fun e => decide (e.getLast? = some j)) es <;> rfl
  · rw [kPut_new (by rw [h.1 k, atE_none.mpr hn]; rfl), h.2, List.map_append]
    show _ = cntO (_ ++ [e.getLast?])
    rw [cntO_snoc, hk]
    rfl
end Pr
end Bd
/-! Q20: what fills a row, by the laws. -/
namespace Bd
open PySem L2
theorem Red.at {rows es : List Row} (h : Red rows es) : ∀ (m : Nat) (r e : Row), rows[m]? = some r → es[m]? = some e → Red (rows.take m) (es.take m) ∧ sumL r e ∈ spanL (rows.take m) ∧ ∀ j, e.getLast? = some j → j ∉ Ch.lastsL (es.take m) := by
  induction h with
  | nil => exact fun m r e h => by cases h
  | snoc h hr he hs hl ih =>
    rename_i rows es r e
    intro m r' e' h1 h2
    have hlen := h.len
    have hm := (List.getElem?_eq_some_iff.mp h1).1
    rw [List.length_append, List.length_singleton] at hm
    by_cases c : m < rows.length
    · rw [List.getElem?_append_left c] at h1
      rw [List.getElem?_append_left (by omega)] at h2
      rw [List.take_append_of_le_length (by omega), List.take_append_of_le_length (by omega)]
      exact ih m r' e' h1 h2
    · have em : m = rows.length := by omega
      subst em
      rw [List.getElem?_concat_length] at h1
      rw [← hlen, List.getElem?_concat_length] at h2
      cases h1
      cases h2
      rw [List.take_left, ← hlen, List.take_left]
      exact ⟨h, hs, hl⟩
/-- cleared of the rest, a row is nothing where it is a sum -/
theorem Red.zero {rows es : List Row} (h : Red rows es) {c e : Row} (hc : Asc c) (he : Asc e) (hs : sumL c e ∈ spanL rows) (hl : ∀ j, e.getLast? = some j → j ∉ Ch.lastsL es) : decide (e = []) = decide (c ∈ spanL rows) := by
  by_cases z : e = []
  · rw [z, sumL_nil' hc] at hs
    rw [decide_eq_true z, decide_eq_true hs]
  · rw [decide_eq_false z]
    refine (decide_eq_false fun m => z ?_).symm
    have me : e ∈ spanL rows := by
      have := span_sum h.asc.1 m hs
      rwa [sumL_right hc he] at this
    refine Classical.byContradiction fun ne => ?_
    obtain ⟨j, h1, h2⟩ := span_last h.asc.2 h.nodup e ((h.span e).mp me) ne
    exact hl j h1 h2
namespace Pr
end Pr
end Bd
/-! Q46: the pairs of an order as the laws of bars reckon them. -/
namespace Bd
open PySem L2
namespace Sh
open Pr
def DkT (es : List Row) (ks : List (Int × D)) : Prop := (∀ j, kAt ks j = (atE es j).map tupI) ∧ ks.length ≤ es.length
theorem DkT.skip {es : List Row} {ks : List (Int × D)} (h : DkT es ks) : DkT (es ++ [[]]) ks := by
  refine ⟨fun j => ?_, by have := h.2; rw [List.length_append]; omega⟩
  rw [h.1 j]
  unfold atE
  rw [List.find?_append]
  cases List.find? (fun e => decide (e.getLast? = some j)) es <;> rfl
theorem DkT.put {es : List Row} {ks : List (Int × D)} {e : Row} {k : Int} (h : DkT es ks) (hk : e.getLast? = some k) (hn : some k ∉ es.map List.getLast?) : DkT (es ++ [e]) (kPut ks k (tupI e)) := by
  refine ⟨fun j => ?_, ?_⟩
  · rw [kAt_put, h.1 j]
    unfold atE
    rw [List.find?_append, List.find?_singleton]
    by_cases c : k = j
    · subst c
      have z := atE_none.mpr hn
      unfold atE at z
      rw [if_pos rfl, z, decide_eq_true hk]
      rfl
    · have : ¬ e.getLast? = some j := fun z => c (Option.some.inj (hk.symm.trans z))
      rw [if_neg c, decide_eq_false this]
      cases List.find? (fun e => decide (e.getLast? = some j)) es <;> rfl
  · have := h.2
    have := kPut_le ks k (tupI e)
    rw [List.length_append, List.length_singleton]
    omega
end Sh
end Bd
/-! Q47: bars of items by pairs, sorted, by both sides. -/
namespace Bd
open PySem L2
namespace Sh
open Pr
/-! the laws' -/
end Sh
end Bd
/-! Q48: bars of items by pairs. -/
namespace Bd
open PySem L2
namespace Sh
open Pr
/-- told of a pair -/
def onP (F : Nat × Option Nat → D) : D → D
  | .tuple [.int a, .int b] => F (a.toNat, some b.toNat)
  | .tuple [.int a, _] => F (a.toNat, none)
  | _ => .none
end Sh
end Bd
/-! Q49: wide numbers shown; shapes whose heights are stretched or laid flat. -/
namespace Bd
open PySem L2
/-- small data of numbers of up to 22 digits -/
structure FineW (k n : Nat) (d : D) : Prop where
  sh : d.showable = true
  nd : d.hasDict = false
  dp : d.depth ≤ k
  ls : d.leavesShort 24 = true
  wt : d.weight ≤ n
theorem FineW.mono {k n k' n' : Nat} {d : D} (h : FineW k n d) (hk : k ≤ k') (hn : n ≤ n') : FineW k' n' d := ⟨h.sh, h.nd, Nat.le_trans h.dp hk, h.ls, Nat.le_trans h.wt hn⟩
theorem fineW_int {i : Int} (h : i.natAbs < 10 ^ 22) : FineW 0 81 (.int i) where
  sh := by
    simp only [PyData.showable, decide_eq_true_eq]
    have := log2_small (n := i.natAbs) (k := 80) (by omega) (by decide)
    omega
  nd := by simp only [PyData.hasDict]
  dp := by simp only [PyData.depth]; exact Nat.le_refl _
  ls := by
    simp only [PyData.leavesShort, decide_eq_true_eq]
    have e := int_text_length_le10 (k := 22) (by decide) h
    show (Str.ofString (toString i)).length ≤ 24
    rw [ofString_length]
    omega
  wt := by
    simp only [PyData.weight]
    split
    · exact Nat.zero_le _
    · have := log2_small (n := i.natAbs) (k := 80) (by omega) (by decide)
      omega
theorem fineWAll {k n : Nat} : ∀ {xs : List D}, (∀ x ∈ xs, FineW k n x) → PyData.showableAll xs = true ∧ PyData.hasDictAll xs = false ∧ PyData.depthAll xs ≤ k ∧ PyData.leavesShortAll 24 xs = true ∧ PyData.weightAll xs ≤ xs.length * (n + 1)
  | [], _ => ⟨by simp only [PyData.showableAll], by simp only [PyData.hasDictAll], by simp only [PyData.depthAll]; exact Nat.zero_le _, by simp only [PyData.leavesShortAll], by simp only [PyData.weightAll]; exact Nat.zero_le _⟩
  | x :: xs, h => by
    obtain ⟨h1, h2, h3, h4, h5⟩ := fineWAll fun y m => h y (List.mem_cons_of_mem _ m)
    have f := h x List.mem_cons_self
    have w := f.wt
    have d := f.dp
    refine ⟨?_, ?_, ?_, ?_, ?_⟩
    · simp only [PyData.showableAll, f.sh, h1, Bool.and_self]
    · simp only [PyData.hasDictAll, f.nd, h2, Bool.or_self]
    · simp only [PyData.depthAll]; omega
    · simp only [PyData.leavesShortAll, f.ls, h4, Bool.and_self]
    · simp only [PyData.weightAll, List.length_cons, Nat.add_mul]
      omega
theorem fineW_list {k n : Nat} {xs : List D} (h : ∀ x ∈ xs, FineW k n x) : FineW (k + 1) (xs.length * (n + 1)) (.list xs) := by
  obtain ⟨h1, h2, h3, h4, h5⟩ := fineWAll h
  exact ⟨by simp only [PyData.showable, h1], by simp only [PyData.hasDict, h2], by simp only [PyData.depth]; omega, by simp only [PyData.leavesShort, h4], by simp only [PyData.weight]; exact h5⟩
theorem fineW_tuple {k n : Nat} {xs : List D} (h : ∀ x ∈ xs, FineW k n x) : FineW (k + 1) (xs.length * (n + 1)) (.tuple xs) := by
  obtain ⟨h1, h2, h3, h4, h5⟩ := fineWAll h
  exact ⟨by simp only [PyData.showable, h1], by simp only [PyData.hasDict, h2], by simp only [PyData.depth]; omega, by simp only [PyData.leavesShort, h4], by simp only [PyData.weight]; exact h5⟩
theorem FineW.repr {k n : Nat} {d : D} (h : FineW k n d) (hk : k ≤ 64) (hn : n ≤ 600000) : reprV [d] = some (.str d.shown) := by
  show (if d.showable = true ∧ d.hasDict = false ∧ d.depth ≤ 64 ∧ d.shown.length ≤ lineN then some (PyData.str d.shown) else none) = _
  have w := PyData.shown_le 24 (by decide) d h.ls
  have := h.wt
  have := h.dp
  have l0 := lineN_eq
  rw [if_pos ⟨h.sh, h.nd, by omega, by omega⟩]
namespace Sh
open Pr
/-- a shape, whatever its heights -/
structure Shq (it : List Ih) : Prop where
  nd : (it.map (·.1)).Nodup
  smp : ∀ p ∈ it, Smp p.1
  cl : ∀ p ∈ it, ∀ f ∈ facesL p.1, ∃ q ∈ it, q.1 = f ∧ q.2 ≤ p.2
theorem Shp.q {it : List Ih} (h : Shp it) : Shq it := ⟨h.nd, h.smp, h.cl⟩
def strP (u : Int) (p : Ih) : Ih := (p.1, u * p.2)
theorem Shq.str {it : List Ih} (h : Shq it) {u : Int} (hu : 0 ≤ u) : Shq (it.map (strP u)) := by
  refine ⟨?_, fun p m => ?_, fun p m f mf => ?_⟩
  · rw [List.map_map]
    exact h.nd
  · obtain ⟨p0, m0, rfl⟩ := List.mem_map.mp m
    exact h.smp p0 m0
  · obtain ⟨p0, m0, rfl⟩ := List.mem_map.mp m
    obtain ⟨q, mq, e, l⟩ := h.cl p0 m0 f mf
    exact ⟨_, List.mem_map.mpr ⟨q, mq, rfl⟩, e, Int.mul_le_mul_of_nonneg_left l hu⟩
def flatP (low : Int) (p : Ih) : Ih := (p.1, if p.1.length = 1 then low else p.2)
theorem Shq.flat {it : List Ih} (h : Shq it) {low : Int} (hl : ∀ p ∈ it, low ≤ p.2) : Shq (it.map (flatP low)) := by
  refine ⟨?_, fun p m => ?_, fun p m f mf => ?_⟩
  · rw [List.map_map]
    exact h.nd
  · obtain ⟨p0, m0, rfl⟩ := List.mem_map.mp m
    exact h.smp p0 m0
  · obtain ⟨p0, m0, rfl⟩ := List.mem_map.mp m
    obtain ⟨q, mq, e, l⟩ := h.cl p0 m0 f mf
    refine ⟨_, List.mem_map.mpr ⟨q, mq, rfl⟩, e, ?_⟩
    have l1 := facesL_len1 (h.smp p0 m0) mf
    have lf : 0 < f.length := by
      have := h.smp q mq
      rw [e] at this
      rcases this.cases with ⟨a, rfl⟩ | ⟨a, b, rfl, _⟩ | ⟨a, b, c, rfl, _, _⟩ <;> simp
    show (if q.1.length = 1 then low else q.2) ≤ (if p0.1.length = 1 then low else p0.2)
    rw [if_neg (show ¬ p0.1.length = 1 by omega)]
    split
    · exact hl p0 m0
    · exact l
/-! what is shown -/
theorem fineW_itD {p : Ih} (h : Smp p.1) (b : p.2.natAbs < 10 ^ 22) : FineW 2 1000 (itD p) := by
  have f := fineW_tuple (k := 1) (n := 400) (xs := [tupI p.1, .int p.2]) fun d m => by
    rcases List.mem_cons.mp m with rfl | m
    · have g := fineW_tuple (k := 0) (n := 81) (xs := p.1.map PyData.int) fun d m => by
        obtain ⟨x, mx, rfl⟩ := List.mem_map.mp m
        have := up12_small x (h.u.sub x mx)
        exact fineW_int (by omega)
      refine g.mono (Nat.le_refl _) ?_
      rw [List.length_map]
      rcases h.cases with ⟨a, e⟩ | ⟨a, b, e, _⟩ | ⟨a, b, c, e, _, _⟩ <;> rw [e] <;> simp
    · rw [List.mem_singleton.mp m]
      exact (fineW_int b).mono (by decide) (by decide)
  exact f.mono (Nat.le_refl _) (by simp)
theorem fineW_its {it : List Ih} (h : ∀ p ∈ it, Smp p.1 ∧ p.2.natAbs < 10 ^ 22) (hl : it.length ≤ 60) : FineW 3 70000 (.list (it.map itD)) := by
  have f := fineW_list (k := 2) (n := 1000) (xs := it.map itD) fun d m => by
    obtain ⟨p, mp, rfl⟩ := List.mem_map.mp m
    exact fineW_itD (h p mp).1 (h p mp).2
  refine f.mono (Nat.le_refl _) ?_
  rw [List.length_map]
  omega
theorem fineW_three {a b c : D} {k n : Nat} (ha : FineW k n a) (hb : FineW k n b) (hc : FineW k n c) : FineW (k + 1) (3 * (n + 1)) (.tuple [a, b, c]) := by
  have f := fineW_tuple (k := k) (n := n) (xs := [a, b, c]) fun d m => by
    rcases List.mem_cons.mp m with rfl | m
    · exact ha
    · rcases List.mem_cons.mp m with rfl | m
      · exact hb
      · rw [List.mem_singleton.mp m]
        exact hc
  exact f
/-! pairs -/
end Sh
end Bd
/-! R4: shapes sorted one by one; shown; equal. -/
namespace Bd
open PySem L2
namespace Sc
open Sh
/-! equal -/
theorem eqv_it (a b : Ih) : PyData.eqv (itD a) (itD b) = decide (a = b) := by
  have e : PyData.eqv (itD a) (itD b) = (PyData.eqv (tupI a.1) (tupI b.1) && (PyData.eqv (.int a.2) (.int b.2) && true)) := by
    simp [itD, PyData.eqv, PyData.eqvAll]
  have ei : PyData.eqv (.int a.2) (.int b.2) = decide (a.2 = b.2) := by
    rw [Bool.eq_iff_iff]
    simp [PyData.eqv]
  rw [e, eqv_tup, Bool.and_true, ei, Bool.eq_iff_iff, Bool.and_eq_true, decide_eq_true_iff, decide_eq_true_iff, decide_eq_true_iff]
  exact ⟨fun h => Prod.ext h.1 h.2, fun h => by subst h; exact ⟨rfl, rfl⟩⟩
theorem eqv_its : ∀ l : List Ih, PyData.eqvAll (l.map itD) (l.map itD) = true
  | [] => by simp [PyData.eqvAll]
  | p :: l => by
    rw [List.map_cons]
    unfold PyData.eqvAll
    rw [eqv_it, decide_eq_true rfl, eqv_its l]
    rfl
/-! shown -/
end Sc
end Bd
/-! R5: simplices sorted. -/
namespace Bd
open PySem L2
namespace Sc
open Sh
end Sc
end Bd
/-! R6: heights, shapes at heights, counts, euler. -/
namespace Bd
open PySem L2
theorem wn_setC {η : Nv} {QD : D → Prop} {Fi : Nv → R (List D)} {Tg : Tgt} {Cn : Nv → R Bool} {El : Nv → R D} {vs : List Nat} {xs : List D} (c : D → Bool) (g : D → D) {l : List Int} (hi : Wn (Fi η) (· = xs))
    (step : ∀ x ∈ xs, ∃ η1, Tg x (wipeE η vs) = some η1 ∧ Wn (Cn η1) fun b => b = c x ∧ (b = true → Wn (El η1) (· = g x))) (hl : (xs.filter c).map g = l.map PyData.int) (hz : l.length < 4000) (q : QD (.list ((sset l).map PyData.int))) : Wn (setCE Fi Tg Cn El vs η) QD := by
  obtain ⟨ys, e, rfl⟩ := hi.get
  have cd : compD Tg Cn El (wipeE η vs) ys = .ok ((ys.filter c).map g) := compD_filter (c := c) (g := g) ys fun x m => by
    obtain ⟨η1, e1, k⟩ := step x m
    obtain ⟨b, e2, rfl, k⟩ := k.get
    refine ⟨η1, e1, e2, fun hb => ?_⟩
    obtain ⟨y, e3, rfl⟩ := (k hb).get
    exact e3
  have as' : asSet ((ys.filter c).map g) = .ok (.list ((sset l).map PyData.int)) := by
    unfold asSet
    rw [hl, ints?_map]
    exact if_pos hz
  refine Wn.mk (a := .list ((sset l).map PyData.int)) ?_ q
  unfold setCE
  rw [e]
  show (compD Tg Cn El (wipeE η vs) ys).bindN asSet = _
  rw [cd]
  exact as'
namespace Sc
open Sh
def G_heights_of : Nv → Rs :=
    (seqS (retS (e1 sortSV (setCE (iA (gv 0)) (gT 2 (gsC (gN 1) (gsC (gN 2) gs0))) (fun _ => .ok true) (gv 2) [1, 2])))
    .nx)
def F_heights_of : List D → R D := runD 3 .no G_heights_of
def G_shape_at : Nv → Rs :=
    (seqS (retS (compE (iA (gv 0)) (gN 2) (tb (e2 leA (e2 ixV (gv 2) (k0 (.int 1))) (gv 1))) (gv 2) [2]))
    .nx)
def F_shape_at : List D → R D := runD 3 .no G_shape_at
def G_counts_of : Nv → Rs :=
    (seqS (setS 1 (compE (iA (gv 0)) (gT 2 (gsC (gN 2) (gsC (gN 3) gs0))) (fun _ => .ok true) (callV Cb.F_dimension_of (aC (gv 2) a0)) [2, 3]))
    (seqS (retS (tupV (aC (m2 countV (gv 1) (k0 (.int 0))) (aC (m2 countV (gv 1) (k0 (.int 1))) (aC (m2 countV (gv 1) (k0 (.int 2))) a0)))))
    .nx))
def F_counts_of : List D → R D := runD 4 (.ok .none) G_counts_of
def G_euler_of : Nv → Rs :=
    (seqS (asgS (gT 3 (gsC (gN 1) (gsC (gN 2) (gsC (gN 3) gs0)))) (callV F_counts_of (aC (gv 0) a0)))
    (seqS (retS (e2 addV (e2 subV (gv 1) (gv 2)) (gv 3)))
    .nx))
def F_euler_of : List D → R D := runD 4 (.ok .none) G_euler_of

theorem heights_ok {it : List Ih} (hl : it.length < 4000) : F_heights_of [.list (it.map itD)] = .ok (.list ((sset (it.map (·.2))).map PyData.int)) := by
  refine Wn.eq (wn_runD ?_)
  show Sn (G_heights_of [.d (.list (it.map itD)), .no, .no]) _ _ _ _
  unfold G_heights_of
  simp only [wn_ok, wn_some, wn_only, wn_noex, wn_e2, wn_e1, wn_eN, wn_a0, wn_aC, wn_call, wn_tb, wn_tup, wn_lst, wn_andB, wn_orB, wn_notB, wn_andV, wn_orV, wn_notV, wn_ifV, wn_iA, wn_iR1, wn_iR2, wn_iZ, wn_iEn, wn_iRR, wn_sl, wn_p0, wn_p1, wn_up, wn_upB, wn_upI, wn_x2, wn_x0, wn_xC, wn_xN, wn_xb, wn_xAnd, wn_xOr, wn_xNot, wn_xIf, wn_xCall, wn_xR1, wn_xR2, sn_nx, sn_rt, sn_bk, sn_ct, sn_seq, sn_set, sn_ret, sn_expr, sn_if, sn_for, sn_xSet, sn_xRet, sn_xExpr, sn_xIf, sn_xFor, sn_asg, sn_xAsg, sn_own, sn_xOwn, gv_zero, gv_succ, go_own, go_dat, go_succ, k0_def, gN_def, tru_bool, tru_none, tru_int, tru_list, asSeq_list, asSeq_tup, addV_int, subV_int, ltA_i, leA_i, gtA_i, geA_i, negV_int, intV_int, lenV_list, lenV_tup, ixV_list, ixV_tup, asInt_int, slV_list, slV_tup, slL_list, revV_tup, revV_list, tupleV_list, listV_list, listV_tup, eqV_str, neV_str, eqV_int, List.set_cons_zero, List.set_cons_succ, List.getElem?_cons_zero, List.getElem?_cons_succ, List.length_cons, List.length_nil, ↓reduceIte, Bool.false_eq_true, Bool.not_true, Bool.not_false, wn_ite, gT2, gT3, neV_tup, eqV_tup, in_tup, notin_tup', lineN_eq, Nat.reduceAdd, Nat.reduceLeDiff, Nat.zero_le, true_and, and_true, List.map_nil, List.map_cons, exists_eq_left', Option.some.injEq, PyData.list.injEq, exists_eq_left, PyData.int.injEq, R.ok.injEq, Sl.own.injEq]
  refine wn_setC (xs := it.map itD) (l := it.map (·.2)) (fun _ => true) (onIt fun p => .int p.2) (by simp only [wn_ok, wn_some, wn_only, wn_noex, wn_e2, wn_e1, wn_eN, wn_a0, wn_aC, wn_call, wn_tb, wn_tup, wn_lst, wn_andB, wn_orB, wn_notB, wn_andV, wn_orV, wn_notV, wn_ifV, wn_iA, wn_iR1, wn_iR2, wn_iZ, wn_iEn, wn_iRR, wn_sl, wn_p0, wn_p1, wn_up, wn_upB, wn_upI, wn_x2, wn_x0, wn_xC, wn_xN, wn_xb, wn_xAnd, wn_xOr, wn_xNot, wn_xIf, wn_xCall, wn_xR1, wn_xR2, sn_nx, sn_rt, sn_bk, sn_ct, sn_seq, sn_set, sn_ret, sn_expr, sn_if, sn_for, sn_xSet, sn_xRet, sn_xExpr, sn_xIf, sn_xFor, sn_asg, sn_xAsg, sn_own, sn_xOwn, gv_zero, gv_succ, go_own, go_dat, go_succ, k0_def, gN_def, tru_bool, tru_none, tru_int, tru_list, asSeq_list, asSeq_tup, addV_int, subV_int, ltA_i, leA_i, gtA_i, geA_i, negV_int, intV_int, lenV_list, lenV_tup, ixV_list, ixV_tup, asInt_int, slV_list, slV_tup, slL_list, revV_tup, revV_list, tupleV_list, listV_list, listV_tup, eqV_str, neV_str, eqV_int, List.set_cons_zero, List.set_cons_succ, List.getElem?_cons_zero, List.getElem?_cons_succ, List.length_cons, List.length_nil, ↓reduceIte, Bool.false_eq_true, Bool.not_true, Bool.not_false, wn_ite, gT2, gT3, neV_tup, eqV_tup, in_tup, notin_tup', lineN_eq, Nat.reduceAdd, Nat.reduceLeDiff, Nat.zero_le, true_and, and_true, List.map_nil, List.map_cons, exists_eq_left', Option.some.injEq, PyData.list.injEq, exists_eq_left, PyData.int.injEq, R.ok.injEq, Sl.own.injEq]) ?_ ?_ ?_ ?_
  · intro y m
    obtain ⟨p, mp, rfl⟩ := List.mem_map.mp m
    refine ⟨[.d (.list (it.map itD)), .d (tupI p.1), .d (.int p.2)], rfl, wn_ok.mpr ⟨rfl, fun _ => ?_⟩⟩
    simp only [wn_ok, wn_some, wn_only, wn_noex, wn_e2, wn_e1, wn_eN, wn_a0, wn_aC, wn_call, wn_tb, wn_tup, wn_lst, wn_andB, wn_orB, wn_notB, wn_andV, wn_orV, wn_notV, wn_ifV, wn_iA, wn_iR1, wn_iR2, wn_iZ, wn_iEn, wn_iRR, wn_sl, wn_p0, wn_p1, wn_up, wn_upB, wn_upI, wn_x2, wn_x0, wn_xC, wn_xN, wn_xb, wn_xAnd, wn_xOr, wn_xNot, wn_xIf, wn_xCall, wn_xR1, wn_xR2, sn_nx, sn_rt, sn_bk, sn_ct, sn_seq, sn_set, sn_ret, sn_expr, sn_if, sn_for, sn_xSet, sn_xRet, sn_xExpr, sn_xIf, sn_xFor, sn_asg, sn_xAsg, sn_own, sn_xOwn, gv_zero, gv_succ, go_own, go_dat, go_succ, k0_def, gN_def, tru_bool, tru_none, tru_int, tru_list, asSeq_list, asSeq_tup, addV_int, subV_int, ltA_i, leA_i, gtA_i, geA_i, negV_int, intV_int, lenV_list, lenV_tup, ixV_list, ixV_tup, asInt_int, slV_list, slV_tup, slL_list, revV_tup, revV_list, tupleV_list, listV_list, listV_tup, eqV_str, neV_str, eqV_int, List.set_cons_zero, List.set_cons_succ, List.getElem?_cons_zero, List.getElem?_cons_succ, List.length_cons, List.length_nil, ↓reduceIte, Bool.false_eq_true, Bool.not_true, Bool.not_false, wn_ite, gT2, gT3, neV_tup, eqV_tup, in_tup, notin_tup', lineN_eq, Nat.reduceAdd, Nat.reduceLeDiff, Nat.zero_le, true_and, and_true, List.map_nil, List.map_cons, exists_eq_left', Option.some.injEq, PyData.list.injEq, exists_eq_left, PyData.int.injEq, R.ok.injEq, Sl.own.injEq]
    rw [onIt_it]
  · rw [onIts, List.map_map]
    rfl
  · rw [List.length_map]; exact hl
  · have := sset_len (it.map (·.2))
    rw [List.length_map] at this
    simp only [wn_ok, wn_some, wn_only, wn_noex, wn_e2, wn_e1, wn_eN, wn_a0, wn_aC, wn_call, wn_tb, wn_tup, wn_lst, wn_andB, wn_orB, wn_notB, wn_andV, wn_orV, wn_notV, wn_ifV, wn_iA, wn_iR1, wn_iR2, wn_iZ, wn_iEn, wn_iRR, wn_sl, wn_p0, wn_p1, wn_up, wn_upB, wn_upI, wn_x2, wn_x0, wn_xC, wn_xN, wn_xb, wn_xAnd, wn_xOr, wn_xNot, wn_xIf, wn_xCall, wn_xR1, wn_xR2, sn_nx, sn_rt, sn_bk, sn_ct, sn_seq, sn_set, sn_ret, sn_expr, sn_if, sn_for, sn_xSet, sn_xRet, sn_xExpr, sn_xIf, sn_xFor, sn_asg, sn_xAsg, sn_own, sn_xOwn, gv_zero, gv_succ, go_own, go_dat, go_succ, k0_def, gN_def, tru_bool, tru_none, tru_int, tru_list, asSeq_list, asSeq_tup, addV_int, subV_int, ltA_i, leA_i, gtA_i, geA_i, negV_int, intV_int, lenV_list, lenV_tup, ixV_list, ixV_tup, asInt_int, slV_list, slV_tup, slL_list, revV_tup, revV_list, tupleV_list, listV_list, listV_tup, eqV_str, neV_str, eqV_int, List.set_cons_zero, List.set_cons_succ, List.getElem?_cons_zero, List.getElem?_cons_succ, List.length_cons, List.length_nil, ↓reduceIte, Bool.false_eq_true, Bool.not_true, Bool.not_false, wn_ite, gT2, gT3, neV_tup, eqV_tup, in_tup, notin_tup', lineN_eq, Nat.reduceAdd, Nat.reduceLeDiff, Nat.zero_le, true_and, and_true, List.map_nil, List.map_cons, exists_eq_left', Option.some.injEq, PyData.list.injEq, exists_eq_left, PyData.int.injEq, R.ok.injEq, Sl.own.injEq, sortSV_ints (a := sset (it.map (·.2))) (by omega)]
def atL (it : List Ih) (h : Int) : List Ih := it.filter fun p => decide (p.2 ≤ h)
theorem at_it1 (p : Ih) : ixV (itD p) (.int 1) = some (.int p.2) := rfl
theorem at_it0 (p : Ih) : ixV (itD p) (.int 0) = some (tupI p.1) := rfl
theorem at_ok {it : List Ih} {h : Int} (hl : it.length ≤ 4000) : F_shape_at [.list (it.map itD), .int h] = .ok (.list ((atL it h).map itD)) := by
  refine Wn.eq (wn_runD ?_)
  show Sn (G_shape_at [.d (.list (it.map itD)), .d (.int h), .no]) _ _ _ _
  unfold G_shape_at
  simp only [wn_ok, wn_some, wn_only, wn_noex, wn_e2, wn_e1, wn_eN, wn_a0, wn_aC, wn_call, wn_tb, wn_tup, wn_lst, wn_andB, wn_orB, wn_notB, wn_andV, wn_orV, wn_notV, wn_ifV, wn_iA, wn_iR1, wn_iR2, wn_iZ, wn_iEn, wn_iRR, wn_sl, wn_p0, wn_p1, wn_up, wn_upB, wn_upI, wn_x2, wn_x0, wn_xC, wn_xN, wn_xb, wn_xAnd, wn_xOr, wn_xNot, wn_xIf, wn_xCall, wn_xR1, wn_xR2, sn_nx, sn_rt, sn_bk, sn_ct, sn_seq, sn_set, sn_ret, sn_expr, sn_if, sn_for, sn_xSet, sn_xRet, sn_xExpr, sn_xIf, sn_xFor, sn_asg, sn_xAsg, sn_own, sn_xOwn, gv_zero, gv_succ, go_own, go_dat, go_succ, k0_def, gN_def, tru_bool, tru_none, tru_int, tru_list, asSeq_list, asSeq_tup, addV_int, subV_int, ltA_i, leA_i, gtA_i, geA_i, negV_int, intV_int, lenV_list, lenV_tup, ixV_list, ixV_tup, asInt_int, slV_list, slV_tup, slL_list, revV_tup, revV_list, tupleV_list, listV_list, listV_tup, eqV_str, neV_str, eqV_int, List.set_cons_zero, List.set_cons_succ, List.getElem?_cons_zero, List.getElem?_cons_succ, List.length_cons, List.length_nil, ↓reduceIte, Bool.false_eq_true, Bool.not_true, Bool.not_false, wn_ite, gT2, gT3, neV_tup, eqV_tup, in_tup, notin_tup', lineN_eq, Nat.reduceAdd, Nat.reduceLeDiff, Nat.zero_le, true_and, and_true, List.map_nil, List.map_cons, exists_eq_left', Option.some.injEq, PyData.list.injEq, exists_eq_left, PyData.int.injEq, R.ok.injEq, Sl.own.injEq]
  refine wn_comp (xs := it.map itD) (byIt fun p => decide (p.2 ≤ h)) (onIt itD) ?_ ?_ ?_ ?_
  · simp only [wn_ok, wn_some, wn_only, wn_noex, wn_e2, wn_e1, wn_eN, wn_a0, wn_aC, wn_call, wn_tb, wn_tup, wn_lst, wn_andB, wn_orB, wn_notB, wn_andV, wn_orV, wn_notV, wn_ifV, wn_iA, wn_iR1, wn_iR2, wn_iZ, wn_iEn, wn_iRR, wn_sl, wn_p0, wn_p1, wn_up, wn_upB, wn_upI, wn_x2, wn_x0, wn_xC, wn_xN, wn_xb, wn_xAnd, wn_xOr, wn_xNot, wn_xIf, wn_xCall, wn_xR1, wn_xR2, sn_nx, sn_rt, sn_bk, sn_ct, sn_seq, sn_set, sn_ret, sn_expr, sn_if, sn_for, sn_xSet, sn_xRet, sn_xExpr, sn_xIf, sn_xFor, sn_asg, sn_xAsg, sn_own, sn_xOwn, gv_zero, gv_succ, go_own, go_dat, go_succ, k0_def, gN_def, tru_bool, tru_none, tru_int, tru_list, asSeq_list, asSeq_tup, addV_int, subV_int, ltA_i, leA_i, gtA_i, geA_i, negV_int, intV_int, lenV_list, lenV_tup, ixV_list, ixV_tup, asInt_int, slV_list, slV_tup, slL_list, revV_tup, revV_list, tupleV_list, listV_list, listV_tup, eqV_str, neV_str, eqV_int, List.set_cons_zero, List.set_cons_succ, List.getElem?_cons_zero, List.getElem?_cons_succ, List.length_cons, List.length_nil, ↓reduceIte, Bool.false_eq_true, Bool.not_true, Bool.not_false, wn_ite, gT2, gT3, neV_tup, eqV_tup, in_tup, notin_tup', lineN_eq, Nat.reduceAdd, Nat.reduceLeDiff, Nat.zero_le, true_and, and_true, List.map_nil, List.map_cons, exists_eq_left', Option.some.injEq, PyData.list.injEq, exists_eq_left, PyData.int.injEq, R.ok.injEq, Sl.own.injEq]
  · intro y m
    obtain ⟨p, mp, rfl⟩ := List.mem_map.mp m
    refine ⟨[.d (.list (it.map itD)), .d (.int h), .d (itD p)], rfl, ?_⟩
    simp only [wn_ok, wn_some, wn_only, wn_noex, wn_e2, wn_e1, wn_eN, wn_a0, wn_aC, wn_call, wn_tb, wn_tup, wn_lst, wn_andB, wn_orB, wn_notB, wn_andV, wn_orV, wn_notV, wn_ifV, wn_iA, wn_iR1, wn_iR2, wn_iZ, wn_iEn, wn_iRR, wn_sl, wn_p0, wn_p1, wn_up, wn_upB, wn_upI, wn_x2, wn_x0, wn_xC, wn_xN, wn_xb, wn_xAnd, wn_xOr, wn_xNot, wn_xIf, wn_xCall, wn_xR1, wn_xR2, sn_nx, sn_rt, sn_bk, sn_ct, sn_seq, sn_set, sn_ret, sn_expr, sn_if, sn_for, sn_xSet, sn_xRet, sn_xExpr, sn_xIf, sn_xFor, sn_asg, sn_xAsg, sn_own, sn_xOwn, gv_zero, gv_succ, go_own, go_dat, go_succ, k0_def, gN_def, tru_bool, tru_none, tru_int, tru_list, asSeq_list, asSeq_tup, addV_int, subV_int, ltA_i, leA_i, gtA_i, geA_i, negV_int, intV_int, lenV_list, lenV_tup, ixV_list, ixV_tup, asInt_int, slV_list, slV_tup, slL_list, revV_tup, revV_list, tupleV_list, listV_list, listV_tup, eqV_str, neV_str, eqV_int, List.set_cons_zero, List.set_cons_succ, List.getElem?_cons_zero, List.getElem?_cons_succ, List.length_cons, List.length_nil, ↓reduceIte, Bool.false_eq_true, Bool.not_true, Bool.not_false, wn_ite, gT2, gT3, neV_tup, eqV_tup, in_tup, notin_tup', lineN_eq, Nat.reduceAdd, Nat.reduceLeDiff, Nat.zero_le, true_and, and_true, List.map_nil, List.map_cons, exists_eq_left', Option.some.injEq, PyData.list.injEq, exists_eq_left, PyData.int.injEq, R.ok.injEq, Sl.own.injEq, at_it1]
    exact ⟨by rw [byIt_it], fun _ => by rw [onIt_it]⟩
  · rw [List.length_map, lineN_eq]; omega
  · rw [byIts]
    rfl
def cnt (it : List Ih) (k : Nat) : Nat := (it.filter fun p => decide (p.1.length = k)).length
theorem cnt_count (k : Nat) : ∀ it : List Ih, (it.map fun p => ((p.1.length : Nat) : Int) - 1).count (((k : Nat) : Int) - 1) = cnt it k
  | [] => rfl
  | p :: it => by
    have ih := cnt_count k it
    have e : cnt (p :: it) k = (if p.1.length = k then cnt it k + 1 else cnt it k) := by
      unfold cnt
      rw [List.filter_cons]
      by_cases c : p.1.length = k
      · rw [decide_eq_true c, if_pos c]
        rfl
      · rw [decide_eq_false c, if_neg c]
        rfl
    rw [List.map_cons, List.count_cons, ih, e]
    by_cases c : p.1.length = k
    · rw [if_pos c, if_pos (by rw [c]; exact beq_self_eq_true _)]
    · rw [if_neg c, if_neg (by rw [beq_iff_eq]; omega)]
      rfl
def cntD (it : List Ih) : D := .tuple [.int (cnt it 1), .int (cnt it 2), .int (cnt it 3)]
theorem counts_ok {it : List Ih} (sm : ∀ p ∈ it, Smp p.1) (hl : it.length ≤ 4000) : F_counts_of [.list (it.map itD)] = .ok (cntD it) := by
  refine Wn.eq (wn_runD ?_)
  show Sn (G_counts_of [.d (.list (it.map itD)), .no, .no, .no]) _ _ _ _
  unfold G_counts_of
  simp only [wn_ok, wn_some, wn_only, wn_noex, wn_e2, wn_e1, wn_eN, wn_a0, wn_aC, wn_call, wn_tb, wn_tup, wn_lst, wn_andB, wn_orB, wn_notB, wn_andV, wn_orV, wn_notV, wn_ifV, wn_iA, wn_iR1, wn_iR2, wn_iZ, wn_iEn, wn_iRR, wn_sl, wn_p0, wn_p1, wn_up, wn_upB, wn_upI, wn_x2, wn_x0, wn_xC, wn_xN, wn_xb, wn_xAnd, wn_xOr, wn_xNot, wn_xIf, wn_xCall, wn_xR1, wn_xR2, sn_nx, sn_rt, sn_bk, sn_ct, sn_seq, sn_set, sn_ret, sn_expr, sn_if, sn_for, sn_xSet, sn_xRet, sn_xExpr, sn_xIf, sn_xFor, sn_asg, sn_xAsg, sn_own, sn_xOwn, gv_zero, gv_succ, go_own, go_dat, go_succ, k0_def, gN_def, tru_bool, tru_none, tru_int, tru_list, asSeq_list, asSeq_tup, addV_int, subV_int, ltA_i, leA_i, gtA_i, geA_i, negV_int, intV_int, lenV_list, lenV_tup, ixV_list, ixV_tup, asInt_int, slV_list, slV_tup, slL_list, revV_tup, revV_list, tupleV_list, listV_list, listV_tup, eqV_str, neV_str, eqV_int, List.set_cons_zero, List.set_cons_succ, List.getElem?_cons_zero, List.getElem?_cons_succ, List.length_cons, List.length_nil, ↓reduceIte, Bool.false_eq_true, Bool.not_true, Bool.not_false, wn_ite, gT2, gT3, neV_tup, eqV_tup, in_tup, notin_tup', lineN_eq, Nat.reduceAdd, Nat.reduceLeDiff, Nat.zero_le, true_and, and_true, List.map_nil, List.map_cons, exists_eq_left', Option.some.injEq, PyData.list.injEq, exists_eq_left, PyData.int.injEq, R.ok.injEq, Sl.own.injEq]
  refine wn_comp (xs := it.map itD) (fun _ => true) (onIt fun p => .int (((p.1.length : Nat) : Int) - 1)) ?_ ?_ ?_ ?_
  · simp only [wn_ok, wn_some, wn_only, wn_noex, wn_e2, wn_e1, wn_eN, wn_a0, wn_aC, wn_call, wn_tb, wn_tup, wn_lst, wn_andB, wn_orB, wn_notB, wn_andV, wn_orV, wn_notV, wn_ifV, wn_iA, wn_iR1, wn_iR2, wn_iZ, wn_iEn, wn_iRR, wn_sl, wn_p0, wn_p1, wn_up, wn_upB, wn_upI, wn_x2, wn_x0, wn_xC, wn_xN, wn_xb, wn_xAnd, wn_xOr, wn_xNot, wn_xIf, wn_xCall, wn_xR1, wn_xR2, sn_nx, sn_rt, sn_bk, sn_ct, sn_seq, sn_set, sn_ret, sn_expr, sn_if, sn_for, sn_xSet, sn_xRet, sn_xExpr, sn_xIf, sn_xFor, sn_asg, sn_xAsg, sn_own, sn_xOwn, gv_zero, gv_succ, go_own, go_dat, go_succ, k0_def, gN_def, tru_bool, tru_none, tru_int, tru_list, asSeq_list, asSeq_tup, addV_int, subV_int, ltA_i, leA_i, gtA_i, geA_i, negV_int, intV_int, lenV_list, lenV_tup, ixV_list, ixV_tup, asInt_int, slV_list, slV_tup, slL_list, revV_tup, revV_list, tupleV_list, listV_list, listV_tup, eqV_str, neV_str, eqV_int, List.set_cons_zero, List.set_cons_succ, List.getElem?_cons_zero, List.getElem?_cons_succ, List.length_cons, List.length_nil, ↓reduceIte, Bool.false_eq_true, Bool.not_true, Bool.not_false, wn_ite, gT2, gT3, neV_tup, eqV_tup, in_tup, notin_tup', lineN_eq, Nat.reduceAdd, Nat.reduceLeDiff, Nat.zero_le, true_and, and_true, List.map_nil, List.map_cons, exists_eq_left', Option.some.injEq, PyData.list.injEq, exists_eq_left, PyData.int.injEq, R.ok.injEq, Sl.own.injEq]
  · intro y m
    obtain ⟨p, mp, rfl⟩ := List.mem_map.mp m
    refine ⟨[.d (.list (it.map itD)), .no, .d (tupI p.1), .d (.int p.2)], rfl, wn_ok.mpr ⟨rfl, fun _ => ?_⟩⟩
    simp only [wn_ok, wn_some, wn_only, wn_noex, wn_e2, wn_e1, wn_eN, wn_a0, wn_aC, wn_call, wn_tb, wn_tup, wn_lst, wn_andB, wn_orB, wn_notB, wn_andV, wn_orV, wn_notV, wn_ifV, wn_iA, wn_iR1, wn_iR2, wn_iZ, wn_iEn, wn_iRR, wn_sl, wn_p0, wn_p1, wn_up, wn_upB, wn_upI, wn_x2, wn_x0, wn_xC, wn_xN, wn_xb, wn_xAnd, wn_xOr, wn_xNot, wn_xIf, wn_xCall, wn_xR1, wn_xR2, sn_nx, sn_rt, sn_bk, sn_ct, sn_seq, sn_set, sn_ret, sn_expr, sn_if, sn_for, sn_xSet, sn_xRet, sn_xExpr, sn_xIf, sn_xFor, sn_asg, sn_xAsg, sn_own, sn_xOwn, gv_zero, gv_succ, go_own, go_dat, go_succ, k0_def, gN_def, tru_bool, tru_none, tru_int, tru_list, asSeq_list, asSeq_tup, addV_int, subV_int, ltA_i, leA_i, gtA_i, geA_i, negV_int, intV_int, lenV_list, lenV_tup, ixV_list, ixV_tup, asInt_int, slV_list, slV_tup, slL_list, revV_tup, revV_list, tupleV_list, listV_list, listV_tup, eqV_str, neV_str, eqV_int, List.set_cons_zero, List.set_cons_succ, List.getElem?_cons_zero, List.getElem?_cons_succ, List.length_cons, List.length_nil, ↓reduceIte, Bool.false_eq_true, Bool.not_true, Bool.not_false, wn_ite, gT2, gT3, neV_tup, eqV_tup, in_tup, notin_tup', lineN_eq, Nat.reduceAdd, Nat.reduceLeDiff, Nat.zero_le, true_and, and_true, List.map_nil, List.map_cons, exists_eq_left', Option.some.injEq, PyData.list.injEq, exists_eq_left, PyData.int.injEq, R.ok.injEq, Sl.own.injEq, Cb.dim_ok (sm p mp)]
    rw [onIt_it]
  · rw [List.length_map, lineN_eq]; omega
  · rw [onIts]
    have e : (it.map fun p => PyData.int (((p.1.length : Nat) : Int) - 1)) = (it.map fun p => ((p.1.length : Nat) : Int) - 1).map PyData.int := by rw [List.map_map]; rfl
    rw [e]
    have cv : ∀ k : Nat, countV ((it.map fun p => ((p.1.length : Nat) : Int) - 1).map PyData.int) (.int (((k : Nat) : Int) - 1)) = some (.int (cnt it k)) := fun k => by
      unfold countV
      rw [ints?_map]
      show some (PyData.int _) = _
      rw [cnt_count]
    have c1 : countV ((it.map fun p => ((p.1.length : Nat) : Int) - 1).map PyData.int) (.int 0) = some (.int (cnt it 1)) := cv 1
    have c2 : countV ((it.map fun p => ((p.1.length : Nat) : Int) - 1).map PyData.int) (.int 1) = some (.int (cnt it 2)) := cv 2
    have c3 : countV ((it.map fun p => ((p.1.length : Nat) : Int) - 1).map PyData.int) (.int 2) = some (.int (cnt it 3)) := cv 3
    refine wn_m2 ?_
    simp only [wn_ok, wn_some, wn_only, wn_noex, wn_e2, wn_e1, wn_eN, wn_a0, wn_aC, wn_call, wn_tb, wn_tup, wn_lst, wn_andB, wn_orB, wn_notB, wn_andV, wn_orV, wn_notV, wn_ifV, wn_iA, wn_iR1, wn_iR2, wn_iZ, wn_iEn, wn_iRR, wn_sl, wn_p0, wn_p1, wn_up, wn_upB, wn_upI, wn_x2, wn_x0, wn_xC, wn_xN, wn_xb, wn_xAnd, wn_xOr, wn_xNot, wn_xIf, wn_xCall, wn_xR1, wn_xR2, sn_nx, sn_rt, sn_bk, sn_ct, sn_seq, sn_set, sn_ret, sn_expr, sn_if, sn_for, sn_xSet, sn_xRet, sn_xExpr, sn_xIf, sn_xFor, sn_asg, sn_xAsg, sn_own, sn_xOwn, gv_zero, gv_succ, go_own, go_dat, go_succ, k0_def, gN_def, tru_bool, tru_none, tru_int, tru_list, asSeq_list, asSeq_tup, addV_int, subV_int, ltA_i, leA_i, gtA_i, geA_i, negV_int, intV_int, lenV_list, lenV_tup, ixV_list, ixV_tup, asInt_int, slV_list, slV_tup, slL_list, revV_tup, revV_list, tupleV_list, listV_list, listV_tup, eqV_str, neV_str, eqV_int, List.set_cons_zero, List.set_cons_succ, List.getElem?_cons_zero, List.getElem?_cons_succ, List.length_cons, List.length_nil, ↓reduceIte, Bool.false_eq_true, Bool.not_true, Bool.not_false, wn_ite, gT2, gT3, neV_tup, eqV_tup, in_tup, notin_tup', lineN_eq, Nat.reduceAdd, Nat.reduceLeDiff, Nat.zero_le, true_and, and_true, List.map_nil, List.map_cons, exists_eq_left', Option.some.injEq, PyData.list.injEq, exists_eq_left, PyData.int.injEq, R.ok.injEq, Sl.own.injEq, c1]
    refine wn_m2 ?_
    simp only [wn_ok, wn_some, wn_only, wn_noex, wn_e2, wn_e1, wn_eN, wn_a0, wn_aC, wn_call, wn_tb, wn_tup, wn_lst, wn_andB, wn_orB, wn_notB, wn_andV, wn_orV, wn_notV, wn_ifV, wn_iA, wn_iR1, wn_iR2, wn_iZ, wn_iEn, wn_iRR, wn_sl, wn_p0, wn_p1, wn_up, wn_upB, wn_upI, wn_x2, wn_x0, wn_xC, wn_xN, wn_xb, wn_xAnd, wn_xOr, wn_xNot, wn_xIf, wn_xCall, wn_xR1, wn_xR2, sn_nx, sn_rt, sn_bk, sn_ct, sn_seq, sn_set, sn_ret, sn_expr, sn_if, sn_for, sn_xSet, sn_xRet, sn_xExpr, sn_xIf, sn_xFor, sn_asg, sn_xAsg, sn_own, sn_xOwn, gv_zero, gv_succ, go_own, go_dat, go_succ, k0_def, gN_def, tru_bool, tru_none, tru_int, tru_list, asSeq_list, asSeq_tup, addV_int, subV_int, ltA_i, leA_i, gtA_i, geA_i, negV_int, intV_int, lenV_list, lenV_tup, ixV_list, ixV_tup, asInt_int, slV_list, slV_tup, slL_list, revV_tup, revV_list, tupleV_list, listV_list, listV_tup, eqV_str, neV_str, eqV_int, List.set_cons_zero, List.set_cons_succ, List.getElem?_cons_zero, List.getElem?_cons_succ, List.length_cons, List.length_nil, ↓reduceIte, Bool.false_eq_true, Bool.not_true, Bool.not_false, wn_ite, gT2, gT3, neV_tup, eqV_tup, in_tup, notin_tup', lineN_eq, Nat.reduceAdd, Nat.reduceLeDiff, Nat.zero_le, true_and, and_true, List.map_nil, List.map_cons, exists_eq_left', Option.some.injEq, PyData.list.injEq, exists_eq_left, PyData.int.injEq, R.ok.injEq, Sl.own.injEq, c2]
    refine wn_m2 ?_
    simp only [wn_ok, wn_some, wn_only, wn_noex, wn_e2, wn_e1, wn_eN, wn_a0, wn_aC, wn_call, wn_tb, wn_tup, wn_lst, wn_andB, wn_orB, wn_notB, wn_andV, wn_orV, wn_notV, wn_ifV, wn_iA, wn_iR1, wn_iR2, wn_iZ, wn_iEn, wn_iRR, wn_sl, wn_p0, wn_p1, wn_up, wn_upB, wn_upI, wn_x2, wn_x0, wn_xC, wn_xN, wn_xb, wn_xAnd, wn_xOr, wn_xNot, wn_xIf, wn_xCall, wn_xR1, wn_xR2, sn_nx, sn_rt, sn_bk, sn_ct, sn_seq, sn_set, sn_ret, sn_expr, sn_if, sn_for, sn_xSet, sn_xRet, sn_xExpr, sn_xIf, sn_xFor, sn_asg, sn_xAsg, sn_own, sn_xOwn, gv_zero, gv_succ, go_own, go_dat, go_succ, k0_def, gN_def, tru_bool, tru_none, tru_int, tru_list, asSeq_list, asSeq_tup, addV_int, subV_int, ltA_i, leA_i, gtA_i, geA_i, negV_int, intV_int, lenV_list, lenV_tup, ixV_list, ixV_tup, asInt_int, slV_list, slV_tup, slL_list, revV_tup, revV_list, tupleV_list, listV_list, listV_tup, eqV_str, neV_str, eqV_int, List.set_cons_zero, List.set_cons_succ, List.getElem?_cons_zero, List.getElem?_cons_succ, List.length_cons, List.length_nil, ↓reduceIte, Bool.false_eq_true, Bool.not_true, Bool.not_false, wn_ite, gT2, gT3, neV_tup, eqV_tup, in_tup, notin_tup', lineN_eq, Nat.reduceAdd, Nat.reduceLeDiff, Nat.zero_le, true_and, and_true, List.map_nil, List.map_cons, exists_eq_left', Option.some.injEq, PyData.list.injEq, exists_eq_left, PyData.int.injEq, R.ok.injEq, Sl.own.injEq, c3]
    rfl
def eul (it : List Ih) : Int := (cnt it 1 : Nat) - (cnt it 2 : Nat) + (cnt it 3 : Nat)
theorem euler_ok {it : List Ih} (sm : ∀ p ∈ it, Smp p.1) (hl : it.length ≤ 4000) : F_euler_of [.list (it.map itD)] = .ok (.int (eul it)) := by
  refine Wn.eq (wn_runD ?_)
  show Sn (G_euler_of [.d (.list (it.map itD)), .no, .no, .no]) _ _ _ _
  unfold G_euler_of
  simp only [wn_ok, wn_some, wn_only, wn_noex, wn_e2, wn_e1, wn_eN, wn_a0, wn_aC, wn_call, wn_tb, wn_tup, wn_lst, wn_andB, wn_orB, wn_notB, wn_andV, wn_orV, wn_notV, wn_ifV, wn_iA, wn_iR1, wn_iR2, wn_iZ, wn_iEn, wn_iRR, wn_sl, wn_p0, wn_p1, wn_up, wn_upB, wn_upI, wn_x2, wn_x0, wn_xC, wn_xN, wn_xb, wn_xAnd, wn_xOr, wn_xNot, wn_xIf, wn_xCall, wn_xR1, wn_xR2, sn_nx, sn_rt, sn_bk, sn_ct, sn_seq, sn_set, sn_ret, sn_expr, sn_if, sn_for, sn_xSet, sn_xRet, sn_xExpr, sn_xIf, sn_xFor, sn_asg, sn_xAsg, sn_own, sn_xOwn, gv_zero, gv_succ, go_own, go_dat, go_succ, k0_def, gN_def, tru_bool, tru_none, tru_int, tru_list, asSeq_list, asSeq_tup, addV_int, subV_int, ltA_i, leA_i, gtA_i, geA_i, negV_int, intV_int, lenV_list, lenV_tup, ixV_list, ixV_tup, asInt_int, slV_list, slV_tup, slL_list, revV_tup, revV_list, tupleV_list, listV_list, listV_tup, eqV_str, neV_str, eqV_int, List.set_cons_zero, List.set_cons_succ, List.getElem?_cons_zero, List.getElem?_cons_succ, List.length_cons, List.length_nil, ↓reduceIte, Bool.false_eq_true, Bool.not_true, Bool.not_false, wn_ite, gT2, gT3, neV_tup, eqV_tup, in_tup, notin_tup', lineN_eq, Nat.reduceAdd, Nat.reduceLeDiff, Nat.zero_le, true_and, and_true, List.map_nil, List.map_cons, exists_eq_left', Option.some.injEq, PyData.list.injEq, exists_eq_left, PyData.int.injEq, R.ok.injEq, Sl.own.injEq, counts_ok sm hl]
  rw [show cntD it = .tuple [.int (cnt it 1), .int (cnt it 2), .int (cnt it 3)] from rfl, gT3]
  refine ⟨_, rfl, ?_⟩
  simp only [wn_ok, wn_some, wn_only, wn_noex, wn_e2, wn_e1, wn_eN, wn_a0, wn_aC, wn_call, wn_tb, wn_tup, wn_lst, wn_andB, wn_orB, wn_notB, wn_andV, wn_orV, wn_notV, wn_ifV, wn_iA, wn_iR1, wn_iR2, wn_iZ, wn_iEn, wn_iRR, wn_sl, wn_p0, wn_p1, wn_up, wn_upB, wn_upI, wn_x2, wn_x0, wn_xC, wn_xN, wn_xb, wn_xAnd, wn_xOr, wn_xNot, wn_xIf, wn_xCall, wn_xR1, wn_xR2, sn_nx, sn_rt, sn_bk, sn_ct, sn_seq, sn_set, sn_ret, sn_expr, sn_if, sn_for, sn_xSet, sn_xRet, sn_xExpr, sn_xIf, sn_xFor, sn_asg, sn_xAsg, sn_own, sn_xOwn, gv_zero, gv_succ, go_own, go_dat, go_succ, k0_def, gN_def, tru_bool, tru_none, tru_int, tru_list, asSeq_list, asSeq_tup, addV_int, subV_int, ltA_i, leA_i, gtA_i, geA_i, negV_int, intV_int, lenV_list, lenV_tup, ixV_list, ixV_tup, asInt_int, slV_list, slV_tup, slL_list, revV_tup, revV_list, tupleV_list, listV_list, listV_tup, eqV_str, neV_str, eqV_int, List.set_cons_zero, List.set_cons_succ, List.getElem?_cons_zero, List.getElem?_cons_succ, List.length_cons, List.length_nil, ↓reduceIte, Bool.false_eq_true, Bool.not_true, Bool.not_false, wn_ite, gT2, gT3, neV_tup, eqV_tup, in_tup, notin_tup', lineN_eq, Nat.reduceAdd, Nat.reduceLeDiff, Nat.zero_le, true_and, and_true, List.map_nil, List.map_cons, exists_eq_left', Option.some.injEq, PyData.list.injEq, exists_eq_left, PyData.int.injEq, R.ok.injEq, Sl.own.injEq]
  rfl
theorem eq_its {it : List Ih} (h : Shp it) (hl : it.length ≤ 60) : eqV' (.list (it.map itD)) (.list (it.map itD)) = some (.bool true) := by
  have f := (fine_shape h hl).shaped (by decide)
  show (if SeqAt.shaped (.list (it.map itD)) = true ∧ SeqAt.shaped (.list (it.map itD)) = true then some (PyData.bool (PyData.eqv (.list (it.map itD)) (.list (it.map itD)))) else none) = _
  rw [if_pos ⟨f, f⟩]
  have e : PyData.eqv (.list (it.map itD)) (.list (it.map itD)) = true := by
    have := eqv_its it
    simpa [PyData.eqv] using this
  rw [e]
end Sc
end Bd
namespace Bd
open PySem L2
/-- dimension_of: 0 simplex -/
def G_dimension_of : Nv → Rs :=
    (seqS (retS (e2 subV (eN lenV (aC (gv 0) a0)) (k0 (.int 1))))
    .nx)
def F_dimension_of : List D → R D := runD 1 (.ok .none) G_dimension_of
/-- heights_of: 0 shape, 1 simplex, 2 height -/
def G_heights_of : Nv → Rs :=
    (seqS (retS (e1 sortSV (setCE (iA (gv 0)) (gT 2 (gsC (gN 1) (gsC (gN 2) gs0))) (fun _ => .ok true) (gv 2) [1, 2])))
    .nx)
def F_heights_of : List D → R D := runD 3 .no G_heights_of
/-- shape_at: 0 shape, 1 height, 2 item -/
def G_shape_at : Nv → Rs :=
    (seqS (retS (compE (iA (gv 0)) (gN 2) (tb (e2 leA (e2 ixV (gv 2) (k0 (.int 1))) (gv 1))) (gv 2) [2]))
    .nx)
def F_shape_at : List D → R D := runD 3 .no G_shape_at
/-- counts_of: 0 shape, 1 dimensions, 2 simplex, 3 height -/
def G_counts_of : Nv → Rs :=
    (seqS (setS 1 (compE (iA (gv 0)) (gT 2 (gsC (gN 2) (gsC (gN 3) gs0))) (fun _ => .ok true) (callV F_dimension_of (aC (gv 2) a0)) [2, 3]))
    (seqS (retS (tupV (aC (m2 countV (gv 1) (k0 (.int 0))) (aC (m2 countV (gv 1) (k0 (.int 1))) (aC (m2 countV (gv 1) (k0 (.int 2))) a0)))))
    .nx))
def F_counts_of : List D → R D := runD 4 (.ok .none) G_counts_of
/-- euler_of: 0 shape, 1 vertices, 2 edges, 3 triangles -/
def G_euler_of : Nv → Rs :=
    (seqS (asgS (gT 3 (gsC (gN 1) (gsC (gN 2) (gsC (gN 3) gs0)))) (callV F_counts_of (aC (gv 0) a0)))
    (seqS (retS (e2 addV (e2 subV (gv 1) (gv 2)) (gv 3)))
    .nx))
def F_euler_of : List D → R D := runD 4 (.ok .none) G_euler_of
/-- euler_steps: 0 shape, 1 height -/
def G_euler_steps : Nv → Rs :=
    (seqS (retS (compE (iA (callV F_heights_of (aC (gv 0) a0))) (gN 1) (fun _ => .ok true) (tupV (aC (gv 1) (aC (callV F_euler_of (aC (callV F_shape_at (aC (gv 0) (aC (gv 1) a0))) a0)) a0))) [1]))
    .nx)
def F_euler_steps : List D → R D := runD 2 .no G_euler_steps
/-- _law_cell: 0 script, 1 k -/
def G__law_cell : Nv → Rs :=
    (seqS (ifS (tb (e2 ltA (gv 1) (eN lenV (aC (gv 0) a0)))) (seqS (retS (e2 ixV (gv 0) (gv 1)))
    .nx) .nx)
    (seqS (retS (k0 (.int 0)))
    .nx))
def F__law_cell : List D → R D := runD 2 (.ok .none) G__law_cell
/-- _law_row: 0 cell, 1 count, 2 base, 3 row, 4 k, 5 number -/
def G__law_row : Nv → Rs :=
    (seqS (ownS 3 (lstV a0))
    (seqS (forS (iR1 (aC (gv 1) a0)) (gN 4) (seqS (ifS (tb (e2 geA (gv 0) (e2 powV (k0 (.int 10)) (k0 (.int 18))))) (seqS (appS 3 (e2 modV (eN intV (aC (gv 0) a0)) (gv 2)))
    (seqS (setS 0 (e2 fdivV (gv 0) (gv 2)))
    .nx)) (seqS (setS 5 (e2 modV (eN intV (aC (e2 addV (e2 addV (e2 mulV (gv 0) (k0 (.int 48271))) (e2 mulV (gv 4) (k0 (.int 69621)))) (k0 (.int 12345))) a0)) (k0 (.int 2147483647))))
    (seqS (setS 5 (e2 modV (eN intV (aC (e2 addV (e2 addV (e2 mulV (gv 5) (gv 5)) (e2 mulV (k0 (.int 16807)) (gv 4))) (k0 (.int 7))) a0)) (k0 (.int 998244353))))
    (seqS (setS 5 (e2 modV (eN intV (aC (e2 addV (e2 addV (e2 mulV (gv 5) (gv 5)) (e2 mulV (k0 (.int 48271)) (gv 4))) (gv 0)) a0)) (k0 (.int 2147483629))))
    (seqS (appS 3 (e2 modV (eN intV (aC (e2 fdivV (gv 5) (k0 (.int 13))) a0)) (gv 2)))
    .nx)))))
    .nx))
    (seqS (retO 3)
    .nx)))
def F__law_row : List D → R D := runD 6 .no G__law_row
/-- _law_faces: 0 simplex, 1 k -/
def G__law_faces : Nv → Rs :=
    (seqS (ifS (tb (e2 eqV' (eN lenV (aC (gv 0) a0)) (k0 (.int 1)))) (seqS (retS (lstV a0))
    .nx) .nx)
    (seqS (retS (compE (iA (slE slV (lstV (aC (k0 (.int 2)) (aC (k0 (.int 1)) (aC (k0 (.int 0)) a0)))) (p1 (e2 subV (k0 (.int 3)) (eN lenV (aC (gv 0) a0)))) p0)) (gN 1) (fun _ => .ok true) (e2 addV (slE slV (gv 0) p0 (p1 (gv 1))) (slE slV (gv 0) (p1 (e2 addV (gv 1) (k0 (.int 1)))) p0)) [1]))
    .nx))
def F__law_faces : List D → R D := runD 2 .no G__law_faces
/-- _law_parts: 0 names, 1 found, 2 bits, 3 j -/
def G__law_parts : Nv → Rs :=
    (seqS (ownS 1 (lstV a0))
    (seqS (forS (iR2 (aC (k0 (.int 1)) (aC (e2 ixV (lstV (aC (k0 (.int 2)) (aC (k0 (.int 4)) (aC (k0 (.int 8)) a0)))) (e2 subV (eN lenV (aC (gv 0) a0)) (k0 (.int 1)))) a0))) (gN 2) (seqS (appS 1 (eN tupleV (aC (compE (iR1 (aC (eN lenV (aC (gv 0) a0)) a0)) (gN 3) (tb (e2 eqV' (e2 modV (eN intV (aC (e2 fdivV (gv 2) (e2 ixV (lstV (aC (k0 (.int 1)) (aC (k0 (.int 2)) (aC (k0 (.int 4)) a0)))) (gv 3))) a0)) (k0 (.int 2))) (k0 (.int 1)))) (e2 ixV (gv 0) (gv 3)) [3]) a0)))
    .nx))
    (seqS (retO 1)
    .nx)))
def F__law_parts : List D → R D := runD 4 .no G__law_parts
/-- _law_closed: 0 row, 1 cell, 2 count, 3 step, 4 shift, 5 found, 6 k, 7 part, 8 picked, 9 names, 10 simplex, 11 size, 12 j -/
def G__law_closed : Nv → Rs :=
    (seqS (setS 3 (e2 addV (k0 (.int 1)) (e2 modV (eN intV (aC (e2 ixV (gv 0) (k0 (.int 0))) a0)) (k0 (.int 2)))))
    (seqS (setS 4 (e2 modV (eN intV (aC (e2 ixV (gv 0) (k0 (.int 1))) a0)) (e2 ixV (lstV (aC (k0 (.int 7)) (aC (k0 (.int 2)) a0))) (e2 subV (gv 3) (k0 (.int 1))))))
    (seqS (ownS 5 (lstV a0))
    (seqS (forS (iR1 (aC (gv 2) a0)) (gN 6) (seqS (setS 7 (callV F__law_row (aC (e2 addV (eN intV (aC (gv 1) a0)) (e2 mulV (k0 (.int 1009)) (gv 6))) (aC (k0 (.int 4)) (aC (k0 (.int 720)) a0)))))
    (seqS (setS 8 (compE (iR1 (aC (e2 addV (k0 (.int 1)) (e2 modV (eN intV (aC (e2 ixV (gv 7) (k0 (.int 3))) a0)) (k0 (.int 3)))) a0)) (gN 12) (fun _ => .ok true) (e2 addV (gv 4) (e2 mulV (gv 3) (e2 modV (eN intV (aC (e2 ixV (gv 7) (gv 12)) a0)) (k0 (.int 6))))) [12]))
    (seqS (setS 9 (eN sortAV (aC (compE (iR1 (aC (eN lenV (aC (gv 8) a0)) a0)) (gN 12) (tb (e2 ninV' (e2 ixV (gv 8) (gv 12)) (slE slV (gv 8) p0 (p1 (gv 12))))) (e2 ixV (gv 8) (gv 12)) [12]) a0)))
    (seqS (forS (iA (callV F__law_parts (aC (gv 9) a0))) (gN 10) (seqS (ifS (tb (e2 ninV' (tupV (aC (eN lenV (aC (gv 10) a0)) (aC (gv 10) a0))) (go 5))) (seqS (appS 5 (tupV (aC (eN lenV (aC (gv 10) a0)) (aC (gv 10) a0))))
    .nx) .nx)
    .nx))
    .nx)))))
    (seqS (frzS 5)
    (seqS (retS (compE (iA (eN sortAV (aC (gv 5) a0))) (gT 2 (gsC (gN 11) (gsC (gN 10) gs0))) (fun _ => .ok true) (gv 10) [11, 10]))
    .nx))))))
def F__law_closed : List D → R D := runD 13 .no G__law_closed
/-- _law_shape: 0 script, 1 start, 2 row, 3 heights, 4 wide, 5 low, 6 shape, 7 simplex, 8 more, 9 height, 10 face -/
def G__law_shape : Nv → Rs :=
    (seqS (setS 2 (callV F__law_row (aC (callV F__law_cell (aC (gv 0) (aC (gv 1) a0))) (aC (k0 (.int 5)) (aC (k0 (.int 5040)) a0)))))
    (seqS (newZ 3)
    (seqS (setS 4 (e2 ixV (lstV (aC (k0 (.int 1)) (aC (k0 (.int 4)) (aC (k0 (.int 40)) (aC (k0 (.int 300)) a0))))) (e2 modV (eN intV (aC (e2 ixV (gv 2) (k0 (.int 3))) a0)) (k0 (.int 4)))))
    (seqS (setS 5 (e2 subV (e2 modV (eN intV (aC (callV F__law_cell (aC (gv 0) (aC (e2 addV (gv 1) (k0 (.int 2))) a0))) a0)) (k0 (.int 1201))) (k0 (.int 600))))
    (seqS (ownS 6 (lstV a0))
    (seqS (forS (iA (callV F__law_closed (aC (gv 2) (aC (callV F__law_cell (aC (gv 0) (aC (e2 addV (gv 1) (k0 (.int 1))) a0))) (aC (e2 modV (eN intV (aC (e2 ixV (gv 2) (k0 (.int 2))) a0)) (k0 (.int 7))) a0))))) (gN 7) (seqS (setS 8 (e2 ixV (callV F__law_row (aC (e2 addV (eN intV (aC (callV F__law_cell (aC (gv 0) (aC (e2 addV (gv 1) (k0 (.int 3))) a0))) a0)) (e2 mulV (k0 (.int 1009)) (eN lenV (aC (go 6) a0)))) (aC (k0 (.int 1)) (aC (k0 (.int 720)) a0)))) (k0 (.int 0))))
    (seqS (setS 9 (eN minV (aC (k0 (.int 1000)) (aC (e2 addV (eN maxV (aC (e2 addV (lstV (aC (gv 5) a0)) (compE (iA (callV F__law_faces (aC (gv 7) a0))) (gN 10) (fun _ => .ok true) (zgetD 3 (gv 10)) [10])) a0)) (e2 modV (eN intV (aC (gv 8) a0)) (gv 4))) a0))))
    (seqS (xZPut 3 (up (gv 9)) (gv 7))
    (seqS (appS 6 (tupV (aC (gv 7) (aC (gv 9) a0))))
    .nx)))))
    (seqS (frzS 6)
    (seqS (ifS (tb (e2 eqV' (e2 modV (eN intV (aC (e2 ixV (gv 2) (k0 (.int 4))) a0)) (k0 (.int 3))) (k0 (.int 1)))) (seqS (setS 6 (e1 revV (gv 6)))
    .nx) .nx)
    (seqS (ifS (tb (e2 eqV' (e2 modV (eN intV (aC (e2 ixV (gv 2) (k0 (.int 4))) a0)) (k0 (.int 3))) (k0 (.int 2)))) (seqS (setS 6 (e2 addV (e1 (step2V 1) (gv 6)) (e1 (step2V 0) (gv 6))))
    .nx) .nx)
    (seqS (retS (gv 6))
    .nx))))))))))
def F__law_shape : List D → R D := runD 11 (.ok .none) G__law_shape
/-- _law_counts: 0 shape, 1 size, 2 simplex, 3 height -/
def G__law_counts : Nv → Rs :=
    (seqS (retS (eN tupleV (aC (compE (iA (lstV (aC (k0 (.int 1)) (aC (k0 (.int 2)) (aC (k0 (.int 3)) a0))))) (gN 1) (fun _ => .ok true) (eN lenV (aC (compE (iA (gv 0)) (gT 2 (gsC (gN 2) (gsC (gN 3) gs0))) (tb (e2 eqV' (eN lenV (aC (gv 2) a0)) (gv 1))) (k0 (.int 1)) [2, 3]) a0)) [1]) a0)))
    .nx)
def F__law_counts : List D → R D := runD 4 (.ok .none) G__law_counts
/-- _law_euler: 0 shape, 1 counts -/
def G__law_euler : Nv → Rs :=
    (seqS (setS 1 (callV F__law_counts (aC (gv 0) a0)))
    (seqS (retS (e2 addV (e2 subV (e2 ixV (gv 1) (k0 (.int 0))) (e2 ixV (gv 1) (k0 (.int 1)))) (e2 ixV (gv 1) (k0 (.int 2)))))
    .nx))
def F__law_euler : List D → R D := runD 2 (.ok .none) G__law_euler
/-- law: 0 script, 1 shape, 2 given, 3 heights, 4 simplex, 5 height, 6 pool, 7 level, 8 told, 9 due, 10 item -/
def G_law : Nv → Rs :=
    (seqS (setS 1 (callV F__law_shape (aC (gv 0) (aC (k0 (.int 0)) a0))))
    (seqS (setS 2 (eN listV (aC (gv 1) a0)))
    (seqS (setS 3 (lstV a0))
    (seqS (forS (iA (gv 1)) (gT 2 (gsC (gN 4) (gsC (gN 5) gs0))) (seqS (ifS (tb (e2 ninV' (gv 5) (gv 3))) (seqS (setS 3 (eN sortAV (aC (e2 addV (gv 3) (lstV (aC (gv 5) a0))) a0)))
    .nx) .nx)
    .nx))
    (seqS (ifS (orB (tb (e2 neV' (eN reprV (aC (callV F_heights_of (aC (gv 2) a0)) a0)) (eN reprV (aC (gv 3) a0)))) (tb (e2 neV' (eN reprV (aC (callV F_counts_of (aC (gv 2) a0)) a0)) (eN reprV (aC (callV F__law_counts (aC (gv 1) a0)) a0))))) (seqS (retS (k0 (.bool false)))
    .nx) .nx)
    (seqS (setS 6 (e2 addV (gv 3) (lstV (aC (e1 negV (k0 (.int 1000))) (aC (k0 (.int 1000)) (aC (k0 (.int 0)) (aC (e1 negV (k0 (.int 1001))) (aC (e2 subV (e2 modV (eN intV (aC (callV F__law_cell (aC (gv 0) (aC (k0 (.int 5)) a0))) a0)) (k0 (.int 2401))) (k0 (.int 1200))) (aC (eN intV (aC (callV F__law_cell (aC (gv 0) (aC (k0 (.int 6)) a0))) a0)) a0)))))))))
    (seqS (setS 7 (e2 ixV (gv 6) (e2 modV (eN intV (aC (callV F__law_cell (aC (gv 0) (aC (k0 (.int 4)) a0))) a0)) (eN lenV (aC (gv 6) a0)))))
    (seqS (ownS 8 (callV F_shape_at (aC (gv 2) (aC (gv 7) a0))))
    (seqS (ifS (orB (tb (e2 neV' (eN reprV (aC (go 8) a0)) (eN reprV (aC (compE (iA (gv 1)) (gN 10) (tb (e2 leA (e2 ixV (gv 10) (k0 (.int 1))) (gv 7))) (gv 10) [10]) a0)))) (tb (e2 neV' (eN reprV (aC (callV F_euler_of (aC (gv 2) a0)) a0)) (eN reprV (aC (callV F__law_euler (aC (gv 1) a0)) a0))))) (seqS (retS (k0 (.bool false)))
    .nx) .nx)
    (seqS (appS 8 (k0 (.str "spoilt")))
    (seqS (setS 9 (compE (iA (gv 3)) (gN 5) (fun _ => .ok true) (tupV (aC (gv 5) (aC (callV F__law_euler (aC (compE (iA (gv 1)) (gN 10) (tb (e2 leA (e2 ixV (gv 10) (k0 (.int 1))) (gv 5))) (gv 10) [10]) a0)) a0))) [5]))
    (seqS (retS (andV (e2 eqV' (eN reprV (aC (callV F_euler_steps (aC (gv 2) a0)) a0)) (eN reprV (aC (gv 9) a0))) (e2 eqV' (gv 2) (gv 1))))
    .nx))))))))))))
def F_law : List D → R D := runD 11 (.ok .none) G_law
def topS (i : Nat) : Stmt := PySem.Challenge.pw_barstay_k06_shapes_at_heights.main.body.getD i (.Pass ⟨0, 0, 0, 0⟩)
structure Zs (mg : Str → Option Value) : Prop where
  b_int : mg "int" = none
  b_len : mg "len" = none
  b_list : mg "list" = none
  b_max : mg "max" = none
  b_min : mg "min" = none
  b_range : mg "range" = none
  b_repr : mg "repr" = none
  b_sorted : mg "sorted" = none
  b_tuple : mg "tuple" = none
section
variable {P : Program} {w : World} {K : PySem.W.Frag} {mg : Str → Option Value} {base : Heap}
abbrev s_dimension_of : Stmt := topS 1
theorem sc_dimension_of : FnScope ["simplex"] ["simplex"] (defScope s_dimension_of) := ⟨rfl, rfl, rfl, by decide +kernel, rfl, by decide +kernel, by decide +kernel⟩
set_option maxHeartbeats 400000 in
theorem ok_dimension_of {f : Addr} {fd : FuncData} (F : Fun K "dimension_of" "dimension_of" s_dimension_of f fd) (z : Zs mg) (gm : mg "dimension_of" = some (.ref f)) : Df P w K mg base 1 "dimension_of" 1 (rD K) F_dimension_of := by
  have bb : Binds K fd ["simplex"] [] := F.binds fun _ _ _ _ _ _ us hl => (match us, hl with | [_], _ => rfl)
  refine ⟨f, fd, ["simplex"], ?_, bb, gm, F.kp⟩
  suffices body : ∀ (cdv : Value) (A : Around) (outer : List PySem.Env) (s : Shared) (H : Hp) (E : XK) (A0 : List Addr), Room 0 (A.deeper (PyProof.Rows.envOfC "dimension_of" (defScope s_dimension_of) s.heap.objs.size f cdv)) → A.guards = some [] →
      TSs (cxOf (L2.CX P w) P w K mg base ["simplex"] "dimension_of" (defScope s_dimension_of) f cdv A outer s H E) ⟨fun cls d _ H => E cls d H, rD K, [], H, A0⟩ (defBody s_dimension_of) G_dimension_of by
    exact fn_rule (k := 0) (G := G_dimension_of) (N := ["simplex"]) (ps := ["simplex"]) (rl := rD K) (fall := .ok .none) F sc_dimension_of (.inl ⟨rfl, rfl⟩) body
  intro cdv A outer s H E A0 hr hg
  have hN := sc_dimension_of.nd
  have hu := hr.un
  have u64 : (A.deeper (PyProof.Rows.envOfC "dimension_of" (defScope s_dimension_of) s.heap.objs.size f cdv)).units + 64 < cLine := by omega
  have u65 : (A.deeper (PyProof.Rows.envOfC "dimension_of" (defScope s_dimension_of) s.heap.objs.size f cdv)).units + 65 < cLine := by omega
  have u66 : (A.deeper (PyProof.Rows.envOfC "dimension_of" (defScope s_dimension_of) s.heap.objs.size f cdv)).units + 66 < cLine := by omega
  have tk : Takes (cxOf (L2.CX P w) P w K mg base ["simplex"] "dimension_of" (defScope s_dimension_of) f cdv A outer s H E) (fun cls d _ H => E cls d H) := takes_of rfl rfl rfl rfl
  have hp : PassesOwn (model P w) (cxOf (L2.CX P w) P w K mg base ["simplex"] "dimension_of" (defScope s_dimension_of) f cdv A outer s H E).A (cxOf (L2.CX P w) P w K mg base ["simplex"] "dimension_of" (defScope s_dimension_of) f cdv A outer s H E).env (cxOf (L2.CX P w) P w K mg base ["simplex"] "dimension_of" (defScope s_dimension_of) f cdv A outer s H E).xe := passes_of (X := cxOf (L2.CX P w) P w K mg base ["simplex"] "dimension_of" (defScope s_dimension_of) f cdv A outer s H E) rfl
  exact ss_cons (s_ret (t_op back_D op_sub o_sub (TD.o (t_len z.b_len (as_cons keeps_O (TO.v (TD.o (t_var 0))) (as_nil)))) (TD.o (t_int))) rfl)
    (ss_nil)
abbrev s_heights_of : Stmt := topS 3
theorem sc_heights_of : FnScope ["shape", "simplex", "height"] ["shape"] (defScope s_heights_of) := ⟨rfl, rfl, rfl, by decide +kernel, rfl, by decide +kernel, by decide +kernel⟩
set_option maxHeartbeats 400000 in
theorem ok_heights_of {f : Addr} {fd : FuncData} (F : Fun K "heights_of" "heights_of" s_heights_of f fd) (z : Zs mg) (gm : mg "heights_of" = some (.ref f)) : Df P w K mg base 1 "heights_of" 1 (rF K) F_heights_of := by
  have bb : Binds K fd ["shape"] [] := F.binds fun _ _ _ _ _ _ us hl => (match us, hl with | [_], _ => rfl)
  refine ⟨f, fd, ["shape"], ?_, bb, gm, F.kp⟩
  suffices body : ∀ (cdv : Value) (A : Around) (outer : List PySem.Env) (s : Shared) (H : Hp) (E : XK) (A0 : List Addr), Room 0 (A.deeper (PyProof.Rows.envOfC "heights_of" (defScope s_heights_of) s.heap.objs.size f cdv)) → A.guards = some [] →
      TSs (cxOf (L2.CX P w) P w K mg base ["shape", "simplex", "height"] "heights_of" (defScope s_heights_of) f cdv A outer s H E) ⟨fun cls d _ H => E cls d H, rF K, [], H, A0⟩ (defBody s_heights_of) G_heights_of by
    exact fn_rule (k := 0) (G := G_heights_of) (N := ["shape", "simplex", "height"]) (ps := ["shape"]) (rl := rF K) (fall := .no) F sc_heights_of (.inr rfl) body
  intro cdv A outer s H E A0 hr hg
  have hN := sc_heights_of.nd
  have hu := hr.un
  have u64 : (A.deeper (PyProof.Rows.envOfC "heights_of" (defScope s_heights_of) s.heap.objs.size f cdv)).units + 64 < cLine := by omega
  have u65 : (A.deeper (PyProof.Rows.envOfC "heights_of" (defScope s_heights_of) s.heap.objs.size f cdv)).units + 65 < cLine := by omega
  have u66 : (A.deeper (PyProof.Rows.envOfC "heights_of" (defScope s_heights_of) s.heap.objs.size f cdv)).units + 66 < cLine := by omega
  have tk : Takes (cxOf (L2.CX P w) P w K mg base ["shape", "simplex", "height"] "heights_of" (defScope s_heights_of) f cdv A outer s H E) (fun cls d _ H => E cls d H) := takes_of rfl rfl rfl rfl
  have hp : PassesOwn (model P w) (cxOf (L2.CX P w) P w K mg base ["shape", "simplex", "height"] "heights_of" (defScope s_heights_of) f cdv A outer s H E).A (cxOf (L2.CX P w) P w K mg base ["shape", "simplex", "height"] "heights_of" (defScope s_heights_of) f cdv A outer s H E).env (cxOf (L2.CX P w) P w K mg base ["shape", "simplex", "height"] "heights_of" (defScope s_heights_of) f cdv A outer s H E).xe := passes_of (X := cxOf (L2.CX P w) P w K mg base ["shape", "simplex", "height"] "heights_of" (defScope s_heights_of) f cdv A outer s H E) rfl
  exact ss_cons (s_retF (t_sortS z.b_sorted (t_setC rfl hN (i_any (t_var 0)) (blkOk_by (N := ["shape", "simplex", "height"]) (sc := defScope s_heights_of) (own := [("simplex", 1), ("height", 2)]) (by first | decide +kernel | rfl | with_unfolding_all rfl)) (fun _ _ _ _ _ => g_tup rfl (g_cons (g_name 1 hN) (g_cons (g_name 2 hN) (g_nil)))) (fun _ _ _ _ _ => cs_nil) (fun _ _ _ _ _ => t_var 2))) rfl)
    (ss_nil)
abbrev s_shape_at : Stmt := topS 4
theorem sc_shape_at : FnScope ["shape", "height", "item"] ["shape", "height"] (defScope s_shape_at) := ⟨rfl, rfl, rfl, by decide +kernel, rfl, by decide +kernel, by decide +kernel⟩
set_option maxHeartbeats 400000 in
theorem ok_shape_at {f : Addr} {fd : FuncData} (F : Fun K "shape_at" "shape_at" s_shape_at f fd) (z : Zs mg) (gm : mg "shape_at" = some (.ref f)) : Df P w K mg base 1 "shape_at" 2 (rF K) F_shape_at := by
  have bb : Binds K fd ["shape", "height"] [] := F.binds fun _ _ _ _ _ _ us hl => (match us, hl with | [_, _], _ => rfl)
  refine ⟨f, fd, ["shape", "height"], ?_, bb, gm, F.kp⟩
  suffices body : ∀ (cdv : Value) (A : Around) (outer : List PySem.Env) (s : Shared) (H : Hp) (E : XK) (A0 : List Addr), Room 0 (A.deeper (PyProof.Rows.envOfC "shape_at" (defScope s_shape_at) s.heap.objs.size f cdv)) → A.guards = some [] →
      TSs (cxOf (L2.CX P w) P w K mg base ["shape", "height", "item"] "shape_at" (defScope s_shape_at) f cdv A outer s H E) ⟨fun cls d _ H => E cls d H, rF K, [], H, A0⟩ (defBody s_shape_at) G_shape_at by
    exact fn_rule (k := 0) (G := G_shape_at) (N := ["shape", "height", "item"]) (ps := ["shape", "height"]) (rl := rF K) (fall := .no) F sc_shape_at (.inr rfl) body
  intro cdv A outer s H E A0 hr hg
  have hN := sc_shape_at.nd
  have hu := hr.un
  have u64 : (A.deeper (PyProof.Rows.envOfC "shape_at" (defScope s_shape_at) s.heap.objs.size f cdv)).units + 64 < cLine := by omega
  have u65 : (A.deeper (PyProof.Rows.envOfC "shape_at" (defScope s_shape_at) s.heap.objs.size f cdv)).units + 65 < cLine := by omega
  have u66 : (A.deeper (PyProof.Rows.envOfC "shape_at" (defScope s_shape_at) s.heap.objs.size f cdv)).units + 66 < cLine := by omega
  have tk : Takes (cxOf (L2.CX P w) P w K mg base ["shape", "height", "item"] "shape_at" (defScope s_shape_at) f cdv A outer s H E) (fun cls d _ H => E cls d H) := takes_of rfl rfl rfl rfl
  have hp : PassesOwn (model P w) (cxOf (L2.CX P w) P w K mg base ["shape", "height", "item"] "shape_at" (defScope s_shape_at) f cdv A outer s H E).A (cxOf (L2.CX P w) P w K mg base ["shape", "height", "item"] "shape_at" (defScope s_shape_at) f cdv A outer s H E).env (cxOf (L2.CX P w) P w K mg base ["shape", "height", "item"] "shape_at" (defScope s_shape_at) f cdv A outer s H E).xe := passes_of (X := cxOf (L2.CX P w) P w K mg base ["shape", "height", "item"] "shape_at" (defScope s_shape_at) f cdv A outer s H E) rfl
  exact ss_cons (s_retF (t_lc rfl hN (i_any (t_var 0)) (blkOk_by (N := ["shape", "height", "item"]) (sc := defScope s_shape_at) (own := [("item", 2)]) (by first | decide +kernel | rfl | with_unfolding_all rfl)) (fun _ _ _ _ _ => g_name 2 hN) (fun _ _ _ _ _ => cs_one (b_leA u64 (TD.o (t_ix (TD.o (t_var 2)) (TD.o (t_int)))) (TD.o (t_var 1)))) (fun _ _ _ _ _ => t_var 2)) rfl)
    (ss_nil)
abbrev s_counts_of : Stmt := topS 5
theorem sc_counts_of : FnScope ["shape", "dimensions", "simplex", "height"] ["shape"] (defScope s_counts_of) := ⟨rfl, rfl, rfl, by decide +kernel, rfl, by decide +kernel, by decide +kernel⟩
set_option maxHeartbeats 400000 in
theorem ok_counts_of {f : Addr} {fd : FuncData} (F : Fun K "counts_of" "counts_of" s_counts_of f fd) (z : Zs mg) (d_dimension_of : Df P w K mg base 1 "dimension_of" 1 (rD K) F_dimension_of) (gm : mg "counts_of" = some (.ref f)) : Df P w K mg base 2 "counts_of" 1 (rD K) F_counts_of := by
  have bb : Binds K fd ["shape"] [] := F.binds fun _ _ _ _ _ _ us hl => (match us, hl with | [_], _ => rfl)
  refine ⟨f, fd, ["shape"], ?_, bb, gm, F.kp⟩
  suffices body : ∀ (cdv : Value) (A : Around) (outer : List PySem.Env) (s : Shared) (H : Hp) (E : XK) (A0 : List Addr), Room 1 (A.deeper (PyProof.Rows.envOfC "counts_of" (defScope s_counts_of) s.heap.objs.size f cdv)) → A.guards = some [] →
      TSs (cxOf (L2.CX P w) P w K mg base ["shape", "dimensions", "simplex", "height"] "counts_of" (defScope s_counts_of) f cdv A outer s H E) ⟨fun cls d _ H => E cls d H, rD K, [], H, A0⟩ (defBody s_counts_of) G_counts_of by
    exact fn_rule (k := 1) (G := G_counts_of) (N := ["shape", "dimensions", "simplex", "height"]) (ps := ["shape"]) (rl := rD K) (fall := .ok .none) F sc_counts_of (.inl ⟨rfl, rfl⟩) body
  intro cdv A outer s H E A0 hr hg
  have hN := sc_counts_of.nd
  have hu := hr.un
  have u64 : (A.deeper (PyProof.Rows.envOfC "counts_of" (defScope s_counts_of) s.heap.objs.size f cdv)).units + 64 < cLine := by omega
  have u65 : (A.deeper (PyProof.Rows.envOfC "counts_of" (defScope s_counts_of) s.heap.objs.size f cdv)).units + 65 < cLine := by omega
  have u66 : (A.deeper (PyProof.Rows.envOfC "counts_of" (defScope s_counts_of) s.heap.objs.size f cdv)).units + 66 < cLine := by omega
  have tk : Takes (cxOf (L2.CX P w) P w K mg base ["shape", "dimensions", "simplex", "height"] "counts_of" (defScope s_counts_of) f cdv A outer s H E) (fun cls d _ H => E cls d H) := takes_of rfl rfl rfl rfl
  have hp : PassesOwn (model P w) (cxOf (L2.CX P w) P w K mg base ["shape", "dimensions", "simplex", "height"] "counts_of" (defScope s_counts_of) f cdv A outer s H E).A (cxOf (L2.CX P w) P w K mg base ["shape", "dimensions", "simplex", "height"] "counts_of" (defScope s_counts_of) f cdv A outer s H E).env (cxOf (L2.CX P w) P w K mg base ["shape", "dimensions", "simplex", "height"] "counts_of" (defScope s_counts_of) f cdv A outer s H E).xe := passes_of (X := cxOf (L2.CX P w) P w K mg base ["shape", "dimensions", "simplex", "height"] "counts_of" (defScope s_counts_of) f cdv A outer s H E) rfl
  exact ss_cons (s_setLc 1 rfl hN (sw_true rfl rfl rfl (by decide +kernel)) (i_any (t_var 0)) (blkOk_by (N := ["shape", "dimensions", "simplex", "height"]) (sc := defScope s_counts_of) (own := [("simplex", 2), ("height", 3)]) (by first | decide +kernel | rfl | with_unfolding_all rfl)) (fun _ _ _ _ _ => g_tup rfl (g_cons (g_name 2 hN) (g_cons (g_name 3 hN) (g_nil)))) (fun _ _ _ _ _ => cs_nil) (fun _ _ _ _ _ => t_callD d_dimension_of hr hg (as_cons keeps_D (TD.v (t_var 2)) (as_nil)) (aC_len a0_len) back_D))
    (ss_cons (s_ret (t_tup (as_cons keeps_D (TD.v (t_count (TD.o (t_var 1)) (TD.o (t_int)))) (as_cons keeps_D (TD.v (t_count (TD.o (t_var 1)) (TD.o (t_int)))) (as_cons keeps_D (TD.v (t_count (TD.o (t_var 1)) (TD.o (t_int)))) (as_nil))))) rfl)
    (ss_nil))
abbrev s_euler_of : Stmt := topS 6
theorem sc_euler_of : FnScope ["shape", "vertices", "edges", "triangles"] ["shape"] (defScope s_euler_of) := ⟨rfl, rfl, rfl, by decide +kernel, rfl, by decide +kernel, by decide +kernel⟩
set_option maxHeartbeats 400000 in
theorem ok_euler_of {f : Addr} {fd : FuncData} (F : Fun K "euler_of" "euler_of" s_euler_of f fd) (z : Zs mg) (d_counts_of : Df P w K mg base 2 "counts_of" 1 (rD K) F_counts_of) (gm : mg "euler_of" = some (.ref f)) : Df P w K mg base 3 "euler_of" 1 (rD K) F_euler_of := by
  have bb : Binds K fd ["shape"] [] := F.binds fun _ _ _ _ _ _ us hl => (match us, hl with | [_], _ => rfl)
  refine ⟨f, fd, ["shape"], ?_, bb, gm, F.kp⟩
  suffices body : ∀ (cdv : Value) (A : Around) (outer : List PySem.Env) (s : Shared) (H : Hp) (E : XK) (A0 : List Addr), Room 2 (A.deeper (PyProof.Rows.envOfC "euler_of" (defScope s_euler_of) s.heap.objs.size f cdv)) → A.guards = some [] →
      TSs (cxOf (L2.CX P w) P w K mg base ["shape", "vertices", "edges", "triangles"] "euler_of" (defScope s_euler_of) f cdv A outer s H E) ⟨fun cls d _ H => E cls d H, rD K, [], H, A0⟩ (defBody s_euler_of) G_euler_of by
    exact fn_rule (k := 2) (G := G_euler_of) (N := ["shape", "vertices", "edges", "triangles"]) (ps := ["shape"]) (rl := rD K) (fall := .ok .none) F sc_euler_of (.inl ⟨rfl, rfl⟩) body
  intro cdv A outer s H E A0 hr hg
  have hN := sc_euler_of.nd
  have hu := hr.un
  have u64 : (A.deeper (PyProof.Rows.envOfC "euler_of" (defScope s_euler_of) s.heap.objs.size f cdv)).units + 64 < cLine := by omega
  have u65 : (A.deeper (PyProof.Rows.envOfC "euler_of" (defScope s_euler_of) s.heap.objs.size f cdv)).units + 65 < cLine := by omega
  have u66 : (A.deeper (PyProof.Rows.envOfC "euler_of" (defScope s_euler_of) s.heap.objs.size f cdv)).units + 66 < cLine := by omega
  have tk : Takes (cxOf (L2.CX P w) P w K mg base ["shape", "vertices", "edges", "triangles"] "euler_of" (defScope s_euler_of) f cdv A outer s H E) (fun cls d _ H => E cls d H) := takes_of rfl rfl rfl rfl
  have hp : PassesOwn (model P w) (cxOf (L2.CX P w) P w K mg base ["shape", "vertices", "edges", "triangles"] "euler_of" (defScope s_euler_of) f cdv A outer s H E).A (cxOf (L2.CX P w) P w K mg base ["shape", "vertices", "edges", "triangles"] "euler_of" (defScope s_euler_of) f cdv A outer s H E).env (cxOf (L2.CX P w) P w K mg base ["shape", "vertices", "edges", "triangles"] "euler_of" (defScope s_euler_of) f cdv A outer s H E).xe := passes_of (X := cxOf (L2.CX P w) P w K mg base ["shape", "vertices", "edges", "triangles"] "euler_of" (defScope s_euler_of) f cdv A outer s H E) rfl
  exact ss_cons (s_asg (t_callD d_counts_of hr hg (as_cons keeps_D (TD.v (t_var 0)) (as_nil)) (aC_len a0_len) back_D) (g_tup rfl (g_cons (g_name 1 hN) (g_cons (g_name 2 hN) (g_cons (g_name 3 hN) (g_nil))))))
    (ss_cons (s_ret (t_op back_D op_addA o_add (TD.o (t_op back_D op_sub o_sub (TD.o (t_var 1)) (TD.o (t_var 2)))) (TD.o (t_var 3))) rfl)
    (ss_nil))
abbrev s_euler_steps : Stmt := topS 7
theorem sc_euler_steps : FnScope ["shape", "height"] ["shape"] (defScope s_euler_steps) := ⟨rfl, rfl, rfl, by decide +kernel, rfl, by decide +kernel, by decide +kernel⟩
set_option maxHeartbeats 400000 in
theorem ok_euler_steps {f : Addr} {fd : FuncData} (F : Fun K "euler_steps" "euler_steps" s_euler_steps f fd) (z : Zs mg) (d_euler_of : Df P w K mg base 3 "euler_of" 1 (rD K) F_euler_of) (d_heights_of : Df P w K mg base 1 "heights_of" 1 (rF K) F_heights_of) (d_shape_at : Df P w K mg base 1 "shape_at" 2 (rF K) F_shape_at) (gm : mg "euler_steps" = some (.ref f)) : Df P w K mg base 4 "euler_steps" 1 (rF K) F_euler_steps := by
  have bb : Binds K fd ["shape"] [] := F.binds fun _ _ _ _ _ _ us hl => (match us, hl with | [_], _ => rfl)
  refine ⟨f, fd, ["shape"], ?_, bb, gm, F.kp⟩
  suffices body : ∀ (cdv : Value) (A : Around) (outer : List PySem.Env) (s : Shared) (H : Hp) (E : XK) (A0 : List Addr), Room 3 (A.deeper (PyProof.Rows.envOfC "euler_steps" (defScope s_euler_steps) s.heap.objs.size f cdv)) → A.guards = some [] →
      TSs (cxOf (L2.CX P w) P w K mg base ["shape", "height"] "euler_steps" (defScope s_euler_steps) f cdv A outer s H E) ⟨fun cls d _ H => E cls d H, rF K, [], H, A0⟩ (defBody s_euler_steps) G_euler_steps by
    exact fn_rule (k := 3) (G := G_euler_steps) (N := ["shape", "height"]) (ps := ["shape"]) (rl := rF K) (fall := .no) F sc_euler_steps (.inr rfl) body
  intro cdv A outer s H E A0 hr hg
  have hN := sc_euler_steps.nd
  have hu := hr.un
  have u64 : (A.deeper (PyProof.Rows.envOfC "euler_steps" (defScope s_euler_steps) s.heap.objs.size f cdv)).units + 64 < cLine := by omega
  have u65 : (A.deeper (PyProof.Rows.envOfC "euler_steps" (defScope s_euler_steps) s.heap.objs.size f cdv)).units + 65 < cLine := by omega
  have u66 : (A.deeper (PyProof.Rows.envOfC "euler_steps" (defScope s_euler_steps) s.heap.objs.size f cdv)).units + 66 < cLine := by omega
  have tk : Takes (cxOf (L2.CX P w) P w K mg base ["shape", "height"] "euler_steps" (defScope s_euler_steps) f cdv A outer s H E) (fun cls d _ H => E cls d H) := takes_of rfl rfl rfl rfl
  have hp : PassesOwn (model P w) (cxOf (L2.CX P w) P w K mg base ["shape", "height"] "euler_steps" (defScope s_euler_steps) f cdv A outer s H E).A (cxOf (L2.CX P w) P w K mg base ["shape", "height"] "euler_steps" (defScope s_euler_steps) f cdv A outer s H E).env (cxOf (L2.CX P w) P w K mg base ["shape", "height"] "euler_steps" (defScope s_euler_steps) f cdv A outer s H E).xe := passes_of (X := cxOf (L2.CX P w) P w K mg base ["shape", "height"] "euler_steps" (defScope s_euler_steps) f cdv A outer s H E) rfl
  exact ss_cons (s_retF (t_lc rfl hN (i_any (TF.d (t_callD d_heights_of hr hg (as_cons keeps_D (TD.v (t_var 0)) (as_nil)) (aC_len a0_len) back_F))) (blkOk_by (N := ["shape", "height"]) (sc := defScope s_euler_steps) (own := [("height", 1)]) (by first | decide +kernel | rfl | with_unfolding_all rfl)) (fun _ _ _ _ _ => g_name 1 hN) (fun _ _ _ _ _ => cs_nil) (fun _ _ _ _ _ => t_tup (as_cons keeps_D (TD.v (t_var 1)) (as_cons keeps_D (TD.v (t_callD d_euler_of hr hg (as_cons keeps_D (TD.v (TF.d (t_callD d_shape_at hr hg (as_cons keeps_D (TD.v (t_var 0)) (as_cons keeps_D (TD.v (t_var 1)) (as_nil))) (aC_len (aC_len a0_len)) back_F))) (as_nil)) (aC_len a0_len) back_D)) (as_nil))))) rfl)
    (ss_nil)
abbrev s__law_cell : Stmt := topS 9
theorem sc__law_cell : FnScope ["script", "k"] ["script", "k"] (defScope s__law_cell) := ⟨rfl, rfl, rfl, by decide +kernel, rfl, by decide +kernel, by decide +kernel⟩
set_option maxHeartbeats 400000 in
theorem ok__law_cell {f : Addr} {fd : FuncData} (F : Fun K "_law_cell" "_law_cell" s__law_cell f fd) (z : Zs mg) (gm : mg "_law_cell" = some (.ref f)) : Df P w K mg base 1 "_law_cell" 2 (rD K) F__law_cell := by
  have bb : Binds K fd ["script", "k"] [] := F.binds fun _ _ _ _ _ _ us hl => (match us, hl with | [_, _], _ => rfl)
  refine ⟨f, fd, ["script", "k"], ?_, bb, gm, F.kp⟩
  suffices body : ∀ (cdv : Value) (A : Around) (outer : List PySem.Env) (s : Shared) (H : Hp) (E : XK) (A0 : List Addr), Room 0 (A.deeper (PyProof.Rows.envOfC "_law_cell" (defScope s__law_cell) s.heap.objs.size f cdv)) → A.guards = some [] →
      TSs (cxOf (L2.CX P w) P w K mg base ["script", "k"] "_law_cell" (defScope s__law_cell) f cdv A outer s H E) ⟨fun cls d _ H => E cls d H, rD K, [], H, A0⟩ (defBody s__law_cell) G__law_cell by
    exact fn_rule (k := 0) (G := G__law_cell) (N := ["script", "k"]) (ps := ["script", "k"]) (rl := rD K) (fall := .ok .none) F sc__law_cell (.inl ⟨rfl, rfl⟩) body
  intro cdv A outer s H E A0 hr hg
  have hN := sc__law_cell.nd
  have hu := hr.un
  have u64 : (A.deeper (PyProof.Rows.envOfC "_law_cell" (defScope s__law_cell) s.heap.objs.size f cdv)).units + 64 < cLine := by omega
  have u65 : (A.deeper (PyProof.Rows.envOfC "_law_cell" (defScope s__law_cell) s.heap.objs.size f cdv)).units + 65 < cLine := by omega
  have u66 : (A.deeper (PyProof.Rows.envOfC "_law_cell" (defScope s__law_cell) s.heap.objs.size f cdv)).units + 66 < cLine := by omega
  have tk : Takes (cxOf (L2.CX P w) P w K mg base ["script", "k"] "_law_cell" (defScope s__law_cell) f cdv A outer s H E) (fun cls d _ H => E cls d H) := takes_of rfl rfl rfl rfl
  have hp : PassesOwn (model P w) (cxOf (L2.CX P w) P w K mg base ["script", "k"] "_law_cell" (defScope s__law_cell) f cdv A outer s H E).A (cxOf (L2.CX P w) P w K mg base ["script", "k"] "_law_cell" (defScope s__law_cell) f cdv A outer s H E).env (cxOf (L2.CX P w) P w K mg base ["script", "k"] "_law_cell" (defScope s__law_cell) f cdv A outer s H E).xe := passes_of (X := cxOf (L2.CX P w) P w K mg base ["script", "k"] "_law_cell" (defScope s__law_cell) f cdv A outer s H E) rfl
  exact ss_cons (s_if (b_ltA u64 (TD.o (t_var 1)) (TD.o (t_len z.b_len (as_cons keeps_O (TO.v (TD.o (t_var 0))) (as_nil))))) (ss_cons (s_ret (t_ix (TD.o (t_var 0)) (TD.o (t_var 1))) rfl)
    (ss_nil)) (ss_nil))
    (ss_cons (s_ret (t_int) rfl)
    (ss_nil))
abbrev s__law_row : Stmt := topS 10
theorem sc__law_row : FnScope ["cell", "count", "base", "row", "k", "number"] ["cell", "count", "base"] (defScope s__law_row) := ⟨rfl, rfl, rfl, by decide +kernel, rfl, by decide +kernel, by decide +kernel⟩
set_option maxHeartbeats 400000 in
theorem ok__law_row {f : Addr} {fd : FuncData} (F : Fun K "_law_row" "_law_row" s__law_row f fd) (z : Zs mg) (gm : mg "_law_row" = some (.ref f)) : Df P w K mg base 1 "_law_row" 3 (rF K) F__law_row := by
  have bb : Binds K fd ["cell", "count", "base"] [] := F.binds fun _ _ _ _ _ _ us hl => (match us, hl with | [_, _, _], _ => rfl)
  refine ⟨f, fd, ["cell", "count", "base"], ?_, bb, gm, F.kp⟩
  suffices body : ∀ (cdv : Value) (A : Around) (outer : List PySem.Env) (s : Shared) (H : Hp) (E : XK) (A0 : List Addr), Room 0 (A.deeper (PyProof.Rows.envOfC "_law_row" (defScope s__law_row) s.heap.objs.size f cdv)) → A.guards = some [] →
      TSs (cxOf (L2.CX P w) P w K mg base ["cell", "count", "base", "row", "k", "number"] "_law_row" (defScope s__law_row) f cdv A outer s H E) ⟨fun cls d _ H => E cls d H, rF K, [], H, A0⟩ (defBody s__law_row) G__law_row by
    exact fn_rule (k := 0) (G := G__law_row) (N := ["cell", "count", "base", "row", "k", "number"]) (ps := ["cell", "count", "base"]) (rl := rF K) (fall := .no) F sc__law_row (.inr rfl) body
  intro cdv A outer s H E A0 hr hg
  have hN := sc__law_row.nd
  have hu := hr.un
  have u64 : (A.deeper (PyProof.Rows.envOfC "_law_row" (defScope s__law_row) s.heap.objs.size f cdv)).units + 64 < cLine := by omega
  have u65 : (A.deeper (PyProof.Rows.envOfC "_law_row" (defScope s__law_row) s.heap.objs.size f cdv)).units + 65 < cLine := by omega
  have u66 : (A.deeper (PyProof.Rows.envOfC "_law_row" (defScope s__law_row) s.heap.objs.size f cdv)).units + 66 < cLine := by omega
  have tk : Takes (cxOf (L2.CX P w) P w K mg base ["cell", "count", "base", "row", "k", "number"] "_law_row" (defScope s__law_row) f cdv A outer s H E) (fun cls d _ H => E cls d H) := takes_of rfl rfl rfl rfl
  have hp : PassesOwn (model P w) (cxOf (L2.CX P w) P w K mg base ["cell", "count", "base", "row", "k", "number"] "_law_row" (defScope s__law_row) f cdv A outer s H E).A (cxOf (L2.CX P w) P w K mg base ["cell", "count", "base", "row", "k", "number"] "_law_row" (defScope s__law_row) f cdv A outer s H E).env (cxOf (L2.CX P w) P w K mg base ["cell", "count", "base", "row", "k", "number"] "_law_row" (defScope s__law_row) f cdv A outer s H E).xe := passes_of (X := cxOf (L2.CX P w) P w K mg base ["cell", "count", "base", "row", "k", "number"] "_law_row" (defScope s__law_row) f cdv A outer s H E) rfl
  exact ss_cons (s_own 3 hN (t_lst (as_nil)))
    (ss_cons (s_for hp rfl (i_range1 (by rfl) z.b_range (as_cons keeps_O (TO.v (TD.o (t_var 1))) (as_nil))) (g_name 4 hN) (ss_cons (s_if (b_geA u64 (TD.o (t_var 0)) (TD.o (t_op back_D op_pow o_pow (TD.o (t_int)) (TD.o (t_int))))) (ss_cons (s_app 3 (t_op back_D op_mod o_mod (TD.o (t_intc z.b_int (as_cons keeps_O (TO.v (TD.o (t_var 0))) (as_nil)))) (TD.o (t_var 2))))
    (ss_cons (s_set 0 hN (t_op back_D op_fdiv o_fdiv (TD.o (t_var 0)) (TD.o (t_var 2))))
    (ss_nil))) (ss_cons (s_set 5 hN (t_op back_D op_mod o_mod (TD.o (t_intc z.b_int (as_cons keeps_O (TO.v (TD.o (t_op back_D op_addA o_add (TD.o (t_op back_D op_addA o_add (TD.o (t_op back_D op_mul o_mul (TD.o (t_var 0)) (TD.o (t_int)))) (TD.o (t_op back_D op_mul o_mul (TD.o (t_var 4)) (TD.o (t_int)))))) (TD.o (t_int))))) (as_nil)))) (TD.o (t_int))))
    (ss_cons (s_set 5 hN (t_op back_D op_mod o_mod (TD.o (t_intc z.b_int (as_cons keeps_O (TO.v (TD.o (t_op back_D op_addA o_add (TD.o (t_op back_D op_addA o_add (TD.o (t_op back_D op_mul o_mul (TD.o (t_var 5)) (TD.o (t_var 5)))) (TD.o (t_op back_D op_mul o_mul (TD.o (t_int)) (TD.o (t_var 4)))))) (TD.o (t_int))))) (as_nil)))) (TD.o (t_int))))
    (ss_cons (s_set 5 hN (t_op back_D op_mod o_mod (TD.o (t_intc z.b_int (as_cons keeps_O (TO.v (TD.o (t_op back_D op_addA o_add (TD.o (t_op back_D op_addA o_add (TD.o (t_op back_D op_mul o_mul (TD.o (t_var 5)) (TD.o (t_var 5)))) (TD.o (t_op back_D op_mul o_mul (TD.o (t_int)) (TD.o (t_var 4)))))) (TD.o (t_var 0))))) (as_nil)))) (TD.o (t_int))))
    (ss_cons (s_app 3 (t_op back_D op_mod o_mod (TD.o (t_intc z.b_int (as_cons keeps_O (TO.v (TD.o (t_op back_D op_fdiv o_fdiv (TD.o (t_var 5)) (TD.o (t_int))))) (as_nil)))) (TD.o (t_var 2))))
    (ss_nil))))))
    (ss_nil)))
    (ss_cons (s_retO 3 rfl)
    (ss_nil)))
abbrev s__law_faces : Stmt := topS 11
theorem sc__law_faces : FnScope ["simplex", "k"] ["simplex"] (defScope s__law_faces) := ⟨rfl, rfl, rfl, by decide +kernel, rfl, by decide +kernel, by decide +kernel⟩
set_option maxHeartbeats 400000 in
theorem ok__law_faces {f : Addr} {fd : FuncData} (F : Fun K "_law_faces" "_law_faces" s__law_faces f fd) (z : Zs mg) (gm : mg "_law_faces" = some (.ref f)) : Df P w K mg base 1 "_law_faces" 1 (rF K) F__law_faces := by
  have bb : Binds K fd ["simplex"] [] := F.binds fun _ _ _ _ _ _ us hl => (match us, hl with | [_], _ => rfl)
  refine ⟨f, fd, ["simplex"], ?_, bb, gm, F.kp⟩
  suffices body : ∀ (cdv : Value) (A : Around) (outer : List PySem.Env) (s : Shared) (H : Hp) (E : XK) (A0 : List Addr), Room 0 (A.deeper (PyProof.Rows.envOfC "_law_faces" (defScope s__law_faces) s.heap.objs.size f cdv)) → A.guards = some [] →
      TSs (cxOf (L2.CX P w) P w K mg base ["simplex", "k"] "_law_faces" (defScope s__law_faces) f cdv A outer s H E) ⟨fun cls d _ H => E cls d H, rF K, [], H, A0⟩ (defBody s__law_faces) G__law_faces by
    exact fn_rule (k := 0) (G := G__law_faces) (N := ["simplex", "k"]) (ps := ["simplex"]) (rl := rF K) (fall := .no) F sc__law_faces (.inr rfl) body
  intro cdv A outer s H E A0 hr hg
  have hN := sc__law_faces.nd
  have hu := hr.un
  have u64 : (A.deeper (PyProof.Rows.envOfC "_law_faces" (defScope s__law_faces) s.heap.objs.size f cdv)).units + 64 < cLine := by omega
  have u65 : (A.deeper (PyProof.Rows.envOfC "_law_faces" (defScope s__law_faces) s.heap.objs.size f cdv)).units + 65 < cLine := by omega
  have u66 : (A.deeper (PyProof.Rows.envOfC "_law_faces" (defScope s__law_faces) s.heap.objs.size f cdv)).units + 66 < cLine := by omega
  have tk : Takes (cxOf (L2.CX P w) P w K mg base ["simplex", "k"] "_law_faces" (defScope s__law_faces) f cdv A outer s H E) (fun cls d _ H => E cls d H) := takes_of rfl rfl rfl rfl
  have hp : PassesOwn (model P w) (cxOf (L2.CX P w) P w K mg base ["simplex", "k"] "_law_faces" (defScope s__law_faces) f cdv A outer s H E).A (cxOf (L2.CX P w) P w K mg base ["simplex", "k"] "_law_faces" (defScope s__law_faces) f cdv A outer s H E).env (cxOf (L2.CX P w) P w K mg base ["simplex", "k"] "_law_faces" (defScope s__law_faces) f cdv A outer s H E).xe := passes_of (X := cxOf (L2.CX P w) P w K mg base ["simplex", "k"] "_law_faces" (defScope s__law_faces) f cdv A outer s H E) rfl
  exact ss_cons (s_if (b_eq u64 (TD.o (t_len z.b_len (as_cons keeps_O (TO.v (TD.o (t_var 0))) (as_nil)))) (TD.o (t_int))) (ss_cons (s_retF (t_lst (as_nil)) rfl)
    (ss_nil)) (ss_nil))
    (ss_cons (s_retF (t_lc rfl hN (i_any (t_slice (TF.o (t_lst (as_cons keeps_D (TD.v (t_int)) (as_cons keeps_D (TD.v (t_int)) (as_cons keeps_D (TD.v (t_int)) (as_nil)))))) (pt_1 (TD.o (t_op back_D op_sub o_sub (TD.o (t_int)) (TD.o (t_len z.b_len (as_cons keeps_O (TO.v (TD.o (t_var 0))) (as_nil))))))) (pt_0))) (blkOk_by (N := ["simplex", "k"]) (sc := defScope s__law_faces) (own := [("k", 1)]) (by first | decide +kernel | rfl | with_unfolding_all rfl)) (fun _ _ _ _ _ => g_name 1 hN) (fun _ _ _ _ _ => cs_nil) (fun _ _ _ _ _ => t_op back_D op_addA o_add (TD.o (t_slice (TD.o (t_var 0)) (pt_0) (pt_1 (TD.o (t_var 1))))) (TD.o (t_slice (TD.o (t_var 0)) (pt_1 (TD.o (t_op back_D op_addA o_add (TD.o (t_var 1)) (TD.o (t_int))))) (pt_0))))) rfl)
    (ss_nil))
abbrev s__law_parts : Stmt := topS 12
theorem sc__law_parts : FnScope ["names", "found", "bits", "j"] ["names"] (defScope s__law_parts) := ⟨rfl, rfl, rfl, by decide +kernel, rfl, by decide +kernel, by decide +kernel⟩
set_option maxHeartbeats 400000 in
theorem ok__law_parts {f : Addr} {fd : FuncData} (F : Fun K "_law_parts" "_law_parts" s__law_parts f fd) (z : Zs mg) (gm : mg "_law_parts" = some (.ref f)) : Df P w K mg base 1 "_law_parts" 1 (rF K) F__law_parts := by
  have bb : Binds K fd ["names"] [] := F.binds fun _ _ _ _ _ _ us hl => (match us, hl with | [_], _ => rfl)
  refine ⟨f, fd, ["names"], ?_, bb, gm, F.kp⟩
  suffices body : ∀ (cdv : Value) (A : Around) (outer : List PySem.Env) (s : Shared) (H : Hp) (E : XK) (A0 : List Addr), Room 0 (A.deeper (PyProof.Rows.envOfC "_law_parts" (defScope s__law_parts) s.heap.objs.size f cdv)) → A.guards = some [] →
      TSs (cxOf (L2.CX P w) P w K mg base ["names", "found", "bits", "j"] "_law_parts" (defScope s__law_parts) f cdv A outer s H E) ⟨fun cls d _ H => E cls d H, rF K, [], H, A0⟩ (defBody s__law_parts) G__law_parts by
    exact fn_rule (k := 0) (G := G__law_parts) (N := ["names", "found", "bits", "j"]) (ps := ["names"]) (rl := rF K) (fall := .no) F sc__law_parts (.inr rfl) body
  intro cdv A outer s H E A0 hr hg
  have hN := sc__law_parts.nd
  have hu := hr.un
  have u64 : (A.deeper (PyProof.Rows.envOfC "_law_parts" (defScope s__law_parts) s.heap.objs.size f cdv)).units + 64 < cLine := by omega
  have u65 : (A.deeper (PyProof.Rows.envOfC "_law_parts" (defScope s__law_parts) s.heap.objs.size f cdv)).units + 65 < cLine := by omega
  have u66 : (A.deeper (PyProof.Rows.envOfC "_law_parts" (defScope s__law_parts) s.heap.objs.size f cdv)).units + 66 < cLine := by omega
  have tk : Takes (cxOf (L2.CX P w) P w K mg base ["names", "found", "bits", "j"] "_law_parts" (defScope s__law_parts) f cdv A outer s H E) (fun cls d _ H => E cls d H) := takes_of rfl rfl rfl rfl
  have hp : PassesOwn (model P w) (cxOf (L2.CX P w) P w K mg base ["names", "found", "bits", "j"] "_law_parts" (defScope s__law_parts) f cdv A outer s H E).A (cxOf (L2.CX P w) P w K mg base ["names", "found", "bits", "j"] "_law_parts" (defScope s__law_parts) f cdv A outer s H E).env (cxOf (L2.CX P w) P w K mg base ["names", "found", "bits", "j"] "_law_parts" (defScope s__law_parts) f cdv A outer s H E).xe := passes_of (X := cxOf (L2.CX P w) P w K mg base ["names", "found", "bits", "j"] "_law_parts" (defScope s__law_parts) f cdv A outer s H E) rfl
  exact ss_cons (s_own 1 hN (t_lst (as_nil)))
    (ss_cons (s_for hp rfl (i_range2 (by rfl) z.b_range (as_cons keeps_O (TO.v (TD.o (t_int))) (as_cons keeps_O (TO.v (TD.o (t_ix (TF.o (t_lst (as_cons keeps_D (TD.v (t_int)) (as_cons keeps_D (TD.v (t_int)) (as_cons keeps_D (TD.v (t_int)) (as_nil)))))) (TD.o (t_op back_D op_sub o_sub (TD.o (t_len z.b_len (as_cons keeps_O (TO.v (TD.o (t_var 0))) (as_nil)))) (TD.o (t_int))))))) (as_nil)))) (g_name 2 hN) (ss_cons (s_app 1 (t_tuplec z.b_tuple (as_cons keeps_O (TO.v (TF.o (t_lc rfl hN (i_range1 (by rfl) z.b_range (as_cons keeps_O (TO.v (TD.o (t_len z.b_len (as_cons keeps_O (TO.v (TD.o (t_var 0))) (as_nil))))) (as_nil))) (blkOk_by (N := ["names", "found", "bits", "j"]) (sc := defScope s__law_parts) (own := [("j", 3)]) (by first | decide +kernel | rfl | with_unfolding_all rfl)) (fun _ _ _ _ _ => g_name 3 hN) (fun _ _ _ _ _ => cs_one (b_eq u64 (TD.o (t_op back_D op_mod o_mod (TD.o (t_intc z.b_int (as_cons keeps_O (TO.v (TD.o (t_op back_D op_fdiv o_fdiv (TD.o (t_var 2)) (TD.o (t_ix (TF.o (t_lst (as_cons keeps_D (TD.v (t_int)) (as_cons keeps_D (TD.v (t_int)) (as_cons keeps_D (TD.v (t_int)) (as_nil)))))) (TD.o (t_var 3))))))) (as_nil)))) (TD.o (t_int)))) (TD.o (t_int)))) (fun _ _ _ _ _ => t_ix (TD.o (t_var 0)) (TD.o (t_var 3)))))) (as_nil))))
    (ss_nil)))
    (ss_cons (s_retO 1 rfl)
    (ss_nil)))
abbrev s__law_closed : Stmt := topS 13
theorem sc__law_closed : FnScope ["row", "cell", "count", "step", "shift", "found", "k", "part", "picked", "names", "simplex", "size", "j"] ["row", "cell", "count"] (defScope s__law_closed) := ⟨rfl, rfl, rfl, by decide +kernel, rfl, by decide +kernel, by decide +kernel⟩
set_option maxHeartbeats 400000 in
theorem ok__law_closed {f : Addr} {fd : FuncData} (F : Fun K "_law_closed" "_law_closed" s__law_closed f fd) (z : Zs mg) (d__law_parts : Df P w K mg base 1 "_law_parts" 1 (rF K) F__law_parts) (d__law_row : Df P w K mg base 1 "_law_row" 3 (rF K) F__law_row) (gm : mg "_law_closed" = some (.ref f)) : Df P w K mg base 2 "_law_closed" 3 (rF K) F__law_closed := by
  have bb : Binds K fd ["row", "cell", "count"] [] := F.binds fun _ _ _ _ _ _ us hl => (match us, hl with | [_, _, _], _ => rfl)
  refine ⟨f, fd, ["row", "cell", "count"], ?_, bb, gm, F.kp⟩
  suffices body : ∀ (cdv : Value) (A : Around) (outer : List PySem.Env) (s : Shared) (H : Hp) (E : XK) (A0 : List Addr), Room 1 (A.deeper (PyProof.Rows.envOfC "_law_closed" (defScope s__law_closed) s.heap.objs.size f cdv)) → A.guards = some [] →
      TSs (cxOf (L2.CX P w) P w K mg base ["row", "cell", "count", "step", "shift", "found", "k", "part", "picked", "names", "simplex", "size", "j"] "_law_closed" (defScope s__law_closed) f cdv A outer s H E) ⟨fun cls d _ H => E cls d H, rF K, [], H, A0⟩ (defBody s__law_closed) G__law_closed by
    exact fn_rule (k := 1) (G := G__law_closed) (N := ["row", "cell", "count", "step", "shift", "found", "k", "part", "picked", "names", "simplex", "size", "j"]) (ps := ["row", "cell", "count"]) (rl := rF K) (fall := .no) F sc__law_closed (.inr rfl) body
  intro cdv A outer s H E A0 hr hg
  have hN := sc__law_closed.nd
  have hu := hr.un
  have u64 : (A.deeper (PyProof.Rows.envOfC "_law_closed" (defScope s__law_closed) s.heap.objs.size f cdv)).units + 64 < cLine := by omega
  have u65 : (A.deeper (PyProof.Rows.envOfC "_law_closed" (defScope s__law_closed) s.heap.objs.size f cdv)).units + 65 < cLine := by omega
  have u66 : (A.deeper (PyProof.Rows.envOfC "_law_closed" (defScope s__law_closed) s.heap.objs.size f cdv)).units + 66 < cLine := by omega
  have tk : Takes (cxOf (L2.CX P w) P w K mg base ["row", "cell", "count", "step", "shift", "found", "k", "part", "picked", "names", "simplex", "size", "j"] "_law_closed" (defScope s__law_closed) f cdv A outer s H E) (fun cls d _ H => E cls d H) := takes_of rfl rfl rfl rfl
  have hp : PassesOwn (model P w) (cxOf (L2.CX P w) P w K mg base ["row", "cell", "count", "step", "shift", "found", "k", "part", "picked", "names", "simplex", "size", "j"] "_law_closed" (defScope s__law_closed) f cdv A outer s H E).A (cxOf (L2.CX P w) P w K mg base ["row", "cell", "count", "step", "shift", "found", "k", "part", "picked", "names", "simplex", "size", "j"] "_law_closed" (defScope s__law_closed) f cdv A outer s H E).env (cxOf (L2.CX P w) P w K mg base ["row", "cell", "count", "step", "shift", "found", "k", "part", "picked", "names", "simplex", "size", "j"] "_law_closed" (defScope s__law_closed) f cdv A outer s H E).xe := passes_of (X := cxOf (L2.CX P w) P w K mg base ["row", "cell", "count", "step", "shift", "found", "k", "part", "picked", "names", "simplex", "size", "j"] "_law_closed" (defScope s__law_closed) f cdv A outer s H E) rfl
  exact ss_cons (s_set 3 hN (t_op back_D op_addA o_add (TD.o (t_int)) (TD.o (t_op back_D op_mod o_mod (TD.o (t_intc z.b_int (as_cons keeps_O (TO.v (TD.o (t_ix (TD.o (t_var 0)) (TD.o (t_int))))) (as_nil)))) (TD.o (t_int))))))
    (ss_cons (s_set 4 hN (t_op back_D op_mod o_mod (TD.o (t_intc z.b_int (as_cons keeps_O (TO.v (TD.o (t_ix (TD.o (t_var 0)) (TD.o (t_int))))) (as_nil)))) (TD.o (t_ix (TF.o (t_lst (as_cons keeps_D (TD.v (t_int)) (as_cons keeps_D (TD.v (t_int)) (as_nil))))) (TD.o (t_op back_D op_sub o_sub (TD.o (t_var 3)) (TD.o (t_int))))))))
    (ss_cons (s_own 5 hN (t_lst (as_nil)))
    (ss_cons (s_for hp rfl (i_range1 (by rfl) z.b_range (as_cons keeps_O (TO.v (TD.o (t_var 2))) (as_nil))) (g_name 6 hN) (ss_cons (s_set 7 hN (TF.d (t_callD d__law_row hr hg (as_cons keeps_D (TD.v (t_op back_D op_addA o_add (TD.o (t_intc z.b_int (as_cons keeps_O (TO.v (TD.o (t_var 1))) (as_nil)))) (TD.o (t_op back_D op_mul o_mul (TD.o (t_int)) (TD.o (t_var 6)))))) (as_cons keeps_D (TD.v (t_int)) (as_cons keeps_D (TD.v (t_int)) (as_nil)))) (aC_len (aC_len (aC_len a0_len))) back_F)))
    (ss_cons (s_set 8 hN (TF.d (t_lc rfl hN (i_range1 (by rfl) z.b_range (as_cons keeps_O (TO.v (TD.o (t_op back_D op_addA o_add (TD.o (t_int)) (TD.o (t_op back_D op_mod o_mod (TD.o (t_intc z.b_int (as_cons keeps_O (TO.v (TD.o (t_ix (TD.o (t_var 7)) (TD.o (t_int))))) (as_nil)))) (TD.o (t_int))))))) (as_nil))) (blkOk_by (N := ["row", "cell", "count", "step", "shift", "found", "k", "part", "picked", "names", "simplex", "size", "j"]) (sc := defScope s__law_closed) (own := [("j", 12)]) (by first | decide +kernel | rfl | with_unfolding_all rfl)) (fun _ _ _ _ _ => g_name 12 hN) (fun _ _ _ _ _ => cs_nil) (fun _ _ _ _ _ => t_op back_D op_addA o_add (TD.o (t_var 4)) (TD.o (t_op back_D op_mul o_mul (TD.o (t_var 3)) (TD.o (t_op back_D op_mod o_mod (TD.o (t_intc z.b_int (as_cons keeps_O (TO.v (TD.o (t_ix (TD.o (t_var 7)) (TD.o (t_var 12))))) (as_nil)))) (TD.o (t_int))))))))))
    (ss_cons (s_set 9 hN (TF.d (t_sortA u64 z.b_sorted (as_cons keeps_O (TO.v (TF.o (t_lc rfl hN (i_range1 (by rfl) z.b_range (as_cons keeps_O (TO.v (TD.o (t_len z.b_len (as_cons keeps_O (TO.v (TD.o (t_var 8))) (as_nil))))) (as_nil))) (blkOk_by (N := ["row", "cell", "count", "step", "shift", "found", "k", "part", "picked", "names", "simplex", "size", "j"]) (sc := defScope s__law_closed) (own := [("j", 12)]) (by first | decide +kernel | rfl | with_unfolding_all rfl)) (fun _ _ _ _ _ => g_name 12 hN) (fun _ _ _ _ _ => cs_one (b_notin u65 (TD.o (t_ix (TD.o (t_var 8)) (TD.o (t_var 12)))) (TD.o (t_slice (TD.o (t_var 8)) (pt_0) (pt_1 (TD.o (t_var 12))))))) (fun _ _ _ _ _ => t_ix (TD.o (t_var 8)) (TD.o (t_var 12)))))) (as_nil)))))
    (ss_cons (s_for hp rfl (i_any (TF.d (t_callD d__law_parts hr hg (as_cons keeps_D (TD.v (t_var 9)) (as_nil)) (aC_len a0_len) back_F))) (g_name 10 hN) (ss_cons (s_if (b_notin u65 (TD.o (t_tup (as_cons keeps_D (TD.v (t_len z.b_len (as_cons keeps_O (TO.v (TD.o (t_var 10))) (as_nil)))) (as_cons keeps_D (TD.v (t_var 10)) (as_nil))))) (t_own 5)) (ss_cons (s_app 5 (t_tup (as_cons keeps_D (TD.v (t_len z.b_len (as_cons keeps_O (TO.v (TD.o (t_var 10))) (as_nil)))) (as_cons keeps_D (TD.v (t_var 10)) (as_nil)))))
    (ss_nil)) (ss_nil))
    (ss_nil)))
    (ss_nil))))))
    (ss_frz 5 (ss_cons (s_retF (t_lc rfl hN (i_any (TF.d (t_sortA u64 z.b_sorted (as_cons keeps_O (TO.v (TD.o (t_var 5))) (as_nil))))) (blkOk_by (N := ["row", "cell", "count", "step", "shift", "found", "k", "part", "picked", "names", "simplex", "size", "j"]) (sc := defScope s__law_closed) (own := [("size", 11), ("simplex", 10)]) (by first | decide +kernel | rfl | with_unfolding_all rfl)) (fun _ _ _ _ _ => g_tup rfl (g_cons (g_name 11 hN) (g_cons (g_name 10 hN) (g_nil)))) (fun _ _ _ _ _ => cs_nil) (fun _ _ _ _ _ => t_var 10)) rfl)
    (ss_nil))))))
abbrev s__law_shape : Stmt := topS 14
theorem sc__law_shape : FnScope ["script", "start", "row", "heights", "wide", "low", "shape", "simplex", "more", "height", "face"] ["script", "start"] (defScope s__law_shape) := ⟨rfl, rfl, rfl, by decide +kernel, rfl, by decide +kernel, by decide +kernel⟩
set_option maxHeartbeats 400000 in
theorem ok__law_shape {f : Addr} {fd : FuncData} (F : Fun K "_law_shape" "_law_shape" s__law_shape f fd) (z : Zs mg) (d__law_cell : Df P w K mg base 1 "_law_cell" 2 (rD K) F__law_cell) (d__law_closed : Df P w K mg base 2 "_law_closed" 3 (rF K) F__law_closed) (d__law_faces : Df P w K mg base 1 "_law_faces" 1 (rF K) F__law_faces) (d__law_row : Df P w K mg base 1 "_law_row" 3 (rF K) F__law_row) (gm : mg "_law_shape" = some (.ref f)) : Df P w K mg base 3 "_law_shape" 2 (rD K) F__law_shape := by
  have bb : Binds K fd ["script", "start"] [] := F.binds fun _ _ _ _ _ _ us hl => (match us, hl with | [_, _], _ => rfl)
  refine ⟨f, fd, ["script", "start"], ?_, bb, gm, F.kp⟩
  suffices body : ∀ (cdv : Value) (A : Around) (outer : List PySem.Env) (s : Shared) (H : Hp) (E : XK) (A0 : List Addr), Room 2 (A.deeper (PyProof.Rows.envOfC "_law_shape" (defScope s__law_shape) s.heap.objs.size f cdv)) → A.guards = some [] →
      TSs (cxOf (L2.CX P w) P w K mg base ["script", "start", "row", "heights", "wide", "low", "shape", "simplex", "more", "height", "face"] "_law_shape" (defScope s__law_shape) f cdv A outer s H E) ⟨fun cls d _ H => E cls d H, rD K, [], H, A0⟩ (defBody s__law_shape) G__law_shape by
    exact fn_rule (k := 2) (G := G__law_shape) (N := ["script", "start", "row", "heights", "wide", "low", "shape", "simplex", "more", "height", "face"]) (ps := ["script", "start"]) (rl := rD K) (fall := .ok .none) F sc__law_shape (.inl ⟨rfl, rfl⟩) body
  intro cdv A outer s H E A0 hr hg
  have hN := sc__law_shape.nd
  have hu := hr.un
  have u64 : (A.deeper (PyProof.Rows.envOfC "_law_shape" (defScope s__law_shape) s.heap.objs.size f cdv)).units + 64 < cLine := by omega
  have u65 : (A.deeper (PyProof.Rows.envOfC "_law_shape" (defScope s__law_shape) s.heap.objs.size f cdv)).units + 65 < cLine := by omega
  have u66 : (A.deeper (PyProof.Rows.envOfC "_law_shape" (defScope s__law_shape) s.heap.objs.size f cdv)).units + 66 < cLine := by omega
  have tk : Takes (cxOf (L2.CX P w) P w K mg base ["script", "start", "row", "heights", "wide", "low", "shape", "simplex", "more", "height", "face"] "_law_shape" (defScope s__law_shape) f cdv A outer s H E) (fun cls d _ H => E cls d H) := takes_of rfl rfl rfl rfl
  have hp : PassesOwn (model P w) (cxOf (L2.CX P w) P w K mg base ["script", "start", "row", "heights", "wide", "low", "shape", "simplex", "more", "height", "face"] "_law_shape" (defScope s__law_shape) f cdv A outer s H E).A (cxOf (L2.CX P w) P w K mg base ["script", "start", "row", "heights", "wide", "low", "shape", "simplex", "more", "height", "face"] "_law_shape" (defScope s__law_shape) f cdv A outer s H E).env (cxOf (L2.CX P w) P w K mg base ["script", "start", "row", "heights", "wide", "low", "shape", "simplex", "more", "height", "face"] "_law_shape" (defScope s__law_shape) f cdv A outer s H E).xe := passes_of (X := cxOf (L2.CX P w) P w K mg base ["script", "start", "row", "heights", "wide", "low", "shape", "simplex", "more", "height", "face"] "_law_shape" (defScope s__law_shape) f cdv A outer s H E) rfl
  exact ss_cons (s_set 2 hN (TF.d (t_callD d__law_row hr hg (as_cons keeps_D (TD.v (t_callD d__law_cell hr hg (as_cons keeps_D (TD.v (t_var 0)) (as_cons keeps_D (TD.v (t_var 1)) (as_nil))) (aC_len (aC_len a0_len)) back_D)) (as_cons keeps_D (TD.v (t_int)) (as_cons keeps_D (TD.v (t_int)) (as_nil)))) (aC_len (aC_len (aC_len a0_len))) back_F)))
    (ss_cons (s_newZ 3 hN)
    (ss_cons (s_set 4 hN (t_ix (TF.o (t_lst (as_cons keeps_D (TD.v (t_int)) (as_cons keeps_D (TD.v (t_int)) (as_cons keeps_D (TD.v (t_int)) (as_cons keeps_D (TD.v (t_int)) (as_nil))))))) (TD.o (t_op back_D op_mod o_mod (TD.o (t_intc z.b_int (as_cons keeps_O (TO.v (TD.o (t_ix (TD.o (t_var 2)) (TD.o (t_int))))) (as_nil)))) (TD.o (t_int))))))
    (ss_cons (s_set 5 hN (t_op back_D op_sub o_sub (TD.o (t_op back_D op_mod o_mod (TD.o (t_intc z.b_int (as_cons keeps_O (TO.v (TD.o (t_callD d__law_cell hr hg (as_cons keeps_D (TD.v (t_var 0)) (as_cons keeps_D (TD.v (t_op back_D op_addA o_add (TD.o (t_var 1)) (TD.o (t_int)))) (as_nil))) (aC_len (aC_len a0_len)) back_D))) (as_nil)))) (TD.o (t_int)))) (TD.o (t_int))))
    (ss_cons (s_own 6 hN (t_lst (as_nil)))
    (ss_cons (s_for hp rfl (i_any (TF.d (t_callD d__law_closed hr hg (as_cons keeps_D (TD.v (t_var 2)) (as_cons keeps_D (TD.v (t_callD d__law_cell hr hg (as_cons keeps_D (TD.v (t_var 0)) (as_cons keeps_D (TD.v (t_op back_D op_addA o_add (TD.o (t_var 1)) (TD.o (t_int)))) (as_nil))) (aC_len (aC_len a0_len)) back_D)) (as_cons keeps_D (TD.v (t_op back_D op_mod o_mod (TD.o (t_intc z.b_int (as_cons keeps_O (TO.v (TD.o (t_ix (TD.o (t_var 2)) (TD.o (t_int))))) (as_nil)))) (TD.o (t_int)))) (as_nil)))) (aC_len (aC_len (aC_len a0_len))) back_F))) (g_name 7 hN) (ss_cons (s_set 8 hN (t_ix (TF.o (t_callD d__law_row hr hg (as_cons keeps_D (TD.v (t_op back_D op_addA o_add (TD.o (t_intc z.b_int (as_cons keeps_O (TO.v (TD.o (t_callD d__law_cell hr hg (as_cons keeps_D (TD.v (t_var 0)) (as_cons keeps_D (TD.v (t_op back_D op_addA o_add (TD.o (t_var 1)) (TD.o (t_int)))) (as_nil))) (aC_len (aC_len a0_len)) back_D))) (as_nil)))) (TD.o (t_op back_D op_mul o_mul (TD.o (t_int)) (TD.o (t_len z.b_len (as_cons keeps_O (TO.v (t_own 6)) (as_nil)))))))) (as_cons keeps_D (TD.v (t_int)) (as_cons keeps_D (TD.v (t_int)) (as_nil)))) (aC_len (aC_len (aC_len a0_len))) back_F)) (TD.o (t_int))))
    (ss_cons (s_set 9 hN (t_min rfl z.b_min (as_cons keeps_O (TO.v (TD.o (t_int))) (as_cons keeps_O (TO.v (TD.o (t_op back_D op_addA o_add (TD.o (t_max rfl z.b_max (as_cons keeps_O (TO.v (TD.o (t_op back_D op_addA o_add (TF.o (t_lst (as_cons keeps_D (TD.v (t_var 5)) (as_nil)))) (TF.o (t_lc rfl hN (i_any (TF.d (t_callD d__law_faces hr hg (as_cons keeps_D (TD.v (t_var 7)) (as_nil)) (aC_len a0_len) back_F))) (blkOk_by (N := ["script", "start", "row", "heights", "wide", "low", "shape", "simplex", "more", "height", "face"]) (sc := defScope s__law_shape) (own := [("face", 10)]) (by first | decide +kernel | rfl | with_unfolding_all rfl)) (fun _ _ _ _ _ => g_name 10 hN) (fun _ _ _ _ _ => cs_nil) (fun _ _ _ _ _ => t_zgetD 3 u64 (t_var 10))))))) (as_nil)))) (TD.o (t_op back_D op_mod o_mod (TD.o (t_intc z.b_int (as_cons keeps_O (TO.v (TD.o (t_var 8))) (as_nil)))) (TD.o (t_var 4))))))) (as_nil)))))
    (ss_cons (xs_zput 3 (W := W0) u64 (x_up (W := W0) (t_var 9)) (t_var 7))
    (ss_cons (s_app 6 (t_tup (as_cons keeps_D (TD.v (t_var 7)) (as_cons keeps_D (TD.v (t_var 9)) (as_nil)))))
    (ss_nil))))))
    (ss_frz 6 (ss_cons (s_if (b_eq u64 (TD.o (t_op back_D op_mod o_mod (TD.o (t_intc z.b_int (as_cons keeps_O (TO.v (TD.o (t_ix (TD.o (t_var 2)) (TD.o (t_int))))) (as_nil)))) (TD.o (t_int)))) (TD.o (t_int))) (ss_cons (s_set 6 hN (t_rev (TD.o (t_var 6))))
    (ss_nil)) (ss_nil))
    (ss_cons (s_if (b_eq u64 (TD.o (t_op back_D op_mod o_mod (TD.o (t_intc z.b_int (as_cons keeps_O (TO.v (TD.o (t_ix (TD.o (t_var 2)) (TD.o (t_int))))) (as_nil)))) (TD.o (t_int)))) (TD.o (t_int))) (ss_cons (s_set 6 hN (t_op back_D op_addA o_add (TF.o (t_step2_1 (TD.o (t_var 6)))) (TF.o (t_step2_0 (TD.o (t_var 6))))))
    (ss_nil)) (ss_nil))
    (ss_cons (s_ret (t_var 6) rfl)
    (ss_nil))))))))))
abbrev s__law_counts : Stmt := topS 15
theorem sc__law_counts : FnScope ["shape", "size", "simplex", "height"] ["shape"] (defScope s__law_counts) := ⟨rfl, rfl, rfl, by decide +kernel, rfl, by decide +kernel, by decide +kernel⟩
set_option maxHeartbeats 400000 in
theorem ok__law_counts {f : Addr} {fd : FuncData} (F : Fun K "_law_counts" "_law_counts" s__law_counts f fd) (z : Zs mg) (gm : mg "_law_counts" = some (.ref f)) : Df P w K mg base 1 "_law_counts" 1 (rD K) F__law_counts := by
  have bb : Binds K fd ["shape"] [] := F.binds fun _ _ _ _ _ _ us hl => (match us, hl with | [_], _ => rfl)
  refine ⟨f, fd, ["shape"], ?_, bb, gm, F.kp⟩
  suffices body : ∀ (cdv : Value) (A : Around) (outer : List PySem.Env) (s : Shared) (H : Hp) (E : XK) (A0 : List Addr), Room 0 (A.deeper (PyProof.Rows.envOfC "_law_counts" (defScope s__law_counts) s.heap.objs.size f cdv)) → A.guards = some [] →
      TSs (cxOf (L2.CX P w) P w K mg base ["shape", "size", "simplex", "height"] "_law_counts" (defScope s__law_counts) f cdv A outer s H E) ⟨fun cls d _ H => E cls d H, rD K, [], H, A0⟩ (defBody s__law_counts) G__law_counts by
    exact fn_rule (k := 0) (G := G__law_counts) (N := ["shape", "size", "simplex", "height"]) (ps := ["shape"]) (rl := rD K) (fall := .ok .none) F sc__law_counts (.inl ⟨rfl, rfl⟩) body
  intro cdv A outer s H E A0 hr hg
  have hN := sc__law_counts.nd
  have hu := hr.un
  have u64 : (A.deeper (PyProof.Rows.envOfC "_law_counts" (defScope s__law_counts) s.heap.objs.size f cdv)).units + 64 < cLine := by omega
  have u65 : (A.deeper (PyProof.Rows.envOfC "_law_counts" (defScope s__law_counts) s.heap.objs.size f cdv)).units + 65 < cLine := by omega
  have u66 : (A.deeper (PyProof.Rows.envOfC "_law_counts" (defScope s__law_counts) s.heap.objs.size f cdv)).units + 66 < cLine := by omega
  have tk : Takes (cxOf (L2.CX P w) P w K mg base ["shape", "size", "simplex", "height"] "_law_counts" (defScope s__law_counts) f cdv A outer s H E) (fun cls d _ H => E cls d H) := takes_of rfl rfl rfl rfl
  have hp : PassesOwn (model P w) (cxOf (L2.CX P w) P w K mg base ["shape", "size", "simplex", "height"] "_law_counts" (defScope s__law_counts) f cdv A outer s H E).A (cxOf (L2.CX P w) P w K mg base ["shape", "size", "simplex", "height"] "_law_counts" (defScope s__law_counts) f cdv A outer s H E).env (cxOf (L2.CX P w) P w K mg base ["shape", "size", "simplex", "height"] "_law_counts" (defScope s__law_counts) f cdv A outer s H E).xe := passes_of (X := cxOf (L2.CX P w) P w K mg base ["shape", "size", "simplex", "height"] "_law_counts" (defScope s__law_counts) f cdv A outer s H E) rfl
  exact ss_cons (s_ret (t_tuplec z.b_tuple (as_cons keeps_O (TO.v (TF.o (t_lc rfl hN (i_any (TF.d (t_lst (as_cons keeps_D (TD.v (t_int)) (as_cons keeps_D (TD.v (t_int)) (as_cons keeps_D (TD.v (t_int)) (as_nil))))))) (blkOk_by (N := ["shape", "size", "simplex", "height"]) (sc := defScope s__law_counts) (own := [("size", 1)]) (by first | decide +kernel | rfl | with_unfolding_all rfl)) (fun _ _ _ _ _ => g_name 1 hN) (fun _ _ _ _ _ => cs_nil) (fun _ _ _ _ _ => t_len z.b_len (as_cons keeps_O (TO.v (TF.o (t_lc rfl hN (i_any (t_var 0)) (blkOk_by (N := ["shape", "size", "simplex", "height"]) (sc := _) (own := [("simplex", 2), ("height", 3)]) (by first | decide +kernel | rfl | with_unfolding_all rfl)) (fun _ _ _ _ _ => g_tup rfl (g_cons (g_name 2 hN) (g_cons (g_name 3 hN) (g_nil)))) (fun _ _ _ _ _ => cs_one (b_eq u64 (TD.o (t_len z.b_len (as_cons keeps_O (TO.v (TD.o (t_var 2))) (as_nil)))) (TD.o (t_var 1)))) (fun _ _ _ _ _ => t_int)))) (as_nil)))))) (as_nil))) rfl)
    (ss_nil)
abbrev s__law_euler : Stmt := topS 16
theorem sc__law_euler : FnScope ["shape", "counts"] ["shape"] (defScope s__law_euler) := ⟨rfl, rfl, rfl, by decide +kernel, rfl, by decide +kernel, by decide +kernel⟩
set_option maxHeartbeats 400000 in
theorem ok__law_euler {f : Addr} {fd : FuncData} (F : Fun K "_law_euler" "_law_euler" s__law_euler f fd) (z : Zs mg) (d__law_counts : Df P w K mg base 1 "_law_counts" 1 (rD K) F__law_counts) (gm : mg "_law_euler" = some (.ref f)) : Df P w K mg base 2 "_law_euler" 1 (rD K) F__law_euler := by
  have bb : Binds K fd ["shape"] [] := F.binds fun _ _ _ _ _ _ us hl => (match us, hl with | [_], _ => rfl)
  refine ⟨f, fd, ["shape"], ?_, bb, gm, F.kp⟩
  suffices body : ∀ (cdv : Value) (A : Around) (outer : List PySem.Env) (s : Shared) (H : Hp) (E : XK) (A0 : List Addr), Room 1 (A.deeper (PyProof.Rows.envOfC "_law_euler" (defScope s__law_euler) s.heap.objs.size f cdv)) → A.guards = some [] →
      TSs (cxOf (L2.CX P w) P w K mg base ["shape", "counts"] "_law_euler" (defScope s__law_euler) f cdv A outer s H E) ⟨fun cls d _ H => E cls d H, rD K, [], H, A0⟩ (defBody s__law_euler) G__law_euler by
    exact fn_rule (k := 1) (G := G__law_euler) (N := ["shape", "counts"]) (ps := ["shape"]) (rl := rD K) (fall := .ok .none) F sc__law_euler (.inl ⟨rfl, rfl⟩) body
  intro cdv A outer s H E A0 hr hg
  have hN := sc__law_euler.nd
  have hu := hr.un
  have u64 : (A.deeper (PyProof.Rows.envOfC "_law_euler" (defScope s__law_euler) s.heap.objs.size f cdv)).units + 64 < cLine := by omega
  have u65 : (A.deeper (PyProof.Rows.envOfC "_law_euler" (defScope s__law_euler) s.heap.objs.size f cdv)).units + 65 < cLine := by omega
  have u66 : (A.deeper (PyProof.Rows.envOfC "_law_euler" (defScope s__law_euler) s.heap.objs.size f cdv)).units + 66 < cLine := by omega
  have tk : Takes (cxOf (L2.CX P w) P w K mg base ["shape", "counts"] "_law_euler" (defScope s__law_euler) f cdv A outer s H E) (fun cls d _ H => E cls d H) := takes_of rfl rfl rfl rfl
  have hp : PassesOwn (model P w) (cxOf (L2.CX P w) P w K mg base ["shape", "counts"] "_law_euler" (defScope s__law_euler) f cdv A outer s H E).A (cxOf (L2.CX P w) P w K mg base ["shape", "counts"] "_law_euler" (defScope s__law_euler) f cdv A outer s H E).env (cxOf (L2.CX P w) P w K mg base ["shape", "counts"] "_law_euler" (defScope s__law_euler) f cdv A outer s H E).xe := passes_of (X := cxOf (L2.CX P w) P w K mg base ["shape", "counts"] "_law_euler" (defScope s__law_euler) f cdv A outer s H E) rfl
  exact ss_cons (s_set 1 hN (t_callD d__law_counts hr hg (as_cons keeps_D (TD.v (t_var 0)) (as_nil)) (aC_len a0_len) back_D))
    (ss_cons (s_ret (t_op back_D op_addA o_add (TD.o (t_op back_D op_sub o_sub (TD.o (t_ix (TD.o (t_var 1)) (TD.o (t_int)))) (TD.o (t_ix (TD.o (t_var 1)) (TD.o (t_int)))))) (TD.o (t_ix (TD.o (t_var 1)) (TD.o (t_int))))) rfl)
    (ss_nil))
abbrev s_law : Stmt := topS 17
theorem sc_law : FnScope ["script", "shape", "given", "heights", "simplex", "height", "pool", "level", "told", "due", "item"] ["script"] (defScope s_law) := ⟨rfl, rfl, rfl, by decide +kernel, rfl, by decide +kernel, by decide +kernel⟩
set_option maxHeartbeats 400000 in
theorem ok_law {f : Addr} {fd : FuncData} (F : Fun K "law" "law" s_law f fd) (z : Zs mg) (d__law_cell : Df P w K mg base 1 "_law_cell" 2 (rD K) F__law_cell) (d__law_counts : Df P w K mg base 1 "_law_counts" 1 (rD K) F__law_counts) (d__law_euler : Df P w K mg base 2 "_law_euler" 1 (rD K) F__law_euler) (d__law_shape : Df P w K mg base 3 "_law_shape" 2 (rD K) F__law_shape) (d_counts_of : Df P w K mg base 2 "counts_of" 1 (rD K) F_counts_of) (d_euler_of : Df P w K mg base 3 "euler_of" 1 (rD K) F_euler_of) (d_euler_steps : Df P w K mg base 4 "euler_steps" 1 (rF K) F_euler_steps) (d_heights_of : Df P w K mg base 1 "heights_of" 1 (rF K) F_heights_of) (d_shape_at : Df P w K mg base 1 "shape_at" 2 (rF K) F_shape_at) : FnG P w K mg base 5 f fd ["script"] (spD K mg (rD K) 1 F_law) := by
  suffices body : ∀ (cdv : Value) (A : Around) (outer : List PySem.Env) (s : Shared) (H : Hp) (E : XK) (A0 : List Addr), Room 4 (A.deeper (PyProof.Rows.envOfC "law" (defScope s_law) s.heap.objs.size f cdv)) → A.guards = some [] →
      TSs (cxOf (L2.CX P w) P w K mg base ["script", "shape", "given", "heights", "simplex", "height", "pool", "level", "told", "due", "item"] "law" (defScope s_law) f cdv A outer s H E) ⟨fun cls d _ H => E cls d H, rD K, [], H, A0⟩ (defBody s_law) G_law by
    exact fn_rule (k := 4) (G := G_law) (N := ["script", "shape", "given", "heights", "simplex", "height", "pool", "level", "told", "due", "item"]) (ps := ["script"]) (rl := rD K) (fall := .ok .none) F sc_law (.inl ⟨rfl, rfl⟩) body
  intro cdv A outer s H E A0 hr hg
  have hN := sc_law.nd
  have hu := hr.un
  have u64 : (A.deeper (PyProof.Rows.envOfC "law" (defScope s_law) s.heap.objs.size f cdv)).units + 64 < cLine := by omega
  have u65 : (A.deeper (PyProof.Rows.envOfC "law" (defScope s_law) s.heap.objs.size f cdv)).units + 65 < cLine := by omega
  have u66 : (A.deeper (PyProof.Rows.envOfC "law" (defScope s_law) s.heap.objs.size f cdv)).units + 66 < cLine := by omega
  have tk : Takes (cxOf (L2.CX P w) P w K mg base ["script", "shape", "given", "heights", "simplex", "height", "pool", "level", "told", "due", "item"] "law" (defScope s_law) f cdv A outer s H E) (fun cls d _ H => E cls d H) := takes_of rfl rfl rfl rfl
  have hp : PassesOwn (model P w) (cxOf (L2.CX P w) P w K mg base ["script", "shape", "given", "heights", "simplex", "height", "pool", "level", "told", "due", "item"] "law" (defScope s_law) f cdv A outer s H E).A (cxOf (L2.CX P w) P w K mg base ["script", "shape", "given", "heights", "simplex", "height", "pool", "level", "told", "due", "item"] "law" (defScope s_law) f cdv A outer s H E).env (cxOf (L2.CX P w) P w K mg base ["script", "shape", "given", "heights", "simplex", "height", "pool", "level", "told", "due", "item"] "law" (defScope s_law) f cdv A outer s H E).xe := passes_of (X := cxOf (L2.CX P w) P w K mg base ["script", "shape", "given", "heights", "simplex", "height", "pool", "level", "told", "due", "item"] "law" (defScope s_law) f cdv A outer s H E) rfl
  exact ss_cons (s_set 1 hN (t_callD d__law_shape hr hg (as_cons keeps_D (TD.v (t_var 0)) (as_cons keeps_D (TD.v (t_int)) (as_nil))) (aC_len (aC_len a0_len)) back_D))
    (ss_cons (s_set 2 hN (TF.d (t_listc z.b_list (as_cons keeps_O (TO.v (TD.o (t_var 1))) (as_nil)))))
    (ss_cons (s_set 3 hN (TF.d (t_lst (as_nil))))
    (ss_cons (s_for hp rfl (i_any (t_var 1)) (g_tup rfl (g_cons (g_name 4 hN) (g_cons (g_name 5 hN) (g_nil)))) (ss_cons (s_if (b_notin u65 (TD.o (t_var 5)) (TD.o (t_var 3))) (ss_cons (s_set 3 hN (TF.d (t_sortA u64 z.b_sorted (as_cons keeps_O (TO.v (TD.o (t_op back_D op_addA o_add (TD.o (t_var 3)) (TF.o (t_lst (as_cons keeps_D (TD.v (t_var 5)) (as_nil))))))) (as_nil)))))
    (ss_nil)) (ss_nil))
    (ss_nil)))
    (ss_cons (s_if (b_w (w_or (b_ne u64 (TD.o (t_repr hg u66 z.b_repr (as_cons keeps_O (TO.v (TF.o (t_callD d_heights_of hr hg (as_cons keeps_D (TD.v (t_var 2)) (as_nil)) (aC_len a0_len) back_F))) (as_nil)))) (TD.o (t_repr hg u66 z.b_repr (as_cons keeps_O (TO.v (TD.o (t_var 3))) (as_nil))))) (w_or1 (b_ne u64 (TD.o (t_repr hg u66 z.b_repr (as_cons keeps_O (TO.v (TD.o (t_callD d_counts_of hr hg (as_cons keeps_D (TD.v (t_var 2)) (as_nil)) (aC_len a0_len) back_D))) (as_nil)))) (TD.o (t_repr hg u66 z.b_repr (as_cons keeps_O (TO.v (TD.o (t_callD d__law_counts hr hg (as_cons keeps_D (TD.v (t_var 1)) (as_nil)) (aC_len a0_len) back_D))) (as_nil)))))))) (ss_cons (s_ret (t_bool) rfl)
    (ss_nil)) (ss_nil))
    (ss_cons (s_set 6 hN (t_op back_D op_addA o_add (TD.o (t_var 3)) (TF.o (t_lst (as_cons keeps_D (TD.v (t_neg (TD.o (t_int)))) (as_cons keeps_D (TD.v (t_int)) (as_cons keeps_D (TD.v (t_int)) (as_cons keeps_D (TD.v (t_neg (TD.o (t_int)))) (as_cons keeps_D (TD.v (t_op back_D op_sub o_sub (TD.o (t_op back_D op_mod o_mod (TD.o (t_intc z.b_int (as_cons keeps_O (TO.v (TD.o (t_callD d__law_cell hr hg (as_cons keeps_D (TD.v (t_var 0)) (as_cons keeps_D (TD.v (t_int)) (as_nil))) (aC_len (aC_len a0_len)) back_D))) (as_nil)))) (TD.o (t_int)))) (TD.o (t_int)))) (as_cons keeps_D (TD.v (t_intc z.b_int (as_cons keeps_O (TO.v (TD.o (t_callD d__law_cell hr hg (as_cons keeps_D (TD.v (t_var 0)) (as_cons keeps_D (TD.v (t_int)) (as_nil))) (aC_len (aC_len a0_len)) back_D))) (as_nil)))) (as_nil)))))))))))
    (ss_cons (s_set 7 hN (t_ix (TD.o (t_var 6)) (TD.o (t_op back_D op_mod o_mod (TD.o (t_intc z.b_int (as_cons keeps_O (TO.v (TD.o (t_callD d__law_cell hr hg (as_cons keeps_D (TD.v (t_var 0)) (as_cons keeps_D (TD.v (t_int)) (as_nil))) (aC_len (aC_len a0_len)) back_D))) (as_nil)))) (TD.o (t_len z.b_len (as_cons keeps_O (TO.v (TD.o (t_var 6))) (as_nil))))))))
    (ss_cons (s_own 8 hN (t_callD d_shape_at hr hg (as_cons keeps_D (TD.v (t_var 2)) (as_cons keeps_D (TD.v (t_var 7)) (as_nil))) (aC_len (aC_len a0_len)) back_F))
    (ss_cons (s_if (b_w (w_or (b_ne u64 (TD.o (t_repr hg u66 z.b_repr (as_cons keeps_O (TO.v (t_own 8)) (as_nil)))) (TD.o (t_repr hg u66 z.b_repr (as_cons keeps_O (TO.v (TF.o (t_lc rfl hN (i_any (t_var 1)) (blkOk_by (N := ["script", "shape", "given", "heights", "simplex", "height", "pool", "level", "told", "due", "item"]) (sc := defScope s_law) (own := [("item", 10)]) (by first | decide +kernel | rfl | with_unfolding_all rfl)) (fun _ _ _ _ _ => g_name 10 hN) (fun _ _ _ _ _ => cs_one (b_leA u64 (TD.o (t_ix (TD.o (t_var 10)) (TD.o (t_int)))) (TD.o (t_var 7)))) (fun _ _ _ _ _ => t_var 10)))) (as_nil))))) (w_or1 (b_ne u64 (TD.o (t_repr hg u66 z.b_repr (as_cons keeps_O (TO.v (TD.o (t_callD d_euler_of hr hg (as_cons keeps_D (TD.v (t_var 2)) (as_nil)) (aC_len a0_len) back_D))) (as_nil)))) (TD.o (t_repr hg u66 z.b_repr (as_cons keeps_O (TO.v (TD.o (t_callD d__law_euler hr hg (as_cons keeps_D (TD.v (t_var 1)) (as_nil)) (aC_len a0_len) back_D))) (as_nil)))))))) (ss_cons (s_ret (t_bool) rfl)
    (ss_nil)) (ss_nil))
    (ss_cons (s_app 8 (t_str))
    (ss_cons (s_setLc 9 rfl hN (sw_true rfl rfl rfl (by decide +kernel)) (i_any (t_var 3)) (blkOk_by (N := ["script", "shape", "given", "heights", "simplex", "height", "pool", "level", "told", "due", "item"]) (sc := defScope s_law) (own := [("height", 5)]) (by first | decide +kernel | rfl | with_unfolding_all rfl)) (fun _ _ _ _ _ => g_name 5 hN) (fun _ _ _ _ _ => cs_nil) (fun _ _ _ _ _ => t_tup (as_cons keeps_D (TD.v (t_var 5)) (as_cons keeps_D (TD.v (t_callD d__law_euler hr hg (as_cons keeps_D (TD.v (TF.d (t_lc rfl hN (i_any (t_var 1)) (blkOk_by (N := ["script", "shape", "given", "heights", "simplex", "height", "pool", "level", "told", "due", "item"]) (sc := _) (own := [("item", 10)]) (by first | decide +kernel | rfl | with_unfolding_all rfl)) (fun _ _ _ _ _ => g_name 10 hN) (fun _ _ _ _ _ => cs_one (b_leA u64 (TD.o (t_ix (TD.o (t_var 10)) (TD.o (t_int)))) (TD.o (t_var 5)))) (fun _ _ _ _ _ => t_var 10)))) (as_nil)) (aC_len a0_len) back_D)) (as_nil)))))
    (ss_cons (s_ret (t_and (t_eq u64 (TD.o (t_repr hg u66 z.b_repr (as_cons keeps_O (TO.v (TF.o (t_callD d_euler_steps hr hg (as_cons keeps_D (TD.v (t_var 2)) (as_nil)) (aC_len a0_len) back_F))) (as_nil)))) (TD.o (t_repr hg u66 z.b_repr (as_cons keeps_O (TO.v (TD.o (t_var 9))) (as_nil))))) (t_one (t_eq u64 (TD.o (t_var 2)) (TD.o (t_var 1))))) rfl)
    (ss_nil))))))))))))
end
end Bd
namespace Bd
open PySem L2
open Sh
open Sc (Bd1 atL cnt cntD eul at_it1 at_it0)
theorem e_cell : F__law_cell = Lw.F_cell := rfl
theorem e_shape : F__law_shape = Sc.F__law_shape := rfl
theorem e_heights : F_heights_of = Sc.F_heights_of := rfl
theorem e_at : F_shape_at = Sc.F_shape_at := rfl
theorem e_euler : F_euler_of = Sc.F_euler_of := rfl
def cntL (it : List Ih) : D → D
  | .int k => .int (cnt it k.toNat)
  | _ => .none
theorem lcounts_ok {it : List Ih} (hl : it.length ≤ 4000) : F__law_counts [.list (it.map itD)] = .ok (cntD it) := by
  refine Wn.eq (wn_runD ?_)
  show Sn (G__law_counts [.d (.list (it.map itD)), .no, .no, .no]) _ _ _ _
  unfold G__law_counts
  simp only [wn_ok, wn_some, wn_only, wn_noex, wn_e2, wn_e1, wn_eN, wn_a0, wn_aC, wn_call, wn_tb, wn_tup, wn_lst, wn_andB, wn_orB, wn_notB, wn_andV, wn_orV, wn_notV, wn_ifV, wn_iA, wn_iR1, wn_iR2, wn_iZ, wn_iEn, wn_iRR, wn_sl, wn_p0, wn_p1, wn_up, wn_upB, wn_upI, wn_x2, wn_x0, wn_xC, wn_xN, wn_xb, wn_xAnd, wn_xOr, wn_xNot, wn_xIf, wn_xCall, wn_xR1, wn_xR2, sn_nx, sn_rt, sn_bk, sn_ct, sn_seq, sn_set, sn_ret, sn_expr, sn_if, sn_for, sn_xSet, sn_xRet, sn_xExpr, sn_xIf, sn_xFor, sn_asg, sn_xAsg, sn_own, sn_xOwn, gv_zero, gv_succ, go_own, go_dat, go_succ, k0_def, gN_def, tru_bool, tru_none, tru_int, tru_list, asSeq_list, asSeq_tup, addV_int, subV_int, ltA_i, leA_i, gtA_i, geA_i, negV_int, intV_int, lenV_list, lenV_tup, ixV_list, ixV_tup, asInt_int, slV_list, slV_tup, slL_list, revV_tup, revV_list, tupleV_list, listV_list, listV_tup, eqV_str, neV_str, eqV_int, List.set_cons_zero, List.set_cons_succ, List.getElem?_cons_zero, List.getElem?_cons_succ, List.length_cons, List.length_nil, ↓reduceIte, Bool.false_eq_true, Bool.not_true, Bool.not_false, wn_ite, gT2, gT3, neV_tup, eqV_tup, in_tup, notin_tup', lineN_eq, Nat.reduceAdd, Nat.reduceLeDiff, Nat.zero_le, true_and, and_true, List.map_nil, List.map_cons, exists_eq_left', Option.some.injEq, PyData.list.injEq, exists_eq_left, PyData.int.injEq, R.ok.injEq, Sl.own.injEq]
  refine wn_comp (xs := [.int 1, .int 2, .int 3]) (fun _ => true) (cntL it) ?_ ?_ ?_ ?_
  · simp only [wn_ok, wn_some, wn_only, wn_noex, wn_e2, wn_e1, wn_eN, wn_a0, wn_aC, wn_call, wn_tb, wn_tup, wn_lst, wn_andB, wn_orB, wn_notB, wn_andV, wn_orV, wn_notV, wn_ifV, wn_iA, wn_iR1, wn_iR2, wn_iZ, wn_iEn, wn_iRR, wn_sl, wn_p0, wn_p1, wn_up, wn_upB, wn_upI, wn_x2, wn_x0, wn_xC, wn_xN, wn_xb, wn_xAnd, wn_xOr, wn_xNot, wn_xIf, wn_xCall, wn_xR1, wn_xR2, sn_nx, sn_rt, sn_bk, sn_ct, sn_seq, sn_set, sn_ret, sn_expr, sn_if, sn_for, sn_xSet, sn_xRet, sn_xExpr, sn_xIf, sn_xFor, sn_asg, sn_xAsg, sn_own, sn_xOwn, gv_zero, gv_succ, go_own, go_dat, go_succ, k0_def, gN_def, tru_bool, tru_none, tru_int, tru_list, asSeq_list, asSeq_tup, addV_int, subV_int, ltA_i, leA_i, gtA_i, geA_i, negV_int, intV_int, lenV_list, lenV_tup, ixV_list, ixV_tup, asInt_int, slV_list, slV_tup, slL_list, revV_tup, revV_list, tupleV_list, listV_list, listV_tup, eqV_str, neV_str, eqV_int, List.set_cons_zero, List.set_cons_succ, List.getElem?_cons_zero, List.getElem?_cons_succ, List.length_cons, List.length_nil, ↓reduceIte, Bool.false_eq_true, Bool.not_true, Bool.not_false, wn_ite, gT2, gT3, neV_tup, eqV_tup, in_tup, notin_tup', lineN_eq, Nat.reduceAdd, Nat.reduceLeDiff, Nat.zero_le, true_and, and_true, List.map_nil, List.map_cons, exists_eq_left', Option.some.injEq, PyData.list.injEq, exists_eq_left, PyData.int.injEq, R.ok.injEq, Sl.own.injEq]
  · intro y m
    obtain ⟨k, rfl⟩ : ∃ k : Nat, y = .int ((k : Nat) : Int) := by
      simp only [List.mem_cons, List.not_mem_nil, or_false] at m
      rcases m with rfl | rfl | rfl
      · exact ⟨1, rfl⟩
      · exact ⟨2, rfl⟩
      · exact ⟨3, rfl⟩
    refine ⟨[.d (.list (it.map itD)), .d (.int ((k : Nat) : Int)), .no, .no], rfl, wn_ok.mpr ⟨rfl, fun _ => ?_⟩⟩
    simp only [wn_ok, wn_some, wn_only, wn_noex, wn_e2, wn_e1, wn_eN, wn_a0, wn_aC, wn_call, wn_tb, wn_tup, wn_lst, wn_andB, wn_orB, wn_notB, wn_andV, wn_orV, wn_notV, wn_ifV, wn_iA, wn_iR1, wn_iR2, wn_iZ, wn_iEn, wn_iRR, wn_sl, wn_p0, wn_p1, wn_up, wn_upB, wn_upI, wn_x2, wn_x0, wn_xC, wn_xN, wn_xb, wn_xAnd, wn_xOr, wn_xNot, wn_xIf, wn_xCall, wn_xR1, wn_xR2, sn_nx, sn_rt, sn_bk, sn_ct, sn_seq, sn_set, sn_ret, sn_expr, sn_if, sn_for, sn_xSet, sn_xRet, sn_xExpr, sn_xIf, sn_xFor, sn_asg, sn_xAsg, sn_own, sn_xOwn, gv_zero, gv_succ, go_own, go_dat, go_succ, k0_def, gN_def, tru_bool, tru_none, tru_int, tru_list, asSeq_list, asSeq_tup, addV_int, subV_int, ltA_i, leA_i, gtA_i, geA_i, negV_int, intV_int, lenV_list, lenV_tup, ixV_list, ixV_tup, asInt_int, slV_list, slV_tup, slL_list, revV_tup, revV_list, tupleV_list, listV_list, listV_tup, eqV_str, neV_str, eqV_int, List.set_cons_zero, List.set_cons_succ, List.getElem?_cons_zero, List.getElem?_cons_succ, List.length_cons, List.length_nil, ↓reduceIte, Bool.false_eq_true, Bool.not_true, Bool.not_false, wn_ite, gT2, gT3, neV_tup, eqV_tup, in_tup, notin_tup', lineN_eq, Nat.reduceAdd, Nat.reduceLeDiff, Nat.zero_le, true_and, and_true, List.map_nil, List.map_cons, exists_eq_left', Option.some.injEq, PyData.list.injEq, exists_eq_left, PyData.int.injEq, R.ok.injEq, Sl.own.injEq]
    refine wn_comp (xs := it.map itD) (byIt fun p => decide (p.1.length = k)) (onIt fun _ => .int 1) ?_ ?_ ?_ ?_
    · simp only [wn_ok, wn_some, wn_only, wn_noex, wn_e2, wn_e1, wn_eN, wn_a0, wn_aC, wn_call, wn_tb, wn_tup, wn_lst, wn_andB, wn_orB, wn_notB, wn_andV, wn_orV, wn_notV, wn_ifV, wn_iA, wn_iR1, wn_iR2, wn_iZ, wn_iEn, wn_iRR, wn_sl, wn_p0, wn_p1, wn_up, wn_upB, wn_upI, wn_x2, wn_x0, wn_xC, wn_xN, wn_xb, wn_xAnd, wn_xOr, wn_xNot, wn_xIf, wn_xCall, wn_xR1, wn_xR2, sn_nx, sn_rt, sn_bk, sn_ct, sn_seq, sn_set, sn_ret, sn_expr, sn_if, sn_for, sn_xSet, sn_xRet, sn_xExpr, sn_xIf, sn_xFor, sn_asg, sn_xAsg, sn_own, sn_xOwn, gv_zero, gv_succ, go_own, go_dat, go_succ, k0_def, gN_def, tru_bool, tru_none, tru_int, tru_list, asSeq_list, asSeq_tup, addV_int, subV_int, ltA_i, leA_i, gtA_i, geA_i, negV_int, intV_int, lenV_list, lenV_tup, ixV_list, ixV_tup, asInt_int, slV_list, slV_tup, slL_list, revV_tup, revV_list, tupleV_list, listV_list, listV_tup, eqV_str, neV_str, eqV_int, List.set_cons_zero, List.set_cons_succ, List.getElem?_cons_zero, List.getElem?_cons_succ, List.length_cons, List.length_nil, ↓reduceIte, Bool.false_eq_true, Bool.not_true, Bool.not_false, wn_ite, gT2, gT3, neV_tup, eqV_tup, in_tup, notin_tup', lineN_eq, Nat.reduceAdd, Nat.reduceLeDiff, Nat.zero_le, true_and, and_true, List.map_nil, List.map_cons, exists_eq_left', Option.some.injEq, PyData.list.injEq, exists_eq_left, PyData.int.injEq, R.ok.injEq, Sl.own.injEq]
    · intro y m
      obtain ⟨p, mp, rfl⟩ := List.mem_map.mp m
      refine ⟨[.d (.list (it.map itD)), .d (.int ((k : Nat) : Int)), .d (tupI p.1), .d (.int p.2)], rfl, ?_⟩
      simp only [wn_ok, wn_some, wn_only, wn_noex, wn_e2, wn_e1, wn_eN, wn_a0, wn_aC, wn_call, wn_tb, wn_tup, wn_lst, wn_andB, wn_orB, wn_notB, wn_andV, wn_orV, wn_notV, wn_ifV, wn_iA, wn_iR1, wn_iR2, wn_iZ, wn_iEn, wn_iRR, wn_sl, wn_p0, wn_p1, wn_up, wn_upB, wn_upI, wn_x2, wn_x0, wn_xC, wn_xN, wn_xb, wn_xAnd, wn_xOr, wn_xNot, wn_xIf, wn_xCall, wn_xR1, wn_xR2, sn_nx, sn_rt, sn_bk, sn_ct, sn_seq, sn_set, sn_ret, sn_expr, sn_if, sn_for, sn_xSet, sn_xRet, sn_xExpr, sn_xIf, sn_xFor, sn_asg, sn_xAsg, sn_own, sn_xOwn, gv_zero, gv_succ, go_own, go_dat, go_succ, k0_def, gN_def, tru_bool, tru_none, tru_int, tru_list, asSeq_list, asSeq_tup, addV_int, subV_int, ltA_i, leA_i, gtA_i, geA_i, negV_int, intV_int, lenV_list, lenV_tup, ixV_list, ixV_tup, asInt_int, slV_list, slV_tup, slL_list, revV_tup, revV_list, tupleV_list, listV_list, listV_tup, eqV_str, neV_str, eqV_int, List.set_cons_zero, List.set_cons_succ, List.getElem?_cons_zero, List.getElem?_cons_succ, List.length_cons, List.length_nil, ↓reduceIte, Bool.false_eq_true, Bool.not_true, Bool.not_false, wn_ite, gT2, gT3, neV_tup, eqV_tup, in_tup, notin_tup', lineN_eq, Nat.reduceAdd, Nat.reduceLeDiff, Nat.zero_le, true_and, and_true, List.map_nil, List.map_cons, exists_eq_left', Option.some.injEq, PyData.list.injEq, exists_eq_left, PyData.int.injEq, R.ok.injEq, Sl.own.injEq, len_tup]
      refine ⟨?_, fun _ => by rw [onIt_it]⟩
      rw [byIt_it, Bool.eq_iff_iff, beq_iff_eq, decide_eq_true_iff]
      omega
    · rw [List.length_map, lineN_eq]; omega
    · rw [byIts]
      simp only [wn_ok, wn_some, wn_only, wn_noex, wn_e2, wn_e1, wn_eN, wn_a0, wn_aC, wn_call, wn_tb, wn_tup, wn_lst, wn_andB, wn_orB, wn_notB, wn_andV, wn_orV, wn_notV, wn_ifV, wn_iA, wn_iR1, wn_iR2, wn_iZ, wn_iEn, wn_iRR, wn_sl, wn_p0, wn_p1, wn_up, wn_upB, wn_upI, wn_x2, wn_x0, wn_xC, wn_xN, wn_xb, wn_xAnd, wn_xOr, wn_xNot, wn_xIf, wn_xCall, wn_xR1, wn_xR2, sn_nx, sn_rt, sn_bk, sn_ct, sn_seq, sn_set, sn_ret, sn_expr, sn_if, sn_for, sn_xSet, sn_xRet, sn_xExpr, sn_xIf, sn_xFor, sn_asg, sn_xAsg, sn_own, sn_xOwn, gv_zero, gv_succ, go_own, go_dat, go_succ, k0_def, gN_def, tru_bool, tru_none, tru_int, tru_list, asSeq_list, asSeq_tup, addV_int, subV_int, ltA_i, leA_i, gtA_i, geA_i, negV_int, intV_int, lenV_list, lenV_tup, ixV_list, ixV_tup, asInt_int, slV_list, slV_tup, slL_list, revV_tup, revV_list, tupleV_list, listV_list, listV_tup, eqV_str, neV_str, eqV_int, List.set_cons_zero, List.set_cons_succ, List.getElem?_cons_zero, List.getElem?_cons_succ, List.length_cons, List.length_nil, ↓reduceIte, Bool.false_eq_true, Bool.not_true, Bool.not_false, wn_ite, gT2, gT3, neV_tup, eqV_tup, in_tup, notin_tup', lineN_eq, Nat.reduceAdd, Nat.reduceLeDiff, Nat.zero_le, true_and, and_true, List.map_nil, List.map_cons, exists_eq_left', Option.some.injEq, PyData.list.injEq, exists_eq_left, PyData.int.injEq, R.ok.injEq, Sl.own.injEq]
      rw [List.length_map]
      rfl
  · rw [lineN_eq]; decide
  · have e : (([PyData.int 1, .int 2, .int 3].filter fun _ => true).map (cntL it)) = [.int (cnt it 1), .int (cnt it 2), .int (cnt it 3)] := rfl
    rw [e]
    simp only [wn_ok, wn_some, wn_only, wn_noex, wn_e2, wn_e1, wn_eN, wn_a0, wn_aC, wn_call, wn_tb, wn_tup, wn_lst, wn_andB, wn_orB, wn_notB, wn_andV, wn_orV, wn_notV, wn_ifV, wn_iA, wn_iR1, wn_iR2, wn_iZ, wn_iEn, wn_iRR, wn_sl, wn_p0, wn_p1, wn_up, wn_upB, wn_upI, wn_x2, wn_x0, wn_xC, wn_xN, wn_xb, wn_xAnd, wn_xOr, wn_xNot, wn_xIf, wn_xCall, wn_xR1, wn_xR2, sn_nx, sn_rt, sn_bk, sn_ct, sn_seq, sn_set, sn_ret, sn_expr, sn_if, sn_for, sn_xSet, sn_xRet, sn_xExpr, sn_xIf, sn_xFor, sn_asg, sn_xAsg, sn_own, sn_xOwn, gv_zero, gv_succ, go_own, go_dat, go_succ, k0_def, gN_def, tru_bool, tru_none, tru_int, tru_list, asSeq_list, asSeq_tup, addV_int, subV_int, ltA_i, leA_i, gtA_i, geA_i, negV_int, intV_int, lenV_list, lenV_tup, ixV_list, ixV_tup, asInt_int, slV_list, slV_tup, slL_list, revV_tup, revV_list, tupleV_list, listV_list, listV_tup, eqV_str, neV_str, eqV_int, List.set_cons_zero, List.set_cons_succ, List.getElem?_cons_zero, List.getElem?_cons_succ, List.length_cons, List.length_nil, ↓reduceIte, Bool.false_eq_true, Bool.not_true, Bool.not_false, wn_ite, gT2, gT3, neV_tup, eqV_tup, in_tup, notin_tup', lineN_eq, Nat.reduceAdd, Nat.reduceLeDiff, Nat.zero_le, true_and, and_true, List.map_nil, List.map_cons, exists_eq_left', Option.some.injEq, PyData.list.injEq, exists_eq_left, PyData.int.injEq, R.ok.injEq, Sl.own.injEq]
    rfl
theorem leuler_ok {it : List Ih} (hl : it.length ≤ 4000) : F__law_euler [.list (it.map itD)] = .ok (.int (eul it)) := by
  refine Wn.eq (wn_runD ?_)
  show Sn (G__law_euler [.d (.list (it.map itD)), .no]) _ _ _ _
  unfold G__law_euler
  have x0 : atD [PyData.int (cnt it 1), .int (cnt it 2), .int (cnt it 3)] 0 = some (.int (cnt it 1)) := rfl
  have x1 : atD [PyData.int (cnt it 1), .int (cnt it 2), .int (cnt it 3)] 1 = some (.int (cnt it 2)) := rfl
  have x2 : atD [PyData.int (cnt it 1), .int (cnt it 2), .int (cnt it 3)] 2 = some (.int (cnt it 3)) := rfl
  simp only [wn_ok, wn_some, wn_only, wn_noex, wn_e2, wn_e1, wn_eN, wn_a0, wn_aC, wn_call, wn_tb, wn_tup, wn_lst, wn_andB, wn_orB, wn_notB, wn_andV, wn_orV, wn_notV, wn_ifV, wn_iA, wn_iR1, wn_iR2, wn_iZ, wn_iEn, wn_iRR, wn_sl, wn_p0, wn_p1, wn_up, wn_upB, wn_upI, wn_x2, wn_x0, wn_xC, wn_xN, wn_xb, wn_xAnd, wn_xOr, wn_xNot, wn_xIf, wn_xCall, wn_xR1, wn_xR2, sn_nx, sn_rt, sn_bk, sn_ct, sn_seq, sn_set, sn_ret, sn_expr, sn_if, sn_for, sn_xSet, sn_xRet, sn_xExpr, sn_xIf, sn_xFor, sn_asg, sn_xAsg, sn_own, sn_xOwn, gv_zero, gv_succ, go_own, go_dat, go_succ, k0_def, gN_def, tru_bool, tru_none, tru_int, tru_list, asSeq_list, asSeq_tup, addV_int, subV_int, ltA_i, leA_i, gtA_i, geA_i, negV_int, intV_int, lenV_list, lenV_tup, ixV_list, ixV_tup, asInt_int, slV_list, slV_tup, slL_list, revV_tup, revV_list, tupleV_list, listV_list, listV_tup, eqV_str, neV_str, eqV_int, List.set_cons_zero, List.set_cons_succ, List.getElem?_cons_zero, List.getElem?_cons_succ, List.length_cons, List.length_nil, ↓reduceIte, Bool.false_eq_true, Bool.not_true, Bool.not_false, wn_ite, gT2, gT3, neV_tup, eqV_tup, in_tup, notin_tup', lineN_eq, Nat.reduceAdd, Nat.reduceLeDiff, Nat.zero_le, true_and, and_true, List.map_nil, List.map_cons, exists_eq_left', Option.some.injEq, PyData.list.injEq, exists_eq_left, PyData.int.injEq, R.ok.injEq, Sl.own.injEq, lcounts_ok hl, cntD, x0, x1, x2]
  rfl
theorem cnt_le (it : List Ih) (k : Nat) : cnt it k ≤ it.length := List.length_filter_le _ _
theorem atL_le (it : List Ih) (h : Int) : (atL it h).length ≤ it.length := List.length_filter_le _ _
/-- heights and what they tell -/
def stepD (it : List Ih) : D → D
  | .int h => .tuple [.int h, .int (eul (atL it h))]
  | _ => .none
theorem steps_ok {it : List Ih} (sm : ∀ p ∈ it, Smp p.1) (hl : it.length < 4000) : F_euler_steps [.list (it.map itD)] = .ok (.list (((sset (it.map (·.2))).map PyData.int).map (stepD it))) := by
  refine Wn.eq (wn_runD ?_)
  show Sn (G_euler_steps [.d (.list (it.map itD)), .no]) _ _ _ _
  unfold G_euler_steps
  rw [e_heights, e_euler, e_at]
  have ll := sset_len (it.map (·.2))
  rw [List.length_map] at ll
  simp only [wn_ok, wn_some, wn_only, wn_noex, wn_e2, wn_e1, wn_eN, wn_a0, wn_aC, wn_call, wn_tb, wn_tup, wn_lst, wn_andB, wn_orB, wn_notB, wn_andV, wn_orV, wn_notV, wn_ifV, wn_iA, wn_iR1, wn_iR2, wn_iZ, wn_iEn, wn_iRR, wn_sl, wn_p0, wn_p1, wn_up, wn_upB, wn_upI, wn_x2, wn_x0, wn_xC, wn_xN, wn_xb, wn_xAnd, wn_xOr, wn_xNot, wn_xIf, wn_xCall, wn_xR1, wn_xR2, sn_nx, sn_rt, sn_bk, sn_ct, sn_seq, sn_set, sn_ret, sn_expr, sn_if, sn_for, sn_xSet, sn_xRet, sn_xExpr, sn_xIf, sn_xFor, sn_asg, sn_xAsg, sn_own, sn_xOwn, gv_zero, gv_succ, go_own, go_dat, go_succ, k0_def, gN_def, tru_bool, tru_none, tru_int, tru_list, asSeq_list, asSeq_tup, addV_int, subV_int, ltA_i, leA_i, gtA_i, geA_i, negV_int, intV_int, lenV_list, lenV_tup, ixV_list, ixV_tup, asInt_int, slV_list, slV_tup, slL_list, revV_tup, revV_list, tupleV_list, listV_list, listV_tup, eqV_str, neV_str, eqV_int, List.set_cons_zero, List.set_cons_succ, List.getElem?_cons_zero, List.getElem?_cons_succ, List.length_cons, List.length_nil, ↓reduceIte, Bool.false_eq_true, Bool.not_true, Bool.not_false, wn_ite, gT2, gT3, neV_tup, eqV_tup, in_tup, notin_tup', lineN_eq, Nat.reduceAdd, Nat.reduceLeDiff, Nat.zero_le, true_and, and_true, List.map_nil, List.map_cons, exists_eq_left', Option.some.injEq, PyData.list.injEq, exists_eq_left, PyData.int.injEq, R.ok.injEq, Sl.own.injEq]
  refine wn_comp (xs := (sset (it.map (·.2))).map PyData.int) (fun _ => true) (stepD it) ?_ ?_ ?_ ?_
  · simp only [wn_ok, wn_some, wn_only, wn_noex, wn_e2, wn_e1, wn_eN, wn_a0, wn_aC, wn_call, wn_tb, wn_tup, wn_lst, wn_andB, wn_orB, wn_notB, wn_andV, wn_orV, wn_notV, wn_ifV, wn_iA, wn_iR1, wn_iR2, wn_iZ, wn_iEn, wn_iRR, wn_sl, wn_p0, wn_p1, wn_up, wn_upB, wn_upI, wn_x2, wn_x0, wn_xC, wn_xN, wn_xb, wn_xAnd, wn_xOr, wn_xNot, wn_xIf, wn_xCall, wn_xR1, wn_xR2, sn_nx, sn_rt, sn_bk, sn_ct, sn_seq, sn_set, sn_ret, sn_expr, sn_if, sn_for, sn_xSet, sn_xRet, sn_xExpr, sn_xIf, sn_xFor, sn_asg, sn_xAsg, sn_own, sn_xOwn, gv_zero, gv_succ, go_own, go_dat, go_succ, k0_def, gN_def, tru_bool, tru_none, tru_int, tru_list, asSeq_list, asSeq_tup, addV_int, subV_int, ltA_i, leA_i, gtA_i, geA_i, negV_int, intV_int, lenV_list, lenV_tup, ixV_list, ixV_tup, asInt_int, slV_list, slV_tup, slL_list, revV_tup, revV_list, tupleV_list, listV_list, listV_tup, eqV_str, neV_str, eqV_int, List.set_cons_zero, List.set_cons_succ, List.getElem?_cons_zero, List.getElem?_cons_succ, List.length_cons, List.length_nil, ↓reduceIte, Bool.false_eq_true, Bool.not_true, Bool.not_false, wn_ite, gT2, gT3, neV_tup, eqV_tup, in_tup, notin_tup', lineN_eq, Nat.reduceAdd, Nat.reduceLeDiff, Nat.zero_le, true_and, and_true, List.map_nil, List.map_cons, exists_eq_left', Option.some.injEq, PyData.list.injEq, exists_eq_left, PyData.int.injEq, R.ok.injEq, Sl.own.injEq, Sc.heights_ok hl]
  · intro y m
    obtain ⟨h, mh, rfl⟩ := List.mem_map.mp m
    refine ⟨[.d (.list (it.map itD)), .d (.int h)], rfl, wn_ok.mpr ⟨rfl, fun _ => ?_⟩⟩
    have := atL_le it h
    simp only [wn_ok, wn_some, wn_only, wn_noex, wn_e2, wn_e1, wn_eN, wn_a0, wn_aC, wn_call, wn_tb, wn_tup, wn_lst, wn_andB, wn_orB, wn_notB, wn_andV, wn_orV, wn_notV, wn_ifV, wn_iA, wn_iR1, wn_iR2, wn_iZ, wn_iEn, wn_iRR, wn_sl, wn_p0, wn_p1, wn_up, wn_upB, wn_upI, wn_x2, wn_x0, wn_xC, wn_xN, wn_xb, wn_xAnd, wn_xOr, wn_xNot, wn_xIf, wn_xCall, wn_xR1, wn_xR2, sn_nx, sn_rt, sn_bk, sn_ct, sn_seq, sn_set, sn_ret, sn_expr, sn_if, sn_for, sn_xSet, sn_xRet, sn_xExpr, sn_xIf, sn_xFor, sn_asg, sn_xAsg, sn_own, sn_xOwn, gv_zero, gv_succ, go_own, go_dat, go_succ, k0_def, gN_def, tru_bool, tru_none, tru_int, tru_list, asSeq_list, asSeq_tup, addV_int, subV_int, ltA_i, leA_i, gtA_i, geA_i, negV_int, intV_int, lenV_list, lenV_tup, ixV_list, ixV_tup, asInt_int, slV_list, slV_tup, slL_list, revV_tup, revV_list, tupleV_list, listV_list, listV_tup, eqV_str, neV_str, eqV_int, List.set_cons_zero, List.set_cons_succ, List.getElem?_cons_zero, List.getElem?_cons_succ, List.length_cons, List.length_nil, ↓reduceIte, Bool.false_eq_true, Bool.not_true, Bool.not_false, wn_ite, gT2, gT3, neV_tup, eqV_tup, in_tup, notin_tup', lineN_eq, Nat.reduceAdd, Nat.reduceLeDiff, Nat.zero_le, true_and, and_true, List.map_nil, List.map_cons, exists_eq_left', Option.some.injEq, PyData.list.injEq, exists_eq_left, PyData.int.injEq, R.ok.injEq, Sl.own.injEq, Sc.at_ok (h := h) (show it.length ≤ 4000 by omega), Sc.euler_ok (it := atL it h) (fun p m => sm p (List.mem_filter.mp m).1) (show (atL it h).length ≤ 4000 by omega)]
    rfl
  · rw [List.length_map, lineN_eq]; omega
  · rw [List.filter_eq_self.mpr fun _ _ => rfl]
theorem fine_ints {l : List Int} (hb : ∀ x ∈ l, x.natAbs < 10 ^ 22) (hl : l.length ≤ 100) : reprV [.list (l.map PyData.int)] = some (.str (PyData.list (l.map PyData.int)).shown) := by
  refine ((fineW_list (k := 0) (n := 81) fun d m => ?_).mono (Nat.le_refl _) (n' := 10000) ?_).repr (by decide) (by decide)
  · obtain ⟨x, mx, rfl⟩ := List.mem_map.mp m
    exact fineW_int (hb x mx)
  · rw [List.length_map]
    have := Nat.mul_le_mul_right 82 hl
    omega
theorem law_true (ns : List Int) (h : ns.length ≤ 63) : F_law [.list (ns.map PyData.int)] = .ok (.bool true) := by
  refine Wn.eq (wn_runD ?_)
  show Sn (G_law [.d (.list (ns.map PyData.int)), .no, .no, .no, .no, .no, .no, .no, .no, .no, .no]) _ _ _ _
  unfold G_law
  simp only [wn_ok, wn_some, wn_only, wn_noex, wn_e2, wn_e1, wn_eN, wn_a0, wn_aC, wn_call, wn_tb, wn_tup, wn_lst, wn_andB, wn_orB, wn_notB, wn_andV, wn_orV, wn_notV, wn_ifV, wn_iA, wn_iR1, wn_iR2, wn_iZ, wn_iEn, wn_iRR, wn_sl, wn_p0, wn_p1, wn_up, wn_upB, wn_upI, wn_x2, wn_x0, wn_xC, wn_xN, wn_xb, wn_xAnd, wn_xOr, wn_xNot, wn_xIf, wn_xCall, wn_xR1, wn_xR2, sn_nx, sn_rt, sn_bk, sn_ct, sn_seq, sn_set, sn_ret, sn_expr, sn_if, sn_for, sn_xSet, sn_xRet, sn_xExpr, sn_xIf, sn_xFor, sn_asg, sn_xAsg, sn_own, sn_xOwn, gv_zero, gv_succ, go_own, go_dat, go_succ, k0_def, gN_def, tru_bool, tru_none, tru_int, tru_list, asSeq_list, asSeq_tup, addV_int, subV_int, ltA_i, leA_i, gtA_i, geA_i, negV_int, intV_int, lenV_list, lenV_tup, ixV_list, ixV_tup, asInt_int, slV_list, slV_tup, slL_list, revV_tup, revV_list, tupleV_list, listV_list, listV_tup, eqV_str, neV_str, eqV_int, List.set_cons_zero, List.set_cons_succ, List.getElem?_cons_zero, List.getElem?_cons_succ, List.length_cons, List.length_nil, ↓reduceIte, Bool.false_eq_true, Bool.not_true, Bool.not_false, wn_ite, gT2, gT3, neV_tup, eqV_tup, in_tup, notin_tup', lineN_eq, Nat.reduceAdd, Nat.reduceLeDiff, Nat.zero_le, true_and, and_true, List.map_nil, List.map_cons, exists_eq_left', Option.some.injEq, PyData.list.injEq, exists_eq_left, PyData.int.injEq, R.ok.injEq, Sl.own.injEq]
  rw [e_shape]
  refine Sc.shape_w ns 0 fun it b1 => ?_
  have len := b1.len
  have sh := b1.shp
  have sm := sh.smp
  simp only [wn_ok, wn_some, wn_only, wn_noex, wn_e2, wn_e1, wn_eN, wn_a0, wn_aC, wn_call, wn_tb, wn_tup, wn_lst, wn_andB, wn_orB, wn_notB, wn_andV, wn_orV, wn_notV, wn_ifV, wn_iA, wn_iR1, wn_iR2, wn_iZ, wn_iEn, wn_iRR, wn_sl, wn_p0, wn_p1, wn_up, wn_upB, wn_upI, wn_x2, wn_x0, wn_xC, wn_xN, wn_xb, wn_xAnd, wn_xOr, wn_xNot, wn_xIf, wn_xCall, wn_xR1, wn_xR2, sn_nx, sn_rt, sn_bk, sn_ct, sn_seq, sn_set, sn_ret, sn_expr, sn_if, sn_for, sn_xSet, sn_xRet, sn_xExpr, sn_xIf, sn_xFor, sn_asg, sn_xAsg, sn_own, sn_xOwn, gv_zero, gv_succ, go_own, go_dat, go_succ, k0_def, gN_def, tru_bool, tru_none, tru_int, tru_list, asSeq_list, asSeq_tup, addV_int, subV_int, ltA_i, leA_i, gtA_i, geA_i, negV_int, intV_int, lenV_list, lenV_tup, ixV_list, ixV_tup, asInt_int, slV_list, slV_tup, slL_list, revV_tup, revV_list, tupleV_list, listV_list, listV_tup, eqV_str, neV_str, eqV_int, List.set_cons_zero, List.set_cons_succ, List.getElem?_cons_zero, List.getElem?_cons_succ, List.length_cons, List.length_nil, ↓reduceIte, Bool.false_eq_true, Bool.not_true, Bool.not_false, wn_ite, gT2, gT3, neV_tup, eqV_tup, in_tup, notin_tup', lineN_eq, Nat.reduceAdd, Nat.reduceLeDiff, Nat.zero_le, true_and, and_true, List.map_nil, List.map_cons, exists_eq_left', Option.some.injEq, PyData.list.injEq, exists_eq_left, PyData.int.injEq, R.ok.injEq, Sl.own.injEq]
  refine sn_loop (fun xs η => ∃ (rest : List Ih) (dn : List Int) (s4 s5 : Sl), xs = rest.map itD ∧ it.map (·.2) = dn ++ rest.map (·.2) ∧ η = [.d (.list (ns.map PyData.int)), .d (.list (it.map itD)), .d (.list (it.map itD)), .d (.list ((sset dn).map PyData.int)), s4, s5, .no, .no, .no, .no, .no]) ?_ ?_ _ _ ⟨it, [], .no, .no, rfl, rfl, rfl⟩
  · rintro x xs η ⟨rest, dn, s4, s5, e, hd, rfl⟩
    cases rest with
    | nil => cases e
    | cons p rest =>
      rw [List.map_cons] at e
      obtain ⟨rfl, rfl⟩ := List.cons.inj e
      refine ⟨[.d (.list (ns.map PyData.int)), .d (.list (it.map itD)), .d (.list (it.map itD)), .d (.list ((sset dn).map PyData.int)), .d (tupI p.1), .d (.int p.2), .no, .no, .no, .no, .no], rfl, ?_⟩
      have dl : dn.length ≤ it.length := by
        have := congrArg List.length hd
        rw [List.length_map, List.length_append] at this
        omega
      have sl := sset_len dn
      simp only [wn_ok, wn_some, wn_only, wn_noex, wn_e2, wn_e1, wn_eN, wn_a0, wn_aC, wn_call, wn_tb, wn_tup, wn_lst, wn_andB, wn_orB, wn_notB, wn_andV, wn_orV, wn_notV, wn_ifV, wn_iA, wn_iR1, wn_iR2, wn_iZ, wn_iEn, wn_iRR, wn_sl, wn_p0, wn_p1, wn_up, wn_upB, wn_upI, wn_x2, wn_x0, wn_xC, wn_xN, wn_xb, wn_xAnd, wn_xOr, wn_xNot, wn_xIf, wn_xCall, wn_xR1, wn_xR2, sn_nx, sn_rt, sn_bk, sn_ct, sn_seq, sn_set, sn_ret, sn_expr, sn_if, sn_for, sn_xSet, sn_xRet, sn_xExpr, sn_xIf, sn_xFor, sn_asg, sn_xAsg, sn_own, sn_xOwn, gv_zero, gv_succ, go_own, go_dat, go_succ, k0_def, gN_def, tru_bool, tru_none, tru_int, tru_list, asSeq_list, asSeq_tup, addV_int, subV_int, ltA_i, leA_i, gtA_i, geA_i, negV_int, intV_int, lenV_list, lenV_tup, ixV_list, ixV_tup, asInt_int, slV_list, slV_tup, slL_list, revV_tup, revV_list, tupleV_list, listV_list, listV_tup, eqV_str, neV_str, eqV_int, List.set_cons_zero, List.set_cons_succ, List.getElem?_cons_zero, List.getElem?_cons_succ, List.length_cons, List.length_nil, ↓reduceIte, Bool.false_eq_true, Bool.not_true, Bool.not_false, wn_ite, gT2, gT3, neV_tup, eqV_tup, in_tup, notin_tup', lineN_eq, Nat.reduceAdd, Nat.reduceLeDiff, Nat.zero_le, true_and, and_true, List.map_nil, List.map_cons, exists_eq_left', Option.some.injEq, PyData.list.injEq, exists_eq_left, PyData.int.injEq, R.ok.injEq, Sl.own.injEq, nin_ints]
      by_cases c : p.2 ∈ sset dn
      · rw [if_neg (by rw [notIn_iff]; exact fun z => z c)]
        have e2 : sset (dn ++ [p.2]) = sset dn := asc_ext (sset_asc _) (sset_asc _) fun {x} => by
          rw [mem_sset, mem_sset, List.mem_append, List.mem_singleton]
          exact ⟨fun z => z.elim id fun e => by rw [e]; exact mem_sset.mp c, .inl⟩
        exact ⟨rest, dn ++ [p.2], _, _, rfl, by rw [hd, List.append_assoc]; rfl, by rw [e2]⟩
      · rw [if_pos (notIn_iff.mpr c)]
        have u5 : addV (.list ((sset dn).map PyData.int)) (.list [.int p.2]) = some (.list ((sset dn ++ [p.2]).map PyData.int)) := by
          rw [addV_list (by rw [List.length_map, List.length_singleton]; omega), List.map_append]
          rfl
        have nd : (sset dn ++ [p.2]).Nodup := by
          refine List.nodup_append.mpr ⟨(sset_asc dn).nodup, List.nodup_cons.mpr ⟨List.not_mem_nil, List.nodup_nil⟩, fun a ma b mb => ?_⟩
          rw [List.mem_singleton] at mb
          subst mb
          exact fun z => c (z ▸ ma)
        have e2 : isort (sset dn ++ [p.2]) = sset (dn ++ [p.2]) := asc_ext (asc_sort nd) (sset_asc _) fun {x} => by
          rw [(isort_perm _).mem_iff, mem_sset, List.mem_append, List.mem_append, mem_sset]
        have so : sortAV [.list ((sset dn ++ [p.2]).map PyData.int)] = some (.list ((sset (dn ++ [p.2])).map PyData.int)) := by
          rw [sortAV_ints, e2]
        simp only [wn_ok, wn_some, wn_only, wn_noex, wn_e2, wn_e1, wn_eN, wn_a0, wn_aC, wn_call, wn_tb, wn_tup, wn_lst, wn_andB, wn_orB, wn_notB, wn_andV, wn_orV, wn_notV, wn_ifV, wn_iA, wn_iR1, wn_iR2, wn_iZ, wn_iEn, wn_iRR, wn_sl, wn_p0, wn_p1, wn_up, wn_upB, wn_upI, wn_x2, wn_x0, wn_xC, wn_xN, wn_xb, wn_xAnd, wn_xOr, wn_xNot, wn_xIf, wn_xCall, wn_xR1, wn_xR2, sn_nx, sn_rt, sn_bk, sn_ct, sn_seq, sn_set, sn_ret, sn_expr, sn_if, sn_for, sn_xSet, sn_xRet, sn_xExpr, sn_xIf, sn_xFor, sn_asg, sn_xAsg, sn_own, sn_xOwn, gv_zero, gv_succ, go_own, go_dat, go_succ, k0_def, gN_def, tru_bool, tru_none, tru_int, tru_list, asSeq_list, asSeq_tup, addV_int, subV_int, ltA_i, leA_i, gtA_i, geA_i, negV_int, intV_int, lenV_list, lenV_tup, ixV_list, ixV_tup, asInt_int, slV_list, slV_tup, slL_list, revV_tup, revV_list, tupleV_list, listV_list, listV_tup, eqV_str, neV_str, eqV_int, List.set_cons_zero, List.set_cons_succ, List.getElem?_cons_zero, List.getElem?_cons_succ, List.length_cons, List.length_nil, ↓reduceIte, Bool.false_eq_true, Bool.not_true, Bool.not_false, wn_ite, gT2, gT3, neV_tup, eqV_tup, in_tup, notin_tup', lineN_eq, Nat.reduceAdd, Nat.reduceLeDiff, Nat.zero_le, true_and, and_true, List.map_nil, List.map_cons, exists_eq_left', Option.some.injEq, PyData.list.injEq, exists_eq_left, PyData.int.injEq, R.ok.injEq, Sl.own.injEq, u5, so]
        exact ⟨rest, dn ++ [p.2], _, _, rfl, by rw [hd, List.append_assoc]; rfl, rfl⟩
  · rintro η ⟨rest, dn, s4, s5, e, hd, rfl⟩
    have : rest = [] := List.map_eq_nil_iff.mp e.symm
    subst this
    rw [List.map_nil, List.append_nil] at hd
    subst hd
    have hl := sset_len (it.map (·.2))
    rw [List.length_map] at hl
    have hb : ∀ x ∈ sset (it.map (·.2)), -1000 ≤ x ∧ x ≤ 1000 := fun x m => by
      obtain ⟨p, mp, rfl⟩ := List.mem_map.mp (mem_sset.mp m)
      exact b1.bd p mp
    have r1 := fine_ints (l := sset (it.map (·.2))) (fun x m => by have := hb x m; omega) (by omega)
    have h1 := Sc.heights_ok (it := it) (by omega)
    have h1 : F_heights_of [.list (it.map itD)] = .ok (.list ((sset (it.map (·.2))).map PyData.int)) := h1
    have h2 : F_counts_of [.list (it.map itD)] = .ok (cntD it) := Sc.counts_ok sm (by omega)
    have h3 := lcounts_ok (it := it) (by omega)
    have h4 : F_euler_of [.list (it.map itD)] = .ok (.int (eul it)) := Sc.euler_ok sm (by omega)
    have h5 := leuler_ok (it := it) (by omega)
    have cb : ∀ (jt : List Ih) k, jt.length ≤ it.length → cnt jt k ≤ 42 := fun jt k hj => Nat.le_trans (cnt_le jt k) (by omega)
    have eb : ∀ jt : List Ih, jt.length ≤ it.length → (eul jt).natAbs < 10 ^ 22 := fun jt hj => by
      unfold eul
      have := cb jt 1 hj
      have := cb jt 2 hj
      have := cb jt 3 hj
      omega
    have r2 : reprV [cntD it] = some (.str (cntD it).shown) := by
      refine ((fineW_three (k := 0) (n := 81) (fineW_int ?_) (fineW_int ?_) (fineW_int ?_))).repr (by decide) (by decide)
      · have := cb it 1 (Nat.le_refl _); omega
      · have := cb it 2 (Nat.le_refl _); omega
      · have := cb it 3 (Nat.le_refl _); omega
    have r3 : reprV [.int (eul it)] = some (.str (PyData.int (eul it)).shown) := (fineW_int (eb it (Nat.le_refl _))).repr (by decide) (by decide)
    simp only [wn_ok, wn_some, wn_only, wn_noex, wn_e2, wn_e1, wn_eN, wn_a0, wn_aC, wn_call, wn_tb, wn_tup, wn_lst, wn_andB, wn_orB, wn_notB, wn_andV, wn_orV, wn_notV, wn_ifV, wn_iA, wn_iR1, wn_iR2, wn_iZ, wn_iEn, wn_iRR, wn_sl, wn_p0, wn_p1, wn_up, wn_upB, wn_upI, wn_x2, wn_x0, wn_xC, wn_xN, wn_xb, wn_xAnd, wn_xOr, wn_xNot, wn_xIf, wn_xCall, wn_xR1, wn_xR2, sn_nx, sn_rt, sn_bk, sn_ct, sn_seq, sn_set, sn_ret, sn_expr, sn_if, sn_for, sn_xSet, sn_xRet, sn_xExpr, sn_xIf, sn_xFor, sn_asg, sn_xAsg, sn_own, sn_xOwn, gv_zero, gv_succ, go_own, go_dat, go_succ, k0_def, gN_def, tru_bool, tru_none, tru_int, tru_list, asSeq_list, asSeq_tup, addV_int, subV_int, ltA_i, leA_i, gtA_i, geA_i, negV_int, intV_int, lenV_list, lenV_tup, ixV_list, ixV_tup, asInt_int, slV_list, slV_tup, slL_list, revV_tup, revV_list, tupleV_list, listV_list, listV_tup, eqV_str, neV_str, eqV_int, List.set_cons_zero, List.set_cons_succ, List.getElem?_cons_zero, List.getElem?_cons_succ, List.length_cons, List.length_nil, ↓reduceIte, Bool.false_eq_true, Bool.not_true, Bool.not_false, wn_ite, gT2, gT3, neV_tup, eqV_tup, in_tup, notin_tup', lineN_eq, Nat.reduceAdd, Nat.reduceLeDiff, Nat.zero_le, true_and, and_true, List.map_nil, List.map_cons, exists_eq_left', Option.some.injEq, PyData.list.injEq, exists_eq_left, PyData.int.injEq, R.ok.injEq, Sl.own.injEq, h1, h2, h3, r1, r2]
    simp only [decide_true, Bool.not_true, Bool.false_eq_true, ↓reduceIte]
    have cc : ∀ j : Nat, F__law_cell [.list (ns.map PyData.int), .int ((j : Nat) : Int)] = .ok (.int (Lw.cell ns j)) := fun j => by rw [e_cell]; exact Lw.cell_ok ns j
    have c4 : F__law_cell [.list (ns.map PyData.int), .int 4] = .ok (.int (Lw.cell ns 4)) := cc 4
    have c5 : F__law_cell [.list (ns.map PyData.int), .int 5] = .ok (.int (Lw.cell ns 5)) := cc 5
    have c6 : F__law_cell [.list (ns.map PyData.int), .int 6] = .ok (.int (Lw.cell ns 6)) := cc 6
    have m1 : ∀ z : Int, modV (.int z) (.int 2401) = some (.int (z % 2401)) := fun z => modV_int (by decide)
    obtain ⟨pool, hp⟩ : ∃ pool : List Int, pool = sset (it.map (·.2)) ++ [-1000, 1000, 0, -1001, Lw.cell ns 5 % 2401 - 1200, Lw.cell ns 6] := ⟨_, rfl⟩
    have pl : pool.length = (sset (it.map (·.2))).length + 6 := by rw [hp, List.length_append]; rfl
    have pa : addV (.list ((sset (it.map (·.2))).map PyData.int)) (.list [.int (-1000), .int 1000, .int 0, .int (-1001), .int (Lw.cell ns 5 % 2401 - 1200), .int (Lw.cell ns 6)]) = some (.list (pool.map PyData.int)) := by
      rw [addV_list (by rw [List.length_map]; simp only [List.length_cons, List.length_nil]; omega), hp, List.map_append]
      rfl
    have mp : modV (.int (Lw.cell ns 4)) (.int ((pool.length : Nat) : Int)) = some (.int (Lw.cell ns 4 % ((pool.length : Nat) : Int))) := modV_int (by omega)
    have q0 := Int.emod_nonneg (Lw.cell ns 4) (show ((pool.length : Nat) : Int) ≠ 0 by omega)
    have q1 := Int.emod_lt_of_pos (Lw.cell ns 4) (show (0 : Int) < ((pool.length : Nat) : Int) by omega)
    obtain ⟨L, hL⟩ : ∃ L, atD (pool.map PyData.int) (Lw.cell ns 4 % ((pool.length : Nat) : Int)) = some (.int L) := by
      have hb : (Lw.cell ns 4 % ((pool.length : Nat) : Int)).toNat < pool.length := by omega
      exact ⟨pool[(Lw.cell ns 4 % ((pool.length : Nat) : Int)).toNat], atD_nat q0 (by rw [List.getElem?_map, List.getElem?_eq_getElem hb]; rfl)⟩
    have ha : F_shape_at [.list (it.map itD), .int L] = .ok (.list ((atL it L).map itD)) := Sc.at_ok (by omega)
    have la := atL_le it L
    have ra : ∀ K : Int, reprV [.list ((atL it K).map itD)] = some (.str (PyData.list ((atL it K).map itD)).shown) := fun K =>
      (fineW_its (it := atL it K) (fun p m => ⟨sm p (List.mem_filter.mp m).1, by have := b1.bd p (List.mem_filter.mp m).1; omega⟩) (by have := atL_le it K; omega)).repr (by decide) (by decide)
    simp only [wn_ok, wn_some, wn_only, wn_noex, wn_e2, wn_e1, wn_eN, wn_a0, wn_aC, wn_call, wn_tb, wn_tup, wn_lst, wn_andB, wn_orB, wn_notB, wn_andV, wn_orV, wn_notV, wn_ifV, wn_iA, wn_iR1, wn_iR2, wn_iZ, wn_iEn, wn_iRR, wn_sl, wn_p0, wn_p1, wn_up, wn_upB, wn_upI, wn_x2, wn_x0, wn_xC, wn_xN, wn_xb, wn_xAnd, wn_xOr, wn_xNot, wn_xIf, wn_xCall, wn_xR1, wn_xR2, sn_nx, sn_rt, sn_bk, sn_ct, sn_seq, sn_set, sn_ret, sn_expr, sn_if, sn_for, sn_xSet, sn_xRet, sn_xExpr, sn_xIf, sn_xFor, sn_asg, sn_xAsg, sn_own, sn_xOwn, gv_zero, gv_succ, go_own, go_dat, go_succ, k0_def, gN_def, tru_bool, tru_none, tru_int, tru_list, asSeq_list, asSeq_tup, addV_int, subV_int, ltA_i, leA_i, gtA_i, geA_i, negV_int, intV_int, lenV_list, lenV_tup, ixV_list, ixV_tup, asInt_int, slV_list, slV_tup, slL_list, revV_tup, revV_list, tupleV_list, listV_list, listV_tup, eqV_str, neV_str, eqV_int, List.set_cons_zero, List.set_cons_succ, List.getElem?_cons_zero, List.getElem?_cons_succ, List.length_cons, List.length_nil, ↓reduceIte, Bool.false_eq_true, Bool.not_true, Bool.not_false, wn_ite, gT2, gT3, neV_tup, eqV_tup, in_tup, notin_tup', lineN_eq, Nat.reduceAdd, Nat.reduceLeDiff, Nat.zero_le, true_and, and_true, List.map_nil, List.map_cons, exists_eq_left', Option.some.injEq, PyData.list.injEq, exists_eq_left, PyData.int.injEq, R.ok.injEq, Sl.own.injEq, c4, c5, c6, m1, pa, mp, hL, ha, ra]
    rw [List.length_map]
    simp only [wn_ok, wn_some, wn_only, wn_noex, wn_e2, wn_e1, wn_eN, wn_a0, wn_aC, wn_call, wn_tb, wn_tup, wn_lst, wn_andB, wn_orB, wn_notB, wn_andV, wn_orV, wn_notV, wn_ifV, wn_iA, wn_iR1, wn_iR2, wn_iZ, wn_iEn, wn_iRR, wn_sl, wn_p0, wn_p1, wn_up, wn_upB, wn_upI, wn_x2, wn_x0, wn_xC, wn_xN, wn_xb, wn_xAnd, wn_xOr, wn_xNot, wn_xIf, wn_xCall, wn_xR1, wn_xR2, sn_nx, sn_rt, sn_bk, sn_ct, sn_seq, sn_set, sn_ret, sn_expr, sn_if, sn_for, sn_xSet, sn_xRet, sn_xExpr, sn_xIf, sn_xFor, sn_asg, sn_xAsg, sn_own, sn_xOwn, gv_zero, gv_succ, go_own, go_dat, go_succ, k0_def, gN_def, tru_bool, tru_none, tru_int, tru_list, asSeq_list, asSeq_tup, addV_int, subV_int, ltA_i, leA_i, gtA_i, geA_i, negV_int, intV_int, lenV_list, lenV_tup, ixV_list, ixV_tup, asInt_int, slV_list, slV_tup, slL_list, revV_tup, revV_list, tupleV_list, listV_list, listV_tup, eqV_str, neV_str, eqV_int, List.set_cons_zero, List.set_cons_succ, List.getElem?_cons_zero, List.getElem?_cons_succ, List.length_cons, List.length_nil, ↓reduceIte, Bool.false_eq_true, Bool.not_true, Bool.not_false, wn_ite, gT2, gT3, neV_tup, eqV_tup, in_tup, notin_tup', lineN_eq, Nat.reduceAdd, Nat.reduceLeDiff, Nat.zero_le, true_and, and_true, List.map_nil, List.map_cons, exists_eq_left', Option.some.injEq, PyData.list.injEq, exists_eq_left, PyData.int.injEq, R.ok.injEq, Sl.own.injEq, mp, hL, ha, ra]
    refine wn_comp (xs := it.map itD) (byIt fun p => decide (p.2 ≤ L)) (onIt itD) ?_ ?_ ?_ ?_
    · simp only [wn_ok, wn_some, wn_only, wn_noex, wn_e2, wn_e1, wn_eN, wn_a0, wn_aC, wn_call, wn_tb, wn_tup, wn_lst, wn_andB, wn_orB, wn_notB, wn_andV, wn_orV, wn_notV, wn_ifV, wn_iA, wn_iR1, wn_iR2, wn_iZ, wn_iEn, wn_iRR, wn_sl, wn_p0, wn_p1, wn_up, wn_upB, wn_upI, wn_x2, wn_x0, wn_xC, wn_xN, wn_xb, wn_xAnd, wn_xOr, wn_xNot, wn_xIf, wn_xCall, wn_xR1, wn_xR2, sn_nx, sn_rt, sn_bk, sn_ct, sn_seq, sn_set, sn_ret, sn_expr, sn_if, sn_for, sn_xSet, sn_xRet, sn_xExpr, sn_xIf, sn_xFor, sn_asg, sn_xAsg, sn_own, sn_xOwn, gv_zero, gv_succ, go_own, go_dat, go_succ, k0_def, gN_def, tru_bool, tru_none, tru_int, tru_list, asSeq_list, asSeq_tup, addV_int, subV_int, ltA_i, leA_i, gtA_i, geA_i, negV_int, intV_int, lenV_list, lenV_tup, ixV_list, ixV_tup, asInt_int, slV_list, slV_tup, slL_list, revV_tup, revV_list, tupleV_list, listV_list, listV_tup, eqV_str, neV_str, eqV_int, List.set_cons_zero, List.set_cons_succ, List.getElem?_cons_zero, List.getElem?_cons_succ, List.length_cons, List.length_nil, ↓reduceIte, Bool.false_eq_true, Bool.not_true, Bool.not_false, wn_ite, gT2, gT3, neV_tup, eqV_tup, in_tup, notin_tup', lineN_eq, Nat.reduceAdd, Nat.reduceLeDiff, Nat.zero_le, true_and, and_true, List.map_nil, List.map_cons, exists_eq_left', Option.some.injEq, PyData.list.injEq, exists_eq_left, PyData.int.injEq, R.ok.injEq, Sl.own.injEq]
    · intro y m
      obtain ⟨p, mp, rfl⟩ := List.mem_map.mp m
      refine ⟨[.d (.list (ns.map PyData.int)), .d (.list (it.map itD)), .d (.list (it.map itD)), .d (.list ((sset (it.map (·.2))).map PyData.int)), s4, s5, .d (.list (pool.map PyData.int)), .d (.int L), .own ⟨true, (atL it L).map itD⟩, .no, .d (itD p)], rfl, ?_⟩
      simp only [wn_ok, wn_some, wn_only, wn_noex, wn_e2, wn_e1, wn_eN, wn_a0, wn_aC, wn_call, wn_tb, wn_tup, wn_lst, wn_andB, wn_orB, wn_notB, wn_andV, wn_orV, wn_notV, wn_ifV, wn_iA, wn_iR1, wn_iR2, wn_iZ, wn_iEn, wn_iRR, wn_sl, wn_p0, wn_p1, wn_up, wn_upB, wn_upI, wn_x2, wn_x0, wn_xC, wn_xN, wn_xb, wn_xAnd, wn_xOr, wn_xNot, wn_xIf, wn_xCall, wn_xR1, wn_xR2, sn_nx, sn_rt, sn_bk, sn_ct, sn_seq, sn_set, sn_ret, sn_expr, sn_if, sn_for, sn_xSet, sn_xRet, sn_xExpr, sn_xIf, sn_xFor, sn_asg, sn_xAsg, sn_own, sn_xOwn, gv_zero, gv_succ, go_own, go_dat, go_succ, k0_def, gN_def, tru_bool, tru_none, tru_int, tru_list, asSeq_list, asSeq_tup, addV_int, subV_int, ltA_i, leA_i, gtA_i, geA_i, negV_int, intV_int, lenV_list, lenV_tup, ixV_list, ixV_tup, asInt_int, slV_list, slV_tup, slL_list, revV_tup, revV_list, tupleV_list, listV_list, listV_tup, eqV_str, neV_str, eqV_int, List.set_cons_zero, List.set_cons_succ, List.getElem?_cons_zero, List.getElem?_cons_succ, List.length_cons, List.length_nil, ↓reduceIte, Bool.false_eq_true, Bool.not_true, Bool.not_false, wn_ite, gT2, gT3, neV_tup, eqV_tup, in_tup, notin_tup', lineN_eq, Nat.reduceAdd, Nat.reduceLeDiff, Nat.zero_le, true_and, and_true, List.map_nil, List.map_cons, exists_eq_left', Option.some.injEq, PyData.list.injEq, exists_eq_left, PyData.int.injEq, R.ok.injEq, Sl.own.injEq, at_it1]
      exact ⟨by rw [byIt_it], fun _ => by rw [onIt_it]⟩
    · rw [List.length_map, lineN_eq]; omega
    · rw [byIts]
      have e1 : ((it.filter fun p => decide (p.2 ≤ L)).map itD) = (atL it L).map itD := rfl
      rw [e1]
      simp only [wn_ok, wn_some, wn_only, wn_noex, wn_e2, wn_e1, wn_eN, wn_a0, wn_aC, wn_call, wn_tb, wn_tup, wn_lst, wn_andB, wn_orB, wn_notB, wn_andV, wn_orV, wn_notV, wn_ifV, wn_iA, wn_iR1, wn_iR2, wn_iZ, wn_iEn, wn_iRR, wn_sl, wn_p0, wn_p1, wn_up, wn_upB, wn_upI, wn_x2, wn_x0, wn_xC, wn_xN, wn_xb, wn_xAnd, wn_xOr, wn_xNot, wn_xIf, wn_xCall, wn_xR1, wn_xR2, sn_nx, sn_rt, sn_bk, sn_ct, sn_seq, sn_set, sn_ret, sn_expr, sn_if, sn_for, sn_xSet, sn_xRet, sn_xExpr, sn_xIf, sn_xFor, sn_asg, sn_xAsg, sn_own, sn_xOwn, gv_zero, gv_succ, go_own, go_dat, go_succ, k0_def, gN_def, tru_bool, tru_none, tru_int, tru_list, asSeq_list, asSeq_tup, addV_int, subV_int, ltA_i, leA_i, gtA_i, geA_i, negV_int, intV_int, lenV_list, lenV_tup, ixV_list, ixV_tup, asInt_int, slV_list, slV_tup, slL_list, revV_tup, revV_list, tupleV_list, listV_list, listV_tup, eqV_str, neV_str, eqV_int, List.set_cons_zero, List.set_cons_succ, List.getElem?_cons_zero, List.getElem?_cons_succ, List.length_cons, List.length_nil, ↓reduceIte, Bool.false_eq_true, Bool.not_true, Bool.not_false, wn_ite, gT2, gT3, neV_tup, eqV_tup, in_tup, notin_tup', lineN_eq, Nat.reduceAdd, Nat.reduceLeDiff, Nat.zero_le, true_and, and_true, List.map_nil, List.map_cons, exists_eq_left', Option.some.injEq, PyData.list.injEq, exists_eq_left, PyData.int.injEq, R.ok.injEq, Sl.own.injEq, ra, h4, h5, r3]
      simp only [decide_true, Bool.not_true, Bool.false_eq_true, ↓reduceIte]
      refine sn_app rfl ?_
      simp only [wn_ok, wn_some, wn_only, wn_noex, wn_e2, wn_e1, wn_eN, wn_a0, wn_aC, wn_call, wn_tb, wn_tup, wn_lst, wn_andB, wn_orB, wn_notB, wn_andV, wn_orV, wn_notV, wn_ifV, wn_iA, wn_iR1, wn_iR2, wn_iZ, wn_iEn, wn_iRR, wn_sl, wn_p0, wn_p1, wn_up, wn_upB, wn_upI, wn_x2, wn_x0, wn_xC, wn_xN, wn_xb, wn_xAnd, wn_xOr, wn_xNot, wn_xIf, wn_xCall, wn_xR1, wn_xR2, sn_nx, sn_rt, sn_bk, sn_ct, sn_seq, sn_set, sn_ret, sn_expr, sn_if, sn_for, sn_xSet, sn_xRet, sn_xExpr, sn_xIf, sn_xFor, sn_asg, sn_xAsg, sn_own, sn_xOwn, gv_zero, gv_succ, go_own, go_dat, go_succ, k0_def, gN_def, tru_bool, tru_none, tru_int, tru_list, asSeq_list, asSeq_tup, addV_int, subV_int, ltA_i, leA_i, gtA_i, geA_i, negV_int, intV_int, lenV_list, lenV_tup, ixV_list, ixV_tup, asInt_int, slV_list, slV_tup, slL_list, revV_tup, revV_list, tupleV_list, listV_list, listV_tup, eqV_str, neV_str, eqV_int, List.set_cons_zero, List.set_cons_succ, List.getElem?_cons_zero, List.getElem?_cons_succ, List.length_cons, List.length_nil, ↓reduceIte, Bool.false_eq_true, Bool.not_true, Bool.not_false, wn_ite, gT2, gT3, neV_tup, eqV_tup, in_tup, notin_tup', lineN_eq, Nat.reduceAdd, Nat.reduceLeDiff, Nat.zero_le, true_and, and_true, List.map_nil, List.map_cons, exists_eq_left', Option.some.injEq, PyData.list.injEq, exists_eq_left, PyData.int.injEq, R.ok.injEq, Sl.own.injEq]
      refine ⟨by rw [List.length_map]; omega, ?_⟩
      -- what is due
      refine wn_comp (xs := (sset (it.map (·.2))).map PyData.int) (fun _ => true) (stepD it) ?_ ?_ ?_ ?_
      · simp only [wn_ok, wn_some, wn_only, wn_noex, wn_e2, wn_e1, wn_eN, wn_a0, wn_aC, wn_call, wn_tb, wn_tup, wn_lst, wn_andB, wn_orB, wn_notB, wn_andV, wn_orV, wn_notV, wn_ifV, wn_iA, wn_iR1, wn_iR2, wn_iZ, wn_iEn, wn_iRR, wn_sl, wn_p0, wn_p1, wn_up, wn_upB, wn_upI, wn_x2, wn_x0, wn_xC, wn_xN, wn_xb, wn_xAnd, wn_xOr, wn_xNot, wn_xIf, wn_xCall, wn_xR1, wn_xR2, sn_nx, sn_rt, sn_bk, sn_ct, sn_seq, sn_set, sn_ret, sn_expr, sn_if, sn_for, sn_xSet, sn_xRet, sn_xExpr, sn_xIf, sn_xFor, sn_asg, sn_xAsg, sn_own, sn_xOwn, gv_zero, gv_succ, go_own, go_dat, go_succ, k0_def, gN_def, tru_bool, tru_none, tru_int, tru_list, asSeq_list, asSeq_tup, addV_int, subV_int, ltA_i, leA_i, gtA_i, geA_i, negV_int, intV_int, lenV_list, lenV_tup, ixV_list, ixV_tup, asInt_int, slV_list, slV_tup, slL_list, revV_tup, revV_list, tupleV_list, listV_list, listV_tup, eqV_str, neV_str, eqV_int, List.set_cons_zero, List.set_cons_succ, List.getElem?_cons_zero, List.getElem?_cons_succ, List.length_cons, List.length_nil, ↓reduceIte, Bool.false_eq_true, Bool.not_true, Bool.not_false, wn_ite, gT2, gT3, neV_tup, eqV_tup, in_tup, notin_tup', lineN_eq, Nat.reduceAdd, Nat.reduceLeDiff, Nat.zero_le, true_and, and_true, List.map_nil, List.map_cons, exists_eq_left', Option.some.injEq, PyData.list.injEq, exists_eq_left, PyData.int.injEq, R.ok.injEq, Sl.own.injEq]
      · intro y m
        obtain ⟨K, mK, rfl⟩ := List.mem_map.mp m
        refine ⟨[.d (.list (ns.map PyData.int)), .d (.list (it.map itD)), .d (.list (it.map itD)), .d (.list ((sset (it.map (·.2))).map PyData.int)), s4, .d (.int K), .d (.list (pool.map PyData.int)), .d (.int L), .own ⟨true, (atL it L).map itD ++ [.str "spoilt"]⟩, .no, .no], rfl, wn_ok.mpr ⟨rfl, fun _ => ?_⟩⟩
        simp only [wn_ok, wn_some, wn_only, wn_noex, wn_e2, wn_e1, wn_eN, wn_a0, wn_aC, wn_call, wn_tb, wn_tup, wn_lst, wn_andB, wn_orB, wn_notB, wn_andV, wn_orV, wn_notV, wn_ifV, wn_iA, wn_iR1, wn_iR2, wn_iZ, wn_iEn, wn_iRR, wn_sl, wn_p0, wn_p1, wn_up, wn_upB, wn_upI, wn_x2, wn_x0, wn_xC, wn_xN, wn_xb, wn_xAnd, wn_xOr, wn_xNot, wn_xIf, wn_xCall, wn_xR1, wn_xR2, sn_nx, sn_rt, sn_bk, sn_ct, sn_seq, sn_set, sn_ret, sn_expr, sn_if, sn_for, sn_xSet, sn_xRet, sn_xExpr, sn_xIf, sn_xFor, sn_asg, sn_xAsg, sn_own, sn_xOwn, gv_zero, gv_succ, go_own, go_dat, go_succ, k0_def, gN_def, tru_bool, tru_none, tru_int, tru_list, asSeq_list, asSeq_tup, addV_int, subV_int, ltA_i, leA_i, gtA_i, geA_i, negV_int, intV_int, lenV_list, lenV_tup, ixV_list, ixV_tup, asInt_int, slV_list, slV_tup, slL_list, revV_tup, revV_list, tupleV_list, listV_list, listV_tup, eqV_str, neV_str, eqV_int, List.set_cons_zero, List.set_cons_succ, List.getElem?_cons_zero, List.getElem?_cons_succ, List.length_cons, List.length_nil, ↓reduceIte, Bool.false_eq_true, Bool.not_true, Bool.not_false, wn_ite, gT2, gT3, neV_tup, eqV_tup, in_tup, notin_tup', lineN_eq, Nat.reduceAdd, Nat.reduceLeDiff, Nat.zero_le, true_and, and_true, List.map_nil, List.map_cons, exists_eq_left', Option.some.injEq, PyData.list.injEq, exists_eq_left, PyData.int.injEq, R.ok.injEq, Sl.own.injEq]
        refine wn_comp (xs := it.map itD) (byIt fun p => decide (p.2 ≤ K)) (onIt itD) ?_ ?_ ?_ ?_
        · simp only [wn_ok, wn_some, wn_only, wn_noex, wn_e2, wn_e1, wn_eN, wn_a0, wn_aC, wn_call, wn_tb, wn_tup, wn_lst, wn_andB, wn_orB, wn_notB, wn_andV, wn_orV, wn_notV, wn_ifV, wn_iA, wn_iR1, wn_iR2, wn_iZ, wn_iEn, wn_iRR, wn_sl, wn_p0, wn_p1, wn_up, wn_upB, wn_upI, wn_x2, wn_x0, wn_xC, wn_xN, wn_xb, wn_xAnd, wn_xOr, wn_xNot, wn_xIf, wn_xCall, wn_xR1, wn_xR2, sn_nx, sn_rt, sn_bk, sn_ct, sn_seq, sn_set, sn_ret, sn_expr, sn_if, sn_for, sn_xSet, sn_xRet, sn_xExpr, sn_xIf, sn_xFor, sn_asg, sn_xAsg, sn_own, sn_xOwn, gv_zero, gv_succ, go_own, go_dat, go_succ, k0_def, gN_def, tru_bool, tru_none, tru_int, tru_list, asSeq_list, asSeq_tup, addV_int, subV_int, ltA_i, leA_i, gtA_i, geA_i, negV_int, intV_int, lenV_list, lenV_tup, ixV_list, ixV_tup, asInt_int, slV_list, slV_tup, slL_list, revV_tup, revV_list, tupleV_list, listV_list, listV_tup, eqV_str, neV_str, eqV_int, List.set_cons_zero, List.set_cons_succ, List.getElem?_cons_zero, List.getElem?_cons_succ, List.length_cons, List.length_nil, ↓reduceIte, Bool.false_eq_true, Bool.not_true, Bool.not_false, wn_ite, gT2, gT3, neV_tup, eqV_tup, in_tup, notin_tup', lineN_eq, Nat.reduceAdd, Nat.reduceLeDiff, Nat.zero_le, true_and, and_true, List.map_nil, List.map_cons, exists_eq_left', Option.some.injEq, PyData.list.injEq, exists_eq_left, PyData.int.injEq, R.ok.injEq, Sl.own.injEq]
        · intro y m
          obtain ⟨p, mp, rfl⟩ := List.mem_map.mp m
          refine ⟨[.d (.list (ns.map PyData.int)), .d (.list (it.map itD)), .d (.list (it.map itD)), .d (.list ((sset (it.map (·.2))).map PyData.int)), s4, .d (.int K), .d (.list (pool.map PyData.int)), .d (.int L), .own ⟨true, (atL it L).map itD ++ [.str "spoilt"]⟩, .no, .d (itD p)], rfl, ?_⟩
          simp only [wn_ok, wn_some, wn_only, wn_noex, wn_e2, wn_e1, wn_eN, wn_a0, wn_aC, wn_call, wn_tb, wn_tup, wn_lst, wn_andB, wn_orB, wn_notB, wn_andV, wn_orV, wn_notV, wn_ifV, wn_iA, wn_iR1, wn_iR2, wn_iZ, wn_iEn, wn_iRR, wn_sl, wn_p0, wn_p1, wn_up, wn_upB, wn_upI, wn_x2, wn_x0, wn_xC, wn_xN, wn_xb, wn_xAnd, wn_xOr, wn_xNot, wn_xIf, wn_xCall, wn_xR1, wn_xR2, sn_nx, sn_rt, sn_bk, sn_ct, sn_seq, sn_set, sn_ret, sn_expr, sn_if, sn_for, sn_xSet, sn_xRet, sn_xExpr, sn_xIf, sn_xFor, sn_asg, sn_xAsg, sn_own, sn_xOwn, gv_zero, gv_succ, go_own, go_dat, go_succ, k0_def, gN_def, tru_bool, tru_none, tru_int, tru_list, asSeq_list, asSeq_tup, addV_int, subV_int, ltA_i, leA_i, gtA_i, geA_i, negV_int, intV_int, lenV_list, lenV_tup, ixV_list, ixV_tup, asInt_int, slV_list, slV_tup, slL_list, revV_tup, revV_list, tupleV_list, listV_list, listV_tup, eqV_str, neV_str, eqV_int, List.set_cons_zero, List.set_cons_succ, List.getElem?_cons_zero, List.getElem?_cons_succ, List.length_cons, List.length_nil, ↓reduceIte, Bool.false_eq_true, Bool.not_true, Bool.not_false, wn_ite, gT2, gT3, neV_tup, eqV_tup, in_tup, notin_tup', lineN_eq, Nat.reduceAdd, Nat.reduceLeDiff, Nat.zero_le, true_and, and_true, List.map_nil, List.map_cons, exists_eq_left', Option.some.injEq, PyData.list.injEq, exists_eq_left, PyData.int.injEq, R.ok.injEq, Sl.own.injEq, at_it1]
          exact ⟨by rw [byIt_it], fun _ => by rw [onIt_it]⟩
        · rw [List.length_map, lineN_eq]; omega
        · rw [byIts]
          have e1 : ((it.filter fun p => decide (p.2 ≤ K)).map itD) = (atL it K).map itD := rfl
          have lK := atL_le it K
          rw [e1]
          simp only [wn_ok, wn_some, wn_only, wn_noex, wn_e2, wn_e1, wn_eN, wn_a0, wn_aC, wn_call, wn_tb, wn_tup, wn_lst, wn_andB, wn_orB, wn_notB, wn_andV, wn_orV, wn_notV, wn_ifV, wn_iA, wn_iR1, wn_iR2, wn_iZ, wn_iEn, wn_iRR, wn_sl, wn_p0, wn_p1, wn_up, wn_upB, wn_upI, wn_x2, wn_x0, wn_xC, wn_xN, wn_xb, wn_xAnd, wn_xOr, wn_xNot, wn_xIf, wn_xCall, wn_xR1, wn_xR2, sn_nx, sn_rt, sn_bk, sn_ct, sn_seq, sn_set, sn_ret, sn_expr, sn_if, sn_for, sn_xSet, sn_xRet, sn_xExpr, sn_xIf, sn_xFor, sn_asg, sn_xAsg, sn_own, sn_xOwn, gv_zero, gv_succ, go_own, go_dat, go_succ, k0_def, gN_def, tru_bool, tru_none, tru_int, tru_list, asSeq_list, asSeq_tup, addV_int, subV_int, ltA_i, leA_i, gtA_i, geA_i, negV_int, intV_int, lenV_list, lenV_tup, ixV_list, ixV_tup, asInt_int, slV_list, slV_tup, slL_list, revV_tup, revV_list, tupleV_list, listV_list, listV_tup, eqV_str, neV_str, eqV_int, List.set_cons_zero, List.set_cons_succ, List.getElem?_cons_zero, List.getElem?_cons_succ, List.length_cons, List.length_nil, ↓reduceIte, Bool.false_eq_true, Bool.not_true, Bool.not_false, wn_ite, gT2, gT3, neV_tup, eqV_tup, in_tup, notin_tup', lineN_eq, Nat.reduceAdd, Nat.reduceLeDiff, Nat.zero_le, true_and, and_true, List.map_nil, List.map_cons, exists_eq_left', Option.some.injEq, PyData.list.injEq, exists_eq_left, PyData.int.injEq, R.ok.injEq, Sl.own.injEq, leuler_ok (it := atL it K) (by omega)]
          rfl
      · rw [List.length_map, lineN_eq]; omega
      · rw [List.filter_eq_self.mpr fun _ _ => rfl]
        have st := steps_ok (it := it) sm (by omega)
        have i1 := Sc.eq_its sh (by omega)
        have rs : reprV [.list (((sset (it.map (·.2))).map PyData.int).map (stepD it))] = some (.str (PyData.list (((sset (it.map (·.2))).map PyData.int).map (stepD it))).shown) := by
          refine ((fineW_list (k := 1) (n := 300) fun d m => ?_).mono (Nat.le_refl _) (n' := 100000) ?_).repr (by decide) (by decide)
          · obtain ⟨y, my, rfl⟩ := List.mem_map.mp m
            obtain ⟨K, mK, rfl⟩ := List.mem_map.mp my
            have := hb K mK
            refine (fineW_tuple (k := 0) (n := 81) fun d m => ?_).mono (Nat.le_refl _) (by simp)
            simp only [List.mem_cons, List.not_mem_nil, or_false] at m
            rcases m with rfl | rfl
            · exact fineW_int (by omega)
            · exact fineW_int (eb _ (atL_le it K))
          · rw [List.length_map, List.length_map]
            have := Nat.mul_le_mul_right 301 (show (sset (it.map (·.2))).length ≤ 42 by omega)
            omega
        simp only [wn_ok, wn_some, wn_only, wn_noex, wn_e2, wn_e1, wn_eN, wn_a0, wn_aC, wn_call, wn_tb, wn_tup, wn_lst, wn_andB, wn_orB, wn_notB, wn_andV, wn_orV, wn_notV, wn_ifV, wn_iA, wn_iR1, wn_iR2, wn_iZ, wn_iEn, wn_iRR, wn_sl, wn_p0, wn_p1, wn_up, wn_upB, wn_upI, wn_x2, wn_x0, wn_xC, wn_xN, wn_xb, wn_xAnd, wn_xOr, wn_xNot, wn_xIf, wn_xCall, wn_xR1, wn_xR2, sn_nx, sn_rt, sn_bk, sn_ct, sn_seq, sn_set, sn_ret, sn_expr, sn_if, sn_for, sn_xSet, sn_xRet, sn_xExpr, sn_xIf, sn_xFor, sn_asg, sn_xAsg, sn_own, sn_xOwn, gv_zero, gv_succ, go_own, go_dat, go_succ, k0_def, gN_def, tru_bool, tru_none, tru_int, tru_list, asSeq_list, asSeq_tup, addV_int, subV_int, ltA_i, leA_i, gtA_i, geA_i, negV_int, intV_int, lenV_list, lenV_tup, ixV_list, ixV_tup, asInt_int, slV_list, slV_tup, slL_list, revV_tup, revV_list, tupleV_list, listV_list, listV_tup, eqV_str, neV_str, eqV_int, List.set_cons_zero, List.set_cons_succ, List.getElem?_cons_zero, List.getElem?_cons_succ, List.length_cons, List.length_nil, ↓reduceIte, Bool.false_eq_true, Bool.not_true, Bool.not_false, wn_ite, gT2, gT3, neV_tup, eqV_tup, in_tup, notin_tup', lineN_eq, Nat.reduceAdd, Nat.reduceLeDiff, Nat.zero_le, true_and, and_true, List.map_nil, List.map_cons, exists_eq_left', Option.some.injEq, PyData.list.injEq, exists_eq_left, PyData.int.injEq, R.ok.injEq, Sl.own.injEq, st, rs, i1]
        simp only [decide_true, ↓reduceIte]
end Bd
namespace Bd
open PySem L2
set_option maxHeartbeats 4000000 in
theorem all_mk {l : PySem.W.OpenLaw} {w : World} {K : PySem.W.Frag} {h : Heap} {mg : Str → Option Value} {fa : Addr} (X : K.In h) (Gm : h.Ns mainGlobals mg) (hfa : mg "law" = some (.ref fa))
    {f1 f2 f3 f4 f5 f6 f7 f8 f9 f10 f11 f12 f13 f14 f15 : Addr} {od1 an1 od2 an2 od3 an3 od4 an4 od5 an5 od6 an6 od7 an7 od8 an8 od9 an9 od10 an10 od11 an11 od12 an12 od13 an13 od14 an14 od15 an15 : Option Addr} {sl1 sl2 sl3 sl4 sl5 sl6 sl7 sl8 sl9 sl10 sl11 sl12 sl13 sl14 sl15 : Array (Option Value)} {oc1 kV1 dc1 pm1 cd1 ct1 oc2 kV2 dc2 pm2 cd2 ct2 oc3 kV3 dc3 pm3 cd3 ct3 oc4 kV4 dc4 pm4 cd4 ct4 oc5 kV5 dc5 pm5 cd5 ct5 oc6 kV6 dc6 pm6 cd6 ct6 oc7 kV7 dc7 pm7 cd7 ct7 oc8 kV8 dc8 pm8 cd8 ct8 oc9 kV9 dc9 pm9 cd9 ct9 oc10 kV10 dc10 pm10 cd10 ct10 oc11 kV11 dc11 pm11 cd11 ct11 oc12 kV12 dc12 pm12 cd12 ct12 oc13 kV13 dc13 pm13 cd13 ct13 oc14 kV14 dc14 pm14 cd14 ct14 oc15 kV15 dc15 pm15 cd15 ct15 : Value}
    (a1 : PySem.W.nsIn K mainGlobals "dimension_of" = some (some (.ref f1))) (l1 : K.lookup f1 = some ⟨oc1, od1, .func (PySem.W.fnOf "dimension_of" "dimension_of" (defArgs s_dimension_of) (defBody s_dimension_of) (defScope s_dimension_of) .none kV1 dc1 pm1 an1 cd1 ct1), sl1⟩) (c1 : PySem.W.codeIn K cd1 "dimension_of" = true) (k1 : PySem.W.keepIn K (.ref f1) = true)
    (a2 : PySem.W.nsIn K mainGlobals "heights_of" = some (some (.ref f2))) (l2 : K.lookup f2 = some ⟨oc2, od2, .func (PySem.W.fnOf "heights_of" "heights_of" (defArgs s_heights_of) (defBody s_heights_of) (defScope s_heights_of) .none kV2 dc2 pm2 an2 cd2 ct2), sl2⟩) (c2 : PySem.W.codeIn K cd2 "heights_of" = true) (k2 : PySem.W.keepIn K (.ref f2) = true)
    (a3 : PySem.W.nsIn K mainGlobals "shape_at" = some (some (.ref f3))) (l3 : K.lookup f3 = some ⟨oc3, od3, .func (PySem.W.fnOf "shape_at" "shape_at" (defArgs s_shape_at) (defBody s_shape_at) (defScope s_shape_at) .none kV3 dc3 pm3 an3 cd3 ct3), sl3⟩) (c3 : PySem.W.codeIn K cd3 "shape_at" = true) (k3 : PySem.W.keepIn K (.ref f3) = true)
    (a4 : PySem.W.nsIn K mainGlobals "counts_of" = some (some (.ref f4))) (l4 : K.lookup f4 = some ⟨oc4, od4, .func (PySem.W.fnOf "counts_of" "counts_of" (defArgs s_counts_of) (defBody s_counts_of) (defScope s_counts_of) .none kV4 dc4 pm4 an4 cd4 ct4), sl4⟩) (c4 : PySem.W.codeIn K cd4 "counts_of" = true) (k4 : PySem.W.keepIn K (.ref f4) = true)
    (a5 : PySem.W.nsIn K mainGlobals "euler_of" = some (some (.ref f5))) (l5 : K.lookup f5 = some ⟨oc5, od5, .func (PySem.W.fnOf "euler_of" "euler_of" (defArgs s_euler_of) (defBody s_euler_of) (defScope s_euler_of) .none kV5 dc5 pm5 an5 cd5 ct5), sl5⟩) (c5 : PySem.W.codeIn K cd5 "euler_of" = true) (k5 : PySem.W.keepIn K (.ref f5) = true)
    (a6 : PySem.W.nsIn K mainGlobals "euler_steps" = some (some (.ref f6))) (l6 : K.lookup f6 = some ⟨oc6, od6, .func (PySem.W.fnOf "euler_steps" "euler_steps" (defArgs s_euler_steps) (defBody s_euler_steps) (defScope s_euler_steps) .none kV6 dc6 pm6 an6 cd6 ct6), sl6⟩) (c6 : PySem.W.codeIn K cd6 "euler_steps" = true) (k6 : PySem.W.keepIn K (.ref f6) = true)
    (a7 : PySem.W.nsIn K mainGlobals "_law_cell" = some (some (.ref f7))) (l7 : K.lookup f7 = some ⟨oc7, od7, .func (PySem.W.fnOf "_law_cell" "_law_cell" (defArgs s__law_cell) (defBody s__law_cell) (defScope s__law_cell) .none kV7 dc7 pm7 an7 cd7 ct7), sl7⟩) (c7 : PySem.W.codeIn K cd7 "_law_cell" = true) (k7 : PySem.W.keepIn K (.ref f7) = true)
    (a8 : PySem.W.nsIn K mainGlobals "_law_row" = some (some (.ref f8))) (l8 : K.lookup f8 = some ⟨oc8, od8, .func (PySem.W.fnOf "_law_row" "_law_row" (defArgs s__law_row) (defBody s__law_row) (defScope s__law_row) .none kV8 dc8 pm8 an8 cd8 ct8), sl8⟩) (c8 : PySem.W.codeIn K cd8 "_law_row" = true) (k8 : PySem.W.keepIn K (.ref f8) = true)
    (a9 : PySem.W.nsIn K mainGlobals "_law_faces" = some (some (.ref f9))) (l9 : K.lookup f9 = some ⟨oc9, od9, .func (PySem.W.fnOf "_law_faces" "_law_faces" (defArgs s__law_faces) (defBody s__law_faces) (defScope s__law_faces) .none kV9 dc9 pm9 an9 cd9 ct9), sl9⟩) (c9 : PySem.W.codeIn K cd9 "_law_faces" = true) (k9 : PySem.W.keepIn K (.ref f9) = true)
    (a10 : PySem.W.nsIn K mainGlobals "_law_parts" = some (some (.ref f10))) (l10 : K.lookup f10 = some ⟨oc10, od10, .func (PySem.W.fnOf "_law_parts" "_law_parts" (defArgs s__law_parts) (defBody s__law_parts) (defScope s__law_parts) .none kV10 dc10 pm10 an10 cd10 ct10), sl10⟩) (c10 : PySem.W.codeIn K cd10 "_law_parts" = true) (k10 : PySem.W.keepIn K (.ref f10) = true)
    (a11 : PySem.W.nsIn K mainGlobals "_law_closed" = some (some (.ref f11))) (l11 : K.lookup f11 = some ⟨oc11, od11, .func (PySem.W.fnOf "_law_closed" "_law_closed" (defArgs s__law_closed) (defBody s__law_closed) (defScope s__law_closed) .none kV11 dc11 pm11 an11 cd11 ct11), sl11⟩) (c11 : PySem.W.codeIn K cd11 "_law_closed" = true) (k11 : PySem.W.keepIn K (.ref f11) = true)
    (a12 : PySem.W.nsIn K mainGlobals "_law_shape" = some (some (.ref f12))) (l12 : K.lookup f12 = some ⟨oc12, od12, .func (PySem.W.fnOf "_law_shape" "_law_shape" (defArgs s__law_shape) (defBody s__law_shape) (defScope s__law_shape) .none kV12 dc12 pm12 an12 cd12 ct12), sl12⟩) (c12 : PySem.W.codeIn K cd12 "_law_shape" = true) (k12 : PySem.W.keepIn K (.ref f12) = true)
    (a13 : PySem.W.nsIn K mainGlobals "_law_counts" = some (some (.ref f13))) (l13 : K.lookup f13 = some ⟨oc13, od13, .func (PySem.W.fnOf "_law_counts" "_law_counts" (defArgs s__law_counts) (defBody s__law_counts) (defScope s__law_counts) .none kV13 dc13 pm13 an13 cd13 ct13), sl13⟩) (c13 : PySem.W.codeIn K cd13 "_law_counts" = true) (k13 : PySem.W.keepIn K (.ref f13) = true)
    (a14 : PySem.W.nsIn K mainGlobals "_law_euler" = some (some (.ref f14))) (l14 : K.lookup f14 = some ⟨oc14, od14, .func (PySem.W.fnOf "_law_euler" "_law_euler" (defArgs s__law_euler) (defBody s__law_euler) (defScope s__law_euler) .none kV14 dc14 pm14 an14 cd14 ct14), sl14⟩) (c14 : PySem.W.codeIn K cd14 "_law_euler" = true) (k14 : PySem.W.keepIn K (.ref f14) = true)
    (a15 : PySem.W.nsIn K mainGlobals "law" = some (some (.ref f15))) (l15 : K.lookup f15 = some ⟨oc15, od15, .func (PySem.W.fnOf "law" "law" (defArgs s_law) (defBody s_law) (defScope s_law) .none kV15 dc15 pm15 an15 cd15 ct15), sl15⟩) (c15 : PySem.W.codeIn K cd15 "law" = true) (k15 : PySem.W.keepIn K (.ref f15) = true)
    (z_int : PySem.W.nsIn K mainGlobals "int" = some none)
    (z_len : PySem.W.nsIn K mainGlobals "len" = some none)
    (z_list : PySem.W.nsIn K mainGlobals "list" = some none)
    (z_max : PySem.W.nsIn K mainGlobals "max" = some none)
    (z_min : PySem.W.nsIn K mainGlobals "min" = some none)
    (z_range : PySem.W.nsIn K mainGlobals "range" = some none)
    (z_repr : PySem.W.nsIn K mainGlobals "repr" = some none)
    (z_sorted : PySem.W.nsIn K mainGlobals "sorted" = some none)
    (z_tuple : PySem.W.nsIn K mainGlobals "tuple" = some none)
    : ∃ fd : FuncData, (∀ (s : Shared) (v : Value), BindsTo s fd ⟨[v], []⟩ [("script", v)]) ∧ ∀ base : Heap, K.In base → base.Ns mainGlobals mg → FnG l.prog w K mg base 5 fa fd ["script"] (spD K mg (rD K) 1 F_law) := by
  have e := hfa.symm.trans (PySem.W.mg_of X Gm a15)
  cases e
  have z : Zs mg := ⟨PySem.W.mg_none_of X Gm z_int, PySem.W.mg_none_of X Gm z_len, PySem.W.mg_none_of X Gm z_list, PySem.W.mg_none_of X Gm z_max, PySem.W.mg_none_of X Gm z_min, PySem.W.mg_none_of X Gm z_range, PySem.W.mg_none_of X Gm z_repr, PySem.W.mg_none_of X Gm z_sorted, PySem.W.mg_none_of X Gm z_tuple⟩
  refine ⟨PySem.W.fnOf "law" "law" (defArgs s_law) (defBody s_law) (defScope s_law) .none kV15 dc15 pm15 an15 cd15 ct15, fun s v => .of_eq rfl, fun base _ _ => ?_⟩
  have d_dimension_of := ok_dimension_of (P := l.prog) (w := w) (base := base) (fun_mk (st := s_dimension_of) l1 c1 k1) z  (PySem.W.mg_of X Gm a1)
  have d_heights_of := ok_heights_of (P := l.prog) (w := w) (base := base) (fun_mk (st := s_heights_of) l2 c2 k2) z  (PySem.W.mg_of X Gm a2)
  have d_shape_at := ok_shape_at (P := l.prog) (w := w) (base := base) (fun_mk (st := s_shape_at) l3 c3 k3) z  (PySem.W.mg_of X Gm a3)
  have d_counts_of := ok_counts_of (P := l.prog) (w := w) (base := base) (fun_mk (st := s_counts_of) l4 c4 k4) z d_dimension_of (PySem.W.mg_of X Gm a4)
  have d_euler_of := ok_euler_of (P := l.prog) (w := w) (base := base) (fun_mk (st := s_euler_of) l5 c5 k5) z d_counts_of (PySem.W.mg_of X Gm a5)
  have d_euler_steps := ok_euler_steps (P := l.prog) (w := w) (base := base) (fun_mk (st := s_euler_steps) l6 c6 k6) z d_euler_of d_heights_of d_shape_at (PySem.W.mg_of X Gm a6)
  have d__law_cell := ok__law_cell (P := l.prog) (w := w) (base := base) (fun_mk (st := s__law_cell) l7 c7 k7) z  (PySem.W.mg_of X Gm a7)
  have d__law_row := ok__law_row (P := l.prog) (w := w) (base := base) (fun_mk (st := s__law_row) l8 c8 k8) z  (PySem.W.mg_of X Gm a8)
  have d__law_faces := ok__law_faces (P := l.prog) (w := w) (base := base) (fun_mk (st := s__law_faces) l9 c9 k9) z  (PySem.W.mg_of X Gm a9)
  have d__law_parts := ok__law_parts (P := l.prog) (w := w) (base := base) (fun_mk (st := s__law_parts) l10 c10 k10) z  (PySem.W.mg_of X Gm a10)
  have d__law_closed := ok__law_closed (P := l.prog) (w := w) (base := base) (fun_mk (st := s__law_closed) l11 c11 k11) z d__law_parts d__law_row (PySem.W.mg_of X Gm a11)
  have d__law_shape := ok__law_shape (P := l.prog) (w := w) (base := base) (fun_mk (st := s__law_shape) l12 c12 k12) z d__law_cell d__law_closed d__law_faces d__law_row (PySem.W.mg_of X Gm a12)
  have d__law_counts := ok__law_counts (P := l.prog) (w := w) (base := base) (fun_mk (st := s__law_counts) l13 c13 k13) z  (PySem.W.mg_of X Gm a13)
  have d__law_euler := ok__law_euler (P := l.prog) (w := w) (base := base) (fun_mk (st := s__law_euler) l14 c14 k14) z d__law_counts (PySem.W.mg_of X Gm a14)
  exact ok_law (P := l.prog) (w := w) (base := base) (fun_mk (st := s_law) l15 c15 k15) z d__law_cell d__law_counts d__law_euler d__law_shape d_counts_of d_euler_of d_euler_steps d_heights_of d_shape_at
end Bd
open PySem PySem.W
set_option maxRecDepth 100000 in
set_option maxHeartbeats 0 in
theorem PySem.Challenge.cw_barstay_k06_shapes_at_heights_holds : PySem.Challenge.rw_barstay_k06_shapes_at_heights.Holds := by
  w_on; o_law; k_head; (case hw => w_witness2)
  k_fill
  refine Bd.walk_end (l := PySem.Challenge.rw_barstay_k06_shapes_at_heights) (n := 63) (k := 5) (x := "script") (Fn := Bd.F_law) rfl (by decide) rfl ⟨rfl, by decide, by decide⟩ (fun w h Y => PySem.W.kIn_of Y) ?F (fun ns hl => Bd.law_true ns hl)
  case F =>
    intro w mg fa h KX G hmg
    refine' Bd.all_mk KX G hmg ?a1 ?l1 ?c1 ?k1 ?a2 ?l2 ?c2 ?k2 ?a3 ?l3 ?c3 ?k3 ?a4 ?l4 ?c4 ?k4 ?a5 ?l5 ?c5 ?k5 ?a6 ?l6 ?c6 ?k6 ?a7 ?l7 ?c7 ?k7 ?a8 ?l8 ?c8 ?k8 ?a9 ?l9 ?c9 ?k9 ?a10 ?l10 ?c10 ?k10 ?a11 ?l11 ?c11 ?k11 ?a12 ?l12 ?c12 ?k12 ?a13 ?l13 ?c13 ?k13 ?a14 ?l14 ?c14 ?k14 ?a15 ?l15 ?c15 ?k15 ?z_int ?z_len ?z_list ?z_max ?z_min ?z_range ?z_repr ?z_sorted ?z_tuple
    (case a1 => k_is)
    (case l1 => k_is)
    (case c1 => k_is)
    (case k1 => k_is)
    (case a2 => k_is)
    (case l2 => k_is)
    (case c2 => k_is)
    (case k2 => k_is)
    (case a3 => k_is)
    (case l3 => k_is)
    (case c3 => k_is)
    (case k3 => k_is)
    (case a4 => k_is)
    (case l4 => k_is)
    (case c4 => k_is)
    (case k4 => k_is)
    (case a5 => k_is)
    (case l5 => k_is)
    (case c5 => k_is)
    (case k5 => k_is)
    (case a6 => k_is)
    (case l6 => k_is)
    (case c6 => k_is)
    (case k6 => k_is)
    (case a7 => k_is)
    (case l7 => k_is)
    (case c7 => k_is)
    (case k7 => k_is)
    (case a8 => k_is)
    (case l8 => k_is)
    (case c8 => k_is)
    (case k8 => k_is)
    (case a9 => k_is)
    (case l9 => k_is)
    (case c9 => k_is)
    (case k9 => k_is)
    (case a10 => k_is)
    (case l10 => k_is)
    (case c10 => k_is)
    (case k10 => k_is)
    (case a11 => k_is)
    (case l11 => k_is)
    (case c11 => k_is)
    (case k11 => k_is)
    (case a12 => k_is)
    (case l12 => k_is)
    (case c12 => k_is)
    (case k12 => k_is)
    (case a13 => k_is)
    (case l13 => k_is)
    (case c13 => k_is)
    (case k13 => k_is)
    (case a14 => k_is)
    (case l14 => k_is)
    (case c14 => k_is)
    (case k14 => k_is)
    (case a15 => k_is)
    (case l15 => k_is)
    (case c15 => k_is)
    (case k15 => k_is)
    (case z_int => k_is)
    (case z_len => k_is)
    (case z_list => k_is)
    (case z_max => k_is)
    (case z_min => k_is)
    (case z_range => k_is)
    (case z_repr => k_is)
    (case z_sorted => k_is)
    (case z_tuple => k_is)
