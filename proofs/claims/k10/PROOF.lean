import PyProof.Rows.All
import Wide.All
import OpenK.AllK
import Wide.FinOn
import HandS.ForMost
import HandS.Deep
import HandS.TupAny
import HandS.IsInst
import HandS.Flow
import HandS.Zip
import HandS.Rev
import HandS.RevRange
import HandS.SortInts
import HandS.Style
import HandS.Exc
import PyProof.ReprRoads
import HandS.ExcOwn
import HandS.More
import HandS.SetFor
import KE.SortData
import KE.DataCmp
import HandS.Conv
import PyProof.ReprLen
import HandS.SetBool
import HandS.Strs
import HandS.DictComp
import KE.GoesEnum
import HandS.Iter
import PyProof.IsRules
import HandS.WordsDict
import PyProof.TupleOfSeq
import HandS.Sort
import PyProof.ListMulRoad
import KE.SortKeyHeap
import HandS.SortKw
import KE.KDictCopyH
import KE.KDictKeyed
import HandS.NoneIn
import KE.DataFind
import HandS.SortOrd
import HandS.TupLen
import HandS.ExcInit
import HandS.ExcField
import HandS.ExcIs
import HandS.FStr
import HandS.FStrTup
import HandS.ClsMeth
import KE.KExcIs
import HandS.Defaults
import HandS.TryOnly
import HandS.Text
import HandS.StrMore
import HandS.Codes
import HandS.Steps
import PySem.Challenge.RW_barstay_k10_bars_written
set_option Elab.async false
set_option maxRecDepth 100000
set_option linter.all false
/-! D0: a layer of plain data over the hand layer: what an expression, a statement, a def does is a Lean function of data (PyData), the heap is dealt with once. -/
namespace Bd
open PySem L2

abbrev D := PyData
/-- an answer: a value; an exception (its class, its word, its place); or nothing is told -/
inductive R (α : Type) where
  | ok (a : α)
  | ex (c w : Str) (p : D)
  | no
def R.bind {α β : Type} : R α → (α → R β) → R β
  | .ok a, f => f a
  | .ex c w p, _ => .ex c w p
  | .no, _ => .no
instance : Monad R where
  pure := R.ok
  bind := R.bind
@[simp] theorem R.ok_bind {α β : Type} (a : α) (f : α → R β) : (R.ok a).bind f = f a := Eq.trans rfl rfl
@[simp] theorem R.no_bind {α β : Type} (f : α → R β) : (R.no : R α).bind f = R.no := Eq.trans rfl rfl
@[simp] theorem R.ex_bind {α β : Type} (c w : Str) (p : D) (f : α → R β) : (R.ex c w p : R α).bind f = R.ex c w p := Eq.trans rfl rfl

/-! ### data in the heap -/
/-- the heap without the cells at A -/
def hid (A : List Addr) (H : Hp) : Hp := fun b => if b ∈ A then none else H b
theorem hid_out {A : List Addr} {H : Hp} {b : Addr} (h : b ∉ A) : hid A H b = H b := if_neg h
theorem hid_in {A : List Addr} {H : Hp} {b : Addr} (h : b ∈ A) : hid A H b = none := if_pos h
theorem hid_some {A : List Addr} {H : Hp} {b : Addr} {o : HO} (h : hid A H b = some o) : b ∉ A ∧ H b = some o := by
  by_cases q : b ∈ A
  · rw [hid_in q] at h
    cases h
  · rw [hid_out q] at h
    exact ⟨q, h⟩
theorem hid_le (A : List Addr) (H : Hp) : Same (hid A H) H := fun _ _ e => (hid_some e).2
theorem hid_mono {A B : List Addr} {H : Hp} (h : ∀ b ∈ B, b ∈ A) : Same (hid A H) (hid B H) := fun b o e => by
  obtain ⟨n, e⟩ := hid_some e
  rw [hid_out fun q => n (h b q)]
  exact e
theorem hid_same {A : List Addr} {H H' : Hp} (s : Same H H') : Same (hid A H) (hid A H') := fun b o e => by
  obtain ⟨n, e⟩ := hid_some e
  rw [hid_out n]
  exact s b o e
/-- a cell that was free is hidden too -/
theorem hid_new {A : List Addr} {H H' : Hp} {p : Addr} (s : Same H H') (hp : H p = none) : Same (hid A H) (hid (p :: A) H') := fun b o e => by
  obtain ⟨n, e⟩ := hid_some e
  rw [hid_out fun q => (List.mem_cons.mp q).elim (fun z => by subst z; rw [hp] at e; cases e) n]
  exact s b o e
theorem hid_upd {A : List Addr} {H : Hp} {a : Addr} {o : HO} (h : a ∈ A) : hid A (upd H a o) = hid A H := by
  funext b
  by_cases q : b ∈ A
  · rw [hid_in q, hid_in q]
  · rw [hid_out q, hid_out q, upd_ne fun z => q (by rw [z]; exact h)]
theorem same_new {H : Hp} {p : Addr} {o : HO} (h : H p = none) : Same H (upd H p o) := fun b x e => by
  rw [upd_ne (ne_of_none e h)]
  exact e

section
variable {K : PySem.W.Frag} {H H' : Hp}
theorem sqT_same {a : Addr} {xs : List V} (s : Same H H') (h : SqT K H a xs) : SqT K H' a xs := by
  rcases h with (h | ⟨o, h⟩) | h
  · exact .inl (.inl (s _ _ h))
  · exact .inl (.inr ⟨o, s _ _ h⟩)
  · exact .inr h
mutual
theorem dp_same (s : Same H H') : ∀ (d : D) (v : V), Dp K H v d → Dp K H' v d
  | .none, _, h => by cases h; exact .non
  | .bool b, _, h => by cases h; exact .bl b
  | .int i, _, h => by cases h; exact .int i
  | .str x, _, h => by cases h; exact .str x
  | .list ds, _, h => by
    cases h with
    | lst h1 h2 => exact .lst (s.seq h1) (dpAll_same s ds _ h2)
  | .tuple ds, _, h => by
    cases h with
    | tup h1 h2 => exact .tup (sqT_same s h1) (dpAll_same s ds _ h2)
  | .dict _, _, h => by cases h
theorem dpAll_same (s : Same H H') : ∀ (ds : List D) (vs : List V), DpAll K H vs ds → DpAll K H' vs ds
  | [], _, h => by cases h; exact .nil
  | d :: ds, _, h => by
    cases h with
    | cons h1 h2 => exact .cons (dp_same s d _ h1) (dpAll_same s ds _ h2)
end
theorem Dp_mono {v : V} {d : D} (h : Dp K H v d) (s : Same H H') : Dp K H' v d := dp_same s d v h
theorem DpAll_mono {vs : List V} {ds : List D} (h : DpAll K H vs ds) (s : Same H H') : DpAll K H' vs ds := dpAll_same s ds vs h
theorem DpAll_length : ∀ {vs : List V} {ds : List D}, DpAll K H vs ds → vs.length = ds.length
  | _, _, .nil => rfl
  | _, _, .cons _ t => by rw [List.length_cons, List.length_cons, DpAll_length t]
theorem DpAll_get : ∀ {vs : List V} {ds : List D} {i : Nat} {d : D}, DpAll K H vs ds → ds[i]? = some d → ∃ v, vs[i]? = some v ∧ Dp K H v d
  | _, _, _, _, .nil, e => by simp at e
  | _, _, 0, _, .cons h _, e => by simp at e; subst e; exact ⟨_, rfl, h⟩
  | _, _, i + 1, d, .cons _ t, e => by
    obtain ⟨v, h1, h2⟩ := DpAll_get (i := i) (d := d) t (by simpa using e)
    exact ⟨v, by simpa using h1, h2⟩
theorem DpAll_append : ∀ {vs ws : List V} {ds es : List D}, DpAll K H vs ds → DpAll K H ws es → DpAll K H (vs ++ ws) (ds ++ es)
  | _, _, _, _, .nil, s => s
  | _, _, _, _, .cons h t, s => .cons h (DpAll_append t s)
theorem DpAll_take : ∀ {vs : List V} {ds : List D} (n : Nat), DpAll K H vs ds → DpAll K H (vs.take n) (ds.take n)
  | _, _, 0, _ => .nil
  | _, _, _ + 1, .nil => .nil
  | _, _, n + 1, .cons h t => .cons h (DpAll_take n t)
theorem DpAll_drop : ∀ {vs : List V} {ds : List D} (n : Nat), DpAll K H vs ds → DpAll K H (vs.drop n) (ds.drop n)
  | _, _, 0, h => h
  | _, _, _ + 1, .nil => .nil
  | _, _, n + 1, .cons _ t => DpAll_drop n t
theorem DpAll_ints : ∀ (ns : List Int), DpAll K H (ns.map V.int) (ns.map PyData.int)
  | [] => .nil
  | n :: ns => .cons (.int n) (DpAll_ints ns)
end

/-! ### the def's names -/
/-- a name: nothing is told; data; a list of its own that stands nowhere else -/
structure OL where
  b : Bool
  l : List D
/-- a dict whose keys are tuples of ints: key, where its tuple lies, what stands there -/
abbrev Zr := List Int × Addr × V
def entZ (x : List Int × Addr × Value) : DictEntry := ⟨reduceHash (Builtin.Tuple.tupleHashOf (x.1.map hashInt)), .ref x.2.1, x.2.2⟩
def DcP (a : Addr) (zs : List Zr) (h : Heap) : Prop :=
  ∃ xs : List (List Int × Addr × Value), Paired (fun (z : Zr) (x : List Int × Addr × Value) => z.1 = x.1 ∧ z.2.1 = x.2.1 ∧ RelV z.2.2 x.2.2) zs xs ∧
    ∃ o es ep, h.get? a = some o ∧ o.ExactDict ∧ o.data = .dict es ep ∧ es.toList = xs.map entZ ∧ (xs.map (·.1)).Nodup
def dco (a : Addr) (zs : List Zr) : HO := .ext (DcP a zs)
def ZD (K : PySem.W.Frag) (T : Hp) (z : Zr) (k : D × D) : Prop := k.1 = PyData.tuple (z.1.map PyData.int) ∧ SqT K T z.2.1 (z.1.map V.int) ∧ Dp K T z.2.2 k.2
/-- the dict ks stands at a, read only: its keys tuples of ints -/
def DcT (K : PySem.W.Frag) (T : Hp) (a : Addr) (ks : List (D × D)) : Prop := (a == sysModules) = false ∧ ks.length ≤ sizeLine ∧ ∃ zs, T a = some (dco a zs) ∧ Paired (ZD K T) zs ks
theorem DcT.same {K : PySem.W.Frag} {T T' : Hp} {a : Addr} {ks : List (D × D)} (h : DcT K T a ks) (s : Same T T') : DcT K T' a ks := by
  obtain ⟨h1, h2, zs, h3, h4⟩ := h
  exact ⟨h1, h2, zs, s _ _ h3, Paired.mapP h4 fun z k ⟨e1, e2, e3⟩ => ⟨e1, sqT_same s e2, Dp_mono e3 s⟩⟩
/-- its keys ints: a sign stands ahead -/
def iD (ks : List (Int × D)) : List (D × D) := (PyData.none, PyData.none) :: ks.map fun p => (PyData.int p.1, p.2)
def DcI (K : PySem.W.Frag) (T : Hp) (a : Addr) (ks : List (D × D)) : Prop := ∃ (kvs : List (Key × V)) (ki : List (Int × D)), ks = iD ki ∧ T a = some (.dK kvs) ∧ Paired (fun (p : Key × V) (k : Int × D) => p.1 = Sum.inl k.1 ∧ Dp K T p.2 k.2) kvs ki
theorem DcI.same {K : PySem.W.Frag} {T T' : Hp} {a : Addr} {ks : List (D × D)} (h : DcI K T a ks) (s : Same T T') : DcI K T' a ks := by
  obtain ⟨kvs, ki, h1, h2, h3⟩ := h
  exact ⟨kvs, ki, h1, s _ _ h2, Paired.mapP h3 fun p k ⟨e1, e2⟩ => ⟨e1, Dp_mono e2 s⟩⟩
def DcR (K : PySem.W.Frag) (T : Hp) (a : Addr) (ks : List (D × D)) : Prop := DcT K T a ks ∨ DcI K T a ks
theorem DcR.same {K : PySem.W.Frag} {T T' : Hp} {a : Addr} {ks : List (D × D)} (h : DcR K T a ks) (s : Same T T') : DcR K T' a ks := h.elim (fun h => .inl (h.same s)) fun h => .inr (h.same s)
def isI : List (D × D) → Bool
  | (.none, _) :: _ => true
  | _ => false
theorem DcR.tup {K : PySem.W.Frag} {T : Hp} {a : Addr} {ks : List (D × D)} (h : DcR K T a ks) (t : isI ks = false) : DcT K T a ks := by
  rcases h with h | ⟨kvs, ki, rfl, _, _⟩
  · exact h
  · cases t
/-- a dict of the def's own: its keys ints; or tuples of ints -/
inductive Dks where
  | int (ks : List (Int × D))
  | tup (ks : List (List Int × D))
/-- what such a dict is in the heap -/
def DoS (o : HO) : Prop := (∃ kvs, o = .dK kvs) ∨ ∃ p, o = .ext p
theorem notDo {xs : List V} (h : DoS (.lst xs)) : False := by
  rcases h with ⟨_, e⟩ | ⟨_, e⟩ <;> cases e
def DoR (K : PySem.W.Frag) (T : Hp) (a : Addr) (o : HO) : Dks → Prop
  | .int ks => ∃ kvs : List (Key × V), o = .dK kvs ∧ Paired (fun (p : Key × V) (k : Int × D) => p.1 = Sum.inl k.1 ∧ Dp K T p.2 k.2) kvs ks
  | .tup ks => ∃ zs : List Zr, (a == sysModules) = false ∧ o = dco a zs ∧ Paired (fun (z : Zr) (k : List Int × D) => z.1 = k.1 ∧ SqT K T z.2.1 (z.1.map V.int) ∧ Dp K T z.2.2 k.2) zs ks
/-- a dict of the def's own -/
def DkR (K : PySem.W.Frag) (H : Hp) (A : List Addr) (a : Addr) (ks : Dks) : Prop := ∃ o, H a = some o ∧ DoS o ∧ DoR K (hid A H) a o ks
theorem DkR.keep {K : PySem.W.Frag} {H H' : Hp} {A A' : List Addr} {a : Addr} {ks : Dks} (h : DkR K H A a ks) (s : Same (hid A H) (hid A' H')) (ha : ∀ o, DoS o → H a = some o → H' a = some o) : DkR K H' A' a ks := by
  obtain ⟨o, h1, so, h2⟩ := h
  refine ⟨o, ha o so h1, so, ?_⟩
  cases ks with
  | int ks =>
    obtain ⟨kvs, e, q⟩ := h2
    exact ⟨kvs, e, Paired.mapP q fun p k ⟨e1, e2⟩ => ⟨e1, Dp_mono e2 s⟩⟩
  | tup ks =>
    obtain ⟨zs, n, e, q⟩ := h2
    exact ⟨zs, n, e, Paired.mapP q fun z k ⟨e1, e2, e3⟩ => ⟨e1, sqT_same s e2, Dp_mono e3 s⟩⟩
/-- at a: an exception of the class at C, its dict at dd -/
def exN (a C dd : Addr) : HO := .ext fun h => ∃ (o : Obj) (vs : Array Value), h.get? a = some o ∧ o.cls = .ref C ∧ o.dict = some dd ∧ o.data = .fields vs
/-- a caught exception: its class (by the name that the program gives it), its word, its place -/
def ExH (K : PySem.W.Frag) (T : Hp) (a : Addr) (c w : Str) (p : D) : Prop :=
  ∃ (C dd : Addr) (v : V), PySem.W.nsIn K mainGlobals c = some (some (.ref C)) ∧ T a = some (exN a C dd) ∧ T dd = some (.xd [("place", v), ("word", .str w)]) ∧ Dp K T v p
theorem ExH.same {K : PySem.W.Frag} {T T' : Hp} {a : Addr} {c w : Str} {p : D} (h : ExH K T a c w p) (s : Same T T') : ExH K T' a c w p := by
  obtain ⟨C, dd, v, h1, h2, h3, h4⟩ := h
  exact ⟨C, dd, v, h1, s _ _ h2, s _ _ h3, Dp_mono h4 s⟩
inductive Sl where
  | no
  | d (x : D)
  | own (xs : OL)
  | m (x : List (D × D))
  | dk (ks : Dks)
  | x (c w : Str) (p : D)
abbrev Nv := List Sl
def SlotR (K : PySem.W.Frag) (H : Hp) (A : List Addr) : Option V → Sl → Prop
  | _, .no => True
  | some v, .d x => Dp K (hid A H) v x
  | some (.ref a), .own xs => a ∈ A ∧ ∃ vs, H a = some (.lst vs) ∧ DpAll K (hid A H) vs xs.l
  | some (.ref a), .m x => DcR K (hid A H) a x
  | some (.ref a), .dk ks => a ∈ A ∧ DkR K H A a ks
  | some (.ref a), .x c w p => ExH K (hid A H) a c w p
  | _, _ => False
theorem SlotR.m' {K : PySem.W.Frag} {H H' : Hp} {A A' : List Addr} {o : Option V} {x : List (D × D)} (h : SlotR K H A o (.m x)) (s : Same (hid A H) (hid A' H')) : SlotR K H' A' o (.m x) := by
  match o, h with
  | some (.ref a), h => exact DcR.same (show DcR K (hid A H) a x from h) s
theorem SlotR.x' {K : PySem.W.Frag} {H H' : Hp} {A A' : List Addr} {o : Option V} {c w : Str} {p : D} (h : SlotR K H A o (.x c w p)) (s : Same (hid A H) (hid A' H')) : SlotR K H' A' o (.x c w p) := by
  match o, h with
  | some (.ref a), h => exact ExH.same (show ExH K (hid A H) a c w p from h) s
structure EnvD (K : PySem.W.Frag) (H : Hp) (A : List Addr) (σ : St) (η : Nv) : Prop where
  len : σ.length = η.length
  at_ : ∀ (i : Nat) (s : Sl), η[i]? = some s → ∃ o, σ[i]? = some o ∧ SlotR K H A o s
  ap : ∀ (i j : Nat) (a : Addr) (xs ys : OL), η[i]? = some (.own xs) → η[j]? = some (.own ys) → σ[i]? = some (some (.ref a)) → σ[j]? = some (some (.ref a)) → i = j
  tr : ∀ a ∈ A, H a ≠ none
section
variable {K : PySem.W.Frag} {H H' : Hp} {A A' : List Addr} {σ : St} {η : Nv}
theorem SlotR.keep {o : Option V} {s : Sl} (h : SlotR K H A o s) (k : Same (hid A H) (hid A' H')) (hA : ∀ a ∈ A, a ∈ A') (hl : ∀ a u, a ∈ A → H a = some u → H' a = some u) : SlotR K H' A' o s := by
  cases s with
  | no => cases o <;> trivial
  | d x =>
    cases o with
    | none => exact h
    | some v => exact Dp_mono (show Dp K (hid A H) v x from h) k
  | own xs =>
    match o, h with
    | some (.ref a), ⟨m, vs, e, q⟩ => exact ⟨hA a m, vs, hl a _ m e, DpAll_mono q k⟩
  | m x => exact h.m' k
  | x c w p => exact h.x' k
  | dk ks =>
    match o, h with
    | some (.ref a), ⟨m, q⟩ => exact ⟨hA a m, q.keep k fun o _ e => hl a _ m e⟩
theorem EnvD.same (h : EnvD K H A σ η) (s : Same H H') : EnvD K H' A σ η where
  len := h.len
  at_ := fun i x e => by
    obtain ⟨o, e1, q⟩ := h.at_ i x e
    exact ⟨o, e1, q.keep (hid_same s) (fun _ m => m) fun a vs _ z => s _ _ z⟩
  ap := h.ap
  tr := fun a m z => by
    cases q : H a with
    | none => exact h.tr a m q
    | some o =>
      rw [s a o q] at z
      cases z
/-- a cell that was free is hidden -/
theorem EnvD.new {p : Addr} (h : EnvD K H A σ η) (s : Same H H') (hp : H p = none) (hp' : H' p ≠ none) : EnvD K H' (p :: A) σ η where
  len := h.len
  at_ := fun i x e => by
    obtain ⟨o, e1, q⟩ := h.at_ i x e
    exact ⟨o, e1, q.keep (hid_new s hp) (fun _ m => List.mem_cons_of_mem _ m) fun a vs _ z => s _ _ z⟩
  ap := h.ap
  tr := fun a m => by
    rcases List.mem_cons.mp m with rfl | m
    · exact hp'
    · exact (h.same s).tr a m
theorem EnvD.fresh {p : Addr} (h : EnvD K H A σ η) (hp : H p = none) : p ∉ A := fun m => h.tr p m hp
end

/-! ### readings of expressions -/
/-- how a value lies: the heap ahead, behind, what is hidden, the value, its data -/
abbrev Rl := Hp → Hp → List Addr → V → D → Prop
/-- data -/
def rD (K : PySem.W.Frag) : Rl := fun _ H' A v d => Dp K (hid A H') v d
/-- data, or a list of the def's own -/
def rO (K : PySem.W.Frag) : Rl := fun _ H' A v d => Dp K (hid A H') v d ∨ ∃ a vs ds, v = .ref a ∧ d = .list ds ∧ H' a = some (.lst vs) ∧ DpAll K (hid A H') vs ds
/-- a new list -/
def rF (K : PySem.W.Frag) : Rl := fun H H' A v d => ∃ p vs ds, v = .ref p ∧ d = .list ds ∧ H p = none ∧ H' p = some (.lst vs) ∧ DpAll K (hid (p :: A) H') vs ds
/-- an exception of the program: its class, word, place -/
def ExR (K : PySem.W.Frag) (mg : Str → Option Value) (H : Hp) (cls : Value) (dd : Option Addr) (c w : Str) (p : D) : Prop :=
  mg c = some cls ∧ ∃ dx v, dd = some dx ∧ H dx = some (.xd [("place", v), ("word", .str w)]) ∧ Dp K H v p
/-- what an answer asks -/
def Post (K : PySem.W.Frag) (mg : Str → Option Value) (W : WX) (rl : Rl) (σ : St) (A : List Addr) (H : Hp) (r : R D) (Q : VK) : Prop :=
  match r with
  | .ok d => ∀ v H', Same H H' → rl H H' A v d → Q v H'
  | .ex c w p => ∀ cls dd H', Same H H' → ExR K mg (hid A H') cls dd c w p → W cls dd σ H'
  | .no => False
def tR (K : PySem.W.Frag) (mg : Str → Option Value) (W : WX) (rl : Rl) (F : Nv → R D) : TE := fun σ H Q => ∃ η A, EnvD K H A σ η ∧ Post K mg W rl σ A H (F η) Q
theorem peW {X : Cx} {e : Expr} {t t' : TE} (h : PE X e t) (k : ∀ σ H Q, t' σ H Q → t σ H Q) : PE X e t' := ⟨fun pins s σ H Q I q => h.run pins s σ H Q I (k _ _ _ q)⟩
/-- the heap ahead may be an earlier one -/
def Back (rl : Rl) : Prop := ∀ H H1 H' A v d, Same H H1 → rl H1 H' A v d → rl H H' A v d
theorem back_D {K : PySem.W.Frag} : Back (rD K) := fun _ _ _ _ _ _ _ h => h
theorem back_F {K : PySem.W.Frag} : Back (rF K) := fun _ _ _ _ _ _ s ⟨p, vs, ds, a, b, c, r⟩ => ⟨p, vs, ds, a, b, s.free c, r⟩
section
variable {K : PySem.W.Frag} {mg : Str → Option Value} {W : WX} {rl : Rl} {σ : St} {A : List Addr} {H H1 : Hp} {Q : VK}
theorem Post.same {r : R D} (b : Back rl) (s : Same H H1) (h : Post K mg W rl σ A H r Q) : Post K mg W rl σ A H1 r Q := by
  cases r with
  | ok d => exact fun v H' s' q => h v H' (s.trans s') (b _ _ _ _ _ _ s q)
  | ex c w p => exact fun cls dd H' s' q => h cls dd H' (s.trans s') q
  | no => exact h
/-- THE STEP: a part's answer, then the rest's -/
theorem bindR {rl' : Rl} {F : Nv → R D} {g : Nv → D → R D} (b : Back rl) (h : tR K mg W rl (fun η => (F η).bind (g η)) σ H Q) :
    tR K mg W rl' F σ H fun v H1 => ∃ η A d, Same H H1 ∧ EnvD K H1 A σ η ∧ rl' H H1 A v d ∧ F η = .ok d ∧ Post K mg W rl σ A H1 (g η d) Q := by
  obtain ⟨η, A, E, p0⟩ := h
  refine ⟨η, A, E, ?_⟩
  have p : Post K mg W rl σ A H ((F η).bind (g η)) Q := p0
  cases e : F η with
  | ok d =>
    rw [e] at p
    exact fun v H' s q => ⟨η, A, d, s, E.same s, q, e, Post.same b s p⟩
  | ex c w p' =>
    rw [e] at p
    exact p
  | no =>
    rw [e] at p
    exact p
end

/-- an expression: data; an operand; a new list -/
def TD (X : Cx) (W : WX) (e : Expr) (F : Nv → R D) : Prop := PE X e (tR X.K X.mg W (rD X.K) F)
def TO (X : Cx) (W : WX) (e : Expr) (F : Nv → R D) : Prop := PE X e (tR X.K X.mg W (rO X.K) F)
def TF (X : Cx) (W : WX) (e : Expr) (F : Nv → R D) : Prop := PE X e (tR X.K X.mg W (rF X.K) F)
section
variable {X : Cx} {W : WX} {e : Expr} {F : Nv → R D}
theorem tR_imp {K : PySem.W.Frag} {mg : Str → Option Value} {rl rl' : Rl} {σ : St} {H : Hp} {Q : VK} (k : ∀ (η : Nv) (A : List Addr) (H' : Hp) (v : V) (d : D), EnvD K H A σ η → Same H H' → rl H H' A v d → rl' H H' A v d) (h : tR K mg W rl' F σ H Q) : tR K mg W rl F σ H Q := by
  obtain ⟨η, A, E, p⟩ := h
  refine ⟨η, A, E, ?_⟩
  cases e : F η with
  | ok d =>
    rw [e] at p
    exact fun v H' s q => p v H' s (k η A H' v d E s q)
  | ex c w p' =>
    rw [e] at p
    exact p
  | no =>
    rw [e] at p
    exact p
theorem rF_D {K : PySem.W.Frag} {H H' : Hp} {A : List Addr} {v : V} {d : D} (hA : ∀ p, H p = none → p ∉ A) (h : rF K H H' A v d) : rD K H H' A v d := by
  obtain ⟨p, vs, ds, rfl, rfl, hp, hp', q⟩ := h
  exact .lst (SqL.of (by rw [hid_out (hA p hp)]; exact hp')) (DpAll_mono q (hid_mono fun b m => List.mem_cons_of_mem _ m))
theorem TD.o (h : TD X W e F) : TO X W e F := peW h fun _ _ _ => tR_imp fun _ _ _ _ _ _ _ q => .inl q
theorem TF.d (h : TF X W e F) : TD X W e F := peW h fun _ _ _ => tR_imp fun _ _ _ _ _ E _ q => rF_D (fun _ hp => E.fresh hp) q
theorem TF.o (h : TF X W e F) : TO X W e F := h.d.o
end
end Bd
/-! D1: operators, comparisons, truth, calls of built-ins, over data. -/
namespace Bd
open PySem L2

section
variable {K : PySem.W.Frag} {H H' : Hp} {A : List Addr} {v : V} {d : D}
theorem rO_same (s : Same H H') {Ha Hb : Hp} (h : rO K Ha H A v d) : rO K Hb H' A v d := by
  rcases h with h | ⟨a, vs, ds, rfl, rfl, e, q⟩
  · exact .inl (Dp_mono h (hid_same s))
  · exact .inr ⟨a, vs, ds, rfl, rfl, s _ _ e, DpAll_mono q (hid_same s)⟩
theorem rO_dp {Ha : Hp} (h : rO K Ha H A v d) : Dp K H v d := by
  rcases h with h | ⟨a, vs, ds, rfl, rfl, e, q⟩
  · exact Dp_mono h (hid_le A H)
  · exact .lst (SqL.of e) (DpAll_mono q (hid_le A H))
theorem rO_list {Ha : Hp} {ds : List D} (h : rO K Ha H A v (.list ds)) : ∃ a vs, v = .ref a ∧ SqL K H a vs ∧ DpAll K (hid A H) vs ds := by
  rcases h with h | ⟨a, vs, ds', rfl, e1, e, q⟩
  · cases h with
    | lst h1 h2 => exact ⟨_, _, rfl, (hid_le A H).seq h1, h2⟩
  · cases e1
    exact ⟨a, vs, rfl, SqL.of e, q⟩
theorem rO_tup {Ha : Hp} {ds : List D} (h : rO K Ha H A v (.tuple ds)) : ∃ a vs, v = .ref a ∧ SqT K H a vs ∧ SqT K (hid A H) a vs ∧ DpAll K (hid A H) vs ds := by
  rcases h with h | ⟨a, vs, ds', rfl, e1, e, q⟩
  · cases h with
    | tup h1 h2 => exact ⟨_, _, rfl, sqT_same (hid_le A H) h1, h1, h2⟩
  · cases e1
theorem rO_int {Ha : Hp} {i : Int} (h : rO K Ha H A v (.int i)) : v = .int i := by
  rcases h with h | ⟨a, vs, ds', rfl, e1, e, q⟩
  · cases h; rfl
  · cases e1
theorem rO_bool {Ha : Hp} {i : Bool} (h : rO K Ha H A v (.bool i)) : v = .bl i := by
  rcases h with h | ⟨a, vs, ds', rfl, e1, e, q⟩
  · cases h; rfl
  · cases e1
theorem rO_str {Ha : Hp} {i : Str} (h : rO K Ha H A v (.str i)) : v = .str i := by
  rcases h with h | ⟨a, vs, ds', rfl, e1, e, q⟩
  · cases h; rfl
  · cases e1
theorem rO_none {Ha : Hp} (h : rO K Ha H A v .none) : v = .non := by
  rcases h with h | ⟨a, vs, ds', rfl, e1, e, q⟩
  · cases h; rfl
  · cases e1
end

/-- the answer of a built-in operation -/
def R.of : Option D → R D
  | some d => .ok d
  | none => .no
/-- a two-place operation on operands gives the data f tells, lying as rl says -/
def Op2 (X : Cx) (rl : Rl) (r : R2) (f : D → D → Option D) : Prop :=
  ∀ (H : Hp) (A : List Addr) (x y : V) (a b d : D) (Q : VK), (∀ p ∈ A, H p ≠ none) → rO X.K H H A x a → rO X.K H H A y b → f a b = some d → (∀ v H', Same H H' → rl H H' A v d → Q v H') → r x y H Q
def Op1 (X : Cx) (rl : Rl) (r : V → Hp → VK → Prop) (f : D → Option D) : Prop :=
  ∀ (H : Hp) (A : List Addr) (x : V) (a d : D) (Q : VK), (∀ p ∈ A, H p ≠ none) → rO X.K H H A x a → f a = some d → (∀ v H', Same H H' → rl H H' A v d → Q v H') → r x H Q
section
variable {X : Cx} {W : WX} {rl : Rl} {a b : Expr} {Fa Fb : Nv → R D} {f : D → D → Option D} {g : D → Option D} {r : R2}
def e2 (f : D → D → Option D) (Fa Fb : Nv → R D) : Nv → R D := fun η => (Fa η).bind fun x => (Fb η).bind fun y => .of (f x y)
def e1 (g : D → Option D) (Fa : Nv → R D) : Nv → R D := fun η => (Fa η).bind fun x => .of (g x)
theorem op2_t (hb : Back rl) (ho : Op2 X rl r f) {σ : L2.St} {H : Hp} {Q : VK} (h : tR X.K X.mg W rl (e2 f Fa Fb) σ H Q) : tOp r (tR X.K X.mg W (rO X.K) Fa) (tR X.K X.mg W (rO X.K) Fb) σ H Q := by
  have h1 := bindR (rl' := rO X.K) (F := Fa) (g := fun η x => (Fb η).bind fun y => .of (f x y)) hb h
  refine (show tR X.K X.mg W (rO X.K) Fa σ H _ from ?_)
  obtain ⟨η, A, E, p⟩ := h1
  refine ⟨η, A, E, ?_⟩
  cases e : Fa η with
  | ex c w q => rw [e] at p; exact p
  | no => rw [e] at p; exact p
  | ok d1 =>
    rw [e] at p
    intro v1 H1 s1 q1
    obtain ⟨η1, A1, dd, sm, E1, qd, _, P1⟩ := p v1 H1 s1 q1
    have h2 : tR X.K X.mg W rl (fun η => (Fb η).bind fun y => .of (f dd y)) σ H1 Q := ⟨η1, A1, E1, P1⟩
    have h3 := bindR (rl' := rO X.K) (F := Fb) (g := fun η y => .of (f dd y)) hb h2
    -- the second operand at the same names
    refine ⟨η1, A1, E1, ?_⟩
    cases e2 : Fb η1 with
    | ex c w q =>
      have P1' : Post X.K X.mg W rl σ A1 H1 ((Fb η1).bind fun y => .of (f dd y)) Q := P1
      rw [e2] at P1'
      exact P1'
    | no =>
      have P1' : Post X.K X.mg W rl σ A1 H1 ((Fb η1).bind fun y => .of (f dd y)) Q := P1
      rw [e2] at P1'
      exact P1'
    | ok d2 =>
      have P1' : Post X.K X.mg W rl σ A1 H1 ((Fb η1).bind fun y => .of (f dd y)) Q := P1
      rw [e2] at P1'
      have P2 : Post X.K X.mg W rl σ A1 H1 (.of (f dd d2)) Q := P1'
      intro v2 H2 s2 q2
      cases e3 : f dd d2 with
      | none => rw [e3] at P2; exact False.elim P2
      | some d =>
        rw [e3] at P2
        exact ho H2 A1 v1 v2 dd d2 d Q (E1.same s2).tr (rO_same s2 qd) (rO_same (Same.refl _) q2) e3 fun v H' s q => P2 v H' (s2.trans s) (hb _ _ _ _ _ _ s2 q)
theorem op1_t (hb : Back rl) {r : V → Hp → VK → Prop} (ho : Op1 X rl r g) {σ : L2.St} {H : Hp} {Q : VK} (h : tR X.K X.mg W rl (e1 g Fa) σ H Q) : tUn r (tR X.K X.mg W (rO X.K) Fa) σ H Q := by
  obtain ⟨η, A, E, p0⟩ := h
  have p : Post X.K X.mg W rl σ A H ((Fa η).bind fun x => .of (g x)) Q := p0
  refine ⟨η, A, E, ?_⟩
  cases e : Fa η with
  | ex c w q => rw [e] at p; exact p
  | no => rw [e] at p; exact p
  | ok d1 =>
    rw [e] at p
    have P2 : Post X.K X.mg W rl σ A H (.of (g d1)) Q := p
    intro v1 H1 s1 q1
    cases e3 : g d1 with
    | none => rw [e3] at P2; exact False.elim P2
    | some d =>
      rw [e3] at P2
      exact ho H1 A v1 d1 d Q (E.same s1).tr (rO_same (Same.refl _) q1) e3 fun v H' s q => P2 v H' (s1.trans s) (hb _ _ _ _ _ _ s1 q)
/-- a op b -/
theorem t_op {op : Operator} {pos : Pos} (hb : Back rl) (hop : OpR X (binaryOp op) r) (ho : Op2 X rl r f) (ha : TO X W a Fa) (hc : TO X W b Fb) : PE X (.BinOp a op b pos) (tR X.K X.mg W rl (e2 f Fa Fb)) :=
  peW (pe_op hop ha hc) fun _ _ _ => op2_t hb ho
/-! ### ints and sequences: +, -, *, //, % -/
@[irreducible] def lineN : Nat := 16777216
theorem lineN_eq : lineN = 16777216 := by unfold lineN; rfl
theorem line_eq : sizeLine = lineN := by rw [lineN_eq]; exact sizeLine_eq
def addV : D → D → Option D
  | .int i, .int j => some (.int (i + j))
  | .list xs, .list ys => if xs.length + ys.length ≤ lineN then some (.list (xs ++ ys)) else none
  | .tuple xs, .tuple ys => if xs.length + ys.length ≤ lineN then some (.tuple (xs ++ ys)) else none
  | .str x, .str y => if x.length + y.length ≤ lineN then some (.str (x ++ y)) else none
  | _, _ => none
def rCatS (K : PySem.W.Frag) : R2 := fun x y H Q => ∃ l b xs zs, x = .ref l ∧ y = .ref b ∧ SqL K H l xs ∧ SqL K H b zs ∧ xs.length + zs.length ≤ sizeLine ∧ ∀ p, H p = none → Q (.ref p) (upd H p (.lst (xs ++ zs)))
theorem op_catS : OpR X (binaryOp .Add) (rCatS X.K) := by
  intro pins s σ H x y v u Q I rx ry h
  obtain ⟨l, b, xs, zs, rfl, rfl, h1, h2, hz, q⟩ := h
  cases rx
  cases ry
  obtain ⟨its, r, hl, e⟩ := I.list h1
  obtain ⟨its2, r2, hl2, e2⟩ := I.list h2
  obtain ⟨⟨cls, dd, data, sl⟩, ho, hc, n, hd⟩ := hl.isList
  obtain ⟨⟨cls2, dd2, data2, sl2⟩, ho2, hc2, n2, hd2⟩ := hl2.isList
  simp only at hc hd hc2 hd2
  subst hc hd hc2 hd2
  have ea : its.toArray ++ its2.toArray = (its ++ its2).toArray := by simp
  have hz2 : its.toArray.size + its2.toArray.size ≤ sizeLine := by
    rw [List.size_toArray, List.size_toArray, ← r.length, ← r2.length]
    exact hz
  refine concat_meets ⟨_, ho, rfl⟩ ⟨_, ho2, rfl⟩ noFill_list_add seq_list_add PySem.F.slot_list_add PySem.F.entry_list_add (PySem.F.args_list_add_2 _ _) (PyProof.Rows.list_addW l b its.toArray its2.toArray n n2 dd dd2 sl sl2 hz2) ⟨ho, ho2, ?_⟩
  rw [ea]
  exact ⟨.ref _, _, I.lnew (t' := s.toks) (r.append r2) (by rw [List.length_append]; omega), rfl, q _ I.fresh⟩
def rAddA (K : PySem.W.Frag) : R2 := fun x y H Q => rI0 (fun i j => .int (i + j)) x y H Q ∨ rCatS K x y H Q ∨ rCatA K x y H Q ∨ ∃ i j, x = .str i ∧ y = .str j ∧ i.length + j.length ≤ sizeLine ∧ Q (.str (i ++ j)) H
theorem op_addA : OpR X (binaryOp .Add) (rAddA X.K) := by
  intro pins s σ H x y v u Q I rx ry h
  rcases h with h | h | h | h
  · exact op_add pins s σ H x y v u Q I rx ry h
  · exact op_catS pins s σ H x y v u Q I rx ry h
  · exact op_catA pins s σ H x y v u Q I rx ry h
  · exact op_add_str pins s σ H x y v u Q I rx ry h
theorem dp_new_list {K : PySem.W.Frag} {H : Hp} {A : List Addr} {p : Addr} {vs : List V} {ds : List D} (hA : ∀ a ∈ A, H a ≠ none) (hp : H p = none) (h : DpAll K (hid A H) vs ds) : rF K H (upd H p (.lst vs)) A (.ref p) (.list ds) :=
  ⟨p, vs, ds, rfl, rfl, hp, upd_same, DpAll_mono h (hid_new (same_new hp) hp)⟩
theorem dp_new_tup {K : PySem.W.Frag} {H : Hp} {A : List Addr} {p : Addr} {vs : List V} {ds : List D} (hA : ∀ a ∈ A, H a ≠ none) (hp : H p = none) (h : DpAll K (hid A H) vs ds) : Dp K (hid A (upd H p (.tup vs))) (.ref p) (.tuple ds) :=
  .tup (SqT.of (by rw [hid_out fun m => hA p m hp, upd_same])) (DpAll_mono h (hid_same (same_new hp)))
theorem nofree {H : Hp} {A : List Addr} (hA : ∀ a ∈ A, H a ≠ none) : ∀ p, H p = none → p ∉ A := fun p hp m => hA p m hp
theorem o_add : Op2 X (rD X.K) (rAddA X.K) addV := by
  intro H A x y a b d Q hA ha hb e k
  unfold addV at e
  split at e
  · have e := Option.some.inj e
    subst e
    exact .inl ⟨_, _, rO_int ha, rO_int hb, k _ H (Same.refl _) (.int _)⟩
  · rename_i xs ys
    split at e
    · rename_i hz
      have e := Option.some.inj e
      subst e
      obtain ⟨l, vs, rfl, h1, q1⟩ := rO_list ha
      obtain ⟨l2, vs2, rfl, h2, q2⟩ := rO_list hb
      refine .inr (.inl ⟨l, l2, vs, vs2, rfl, rfl, h1, h2, ?_, fun p hp => k _ _ (same_new hp) (rF_D (nofree hA) (dp_new_list hA hp (DpAll_append q1 q2)))⟩)
      rw [DpAll_length q1, DpAll_length q2, line_eq]
      exact hz
    · cases e
  · rename_i xs ys
    split at e
    · rename_i hz
      have e := Option.some.inj e
      subst e
      obtain ⟨l, vs, rfl, h1, h1', q1⟩ := rO_tup ha
      obtain ⟨l2, vs2, rfl, h2, h2', q2⟩ := rO_tup hb
      refine .inr (.inr (.inl ⟨l, l2, vs, vs2, rfl, rfl, h1, h2, ?_, fun z => ?_, fun _ z => ?_, fun _ _ p hp => k _ _ (same_new hp) (dp_new_tup hA hp (DpAll_append q1 q2))⟩))
      · rw [DpAll_length q1, DpAll_length q2, line_eq]
        exact hz
      · subst z
        cases q1
        exact k _ H (Same.refl _) (.tup h2' q2)
      · subst z
        cases q2
        rw [List.append_nil] at k
        exact k _ H (Same.refl _) (.tup h1' q1)
    · cases e
  · split at e
    · rename_i hz
      have e := Option.some.inj e
      subst e
      exact .inr (.inr (.inr ⟨_, _, rO_str ha, rO_str hb, by rw [line_eq]; exact hz, k _ H (Same.refl _) (.str _)⟩))
    · cases e
  · cases e
def subV : D → D → Option D
  | .int i, .int j => some (.int (i - j))
  | _, _ => none
def mulV : D → D → Option D
  | .int i, .int j => if (-(2 ^ 64) < i ∧ i < 2 ^ 64) ∨ (-(2 ^ 64) < j ∧ j < 2 ^ 64) then some (.int (i * j)) else none
  | _, _ => none
def fdivV : D → D → Option D
  | .int i, .int j => if 0 < j ∧ j < 1073741824 then some (.int (i / j)) else none
  | _, _ => none
def modV : D → D → Option D
  | .int i, .int j => if 0 < j then some (.int (i % j)) else none
  | _, _ => none
def powV : D → D → Option D
  | .int i, .int j => if 0 ≤ j ∧ j ≤ 1000000 ∧ i.natAbs < 2 ^ 64 then some (.int (i ^ j.toNat)) else none
  | _, _ => none
theorem o_sub : Op2 X (rD X.K) (rI0 fun i j => .int (i - j)) subV := by
  intro H A x y a b d Q hA ha hb e k
  unfold subV at e
  split at e
  · have e := Option.some.inj e
    subst e
    exact ⟨_, _, rO_int ha, rO_int hb, k _ H (Same.refl _) (.int _)⟩
  · cases e
theorem o_ifI {C : Int → Int → Prop} [∀ i j, Decidable (C i j)] {g : Int → Int → Int} {f : D → D → Option D} (hf : ∀ a b d, f a b = some d → ∃ i j, a = .int i ∧ b = .int j ∧ C i j ∧ d = .int (g i j)) : Op2 X (rD X.K) (rI C fun i j => .int (g i j)) f := by
  intro H A x y a b d Q hA ha hb e k
  obtain ⟨i, j, rfl, rfl, hc, rfl⟩ := hf a b d e
  exact ⟨i, j, rO_int ha, rO_int hb, hc, k _ H (Same.refl _) (.int _)⟩
instance : ∀ i j, Decidable (CMul i j) := fun i j => by unfold CMul; infer_instance
instance : ∀ i j, Decidable (CDiv i j) := fun i j => by unfold CDiv; infer_instance
instance : ∀ i j, Decidable (CPow i j) := fun i j => by unfold CPow; infer_instance
theorem o_mul : Op2 X (rD X.K) (rI CMul fun i j => .int (i * j)) mulV := o_ifI fun a b d e => by
  unfold mulV at e
  split at e
  · split at e
    · rename_i h
      exact ⟨_, _, rfl, rfl, h, (Option.some.inj e).symm⟩
    · cases e
  · cases e
theorem o_fdiv : Op2 X (rD X.K) (rI CDiv fun i j => .int (i / j)) fdivV := o_ifI fun a b d e => by
  unfold fdivV at e
  split at e
  · split at e
    · rename_i h
      exact ⟨_, _, rfl, rfl, h, (Option.some.inj e).symm⟩
    · cases e
  · cases e
theorem o_mod : Op2 X (rD X.K) (rI (fun _ j => 0 < j) fun i j => .int (i % j)) modV := o_ifI (C := fun _ j => 0 < j) fun a b d e => by
  unfold modV at e
  split at e
  · split at e
    · rename_i h
      exact ⟨_, _, rfl, rfl, h, (Option.some.inj e).symm⟩
    · cases e
  · cases e
theorem o_pow : Op2 X (rD X.K) (rI CPow fun i j => .int (i ^ j.toNat)) powV := o_ifI fun a b d e => by
  unfold powV at e
  split at e
  · split at e
    · rename_i h
      exact ⟨_, _, rfl, rfl, h, (Option.some.inj e).symm⟩
    · cases e
  · cases e
end
end Bd
/-! D2: names, constants, comparisons, truth, built-ins by data. -/
namespace Bd
open PySem L2

section
variable {X : Cx} {W : WX} {rl : Rl} {a b c e : Expr} {Fa Fb Fc F : Nv → R D} {pos : Pos}
/-! ### names and constants -/
def gv (i : Nat) : Nv → R D := fun η => match η[i]? with
  | some (.d x) => .ok x
  | _ => .no
/-- a name's data -/
theorem t_var (i : Nat) {x : Str} (hN : X.N[i]? = some x := by rfl) (hv : Vis X.env.scope x := by first | exact Or.inl rfl | exact Or.inr (Or.inl rfl) | exact Or.inr (Or.inr rfl)) (hd : (x == ("__debug__" : Str)) = false := by decide)
    (hcd : (x == ("__classdict__" : Str)) = false := by decide) : TD X W (.Name x pos) (gv i) := by
  refine peW (pe_var hN hv hd hcd) fun σ H Q h => ?_
  obtain ⟨η, A, E, p0⟩ := h
  have p : Post X.K X.mg W (rD X.K) σ A H (gv i η) Q := p0
  unfold gv at p
  split at p
  · rename_i x e
    obtain ⟨o, e1, q⟩ := E.at_ i _ e
    cases o with
    | none => exact False.elim q
    | some v => exact ⟨v, e1, p v H (Same.refl _) q⟩
  · exact False.elim p
/-- a list of the def's own, read -/
def go (i : Nat) : Nv → R D := fun η => match η[i]? with
  | some (.own xs) => .ok (.list xs.l)
  | some (.d x) => .ok x
  | _ => .no
def k0 (d : D) : Nv → R D := fun _ => .ok d
theorem t_const {v : V} {d : D} (h : PE X e (tC v)) (hd : ∀ H, Dp X.K H v d) : TD X W e (k0 d) := peW h fun σ H Q ⟨η, A, E, p⟩ => p v H (Same.refl _) (hd _)
theorem t_int {i : Int} {j : Nat} : TD X W (.Constant (.int i) j pos) (k0 (.int i)) := t_const pe_int fun _ => .int i
theorem t_bool {i : Bool} {j : Nat} : TD X W (.Constant (.bool i) j pos) (k0 (.bool i)) := t_const pe_bl fun _ => .bl i
theorem t_none {j : Nat} : TD X W (.Constant .none j pos) (k0 .none) := t_const pe_non fun _ => .non
theorem t_str {i : Str} {j : Nat} : TD X W (.Constant (.str i) j pos) (k0 (.str i)) := t_const pe_str fun _ => .str i
theorem t_globI {x : Str} {i : Int} (hm : ∃ t, X.mg x = some (.int i t)) (hg : Gl X x := by rfl) (hd : (x == ("__debug__" : Str)) = false := by decide) : TD X W (.Name x pos) (k0 (.int i)) := by
  obtain ⟨t, hm⟩ := hm
  exact t_const (pe_glob (v := .int i) hg hm ⟨t, rfl⟩ hd) fun _ => .int i
/-- -a -/
def negV : D → Option D
  | .int i => some (.int (-i))
  | _ => none
theorem t_neg (ha : TO X W a Fa) : TD X W (.UnaryOp .USub a pos) (e1 negV Fa) := peW (pe_un un_neg ha) fun _ _ _ => op1_t back_D fun H A x a d Q hA hx e k => by
  unfold negV at e
  split at e
  · have e := Option.some.inj e
    subst e
    exact ⟨_, rO_int hx, k _ H (Same.refl _) (.int _)⟩
  · cases e

/-! ### comparisons -/
/-- a truth value -/
def rB : Rl := fun _ _ _ v d => ∃ k, d = .bool k ∧ v = .bl k
theorem rB_D {K : PySem.W.Frag} {H H' : Hp} {A : List Addr} {v : V} {d : D} (h : rB H H' A v d) : rD K H H' A v d := by
  obtain ⟨k, rfl, rfl⟩ := h
  exact .bl k
theorem t_cmpB {op : CmpOp} {r : R2} {f : D → D → Option D} (hop : OpR X (compareOp op) r) (ho : Op2 X rB r f) (ha : TO X W a Fa) (hc : TO X W b Fb) (h1 : behindInMarks op b = false) : TD X W (.Compare a [op] [b] pos) (e2 f Fa Fb) :=
  peW (pe_cmpR hop ha hc h1) fun _ _ _ => op2_t back_D fun H A x y a b d Q hA h1 h2 e k => ho H A x y a b d Q hA h1 h2 e fun v H' s q => k v H' s (rB_D q)
/-- of two ints -/
def cmpI (p : Int → Int → Bool) : D → D → Option D
  | .int i, .int j => some (.bool (p i j))
  | _, _ => none
theorem o_cmpI {p : Int → Int → Bool} : Op2 X rB (rI0 fun i j => .bl (p i j)) (cmpI p) := by
  intro H A x y a b d Q hA ha hb e k
  unfold cmpI at e
  split at e
  · have e := Option.some.inj e
    subst e
    exact ⟨_, _, rO_int ha, rO_int hb, k _ H (Same.refl _) ⟨_, rfl, rfl⟩⟩
  · cases e
def ltV := cmpI fun i j => decide (i < j)
def leV := cmpI fun i j => decide (i ≤ j)
def gtV := cmpI fun i j => decide (j < i)
def geV := cmpI fun i j => decide (j ≤ i)
/-- == of data -/
def eqV' : D → D → Option D
  | .str a, .str b => some (.bool (decide (a = b)))
  | x, y => if SeqAt.shaped x = true ∧ SeqAt.shaped y = true then some (.bool (PyData.eqv x y)) else none
def neV' : D → D → Option D
  | .str a, .str b => some (.bool (!decide (a = b)))
  | x, y => if SeqAt.shaped x = true ∧ SeqAt.shaped y = true then some (.bool (!PyData.eqv x y)) else none
def rEqA (K : PySem.W.Frag) : R2 := fun x y H Q => rEq x y H Q ∨ rEqD K x y H Q
def rNeA (K : PySem.W.Frag) : R2 := fun x y H Q => rNe x y H Q ∨ rNeD K x y H Q
theorem op_eqA (hu : X.A.units + 64 < cLine) : OpR X (compareOp .Eq) (rEqA X.K) := fun pins s σ H x y v u Q I rx ry h => h.elim (op_eq pins s σ H x y v u Q I rx ry) (op_eqD hu pins s σ H x y v u Q I rx ry)
theorem op_neA (hu : X.A.units + 64 < cLine) : OpR X (compareOp .NotEq) (rNeA X.K) := fun pins s σ H x y v u Q I rx ry h => h.elim (op_ne pins s σ H x y v u Q I rx ry) (op_neD hu pins s σ H x y v u Q I rx ry)
theorem dec_V {a b : Str} : decide (V.str a = V.str b) = decide (a = b) := by
  by_cases e : a = b
  · rw [decide_eq_true e, e]
    exact decide_eq_true rfl
  · rw [decide_eq_false e]
    exact decide_eq_false fun z => e (V.str.inj z)
theorem o_eq : Op2 X rB (rEqA X.K) eqV' := fun H A x y a b d Q hA ha hb e k => by
  unfold eqV' at e
  split at e
  · have e := Option.some.inj e
    subst e
    refine .inl ?_
    rw [rO_str ha, rO_str hb]
    exact ⟨rfl, by rw [dec_V]; exact k _ H (Same.refl _) ⟨_, rfl, rfl⟩⟩
  · split at e
    · rename_i h
      have e := Option.some.inj e
      subst e
      exact .inr ⟨_, _, rO_dp ha, rO_dp hb, h.1, h.2, k _ H (Same.refl _) ⟨_, rfl, rfl⟩⟩
    · cases e
theorem o_ne : Op2 X rB (rNeA X.K) neV' := fun H A x y a b d Q hA ha hb e k => by
  unfold neV' at e
  split at e
  · have e := Option.some.inj e
    subst e
    refine .inl ?_
    rw [rO_str ha, rO_str hb]
    exact ⟨rfl, by rw [dec_V]; exact k _ H (Same.refl _) ⟨_, rfl, rfl⟩⟩
  · split at e
    · rename_i h
      have e := Option.some.inj e
      subst e
      exact .inr ⟨_, _, rO_dp ha, rO_dp hb, h.1, h.2, k _ H (Same.refl _) ⟨_, rfl, rfl⟩⟩
    · cases e
theorem t_eq (hu : X.A.units + 64 < cLine) (ha : TO X W a Fa) (hb : TO X W b Fb) : TD X W (.Compare a [.Eq] [b] pos) (e2 eqV' Fa Fb) := t_cmpB (op_eqA hu) o_eq ha hb (nomark _)
theorem t_ne (hu : X.A.units + 64 < cLine) (ha : TO X W a Fa) (hb : TO X W b Fb) : TD X W (.Compare a [.NotEq] [b] pos) (e2 neV' Fa Fb) := t_cmpB (op_neA hu) o_ne ha hb (nomark _)
/-- is None -/
def isNone : D → Bool
  | .none => true
  | _ => false
theorem isNone_of {K : PySem.W.Frag} {H : Hp} {v : V} {d : D} (h : Dp K H v d) : decide (v = .non) = isNone d := by
  cases h <;> first | rfl | (exact decide_eq_false fun z => by cases z)
def isV (x y : D) : Option D := match y with
  | .none => some (.bool (isNone x))
  | _ => none
theorem o_is : Op2 X rB (fun x y H Q => y = .non ∧ Q (.bl (decide (x = .non))) H) isV := fun H A x y a b d Q hA ha hb e k => by
  unfold isV at e
  split at e
  · have e := Option.some.inj e
    subst e
    exact ⟨rO_none hb, by rw [isNone_of (rO_dp ha)]; exact k _ H (Same.refl _) ⟨_, rfl, rfl⟩⟩
  · cases e
theorem t_is (ha : TO X W a Fa) (hb : TO X W b Fb) : TD X W (.Compare a [.Is] [b] pos) (e2 isV Fa Fb) := t_cmpB op_isN o_is ha hb (nomark _)
/-! in, not in -/
def flatD : D → Bool
  | .none => true
  | .bool _ => true
  | .int _ => true
  | .str _ => true
  | _ => false
theorem flat_of {K : PySem.W.Frag} {H : Hp} {v : V} {d : D} (h : Dp K H v d) : flatV v = flatD d := by
  cases h <;> rfl
theorem eqV_of {K : PySem.W.Frag} {H : Hp} {v w : V} {d e : D} (h : Dp K H v d) (h' : Dp K H w e) (f : flatD d = true) (f' : flatD e = true) : eqV v w = PyData.eqv d e := by
  cases h with
  | lst _ _ => exact absurd f Bool.false_ne_true
  | tup _ _ => exact absurd f Bool.false_ne_true
  | _ => cases h' with
    | lst _ _ => exact absurd f' Bool.false_ne_true
    | tup _ _ => exact absurd f' Bool.false_ne_true
    | _ => first | rfl | (unfold PyData.eqv; rfl) | (simp [eqV, PyData.eqv])
theorem flats_of {K : PySem.W.Frag} {H : Hp} : ∀ {vs : List V} {ds : List D}, DpAll K H vs ds → vs.all flatV = ds.all flatD
  | _, _, .nil => rfl
  | _, _, .cons h t => by rw [List.all_cons, List.all_cons, flat_of h, flats_of t]
theorem inV_of {K : PySem.W.Frag} {H : Hp} {w : V} {e : D} (h' : Dp K H w e) (f' : flatD e = true) : ∀ {vs : List V} {ds : List D}, DpAll K H vs ds → ds.all flatD = true → inV w vs = ds.any fun z => PyData.eqv z e
  | _, _, .nil, _ => rfl
  | _, _, .cons (ds := ds) h t, f => by
    rw [List.all_cons, Bool.and_eq_true] at f
    have q := inV_of h' f' t f.2
    unfold inV at q ⊢
    rw [List.any_cons, List.any_cons, eqV_of h h' f.1 f', q]
def inD (x c : D) : Option Bool := match c with
  | .list ds => if SeqAt.shaped x = true ∧ SeqAt.shaped (.list ds) = true then some (ds.any fun z => PyData.eqv z x) else none
  | .tuple ds => if flatD x = true ∧ ds.all flatD = true then some (ds.any fun z => PyData.eqv z x) else none
  | _ => none
def inV' (x c : D) : Option D := (inD x c).map .bool
def ninV' (x c : D) : Option D := (inD x c).map fun b => .bool (!b)
def rInA (K : PySem.W.Frag) : R2 := fun x y H Q => rInD K x y H Q ∨ rIn K false x y H Q
theorem op_inA (hu : X.A.units + 65 < cLine) : OpR X (compareOp .In) (rInA X.K) := by
  intro pins s σ H x y v u Q I rx ry h
  rcases h with h | h
  · exact op_inD hu pins s σ H x y v u Q I rx ry h
  · exact op_in_seq pins s σ H x y v u Q I rx ry h
theorem o_in : Op2 X rB (rInA X.K) inV' := fun H A x y a b d Q hA ha hb e k => by
  unfold inV' inD at e
  split at e
  · rename_i ds
    split at e
    · rename_i h
      have e := Option.some.inj e
      subst e
      exact .inl ⟨_, _, rO_dp ha, rO_dp hb, h.1, h.2, k _ H (Same.refl _) ⟨_, rfl, rfl⟩⟩
    · cases e
  · rename_i ds
    split at e
    · rename_i h
      have e := Option.some.inj e
      subst e
      obtain ⟨l, vs, rfl, h1, h2, q⟩ := rO_tup hb
      have q := DpAll_mono q (hid_le A H)
      refine .inr ⟨l, vs, rfl, .inr h1, by rw [flat_of (rO_dp ha)]; exact h.1, by rw [flats_of q]; exact h.2, ?_⟩
      rw [inV_of (rO_dp ha) h.1 q h.2]
      exact k _ H (Same.refl _) ⟨_, rfl, rfl⟩
    · cases e
  · cases e
/-! ### truth and tests -/
def tru : D → R Bool
  | .none => .ok false
  | .bool b => .ok b
  | .int i => .ok (i != 0)
  | .str y => if y.length ≤ lineN then .ok ((y.length : Int) != 0) else .no
  | .list xs => .ok !xs.isEmpty
  | .tuple xs => .ok !xs.isEmpty
  | .dict _ => .no
/-- what a test's answer asks -/
def PostB (K : PySem.W.Frag) (mg : Str → Option Value) (W : WX) (σ : L2.St) (A : List Addr) (H : Hp) (r : R Bool) (Q : Bool → Hp → Prop) : Prop :=
  match r with
  | .ok b => ∀ H', Same H H' → Q b H'
  | .ex c w p => ∀ cls dd H', Same H H' → ExR K mg (hid A H') cls dd c w p → W cls dd σ H'
  | .no => False
def tT (K : PySem.W.Frag) (mg : Str → Option Value) (W : WX) (G : Nv → R Bool) : TT := fun σ H Q => ∃ η A, EnvD K H A σ η ∧ PostB K mg W σ A H (G η) Q
def TB (X : Cx) (W : WX) (e : Expr) (G : Nv → R Bool) : Prop := PT X e (tT X.K X.mg W G)
theorem ptW {t t' : TT} (h : PT X e t) (k : ∀ σ H Q, t' σ H Q → t σ H Q) : PT X e t' := ⟨fun pins s σ H Q I q => h.run pins s σ H Q I (k _ _ _ q)⟩
theorem PostB.same {K : PySem.W.Frag} {mg : Str → Option Value} {σ : L2.St} {A : List Addr} {H H1 : Hp} {r : R Bool} {Q : Bool → Hp → Prop} (s : Same H H1) (h : PostB K mg W σ A H r Q) : PostB K mg W σ A H1 r Q := by
  cases r with
  | ok d => exact fun H' s' => h H' (s.trans s')
  | ex c w p => exact fun cls dd H' s' q => h cls dd H' (s.trans s') q
  | no => exact h
def tb (F : Nv → R D) : Nv → R Bool := fun η => (F η).bind tru
theorem tru_of {K : PySem.W.Frag} {H : Hp} {v : V} {d : D} {k : Bool} (h : Dp K H v d) (e : tru d = .ok k) : TruV K v H k := by
  cases h with
  | non => unfold tru at e; cases e; rfl
  | bl b => unfold tru at e; cases e; rfl
  | int i => unfold tru at e; cases e; rfl
  | str y =>
    have e : (if y.length ≤ lineN then R.ok ((y.length : Int) != 0) else R.no) = .ok k := e
    by_cases hz : y.length ≤ lineN
    · rw [if_pos hz] at e
      cases e
      exact ⟨by rw [line_eq]; exact hz, rfl⟩
    · rw [if_neg hz] at e
      cases e
  | @lst a xs ds h1 h2 =>
    unfold tru at e
    cases e
    refine .inl ⟨xs, h1, ?_⟩
    cases h2 <;> rfl
  | @tup a xs ds h1 h2 =>
    unfold tru at e
    cases e
    refine .inr (.inl ⟨xs, h1, ?_⟩)
    cases h2 <;> rfl
/-- from a value's answer to a test's -/
theorem tT_of {t : TE} {rl : Rl} {K : PySem.W.Frag} {mg : Str → Option Value} {σ : L2.St} {H : Hp} {Q : Bool → Hp → Prop} {R1 : V → Hp → Prop} (h : tT K mg W (tb F) σ H Q)
    (k : ∀ (A : List Addr) (H1 : Hp) (v : V) (d : D) (b : Bool), rl H H1 A v d → tru d = .ok b → Q b H1 → R1 v H1) : tR K mg W rl F σ H R1 := by
  obtain ⟨η, A, E, p0⟩ := h
  have p : PostB K mg W σ A H ((F η).bind tru) Q := p0
  refine ⟨η, A, E, ?_⟩
  cases e : F η with
  | ex c w q => rw [e] at p; exact p
  | no => rw [e] at p; exact p
  | ok d =>
    rw [e] at p
    have p : PostB K mg W σ A H (tru d) Q := p
    intro v H1 s q
    cases e2 : tru d with
    | ex c w q =>
      exfalso
      unfold tru at e2
      split at e2 <;> first | cases e2 | (split at e2 <;> cases e2)
    | no => rw [e2] at p; exact False.elim p
    | ok b =>
      rw [e2] at p
      exact k A H1 v d b q e2 (p H1 s)
theorem b_val (ha : TO X W a Fa) (he : ∀ whole, isTrue a X.env whole = (do let v ← whole; standAt a.pos; holding [v] (truthy v)) := by intro _; rfl) : TB X W a (tb Fa) :=
  ptW (pt_truth ha he) fun σ H Q h => tT_of (t := fun _ _ _ => True) h fun A H1 v d b q e r => ⟨b, tru_of (rO_dp q) e, r⟩
/-- a comparison as a test -/
theorem b_cmp {op : CmpOp} {r : R2} {f : D → D → Option D} (hop : OpR X (compareOp op) r) (ho : Op2 X rB r f) (ha : TO X W a Fa) (hb : TO X W b Fb) (h1 : behindInMarks op b = false) : TB X W (.Compare a [op] [b] pos) (tb (e2 f Fa Fb)) :=
  ptW (pt_cmpR hop ha hb h1) fun σ H Q h => op2_t (fun _ _ _ _ _ _ _ q => q) ho (tT_of (t := fun _ _ _ => True) (rl := rB) h fun A H1 v d b q e r => by
    obtain ⟨k, rfl, rfl⟩ := q
    cases e
    exact ⟨_, rfl, r⟩)
theorem b_eq (hu : X.A.units + 64 < cLine) (ha : TO X W a Fa) (hb : TO X W b Fb) : TB X W (.Compare a [.Eq] [b] pos) (tb (e2 eqV' Fa Fb)) := b_cmp (op_eqA hu) o_eq ha hb (nomark _)
theorem b_ne (hu : X.A.units + 64 < cLine) (ha : TO X W a Fa) (hb : TO X W b Fb) : TB X W (.Compare a [.NotEq] [b] pos) (tb (e2 neV' Fa Fb)) := b_cmp (op_neA hu) o_ne ha hb (nomark _)
theorem b_is (ha : TO X W a Fa) (hb : TO X W b Fb) : TB X W (.Compare a [.Is] [b] pos) (tb (e2 isV Fa Fb)) := b_cmp op_isN o_is ha hb (nomark _)
theorem b_in (hu : X.A.units + 65 < cLine) (ha : TO X W a Fa) (hb : TO X W b Fb) (h1 : behindInMarks .In b = false := by with_unfolding_all rfl) : TB X W (.Compare a [.In] [b] pos) (tb (e2 inV' Fa Fb)) := b_cmp (op_inA hu) o_in ha hb h1
end
end Bd
/-! D3: and, or, not, if-else, chains; arguments; built-ins and own defs called; displays, subscripts, slices. -/
namespace Bd
open PySem L2

section
variable {X : Cx} {W : WX} {rl : Rl} {a b c e : Expr} {rest : List Expr} {Fa Fb Fc F : Nv → R D} {Ga Gb G : Nv → R Bool} {pos : Pos}
/-! ### tests joined -/
def TW (X : Cx) (W : WX) (e : Expr) (G : Nv → R Bool) : Prop := PW X e (tT X.K X.mg W G)
theorem pwW {t t' : TT} (h : PW X e t) (k : ∀ σ H Q, t' σ H Q → t σ H Q) : PW X e t' := ⟨fun w pins s σ H Q I q => h.run w pins s σ H Q I (k _ _ _ q)⟩
def andB (Ga Gb : Nv → R Bool) : Nv → R Bool := fun η => (Ga η).bind fun k => if k then Gb η else .ok false
def orB (Ga Gb : Nv → R Bool) : Nv → R Bool := fun η => (Ga η).bind fun k => if k then .ok true else Gb η
def notB (Ga : Nv → R Bool) : Nv → R Bool := fun η => (Ga η).bind fun k => .ok !k
theorem tT_bind {K : PySem.W.Frag} {mg : Str → Option Value} {g : Nv → Bool → R Bool} {σ : L2.St} {H : Hp} {Q : Bool → Hp → Prop} {R1 : Bool → Hp → Prop} (h : tT K mg W (fun η => (Ga η).bind (g η)) σ H Q)
    (k : ∀ (η : Nv) (A : List Addr) (H1 : Hp) (b : Bool), EnvD K H1 A σ η → PostB K mg W σ A H1 (g η b) Q → R1 b H1) : tT K mg W Ga σ H R1 := by
  obtain ⟨η, A, E, p0⟩ := h
  have p : PostB K mg W σ A H ((Ga η).bind (g η)) Q := p0
  refine ⟨η, A, E, ?_⟩
  cases e : Ga η with
  | ex c w q => rw [e] at p; exact p
  | no => rw [e] at p; exact p
  | ok d =>
    rw [e] at p
    have p : PostB K mg W σ A H (g η d) Q := p
    exact fun H1 s => k η A H1 d (E.same s) (p.same s)
theorem w_and1 (ha : TB X W a Ga) : TW X W (.BoolOp .And [a] pos) Ga := pw_and1 ha
theorem w_or1 (ha : TB X W a Ga) : TW X W (.BoolOp .Or [a] pos) Ga := pw_or1 ha
theorem w_and (ha : TB X W a Ga) (hb : TW X W (.BoolOp .And (b :: rest) pos) Gb) : TW X W (.BoolOp .And (a :: b :: rest) pos) (andB Ga Gb) := pwW (pw_and ha hb) fun σ H Q h => tT_bind h fun η A H1 b E p => by
  cases b with
  | true => exact iteT ⟨η, A, E, p⟩
  | false => exact iteF (p H1 (Same.refl _))
theorem w_or (ha : TB X W a Ga) (hb : TW X W (.BoolOp .Or (b :: rest) pos) Gb) : TW X W (.BoolOp .Or (a :: b :: rest) pos) (orB Ga Gb) := pwW (pw_or ha hb) fun σ H Q h => tT_bind h fun η A H1 b E p => by
  cases b with
  | true => exact iteT (p H1 (Same.refl _))
  | false => exact iteF ⟨η, A, E, p⟩
theorem b_w (h : TW X W e G) : TB X W e G := PW.pt h
theorem b_not (ha : TB X W a Ga) : TB X W (.UnaryOp .Not a pos) (notB Ga) := ptW (pt_not ha) fun σ H Q h => tT_bind h fun η A H1 b E p => p H1 (Same.refl _)
/-! as values -/
def andV (Fa Fb : Nv → R D) : Nv → R D := fun η => (Fa η).bind fun x => (tru x).bind fun k => if k then Fb η else .ok x
def orV (Fa Fb : Nv → R D) : Nv → R D := fun η => (Fa η).bind fun x => (tru x).bind fun k => if k then .ok x else Fb η
def notV (Fa : Nv → R D) : Nv → R D := fun η => (Fa η).bind fun x => (tru x).bind fun k => .ok (.bool !k)
theorem tru_noex {d : D} {c w : Str} {p : D} : tru d ≠ .ex c w p := by
  intro e
  cases d <;> first | (cases e; done) | skip
  rename_i y
  have e : (if y.length ≤ lineN then R.ok ((y.length : Int) != 0) else R.no) = .ex c w p := e
  split at e <;> cases e
theorem bindT {g : Nv → D → Bool → R D} {σ : L2.St} {H : Hp} {Q : VK} {R1 : V → Hp → Prop} {rl' : Rl} (hb : Back rl) (h : tR X.K X.mg W rl (fun η => (F η).bind fun x => (tru x).bind fun k => g η x k) σ H Q)
    (k : ∀ (η : Nv) (A : List Addr) (H0 H1 : Hp) (v : V) (d : D) (b : Bool), EnvD X.K H1 A σ η → rl' H0 H1 A v d → tru d = .ok b → Post X.K X.mg W rl σ A H1 (g η d b) Q → R1 v H1) : tR X.K X.mg W rl' F σ H R1 := by
  obtain ⟨η, A, E, p⟩ := bindR (rl' := rl') hb h
  refine ⟨η, A, E, ?_⟩
  cases e : F η with
  | ex c w q => rw [e] at p; exact p
  | no => rw [e] at p; exact p
  | ok d =>
    rw [e] at p
    intro v1 H1 s1 q1
    obtain ⟨η1, A1, d1, s2, E1, q2, _, P⟩ := p v1 H1 s1 q1
    have P : Post X.K X.mg W rl σ A1 H1 ((tru d1).bind fun k => g η1 d1 k) Q := P
    cases e2 : tru d1 with
    | ex c w q => exact absurd e2 tru_noex
    | no => rw [e2] at P; exact False.elim P
    | ok b =>
      rw [e2] at P
      exact k η1 A1 H H1 v1 d1 b E1 q2 e2 P
theorem t_one {op : BoolOp} (h : TD X W a Fa) : TD X W (.BoolOp op [a] pos) Fa := pe_one h
theorem t_and (ha : TD X W a Fa) (hb : TD X W (.BoolOp .And (b :: rest) pos) Fb) : TD X W (.BoolOp .And (a :: b :: rest) pos) (andV Fa Fb) := peW (pe_andT ha hb) fun σ H Q h => bindT (rl' := rD X.K) back_D h fun η A H0 H1 v d k E q e p => by
  refine ⟨k, tru_of (Dp_mono q (hid_le A H1)) e, ?_⟩
  cases k with
  | true => exact iteT ⟨η, A, E, p⟩
  | false => exact iteF (p v H1 (Same.refl _) q)
theorem t_or (ha : TD X W a Fa) (hb : TD X W (.BoolOp .Or (b :: rest) pos) Fb) : TD X W (.BoolOp .Or (a :: b :: rest) pos) (orV Fa Fb) := peW (pe_orT ha hb) fun σ H Q h => bindT (rl' := rD X.K) back_D h fun η A H0 H1 v d k E q e p => by
  refine ⟨k, tru_of (Dp_mono q (hid_le A H1)) e, ?_⟩
  cases k with
  | true => exact iteT (p v H1 (Same.refl _) q)
  | false => exact iteF ⟨η, A, E, p⟩
theorem t_not (ha : TO X W a Fa) : TD X W (.UnaryOp .Not a pos) (notV Fa) := peW (pe_notT ha) fun σ H Q h => bindT (rl' := rO X.K) back_D h fun η A H0 H1 v d k E q e p =>
  ⟨k, tru_of (rO_dp q) e, p _ H1 (Same.refl _) (.bl _)⟩
/-! ### a if t else b -/
def ifV (G : Nv → R Bool) (Fa Fb : Nv → R D) : Nv → R D := fun η => (G η).bind fun k => if k then Fa η else Fb η
theorem tT_bindR {K : PySem.W.Frag} {mg : Str → Option Value} {g : Nv → Bool → R D} {σ : L2.St} {H : Hp} {Q : VK} {R1 : Bool → Hp → Prop} (hb : Back rl) (h : tR K mg W rl (fun η => (Ga η).bind (g η)) σ H Q)
    (k : ∀ (η : Nv) (A : List Addr) (H1 : Hp) (b : Bool), EnvD K H1 A σ η → Post K mg W rl σ A H1 (g η b) Q → R1 b H1) : tT K mg W Ga σ H R1 := by
  obtain ⟨η, A, E, p0⟩ := h
  have p : Post K mg W rl σ A H ((Ga η).bind (g η)) Q := p0
  refine ⟨η, A, E, ?_⟩
  cases e : Ga η with
  | ex c w q => rw [e] at p; exact p
  | no => rw [e] at p; exact p
  | ok d =>
    rw [e] at p
    have p : Post K mg W rl σ A H (g η d) Q := p
    exact fun H1 s => k η A H1 d (E.same s) (Post.same hb s p)
theorem t_if (hc : TB X W c G) (ha : TD X W a Fa) (hb : TD X W b Fb) : TD X W (.IfExp c a b pos) (ifV G Fa Fb) := peW (pe_ifExp hc ha hb) fun σ H Q h => tT_bindR back_D h fun η A H1 k E p => by
  cases k with
  | true => exact iteT ⟨η, A, E, p⟩
  | false => exact iteF ⟨η, A, E, p⟩
/-! ### a op b op' c -/
def chainV (f g : D → D → Option D) (Fa Fb Fc : Nv → R D) : Nv → R D := fun η => (Fa η).bind fun x => (Fb η).bind fun y => (R.of (f x y)).bind fun z => (tru z).bind fun k => if k then (Fc η).bind fun w => .of (g y w) else .ok (.bool false)
theorem chain_t {r r' : R2} {f g : D → D → Option D} (ho : Op2 X rB r f) (ho' : Op2 X rB r' g) {σ : L2.St} {H : Hp} {Q : VK} (h : tR X.K X.mg W rB (chainV f g Fa Fb Fc) σ H Q) :
    tChain r r' (tR X.K X.mg W (rO X.K) Fa) (tR X.K X.mg W (rO X.K) Fb) (tR X.K X.mg W (rO X.K) Fc) σ H Q := by
  have bk : Back rB := fun _ _ _ _ _ _ _ q => q
  obtain ⟨η, A, E, p0⟩ := h
  have p : Post X.K X.mg W rB σ A H ((Fa η).bind fun x => (Fb η).bind fun y => (R.of (f x y)).bind fun z => (tru z).bind fun k => if k then (Fc η).bind fun w => .of (g y w) else .ok (.bool false)) Q := p0
  refine ⟨η, A, E, ?_⟩
  cases e1 : Fa η with
  | ex c w q => rw [e1] at p; exact p
  | no => rw [e1] at p; exact p
  | ok x =>
    rw [e1] at p
    have p : Post X.K X.mg W rB σ A H ((Fb η).bind fun y => (R.of (f x y)).bind fun z => (tru z).bind fun k => if k then (Fc η).bind fun w => .of (g y w) else .ok (.bool false)) Q := p
    intro v1 H1 s1 q1
    refine ⟨η, A, E.same s1, ?_⟩
    cases e2 : Fb η with
    | ex c w q => rw [e2] at p; exact Post.same bk s1 (rl := rB) (r := .ex c w q) p
    | no => rw [e2] at p; exact p
    | ok y =>
      rw [e2] at p
      have p : Post X.K X.mg W rB σ A H ((R.of (f x y)).bind fun z => (tru z).bind fun k => if k then (Fc η).bind fun w => .of (g y w) else .ok (.bool false)) Q := p
      intro v2 H2 s2 q2
      cases e3 : f x y with
      | none => rw [e3] at p; exact False.elim p
      | some z =>
        rw [e3] at p
        have p : Post X.K X.mg W rB σ A H ((tru z).bind fun k => if k then (Fc η).bind fun w => .of (g y w) else .ok (.bool false)) Q := p
        refine ho H2 A v1 v2 x y z _ ((E.same s1).same s2).tr (rO_same s2 q1) (rO_same (Same.refl _) q2) e3 fun v3 H3 s3 q3 => ?_
        obtain ⟨k, rfl, rfl⟩ := q3
        have s13 := (s1.trans s2).trans s3
        refine ⟨k, rfl, ?_⟩
        cases k with
        | false => exact iteF (p (.bl false) H3 s13 ⟨_, rfl, rfl⟩)
        | true =>
          have p : Post X.K X.mg W rB σ A H ((Fc η).bind fun w => .of (g y w)) Q := p
          refine iteT ⟨η, A, E.same s13, ?_⟩
          cases e4 : Fc η with
          | ex c w q => rw [e4] at p; exact Post.same bk s13 (rl := rB) (r := .ex c w q) p
          | no => rw [e4] at p; exact p
          | ok u =>
            rw [e4] at p
            have p : Post X.K X.mg W rB σ A H (.of (g y u)) Q := p
            intro v4 H4 s4 q4
            cases e5 : g y u with
            | none => rw [e5] at p; exact False.elim p
            | some z' =>
              rw [e5] at p
              have s24 := s3.trans s4
              exact ho' H4 A v2 v4 y u z' Q (E.same (s13.trans s4)).tr (rO_same s24 q2) (rO_same (Same.refl _) q4) e5 fun v5 H5 s5 q5 => p v5 H5 ((s13.trans s4).trans s5) q5
theorem t_chain {op op' : CmpOp} {r r' : R2} {f g : D → D → Option D} (hop : OpR X (compareOp op) r) (hop' : OpR X (compareOp op') r') (ho : Op2 X rB r f) (ho' : Op2 X rB r' g) (ha : TO X W a Fa) (hb : TO X W b Fb) (hc : TO X W c Fc)
    (hm : lastMarks [op, op'] [b, c] = false := by with_unfolding_all rfl) : TD X W (.Compare a [op, op'] [b, c] pos) (chainV f g Fa Fb Fc) :=
  peW (pe_chain hop hop' ha hb hc hm) fun σ H Q h => chain_t ho ho' (tR_imp (fun _ _ _ _ _ _ _ q => rB_D q) h)
theorem b_chain {op op' : CmpOp} {r r' : R2} {f g : D → D → Option D} (hop : OpR X (compareOp op) r) (hop' : OpR X (compareOp op') r') (ho : Op2 X rB r f) (ho' : Op2 X rB r' g) (ha : TO X W a Fa) (hb : TO X W b Fb) (hc : TO X W c Fc)
    (hm : lastMarks [op, op'] [b, c] = false := by with_unfolding_all rfl) : TB X W (.Compare a [op, op'] [b, c] pos) (tb (chainV f g Fa Fb Fc)) :=
  ptW (pt_chain hop hop' ha hb hc hm) fun σ H Q h => chain_t ho ho' (tT_of (t := fun _ _ _ => True) (rl := rB) h fun A H1 v d b q e r => by
    obtain ⟨k, rfl, rfl⟩ := q
    cases e
    exact ⟨_, rfl, r⟩)

/-! ### arguments -/
/-- how a value lies, without a heap ahead -/
abbrev Rv := Hp → List Addr → V → D → Prop
def vO (K : PySem.W.Frag) : Rv := fun H A v d => rO K H H A v d
def vD (K : PySem.W.Frag) : Rv := fun H A v d => Dp K (hid A H) v d
def Keeps (rv : Rv) : Prop := ∀ H H' A v d, Same H H' → rv H A v d → rv H' A v d
theorem keeps_O {K : PySem.W.Frag} : Keeps (vO K) := fun _ _ _ _ _ s h => rO_same s h
theorem keeps_D {K : PySem.W.Frag} : Keeps (vD K) := fun _ _ _ _ _ s h => Dp_mono h (hid_same s)
def AllV (rv : Rv) (H : Hp) (A : List Addr) : List V → List D → Prop
  | [], [] => True
  | v :: vs, d :: ds => rv H A v d ∧ AllV rv H A vs ds
  | _, _ => False
theorem AllV.dp {K : PySem.W.Frag} {H : Hp} {A : List Addr} : ∀ {vs : List V} {ds : List D}, AllV (vD K) H A vs ds → DpAll K (hid A H) vs ds
  | [], [], _ => .nil
  | _ :: _, _ :: _, h => .cons h.1 (AllV.dp h.2)
  | [], _ :: _, h => h.elim
  | _ :: _, [], h => h.elim
theorem AllV.len {rv : Rv} {H : Hp} {A : List Addr} : ∀ {vs : List V} {ds : List D}, AllV rv H A vs ds → vs.length = ds.length
  | [], [], _ => rfl
  | _ :: _, _ :: _, h => by rw [List.length_cons, List.length_cons, AllV.len h.2]
  | [], _ :: _, h => h.elim
  | _ :: _, [], h => h.elim
def PostA (K : PySem.W.Frag) (mg : Str → Option Value) (W : WX) (rv : Rv) (σ : L2.St) (A : List Addr) (H : Hp) (r : R (List D)) (Q : List V → Hp → Prop) : Prop :=
  match r with
  | .ok ds => ∀ vs H', Same H H' → AllV rv H' A vs ds → Q vs H'
  | .ex c w p => ∀ cls dd H', Same H H' → ExR K mg (hid A H') cls dd c w p → W cls dd σ H'
  | .no => False
def tA (K : PySem.W.Frag) (mg : Str → Option Value) (W : WX) (rv : Rv) (Fs : Nv → R (List D)) : TA := fun σ H Q => ∃ η A, EnvD K H A σ η ∧ PostA K mg W rv σ A H (Fs η) Q
def TAs (X : Cx) (W : WX) (rv : Rv) (es : List Expr) (Fs : Nv → R (List D)) : Prop := PA X es (tA X.K X.mg W rv Fs)
def TV (X : Cx) (W : WX) (rv : Rv) (e : Expr) (F : Nv → R D) : Prop := PE X e (tR X.K X.mg W (fun _ H' A v d => rv H' A v d) F)
theorem TD.v (h : TD X W e F) : TV X W (vD X.K) e F := h
theorem TO.v (h : TO X W e F) : TV X W (vO X.K) e F := peW h fun _ _ _ => tR_imp fun _ _ _ _ _ _ _ q => rO_same (Same.refl _) q
def a0 : Nv → R (List D) := fun _ => .ok []
def aC (Fa : Nv → R D) (Fs : Nv → R (List D)) : Nv → R (List D) := fun η => (Fa η).bind fun x => (Fs η).bind fun xs => .ok (x :: xs)
theorem paW {es : List Expr} {t t' : TA} (h : PA X es t) (k : ∀ σ H Q, t' σ H Q → t σ H Q) : PA X es t' := ⟨fun pos pins s σ H Q I q => h.run pos pins s σ H Q I (k _ _ _ q)⟩
theorem as_nil {rv : Rv} : TAs X W rv [] a0 := paW pa_nil fun σ H Q ⟨η, A, E, p⟩ => p [] H (Same.refl _) trivial
theorem as_cons {rv : Rv} {es : List Expr} {Fs : Nv → R (List D)} (hk : Keeps rv) (ha : TV X W rv a Fa) (hs : TAs X W rv es Fs) (h1 : starEach (a :: es) X.env = (false, eval a X.env) :: starEach es X.env := by rfl) : TAs X W rv (a :: es) (aC Fa Fs) :=
  paW (pa_cons ha hs h1) fun σ H Q h => by
    obtain ⟨η, A, E, p0⟩ := h
    have p : PostA X.K X.mg W rv σ A H ((Fa η).bind fun x => (Fs η).bind fun xs => .ok (x :: xs)) Q := p0
    refine (show tR X.K X.mg W (fun _ H' A v d => rv H' A v d) Fa σ H _ from ⟨η, A, E, ?_⟩)
    cases e1 : Fa η with
    | ex c w q => rw [e1] at p; exact p
    | no => rw [e1] at p; exact p
    | ok x =>
      rw [e1] at p
      have p : PostA X.K X.mg W rv σ A H ((Fs η).bind fun xs => .ok (x :: xs)) Q := p
      intro v H1 s1 q1
      refine (show tA X.K X.mg W rv Fs σ H1 _ from ⟨η, A, E.same s1, ?_⟩)
      cases e2 : Fs η with
      | ex c w q =>
        rw [e2] at p
        exact fun cls dd H' s q' => p cls dd H' (s1.trans s) q'
      | no => rw [e2] at p; exact p
      | ok xs =>
        rw [e2] at p
        exact fun vs H2 s2 q2 => p (v :: vs) H2 (s1.trans s2) ⟨hk _ _ _ _ _ s2 q1, q2⟩
/-- a built-in function's answer by data -/
def OpN (X : Cx) (rl : Rl) (r : List V → Hp → VK → Prop) (f : List D → Option D) : Prop :=
  ∀ (H : Hp) (A : List Addr) (vs : List V) (ds : List D) (d : D) (Q : VK), (∀ p ∈ A, H p ≠ none) → AllV (vO X.K) H A vs ds → f ds = some d → (∀ v H', Same H H' → rl H H' A v d → Q v H') → r vs H Q
def eN (f : List D → Option D) (Fs : Nv → R (List D)) : Nv → R D := fun η => (Fs η).bind fun ds => .of (f ds)
theorem opN_t {r : List V → Hp → VK → Prop} {f : List D → Option D} {Fs : Nv → R (List D)} (hb : Back rl) (ho : OpN X rl r f) {σ : L2.St} {H : Hp} {Q : VK} (h : tR X.K X.mg W rl (eN f Fs) σ H Q) : tCB r (tA X.K X.mg W (vO X.K) Fs) σ H Q := by
  obtain ⟨η, A, E, p0⟩ := h
  have p : Post X.K X.mg W rl σ A H ((Fs η).bind fun ds => .of (f ds)) Q := p0
  refine (show tA X.K X.mg W (vO X.K) Fs σ H _ from ⟨η, A, E, ?_⟩)
  cases e1 : Fs η with
  | ex c w q => rw [e1] at p; exact p
  | no => rw [e1] at p; exact p
  | ok ds =>
    rw [e1] at p
    have p : Post X.K X.mg W rl σ A H (.of (f ds)) Q := p
    intro vs H1 s1 q1
    cases e2 : f ds with
    | none => rw [e2] at p; exact False.elim p
    | some d =>
      rw [e2] at p
      exact ho H1 A vs ds d Q (E.same s1).tr q1 e2 fun v H' s q => p v H' (s1.trans s) (hb _ _ _ _ _ _ s1 q)
theorem t_callB {id : String} {x : Str} {p : Pos} {es : List Expr} {r : List V → Hp → VK → Prop} {f : List D → Option D} {Fs : Nv → R (List D)} (hb : Back rl) (hc : CallR X (.builtin id) r) (ho : OpN X rl r f) (hg : Gl X x) (hm : X.mg x = none) (hv : bootBuiltins x = some (.builtin id))
    (ha : TAs X W (vO X.K) (e :: es) Fs) (hn : x ≠ "__name__" := by decide) (hdb : (x == ("__debug__" : Str)) = false := by decide) (he : starEach (e :: es) X.env = (false, eval e X.env) :: starEach es X.env := by rfl)
    (hpl : (backTo pos (starEach es X.env)).any (·.1) = false := by rfl) : PE X (.Call (.Name x p) (e :: es) [] pos) (tR X.K X.mg W rl (eN f Fs)) :=
  peW (pe_callB hc hg hm hv ha hn hdb he hpl) fun _ _ _ => opN_t hb ho
theorem t_callTy {T : String} {x : Str} {p : Pos} {es : List Expr} {r : List V → Hp → VK → Prop} {f : List D → Option D} {Fs : Nv → R (List D)} (hb : Back rl) (hc : CallR X (.type T) r) (ho : OpN X rl r f) (hg : Gl X x) (hm : X.mg x = none) (hv : bootBuiltins x = some (.type T))
    (ha : TAs X W (vO X.K) (e :: es) Fs) (hn : x ≠ "__name__" := by decide) (hdb : (x == ("__debug__" : Str)) = false := by decide) (he : starEach (e :: es) X.env = (false, eval e X.env) :: starEach es X.env := by rfl)
    (hpl : (backTo pos (starEach es X.env)).any (·.1) = false := by rfl) : PE X (.Call (.Name x p) (e :: es) [] pos) (tR X.K X.mg W rl (eN f Fs)) :=
  peW (pe_callTy hc hg hm hv ha hn hdb he hpl) fun _ _ _ => opN_t hb ho
/-! ### displays -/
def tupV (Fs : Nv → R (List D)) : Nv → R D := eN (fun ds => if ds.length ≤ lineN then some (.tuple ds) else none) Fs
def lstV (Fs : Nv → R (List D)) : Nv → R D := eN (fun ds => if ds.length ≤ lineN then some (.list ds) else none) Fs
theorem t_tup {es : List Expr} {x1 : Nat} {Fs : Nv → R (List D)} (h : TAs X W (vD X.K) es Fs) : TD X W (.Tuple es x1 pos) (tupV Fs) := peW (pe_tup h) fun σ H Q hq => by
  obtain ⟨η, A, E, p0⟩ := hq
  have p : Post X.K X.mg W (rD X.K) σ A H ((Fs η).bind fun ds => .of (if ds.length ≤ lineN then some (.tuple ds) else none)) Q := p0
  refine (show tA X.K X.mg W (vD X.K) Fs σ H _ from ⟨η, A, E, ?_⟩)
  cases e1 : Fs η with
  | ex c w q => rw [e1] at p; exact p
  | no => rw [e1] at p; exact p
  | ok ds =>
    rw [e1] at p
    have p : Post X.K X.mg W (rD X.K) σ A H (.of (if ds.length ≤ lineN then some (.tuple ds) else none)) Q := p
    intro vs H1 s1 q1
    split at p
    · rename_i hz
      exact ⟨by rw [q1.len, line_eq]; exact hz, fun q hq => p _ _ (s1.trans (same_new hq)) (dp_new_tup (E.same s1).tr hq q1.dp)⟩
    · exact False.elim p
theorem t_lst {es : List Expr} {Fs : Nv → R (List D)} (h : TAs X W (vD X.K) es Fs) : TF X W (.List es pos) (lstV Fs) := peW (pe_lst h) fun σ H Q hq => by
  obtain ⟨η, A, E, p0⟩ := hq
  have p : Post X.K X.mg W (rF X.K) σ A H ((Fs η).bind fun ds => .of (if ds.length ≤ lineN then some (.list ds) else none)) Q := p0
  refine (show tA X.K X.mg W (vD X.K) Fs σ H _ from ⟨η, A, E, ?_⟩)
  cases e1 : Fs η with
  | ex c w q => rw [e1] at p; exact p
  | no => rw [e1] at p; exact p
  | ok ds =>
    rw [e1] at p
    have p : Post X.K X.mg W (rF X.K) σ A H (.of (if ds.length ≤ lineN then some (.list ds) else none)) Q := p
    intro vs H1 s1 q1
    split at p
    · rename_i hz
      exact ⟨by rw [q1.len, line_eq]; exact hz, fun q hq => p _ _ (s1.trans (same_new hq)) (back_F _ _ _ _ _ _ s1 (dp_new_list (E.same s1).tr hq q1.dp))⟩
    · exact False.elim p
/-! ### subscripts and slices -/
def atD (xs : List D) (i : Int) : Option D := (ixN xs.length i).bind fun j => xs[j]?
def ixV : D → D → Option D
  | .list xs, .int i => atD xs i
  | .tuple xs, .int i => atD xs i
  | _, _ => none
theorem atI_of {K : PySem.W.Frag} {H : Hp} {vs : List V} {ds : List D} {i : Int} {d : D} (h : DpAll K H vs ds) (e : atD ds i = some d) : ∃ v, atI vs i = some v ∧ Dp K H v d := by
  unfold atD at e
  unfold atI
  rw [DpAll_length h]
  cases q : ixN ds.length i with
  | none => rw [q] at e; cases e
  | some j =>
    rw [q] at e
    exact DpAll_get h e
theorem o_ix : Op2 X (rD X.K) (rIx X.K) ixV := by
  intro H A x y a b d Q hA ha hb e k
  unfold ixV at e
  split at e
  · obtain ⟨l, vs, rfl, h1, q⟩ := rO_list ha
    obtain ⟨v, e1, q1⟩ := atI_of q e
    exact .inl ⟨l, vs, _, v, rfl, rO_int hb, h1, e1, k v H (Same.refl _) q1⟩
  · obtain ⟨l, vs, rfl, h1, _, q⟩ := rO_tup ha
    obtain ⟨v, e1, q1⟩ := atI_of q e
    exact .inr (.inl ⟨l, vs, _, v, rfl, rO_int hb, h1, e1, k v H (Same.refl _) q1⟩)
  · cases e
theorem t_ix (ha : TO X W a Fa) (hb : TO X W b Fb) (hs : PlainIx b := by exact fun _ _ => rfl) : TD X W (.Subscript a b pos) (e2 ixV Fa Fb) := peW (pe_ix ix_seq ha hb hs) fun _ _ _ => op2_t back_D o_ix
def cutD (xs : List D) (lo hi : Option Int) : List D := (xs.drop (HT.sIx xs.length 0 lo)).take (HT.sIx xs.length xs.length hi - HT.sIx xs.length 0 lo)
theorem cut_of {K : PySem.W.Frag} {H : Hp} {vs : List V} {ds : List D} {lo hi : Option Int} (h : DpAll K H vs ds) : DpAll K H (cutV vs lo hi) (cutD ds lo hi) := by
  unfold cutV cutD
  rw [DpAll_length h]
  exact DpAll_take _ (DpAll_drop _ h)
def slV (lo hi : Option Int) : D → Option D
  | .list xs => some (.list (cutD xs lo hi))
  | .tuple xs => some (.tuple (cutD xs lo hi))
  | _ => none
def slL (lo hi : Option Int) : D → Option D
  | .list xs => some (.list (cutD xs lo hi))
  | _ => none
/-- a slice's part: left out, or an int -/
def TPt (X : Cx) (W : WX) (e : Option Expr) (F : Nv → R (Option Int)) : Prop :=
  ∃ t : L2.TO, PO X e t ∧ ∀ σ H (Q : Option Int → Hp → Prop), (∃ η A, EnvD X.K H A σ η ∧ match F η with
    | .ok o => ∀ H', Same H H' → Q o H'
    | .ex c w p => ∀ cls dd H', Same H H' → ExR X.K X.mg (hid A H') cls dd c w p → W cls dd σ H'
    | .no => False) → t σ H Q
def p0 : Nv → R (Option Int) := fun _ => .ok none
def asInt : D → R (Option Int)
  | .int i => .ok (some i)
  | _ => .no
def p1 (F : Nv → R D) : Nv → R (Option Int) := fun η => (F η).bind asInt
theorem pt_0 : TPt X W none p0 := ⟨_, po_none, fun σ H Q ⟨η, A, E, p⟩ => p H (Same.refl _)⟩
theorem pt_1 (h : TO X W e F) : TPt X W (some e) (p1 F) := ⟨_, po_some h, fun σ H Q ⟨η, A, E, p⟩ => by
  refine (show tR X.K X.mg W (rO X.K) F σ H _ from ⟨η, A, E, ?_⟩)
  unfold p1 at p
  cases e1 : F η with
  | ex c w q => rw [e1] at p; exact p
  | no => rw [e1] at p; exact p
  | ok d =>
    rw [e1] at p
    intro v H1 s1 q1
    cases d with
    | int i => exact ⟨i, rO_int q1, p H1 s1⟩
    | _ => exact False.elim p⟩
def slE (sl : Option Int → Option Int → D → Option D) (F : Nv → R D) (Lo Hi : Nv → R (Option Int)) : Nv → R D := fun η => (F η).bind fun x => (Lo η).bind fun l => (Hi η).bind fun h => .of (sl l h x)
theorem slice_t {r : V → Option Int → Option Int → Hp → VK → Prop} {sl : Option Int → Option Int → D → Option D} {lo hi : Option Expr} {Lo Hi : Nv → R (Option Int)} {p2 : Pos} (hb : Back rl) (hr : SlR X r)
    (ho : ∀ (H : Hp) (A : List Addr) (x : V) (a d : D) (l h : Option Int) (Q : VK), (∀ p ∈ A, H p ≠ none) → rO X.K H H A x a → sl l h a = some d → (∀ v H', Same H H' → rl H H' A v d → Q v H') → r x l h H Q)
    (ha : TO X W a Fa) (hl : TPt X W lo Lo) (hh : TPt X W hi Hi) : PE X (.Subscript a (.Slice lo hi none p2) pos) (tR X.K X.mg W rl (slE sl Fa Lo Hi)) := by
  obtain ⟨tl, pl, kl⟩ := hl
  obtain ⟨th, ph, kh⟩ := hh
  refine peW (pe_slice hr ha pl ph) fun σ H Q h => ?_
  obtain ⟨η, A, E, q0⟩ := h
  have p : Post X.K X.mg W rl σ A H ((Fa η).bind fun x => (Lo η).bind fun l => (Hi η).bind fun h => .of (sl l h x)) Q := q0
  refine (show tR X.K X.mg W (rO X.K) Fa σ H _ from ⟨η, A, E, ?_⟩)
  cases e1 : Fa η with
  | ex c w q => rw [e1] at p; exact p
  | no => rw [e1] at p; exact p
  | ok x =>
    rw [e1] at p
    have p : Post X.K X.mg W rl σ A H ((Lo η).bind fun l => (Hi η).bind fun h => .of (sl l h x)) Q := p
    intro v H1 s1 q1
    refine kl σ H1 _ ⟨η, A, E.same s1, ?_⟩
    cases e2 : Lo η with
    | ex c w q => rw [e2] at p; exact fun cls dd H' s q' => p cls dd H' (s1.trans s) q'
    | no => rw [e2] at p; exact p
    | ok l =>
      rw [e2] at p
      have p : Post X.K X.mg W rl σ A H ((Hi η).bind fun h => .of (sl l h x)) Q := p
      intro H2 s2
      have s12 := s1.trans s2
      refine kh σ H2 _ ⟨η, A, E.same s12, ?_⟩
      cases e3 : Hi η with
      | ex c w q => rw [e3] at p; exact fun cls dd H' s q' => p cls dd H' (s12.trans s) q'
      | no => rw [e3] at p; exact p
      | ok h =>
        rw [e3] at p
        have p : Post X.K X.mg W rl σ A H (.of (sl l h x)) Q := p
        intro H3 s3
        have s13 := s12.trans s3
        cases e4 : sl l h x with
        | none => rw [e4] at p; exact False.elim p
        | some d =>
          rw [e4] at p
          exact ho H3 A v x d l h Q (E.same s13).tr (rO_same (s2.trans s3) q1) e4 fun v' H' s q => p v' H' (s13.trans s) (hb _ _ _ _ _ _ s13 q)
theorem cut_whole {xs : List D} {lo hi : Option Int} (h : HT.sIx xs.length 0 lo = 0 ∧ HT.sIx xs.length xs.length hi = xs.length) : cutD xs lo hi = xs := by
  unfold cutD
  rw [h.1, h.2]
  simp
theorem t_slice {lo hi : Option Expr} {Lo Hi : Nv → R (Option Int)} {p2 : Pos} (ha : TO X W a Fa) (hl : TPt X W lo Lo) (hh : TPt X W hi Hi) : TD X W (.Subscript a (.Slice lo hi none p2) pos) (slE slV Fa Lo Hi) :=
  slice_t back_D (SlR.or sl_list sl_tupA) (fun H A x a d l h Q hA ha e k => by
    unfold slV at e
    split at e
    · have e := Option.some.inj e
      subst e
      obtain ⟨p, vs, rfl, h1, q⟩ := rO_list ha
      exact .inl ⟨p, vs, rfl, h1, fun z hz => k _ _ (same_new hz) (rF_D (nofree hA) (dp_new_list hA hz (cut_of q)))⟩
    · have e := Option.some.inj e
      subst e
      obtain ⟨p, vs, rfl, h1, h1', q⟩ := rO_tup ha
      refine .inr ⟨p, vs, rfl, h1, fun w => ?_, fun _ z hz => k _ _ (same_new hz) (dp_new_tup hA hz (cut_of q))⟩
      rw [DpAll_length q] at w
      refine k _ H (Same.refl _) ?_
      rw [cut_whole w]
      exact .tup h1' q
    · cases e) ha hl hh
end
end Bd
/-! D4: targets, what is walked, comprehensions, statements. -/
namespace Bd
open PySem L2

section
variable {X : Cx} {W : WX} {rl : Rl} {a b c e tg iter : Expr} {Fa Fb Fc F : Nv → R D} {Ga Gb G : Nv → R Bool} {pos : Pos}
/-! ### targets -/
abbrev Tgt := D → Nv → Option Nv
abbrev Tgts := List D → Nv → Option Nv
structure Stored (σ σ' : L2.St) (η η' : Nv) (js : List Nat) : Prop where
  len : σ'.length = σ.length
  rest : ∀ j, j ∉ js → σ'[j]? = σ[j]?
  own : ∀ i xs, η'[i]? = some (.own xs) → i ∉ js ∧ η[i]? = some (.own xs)
  dk : ∀ i ks, η'[i]? = some (.dk ks) → i ∉ js ∧ η[i]? = some (.dk ks)
theorem Stored.trans {σ σ1 σ2 : L2.St} {η η1 η2 : Nv} {js ks : List Nat} (h : Stored σ σ1 η η1 js) (k : Stored σ1 σ2 η1 η2 ks) : Stored σ σ2 η η2 (js ++ ks) where
  len := k.len.trans h.len
  rest := fun j n => by
    rw [List.mem_append, not_or] at n
    rw [k.rest j n.2, h.rest j n.1]
  own := fun i xs e => by
    obtain ⟨n1, e1⟩ := k.own i xs e
    obtain ⟨n2, e2⟩ := h.own i xs e1
    exact ⟨by rw [List.mem_append, not_or]; exact ⟨n2, n1⟩, e2⟩
  dk := fun i xs e => by
    obtain ⟨n1, e1⟩ := k.dk i xs e
    obtain ⟨n2, e2⟩ := h.dk i xs e1
    exact ⟨by rw [List.mem_append, not_or]; exact ⟨n2, n1⟩, e2⟩
def gD (K : PySem.W.Frag) (T : Tgt) (js : List Nat) : TG := fun v σ H Q => ∃ η A x η', EnvD K H A σ η ∧ Dp K (hid A H) v x ∧ T x η = some η' ∧ ∀ σ', EnvD K H A σ' η' → Stored σ σ' η η' js → Q σ' H
def gsD (K : PySem.W.Frag) (T : Tgts) (js : List Nat) : TGs := fun vs σ H Q => ∃ η A xs η', EnvD K H A σ η ∧ DpAll K (hid A H) vs xs ∧ T xs η = some η' ∧ ∀ σ', EnvD K H A σ' η' → Stored σ σ' η η' js → Q σ' H
def TT' (X : Cx) (tg : Expr) (T : Tgt) (js : List Nat) : Prop := PG X tg (gD X.K T js)
def TTs (X : Cx) (tgs : List Expr) (T : Tgts) (js : List Nat) : Prop := PGs X tgs (gsD X.K T js)
theorem pgW {t t' : TG} (h : PG X e t) (k : ∀ v σ H Q, t' v σ H Q → t v σ H Q) : PG X e t' := ⟨fun pins s σ H v u Q r I q => h.run pins s σ H v u Q r I (k _ _ _ _ q)⟩
theorem pgsW {es : List Expr} {t t' : TGs} (h : PGs X es t) (k : ∀ v σ H Q, t' v σ H Q → t v σ H Q) : PGs X es t' := ⟨fun pins s σ H v u Q r I q => h.run pins s σ H v u Q r I (k _ _ _ _ q)⟩
def gN (i : Nat) : Tgt := fun x η => some (η.set i (.d x))
theorem EnvD.set {K : PySem.W.Frag} {H : Hp} {A : List Addr} {σ : L2.St} {η : Nv} {i : Nat} {v : V} {x : D} (E : EnvD K H A σ η) (q : Dp K (hid A H) v x) : EnvD K H A (σ.set i (some v)) (η.set i (.d x)) where
  len := by rw [List.length_set, List.length_set, E.len]
  at_ := fun j s e => by
    by_cases hj : i = j
    · subst hj
      have hl : i < η.length := by
        have := (List.getElem?_eq_some_iff.mp e).1
        rwa [List.length_set] at this
      rw [List.getElem?_set_self hl] at e
      cases e
      exact ⟨some v, by rw [List.getElem?_set_self (by rw [E.len]; exact hl)], q⟩
    · rw [List.getElem?_set_ne hj] at e ⊢
      exact E.at_ j s e
  ap := fun j k a xs ys e1 e2 e3 e4 => by
    by_cases hj : i = j
    · subst hj
      by_cases hl : i < η.length
      · rw [List.getElem?_set_self hl] at e1
        cases e1
      · rw [List.getElem?_eq_none (by rw [List.length_set]; omega)] at e1
        cases e1
    · by_cases hk : i = k
      · subst hk
        by_cases hl : i < η.length
        · rw [List.getElem?_set_self hl] at e2
          cases e2
        · rw [List.getElem?_eq_none (by rw [List.length_set]; omega)] at e2
          cases e2
      · rw [List.getElem?_set_ne hj] at e1 e3
        rw [List.getElem?_set_ne hk] at e2 e4
        exact E.ap j k a xs ys e1 e2 e3 e4
  tr := E.tr
theorem dk_set {η : Nv} {i j : Nat} {s : Sl} {ks : Dks} (hs : ∀ ks, s ≠ .dk ks) (h : (η.set i s)[j]? = some (.dk ks)) : j ≠ i ∧ η[j]? = some (.dk ks) := by
  by_cases hj : i = j
  · subst hj
    by_cases hl : i < η.length
    · rw [List.getElem?_set_self hl] at h
      exact absurd (Option.some.inj h) (hs ks)
    · rw [List.getElem?_eq_none (by rw [List.length_set]; omega)] at h
      cases h
  · rw [List.getElem?_set_ne hj] at h
    exact ⟨fun z => hj z.symm, h⟩
theorem own_set {η : Nv} {i j : Nat} {x : D} {xs : OL} (h : (η.set i (.d x))[j]? = some (.own xs)) : j ≠ i ∧ η[j]? = some (.own xs) := by
  by_cases hj : i = j
  · subst hj
    by_cases hl : i < η.length
    · rw [List.getElem?_set_self hl] at h
      cases h
    · rw [List.getElem?_eq_none (by rw [List.length_set]; omega)] at h
      cases h
  · rw [List.getElem?_set_ne hj] at h
    exact ⟨fun z => hj z.symm, h⟩
theorem g_name (i : Nat) {x : Str} (hN : X.N.Nodup) (hi : X.N[i]? = some x := by rfl) (hx : Loc X.env.scope x := by first | exact Or.inl rfl | exact Or.inr rfl) (hf : X.fn x = true ∨ X.env.scope.names.lookup x = some .local := by first | exact .inl rfl | exact .inr rfl) : TT' X (.Name x pos) (gN i) [i] :=
  pgW (pg_name hN hi hx hf) fun v σ H Q ⟨η, A, x, η', E, q, e, k⟩ => by
    cases e
    refine k _ (E.set q) ⟨List.length_set, fun j n => ?_, fun j xs e => ?_, fun j xs e => ?_⟩
    · rw [List.getElem?_set_ne fun z => n (by rw [z]; exact List.mem_cons_self)]
    · obtain ⟨n, e⟩ := own_set e
      exact ⟨by simpa using n, e⟩
    · obtain ⟨n, e⟩ := dk_set (s := .d x) (fun _ z => nomatch z) e
      exact ⟨by simpa using n, e⟩
def gs0 : Tgts := fun xs η => match xs with
  | [] => some η
  | _ => none
def gsC (T : Tgt) (U : Tgts) : Tgts := fun xs η => match xs with
  | x :: r => (T x η).bind (U r)
  | _ => none
theorem g_nil : TTs X [] gs0 [] := pgsW pgs_nil fun v σ H Q ⟨η, A, xs, η', E, q, e, k⟩ => by
  unfold gs0 at e
  split at e
  · cases e
    cases q
    exact ⟨rfl, k σ E ⟨rfl, fun _ _ => rfl, fun i xs e => ⟨by simp, e⟩, fun i xs e => ⟨by simp, e⟩⟩⟩
  · cases e
theorem g_cons {es : List Expr} {T : Tgt} {U : Tgts} {js ks : List Nat} (h1 : TT' X e T js) (h2 : TTs X es U ks) (hs : (assignEach (e :: es) X.env).map (·.2) = assign e X.env :: (assignEach es X.env).map (·.2) := by rfl) : TTs X (e :: es) (gsC T U) (js ++ ks) := pgsW (pgs_cons h1 h2 hs) fun v σ H Q ⟨η, A, xs, η', E, q, e, k⟩ => by
  unfold gsC at e
  split at e
  · rename_i x r
    cases q with
    | cons q1 q2 =>
      cases e1 : T x η with
      | none => rw [e1] at e; cases e
      | some η1 =>
        rw [e1] at e
        exact ⟨_, _, rfl, η, A, x, η1, E, q1, e1, fun σ1 E1 S1 => ⟨η1, A, r, η', E1, q2, e, fun σ2 E2 S2 => k σ2 E2 (S1.trans S2)⟩⟩
  · cases e
def gT (n : Nat) (U : Tgts) : Tgt := fun x η => match x with
  | .tuple xs => if xs.length = n then U xs η else none
  | _ => none
theorem g_tup {es : List Expr} {k : Nat} {U : Tgts} {js : List Nat} {n : Nat} (hc : X.calm = true) (h : TTs X es U js) (hn : (assignEach es X.env).length = n := by rfl) (hst : (assignEach es X.env).findIdx? (·.1) = none := by rfl) : TT' X (.Tuple es k pos) (gT n U) js := by
  refine pgW (pg_tup hc h hn hst) fun v σ H Q ⟨η, A, x, η', E, q, e, k⟩ => ?_
  unfold gT at e
  split at e
  · split at e
    · rename_i hl
      cases q with
      | tup h1 h2 => exact ⟨_, _, rfl, sqT_same (hid_le A H) h1, by rw [DpAll_length h2]; exact hl, η, A, _, η', E, h2, e, k⟩
    · cases e
  · cases e

/-! ### what is walked -/
structure Walks (K : PySem.W.Frag) (J : It) (H1 : Hp) (A : List Addr) (ds : List D) : Prop where
  step : ∀ (i : Nat) (x : D), ds[i]? = some x → ∀ (A' : List Addr) (H2 : Hp), Same (hid A H1) (hid A' H2) → (∀ p ∈ A', H2 p ≠ none) → J.go i H2 ∧ ∀ v H3, J.yld i H2 v H3 → Same H2 H3 ∧ Dp K (hid A' H3) v x
  stop : ∀ (A' : List Addr) (H2 : Hp), Same (hid A H1) (hid A' H2) → J.stop ds.length H2
def PostI (K : PySem.W.Frag) (mg : Str → Option Value) (W : WX) (σ : L2.St) (A : List Addr) (H : Hp) (r : R (List D)) (Q : It → Hp → Prop) : Prop :=
  match r with
  | .ok ds => ∀ J H', Same H H' → Walks K J H' A ds → Q J H'
  | .ex c w p => ∀ cls dd H', Same H H' → ExR K mg (hid A H') cls dd c w p → W cls dd σ H'
  | .no => False
def tI (K : PySem.W.Frag) (mg : Str → Option Value) (W : WX) (F : Nv → R (List D)) : TI := fun σ H Q => ∃ η A, EnvD K H A σ η ∧ PostI K mg W σ A H (F η) Q
def TI' (X : Cx) (W : WX) (tg iter : Expr) (F : Nv → R (List D)) : Prop := PI X tg iter (tI X.K X.mg W F)
theorem piW {t t' : TI} (h : PI X tg iter t) (k : ∀ σ H Q, t' σ H Q → t σ H Q) : PI X tg iter t' := ⟨fun pins s σ H Q I q => h.run pins s σ H Q I (k _ _ _ q)⟩
theorem walks_list {K : PySem.W.Frag} {H1 : Hp} {A : List Addr} {a : Addr} {vs : List V} {ds : List D} (h1 : SqL K (hid A H1) a vs) (q : DpAll K (hid A H1) vs ds) : Walks K (Itl K a) H1 A ds where
  step := fun i x e A' H2 s _ => by
    obtain ⟨v, e1, q1⟩ := DpAll_get q e
    have h2 : SqL K H2 a vs := (hid_le A' H2).seq (s.seq h1)
    refine ⟨⟨vs, v, h2, e1⟩, fun u H3 y => ?_⟩
    obtain ⟨rfl, y⟩ := y
    have z := y vs h2
    rw [e1] at z
    cases z
    exact ⟨Same.refl _, Dp_mono q1 s⟩
  stop := fun A' H2 s => ⟨vs, (hid_le A' H2).seq (s.seq h1), Nat.le_of_eq (DpAll_length q)⟩
theorem walks_tup {K : PySem.W.Frag} {H1 : Hp} {A : List Addr} {a : Addr} {vs : List V} {ds : List D} (h1 : SqT K (hid A H1) a vs) (q : DpAll K (hid A H1) vs ds) : Walks K (Itt K a) H1 A ds where
  step := fun i x e A' H2 s _ => by
    obtain ⟨v, e1, q1⟩ := DpAll_get q e
    have h2 : SqT K H2 a vs := sqT_same (hid_le A' H2) (sqT_same s h1)
    refine ⟨⟨vs, v, h2, e1⟩, fun u H3 y => ?_⟩
    obtain ⟨rfl, y⟩ := y
    have z := y vs h2
    rw [e1] at z
    cases z
    exact ⟨Same.refl _, Dp_mono q1 s⟩
  stop := fun A' H2 s => ⟨vs, sqT_same (hid_le A' H2) (sqT_same s h1), Nat.le_of_eq (DpAll_length q)⟩
def asL : D → R (List D)
  | .list xs => .ok xs
  | _ => .no
def asT : D → R (List D)
  | .tuple xs => .ok xs
  | _ => .no
def iL (F : Nv → R D) : Nv → R (List D) := fun η => (F η).bind asL
def iT (F : Nv → R D) : Nv → R (List D) := fun η => (F η).bind asT
theorem i_list (h : TD X W iter F) : TI' X W tg iter (iL F) := piW (pi_list h) fun σ H Q ⟨η, A, E, p0⟩ => by
  have p : PostI X.K X.mg W σ A H ((F η).bind asL) Q := p0
  refine (show tR X.K X.mg W (rD X.K) F σ H _ from ⟨η, A, E, ?_⟩)
  cases e1 : F η with
  | ex c w q => rw [e1] at p; exact p
  | no => rw [e1] at p; exact p
  | ok d =>
    rw [e1] at p
    intro v H1 s1 q1
    cases d with
    | list xs =>
      cases q1 with
      | lst h1 h2 => exact ⟨_, rfl, ⟨_, (hid_le A H1).seq h1⟩, p _ H1 s1 (walks_list h1 h2)⟩
    | _ => exact False.elim p
theorem i_tup (h : TD X W iter F) : TI' X W tg iter (iT F) := piW (pi_tup h) fun σ H Q ⟨η, A, E, p0⟩ => by
  have p : PostI X.K X.mg W σ A H ((F η).bind asT) Q := p0
  refine (show tR X.K X.mg W (rD X.K) F σ H _ from ⟨η, A, E, ?_⟩)
  cases e1 : F η with
  | ex c w q => rw [e1] at p; exact p
  | no => rw [e1] at p; exact p
  | ok d =>
    rw [e1] at p
    intro v H1 s1 q1
    cases d with
    | tuple xs =>
      cases q1 with
      | tup h1 h2 => exact ⟨_, rfl, ⟨_, sqT_same (hid_le A H1) h1⟩, p _ H1 s1 (walks_tup h1 h2)⟩
    | _ => exact False.elim p
def rangeD (lo : Int) (n : Nat) : List D := (List.range n).map fun i => PyData.int (lo + (i : Nat))
theorem walks_range {K : PySem.W.Frag} {H1 : Hp} {A : List Addr} {lo : Int} {n : Nat} : Walks K (Itr lo n) H1 A (rangeD lo n) where
  step := fun i x e A' H2 s _ => by
    unfold rangeD at e
    rw [List.getElem?_map] at e
    by_cases hi : i < n
    · rw [List.getElem?_range hi] at e
      cases e
      refine ⟨hi, fun u H3 y => ?_⟩
      obtain ⟨rfl, rfl⟩ := y
      exact ⟨Same.refl _, .int _⟩
    · rw [List.getElem?_eq_none (by simp; omega)] at e
      cases e
  stop := fun A' H2 s => by
    unfold rangeD
    rw [List.length_map, List.length_range]
    exact Nat.le_refl _
def rng1 (ds : List D) : R (List D) := match ds with
  | [.int j] => if -(2 ^ 62) ≤ j ∧ j < 2 ^ 62 then .ok (rangeD 0 j.toNat) else .no
  | _ => .no
def rng2 (ds : List D) : R (List D) := match ds with
  | [.int i, .int j] => if -(2 ^ 62) ≤ i ∧ i < 2 ^ 62 ∧ -(2 ^ 62) ≤ j ∧ j < 2 ^ 62 then .ok (rangeD i (j - i).toNat) else .no
  | _ => .no
def iR1 (Fs : Nv → R (List D)) : Nv → R (List D) := fun η => (Fs η).bind rng1
def iR2 (Fs : Nv → R (List D)) : Nv → R (List D) := fun η => (Fs η).bind rng2
theorem vO_int {K : PySem.W.Frag} {H : Hp} {A : List Addr} {v : V} {i : Int} (h : vO K H A v (.int i)) : v = .int i := rO_int h
theorem allI1 {K : PySem.W.Frag} {H : Hp} {A : List Addr} : ∀ {vs : List V} {i : Int}, AllV (vO K) H A vs [.int i] → vs = [.int i]
  | [v], i, h => by rw [vO_int h.1]
  | [], _, h => h.elim
  | _ :: _ :: _, _, h => h.2.elim
theorem i_range1 {Fs : Nv → R (List D)} {p : Pos} (hg : Gl X "range") (hm : X.mg "range" = none) (ha : TAs X W (vO X.K) [a] Fs) (hs : starEach [a] X.env = [(false, eval a X.env)] := by rfl) : TI' X W tg (.Call (.Name "range" p) [a] [] pos) (iR1 Fs) := piW (pi_range1 hg hm ha hs) fun σ H Q ⟨η, A, E, p0⟩ => by
  have p : PostI X.K X.mg W σ A H ((Fs η).bind rng1) Q := p0
  refine (show tA X.K X.mg W (vO X.K) Fs σ H _ from ⟨η, A, E, ?_⟩)
  cases e1 : Fs η with
  | ex c w q => rw [e1] at p; exact p
  | no => rw [e1] at p; exact p
  | ok ds =>
    rw [e1] at p
    have p : PostI X.K X.mg W σ A H (rng1 ds) Q := p
    intro vs H1 s1 q1
    unfold rng1 at p
    split at p
    · split at p
      · rename_i h
        exact ⟨_, allI1 q1, h.1, h.2, p _ H1 s1 walks_range⟩
      · exact False.elim p
    · exact False.elim p
/-! ### comprehensions -/
def wipeE (η : Nv) : List Nat → Nv
  | [] => η
  | v :: vs => (wipeE η vs).set v .no
theorem wipe_get (σ : L2.St) : ∀ (vs : List Nat) (j : Nat), (wipe σ vs)[j]? = if j ∈ vs then (σ[j]?).map fun _ => none else σ[j]?
  | [], j => by simp [wipe]
  | v :: vs, j => by
    unfold wipe
    have ih := wipe_get σ vs j
    by_cases hj : v = j
    · subst hj
      rw [if_pos List.mem_cons_self]
      by_cases hl : v < (wipe σ vs).length
      · rw [List.getElem?_set_self hl]
        rw [wipe_length] at hl
        rw [List.getElem?_eq_getElem hl]
        rfl
      · rw [List.getElem?_eq_none (by rw [List.length_set]; omega)]
        rw [wipe_length] at hl
        rw [List.getElem?_eq_none (by omega)]
        rfl
    · rw [List.getElem?_set_ne hj, ih]
      have : (j ∈ v :: vs) ↔ j ∈ vs := ⟨fun m => (List.mem_cons.mp m).elim (fun z => absurd z.symm hj) id, List.mem_cons_of_mem _⟩
      simp only [this]
theorem wipeE_get (η : Nv) : ∀ (vs : List Nat) (j : Nat), (wipeE η vs)[j]? = if j ∈ vs then (η[j]?).map fun _ => Sl.no else η[j]?
  | [], j => by simp [wipeE]
  | v :: vs, j => by
    unfold wipeE
    have ih := wipeE_get η vs j
    have hlen : (wipeE η vs).length = η.length := by
      clear ih
      induction vs with
      | nil => rfl
      | cons w ws ih => unfold wipeE; rw [List.length_set, ih]
    by_cases hj : v = j
    · subst hj
      rw [if_pos List.mem_cons_self]
      by_cases hl : v < (wipeE η vs).length
      · rw [List.getElem?_set_self hl]
        rw [hlen] at hl
        rw [List.getElem?_eq_getElem hl]
        rfl
      · rw [List.getElem?_eq_none (by rw [List.length_set]; omega)]
        rw [hlen] at hl
        rw [List.getElem?_eq_none (by omega)]
        rfl
    · rw [List.getElem?_set_ne hj, ih]
      have : (j ∈ v :: vs) ↔ j ∈ vs := ⟨fun m => (List.mem_cons.mp m).elim (fun z => absurd z.symm hj) id, List.mem_cons_of_mem _⟩
      simp only [this]
theorem wipeE_length (η : Nv) : ∀ vs : List Nat, (wipeE η vs).length = η.length
  | [] => rfl
  | v :: vs => by unfold wipeE; rw [List.length_set, wipeE_length η vs]
theorem EnvD.wipe {K : PySem.W.Frag} {H : Hp} {A : List Addr} {σ : L2.St} {η : Nv} (E : EnvD K H A σ η) (vs : List Nat) : EnvD K H A (wipe σ vs) (wipeE η vs) where
  len := by rw [wipe_length, wipeE_length, E.len]
  at_ := fun j s e => by
    rw [wipeE_get] at e
    rw [wipe_get]
    split at e
    · rename_i hj
      cases q : η[j]? with
      | none => rw [q] at e; cases e
      | some s0 =>
        rw [q] at e
        cases e
        obtain ⟨o, e1, _⟩ := E.at_ j s0 q
        exact ⟨none, by rw [if_pos hj, e1]; rfl, trivial⟩
    · rename_i hj
      rw [if_neg hj]
      exact E.at_ j s e
  ap := fun j k a xs ys e1 e2 e3 e4 => by
    rw [wipeE_get] at e1 e2
    rw [wipe_get] at e3 e4
    split at e1
    · cases q : η[j]? <;> (rw [q] at e1; cases e1)
    · rename_i hj
      rw [if_neg hj] at e3
      split at e2
      · cases q : η[k]? <;> (rw [q] at e2; cases e2)
      · rename_i hk
        rw [if_neg hk] at e4
        exact E.ap j k a xs ys e1 e2 e3 e4
  tr := E.tr
/-- .. where nothing is raised -/
def R.bindN {α β : Type} : R α → (α → R β) → R β
  | .ok a, f => f a
  | _, _ => .no
@[simp] theorem R.ok_bindN {α β : Type} (a : α) (f : α → R β) : (R.ok a).bindN f = f a := Eq.trans rfl rfl
theorem R.bindN_ok {α β : Type} {r : R α} {f : α → R β} {y : β} (h : r.bindN f = .ok y) : ∃ x, r = .ok x ∧ f x = .ok y := by
  cases r with
  | ok a => exact ⟨a, rfl, h⟩
  | ex c w p => cases h
  | no => cases h
def compD (T : Tgt) (C : Nv → R Bool) (El : Nv → R D) (η : Nv) : List D → R (List D)
  | [] => .ok []
  | x :: xs => match T x η with
    | none => .no
    | some η1 => (C η1).bindN fun b => if b then (El η1).bindN fun y => (compD T C El η xs).bindN fun ys => .ok (y :: ys) else compD T C El η xs
def compE (Fi : Nv → R (List D)) (T : Tgt) (C : Nv → R Bool) (El : Nv → R D) (vs : List Nat) : Nv → R D := fun η => (Fi η).bind fun xs => (compD T C El (wipeE η vs) xs).bindN fun ys => if ys.length ≤ lineN then .ok (.list ys) else .no
def W0 : WX := fun _ _ _ _ => False
theorem stored_wipe {σ σ' : L2.St} {η η' : Nv} {js vs : List Nat} (S : Stored (wipe σ vs) σ' η η' js) (h : ∀ j ∈ js, j ∈ vs) (hl : σ'.length = σ.length) : wipe σ' vs = wipe σ vs := by
  apply List.ext_getElem?
  intro j
  rw [wipe_get, wipe_get]
  by_cases hj : j ∈ vs
  · rw [if_pos hj, if_pos hj]
    by_cases hb : j < σ.length
    · rw [List.getElem?_eq_getElem hb, List.getElem?_eq_getElem (by rw [hl]; exact hb)]
      rfl
    · rw [List.getElem?_eq_none (by omega), List.getElem?_eq_none (by omega)]
  · rw [if_neg hj, if_neg hj, S.rest j fun m => hj (h j m), wipe_get, if_neg hj]
theorem lc_t {Fi : Nv → R (List D)} {T : Tgt} {js vs : List Nat} {C : Nv → R Bool} {El : Nv → R D} (hj : ∀ j ∈ js, j ∈ vs) {σ : L2.St} {H : Hp} {Q : VK} (h : tR X.K X.mg W (rF X.K) (compE Fi T C El vs) σ H Q) :
    tLc (tI X.K X.mg W Fi) (gD X.K T js) (tT X.K X.mg W0 C) (tR X.K X.mg W0 (rD X.K) El) vs σ H Q := by
  obtain ⟨η, A, E, p0⟩ := h
  have p : Post X.K X.mg W (rF X.K) σ A H ((Fi η).bind fun xs => (compD T C El (wipeE η vs) xs).bindN fun ys => if ys.length ≤ lineN then .ok (.list ys) else .no) Q := p0
  refine (show tI X.K X.mg W Fi σ H _ from ⟨η, A, E, ?_⟩)
  cases e1 : Fi η with
  | ex c w q => rw [e1] at p; exact p
  | no => rw [e1] at p; exact p
  | ok ds =>
    rw [e1] at p
    have p : Post X.K X.mg W (rF X.K) σ A H ((compD T C El (wipeE η vs) ds).bindN fun ys => if ys.length ≤ lineN then .ok (.list ys) else .no) Q := p
    cases e2 : compD T C El (wipeE η vs) ds with
    | ex c w q => rw [e2] at p; exact False.elim p
    | no => rw [e2] at p; exact False.elim p
    | ok ys =>
      rw [e2] at p
      have p : Post X.K X.mg W (rF X.K) σ A H (if ys.length ≤ lineN then .ok (.list ys) else .no) Q := p
      split at p
      · rename_i hz
        intro J H1 s1 wk M nM
        have E1 := E.same s1
        refine ⟨fun i m H2 => m + i = ds.length ∧ Same H1 H2 ∧ ∃ done rest acc, ys = done ++ rest ∧ compD T C El (wipeE η vs) (ds.drop i) = .ok rest ∧ H2 M = some (.lst acc) ∧ DpAll X.K (hid (M :: A) H2) acc done,
          ⟨ds.length, rfl, same_new nM, [], ys, [], rfl, e2, upd_same, .nil⟩, fun i m H2 hw => ?_⟩
        obtain ⟨em, s2, done, rest, acc, ey, er, hM, hd⟩ := hw
        have sh : Same (hid A H1) (hid (M :: A) H2) := hid_new s2 nM
        have E2 : EnvD X.K H2 (M :: A) σ η := E1.new s2 nM (by rw [hM]; exact fun z => nomatch z)
        cases hx : ds[i]? with
        | none =>
          have hi : ds.length ≤ i := List.getElem?_eq_none_iff.mp hx
          have ei : i = ds.length := by omega
          subst ei
          rw [List.drop_length] at er
          have er : R.ok ([] : List D) = .ok rest := er
          cases er
          rw [List.append_nil] at ey
          subst ey
          exact .inl ⟨wk.stop _ _ sh, p _ H2 (s1.trans s2) ⟨M, acc, _, rfl, rfl, s1.free nM, hM, hd⟩⟩
        | some x =>
          have hi : i < ds.length := (List.getElem?_eq_some_iff.mp hx).1
          have ed : ds.drop i = x :: ds.drop (i + 1) := by
            rw [List.drop_eq_getElem_cons hi]
            congr 1
            exact (List.getElem?_eq_some_iff.mp hx).2
          obtain ⟨g1, g2⟩ := wk.step i x hx _ _ sh E2.tr
          refine .inr ⟨g1, fun H' => ∃ m', m' < m ∧ (m' + (i + 1) = ds.length ∧ Same H1 H' ∧ ∃ done rest acc, ys = done ++ rest ∧ compD T C El (wipeE η vs) (ds.drop (i + 1)) = .ok rest ∧ H' M = some (.lst acc) ∧ DpAll X.K (hid (M :: A) H') acc done), fun H' hN => hN, fun v H3 y => ?_⟩
          obtain ⟨s3, qv⟩ := g2 v H3 y
          rw [ed] at er
          unfold compD at er
          cases et : T x (wipeE η vs) with
          | none => rw [et] at er; cases er
          | some η1 =>
            rw [et] at er
            obtain ⟨bk, ec, er⟩ := R.bindN_ok er
            refine ⟨wipeE η vs, M :: A, x, η1, (E2.same s3).wipe vs, qv, et, fun σ2 E3 S => ⟨stored_wipe S hj (S.len.trans (wipe_length σ vs)), ?_⟩⟩
            · refine (show tT X.K X.mg W0 C σ2 H3 _ from ⟨η1, M :: A, E3, ?_⟩)
              rw [ec]
              intro H4 s4
              cases bk with
              | false =>
                refine iteF ⟨m - 1, by omega, by omega, (s2.trans s3).trans s4, done, rest, acc, ey, er, s4 _ _ (s3 _ _ hM), DpAll_mono hd (hid_same (s3.trans s4))⟩
              | true =>
                obtain ⟨y, ee, er⟩ := R.bindN_ok er
                obtain ⟨rest', er', e3⟩ := R.bindN_ok er
                cases e3
                refine iteT (show tR X.K X.mg W0 (rD X.K) El σ2 H4 _ from ⟨η1, M :: A, E3.same s4, ?_⟩)
                rw [ee]
                intro w H5 s5 qw
                have sM : H5 M = some (.lst acc) := s5 _ _ (s4 _ _ (s3 _ _ hM))
                have hidM : hid (M :: A) (upd H5 M (.lst (acc ++ [w]))) = hid (M :: A) H5 := hid_upd List.mem_cons_self
                have hl : acc.length = done.length := DpAll_length hd
                refine ⟨acc, sM, ?_, m - 1, by omega, by omega, ?_, done ++ [y], rest', acc ++ [w], by rw [ey, List.append_assoc]; rfl, er', upd_same, ?_⟩
                · rw [line_eq, hl]
                  have : ys.length = done.length + (rest'.length + 1) := by rw [ey, List.length_append, List.length_cons]
                  omega
                · intro b o eb
                  rw [upd_ne fun z => by subst z; rw [nM] at eb; cases eb]
                  exact s5 _ _ (s4 _ _ (s3 _ _ (s2 _ _ eb)))
                · rw [hidM]
                  exact DpAll_append (DpAll_mono hd (hid_same ((s3.trans s4).trans s5))) (.cons qw .nil)
      · exact False.elim p
end
end Bd
/-! D5: comprehensions as values; statements; defs and their calls. -/
namespace Bd
open PySem L2

section
variable {X : Cx} {W : WX} {rl : Rl} {a b c e tg iter elt : Expr} {Fa Fb Fc F : Nv → R D} {Ga Gb G : Nv → R Bool} {pos : Pos}
theorem cs_nil {X : Cx} : PTs X [] (tT X.K X.mg W0 fun _ => .ok true) := ⟨fun pins s σ H Q I q => pts_nil.run pins s σ H Q I (by obtain ⟨η, A, E, p⟩ := q; exact p H (Same.refl _))⟩
section
variable {ifs : List Expr} {scope : Scope} {own : List (Str × Nat)} {Fi : Nv → R (List D)} {T : Tgt} {js : List Nat} {C : Nv → R Bool} {El : Nv → R D}
theorem t_lc (hc : X.calm = true) (hN : X.N.Nodup) (hi : TI' X W tg iter Fi) (ok : BlkOk X.N X.env.scope scope own)
    (hg : ∀ (s : Shared) (H : Hp) (C : Addr) (cl : List (Str × Addr)) (fp : List Addr), TT' (X.blk s H scope (compEnvC scope cl C X.env) fp) tg T js)
    (ht : ∀ (s : Shared) (H : Hp) (D : Addr) (cl : List (Str × Addr)) (fp : List Addr), PTs (X.blk s H scope (compEnvC scope cl D X.env) fp) ifs (tT X.K X.mg W0 C))
    (he : ∀ (s : Shared) (H : Hp) (D : Addr) (cl : List (Str × Addr)) (fp : List Addr), TD (X.blk s H scope (compEnvC scope cl D X.env) fp) W0 elt El)
    {vs : List Nat} (hv : own.map (·.2) = vs := by rfl) (hj : ∀ j ∈ js, j ∈ own.map (·.2) := by decide) (hs : ∀ x, foldedSetIterable iter X.env x = pure x := by intro _; rfl) : TF X W (.ListComp elt [⟨tg, iter, ifs, 0⟩] scope pos) (compE Fi T C El vs) := by
  subst hv
  exact peW (pe_lc hc hN hi ok (fun s H C cl fp => show PG _ tg (gD X.K T js) from hg s H C cl fp) ht (fun s H C cl fp => show PE _ elt (tR X.K X.mg W0 (rD X.K) El) from he s H C cl fp) hs) fun σ H Q h => lc_t hj h
end

/-! ### statements -/
structure EnvS (K : PySem.W.Frag) (M : List Addr) (H0 : Hp) (A0 : List Addr) (H : Hp) (B : List Addr) (σ : L2.St) (η : Nv) : Prop where
  env : EnvD K H (B ++ A0) σ η
  same : Same (hid M H0) (hid M H)
  mA : (∀ p ∈ M, p ∈ A0) ∧ ∀ p ∈ A0, H0 p ≠ none
  new : ∀ p ∈ B, H0 p = none
  own : ∀ (i : Nat) (a : Addr) (xs : OL), η[i]? = some (.own xs) → σ[i]? = some (some (.ref a)) → if xs.b then a ∈ B else a ∈ M
  dk : ∀ (i : Nat) (a : Addr) (ks : Dks), η[i]? = some (.dk ks) → σ[i]? = some (some (.ref a)) → a ∈ B ∧ ∀ (j : Nat) (ks' : Dks), η[j]? = some (.dk ks') → σ[j]? = some (some (.ref a)) → j = i
inductive Rs where
  | nx (η : Nv) | rt (d : D) (η : Nv) | bk (η : Nv) | ct (η : Nv) | ex (c w : Str) (p : D) | no
/-- where a statement leads -/
def Goes (K : PySem.W.Frag) (M : List Addr) (H0 : Hp) (A0 : List Addr) (H : Hp) (B : List Addr) (η : Nv) (P : L2.St → Hp → Prop) : Prop :=
  ∀ σ' H' B', EnvS K M H0 A0 H' B' σ' η → Same (hid (B ++ A0) H) (hid (B' ++ A0) H') → P σ' H'
def PostS (K : PySem.W.Frag) (mg : Str → Option Value) (W : WX) (rl : Rl) (M : List Addr) (H0 : Hp) (A0 : List Addr) (H : Hp) (B : List Addr) (r : Rs) (E : Ends) : Prop :=
  match r with
  | .nx η => Goes K M H0 A0 H B η E.nx
  | .bk η => Goes K M H0 A0 H B η E.bk
  | .ct η => Goes K M H0 A0 H B η E.ct
  | .rt d η => ∀ v σ' H' B', EnvS K M H0 A0 H' B' σ' η → rl H0 H' A0 v d → E.rt v H'
  | .ex c w p => ∀ cls dd σ' H', Same (hid M H0) (hid M H') → ExR K mg (hid A0 H') cls dd c w p → W cls dd σ' H'
  | .no => False
theorem PostS.keep {K : PySem.W.Frag} {mg : Str → Option Value} {M : List Addr} {H0 : Hp} {A0 : List Addr} {H H1 : Hp} {B B1 : List Addr} {r : Rs} {E : Ends} (s : Same (hid (B ++ A0) H) (hid (B1 ++ A0) H1)) (h : PostS K mg W rl M H0 A0 H B r E) : PostS K mg W rl M H0 A0 H1 B1 r E := by
  cases r with
  | nx η => exact fun σ' H' B' e q => h σ' H' B' e (s.trans q)
  | bk η => exact fun σ' H' B' e q => h σ' H' B' e (s.trans q)
  | ct η => exact fun σ' H' B' e q => h σ' H' B' e (s.trans q)
  | rt d η => exact h
  | ex c w p => exact h
  | no => exact h
def tS (K : PySem.W.Frag) (mg : Str → Option Value) (W : WX) (rl : Rl) (M : List Addr) (H0 : Hp) (A0 : List Addr) (G : Nv → Rs) : TS := fun E σ H => ∃ η B, EnvS K M H0 A0 H B σ η ∧ PostS K mg W rl M H0 A0 H B (G η) E
/-- what is the same in a whole def: the wish, how its answer lies, the heap at its entry -/
structure Fx where
  W : WX
  rl : Rl
  M : List Addr
  H0 : Hp
  A0 : List Addr
def TS' (X : Cx) (f : Fx) (st : Stmt) (G : Nv → Rs) : Prop := PS X st (tS X.K X.mg f.W f.rl f.M f.H0 f.A0 G)
def TSs (X : Cx) (f : Fx) (st : List Stmt) (G : Nv → Rs) : Prop := PSs X st (tS X.K X.mg f.W f.rl f.M f.H0 f.A0 G)
variable {f : Fx} {st : Stmt} {sts : List Stmt} {Gs Gt : Nv → Rs}
theorem psW {t t' : TS} (h : PS X st t) (k : ∀ E σ H, t' E σ H → t E σ H) : PS X st t' := ⟨fun pins s σ H E I q => h.run pins s σ H E I (k _ _ _ q)⟩
theorem pssW {t t' : TS} (h : PSs X sts t) (k : ∀ E σ H, t' E σ H → t E σ H) : PSs X sts t' := ⟨fun pins s σ H E I q => h.run pins s σ H E I (k _ _ _ q)⟩
def Rs.bind : Rs → (Nv → Rs) → Rs
  | .nx η, f => f η
  | r, _ => r
def seqS (Gs Gt : Nv → Rs) : Nv → Rs := fun η => (Gs η).bind Gt
theorem ss_nil : TSs X f [] .nx := pssW pss_nil fun E σ H ⟨η, B, e, p⟩ => p σ H B e (Same.refl _)
theorem ss_cons (h1 : TS' X f st Gs) (h2 : TSs X f sts Gt) : TSs X f (st :: sts) (seqS Gs Gt) := pssW (pss_cons h1 h2) fun E σ H ⟨η, B, e, p0⟩ => by
  have p : PostS X.K X.mg f.W f.rl f.M f.H0 f.A0 H B ((Gs η).bind Gt) E := p0
  refine ⟨η, B, e, ?_⟩
  cases e1 : Gs η with
  | nx η1 =>
    rw [e1] at p
    exact fun σ' H' B' e' s => ⟨η1, B', e', PostS.keep s p⟩
  | _ => rw [e1] at p; exact p
theorem EnvS.step {K : PySem.W.Frag} {M : List Addr} {H0 : Hp} {A0 : List Addr} {H H1 : Hp} {B : List Addr} {σ : L2.St} {η : Nv} (e : EnvS K M H0 A0 H B σ η) (s : Same H H1) : EnvS K M H0 A0 H1 B σ η := ⟨e.env.same s, e.same.trans (hid_same s), e.mA, e.new, e.own, e.dk⟩
theorem EnvS.free {K : PySem.W.Frag} {M : List Addr} {H0 : Hp} {A0 : List Addr} {H : Hp} {B : List Addr} {σ : L2.St} {η : Nv} {p : Addr} (e : EnvS K M H0 A0 H B σ η) (h : H p = none) : H0 p = none := by
  have n : p ∉ M := fun m => e.env.tr p (List.mem_append_right _ (e.mA.1 p m)) h
  have f := e.same.free (l := p) (by rw [hid_out n]; exact h)
  rwa [hid_out n] at f
/-- an expression's answer, then the statement's -/
def R.toS {α : Type} : R α → (α → Rs) → Rs
  | .ok a, f => f a
  | .ex c w p, _ => .ex c w p
  | .no, _ => .no
theorem hid_app {B A : List Addr} {H : Hp} : Same (hid (B ++ A) H) (hid A H) := hid_mono fun _ m => List.mem_append_right _ m
theorem exS {K : PySem.W.Frag} {mg : Str → Option Value} {H : Hp} {A B : List Addr} {cls : Value} {dd : Option Addr} {c w : Str} {p : D} (h : ExR K mg (hid (B ++ A) H) cls dd c w p) : ExR K mg (hid A H) cls dd c w p := by
  obtain ⟨m, dx, v, rfl, e, q⟩ := h
  exact ⟨m, dx, v, rfl, hid_app _ _ e, Dp_mono q hid_app⟩
theorem toS_R {g : Nv → D → Rs} {E : Ends} {σ : L2.St} {H : Hp} (h : tS X.K X.mg f.W f.rl f.M f.H0 f.A0 (fun η => (F η).toS (g η)) E σ H) {R1 : V → Hp → Prop}
    (k : ∀ (η : Nv) (B : List Addr) (H1 : Hp) (v : V) (d : D), EnvS X.K f.M f.H0 f.A0 H B σ η → EnvS X.K f.M f.H0 f.A0 H1 B σ η → Same H H1 → rl H H1 (B ++ f.A0) v d → PostS X.K X.mg f.W f.rl f.M f.H0 f.A0 H B (g η d) E → R1 v H1) : tR X.K X.mg f.W rl F σ H R1 := by
  obtain ⟨η, B, e, p0⟩ := h
  have p : PostS X.K X.mg f.W f.rl f.M f.H0 f.A0 H B ((F η).toS (g η)) E := p0
  refine ⟨η, B ++ f.A0, e.env, ?_⟩
  cases e1 : F η with
  | ok d =>
    rw [e1] at p
    have p : PostS X.K X.mg f.W f.rl f.M f.H0 f.A0 H B (g η d) E := p
    exact fun v H1 s q => k η B H1 v d e (e.step s) s q p
  | ex c w q =>
    rw [e1] at p
    exact fun cls dd H' s x => p cls dd σ H' (e.same.trans (hid_same s)) (exS x)
  | no => rw [e1] at p; exact p
/-- name = e -/
def setS (i : Nat) (F : Nv → R D) : Nv → Rs := fun η => (F η).toS fun x => .nx (η.set i (.d x))
theorem EnvS.set {K : PySem.W.Frag} {M : List Addr} {H0 : Hp} {A0 : List Addr} {H : Hp} {B : List Addr} {σ : L2.St} {η : Nv} {i : Nat} {v : V} {x : D} (e : EnvS K M H0 A0 H B σ η) (q : Dp K (hid (B ++ A0) H) v x) : EnvS K M H0 A0 H B (σ.set i (some v)) (η.set i (.d x)) where
  env := e.env.set q
  same := e.same
  mA := e.mA
  new := e.new
  own := fun j a xs h1 h2 => by
    obtain ⟨n, h1⟩ := own_set h1
    rw [List.getElem?_set_ne fun z => n z.symm] at h2
    exact e.own j a xs h1 h2
  dk := fun j a ks h1 h2 => by
    obtain ⟨n, h1⟩ := dk_set (s := .d x) (fun _ z => nomatch z) h1
    rw [List.getElem?_set_ne fun z => n z.symm] at h2
    exact ⟨(e.dk j a ks h1 h2).1, fun k ks' g1 g2 => by
      obtain ⟨n, g1⟩ := dk_set (s := .d x) (fun _ z => nomatch z) g1
      rw [List.getElem?_set_ne fun z => n z.symm] at g2
      exact (e.dk j a ks h1 h2).2 k ks' g1 g2⟩
theorem s_set (i : Nat) {x : Str} {pos' : Pos} (hN : X.N.Nodup) (he : TD X f.W e F) (hi : X.N[i]? = some x := by rfl) (hx : Loc X.env.scope x := by first | exact Or.inl rfl | exact Or.inr rfl) (hs : swapsWith e (some (.Name x pos')) pos.line X.env = pure false := by rfl)
    (hf : X.fn x = true ∨ X.env.scope.names.lookup x = some .local := by first | exact .inl rfl | exact .inr rfl) : TS' X f (.Assign [.Name x pos'] e pos) (setS i F) :=
  psW (ps_set hN hi hx he hs hf) fun E σ H h => toS_R h fun η B H1 v d e0 e s q p => p _ H1 B (e.set q) (hid_same s)
/-- target = e -/
def asgS (T : Tgt) (F : Nv → R D) : Nv → Rs := fun η => (F η).toS fun x => match T x η with
  | some η' => .nx η'
  | none => .no
theorem s_asg {T : Tgt} {js : List Nat} (he : TD X f.W e F) (hg : TT' X tg T js) (hs : swapsWithSole [tg] e pos.line X.env = pure false := by rfl) (hw : swappedStores [tg] e X.env = pure none := by rfl) (h1 : (assignEach [tg] X.env).map (·.2) = [assign tg X.env] := by rfl) :
    TS' X f (.Assign [tg] e pos) (asgS T F) :=
  psW (ps_asg he hg hs hw h1) fun E σ H h => toS_R h fun η B H1 v d e0 e s q p => by
    cases et : T d η with
    | none => rw [et] at p; exact False.elim p
    | some η' =>
      rw [et] at p
      refine ⟨η, B ++ f.A0, d, η', e.env, q, et, fun σ' E' S => p σ' H1 B ⟨E', e.same, e.mA, e.new, fun j a xs h1 h2 => ?_, fun j a ks h1 h2 => ?_⟩ (hid_same s)⟩
      · obtain ⟨n, h1⟩ := S.own j xs h1
        rw [S.rest j n] at h2
        exact e.own j a xs h1 h2
      · obtain ⟨n, h1⟩ := S.dk j ks h1
        rw [S.rest j n] at h2
        exact ⟨(e.dk j a ks h1 h2).1, fun k ks' g1 g2 => by
          obtain ⟨n, g1⟩ := S.dk k ks' g1
          rw [S.rest k n] at g2
          exact (e.dk j a ks h1 h2).2 k ks' g1 g2⟩
/-- name = a new list, the def's own -/
def ownS (i : Nat) (F : Nv → R D) : Nv → Rs := fun η => (F η).toS fun x => match x with
  | .list xs => .nx (η.set i (.own ⟨true, xs⟩))
  | _ => .no
theorem EnvS.setOwn {K : PySem.W.Frag} {M : List Addr} {H0 : Hp} {A0 : List Addr} {H H1 : Hp} {B : List Addr} {σ : L2.St} {η : Nv} {i : Nat} {p : Addr} {vs : List V} {xs : List D} (e : EnvS K M H0 A0 H B σ η) (s : Same H H1) (hp : H p = none) (hp1 : H1 p = some (.lst vs)) (q : DpAll K (hid (p :: (B ++ A0)) H1) vs xs) :
    EnvS K M H0 A0 H1 (p :: B) (σ.set i (some (.ref p))) (η.set i (.own ⟨true, xs⟩)) := by
  have E1 : EnvD K H1 (p :: (B ++ A0)) σ η := e.env.new s hp (by rw [hp1]; exact fun z => nomatch z)
  have gt : ∀ (j : Nat) (sl : Sl), (η.set i (.own ⟨true, xs⟩))[j]? = some sl → (j = i ∧ i < η.length ∧ sl = .own ⟨true, xs⟩) ∨ (j ≠ i ∧ η[j]? = some sl) := fun j sl h => by
    by_cases hj : i = j
    · subst hj
      by_cases hl : i < η.length
      · rw [List.getElem?_set_self hl] at h
        cases h
        exact .inl ⟨rfl, hl, rfl⟩
      · rw [List.getElem?_eq_none (by rw [List.length_set]; omega)] at h
        cases h
    · rw [List.getElem?_set_ne hj] at h
      exact .inr ⟨fun z => hj z.symm, h⟩
  have ot : ∀ j, j ≠ i → (σ.set i (some (.ref p)))[j]? = σ[j]? := fun j n => List.getElem?_set_ne fun z => n z.symm
  have oi : i < η.length → (σ.set i (some (.ref p)))[i]? = some (some (.ref p)) := fun hl => List.getElem?_set_self (by rw [e.env.len]; exact hl)
  have fr : ∀ (j : Nat) (ys : OL), η[j]? = some (.own ys) → σ[j]? ≠ some (some (.ref p)) := fun j ys h z => by
    obtain ⟨o, e1, q1⟩ := e.env.at_ j _ h
    rw [z] at e1
    cases e1
    obtain ⟨_, ws, e2, _⟩ := q1
    rw [hp] at e2
    cases e2
  refine ⟨⟨by rw [List.length_set, List.length_set, e.env.len], fun j sl h => ?_, fun j k a ys zs h1 h2 h3 h4 => ?_, E1.tr⟩, e.same.trans (hid_same s), e.mA, fun b m => ?_, fun j a ys h1 h2 => ?_, fun j a ks h1 h2 => ?_⟩
  · rcases gt j sl h with ⟨rfl, hl, rfl⟩ | ⟨n, h⟩
    · exact ⟨_, oi hl, List.mem_cons_self, vs, hp1, q⟩
    · rw [ot j n]
      exact E1.at_ j sl h
  · rcases gt j _ h1 with ⟨ej, hl, _⟩ | ⟨n, g1⟩
    · rcases gt k _ h2 with ⟨ek, _, _⟩ | ⟨n2, g2⟩
      · rw [ej, ek]
      · rw [ej, oi hl] at h3
        cases h3
        rw [ot k n2] at h4
        exact absurd h4 (fr k zs g2)
    · rcases gt k _ h2 with ⟨ek, hl, _⟩ | ⟨n2, g2⟩
      · rw [ek, oi hl] at h4
        cases h4
        rw [ot j n] at h3
        exact absurd h3 (fr j ys g1)
      · rw [ot j n] at h3
        rw [ot k n2] at h4
        exact E1.ap j k a ys zs g1 g2 h3 h4
  · rcases List.mem_cons.mp m with rfl | m
    · exact e.free hp
    · exact e.new b m
  · rcases gt j _ h1 with ⟨rfl, hl, _⟩ | ⟨n, h1⟩
    · rw [oi hl] at h2
      cases h2
      rename_i q0
      cases q0
      exact List.mem_cons_self
    · rw [ot j n] at h2
      have z := e.own j a ys h1 h2
      cases hb : ys.b with
      | true => rw [hb, if_pos rfl] at z; rw [if_pos rfl]; exact List.mem_cons_of_mem _ z
      | false => rw [hb, if_neg Bool.false_ne_true] at z; rw [if_neg Bool.false_ne_true]; exact z
  · rcases gt j _ h1 with ⟨_, _, z⟩ | ⟨n, h1⟩
    · cases z
    · rw [ot j n] at h2
      exact ⟨List.mem_cons_of_mem _ (e.dk j a ks h1 h2).1, fun k ks' g1 g2 => by
        rcases gt k _ g1 with ⟨_, _, z⟩ | ⟨n, g1⟩
        · cases z
        · rw [ot k n] at g2
          exact (e.dk j a ks h1 h2).2 k ks' g1 g2⟩
theorem s_own (i : Nat) {x : Str} {pos' : Pos} (hN : X.N.Nodup) (he : TF X f.W e F) (hi : X.N[i]? = some x := by rfl) (hx : Loc X.env.scope x := by first | exact Or.inl rfl | exact Or.inr rfl) (hs : swapsWith e (some (.Name x pos')) pos.line X.env = pure false := by rfl)
    (hf : X.fn x = true ∨ X.env.scope.names.lookup x = some .local := by first | exact .inl rfl | exact .inr rfl) : TS' X f (.Assign [.Name x pos'] e pos) (ownS i F) :=
  psW (ps_set hN hi hx he hs hf) fun E σ H h => toS_R h fun η B H1 v d e0 e s q p => by
    obtain ⟨l, vs, ds, rfl, rfl, hp, hp1, qs⟩ := q
    exact p _ H1 (l :: B) (e0.setOwn s hp hp1 qs) (hid_new s hp)
/-- name = [.. for ..] -/
theorem s_setLc (i : Nat) {y : Str} {py spos : Pos} {ifs : List Expr} {scope : Scope} {own : List (Str × Nat)} {Fi : Nv → R (List D)} {T : Tgt} {js : List Nat} {C : Nv → R Bool} {El : Nv → R D} (hc : X.calm = true) (hN : X.N.Nodup)
    (hsw : swapsWith (.ListComp elt [⟨tg, iter, ifs, 0⟩] scope pos) (some (.Name y py)) spos.line X.env = pure true) (hi : TI' X f.W tg iter Fi) (ok : BlkOk X.N X.env.scope scope own)
    (hg : ∀ (s : Shared) (H : Hp) (C : Addr) (cl : List (Str × Addr)) (fp : List Addr), TT' (X.blk s H scope (compEnvC scope cl C X.env) fp) tg T js)
    (ht : ∀ (s : Shared) (H : Hp) (D : Addr) (cl : List (Str × Addr)) (fp : List Addr), PTs (X.blk s H scope (compEnvC scope cl D X.env) fp) ifs (tT X.K X.mg W0 C))
    (he : ∀ (s : Shared) (H : Hp) (D : Addr) (cl : List (Str × Addr)) (fp : List Addr), TD (X.blk s H scope (compEnvC scope cl D X.env) fp) W0 elt El)
    (hy : X.N[i]? = some y := by rfl) (hyl : X.env.scope.names.lookup y = some .local := by rfl) {vs : List Nat} (hv : own.map (·.2) = vs := by rfl) (hj : ∀ j ∈ js, j ∈ own.map (·.2) := by decide) (hs : ∀ x, foldedSetIterable iter X.env x = pure x := by intro _; rfl) :
    TS' X f (.Assign [.Name y py] (.ListComp elt [⟨tg, iter, ifs, 0⟩] scope pos) spos) (setS i (compE Fi T C El vs)) := by
  subst hv
  exact psW (ps_setLc hc hN hy hyl hsw hi ok (fun s H C cl fp => show PG _ tg (gD X.K T js) from hg s H C cl fp) ht (fun s H C cl fp => show PE _ elt (tR X.K X.mg W0 (rD X.K) El) from he s H C cl fp) hs) fun E σ H h =>
    lc_t hj (toS_R h fun η B H1 v d e0 e s q p => p _ H1 B (e.set (rF_D (fun _ hp => e0.env.fresh hp) q)) (hid_same s))
/-- an expression alone -/
def exprS (F : Nv → R D) : Nv → Rs := fun η => (F η).toS fun _ => .nx η
theorem s_expr (he : TD X f.W e F) (hs : swapsWith e none pos.line X.env = pure false := by rfl) : TS' X f (.Expr e pos) (exprS F) :=
  psW (ps_expr he hs) fun E σ H h => toS_R h fun η B H1 v d e0 e s q p => p σ H1 B e (hid_same s)
/-- name.append(e), the list the def's own -/
def appS (i : Nat) (F : Nv → R D) : Nv → Rs := fun η => match η[i]? with
  | some (.own xs) => (F η).toS fun y => if xs.l.length < lineN then .nx (η.set i (.own ⟨xs.b, xs.l ++ [y]⟩)) else .no
  | _ => .no
theorem EnvS.app {K : PySem.W.Frag} {M : List Addr} {H0 : Hp} {A0 : List Addr} {H : Hp} {B : List Addr} {σ : L2.St} {η : Nv} {i : Nat} {a : Addr} {vs : List V} {w : V} {xs : OL} {y : D} (e : EnvS K M H0 A0 H B σ η) (hi : η[i]? = some (.own xs)) (ho : σ[i]? = some (some (.ref a))) (ha : H a = some (.lst vs)) (qa : DpAll K (hid (B ++ A0) H) vs xs.l)
    (qw : Dp K (hid (B ++ A0) H) w y) : EnvS K M H0 A0 (upd H a (.lst (vs ++ [w]))) B σ (η.set i (.own ⟨xs.b, xs.l ++ [y]⟩)) := by
  have hB := e.own i a xs hi ho
  have hA : a ∈ B ++ A0 := by
    cases hb : xs.b with
    | true => rw [hb, if_pos rfl] at hB; exact List.mem_append_left _ hB
    | false => rw [hb, if_neg Bool.false_ne_true] at hB; exact List.mem_append_right _ (e.mA.1 a hB)
  have eh : hid (B ++ A0) (upd H a (.lst (vs ++ [w]))) = hid (B ++ A0) H := hid_upd hA
  have hl : i < η.length := (List.getElem?_eq_some_iff.mp hi).1
  have gt : ∀ (j : Nat) (sl : Sl), (η.set i (.own ⟨xs.b, xs.l ++ [y]⟩))[j]? = some sl → (j = i ∧ sl = .own ⟨xs.b, xs.l ++ [y]⟩) ∨ (j ≠ i ∧ η[j]? = some sl) := fun j sl h => by
    by_cases hj : i = j
    · subst hj
      rw [List.getElem?_set_self hl] at h
      cases h
      exact .inl ⟨rfl, rfl⟩
    · rw [List.getElem?_set_ne hj] at h
      exact .inr ⟨fun z => hj z.symm, h⟩
  refine ⟨⟨by rw [List.length_set, e.env.len], fun j sl h => ?_, fun j k b ys zs h1 h2 h3 h4 => ?_, fun b m => ?_⟩, ?_, e.mA, e.new, fun j b ys h1 h2 => ?_, fun j b ks h1 h2 => ?_⟩
  · rcases gt j sl h with ⟨rfl, rfl⟩ | ⟨n, h⟩
    · exact ⟨_, ho, hA, vs ++ [w], upd_same, by rw [eh]; exact DpAll_append qa (.cons qw .nil)⟩
    · obtain ⟨o, e1, q⟩ := e.env.at_ j sl h
      refine ⟨o, e1, ?_⟩
      cases sl with
      | no => cases o <;> trivial
      | d x =>
        cases o with
        | none => exact q
        | some v =>
          show Dp K (hid (B ++ A0) (upd H a _)) v x
          rw [eh]
          exact q
      | own zs =>
        match o, q, e1 with
        | some (.ref b), ⟨m, ws, e2, q⟩, e1 =>
          have nb : b ≠ a := fun z => by
            subst z
            exact n (e.env.ap j i b zs xs h hi e1 ho)
          refine ⟨m, ws, by rw [upd_ne nb]; exact e2, ?_⟩
          rw [eh]
          exact q
      | m x => exact q.m' (eh ▸ Same.refl _)
      | x c w p => exact q.x' (eh ▸ Same.refl _)
      | dk ks =>
        match o, q, e1 with
        | some (.ref b), ⟨m, q⟩, e1 => exact ⟨m, q.keep (eh ▸ Same.refl _) fun o so e => by
            rw [upd_ne fun z => by
              subst z
              rw [ha] at e
              cases e
              exact notDo so]
            exact e⟩
  · rcases gt j _ h1 with ⟨ej, _⟩ | ⟨n, g1⟩
    · rcases gt k _ h2 with ⟨ek, _⟩ | ⟨n2, g2⟩
      · rw [ej, ek]
      · rw [ej] at h3 ⊢
        exact e.env.ap i k b xs zs hi g2 h3 h4
    · rcases gt k _ h2 with ⟨ek, _⟩ | ⟨n2, g2⟩
      · rw [ek] at h4 ⊢
        exact e.env.ap j i b ys xs g1 hi h3 h4
      · exact e.env.ap j k b ys zs g1 g2 h3 h4
  · by_cases hb : b = a
    · rw [hb, upd_same]
      exact fun z => nomatch z
    · rw [upd_ne hb]
      exact e.env.tr b m
  · cases hb : xs.b with
    | false =>
      rw [hb, if_neg Bool.false_ne_true] at hB
      rw [hid_upd hB]
      exact e.same
    | true =>
      rw [hb, if_pos rfl] at hB
      intro b o z
      have z' := e.same b o z
      obtain ⟨n0, z0⟩ := hid_some z
      obtain ⟨n1, z1⟩ := hid_some z'
      have nb : b ≠ a := fun q => by
        rw [q, e.new a hB] at z0
        cases z0
      rw [hid_out n1, upd_ne nb]
      exact z1
  · rcases gt j _ h1 with ⟨ej, ey⟩ | ⟨n, g1⟩
    · rw [ej] at h2
      cases ey
      exact e.own i b xs hi h2
    · exact e.own j b ys g1 h2
  · rcases gt j _ h1 with ⟨_, z⟩ | ⟨n, g1⟩
    · cases z
    · exact ⟨(e.dk j b ks g1 h2).1, fun k ks' f1 f2 => by
        rcases gt k _ f1 with ⟨_, z⟩ | ⟨_, f1⟩
        · cases z
        · exact (e.dk j b ks g1 h2).2 k ks' f1 f2⟩
theorem s_app (i : Nat) {x : Str} {p apos cpos epos : Pos} (he : TD X f.W e F) (hi : X.N[i]? = some x := by rfl) (hv : Vis X.env.scope x := by first | exact Or.inl rfl | exact Or.inr (Or.inl rfl)) (h1 : starEach [e] X.env = (false, eval e X.env) :: starEach [] X.env := by rfl)
    (hd : (x == ("__debug__" : Str)) = false := by decide) (hcd : (x == ("__classdict__" : Str)) = false := by decide)
    (hbase : attributeBase (.Name x p) "append" X.env (eval (.Name x p) X.env) = eval (.Name x p) X.env := by rfl)
    (hfew : ((backTo cpos (starEach [e] X.env)).all (fun x => !x.1) && (backToKw cpos (keywordEach [] X.env)).all (fun x => x.1.isSome) && decide ([e].length + ([] : List Keyword).length + (if ([] : List Keyword).isEmpty then 0 else 1) < 30)) = true := by rfl)
    (hline : (apos.endLine == cpos.line) = true := by rfl) (hplain : (backTo cpos (starEach [] X.env)).any (·.1) = false := by rfl) (hs : swapsWith (.Call (.Attribute (.Name x p) "append" apos) [e] [] cpos) none epos.line X.env = pure false := by rfl) :
    TS' X f (.Expr (.Call (.Attribute (.Name x p) "append" apos) [e] [] cpos) epos) (appS i F) :=
  psW (ps_expr (pe_bm PySem.F.plainAttrs_list PySem.F.slot_list_append PySem.F.type_list_append mt_append (pe_var hi hv hd hcd) (pa_cons he pa_nil h1) hbase hfew hline h1 hplain) hs) fun E σ H h => by
    obtain ⟨η, B, e0, p0⟩ := h
    have p : PostS X.K X.mg f.W f.rl f.M f.H0 f.A0 H B (appS i F η) E := p0
    unfold appS at p
    split at p
    · rename_i xs hx
      obtain ⟨o, e1, q⟩ := e0.env.at_ i _ hx
      match o, q, e1 with
      | some (.ref a), ⟨m, vs, e2, q⟩, e1 =>
        refine ⟨.ref a, e1, .inl ⟨rfl, vs, SqL.of e2⟩, ?_⟩
        refine (show tR X.K X.mg f.W (rD X.K) F σ H _ from ⟨η, B ++ f.A0, e0.env, ?_⟩)
        cases ef : F η with
        | ex c w z =>
          rw [ef] at p
          exact fun cls dd H' s x => p cls dd σ H' (e0.same.trans (hid_same s)) (exS x)
        | no => rw [ef] at p; exact p
        | ok y =>
          rw [ef] at p
          have p : PostS X.K X.mg f.W f.rl f.M f.H0 f.A0 H B (if xs.l.length < lineN then .nx (η.set i (.own ⟨xs.b, xs.l ++ [y]⟩)) else .no) E := p
          split at p
          · rename_i hz
            intro w H1 s1 qw
            have q1 := DpAll_mono q (hid_same (A := B ++ f.A0) s1)
            refine ⟨a, vs, w, rfl, rfl, s1 _ _ e2, by rw [DpAll_length q, line_eq]; exact hz, ?_⟩
            refine p σ _ B ((e0.step s1).app hx e1 (s1 _ _ e2) q1 qw) ?_
            rw [hid_upd m]
            exact hid_same s1
          · exact False.elim p
    · exact False.elim p
/-! ### return -/
def retS (F : Nv → R D) : Nv → Rs := fun η => (F η).toS fun x => .rt x η
theorem s_ret (he : TD X f.W e F) (hr : f.rl = rD X.K) : TS' X f (.Return (some e) pos) (retS F) :=
  psW (ps_ret he) fun E σ H h => toS_R h fun η B H1 v d e0 e s q p => p v _ H1 B e (by rw [hr]; exact Dp_mono q hid_app)
theorem s_retF (he : TF X f.W e F) (hr : f.rl = rF X.K) : TS' X f (.Return (some e) pos) (retS F) :=
  psW (ps_ret he) fun E σ H h => toS_R h fun η B H1 v d e0 e s q p => p v _ H1 B e (by
    rw [hr]
    obtain ⟨l, vs, ds, rfl, rfl, hp, hp1, qs⟩ := q
    exact ⟨l, vs, ds, rfl, rfl, e0.free hp, hp1, DpAll_mono qs (hid_mono fun b m => (List.mem_cons.mp m).elim (fun z => by rw [z]; exact List.mem_cons_self) fun z => List.mem_cons_of_mem _ (List.mem_append_right _ z))⟩)
/-- a list of the def's own -/
def retO (i : Nat) : Nv → Rs := fun η => match η[i]? with
  | some (.own xs) => if xs.b then .rt (.list xs.l) η else .no
  | _ => .no
theorem s_retO (i : Nat) {x : Str} {p : Pos} (hr : f.rl = rF X.K) (hi : X.N[i]? = some x := by rfl) (hv : Vis X.env.scope x := by first | exact Or.inl rfl | exact Or.inr (Or.inl rfl)) (hd : (x == ("__debug__" : Str)) = false := by decide) (hcd : (x == ("__classdict__" : Str)) = false := by decide) :
    TS' X f (.Return (some (.Name x p)) pos) (retO i) := psW (ps_ret (pe_var hi hv hd hcd)) fun E σ H h => by
  obtain ⟨η, B, e0, p0⟩ := h
  have p : PostS X.K X.mg f.W f.rl f.M f.H0 f.A0 H B (retO i η) E := p0
  unfold retO at p
  split at p
  · rename_i xs hx
    obtain ⟨o, e1, q⟩ := e0.env.at_ i _ hx
    match o, q, e1 with
    | some (.ref a), ⟨m, vs, e2, q⟩, e1 =>
      have hB := e0.own i a xs hx e1
      split at p
      case isFalse => exact False.elim p
      rename_i hb
      rw [if_pos hb] at hB
      refine ⟨_, e1, p _ σ H B e0 ?_⟩
      rw [hr]
      exact ⟨a, vs, _, rfl, rfl, e0.new a hB, e2, DpAll_mono q (hid_mono fun b m => (List.mem_cons.mp m).elim (fun z => by rw [z]; exact List.mem_append_left _ hB) fun z => List.mem_append_right _ z)⟩
  · exact False.elim p
/-! ### if, for -/
def ifS (G : Nv → R Bool) (Gs Gt : Nv → Rs) : Nv → Rs := fun η => (G η).toS fun k => if k then Gs η else Gt η
theorem s_if {as bs : List Stmt} (hc : TB X f.W c G) (ha : TSs X f as Gs) (hb : TSs X f bs Gt) : TS' X f (.If c as bs pos) (ifS G Gs Gt) := psW (ps_if hc ha hb) fun E σ H h => by
  obtain ⟨η, B, e, p0⟩ := h
  have p : PostS X.K X.mg f.W f.rl f.M f.H0 f.A0 H B ((G η).toS fun k => if k then Gs η else Gt η) E := p0
  refine (show tT X.K X.mg f.W G σ H _ from ⟨η, B ++ f.A0, e.env, ?_⟩)
  cases e1 : G η with
  | ex c w q =>
    rw [e1] at p
    exact fun cls dd H' s x => p cls dd σ H' (e.same.trans (hid_same s)) (exS x)
  | no => rw [e1] at p; exact p
  | ok k =>
    rw [e1] at p
    intro H1 s1
    have p : PostS X.K X.mg f.W f.rl f.M f.H0 f.A0 H B (if k then Gs η else Gt η) E := p
    cases k with
    | true => exact iteT ⟨η, B, e.step s1, PostS.keep (hid_same s1) p⟩
    | false => exact iteF ⟨η, B, e.step s1, PostS.keep (hid_same s1) p⟩
def loopG (T : Tgt) (Gb : Nv → Rs) : List D → Nv → Rs
  | [], η => .nx η
  | x :: xs, η => match T x η with
    | none => .no
    | some η1 => match Gb η1 with
      | .nx η2 => loopG T Gb xs η2
      | .ct η2 => loopG T Gb xs η2
      | .bk η2 => .nx η2
      | .rt d η => .rt d η
      | .ex c w p => .ex c w p
      | .no => .no
def forS (Fi : Nv → R (List D)) (T : Tgt) (Gb : Nv → Rs) : Nv → Rs := fun η => (Fi η).toS fun xs => loopG T Gb xs η
theorem for_core {T : Tgt} {js : List Nat} {Gb : Nv → Rs} {E : Ends} {σ : L2.St} {H1 : Hp} {η : Nv} {B : List Addr} {J : It} {ds : List D} (e : EnvS X.K f.M f.H0 f.A0 H1 B σ η) (wk : Walks X.K J H1 (B ++ f.A0) ds) (p : PostS X.K X.mg f.W f.rl f.M f.H0 f.A0 H1 B (loopG T Gb ds η) E) :
    ∃ V : Nat → Nat → L2.St → Hp → Prop, (∃ m, V 0 m σ H1) ∧ ∀ i m σ H, V i m σ H → (J.stop i H ∧ E.nx σ H) ∨ (J.go i H ∧ ∃ N : L2.St → Hp → Prop, (∀ σ' H', N σ' H' → ∃ m', m' < m ∧ V (i + 1) m' σ' H') ∧ ∀ x H', J.yld i H x H' → gD X.K T js x σ H' fun σ2 H2 => tS X.K X.mg f.W f.rl f.M f.H0 f.A0 Gb { E with nx := N, ct := N, bk := E.nx } σ2 H2) := by
  refine ⟨fun i m σ' H' => m + i = ds.length ∧ ∃ η' B', EnvS X.K f.M f.H0 f.A0 H' B' σ' η' ∧ Same (hid (B ++ f.A0) H1) (hid (B' ++ f.A0) H') ∧ PostS X.K X.mg f.W f.rl f.M f.H0 f.A0 H' B' (loopG T Gb (ds.drop i) η') E,
    ⟨ds.length, rfl, η, B, e, Same.refl _, p⟩, fun i m σ' H' hw => ?_⟩
  obtain ⟨em, η', B', e', sh, p⟩ := hw
  cases hx : ds[i]? with
  | none =>
    have hl : ds.length ≤ i := List.getElem?_eq_none_iff.mp hx
    have ei : i = ds.length := by omega
    subst ei
    rw [List.drop_length] at p
    exact .inl ⟨wk.stop _ _ sh, p σ' H' B' e' (Same.refl _)⟩
  | some x =>
    have hl : i < ds.length := (List.getElem?_eq_some_iff.mp hx).1
    have ed : ds.drop i = x :: ds.drop (i + 1) := by
      rw [List.drop_eq_getElem_cons hl]
      congr 1
      exact (List.getElem?_eq_some_iff.mp hx).2
    obtain ⟨g1, g2⟩ := wk.step i x hx _ _ sh e'.env.tr
    rw [ed] at p
    unfold loopG at p
    cases et : T x η' with
    | none => rw [et] at p; exact False.elim p
    | some η1 =>
      rw [et] at p
      have p : PostS X.K X.mg f.W f.rl f.M f.H0 f.A0 H' B' (match Gb η1 with
        | .nx η2 => loopG T Gb (ds.drop (i + 1)) η2
        | .ct η2 => loopG T Gb (ds.drop (i + 1)) η2
        | .bk η2 => .nx η2
        | .rt d η => .rt d η
        | .ex c w p => .ex c w p
        | .no => .no) E := p
      refine .inr ⟨g1, fun σ2 H2 => ∃ m', m' < m ∧ (m' + (i + 1) = ds.length ∧ ∃ η' B', EnvS X.K f.M f.H0 f.A0 H2 B' σ2 η' ∧ Same (hid (B ++ f.A0) H1) (hid (B' ++ f.A0) H2) ∧ PostS X.K X.mg f.W f.rl f.M f.H0 f.A0 H2 B' (loopG T Gb (ds.drop (i + 1)) η') E), fun σ2 H2 hN => hN, fun v H3 y => ?_⟩
      obtain ⟨s3, qv⟩ := g2 v H3 y
      refine ⟨η', B' ++ f.A0, x, η1, e'.env.same s3, qv, et, fun σ2 E2 S => ?_⟩
      have e2 : EnvS X.K f.M f.H0 f.A0 H3 B' σ2 η1 := ⟨E2, e'.same.trans (hid_same s3), e'.mA, e'.new, fun j a xs h1 h2 => by
        obtain ⟨n, h1⟩ := S.own j xs h1
        rw [S.rest j n] at h2
        exact e'.own j a xs h1 h2, fun j a ks h1 h2 => by
        obtain ⟨n, h1⟩ := S.dk j ks h1
        rw [S.rest j n] at h2
        exact ⟨(e'.dk j a ks h1 h2).1, fun k ks' g1 g2 => by
          obtain ⟨n, g1⟩ := S.dk k ks' g1
          rw [S.rest k n] at g2
          exact (e'.dk j a ks h1 h2).2 k ks' g1 g2⟩⟩
      have sh3 : Same (hid (B' ++ f.A0) H') (hid (B' ++ f.A0) H3) := hid_same s3
      refine (show tS X.K X.mg f.W f.rl f.M f.H0 f.A0 Gb _ σ2 H3 from ⟨η1, B', e2, ?_⟩)
      have on : ∀ η2 : Nv, PostS X.K X.mg f.W f.rl f.M f.H0 f.A0 H' B' (loopG T Gb (ds.drop (i + 1)) η2) E → Goes X.K f.M f.H0 f.A0 H3 B' η2 fun σ2 H2 => ∃ m', m' < m ∧ (m' + (i + 1) = ds.length ∧ ∃ η' B', EnvS X.K f.M f.H0 f.A0 H2 B' σ2 η' ∧ Same (hid (B ++ f.A0) H1) (hid (B' ++ f.A0) H2) ∧ PostS X.K X.mg f.W f.rl f.M f.H0 f.A0 H2 B' (loopG T Gb (ds.drop (i + 1)) η') E) :=
        fun η2 pp σ4 H4 B4 e4 s4 => ⟨m - 1, by omega, by omega, η2, B4, e4, (sh.trans sh3).trans s4, PostS.keep (sh3.trans s4) pp⟩
      cases eb : Gb η1 with
      | nx η2 => rw [eb] at p; exact on η2 p
      | ct η2 => rw [eb] at p; exact on η2 p
      | bk η2 =>
        rw [eb] at p
        exact fun σ4 H4 B4 e4 s4 => p σ4 H4 B4 e4 (sh3.trans s4)
      | rt d η2 => rw [eb] at p; exact p
      | ex c w q => rw [eb] at p; exact p
      | no => rw [eb] at p; exact p
theorem s_for {body : List Stmt} {Fi : Nv → R (List D)} {T : Tgt} {js : List Nat} {Gb : Nv → Rs} (hp : PassesOwn (model X.prog X.w) X.A X.env X.xe) (hc : X.calm = true) (hi : TI' X f.W tg iter Fi) (hg : TT' X tg T js) (hb : TSs X f body Gb) (hs : ∀ x, foldedSetIterable iter X.env x = pure x := by intro _; rfl) :
    TS' X f (.For tg iter body [] pos) (forS Fi T Gb) := psW (ps_for hp hc hi hg hb (hs := hs)) fun E σ H h => by
  obtain ⟨η, B, e, p0⟩ := h
  have p : PostS X.K X.mg f.W f.rl f.M f.H0 f.A0 H B ((Fi η).toS fun xs => loopG T Gb xs η) E := p0
  refine (show tI X.K X.mg f.W Fi σ H _ from ⟨η, B ++ f.A0, e.env, ?_⟩)
  cases e1 : Fi η with
  | ex c w q =>
    rw [e1] at p
    exact fun cls dd H' s x => p cls dd σ H' (e.same.trans (hid_same s)) (exS x)
  | no => rw [e1] at p; exact p
  | ok ds =>
    rw [e1] at p
    have p : PostS X.K X.mg f.W f.rl f.M f.H0 f.A0 H B (loopG T Gb ds η) E := p
    intro J H1 s1 wk
    exact for_core (e.step s1) wk (PostS.keep (hid_same s1) p)
end
end Bd
/-! D6: defs and their calls by data; built-ins. -/
namespace Bd
open PySem L2

/-! ### a def's promise, where no repr is going on -/
structure FnG (P : Program) (w : World) (K : PySem.W.Frag) (mg : Str → Option Value) (base : Heap) (k : Nat) (f : Addr) (fd : FuncData) (ps : List Str) (sp : Sp) : Prop where
  len : ∀ vs H Q E, sp vs H Q E → vs.length = ps.length
  run : ∀ (A : Around) (outer : List Env) (s : Shared) (H : Hp) (args : Args) (us : List Value) (vs : List V) (Q : VK) (E : XK), Room k A → A.guards = some [] → Env0 P w K mg base A outer s H → BindsTo s fd args (ps.zip us) → Vals vs us →
    sp vs H Q E → codeAny (model P w) A (.call (.ref f) args) (CR (L2.CX P w) outer P w H s Q E) s
theorem FnG.mono {P : Program} {w : World} {K : PySem.W.Frag} {mg : Str → Option Value} {base : Heap} {j k : Nat} {f : Addr} {fd : FuncData} {ps : List Str} {sp : Sp} (F : FnG P w K mg base j f fd ps sp) (h : j ≤ k) : FnG P w K mg base k f fd ps sp :=
  ⟨F.len, fun A o s H as us vs Q E hr => F.run A o s H as us vs Q E (hr.mono h)⟩
section
variable {P : Program} {w : World} {K : PySem.W.Frag} {mg : Str → Option Value} {base : Heap}
theorem okG {x qual : Str} {st : Stmt} {f : Addr} {fd : FuncData} {N ps : List Str} {k : Nat} {sp : Sp} (F : Fun K x qual st f fd) (S : FnScope N ps (defScope st)) (len : ∀ vs H Q E, sp vs H Q E → vs.length = ps.length)
    (hbody : ∀ (cdv : Value) (A : Around) (outer : List Env) (s : Shared) (H : Hp) (vs : List V) (Q : VK) (E : XK), Room k (A.deeper (PyProof.Rows.envOfC qual (defScope st) s.heap.objs.size f cdv)) → A.guards = some [] → sp vs H Q E →
      ∃ t, PSs (cxOf (L2.CX P w) P w K mg base N qual (defScope st) f cdv A outer s H E) (defBody st) t ∧ t { nx := fun _ H' => Q .non H', rt := Q } (L2.start N vs) H) : FnG P w K mg base (k + 1) f fd ps sp := by
  obtain ⟨oc, od, kV, doc, pm, an, cdv, ct, osl, rfl, lk, hcd⟩ := F.ex
  refine ⟨len, fun A outer s H args us vs Q E room gds env bnd rel prm => ?_⟩
  have lenV := len vs H Q E prm
  have Kin : K.In s.heap := env.mod.kin.keeps fun b o e => (env.bs b o e).1
  have nolim : s.heap.NoLimit := env.mod.nolimit.keeps fun b o e => (env.bs b o e).1
  have kinds : ∀ y ∈ ps.zip us, (defScope st).names.lookup y.1 = some .local ∨ ((defScope st).names.lookup y.1 = some .cell ∧ ((cellsFrom (s.heap.objs.size + 1) (defScope st).names []).lookup y.1).isSome = true) := by
    rintro ⟨n, v⟩ hy
    rcases S.par n (List.of_mem_zip hy).1 with h | h
    · exact .inl h
    · exact .inr ⟨h, PySem.W.cellsFrom_some _ _ _ (.inl h)⟩
  refine codeAny_call_function room.depth (Kin _ _ lk) rfl S.co S.gen rfl (PySem.W.codeRec_of Kin hcd) (bnd _ _ _ _ ?_)
  refine wpAny_newFunctionEnv_cells S.kind kinds fun e1 he s1 inc => ?_
  subst he
  refine ⟨nolim.keeps inc.toInCall.keep, codeAny_func ?_⟩
  obtain ⟨t, ht, hq⟩ := hbody cdv A outer s H vs Q E (room.deeper _) gds prm
  have I0 : Inv (cxOf (L2.CX P w) P w K mg base N qual (defScope st) f cdv A outer s H E) [] (L2.start N vs) H s1 := inv_start S room.hd env lenV rel inc
  refine wpAny_mono (ht.run [] s1 _ H _ I0 hq) (fun fl s2 out => ?_) fun _ _ out => out
  cases fl with
  | ret u =>
    obtain ⟨v, σ2, H2, J, rv, z⟩ := out
    exact ⟨v, H2, J.os, J.bare, J.base, J.hok, rv, z⟩
  | next =>
    obtain ⟨σ2, H2, J, z⟩ := out
    exact ⟨V.non, H2, J.os, J.bare, J.base, J.hok, rfl, z⟩
  | brk => exact out.elim fun _ z => z.elim fun _ z => z.2.elim
  | cont => exact out.elim fun _ z => z.elim fun _ z => z.2.elim
/-- what a def does to data -/
def spD (K : PySem.W.Frag) (mg : Str → Option Value) (rl : Rl) (n : Nat) (F : List D → R D) : Sp := fun vs H Q E => ∃ ds A, ds.length = n ∧ (∀ p ∈ A, H p ≠ none) ∧ DpAll K (hid A H) vs ds ∧ match F ds with
  | .ok d => ∀ v H', Same H H' → rl H H' A v d → Q v H'
  | .ex c w p => ∀ cls dd H', Same H H' → ExR K mg (hid A H') cls dd c w p → E cls dd H'
  | .no => False
def initD (m : Nat) (ds : List D) : Nv := ds.map Sl.d ++ List.replicate (m - ds.length) Sl.no
def runD (m : Nat) (fall : R D) (G : Nv → Rs) : List D → R D := fun ds => match G (initD m ds) with
  | .rt d _ => .ok d
  | .nx _ => fall
  | .ex c w p => .ex c w p
  | _ => .no
theorem hid_nil {H : Hp} : hid [] H = H := funext fun b => if_neg List.not_mem_nil
theorem same_nil {H H' : Hp} (s : Same (hid [] H) (hid [] H')) : Same H H' := by
  rw [hid_nil, hid_nil] at s
  exact s
theorem EnvS.same0 {H0 : Hp} {A0 : List Addr} {H : Hp} {B : List Addr} {σ : L2.St} {η : Nv} (e : EnvS K [] H0 A0 H B σ η) : Same H0 H := same_nil e.same
theorem env_start {H : Hp} {A : List Addr} {N : List Str} {vs : List V} {ds : List D} (hA : ∀ p ∈ A, H p ≠ none) (q : DpAll K (hid A H) vs ds) : EnvD K H A (L2.start N vs) (initD N.length ds) where
  len := by
    unfold L2.start initD
    rw [List.length_append, List.length_append, List.length_map, List.length_map, List.length_replicate, List.length_replicate, DpAll_length q]
  at_ := fun i s e => by
    have hl := DpAll_length q
    unfold initD at e
    unfold L2.start
    by_cases hi : i < ds.length
    · rw [List.getElem?_append_left (by rw [List.length_map]; exact hi), List.getElem?_map] at e
      rw [List.getElem?_append_left (by rw [List.length_map, hl]; exact hi), List.getElem?_map]
      cases hd : ds[i]? with
      | none => rw [hd] at e; cases e
      | some d =>
        rw [hd] at e
        cases e
        obtain ⟨v, hv, q1⟩ := DpAll_get q hd
        exact ⟨some v, by rw [hv]; rfl, q1⟩
    · rw [List.getElem?_append_right (by rw [List.length_map]; omega), List.length_map, List.getElem?_replicate] at e
      rw [List.getElem?_append_right (by rw [List.length_map]; omega), List.length_map, List.getElem?_replicate]
      split at e
      · rename_i h
        cases e
        exact ⟨none, by rw [if_pos (by rw [hl]; exact h)], trivial⟩
      · cases e
  ap := fun i j a xs ys e _ _ _ => by
    unfold initD at e
    by_cases hi : i < ds.length
    · rw [List.getElem?_append_left (by rw [List.length_map]; exact hi), List.getElem?_map] at e
      cases hd : ds[i]? <;> (rw [hd] at e; cases e)
    · rw [List.getElem?_append_right (by rw [List.length_map]; omega), List.getElem?_replicate] at e
      split at e <;> cases e
  tr := hA
theorem no_own {m i : Nat} {ds : List D} {xs : OL} : (initD m ds)[i]? ≠ some (.own xs) := fun e => by
  unfold initD at e
  by_cases hi : i < ds.length
  · rw [List.getElem?_append_left (by rw [List.length_map]; exact hi), List.getElem?_map] at e
    cases hd : ds[i]? <;> (rw [hd] at e; cases e)
  · rw [List.getElem?_append_right (by rw [List.length_map]; omega), List.getElem?_replicate] at e
    split at e <;> cases e
theorem no_dk {m i : Nat} {ds : List D} {ks : Dks} : (initD m ds)[i]? ≠ some (.dk ks) := fun e => by
  unfold initD at e
  by_cases hi : i < ds.length
  · rw [List.getElem?_append_left (by rw [List.length_map]; exact hi), List.getElem?_map] at e
    cases hd : ds[i]? <;> (rw [hd] at e; cases e)
  · rw [List.getElem?_append_right (by rw [List.length_map]; omega), List.getElem?_replicate] at e
    split at e <;> cases e
/-- THE RULE: a def by the data that its body tells -/
theorem fn_rule {x qual : Str} {st : Stmt} {f : Addr} {fd : FuncData} {N ps : List Str} {k : Nat} {rl : Rl} {fall : R D} {G : Nv → Rs} (F : Fun K x qual st f fd) (S : FnScope N ps (defScope st)) (hf : (fall = .ok .none ∧ rl = rD K) ∨ fall = .no)
    (hbody : ∀ (cdv : Value) (A : Around) (outer : List PySem.Env) (s : Shared) (H : Hp) (E : XK) (A0 : List Addr), Room k (A.deeper (PyProof.Rows.envOfC qual (defScope st) s.heap.objs.size f cdv)) → A.guards = some [] →
      TSs (cxOf (L2.CX P w) P w K mg base N qual (defScope st) f cdv A outer s H E) ⟨fun cls d _ H => E cls d H, rl, [], H, A0⟩ (defBody st) G) : FnG P w K mg base (k + 1) f fd ps (spD K mg rl ps.length (runD N.length fall G)) := by
  refine okG F S (fun vs H Q E h => ?_) fun cdv A outer s H vs Q E room gds prm => ?_
  · obtain ⟨ds, A, h1, _, h2, _⟩ := h
    rw [DpAll_length h2, h1]
  · obtain ⟨ds, A0, hl, hA, qd, hm⟩ := prm
    refine ⟨_, hbody cdv A outer s H E A0 room gds, ?_⟩
    refine ⟨initD N.length ds, [], ⟨env_start hA qd, Same.refl _, ⟨(fun p z => (List.not_mem_nil z).elim), hA⟩, (fun p z => (List.not_mem_nil z).elim), fun i a xs e => absurd e no_own, fun i a ks e => absurd e no_dk⟩, ?_⟩
    unfold runD at hm
    cases eg : G (initD N.length ds) with
    | rt d η => rw [eg] at hm; exact fun v σ' H' B' e' q => hm v H' e'.same0 q
    | nx η =>
      rw [eg] at hm
      rcases hf with ⟨rfl, rfl⟩ | rfl
      · exact fun σ' H' B' e' _ => hm .non H' e'.same0 .non
      · exact False.elim hm
    | ex c w p => rw [eg] at hm; exact fun cls dd σ' H' s1 q => hm cls dd H' (same_nil s1) q
    | bk η => rw [eg] at hm; exact False.elim hm
    | ct η => rw [eg] at hm; exact False.elim hm
    | no => rw [eg] at hm; exact hm
end

/-! ### calls of own defs -/
section
variable {X : Cx} {W : WX} {rl : Rl} {e : Expr} {es : List Expr} {x : Str} {p pos : Pos} {f : Addr} {fd : FuncData} {ps : List Str} {k n : Nat} {Fn : List D → R D} {Fs : Nv → R (List D)}
theorem run_g {pins : List (Addr × Obj)} {σ : L2.St} {H : Hp} {s : Shared} {Q : VK} {us : List Value} {vs : List V} {sp : Sp} {E : XK} (F : FnG X.prog X.w X.K X.mg X.base k f fd ps sp) (hr : Room k X.A) (hgd : X.A.guards = some []) (hb : Binds X.K fd ps [])
    (hx : PassesAt (L2.CX X.prog X.w) X σ E) (I : Inv X pins σ H s) (r : Vals vs us) (h : sp vs H Q E) : wpAny (model X.prog X.w) X.A (call (.ref f) us) (EP X pins σ Q) X.xe s := by
  have hl : (us ++ []).length = ps.length := by
    rw [List.append_nil, ← r.length]
    exact F.len _ _ _ _ h
  have bt := hb s us I.kIn hl
  rw [List.append_nil] at bt
  refine wpAny_call (codeAny_mono (F.run X.A X.stack s H ⟨us, []⟩ us vs Q E hr hgd I.env0 bt r h) fun res s2 out => ?_)
  match res, out with
  | .error e, out => exact hx pins H s e s2 I out
  | .ok (.ret u), out => exact I.after out
  | .ok .next, out => exact out.elim
  | .ok .brk, out => exact out.elim
  | .ok .cont, out => exact out.elim
def noex : R D → R D
  | .ok d => .ok d
  | _ => .no
/-- a def that raises nothing here -/
def callV (Fn : List D → R D) (Fs : Nv → R (List D)) : Nv → R D := fun η => (Fs η).bind fun ds => noex (Fn ds)
/-- a def that may raise -/
def callX (Fn : List D → R D) (Fs : Nv → R (List D)) : Nv → R D := fun η => (Fs η).bind Fn
theorem call_core {g : R D → R D} (hgx : ∀ r d, g r = .ok d → r = .ok d) {Pd : Prop} (hb' : Back rl) (F : FnG X.prog X.w X.K X.mg X.base k f fd ps (spD X.K X.mg rl n Fn)) (hr : Room k X.A) (hgd : X.A.guards = some []) (hg : Gl X x) (hm : X.mg x = some (.ref f)) (hk : PySem.W.keepIn X.K (.ref f) = true) (hb : Binds X.K fd ps [])
    (hE : ∀ σ : L2.St, ∃ E : XK, PassesAt (L2.CX X.prog X.w) X σ E ∧ ∀ (A : List Addr) (H : Hp) (r : R D) (Q : VK), Post X.K X.mg W rl σ A H (g r) Q → match r with
      | .ok d => ∀ v H', Same H H' → rl H H' A v d → Q v H'
      | .ex c w p => ∀ cls dd H', Same H H' → ExR X.K X.mg (hid A H') cls dd c w p → E cls dd H'
      | .no => False)
    (ha : TAs X W (vD X.K) (e :: es) Fs) (hn : es.length + 1 = n) (hfs : ∀ η ds, Fs η = .ok ds → ds.length = n) (hdb : (x == ("__debug__" : Str)) = false) (he : starEach (e :: es) X.env = (false, eval e X.env) :: starEach es X.env) (hpl : (backTo pos (starEach es X.env)).any (·.1) = false) :
    PE X (.Call (.Name x p) (e :: es) [] pos) (tR X.K X.mg W rl fun η => (Fs η).bind fun ds => g (Fn ds)) := by
  refine ⟨fun pins s σ H Q I h => wpAny_Call_Name_kw (ld_glob I hg hm ?_ hdb)⟩
  obtain ⟨η, A, E, q0⟩ := h
  have q : Post X.K X.mg W rl σ A H ((Fs η).bind fun ds => g (Fn ds)) Q := q0
  obtain ⟨Ex, hx, hEx⟩ := hE σ
  refine PySem.W.callWith_K (h₀ := X.base) I.ok.mod.kin hk (thn (ha.run pos pins s σ H (fun vs H1 => spD X.K X.mg rl n Fn vs H1 Q Ex) I ⟨η, A, E, ?_⟩) fun us s1 ⟨vs, H1, I1, r1, q1⟩ => ⟨I1.kIn, run_g F hr hgd hb hx I1 r1 q1⟩) he hpl
  cases e1 : Fs η with
  | ex c w z => rw [e1] at q; exact q
  | no => rw [e1] at q; exact q
  | ok ds =>
    rw [e1] at q
    intro vs H1 s1 qv
    exact ⟨ds, A, hfs η ds e1, (E.same s1).tr, qv.dp, hEx A H1 (Fn ds) Q (Post.same hb' s1 q)⟩
theorem aC_len {Fa : Nv → R D} {m : Nat} (h : ∀ η ds, Fs η = .ok ds → ds.length = m) : ∀ η ds, aC Fa Fs η = .ok ds → ds.length = m + 1 := fun η ds e => by
  unfold aC at e
  cases e1 : Fa η with
  | ex c w z => rw [e1] at e; cases e
  | no => rw [e1] at e; cases e
  | ok y =>
    rw [e1] at e
    have e : ((Fs η).bind fun xs => R.ok (y :: xs)) = .ok ds := e
    cases e2 : Fs η with
    | ex c w z => rw [e2] at e; cases e
    | no => rw [e2] at e; cases e
    | ok ys =>
      rw [e2] at e
      cases e
      rw [List.length_cons, h η ys e2]
theorem a0_len : ∀ η ds, a0 η = .ok ds → ds.length = 0 := fun η ds e => by
  cases e
  rfl
theorem t_call (hb' : Back rl) (F : FnG X.prog X.w X.K X.mg X.base k f fd ps (spD X.K X.mg rl n Fn)) (hr : Room k X.A) (hgd : X.A.guards = some []) (hg : Gl X x) (hm : X.mg x = some (.ref f)) (hk : PySem.W.keepIn X.K (.ref f) = true) (hb : Binds X.K fd ps []) (ha : TAs X W (vD X.K) (e :: es) Fs) (hfs : ∀ η ds, Fs η = .ok ds → ds.length = n)
    (hn : es.length + 1 = n := by rfl) (hdb : (x == ("__debug__" : Str)) = false := by decide) (he : starEach (e :: es) X.env = (false, eval e X.env) :: starEach es X.env := by rfl) (hpl : (backTo pos (starEach es X.env)).any (·.1) = false := by rfl) :
    PE X (.Call (.Name x p) (e :: es) [] pos) (tR X.K X.mg W rl (callV Fn Fs)) :=
  call_core (g := noex) (Pd := True) (fun r d h => by cases r <;> first | exact h | cases h) hb' F hr hgd hg hm hk hb (fun σ => ⟨fun _ _ _ => False, fun pins H s e s' I c => by
      obtain ⟨_, _, _, _, _, _, _, _, _, _, _, _, z⟩ := c
      exact z.elim, fun A H r Q q => by
      cases r with
      | ok d => exact q
      | ex c w z => exact False.elim q
      | no => exact q⟩) ha hn hfs hdb he hpl
theorem t_callX (tk : Takes X W) (hb' : Back rl) (F : FnG X.prog X.w X.K X.mg X.base k f fd ps (spD X.K X.mg rl n Fn)) (hr : Room k X.A) (hgd : X.A.guards = some []) (hg : Gl X x) (hm : X.mg x = some (.ref f)) (hk : PySem.W.keepIn X.K (.ref f) = true) (hb : Binds X.K fd ps []) (ha : TAs X W (vD X.K) (e :: es) Fs) (hfs : ∀ η ds, Fs η = .ok ds → ds.length = n)
    (hn : es.length + 1 = n := by rfl) (hdb : (x == ("__debug__" : Str)) = false := by decide) (he : starEach (e :: es) X.env = (false, eval e X.env) :: starEach es X.env := by rfl) (hpl : (backTo pos (starEach es X.env)).any (·.1) = false := by rfl) :
    PE X (.Call (.Name x p) (e :: es) [] pos) (tR X.K X.mg W rl (callX Fn Fs)) :=
  call_core (g := id) (Pd := True) (fun r d h => h) hb' F hr hgd hg hm hk hb (fun σ => ⟨WE W σ, passAt tk σ, fun A H r Q q => by
      cases r with
      | ok d => exact q
      | ex c w z => exact q
      | no => exact q⟩) ha hn hfs hdb he hpl
/-- a def of the module, as its callers want it -/
def Df (P : Program) (w : World) (K : PySem.W.Frag) (mg : Str → Option Value) (base : Heap) (k : Nat) (x : Str) (n : Nat) (rl : Rl) (Fn : List D → R D) : Prop :=
  ∃ f fd ps, FnG P w K mg base k f fd ps (spD K mg rl n Fn) ∧ Binds K fd ps [] ∧ mg x = some (.ref f) ∧ PySem.W.keepIn K (.ref f) = true
theorem t_callD {j : Nat} (d : Df X.prog X.w X.K X.mg X.base j x n rl Fn) (hr : Room k X.A) (hgd : X.A.guards = some []) (ha : TAs X W (vD X.K) (e :: es) Fs) (hfs : ∀ η ds, Fs η = .ok ds → ds.length = n) (hb' : Back rl) (hj : j ≤ k := by decide) (hg : Gl X x := by rfl)
    (hn : es.length + 1 = n := by rfl) (hdb : (x == ("__debug__" : Str)) = false := by decide) (he : starEach (e :: es) X.env = (false, eval e X.env) :: starEach es X.env := by rfl) (hpl : (backTo pos (starEach es X.env)).any (·.1) = false := by rfl) :
    PE X (.Call (.Name x p) (e :: es) [] pos) (tR X.K X.mg W rl (callV Fn Fs)) := by
  obtain ⟨f, fd, ps, F, b, m, kp⟩ := d
  exact t_call hb' F (hr.mono hj) hgd hg m kp b ha hfs hn hdb he hpl
theorem t_callDX {j : Nat} (tk : Takes X W) (d : Df X.prog X.w X.K X.mg X.base j x n rl Fn) (hr : Room k X.A) (hgd : X.A.guards = some []) (ha : TAs X W (vD X.K) (e :: es) Fs) (hfs : ∀ η ds, Fs η = .ok ds → ds.length = n) (hb' : Back rl) (hj : j ≤ k := by decide) (hg : Gl X x := by rfl)
    (hn : es.length + 1 = n := by rfl) (hdb : (x == ("__debug__" : Str)) = false := by decide) (he : starEach (e :: es) X.env = (false, eval e X.env) :: starEach es X.env := by rfl) (hpl : (backTo pos (starEach es X.env)).any (·.1) = false := by rfl) :
    PE X (.Call (.Name x p) (e :: es) [] pos) (tR X.K X.mg W rl (callX Fn Fs)) := by
  obtain ⟨f, fd, ps, F, b, m, kp⟩ := d
  exact t_callX tk hb' F (hr.mono hj) hgd hg m kp b ha hfs hn hdb he hpl
end
end Bd
/-! D7: built-ins by data. -/
namespace Bd
open PySem L2

section
variable {X : Cx} {W : WX} {rl : Rl} {a b c e : Expr} {Fa Fb F : Nv → R D} {Fs : Nv → R (List D)} {pos p : Pos} {es : List Expr}
theorem all1 {rv : Rv} {H : Hp} {A : List Addr} {d : D} : ∀ {vs : List V}, AllV rv H A vs [d] → ∃ v, vs = [v] ∧ rv H A v d
  | [v], h => ⟨v, rfl, h.1⟩
  | [], h => h.elim
  | _ :: _ :: _, h => h.2.elim
theorem all2 {rv : Rv} {H : Hp} {A : List Addr} {d e : D} : ∀ {vs : List V}, AllV rv H A vs [d, e] → ∃ v w, vs = [v, w] ∧ rv H A v d ∧ rv H A w e
  | [v, w], h => ⟨v, w, rfl, h.1, h.2.1⟩
  | [], h => h.elim
  | [_], h => h.2.elim
  | _ :: _ :: _ :: _, h => h.2.2.elim
/-! len -/
def lenV : List D → Option D
  | [.list xs] => some (.int xs.length)
  | [.tuple xs] => some (.int xs.length)
  | [.str x] => if x.length ≤ lineN then some (.int x.length) else none
  | _ => none
def rLen (K : PySem.W.Frag) : List V → Hp → VK → Prop := fun xs H Q => (∃ p ys, xs = [.ref p] ∧ (SqL K H p ys ∨ SqT K H p ys) ∧ Q (.int ys.length) H) ∨ ∃ z, xs = [.str z] ∧ z.length ≤ sizeLine ∧ Q (.int z.length) H
theorem call_lenA : CallR X (.builtin "len") (rLen X.K) := by
  intro pins s σ H xs us Q I r h
  rcases h with h | h
  · exact call_len_seq pins s σ H xs us Q I r h
  · exact call_len_str pins s σ H xs us Q I r h
theorem o_len : OpN X (rD X.K) (rLen X.K) lenV := by
  intro H A vs ds d Q hA h e k
  unfold lenV at e
  split at e
  · have e := Option.some.inj e
    subst e
    obtain ⟨v, rfl, q⟩ := all1 h
    obtain ⟨l, ws, rfl, h1, q1⟩ := rO_list q
    refine .inl ⟨l, ws, rfl, .inl h1, ?_⟩
    rw [DpAll_length q1]
    exact k _ H (Same.refl _) (.int _)
  · have e := Option.some.inj e
    subst e
    obtain ⟨v, rfl, q⟩ := all1 h
    obtain ⟨l, ws, rfl, h1, _, q1⟩ := rO_tup q
    refine .inl ⟨l, ws, rfl, .inr h1, ?_⟩
    rw [DpAll_length q1]
    exact k _ H (Same.refl _) (.int _)
  · split at e
    · rename_i hz
      have e := Option.some.inj e
      subst e
      obtain ⟨v, rfl, q⟩ := all1 h
      exact .inr ⟨_, by rw [rO_str q], by rw [line_eq]; exact hz, k _ H (Same.refl _) (.int _)⟩
    · cases e
  · cases e
theorem t_len (hm : X.mg "len" = none) (ha : TAs X W (vO X.K) [e] Fs) (hg : Gl X "len" := by rfl) (he : starEach [e] X.env = (false, eval e X.env) :: starEach [] X.env := by rfl) (hpl : (backTo pos (starEach [] X.env)).any (·.1) = false := by rfl) : TD X W (.Call (.Name "len" p) [e] [] pos) (eN lenV Fs) :=
  t_callB back_D call_lenA o_len hg hm PySem.boot_len ha (he := he) (hpl := hpl)
/-! repr -/
def reprV : List D → Option D
  | [d] => if d.showable = true ∧ d.hasDict = false ∧ d.depth ≤ 64 ∧ d.shown.length ≤ lineN then some (.str d.shown) else none
  | _ => none
def rRepr (K : PySem.W.Frag) : List V → Hp → VK → Prop := fun xs H Q => ∃ v d, xs = [v] ∧ Dp K H v d ∧ d.showable = true ∧ d.hasDict = false ∧ d.depth ≤ 64 ∧ d.shown.length ≤ sizeLine ∧ Q (.str d.shown) H
theorem call_reprA (hg : X.A.guards = some []) (hu : X.A.units + 66 < cLine) : CallR X (.builtin "repr") (rRepr X.K) := by
  intro pins s σ H xs us Q I r h
  obtain ⟨v, d, rfl, q, h1, h2, h3, h4, k⟩ := h
  obtain ⟨u, rfl, ru⟩ := vals1 r
  have fin : ∀ t, EP X pins σ Q (.str d.shown t) { s with toks := s.toks + 1 } := fun t => ⟨.str d.shown, H, I.tok _, ⟨_, rfl⟩, k⟩
  have deep : ∀ a, v = .ref a → wpAny (model X.prog X.w) X.A (call (.builtin "repr") [.ref a]) (EP X pins σ Q) X.xe s := fun a ea => by
    subst ea
    cases ru
    obtain ⟨as, rd⟩ := Dp.reads I d _ _ q rfl
    refine repr_of_reads' rd h1 (fun z => by rw [h2] at z; cases z) hg (by omega) (fun _ _ z => z) (fun h' u tk kp => ?_) h4
    exact ⟨.str d.shown, H, I.kept (t' := tk) kp, ⟨_, rfl⟩, k⟩
  cases q with
  | non =>
    cases ru
    exact PySem.P.repr_of_none (fin _)
  | bl b =>
    cases ru
    exact PySem.P.repr_of_bool (fin _)
  | int i =>
    obtain ⟨t, rfl⟩ := ru
    exact PySem.P.repr_of_int (of_decide_eq_true h1) (fin _)
  | str x =>
    obtain ⟨t, rfl⟩ := ru
    exact PySem.P.repr_of_str (fin _) h4
  | lst _ _ =>
    cases ru
    exact deep _ rfl
  | tup _ _ =>
    cases ru
    exact deep _ rfl
theorem o_repr : OpN X (rD X.K) (rRepr X.K) reprV := by
  intro H A vs ds d Q hA h e k
  unfold reprV at e
  split at e
  · split at e
    · rename_i d' hd
      have e := Option.some.inj e
      subst e
      obtain ⟨v, rfl, q⟩ := all1 h
      exact ⟨v, d', rfl, rO_dp q, hd.1, hd.2.1, hd.2.2.1, by rw [line_eq]; exact hd.2.2.2, k _ H (Same.refl _) (.str _)⟩
    · cases e
  · cases e
theorem t_repr (hg : X.A.guards = some []) (hu : X.A.units + 66 < cLine) (hm : X.mg "repr" = none) (ha : TAs X W (vO X.K) [e] Fs) (hgl : Gl X "repr" := by rfl) (he : starEach [e] X.env = (false, eval e X.env) :: starEach [] X.env := by rfl) (hpl : (backTo pos (starEach [] X.env)).any (·.1) = false := by rfl) :
    TD X W (.Call (.Name "repr" p) [e] [] pos) (eN reprV Fs) := t_callB back_D (call_reprA hg hu) o_repr hgl hm (by decide +kernel) ha (he := he) (hpl := hpl)
/-! int -/
def intV : List D → Option D
  | [.int i] => some (.int i)
  | [.bool b] => some (.int (if b then 1 else 0))
  | _ => none
theorem t_intc (hm : X.mg "int" = none) (ha : TAs X W (vO X.K) [e] Fs) (hgl : Gl X "int" := by rfl) (he : starEach [e] X.env = (false, eval e X.env) :: starEach [] X.env := by rfl) (hpl : (backTo pos (starEach [] X.env)).any (·.1) = false := by rfl) :
    TD X W (.Call (.Name "int" p) [e] [] pos) (eN intV Fs) := t_callTy back_D call_int1 (fun H A vs ds d Q hA h e k => by
  unfold intV at e
  split at e
  · have e := Option.some.inj e
    subst e
    obtain ⟨v, rfl, q⟩ := all1 h
    exact .inl ⟨_, by rw [rO_int q], k _ H (Same.refl _) (.int _)⟩
  · have e := Option.some.inj e
    subst e
    obtain ⟨v, rfl, q⟩ := all1 h
    exact .inr ⟨_, by rw [rO_bool q], k _ H (Same.refl _) (.int _)⟩
  · cases e) hgl hm (by decide +kernel) ha (he := he) (hpl := hpl)
/-! tuple, list -/
def tupleV : List D → Option D
  | [.list xs] => some (.tuple xs)
  | [.tuple xs] => some (.tuple xs)
  | _ => none
theorem t_tuplec (hm : X.mg "tuple" = none) (ha : TAs X W (vO X.K) [e] Fs) (hgl : Gl X "tuple" := by rfl) (he : starEach [e] X.env = (false, eval e X.env) :: starEach [] X.env := by rfl) (hpl : (backTo pos (starEach [] X.env)).any (·.1) = false := by rfl) :
    TD X W (.Call (.Name "tuple" p) [e] [] pos) (eN tupleV Fs) := t_callTy back_D call_tuple_of (fun H A vs ds d Q hA h e k => by
  unfold tupleV at e
  split at e
  · have e := Option.some.inj e
    subst e
    obtain ⟨v, rfl, q⟩ := all1 h
    obtain ⟨l, ws, rfl, h1, q1⟩ := rO_list q
    exact ⟨l, ws, rfl, .inl ⟨h1, fun t ht => k _ _ (same_new ht) (dp_new_tup hA ht q1)⟩⟩
  · have e := Option.some.inj e
    subst e
    obtain ⟨v, rfl, q⟩ := all1 h
    obtain ⟨l, ws, rfl, h1, h2, q1⟩ := rO_tup q
    exact ⟨l, ws, rfl, .inr ⟨h1, k _ H (Same.refl _) (.tup h2 q1)⟩⟩
  · cases e) hgl hm (by decide +kernel) ha (he := he) (hpl := hpl)
def listV : List D → Option D
  | [.list xs] => some (.list xs)
  | [.tuple xs] => some (.list xs)
  | _ => none
theorem t_listc (hm : X.mg "list" = none) (ha : TAs X W (vO X.K) [e] Fs) (hgl : Gl X "list" := by rfl) (he : starEach [e] X.env = (false, eval e X.env) :: starEach [] X.env := by rfl) (hpl : (backTo pos (starEach [] X.env)).any (·.1) = false := by rfl) :
    TF X W (.Call (.Name "list" p) [e] [] pos) (eN listV Fs) := t_callTy back_F call_list_of (fun H A vs ds d Q hA h e k => by
  unfold listV at e
  split at e
  · have e := Option.some.inj e
    subst e
    obtain ⟨v, rfl, q⟩ := all1 h
    obtain ⟨l, ws, rfl, h1, q1⟩ := rO_list q
    exact ⟨l, ws, rfl, .inl h1, fun t ht => k _ _ (same_new ht) (dp_new_list hA ht q1)⟩
  · have e := Option.some.inj e
    subst e
    obtain ⟨v, rfl, q⟩ := all1 h
    obtain ⟨l, ws, rfl, h1, h2, q1⟩ := rO_tup q
    exact ⟨l, ws, rfl, .inr h1, fun t ht => k _ _ (same_new ht) (dp_new_list hA ht q1)⟩
  · cases e) hgl hm (by decide +kernel) ha (he := he) (hpl := hpl)
/-! ints and bools in a list -/
def ints? : List D → Option (List Int)
  | [] => some []
  | .int i :: r => (ints? r).map (i :: ·)
  | _ => none
def bools? : List D → Option (List Bool)
  | [] => some []
  | .bool i :: r => (bools? r).map (i :: ·)
  | _ => none
theorem ints_of {K : PySem.W.Frag} {H : Hp} : ∀ {ds : List D} {vs : List V} {ns : List Int}, DpAll K H vs ds → ints? ds = some ns → vs = ns.map V.int ∧ ds = ns.map PyData.int
  | [], _, ns, h, e => by
    cases h
    cases e
    exact ⟨rfl, rfl⟩
  | d :: r, _, ns, h, e => by
    cases h with
    | cons h1 h2 =>
      cases d with
      | int i =>
        have e : (ints? r).map (i :: ·) = some ns := e
        cases e2 : ints? r with
        | none => rw [e2] at e; cases e
        | some ms =>
          rw [e2] at e
          cases e
          obtain ⟨q1, q2⟩ := ints_of h2 e2
          cases h1
          exact ⟨by rw [q1]; rfl, by rw [q2]; rfl⟩
      | _ => cases e
theorem bools_of {K : PySem.W.Frag} {H : Hp} : ∀ {ds : List D} {vs : List V} {ns : List Bool}, DpAll K H vs ds → bools? ds = some ns → vs = ns.map V.bl
  | [], _, ns, h, e => by
    cases h
    cases e
    rfl
  | d :: r, _, ns, h, e => by
    cases h with
    | cons h1 h2 =>
      cases d with
      | bool i =>
        have e : (bools? r).map (i :: ·) = some ns := e
        cases e2 : bools? r with
        | none => rw [e2] at e; cases e
        | some ms =>
          rw [e2] at e
          cases e
          have q1 := bools_of h2 e2
          cases h1
          rw [q1]
          rfl
      | _ => cases e
/-! all, any -/
def allV : List D → Option D
  | [.list xs] => (bools? xs).map fun bs => .bool (bs.all id)
  | _ => none
theorem t_all (hc : X.calm = true) (hm : X.mg "all" = none) (ha : TAs X W (vO X.K) [e] Fs) (hgl : Gl X "all" := by rfl) (he : starEach [e] X.env = (false, eval e X.env) :: starEach [] X.env := by rfl) (hpl : (backTo pos (starEach [] X.env)).any (·.1) = false := by rfl) :
    TD X W (.Call (.Name "all" p) [e] [] pos) (eN allV Fs) := t_callB back_D (cr_all hc) (fun H A vs ds d Q hA h e k => by
  unfold allV at e
  split at e
  · rename_i xs
    cases e2 : bools? xs with
    | none => rw [e2] at e; cases e
    | some bs =>
      rw [e2] at e
      cases e
      obtain ⟨v, rfl, q⟩ := all1 h
      obtain ⟨l, ws, rfl, h1, q1⟩ := rO_list q
      rw [bools_of q1 e2] at h1
      exact ⟨l, bs, rfl, h1, k _ H (Same.refl _) (.bl _)⟩
  · cases e) hgl hm (by decide +kernel) ha (he := he) (hpl := hpl)
/-! sorted of ints -/
def ins1 (x : Int) : List Int → List Int
  | [] => [x]
  | y :: r => if x ≤ y then x :: y :: r else y :: ins1 x r
def isort : List Int → List Int
  | [] => []
  | x :: r => ins1 x (isort r)
theorem ins1_perm (x : Int) : ∀ l, (ins1 x l).Perm (x :: l)
  | [] => .refl _
  | y :: r => by
    unfold ins1
    split
    · exact .refl _
    · exact (List.Perm.cons y (ins1_perm x r)).trans (List.Perm.swap x y r)
theorem isort_perm : ∀ l, (isort l).Perm l
  | [] => .refl _
  | x :: r => (ins1_perm x (isort r)).trans (List.Perm.cons x (isort_perm r))
theorem ins1_sorted (x : Int) : ∀ l : List Int, l.Pairwise (· ≤ ·) → (ins1 x l).Pairwise (· ≤ ·)
  | [], _ => by unfold ins1; exact List.pairwise_singleton _ _
  | y :: r, h => by
    rw [List.pairwise_cons] at h
    unfold ins1
    split
    · rename_i hxy
      refine List.pairwise_cons.mpr ⟨fun z m => ?_, List.pairwise_cons.mpr h⟩
      rcases List.mem_cons.mp m with rfl | m
      · exact hxy
      · exact Int.le_trans hxy (h.1 z m)
    · rename_i hxy
      refine List.pairwise_cons.mpr ⟨fun z m => ?_, ins1_sorted x r h.2⟩
      rcases List.mem_cons.mp ((ins1_perm x r).mem_iff.mp m) with rfl | m
      · omega
      · exact h.1 z m
theorem isort_sorted : ∀ l, (isort l).Pairwise (· ≤ ·)
  | [] => List.Pairwise.nil
  | x :: r => ins1_sorted x _ (isort_sorted r)
/-! max, min, sum, abs -/
def maxI : List Int → Int
  | [] => 0
  | [x] => x
  | x :: r => if maxI r < x then x else maxI r
def minI : List Int → Int
  | [] => 0
  | [x] => x
  | x :: r => if x < minI r then x else minI r
theorem maxI_is : ∀ (l : List Int) (m : Int), m ∈ l → (∀ y ∈ l, y ≤ m) → m = maxI l
  | [], m, h, _ => by simp at h
  | [x], m, h, _ => by simpa [maxI] using h
  | x :: y :: r, m, h, hm => by
    have mx : maxI (y :: r) ∈ y :: r ∧ ∀ z ∈ y :: r, z ≤ maxI (y :: r) := by
      have key : ∀ l : List Int, l ≠ [] → maxI l ∈ l ∧ ∀ z ∈ l, z ≤ maxI l := by
        intro l
        induction l with
        | nil => exact fun q => absurd rfl q
        | cons a t ih =>
          intro _
          cases t with
          | nil => simp [maxI]
          | cons b t =>
            obtain ⟨i1, i2⟩ := ih (by simp)
            show (if maxI (b :: t) < a then a else maxI (b :: t)) ∈ _ ∧ ∀ z ∈ _, z ≤ (if maxI (b :: t) < a then a else maxI (b :: t))
            split
            · refine ⟨List.mem_cons_self, fun z hz => ?_⟩
              rcases List.mem_cons.mp hz with rfl | hz
              · exact Int.le_refl _
              · have := i2 z hz; omega
            · refine ⟨List.mem_cons_of_mem _ i1, fun z hz => ?_⟩
              rcases List.mem_cons.mp hz with rfl | hz
              · omega
              · exact i2 z hz
      exact key _ (by simp)
    show m = if maxI (y :: r) < x then x else maxI (y :: r)
    have q1 := hm x List.mem_cons_self
    have q2 := hm _ (List.mem_cons_of_mem _ mx.1)
    split
    · rcases List.mem_cons.mp h with rfl | h
      · rfl
      · have := mx.2 m h; omega
    · rcases List.mem_cons.mp h with rfl | h
      · omega
      · have := mx.2 m h; omega
theorem minI_is : ∀ (l : List Int) (m : Int), m ∈ l → (∀ y ∈ l, m ≤ y) → m = minI l
  | [], m, h, _ => by simp at h
  | [x], m, h, _ => by simpa [minI] using h
  | x :: y :: r, m, h, hm => by
    have mx : minI (y :: r) ∈ y :: r ∧ ∀ z ∈ y :: r, minI (y :: r) ≤ z := by
      have key : ∀ l : List Int, l ≠ [] → minI l ∈ l ∧ ∀ z ∈ l, minI l ≤ z := by
        intro l
        induction l with
        | nil => exact fun q => absurd rfl q
        | cons a t ih =>
          intro _
          cases t with
          | nil => simp [minI]
          | cons b t =>
            obtain ⟨i1, i2⟩ := ih (by simp)
            show (if a < minI (b :: t) then a else minI (b :: t)) ∈ _ ∧ ∀ z ∈ _, (if a < minI (b :: t) then a else minI (b :: t)) ≤ z
            split
            · refine ⟨List.mem_cons_self, fun z hz => ?_⟩
              rcases List.mem_cons.mp hz with rfl | hz
              · exact Int.le_refl _
              · have := i2 z hz; omega
            · refine ⟨List.mem_cons_of_mem _ i1, fun z hz => ?_⟩
              rcases List.mem_cons.mp hz with rfl | hz
              · omega
              · exact i2 z hz
      exact key _ (by simp)
    show m = if x < minI (y :: r) then x else minI (y :: r)
    have q1 := hm x List.mem_cons_self
    have q2 := hm _ (List.mem_cons_of_mem _ mx.1)
    split
    · rcases List.mem_cons.mp h with rfl | h
      · rfl
      · have := mx.2 m h; omega
    · rcases List.mem_cons.mp h with rfl | h
      · omega
      · have := mx.2 m h; omega
def maxV : List D → Option D
  | [.int i, .int j] => some (.int (if j > i then j else i))
  | [.list xs] => (ints? xs).bind fun ns => if 0 < ns.length then some (.int (maxI ns)) else none
  | _ => none
def minV : List D → Option D
  | [.int i, .int j] => some (.int (if j < i then j else i))
  | [.list xs] => (ints? xs).bind fun ns => if 0 < ns.length then some (.int (minI ns)) else none
  | _ => none
def rMaxA (K : PySem.W.Frag) : List V → Hp → VK → Prop := fun xs H Q => (∃ i j, xs = [.int i, .int j] ∧ Q (.int (if j > i then j else i)) H) ∨ rMax K xs H Q
def rMinA (K : PySem.W.Frag) : List V → Hp → VK → Prop := fun xs H Q => (∃ i j, xs = [.int i, .int j] ∧ Q (.int (if j < i then j else i)) H) ∨ rMin K xs H Q
theorem t_max {es : List Expr} (hc : X.calm = true) (hm : X.mg "max" = none) (ha : TAs X W (vO X.K) (e :: es) Fs) (hgl : Gl X "max" := by rfl) (he : starEach (e :: es) X.env = (false, eval e X.env) :: starEach es X.env := by rfl) (hpl : (backTo pos (starEach es X.env)).any (·.1) = false := by rfl) :
    TD X W (.Call (.Name "max" p) (e :: es) [] pos) (eN maxV Fs) := t_callB (r := rMaxA X.K) back_D (fun pins s σ H xs us Q I r h => h.elim (call_max2 hc pins s σ H xs us Q I r) (cr_max hc pins s σ H xs us Q I r)) (fun H A vs ds d Q hA h e k => by
  unfold maxV at e
  split at e
  · have e := Option.some.inj e
    subst e
    obtain ⟨v, w, rfl, q1, q2⟩ := all2 h
    exact .inl ⟨_, _, by rw [rO_int q1, rO_int q2], k _ H (Same.refl _) (.int _)⟩
  · rename_i xs
    cases e2 : ints? xs with
    | none => rw [e2] at e; cases e
    | some ns =>
      rw [e2] at e
      have e : (if 0 < ns.length then some (PyData.int (maxI ns)) else none) = some d := e
      split at e
      · rename_i hl
        cases e
        obtain ⟨v, rfl, q⟩ := all1 h
        obtain ⟨l, ws, rfl, h1, q1⟩ := rO_list q
        rw [(ints_of q1 e2).1] at h1
        refine .inr ⟨l, ns, rfl, h1, hl, fun m h3 h4 => ?_⟩
        rw [maxI_is ns m h3 h4]
        exact k _ H (Same.refl _) (.int _)
      · cases e
  · cases e) hgl hm (by decide +kernel) ha (he := he) (hpl := hpl)
theorem t_min {es : List Expr} (hc : X.calm = true) (hm : X.mg "min" = none) (ha : TAs X W (vO X.K) (e :: es) Fs) (hgl : Gl X "min" := by rfl) (he : starEach (e :: es) X.env = (false, eval e X.env) :: starEach es X.env := by rfl) (hpl : (backTo pos (starEach es X.env)).any (·.1) = false := by rfl) :
    TD X W (.Call (.Name "min" p) (e :: es) [] pos) (eN minV Fs) := t_callB (r := rMinA X.K) back_D (fun pins s σ H xs us Q I r h => h.elim (call_min2 hc pins s σ H xs us Q I r) (cr_min hc pins s σ H xs us Q I r)) (fun H A vs ds d Q hA h e k => by
  unfold minV at e
  split at e
  · have e := Option.some.inj e
    subst e
    obtain ⟨v, w, rfl, q1, q2⟩ := all2 h
    exact .inl ⟨_, _, by rw [rO_int q1, rO_int q2], k _ H (Same.refl _) (.int _)⟩
  · rename_i xs
    cases e2 : ints? xs with
    | none => rw [e2] at e; cases e
    | some ns =>
      rw [e2] at e
      have e : (if 0 < ns.length then some (PyData.int (minI ns)) else none) = some d := e
      split at e
      · rename_i hl
        cases e
        obtain ⟨v, rfl, q⟩ := all1 h
        obtain ⟨l, ws, rfl, h1, q1⟩ := rO_list q
        rw [(ints_of q1 e2).1] at h1
        refine .inr ⟨l, ns, rfl, h1, hl, fun m h3 h4 => ?_⟩
        rw [minI_is ns m h3 h4]
        exact k _ H (Same.refl _) (.int _)
      · cases e
  · cases e) hgl hm (by decide +kernel) ha (he := he) (hpl := hpl)
def absV' : List D → Option D
  | [.int i] => some (.int (if i < 0 then -i else i))
  | _ => none
/-! isinstance of data by a built-in class -/
def tyN : D → String
  | .none => "NoneType"
  | .bool _ => "bool"
  | .int _ => "int"
  | .str _ => "str"
  | .list _ => "list"
  | .tuple _ => "tuple"
  | .dict _ => "dict"
theorem tyX_of {K : PySem.W.Frag} {H : Hp} {v : V} {d : D} (h : Dp K H v d) : TyX K H v (.type (tyN d)) := by
  cases h with
  | non => exact .base .non
  | bl b => exact .base (.bl b)
  | int i => exact .base (.int i)
  | str x => exact .base (.str x)
  | lst h1 _ =>
    rcases h1 with (h1 | ⟨o, h1⟩) | ⟨o, its, n, h1, h2, _⟩
    · exact .base (.lst h1)
    · exact .base (.frz h1)
    · exact .kList h1 h2
  | tup h1 _ =>
    rcases h1 with (h1 | ⟨o, h1⟩) | ⟨o, its, n, h1, h2, _⟩
    · exact .base (.tup h1)
    · exact .fTuple h1
    · exact .kTuple h1 h2
def isiV (T : String) (d : D) : Option D := (kitB (tyN d) T).map .bool
theorem t_isi {T : String} {x : Str} {p2 : Pos} (hm : X.mg "isinstance" = none) (hmT : X.mg x = none) (hv : bootBuiltins x = some (.type T)) (ha : TO X W a Fa) (hgl : Gl X "isinstance" := by rfl) (hgT : Gl X x := by rfl) (hnT : x ≠ "__name__" := by decide) (hdT : (x == ("__debug__" : Str)) = false := by decide)
    (he : starEach [a, .Name x p2] X.env = (false, eval a X.env) :: starEach [.Name x p2] X.env := by rfl) (hpl : (backTo pos (starEach [.Name x p2] X.env)).any (·.1) = false := by rfl) : TD X W (.Call (.Name "isinstance" p) [a, .Name x p2] [] pos) (e1 (isiV T) Fa) :=
  peW (pe_callB call_isi hgl hm (by decide +kernel) (pa_cons ha (pa_cons (pe_bltn (v := .ty T) hgT hmT hv rfl hnT hdT) pa_nil) he) (he := he) (hpl := hpl)) fun σ H Q h => by
    have h2 := op1_t (r := fun x H Q => ∃ t b, TyX X.K H x t ∧ PySem.W.kitOne X.K t (.type T) = some b ∧ Q (.bl b) H) (g := isiV T) back_D (fun H A x a d Q hA q e k => by
      unfold isiV at e
      cases e2 : kitB (tyN a) T with
      | none => rw [e2] at e; cases e
      | some b =>
        rw [e2] at e
        cases e
        exact ⟨_, b, tyX_of (rO_dp q), kit_ty e2, k _ H (Same.refl _) (.bl _)⟩) h
    obtain ⟨η, A, E, q⟩ := h2
    refine (show tR X.K X.mg W (rO X.K) Fa σ H _ from ⟨η, A, E, ?_⟩)
    cases ef : Fa η with
    | ex c w z => rw [ef] at q; exact q
    | no => rw [ef] at q; exact q
    | ok d =>
      rw [ef] at q
      intro v H1 s1 qv
      obtain ⟨t, b, h1, h2, h3⟩ := q v H1 s1 qv
      exact ⟨v, .ty T, t, .type T, b, rfl, .ty T, h1, h2, h3⟩
end
end Bd
/-! D8: more that is walked; the law's own end. -/
namespace Bd
open PySem L2

section
variable {X : Cx} {W : WX} {rl : Rl} {a b c e tg iter : Expr} {Fa Fb F : Nv → R D} {Fs : Nv → R (List D)} {pos p : Pos} {es : List Expr}
def asSeq : D → R (List D)
  | .list xs => .ok xs
  | .tuple xs => .ok xs
  | _ => .no
def iA (F : Nv → R D) : Nv → R (List D) := fun η => (F η).bind asSeq
/-- a list or a tuple -/
theorem i_any (h : TD X W iter F) : TI' X W tg iter (iA F) := ⟨fun pins s σ H R I q => by
  obtain ⟨η, A, E, p0⟩ := q
  have p : PostI X.K X.mg W σ A H ((F η).bind asSeq) R := p0
  cases e1 : F η with
  | ex c w q =>
    rw [e1] at p
    exact (i_list (tg := tg) h).run pins s σ H R I ⟨η, A, E, by unfold iL; rw [e1]; exact p⟩
  | no => rw [e1] at p; exact False.elim p
  | ok d =>
    rw [e1] at p
    cases d with
    | list xs => exact (i_list (tg := tg) h).run pins s σ H R I ⟨η, A, E, by unfold iL; rw [e1]; exact p⟩
    | tuple xs => exact (i_tup (tg := tg) h).run pins s σ H R I ⟨η, A, E, by unfold iT; rw [e1]; exact p⟩
    | _ => exact False.elim p⟩
/-! zip of two lists, of two tuples -/
def zipD : List D → List D → List D
  | x :: xs, y :: ys => .tuple [x, y] :: zipD xs ys
  | _, _ => []
def zip2 : List D → R (List D)
  | [.list xs, .list ys] => .ok (zipD xs ys)
  | [.tuple xs, .tuple ys] => .ok (zipD xs ys)
  | _ => .no
def iZ (Fs : Nv → R (List D)) : Nv → R (List D) := fun η => (Fs η).bind zip2
/-! enumerate of a list -/
def enumD (k : Nat) : List D → List D
  | [] => []
  | x :: xs => .tuple [.int (k : Nat), x] :: enumD (k + 1) xs
theorem enumD_get : ∀ (k : Nat) (xs : List D) (i : Nat) (z : D), (enumD k xs)[i]? = some z → ∃ x, xs[i]? = some x ∧ z = .tuple [.int ((k + i : Nat) : Int), x]
  | _, [], _, _, h => by simp [enumD] at h
  | k, x :: xs, 0, z, h => by
    simp [enumD] at h
    exact ⟨x, rfl, h.symm⟩
  | k, x :: xs, i + 1, z, h => by
    obtain ⟨y, h1, h2⟩ := enumD_get (k + 1) xs i z (by simpa [enumD] using h)
    exact ⟨y, by simpa using h1, by rw [h2, show k + 1 + i = k + (i + 1) by omega]⟩
theorem enumD_len : ∀ (k : Nat) (xs : List D), (enumD k xs).length = xs.length
  | _, [] => rfl
  | k, x :: xs => by
    show (enumD (k + 1) xs).length + 1 = _
    rw [enumD_len (k + 1) xs]
    rfl
def enum1 : List D → R (List D)
  | [.list xs] => .ok (enumD 0 xs)
  | _ => .no
def iEn (Fs : Nv → R (List D)) : Nv → R (List D) := fun η => (Fs η).bind enum1
theorem i_enum {elts : List Expr} {kk : Nat} {tpos : Pos} (hm : X.mg "enumerate" = none) (ha : TAs X W (vD X.K) [e] Fs) (hg : Gl X "enumerate" := by rfl) (hs : starEach [e] X.env = [(false, eval e X.env)] := by rfl) :
    TI' X W (.Tuple elts kk tpos) (.Call (.Name "enumerate" p) [e] [] pos) (iEn Fs) := piW (pi_enum hg hm ha hs) fun σ H Q ⟨η, A, E, p0⟩ => by
  have p : PostI X.K X.mg W σ A H ((Fs η).bind enum1) Q := p0
  refine (show tA X.K X.mg W (vD X.K) Fs σ H _ from ⟨η, A, E, ?_⟩)
  cases e1 : Fs η with
  | ex c w q => rw [e1] at p; exact p
  | no => rw [e1] at p; exact p
  | ok ds =>
    rw [e1] at p
    have p : PostI X.K X.mg W σ A H (enum1 ds) Q := p
    intro vs H1 s1 q1
    unfold enum1 at p
    split at p
    · rename_i xs
      obtain ⟨v, rfl, h1⟩ := all1 q1
      cases h1 with
      | @lst l us _ l1 r1 =>
        refine ⟨l, us, rfl, (hid_le A H1).seq l1, p _ H1 s1 ⟨fun i x e A' H2 sh hA' => ?_, fun A' H2 sh => ?_⟩⟩
        · obtain ⟨y, e1, rfl⟩ := enumD_get 0 _ i x e
          obtain ⟨u, f1, k1⟩ := DpAll_get r1 e1
          have m1 : SqL X.K H2 l us := (hid_le A' H2).seq (sh.seq l1)
          refine ⟨⟨us, u, m1, f1⟩, fun v H3 yd => ?_⟩
          obtain ⟨T, u', rfl, nT, rfl, g1⟩ := yd
          have c1 := g1 _ m1
          rw [f1] at c1
          cases c1
          rw [Nat.zero_add]
          exact ⟨same_new nT, dp_new_tup hA' nT (.cons (.int _) (.cons (Dp_mono k1 sh) .nil))⟩
        · exact ⟨us, (hid_le A' H2).seq (sh.seq l1), by rw [DpAll_length r1, enumD_len]; exact Nat.le_refl _⟩
    · exact False.elim p
end

/-! ### the law's own end -/
theorem dp_script {K : PySem.W.Frag} {H : Hp} {a : Addr} {ns : List Int} (h : SqL K H a (ns.map V.int)) : DpAll K (hid [] H) [.ref a] [.list (ns.map PyData.int)] :=
  .cons (.lst (by
    have e : hid [] H = H := by
      funext b
      exact hid_out (List.not_mem_nil)
    rw [e]
    exact h) (DpAll_ints ns)) .nil
theorem law_end {P : Program} {w : World} {K : PySem.W.Frag} {mg mb : Str → Option Value} {k : Nat} {fa a : Addr} {fd : FuncData} {x : Str} {Fn : List D → R D} {s1 : Shared} {vs : List Value} {ns : List Int}
    (KX : K.In s1.heap) (hns : s1.heap.Ns mainGlobals mg) (hb : s1.heap.Ns builtinsNs mb) (hbb : ∀ x : Str, x ≠ "__name__" → mb x = bootBuiltins x) (hlim : s1.heap.NoLimit) (hg : s1.gens = #[])
    (ha : s1.heap.get? a = some { cls := .type "list", data := .seq vs.toArray }) (hi : PyProof.Rows.IntsAre vs ns) (hl : ns.length ≤ sizeLine) (hr : Room k callerA)
    (F : ∀ base : Heap, K.In base → base.Ns mainGlobals mg → FnG P w K mg base k fa fd [x] (spD K mg (rD K) 1 Fn)) (hbind : ∀ (s : Shared) (u : Value), BindsTo s fd ⟨[u], []⟩ [(x, u)]) (ht : Fn [.list (ns.map PyData.int)] = .ok (.bool true)) :
    codeAny (model P w) callerA (.call (.ref fa) ⟨[.ref a], []⟩) (fun r s' => r = .ok (.ret (.bool true)) ∧ OldK s1.heap s'.heap ∧ s'.os = s1.os ∧ PyProof.Rows.AllBare s'.gens) s1 := by
  have rel := vals_ints hi
  have lenV := hi.length
  -- the abstract heap: the script, locked, unless the module itself holds it
  have main : ∀ T : Hp, (∀ b, T b = none ∨ (b = a ∧ K.lookup a = none ∧ T b = some (.frz { cls := .type "list", data := .seq vs.toArray } (.lst (ns.map V.int))))) → SqL K T a (ns.map V.int) →
      codeAny (model P w) callerA (.call (.ref fa) ⟨[.ref a], []⟩) (fun r s' => r = .ok (.ret (.bool true)) ∧ OldK s1.heap s'.heap ∧ s'.os = s1.os ∧ PyProof.Rows.AllBare s'.gens) s1 := by
    intro T hT hS
    have free : ∀ {b : Addr} {o : Obj}, K.lookup b = some o → T b = none := fun {b o} e => by
      rcases hT b with z | ⟨rfl, z, _⟩
      · exact z
      · rw [z] at e; cases e
    have nsfree : ∀ {b : Addr} {m : Str → Option Value}, s1.heap.Ns b m → (hidT s1.heap T).Ns b m := fun {b m} ⟨o, es, ep, e, d, r⟩ => by
      refine ⟨o, es, ep, hidT_get e ?_, d, r⟩
      rcases hT b with z | ⟨rfl, _, z⟩
      · exact z
      · rw [ha] at e
        cases e
        exact nomatch (show Data.seq vs.toArray _ = Data.dict es ep from d)
    have kin : K.In (hidT s1.heap T) := fun b o e => hidT_get (KX b o e) (free e)
    have hM : Mod K mg (hidT s1.heap T) := ⟨kin, nsfree hns, ⟨mb, nsfree hb, hbb⟩, hlim.elim fun m z => ⟨m, nsfree z.1, z.2⟩⟩
    have hok : HOk P w T s1.heap := fun b o z => by
      rcases hT b with q | ⟨rfl, _, q⟩
      · rw [q] at z; cases z
      · rw [q] at z
        cases z
        exact ⟨ha, by rw [List.length_map]; exact hl, vs, _, rel, ha⟩
    have e0 : Env0 P w K mg (hidT s1.heap T) callerA [] s1 T := ⟨rfl, hM, fun b o e => of_hidT e, Nat.le_of_eq (hidT_size _ _), trivial, fun b z => absurd (show b ∈ ([] : List Addr) from z) List.not_mem_nil, hok, .of_eq hg⟩
    refine codeAny_mono ((F _ kin (nsfree hns)).run callerA [] s1 T ⟨[.ref a], []⟩ [.ref a] [.ref a] (fun v _ => v = .bl true) (fun _ _ _ => False) hr rfl e0 (hbind s1 (.ref a)) (.cons rfl .nil) ?_) fun r s2 out => ?_
    · exact ⟨_, [], rfl, fun p z => (List.not_mem_nil z).elim, dp_script hS, by
        rw [ht]
        exact fun v H' _ q => by
          cases (show Dp K (hid [] H') v (.bool true) from q)
          rfl⟩
    · match r, out with
      | .error e, out =>
        obtain ⟨_, _, _, _, _, _, _, _, _, _, _, _, z⟩ := out
        exact z.elim
      | .ok .next, out => exact out.elim
      | .ok .brk, out => exact out.elim
      | .ok .cont, out => exact out.elim
      | .ok (.ret u), out =>
        obtain ⟨v, T2, os, bare, un, hok2, rv, q⟩ := out
        have q : v = .bl true := q
        subst q
        cases (show u = Value.bool true from rv)
        refine ⟨rfl, OldK.of_keep fun b o e => ?_, os, bare⟩
        rcases hT b with z | ⟨rfl, _, z⟩
        · exact un.keep b o e z (fun m => absurd (show b ∈ ([] : List Addr) from m) List.not_mem_nil) List.not_mem_nil
        · have z2 := un.frzs b _ _ z
          obtain ⟨f2, _⟩ := hok2 b _ z2
          obtain ⟨f1, _⟩ := hok b _ z
          rw [e] at f1
          cases f1
          exact f2
  cases hk : K.lookup a with
  | some o =>
    have e := KX a o hk
    rw [ha] at e
    cases e
    exact main (fun _ => none) (fun _ => .inl rfl) (.inr ⟨_, vs.toArray, _, hk, rfl, rfl, rfl, by rw [List.size_toArray, lenV]; exact hl, by simpa using rel⟩)
  | none =>
    refine main (fun b => if b = a then some (.frz { cls := .type "list", data := .seq vs.toArray } (.lst (ns.map V.int))) else none) (fun b => ?_) (.inl (.inr ⟨_, if_pos rfl⟩))
    by_cases hba : b = a
    · exact .inr ⟨hba, hk, if_pos hba⟩
    · exact .inl (if_neg hba)
/-- what k_head leaves, from the law's promise by data -/
theorem walk_end {l : PySem.W.OpenLaw} {n k : Nat} {q : Program} {loose : List Str} {XP : (Str → Option Value) → Heap → Prop} {YP : World → Heap → Prop} {d : DefRec} {K : Params → PySem.W.Frag} {x : Str} {Fn : List D → R D}
    (hn : l.most = some n) (hn2 : n ≤ sizeLine) (hdf : d.params.defaults = []) (hr : Room k callerA) (hY : ∀ (w : World) (h : Heap), YP w h → (K w.params).In h)
    (F : ∀ (w : World) (mg : Str → Option Value) (fa : Addr) (h : Heap), (K w.params).In h → h.Ns mainGlobals mg → mg d.name = some (.ref fa) → ∃ fd : FuncData, (∀ (s : Shared) (u : Value), BindsTo s fd ⟨[u], []⟩ [(x, u)]) ∧
      ∀ base : Heap, (K w.params).In base → base.Ns mainGlobals mg → FnG l.prog w (K w.params) mg base k fa fd [x] (spD (K w.params) mg (rD (K w.params)) 1 Fn))
    (ht : ∀ ns : List Int, ns.length ≤ n → Fn [.list (ns.map PyData.int)] = .ok (.bool true)) : PySem.W.WalkO q loose XP YP l.row.toRowW d [] (fun f vs => PySem.call f vs) := by
  refine Att.attach_call hn hdf fun w s0 s1 mg mb fa o pm cd doc a vs ns G Y ho hd hcd hmg hobj hints hlen hg => ?_
  obtain ⟨fd, hb, hF⟩ := F w mg fa _ (hY w _ Y) G.T.g hmg
  exact law_end (hY w _ Y) G.T.g G.T.b G.T.builtins G.T.nolimit hg hobj hints (Nat.le_trans hlen hn2) hr hF hb (ht ns hlen)
end Bd
/-! D9: reversed ranges; slices with a step. -/
namespace Bd
open PySem L2

section
variable {X : Cx} {W : WX} {rl : Rl} {a b c e tg iter : Expr} {Fa Fb F : Nv → R D} {Fs : Nv → R (List D)} {pos p p2 : Pos} {es : List Expr}
/-! for k in reversed(range(n)) -/
def rrD (n : Nat) : List D := (List.range n).map fun i => PyData.int ((n : Int) - 1 - (i : Nat))
def rr1 : D → R (List D)
  | .int n => if -(2 ^ 62) ≤ n ∧ n < 2 ^ 62 then .ok (rrD n.toNat) else .no
  | _ => .no
def iRR (F : Nv → R D) : Nv → R (List D) := fun η => (F η).bind rr1
/-! [::-1] -/
section
variable {prog : Program} {w : World} {A : Around} {E : Value → Shared → Prop} {s : Shared}
end
/-- a list or a tuple, from its end -/
def revV : D → Option D
  | .list xs => some (.list xs.reverse)
  | .tuple xs => some (.tuple xs.reverse)
  | _ => none
end
end Bd
/-! D10: expressions that change lists that the def owns or is handed: an answer and the names behind it. -/
namespace Bd
open PySem L2

/-! ### what may change -/
/-- the contents of lists of the def's own may differ -/
def Kin (η η' : Nv) : Prop := (η'.length = η.length ∧ ∀ (i : Nat) (ks : Dks), η'[i]? = some (.dk ks) → η[i]? = some (.dk ks)) ∧ ∀ (i : Nat) (xs' : OL), η'[i]? = some (.own xs') → ∃ xs : OL, η[i]? = some (.own xs) ∧ xs.b = xs'.b
theorem Kin.refl (η : Nv) : Kin η η := ⟨⟨rfl, fun _ _ e => e⟩, fun _ xs e => ⟨xs, e, rfl⟩⟩
theorem Kin.trans {a b c : Nv} (h : Kin a b) (k : Kin b c) : Kin a c := ⟨⟨k.1.1.trans h.1.1, fun i ks e => h.1.2 i ks (k.1.2 i ks e)⟩, fun i xs e => by
  obtain ⟨ys, e1, q1⟩ := k.2 i xs e
  obtain ⟨zs, e2, q2⟩ := h.2 i ys e1
  exact ⟨zs, e2, q2.trans q1⟩⟩
/-- all but those lists stays -/
def Mv (σ : L2.St) (η : Nv) (H H' : Hp) : Prop := ∀ (a : Addr) (o : HO), H a = some o → (∀ (i : Nat) (xs : OL), η[i]? = some (.own xs) → σ[i]? ≠ some (some (.ref a))) → H' a = some o
theorem Mv.of {σ : L2.St} {η : Nv} {H H' : Hp} (s : Same H H') : Mv σ η H H' := fun a o e _ => s a o e
theorem Mv.trans {σ : L2.St} {η η1 : Nv} {H H1 H2 : Hp} (k : Kin η η1) (h : Mv σ η H H1) (h2 : Mv σ η1 H1 H2) : Mv σ η H H2 := fun a o e n => h2 a o (h a o e n) fun i xs e1 => by
  obtain ⟨ys, q, _⟩ := k.2 i xs e1
  exact n i ys q
section
variable {K : PySem.W.Frag} {H H' H1 H2 : Hp} {A : List Addr} {σ : L2.St} {η η' η1 : Nv}
theorem own_in (E : EnvD K H A σ η) {i : Nat} {xs : OL} {a : Addr} (e : η[i]? = some (.own xs)) (e2 : σ[i]? = some (some (.ref a))) : a ∈ A ∧ ∃ vs, H a = some (.lst vs) ∧ DpAll K (hid A H) vs xs.l := by
  obtain ⟨o, e3, q⟩ := E.at_ i _ e
  rw [e2] at e3
  cases e3
  exact q
theorem own_ref (E : EnvD K H A σ η) {i : Nat} {xs : OL} (e : η[i]? = some (.own xs)) : ∃ a, σ[i]? = some (some (.ref a)) ∧ a ∈ A ∧ ∃ vs, H a = some (.lst vs) ∧ DpAll K (hid A H) vs xs.l := by
  obtain ⟨o, e3, q⟩ := E.at_ i _ e
  match o, q, e3 with
  | some (.ref a), q, e3 => exact ⟨a, e3, q⟩
theorem Mv.hid (E : EnvD K H A σ η) (m : Mv σ η H H') : Same (hid A H) (hid A H') := fun b o e => by
  obtain ⟨n, e⟩ := hid_some e
  rw [hid_out n]
  exact m b o e fun i xs e1 e2 => n (own_in E e1 e2).1
theorem Mv.there (E : EnvD K H A σ η) (E' : EnvD K H' A σ η') (m : Mv σ η H H') {a : Addr} (h : H a ≠ none) : H' a ≠ none := by
  by_cases hA : a ∈ A
  · exact E'.tr a hA
  · cases e : H a with
    | none => exact absurd e h
    | some o =>
      rw [m a o e fun i xs e1 e2 => hA (own_in E e1 e2).1]
      exact fun z => nomatch z
end
/-- the heap ahead may be an earlier one, however lists were changed -/
def Back2 (rl : Rl) : Prop := ∀ H H1 H' A v d, (∀ a, H a ≠ none → H1 a ≠ none) → rl H1 H' A v d → rl H H' A v d
def PostX (K : PySem.W.Frag) (rl : Rl) (σ : L2.St) (A : List Addr) (H : Hp) (η : Nv) (r : R (D × Nv)) (Q : VK) : Prop :=
  match r with
  | .ok p => ∀ v H', EnvD K H' A σ p.2 → Kin η p.2 → Mv σ η H H' → rl H H' A v p.1 → Q v H'
  | _ => False
def PostXA (K : PySem.W.Frag) (σ : L2.St) (A : List Addr) (H : Hp) (η : Nv) (r : R (List D × Nv)) (Q : List V → Hp → Prop) : Prop :=
  match r with
  | .ok p => ∀ vs H', EnvD K H' A σ p.2 → Kin η p.2 → Mv σ η H H' → DpAll K (hid A H') vs p.1 → Q vs H'
  | _ => False
def PostXB (K : PySem.W.Frag) (σ : L2.St) (A : List Addr) (H : Hp) (η : Nv) (r : R (Bool × Nv)) (Q : Bool → Hp → Prop) : Prop :=
  match r with
  | .ok p => ∀ H', EnvD K H' A σ p.2 → Kin η p.2 → Mv σ η H H' → Q p.1 H'
  | _ => False
section
variable {K : PySem.W.Frag} {rl : Rl} {H H1 : Hp} {A : List Addr} {σ : L2.St} {η η1 : Nv} {Q : VK}
theorem PostX.step {r : R (D × Nv)} (b : Back2 rl) (E : EnvD K H A σ η) (E1 : EnvD K H1 A σ η1) (k : Kin η η1) (m : Mv σ η H H1) (h : PostX K rl σ A H η r Q) : PostX K rl σ A H1 η1 r Q := by
  cases r with
  | ok p => exact fun v H' E' k' m' q => h v H' E' (k.trans k') (Mv.trans k m m') (b _ _ _ _ _ _ (fun a z => Mv.there E E1 m z) q)
  | ex c w p => exact h
  | no => exact h
theorem PostXA.step {r : R (List D × Nv)} {Q : List V → Hp → Prop} (k : Kin η η1) (m : Mv σ η H H1) (h : PostXA K σ A H η r Q) : PostXA K σ A H1 η1 r Q := by
  cases r with
  | ok p => exact fun v H' E' k' m' q => h v H' E' (k.trans k') (Mv.trans k m m') q
  | ex c w p => exact h
  | no => exact h
theorem PostXB.step {r : R (Bool × Nv)} {Q : Bool → Hp → Prop} (k : Kin η η1) (m : Mv σ η H H1) (h : PostXB K σ A H η r Q) : PostXB K σ A H1 η1 r Q := by
  cases r with
  | ok p => exact fun H' E' k' m' => h H' E' (k.trans k') (Mv.trans k m m')
  | ex c w p => exact h
  | no => exact h
end
section
variable {X : Cx} {W : WX} {rl : Rl} {a b c e : Expr} {es rest : List Expr} {Fa Fb F : Nv → R (D × Nv)} {Fs : Nv → R (List D × Nv)} {Ga Gb G : Nv → R (Bool × Nv)} {pos : Pos} {f : D → D → Option D}
/-- what changes nothing -/
def up (F : Nv → R D) : Nv → R (D × Nv) := fun η => match F η with
  | .ok d => .ok (d, η)
  | _ => .no
/-! a new list -/
theorem EnvD.shrink {K : PySem.W.Frag} {H H' : Hp} {A : List Addr} {σ : L2.St} {η η' : Nv} {l : Addr} (E' : EnvD K H' (l :: A) σ η') (E : EnvD K H A σ η) (k : Kin η η') : EnvD K H' A σ η' where
  len := E'.len
  at_ := fun j sl e => by
    obtain ⟨o, e1, q⟩ := E'.at_ j sl e
    refine ⟨o, e1, ?_⟩
    cases sl with
    | no => cases o <;> trivial
    | d x =>
      cases o with
      | none => exact q
      | some v => exact Dp_mono (show Dp K (hid (l :: A) H') v x from q) (hid_mono fun _ m => List.mem_cons_of_mem _ m)
    | own zs =>
      match o, q, e1 with
      | some (.ref b), ⟨m, ws, e2, q⟩, e1 =>
        obtain ⟨ys, e3, _⟩ := k.2 j zs e
        exact ⟨(own_in E e3 e1).1, ws, e2, DpAll_mono q (hid_mono fun _ m => List.mem_cons_of_mem _ m)⟩
    | m x => exact q.m' (hid_mono fun _ m => List.mem_cons_of_mem _ m)
    | x c w p => exact q.x' (hid_mono fun _ m => List.mem_cons_of_mem _ m)
    | dk ks =>
      match o, q, e1 with
      | some (.ref b), ⟨m, q⟩, e1 =>
        obtain ⟨v0, e3, q3⟩ := E.at_ j _ (k.1.2 j ks e)
        rw [e1] at e3
        cases e3
        exact ⟨q3.1, q.keep (hid_mono fun _ m => List.mem_cons_of_mem _ m) fun _ _ e => e⟩
  ap := E'.ap
  tr := fun a m => E'.tr a (List.mem_cons_of_mem _ m)
/-! arguments -/
def x0 : Nv → R (List D × Nv) := fun η => .ok ([], η)
def xC (Fa : Nv → R (D × Nv)) (Fs : Nv → R (List D × Nv)) : Nv → R (List D × Nv) := fun η => (Fa η).bind fun p => (Fs p.2).bind fun q => .ok (p.1 :: q.1, q.2)
/-! built-ins, displays -/
def xN (f : List D → Option D) (Fs : Nv → R (List D × Nv)) : Nv → R (D × Nv) := fun η => (Fs η).bind fun p => (R.of (f p.1)).bind fun d => .ok (d, p.2)
/-! operators -/
def x2 (f : D → D → Option D) (Fa Fb : Nv → R (D × Nv)) : Nv → R (D × Nv) := fun η => (Fa η).bind fun p => (Fb p.2).bind fun q => (R.of (f p.1 q.1)).bind fun d => .ok (d, q.2)
end
end Bd
/-! D11: tests that change lists; calls; defs that are handed a list and change it. -/
namespace Bd
open PySem L2

section
variable {X : Cx} {W : WX} {rl : Rl} {a b c e : Expr} {es rest : List Expr} {Fa Fb F : Nv → R (D × Nv)} {Fs : Nv → R (List D × Nv)} {Ga Gb G : Nv → R (Bool × Nv)} {pos : Pos} {f : D → D → Option D}
def xb (F : Nv → R (D × Nv)) : Nv → R (Bool × Nv) := fun η => (F η).bind fun p => (tru p.1).bind fun k => .ok (k, p.2)
def upB (G : Nv → R Bool) : Nv → R (Bool × Nv) := fun η => match G η with
  | .ok k => .ok (k, η)
  | _ => .no
/-! and, or, not -/
def xAnd (Ga Gb : Nv → R (Bool × Nv)) : Nv → R (Bool × Nv) := fun η => (Ga η).bind fun p => if p.1 then Gb p.2 else .ok (false, p.2)
def xOr (Ga Gb : Nv → R (Bool × Nv)) : Nv → R (Bool × Nv) := fun η => (Ga η).bind fun p => if p.1 then .ok (true, p.2) else Gb p.2
def xNot (Ga : Nv → R (Bool × Nv)) : Nv → R (Bool × Nv) := fun η => (Ga η).bind fun p => .ok (!p.1, p.2)
/-! a if c else b -/
def xIf (G : Nv → R (Bool × Nv)) (Fa Fb : Nv → R (D × Nv)) : Nv → R (D × Nv) := fun η => (G η).bind fun p => if p.1 then Fa p.2 else Fb p.2
/-! ### calls of defs -/
def xCall (Fn : List D → R D) (Fs : Nv → R (List D × Nv)) : Nv → R (D × Nv) := fun η => (Fs η).bind fun p => (noex (Fn p.1)).bind fun d => .ok (d, p.2)
end
/-! ### a def that is handed a list and changes it -/
theorem EnvD.put {K : PySem.W.Frag} {H H' : Hp} {A : List Addr} {σ : L2.St} {η : Nv} {i : Nat} {xs : OL} {a : Addr} {ws : List V} {ys : List D} (E : EnvD K H A σ η) (hi : η[i]? = some (.own xs)) (ho : σ[i]? = some (some (.ref a))) (kp : ∀ b o, b ≠ a → H b = some o → H' b = some o) (tr : ∀ p ∈ A, H' p ≠ none)
    (ha : H' a = some (.lst ws)) (q : DpAll K (hid A H') ws ys) : EnvD K H' A σ (η.set i (.own ⟨xs.b, ys⟩)) := by
  have hA : a ∈ A := (own_in E hi ho).1
  have hl : i < η.length := (List.getElem?_eq_some_iff.mp hi).1
  have sh : Same (hid A H) (hid A H') := fun b o e => by
    obtain ⟨n, e⟩ := hid_some e
    rw [hid_out n]
    exact kp b o (fun z => n (by rw [z]; exact hA)) e
  have gt : ∀ (j : Nat) (sl : Sl), (η.set i (.own ⟨xs.b, ys⟩))[j]? = some sl → (j = i ∧ sl = .own ⟨xs.b, ys⟩) ∨ (j ≠ i ∧ η[j]? = some sl) := fun j sl h => by
    by_cases hj : i = j
    · subst hj
      rw [List.getElem?_set_self hl] at h
      cases h
      exact .inl ⟨rfl, rfl⟩
    · rw [List.getElem?_set_ne hj] at h
      exact .inr ⟨fun z => hj z.symm, h⟩
  refine ⟨by rw [List.length_set, E.len], fun j sl h => ?_, fun j k b us zs h1 h2 h3 h4 => ?_, tr⟩
  · rcases gt j sl h with ⟨rfl, rfl⟩ | ⟨n, h⟩
    · exact ⟨_, ho, hA, ws, ha, q⟩
    · obtain ⟨o, e1, q1⟩ := E.at_ j sl h
      refine ⟨o, e1, ?_⟩
      cases sl with
      | no => cases o <;> trivial
      | d x =>
        cases o with
        | none => exact q1
        | some v => exact Dp_mono (show Dp K (hid A H) v x from q1) sh
      | own zs =>
        match o, q1, e1 with
        | some (.ref b), ⟨m, us, e2, q1⟩, e1 =>
          have nb : b ≠ a := fun z => by
            subst z
            exact n (E.ap j i b zs xs h hi e1 ho)
          exact ⟨m, us, kp _ _ nb e2, DpAll_mono q1 sh⟩
      | m x => exact q1.m' sh
      | x c w p => exact q1.x' sh
      | dk ks =>
        match o, q1, e1 with
        | some (.ref b), ⟨m, q1⟩, e1 =>
          have hb : ∀ o, DoS o → H b = some o → H' b = some o := fun o so e => kp b _ (fun z => by
            subst z
            obtain ⟨_, vs0, e0, _⟩ := own_in E hi ho
            rw [e0] at e
            cases e
            exact notDo so) e
          exact ⟨m, q1.keep sh hb⟩
  · rcases gt j _ h1 with ⟨ej, _⟩ | ⟨n, g1⟩
    · rcases gt k _ h2 with ⟨ek, _⟩ | ⟨n2, g2⟩
      · rw [ej, ek]
      · rw [ej] at h3 ⊢
        exact E.ap i k b xs zs hi g2 h3 h4
    · rcases gt k _ h2 with ⟨ek, _⟩ | ⟨n2, g2⟩
      · rw [ek] at h4 ⊢
        exact E.ap j i b us xs g1 hi h3 h4
      · exact E.ap j k b us zs g1 g2 h3 h4
theorem Kin.put {η : Nv} {i : Nat} {xs : OL} {ys : List D} (hi : η[i]? = some (.own xs)) : Kin η (η.set i (.own ⟨xs.b, ys⟩)) := ⟨⟨List.length_set .., fun j ks e => (dk_set (s := .own ⟨xs.b, ys⟩) (fun _ z => nomatch z) e).2⟩, fun j zs e => by
  by_cases hj : i = j
  · subst hj
    rw [List.getElem?_set_self (List.getElem?_eq_some_iff.mp hi).1] at e
    cases e
    exact ⟨xs, hi, rfl⟩
  · rw [List.getElem?_set_ne hj] at e
    exact ⟨zs, e, rfl⟩⟩
section
variable {X : Cx} {rl : Rl} {e : Expr} {es : List Expr} {Fs : Nv → R (List D × Nv)} {pos : Pos}
def xPut (i : Nat) (Fk : List D → List D → R (D × List D)) (p : List D × Nv) : R (D × Nv) := match p.2[i]? with
  | some (.own xs) => (Fk xs.l p.1).bind fun r => .ok (r.1, p.2.set i (.own ⟨xs.b, r.2⟩))
  | _ => .no
/-- f(name, ..): the list at name is changed -/
def xCallK (i : Nat) (Fk : List D → List D → R (D × List D)) (Fs : Nv → R (List D × Nv)) : Nv → R (D × Nv) := fun η => match η[i]? with
  | some (.own _) => (Fs η).bind (xPut i Fk)
  | _ => .no
end
end Bd
/-! D12: statements with such expressions; the rule of a def that is handed a list. -/
namespace Bd
open PySem L2

section
variable {X : Cx} {f : Fx} {rl : Rl} {e c : Expr} {es : List Expr} {F : Nv → R (D × Nv)} {G : Nv → R (Bool × Nv)} {Gs Gt : Nv → Rs} {pos : Pos}
theorem EnvS.mv {K : PySem.W.Frag} {M : List Addr} {H0 : Hp} {A0 : List Addr} {H H' : Hp} {B : List Addr} {σ : L2.St} {η η' : Nv} (e : EnvS K M H0 A0 H B σ η) (E' : EnvD K H' (B ++ A0) σ η') (k : Kin η η') (m : Mv σ η H H') : EnvS K M H0 A0 H' B σ η' where
  env := E'
  same := fun b o z => by
    obtain ⟨n, z'⟩ := hid_some (e.same b o z)
    obtain ⟨_, z0⟩ := hid_some z
    rw [hid_out n]
    refine m b o z' fun i xs e1 e2 => ?_
    have q := e.own i b xs e1 e2
    split at q
    · rw [e.new b q] at z0
      cases z0
    · exact n q
  mA := e.mA
  new := e.new
  own := fun i a xs e1 e2 => by
    obtain ⟨ys, e3, q⟩ := k.2 i xs e1
    have z := e.own i a ys e3 e2
    rw [q] at z
    exact z
  dk := fun i a ks e1 e2 => ⟨(e.dk i a ks (k.1.2 i ks e1) e2).1, fun j ks' g1 g2 => (e.dk i a ks (k.1.2 i ks e1) e2).2 j ks' (k.1.2 j ks' g1) g2⟩
/-- an answer, never an exception -/
def only {α : Type} : R α → R α
  | .ok a => .ok a
  | _ => .no
def xSet (i : Nat) (F : Nv → R (D × Nv)) : Nv → Rs := fun η => (only (F η)).toS fun p => .nx (p.2.set i (.d p.1))
def xOwn (i : Nat) (F : Nv → R (D × Nv)) : Nv → Rs := fun η => (only (F η)).toS fun p => match p.1 with
  | .list xs => .nx (p.2.set i (.own ⟨true, xs⟩))
  | _ => .no
def xAsg (T : Tgt) (F : Nv → R (D × Nv)) : Nv → Rs := fun η => (only (F η)).toS fun p => match T p.1 p.2 with
  | some η' => .nx η'
  | none => .no
def xExpr (F : Nv → R (D × Nv)) : Nv → Rs := fun η => (only (F η)).toS fun p => .nx p.2
def xRet (F : Nv → R (D × Nv)) : Nv → Rs := fun η => (only (F η)).toS fun p => .rt p.1 p.2
/-- a test's answer, then the statement's -/
def xIfS (G : Nv → R (Bool × Nv)) (Gs Gt : Nv → Rs) : Nv → Rs := fun η => (only (G η)).toS fun p => if p.1 then Gs p.2 else Gt p.2
end
/-! ### the def's rule -/
def initK (m : Nat) (kx : List D) (ds : List D) : Nv := .own ⟨false, kx⟩ :: initD (m - 1) ds
def outK (d : D) (η : Nv) : R (D × List D) := match η[(0 : Nat)]? with
  | some (.own xs) => if xs.b then .no else .ok (d, xs.l)
  | _ => .no
def runK (m : Nat) (G : Nv → Rs) (kx : List D) (ds : List D) : R (D × List D) := match G (initK m kx ds) with
  | .rt d η => outK d η
  | _ => .no
section
variable {P : Program} {w : World} {K : PySem.W.Frag} {mg : Str → Option Value} {base : Heap}
end
end Bd
/-! D13: walks and comprehensions that change lists; name[k] = e. -/
namespace Bd
open PySem L2

def upI (F : Nv → R (List D)) : Nv → R (List D × Nv) := fun η => match F η with
  | .ok d => .ok (d, η)
  | _ => .no
section
variable {X : Cx} {W : WX} {a b e tg iter elt : Expr} {Fs : Nv → R (List D × Nv)} {pos : Pos}
def xR1 (Fs : Nv → R (List D × Nv)) : Nv → R (List D × Nv) := fun η => (Fs η).bind fun p => (rng1 p.1).bind fun d => .ok (d, p.2)
def xR2 (Fs : Nv → R (List D × Nv)) : Nv → R (List D × Nv) := fun η => (Fs η).bind fun p => (rng2 p.1).bind fun d => .ok (d, p.2)
end
/-! ### comprehensions -/
def compX (T : Tgt) (C : Nv → R (Bool × Nv)) (El : Nv → R (D × Nv)) (vs : List Nat) : List D → Nv → R (List D × Nv)
  | [], η => .ok ([], η)
  | x :: xs, η => match T x η with
    | none => .no
    | some η1 => (C η1).bindN fun b => if b.1 then (El b.2).bindN fun y => (compX T C El vs xs (wipeE y.2 vs)).bindN fun q => .ok (y.1 :: q.1, q.2) else compX T C El vs xs (wipeE b.2 vs)
def xComp (Fi : Nv → R (List D × Nv)) (T : Tgt) (C : Nv → R (Bool × Nv)) (El : Nv → R (D × Nv)) (vs : List Nat) : Nv → R (D × Nv) := fun η => (Fi η).bindN fun p => (compX T C El vs p.1 (wipeE p.2 vs)).bindN fun q => if q.1.length ≤ lineN then .ok (.list q.1, q.2) else .no
/-- the lists of one's own here are those of there -/
structure Sub (vs : List Nat) (σ : L2.St) (ηf : Nv) (σ' : L2.St) (η' : Nv) : Prop where
  f : ∀ (j : Nat) (xs' : OL), η'[j]? = some (.own xs') → ∃ xs : OL, ηf[j]? = some (.own xs) ∧ xs.b = xs'.b ∧ σ'[j]? = σ[j]? ∧ j ∉ vs
  d : ∀ (j : Nat) (ks : Dks), η'[j]? = some (.dk ks) → ηf[j]? = some (.dk ks) ∧ σ'[j]? = σ[j]? ∧ j ∉ vs
instance {vs : List Nat} {σ : L2.St} {ηf : Nv} {σ' : L2.St} {η' : Nv} : CoeFun (Sub vs σ ηf σ' η') (fun _ => ∀ (j : Nat) (xs' : OL), η'[j]? = some (.own xs') → ∃ xs : OL, ηf[j]? = some (.own xs) ∧ xs.b = xs'.b ∧ σ'[j]? = σ[j]? ∧ j ∉ vs) := ⟨Sub.f⟩
section
variable {K : PySem.W.Frag} {H H' H1 H2 : Hp} {A : List Addr} {σ σ' : L2.St} {η η' ηf ηp : Nv} {vs : List Nat} {M : Addr}
theorem Sub.kin (s : Sub vs σ ηf σ' η') (k : Kin η' η) : Sub vs σ ηf σ' η := ⟨fun j xs e => by
  obtain ⟨ys, e1, b1⟩ := k.2 j xs e
  obtain ⟨zs, e2, b2, r⟩ := s j ys e1
  exact ⟨zs, e2, b2.trans b1, r⟩, fun j ks e => s.d j ks (k.1.2 j ks e)⟩
theorem Sub.start : Sub vs σ ηf (L2.wipe σ vs) (wipeE ηf vs) := ⟨fun j xs e => by
  rw [wipeE_get] at e
  split at e
  · cases q : ηf[j]? <;> (rw [q] at e; cases e)
  · rename_i hj
    exact ⟨xs, e, rfl, by rw [wipe_get, if_neg hj], hj⟩, fun j ks e => by
  rw [wipeE_get] at e
  split at e
  · cases q : ηf[j]? <;> (rw [q] at e; cases e)
  · rename_i hj
    exact ⟨e, by rw [wipe_get, if_neg hj], hj⟩⟩
theorem Sub.mv (s : Sub vs σ ηf σ' η') (m : Mv σ' η' H H') : Mv σ ηf H H' := fun a o e n => m a o e fun i xs e1 e2 => by
  obtain ⟨ys, e3, _, e4, _⟩ := s i xs e1
  exact n i ys e3 (e4.symm.trans e2)
theorem EnvD.back {A2 : List Addr} (E2 : EnvD K H2 A2 (L2.wipe σ vs) (wipeE ηp vs)) (s : Sub vs σ ηf (L2.wipe σ vs) (wipeE ηp vs)) : EnvD K H2 A2 σ (wipeE ηp vs) where
  len := by rw [← E2.len, wipe_length]
  at_ := fun j sl e => by
    obtain ⟨o, e1, q⟩ := E2.at_ j sl e
    rw [wipe_get] at e1
    by_cases hj : j ∈ vs
    · rw [if_pos hj] at e1
      rw [wipeE_get, if_pos hj] at e
      cases qe : ηp[j]? with
      | none => rw [qe] at e; cases e
      | some s0 =>
        rw [qe] at e
        cases e
        cases qs : σ[j]? with
        | none => rw [qs] at e1; cases e1
        | some o1 => exact ⟨o1, rfl, by cases o1 <;> trivial⟩
    · rw [if_neg hj] at e1
      exact ⟨o, e1, q⟩
  ap := fun i j a xs ys h1 h2 h3 h4 => by
    obtain ⟨_, _, _, e1, _⟩ := s i xs h1
    obtain ⟨_, _, _, e2, _⟩ := s j ys h2
    exact E2.ap i j a xs ys h1 h2 (e1.trans h3) (e2.trans h4)
  tr := E2.tr
end
section
variable {X : Cx} {e tg iter elt : Expr} {pos : Pos}
variable {ifs : List Expr} {scope : Scope} {own : List (Str × Nat)} {Fi : Nv → R (List D × Nv)} {T : Tgt} {js : List Nat} {C : Nv → R (Bool × Nv)} {El : Nv → R (D × Nv)}
end
end Bd
/-! D14: more statements that change lists. -/
namespace Bd
open PySem L2

section
variable {K : PySem.W.Frag} {M : List Addr} {H0 : Hp} {A0 : List Addr} {H H1 : Hp} {B : List Addr} {σ : L2.St} {η η1 : Nv} {i : Nat} {l : Addr} {vs : List V} {xs : List D}
theorem EnvS.more (e : EnvS K M H0 A0 H B σ η) (E1 : EnvD K H1 (l :: (B ++ A0)) σ η1) (k : Kin η η1) (m : Mv σ η H H1) (hl : H l = none) : EnvS K M H0 A0 H1 (l :: B) σ η1 := by
  have z := e.mv (E1.shrink e.env k) k m
  refine ⟨E1, z.same, z.mA, fun b mb => ?_, fun j a ys h1 h2 => ?_, fun j a ks h1 h2 => ⟨List.mem_cons_of_mem _ (z.dk j a ks h1 h2).1, (z.dk j a ks h1 h2).2⟩⟩
  · rcases List.mem_cons.mp mb with rfl | mb
    · exact e.free hl
    · exact e.new b mb
  · have q := z.own j a ys h1 h2
    cases hb : ys.b with
    | true =>
      rw [hb] at q
      exact List.mem_cons_of_mem _ q
    | false =>
      rw [hb] at q
      exact q
end
section
variable {X : Cx} {f : Fx} {rl : Rl} {e c tg iter elt : Expr} {es : List Expr} {F : Nv → R (D × Nv)} {G : Nv → R (Bool × Nv)} {Gs Gt : Nv → Rs} {pos : Pos}
variable {ifs : List Expr} {scope : Scope} {own : List (Str × Nat)} {Fi : Nv → R (List D × Nv)} {T : Tgt} {js : List Nat} {C : Nv → R (Bool × Nv)} {El : Nv → R (D × Nv)}
/-- name[k] = e -/
def putAt (i : Nat) (y : D) (η : Nv) (k : D) : Rs := match η[i]?, k with
  | some (.own xs), .int j => match ixN xs.l.length j with
    | some m => .nx (η.set i (.own ⟨xs.b, xs.l.set m y⟩))
    | none => .no
  | _, _ => .no
def xPutS (i : Nat) (F : Nv → R (D × Nv)) (Fi : Nv → R D) : Nv → Rs := fun η => (only (F η)).toS fun p => match p.2[i]? with
  | some (.own _) => (only (Fi p.2)).toS (putAt i p.1 p.2)
  | _ => .no
/-- for .. in a walk that changes lists ahead -/
def xFor (Fi : Nv → R (List D × Nv)) (T : Tgt) (Gb : Nv → Rs) : Nv → Rs := fun η => (only (Fi η)).toS fun p => loopG T Gb p.1 p.2
end
end Bd
/-! D15: built-ins and defs called with what changes lists; a list given up to data. -/
namespace Bd
open PySem L2

section
variable {X : Cx} {e : Expr} {es : List Expr} {Fs : Nv → R (List D × Nv)} {p pos : Pos}
/-! defs -/
end
/-! ### a list of one's own, from now on data -/
def frzS (i : Nat) : Nv → Rs := fun η => match η[i]? with
  | some (.own xs) => if xs.b then .nx (η.set i (.d (.list xs.l))) else .no
  | _ => .no
section
variable {X : Cx} {f : Fx} {sts : List Stmt} {Gt : Nv → Rs}
theorem EnvS.frz {K : PySem.W.Frag} {M : List Addr} {H0 : Hp} {A0 : List Addr} {H : Hp} {B : List Addr} {σ : L2.St} {η : Nv} {i : Nat} {xs : OL} {a : Addr} (e : EnvS K M H0 A0 H B σ η) (hi : η[i]? = some (.own xs)) (ho : σ[i]? = some (some (.ref a))) (hb : xs.b = true) :
    EnvS K M H0 A0 H (B.filter (· ≠ a)) σ (η.set i (.d (.list xs.l))) ∧ Same (hid (B ++ A0) H) (hid (B.filter (· ≠ a) ++ A0) H) := by
  have hB := e.own i a xs hi ho
  rw [if_pos hb] at hB
  have sub : ∀ b ∈ B.filter (· ≠ a) ++ A0, b ∈ B ++ A0 := fun b m => by
    rcases List.mem_append.mp m with m | m
    · exact List.mem_append_left _ (List.mem_filter.mp m).1
    · exact List.mem_append_right _ m
  have sh : Same (hid (B ++ A0) H) (hid (B.filter (· ≠ a) ++ A0) H) := hid_mono sub
  have nA : a ∉ B.filter (· ≠ a) ++ A0 := fun m => by
    rcases List.mem_append.mp m with m | m
    · have := (List.mem_filter.mp m).2
      simp at this
    · exact e.mA.2 a m (e.new a hB)
  have hl : i < η.length := (List.getElem?_eq_some_iff.mp hi).1
  have what : ∀ (j : Nat) (sl : Sl), (η.set i (.d (.list xs.l)))[j]? = some sl → (j = i ∧ sl = .d (.list xs.l)) ∨ (j ≠ i ∧ η[j]? = some sl) := fun j sl h => by
    by_cases hj : j = i
    · subst hj
      rw [List.getElem?_set_self hl] at h
      exact .inl ⟨rfl, (Option.some.inj h).symm⟩
    · rw [List.getElem?_set_ne fun z => hj z.symm] at h
      exact .inr ⟨hj, h⟩
  obtain ⟨_, vs, ev, qv⟩ := own_in e.env hi ho
  have keep : ∀ (j : Nat) (b : Addr) (ys : OL), j ≠ i → η[j]? = some (.own ys) → σ[j]? = some (some (.ref b)) → b ≠ a := fun j b ys n h1 h2 z => n (e.env.ap j i a ys xs h1 hi (by rw [← z]; exact h2) ho)
  refine ⟨⟨⟨by rw [List.length_set, e.env.len], fun j sl h => ?_, fun j k b ys zs h1 h2 h3 h4 => ?_, fun b m => e.env.tr b (sub b m)⟩, e.same, e.mA, fun b m => e.new b (List.mem_filter.mp m).1, fun j b ys h1 h2 => ?_, fun j b ks h1 h2 => ?_⟩, sh⟩
  · rcases what j sl h with ⟨ej, es⟩ | ⟨n, h⟩
    · subst ej es
      exact ⟨_, ho, .lst (SqL.of (by rw [hid_out nA]; exact ev)) (DpAll_mono qv sh)⟩
    · obtain ⟨o, e1, q⟩ := e.env.at_ j sl h
      refine ⟨o, e1, ?_⟩
      cases sl with
      | no => cases o <;> trivial
      | d x =>
        cases o with
        | none => exact q
        | some v => exact Dp_mono (show Dp K (hid (B ++ A0) H) v x from q) sh
      | own zs =>
        match o, q, e1 with
        | some (.ref b), ⟨m, ws, e2, q⟩, e1 =>
          have nb := keep j b zs n h e1
          refine ⟨?_, ws, e2, DpAll_mono q sh⟩
          rcases List.mem_append.mp m with m | m
          · exact List.mem_append_left _ (List.mem_filter.mpr ⟨m, by simp [nb]⟩)
          · exact List.mem_append_right _ m
      | m x => exact q.m' sh
      | x c w p => exact q.x' sh
      | dk ks =>
        match o, q, e1 with
        | some (.ref b), ⟨m, q⟩, e1 =>
          have nb : b ≠ a := fun z => by
            subst z
            obtain ⟨_, e2, so, _⟩ := q
            rw [ev] at e2
            cases e2
            exact notDo so
          refine ⟨?_, q.keep sh fun _ _ e => e⟩
          rcases List.mem_append.mp m with m | m
          · exact List.mem_append_left _ (List.mem_filter.mpr ⟨m, by simp [nb]⟩)
          · exact List.mem_append_right _ m
  · rcases what j _ h1 with ⟨_, z⟩ | ⟨n, g1⟩
    · cases z
    · rcases what k _ h2 with ⟨_, z⟩ | ⟨n2, g2⟩
      · cases z
      · exact e.env.ap j k b ys zs g1 g2 h3 h4
  · rcases what j _ h1 with ⟨_, z⟩ | ⟨n, g1⟩
    · cases z
    · have q := e.own j b ys g1 h2
      cases hy : ys.b with
      | true =>
        rw [hy, if_pos rfl] at q
        rw [if_pos rfl]
        exact List.mem_filter.mpr ⟨q, by simp [keep j b ys n g1 h2]⟩
      | false =>
        rw [hy] at q
        exact q
  · rcases what j _ h1 with ⟨_, z⟩ | ⟨n, g1⟩
    · cases z
    · have nb : b ≠ a := fun z => by
        subst z
        obtain ⟨o, e1, q⟩ := e.env.at_ j _ g1
        rw [h2] at e1
        cases e1
        obtain ⟨_, u, e2, so, _⟩ := q
        rw [ev] at e2
        cases e2
        exact notDo so
      exact ⟨List.mem_filter.mpr ⟨(e.dk j b ks g1 h2).1, by simp [nb]⟩, fun k ks' p1 p2 => by
        rcases what k _ p1 with ⟨_, z⟩ | ⟨_, p1⟩
        · cases z
        · exact (e.dk j b ks g1 h2).2 k ks' p1 p2⟩
theorem ss_frz (i : Nat) (h : TSs X f sts Gt) : TSs X f sts (seqS (frzS i) Gt) := pssW h fun E σ H ⟨η, B, e, p0⟩ => by
  have p : PostS X.K X.mg f.W f.rl f.M f.H0 f.A0 H B ((frzS i η).bind Gt) E := p0
  unfold frzS at p
  split at p
  case h_2 => exact False.elim p
  rename_i xs hx
  split at p
  case isFalse => exact False.elim p
  rename_i hb
  obtain ⟨a, ea, _⟩ := own_ref e.env hx
  obtain ⟨e2, sh⟩ := e.frz hx ea hb
  exact ⟨_, _, e2, PostS.keep sh p⟩
end
end Bd
/-! D16: methods of lists: index, count; pop and insert on a list that is changed; sum; a new list as data. -/
namespace Bd
open PySem L2

section
variable {X : Cx} {W : WX} {o e : Expr} {Fo Fe : Nv → R D} {apos cpos pos p : Pos}
def m2 (f : List D → D → Option D) (Fo Fe : Nv → R D) : Nv → R D := fun η => (Fo η).bind fun a => match a with
  | .list ds => (Fe η).bind fun y => .of (f ds y)
  | _ => .no
/-! index, count -/
/-! sum -/
end
/-! ### a def's new list, taken as data -/
/-! ### pop and insert on a list that is changed -/
section
variable {X : Cx} {f : Fx} {e a b : Expr} {F Fa Fb : Nv → R (D × Nv)} {apos cpos epos px : Pos}
theorem put_keep {K : PySem.W.Frag} {H : Hp} {A : List Addr} {σ : L2.St} {η : Nv} {i : Nat} {xs : OL} {c : Addr} {ws : List V} {ys : List D} (E : EnvD K H A σ η) (hi : η[i]? = some (.own xs)) (ho : σ[i]? = some (some (.ref c))) (q : DpAll K (hid A H) ws ys) :
    EnvD K (upd H c (.lst ws)) A σ (η.set i (.own ⟨xs.b, ys⟩)) ∧ Mv σ η H (upd H c (.lst ws)) ∧ hid A (upd H c (.lst ws)) = hid A H := by
  have mA := (own_in E hi ho).1
  have eh : hid A (upd H c (.lst ws)) = hid A H := hid_upd mA
  have kp : ∀ z o, z ≠ c → H z = some o → upd H c (.lst ws) z = some o := fun z o nz w => by rw [upd_ne nz]; exact w
  refine ⟨E.put hi ho kp (fun z mz => ?_) upd_same (by rw [eh]; exact q), fun z o w nn => kp z o (fun y => nn i xs hi (by rw [y]; exact ho)) w, eh⟩
  by_cases hz : z = c
  · rw [hz, upd_same]
    exact fun w => nomatch w
  · rw [upd_ne hz]
    exact E.tr z mz
end
end Bd
/-! D17: data sorted; data compared. -/
namespace Bd
open PySem L2

section
variable {X : Cx}
/-! comparisons of alike data -/
def rCmpD (K : PySem.W.Frag) (f : D → D → Bool) : R2 := fun x y H Q => ∃ a b, Dp K H x a ∧ Dp K H y b ∧ PySem.W.alike a b = true ∧ a ≠ .none ∧ a.depth ≤ 60 ∧ Q (.bl (f a b)) H
def ltD (a b : D) : Bool := PySem.W.dataLt a b
def gtD (a b : D) : Bool := PySem.W.dataLt b a
def leD (a b : D) : Bool := !PySem.W.dataLt b a
def geD (a b : D) : Bool := !PySem.W.dataLt a b
theorem op_ltD (hu : X.A.units + 64 < cLine) : OpR X (compareOp .Lt) (rCmpD X.K ltD) := fun pins s σ H x y v u Q I rx ry ⟨a, b, ha, hb, al, nn, dp, q⟩ => by
  obtain ⟨as, r1⟩ := Dp.reads I a x v ha rx
  obtain ⟨bs, r2⟩ := Dp.reads I b y u hb ry
  exact PySem.W.lt_data r1 r2 al nn (by have := Nat.min_le_left a.depth b.depth; omega) ⟨.bl _, H, I, rfl, q⟩
theorem op_gtD (hu : X.A.units + 64 < cLine) : OpR X (compareOp .Gt) (rCmpD X.K gtD) := fun pins s σ H x y v u Q I rx ry ⟨a, b, ha, hb, al, nn, dp, q⟩ => by
  obtain ⟨as, r1⟩ := Dp.reads I a x v ha rx
  obtain ⟨bs, r2⟩ := Dp.reads I b y u hb ry
  exact PySem.W.gt_data r1 r2 al nn (by have := Nat.min_le_left a.depth b.depth; omega) ⟨.bl _, H, I, rfl, q⟩
theorem op_leD (hu : X.A.units + 64 < cLine) : OpR X (compareOp .LtE) (rCmpD X.K leD) := fun pins s σ H x y v u Q I rx ry ⟨a, b, ha, hb, al, nn, dp, q⟩ => by
  obtain ⟨as, r1⟩ := Dp.reads I a x v ha rx
  obtain ⟨bs, r2⟩ := Dp.reads I b y u hb ry
  exact PySem.W.le_data r1 r2 al nn (by have := Nat.min_le_left a.depth b.depth; omega) ⟨.bl _, H, I, rfl, q⟩
theorem op_geD (hu : X.A.units + 64 < cLine) : OpR X (compareOp .GtE) (rCmpD X.K geD) := fun pins s σ H x y v u Q I rx ry ⟨a, b, ha, hb, al, nn, dp, q⟩ => by
  obtain ⟨as, r1⟩ := Dp.reads I a x v ha rx
  obtain ⟨bs, r2⟩ := Dp.reads I b y u hb ry
  exact PySem.W.ge_data r1 r2 al nn (by have := Nat.min_le_left a.depth b.depth; omega) ⟨.bl _, H, I, rfl, q⟩
def someB : D → Bool
  | .none => false
  | _ => true
theorem someB_ne {a : D} (h : someB a = true) : a ≠ .none := fun e => by
  subst e
  cases h
def cmpV (f : D → D → Bool) (a b : D) : Option D := if PySem.W.alike a b = true ∧ someB a = true ∧ a.depth ≤ 60 then some (.bool (f a b)) else none
theorem o_cmpD {f : D → D → Bool} : Op2 X rB (rCmpD X.K f) (cmpV f) := fun H A x y a b d Q hA ha hb e k => by
  unfold cmpV at e
  split at e
  · rename_i h
    have e := Option.some.inj e
    subst e
    exact ⟨a, b, rO_dp ha, rO_dp hb, h.1, someB_ne h.2.1, h.2.2, k _ H (Same.refl _) ⟨_, rfl, rfl⟩⟩
  · cases e
/-! ints first, else data -/
def rOr2 (r r' : R2) : R2 := fun x y H Q => r x y H Q ∨ r' x y H Q
theorem op_or {c : CmpOp} {r r' : R2} (h : OpR X (compareOp c) r) (h' : OpR X (compareOp c) r') : OpR X (compareOp c) (rOr2 r r') := fun pins s σ H x y v u Q I rx ry z => z.elim (h pins s σ H x y v u Q I rx ry) (h' pins s σ H x y v u Q I rx ry)
def orV2 (f g : D → D → Option D) (a b : D) : Option D := match f a b with
  | some d => some d
  | none => g a b
theorem o_or {r r' : R2} {f g : D → D → Option D} (h : Op2 X rB r f) (h' : Op2 X rB r' g) : Op2 X rB (rOr2 r r') (orV2 f g) := fun H A x y a b d Q hA ha hb e k => by
  unfold orV2 at e
  split at e
  · rename_i d0 e0
    have e := Option.some.inj e
    subst e
    exact .inl (h H A x y a b _ Q hA ha hb e0 k)
  · exact .inr (h' H A x y a b d Q hA ha hb e k)
def ltA := orV2 ltV (cmpV ltD)
def leA := orV2 leV (cmpV leD)
def gtA := orV2 gtV (cmpV gtD)
def geA := orV2 geV (cmpV geD)
variable {W : WX} {a b e : Expr} {Fa Fb : Nv → R D} {pos p : Pos}
theorem op_ltA (hu : X.A.units + 64 < cLine) : OpR X (compareOp .Lt) (rOr2 (rI0 fun i j => .bl (decide (i < j))) (rCmpD X.K ltD)) := op_or op_lt (op_ltD hu)
theorem op_leA (hu : X.A.units + 64 < cLine) : OpR X (compareOp .LtE) (rOr2 (rI0 fun i j => .bl (decide (i ≤ j))) (rCmpD X.K leD)) := op_or op_le (op_leD hu)
theorem op_gtA (hu : X.A.units + 64 < cLine) : OpR X (compareOp .Gt) (rOr2 (rI0 fun i j => .bl (decide (j < i))) (rCmpD X.K gtD)) := op_or op_gt (op_gtD hu)
theorem op_geA (hu : X.A.units + 64 < cLine) : OpR X (compareOp .GtE) (rOr2 (rI0 fun i j => .bl (decide (j ≤ i))) (rCmpD X.K geD)) := op_or op_ge (op_geD hu)
theorem o_ltA : Op2 X rB (rOr2 (rI0 fun i j => .bl (decide (i < j))) (rCmpD X.K ltD)) ltA := o_or o_cmpI o_cmpD
theorem o_leA : Op2 X rB (rOr2 (rI0 fun i j => .bl (decide (i ≤ j))) (rCmpD X.K leD)) leA := o_or o_cmpI o_cmpD
theorem o_gtA : Op2 X rB (rOr2 (rI0 fun i j => .bl (decide (j < i))) (rCmpD X.K gtD)) gtA := o_or o_cmpI o_cmpD
theorem o_geA : Op2 X rB (rOr2 (rI0 fun i j => .bl (decide (j ≤ i))) (rCmpD X.K geD)) geA := o_or o_cmpI o_cmpD
theorem t_ltA (hu : X.A.units + 64 < cLine) (ha : TO X W a Fa) (hb : TO X W b Fb) : TD X W (.Compare a [.Lt] [b] pos) (e2 ltA Fa Fb) := t_cmpB (op_ltA hu) o_ltA ha hb (nomark _)
theorem b_ltA (hu : X.A.units + 64 < cLine) (ha : TO X W a Fa) (hb : TO X W b Fb) : TB X W (.Compare a [.Lt] [b] pos) (tb (e2 ltA Fa Fb)) := b_cmp (op_ltA hu) o_ltA ha hb (nomark _)
theorem b_gtA (hu : X.A.units + 64 < cLine) (ha : TO X W a Fa) (hb : TO X W b Fb) : TB X W (.Compare a [.Gt] [b] pos) (tb (e2 gtA Fa Fb)) := b_cmp (op_gtA hu) o_gtA ha hb (nomark _)
theorem b_geA (hu : X.A.units + 64 < cLine) (ha : TO X W a Fa) (hb : TO X W b Fb) : TB X W (.Compare a [.GtE] [b] pos) (tb (e2 geA Fa Fb)) := b_cmp (op_geA hu) o_geA ha hb (nomark _)
/-! sorted: ints first, else data -/
end
end Bd
/-! D18: list and tuple of a range; insert; max and min with changes. -/
namespace Bd
open PySem L2

section
variable {X : Cx} {W : WX} {e a : Expr} {Fa : Nv → R D} {p p2 pos pos2 : Pos}
/-! max, min -/
end
/-! insert -/
section
variable {X : Cx} {f : Fx} {a b : Expr} {Fa Fb : Nv → R (D × Nv)} {apos cpos epos px : Pos}
end
end Bd
/-! D19: walks over what changes lists. -/
namespace Bd
open PySem L2

section
variable {X : Cx} {tg iter : Expr} {F : Nv → R (D × Nv)}
end
end Bd
/-! D20: a comprehension over a list of one's own that stays as it is meanwhile. -/
namespace Bd
open PySem L2

section
variable {X : Cx} {e tg iter elt : Expr} {pos : Pos}
end
/-! what leaves the list at i as it is -/
section
variable {i j : Nat} {Fa Fb F : Nv → R (D × Nv)} {Fs : Nv → R (List D × Nv)} {G : Nv → R (Bool × Nv)}
end
section
variable {X : Cx} {tg elt : Expr} {pos px : Pos} {ifs : List Expr} {scope : Scope} {own : List (Str × Nat)} {T : Tgt} {js : List Nat} {C : Nv → R (Bool × Nv)} {El : Nv → R (D × Nv)}
end
end Bd
/-! M0: how the mirrors are reckoned. -/
namespace Bd
open PySem L2

/-! ### names -/
@[simp] theorem gv_zero (x : D) (η : Nv) : gv 0 (.d x :: η) = .ok x := Eq.trans rfl rfl
@[simp] theorem gv_succ (i : Nat) (s : Sl) (η : Nv) : gv (i + 1) (s :: η) = gv i η := Eq.trans rfl rfl
@[simp] theorem go_own (x : OL) (η : Nv) : go 0 (.own x :: η) = .ok (.list x.l) := Eq.trans rfl rfl
@[simp] theorem go_dat (x : D) (η : Nv) : go 0 (.d x :: η) = .ok x := Eq.trans rfl rfl
@[simp] theorem go_succ (i : Nat) (s : Sl) (η : Nv) : go (i + 1) (s :: η) = go i η := Eq.trans rfl rfl
@[simp] theorem k0_def (d : D) (η : Nv) : k0 d η = .ok d := Eq.trans rfl rfl
@[simp] theorem of_some (d : D) : R.of (some d) = .ok d := Eq.trans rfl rfl
@[simp] theorem of_none : R.of none = .no := Eq.trans rfl rfl
@[simp] theorem e2_def (f : D → D → Option D) (Fa Fb : Nv → R D) (η : Nv) : e2 f Fa Fb η = (Fa η).bind fun x => (Fb η).bind fun y => .of (f x y) := Eq.trans rfl rfl
@[simp] theorem e1_def (f : D → Option D) (Fa : Nv → R D) (η : Nv) : e1 f Fa η = (Fa η).bind fun x => .of (f x) := Eq.trans rfl rfl
@[simp] theorem eN_def (f : List D → Option D) (Fs : Nv → R (List D)) (η : Nv) : eN f Fs η = (Fs η).bind fun ds => .of (f ds) := Eq.trans rfl rfl
@[simp] theorem a0_def (η : Nv) : a0 η = .ok [] := Eq.trans rfl rfl
@[simp] theorem aC_def (Fa : Nv → R D) (Fs : Nv → R (List D)) (η : Nv) : aC Fa Fs η = (Fa η).bind fun x => (Fs η).bind fun xs => .ok (x :: xs) := Eq.trans rfl rfl
@[simp] theorem callV_def (Fn : List D → R D) (Fs : Nv → R (List D)) (η : Nv) : callV Fn Fs η = (Fs η).bind fun ds => noex (Fn ds) := Eq.trans rfl rfl
@[simp] theorem noex_ok (d : D) : noex (.ok d) = .ok d := Eq.trans rfl rfl
@[simp] theorem tb_def (F : Nv → R D) (η : Nv) : tb F η = (F η).bind tru := Eq.trans rfl rfl
@[simp] theorem tru_bool (b : Bool) : tru (.bool b) = .ok b := Eq.trans rfl rfl
@[simp] theorem tru_none : tru .none = .ok false := Eq.trans rfl rfl
@[simp] theorem tru_int (i : Int) : tru (.int i) = .ok (i != 0) := Eq.trans rfl rfl
@[simp] theorem tru_list (xs : List D) : tru (.list xs) = .ok !xs.isEmpty := Eq.trans rfl rfl
@[simp] theorem andB_def (Ga Gb : Nv → R Bool) (η : Nv) : andB Ga Gb η = (Ga η).bind fun k => if k then Gb η else .ok false := Eq.trans rfl rfl
@[simp] theorem orB_def (Ga Gb : Nv → R Bool) (η : Nv) : orB Ga Gb η = (Ga η).bind fun k => if k then .ok true else Gb η := Eq.trans rfl rfl
@[simp] theorem notB_def (Ga : Nv → R Bool) (η : Nv) : notB Ga η = (Ga η).bind fun k => .ok !k := Eq.trans rfl rfl
@[simp] theorem andV_def (Fa Fb : Nv → R D) (η : Nv) : andV Fa Fb η = (Fa η).bind fun x => (tru x).bind fun k => if k then Fb η else .ok x := Eq.trans rfl rfl
@[simp] theorem orV_def (Fa Fb : Nv → R D) (η : Nv) : orV Fa Fb η = (Fa η).bind fun x => (tru x).bind fun k => if k then .ok x else Fb η := Eq.trans rfl rfl
@[simp] theorem notV_def (Fa : Nv → R D) (η : Nv) : notV Fa η = (Fa η).bind fun x => (tru x).bind fun k => .ok (.bool !k) := Eq.trans rfl rfl
@[simp] theorem ifV_def (G : Nv → R Bool) (Fa Fb : Nv → R D) (η : Nv) : ifV G Fa Fb η = (G η).bind fun k => if k then Fa η else Fb η := Eq.trans rfl rfl
@[simp] theorem chainV_def (f g : D → D → Option D) (Fa Fb Fc : Nv → R D) (η : Nv) : chainV f g Fa Fb Fc η = (Fa η).bind fun x => (Fb η).bind fun y => (R.of (f x y)).bind fun z => (tru z).bind fun k => if k then (Fc η).bind fun w => .of (g y w) else .ok (.bool false) := Eq.trans rfl rfl
@[simp] theorem tupV_def (Fs : Nv → R (List D)) (η : Nv) : tupV Fs η = (Fs η).bind fun ds => .of (if ds.length ≤ lineN then some (.tuple ds) else none) := Eq.trans rfl rfl
@[simp] theorem lstV_def (Fs : Nv → R (List D)) (η : Nv) : lstV Fs η = (Fs η).bind fun ds => .of (if ds.length ≤ lineN then some (.list ds) else none) := Eq.trans rfl rfl
@[simp] theorem slE_def (sl : Option Int → Option Int → D → Option D) (F : Nv → R D) (Lo Hi : Nv → R (Option Int)) (η : Nv) : slE sl F Lo Hi η = (F η).bind fun x => (Lo η).bind fun l => (Hi η).bind fun h => .of (sl l h x) := Eq.trans rfl rfl
@[simp] theorem p0_def (η : Nv) : p0 η = .ok none := Eq.trans rfl rfl
@[simp] theorem p1_def (F : Nv → R D) (η : Nv) : p1 F η = (F η).bind asInt := Eq.trans rfl rfl
@[simp] theorem asInt_int (i : Int) : asInt (.int i) = .ok (some i) := Eq.trans rfl rfl
/-! statements -/
@[simp] theorem toS_ok {α : Type} (a : α) (f : α → Rs) : (R.ok a).toS f = f a := Eq.trans rfl rfl
@[simp] theorem toS_no {α : Type} (f : α → Rs) : (R.no : R α).toS f = .no := Eq.trans rfl rfl
@[simp] theorem seqS_def (Gs Gt : Nv → Rs) (η : Nv) : seqS Gs Gt η = (Gs η).bind Gt := Eq.trans rfl rfl
@[simp] theorem bind_nx (η : Nv) (f : Nv → Rs) : (Rs.nx η).bind f = f η := Eq.trans rfl rfl
@[simp] theorem bind_rt (d : D) (η : Nv) (f : Nv → Rs) : (Rs.rt d η).bind f = .rt d η := Eq.trans rfl rfl
@[simp] theorem bind_ct (η : Nv) (f : Nv → Rs) : (Rs.ct η).bind f = .ct η := Eq.trans rfl rfl
@[simp] theorem bind_bk (η : Nv) (f : Nv → Rs) : (Rs.bk η).bind f = .bk η := Eq.trans rfl rfl
@[simp] theorem bind_ex (c w : Str) (p : D) (f : Nv → Rs) : (Rs.ex c w p).bind f = .ex c w p := Eq.trans rfl rfl
@[simp] theorem setS_def (i : Nat) (F : Nv → R D) (η : Nv) : setS i F η = (F η).toS fun x => .nx (η.set i (.d x)) := Eq.trans rfl rfl
@[simp] theorem retS_def (F : Nv → R D) (η : Nv) : retS F η = (F η).toS fun x => .rt x η := Eq.trans rfl rfl
@[simp] theorem exprS_def (F : Nv → R D) (η : Nv) : exprS F η = (F η).toS fun _ => .nx η := Eq.trans rfl rfl
@[simp] theorem ifS_def (G : Nv → R Bool) (Gs Gt : Nv → Rs) (η : Nv) : ifS G Gs Gt η = (G η).toS fun k => if k then Gs η else Gt η := Eq.trans rfl rfl
@[simp] theorem forS_def (Fi : Nv → R (List D)) (T : Tgt) (Gb : Nv → Rs) (η : Nv) : forS Fi T Gb η = (Fi η).toS fun xs => loopG T Gb xs η := Eq.trans rfl rfl
theorem ownS_list (i : Nat) (F : Nv → R D) (η : Nv) (xs : List D) (h : F η = .ok (.list xs)) : ownS i F η = .nx (η.set i (.own ⟨true, xs⟩)) := by
  unfold ownS
  rw [h]
  rfl
theorem appS_own (i : Nat) (F : Nv → R D) (η : Nv) (xs : OL) (y : D) (h1 : η[i]? = some (.own xs)) (h2 : F η = .ok y) (h3 : xs.l.length < lineN) : appS i F η = .nx (η.set i (.own ⟨xs.b, xs.l ++ [y]⟩)) := by
  unfold appS
  rw [h1]
  show (F η).toS _ = _
  rw [h2]
  show (if xs.l.length < lineN then _ else _) = _
  rw [if_pos h3]
theorem retO_own (i : Nat) (η : Nv) (xs : List D) (h : η[i]? = some (.own ⟨true, xs⟩)) : retO i η = .rt (.list xs) η := by
  unfold retO
  rw [h]
  rfl
@[simp] theorem gN_def (i : Nat) (x : D) (η : Nv) : gN i x η = some (η.set i (.d x)) := Eq.trans rfl rfl
@[simp] theorem iA_def (F : Nv → R D) (η : Nv) : iA F η = (F η).bind asSeq := Eq.trans rfl rfl
@[simp] theorem asSeq_list (xs : List D) : asSeq (.list xs) = .ok xs := Eq.trans rfl rfl
@[simp] theorem asSeq_tup (xs : List D) : asSeq (.tuple xs) = .ok xs := Eq.trans rfl rfl
@[simp] theorem iR1_def (Fs : Nv → R (List D)) (η : Nv) : iR1 Fs η = (Fs η).bind rng1 := Eq.trans rfl rfl
@[simp] theorem iR2_def (Fs : Nv → R (List D)) (η : Nv) : iR2 Fs η = (Fs η).bind rng2 := Eq.trans rfl rfl
@[simp] theorem iZ_def (Fs : Nv → R (List D)) (η : Nv) : iZ Fs η = (Fs η).bind zip2 := Eq.trans rfl rfl
@[simp] theorem iRR_def (F : Nv → R D) (η : Nv) : iRR F η = (F η).bind rr1 := Eq.trans rfl rfl
theorem rng1_ok {n : Int} (h0 : 0 ≤ n) (h : n < 1000000) : rng1 [.int n] = .ok (rangeD 0 n.toNat) := by
  show (if -(2 ^ 62) ≤ n ∧ n < 2 ^ 62 then _ else _) = _
  rw [if_pos ⟨by omega, by omega⟩]
/-! values -/
@[simp] theorem addV_int (i j : Int) : addV (.int i) (.int j) = some (.int (i + j)) := Eq.trans rfl rfl
@[simp] theorem subV_int (i j : Int) : subV (.int i) (.int j) = some (.int (i - j)) := Eq.trans rfl rfl
theorem mulV_int {i j : Int} (h : (-(2 ^ 64) < i ∧ i < 2 ^ 64) ∨ (-(2 ^ 64) < j ∧ j < 2 ^ 64)) : mulV (.int i) (.int j) = some (.int (i * j)) := if_pos h
theorem fdivV_int {i j : Int} (h : 0 < j ∧ j < 1073741824) : fdivV (.int i) (.int j) = some (.int (i / j)) := if_pos h
theorem modV_int {i j : Int} (h : 0 < j) : modV (.int i) (.int j) = some (.int (i % j)) := if_pos h
theorem powV_int {i j : Int} (h : 0 ≤ j ∧ j ≤ 1000000 ∧ i.natAbs < 2 ^ 64) : powV (.int i) (.int j) = some (.int (i ^ j.toNat)) := if_pos h
@[simp] theorem ltV_int (i j : Int) : ltV (.int i) (.int j) = some (.bool (decide (i < j))) := Eq.trans rfl rfl
@[simp] theorem leV_int (i j : Int) : leV (.int i) (.int j) = some (.bool (decide (i ≤ j))) := Eq.trans rfl rfl
@[simp] theorem gtV_int (i j : Int) : gtV (.int i) (.int j) = some (.bool (decide (j < i))) := Eq.trans rfl rfl
@[simp] theorem geV_int (i j : Int) : geV (.int i) (.int j) = some (.bool (decide (j ≤ i))) := Eq.trans rfl rfl
@[simp] theorem ltA_i (i j : Int) : ltA (.int i) (.int j) = some (.bool (decide (i < j))) := Eq.trans rfl rfl
@[simp] theorem leA_i (i j : Int) : leA (.int i) (.int j) = some (.bool (decide (i ≤ j))) := Eq.trans rfl rfl
@[simp] theorem gtA_i (i j : Int) : gtA (.int i) (.int j) = some (.bool (decide (j < i))) := Eq.trans rfl rfl
@[simp] theorem geA_i (i j : Int) : geA (.int i) (.int j) = some (.bool (decide (j ≤ i))) := Eq.trans rfl rfl
@[simp] theorem negV_int (i : Int) : negV (.int i) = some (.int (-i)) := Eq.trans rfl rfl
@[simp] theorem intV_int (i : Int) : intV [.int i] = some (.int i) := Eq.trans rfl rfl
@[simp] theorem lenV_list (xs : List D) : lenV [.list xs] = some (.int xs.length) := Eq.trans rfl rfl
@[simp] theorem lenV_tup (xs : List D) : lenV [.tuple xs] = some (.int xs.length) := Eq.trans rfl rfl
@[simp] theorem ixV_list (xs : List D) (i : Int) : ixV (.list xs) (.int i) = atD xs i := Eq.trans rfl rfl
@[simp] theorem ixV_tup (xs : List D) (i : Int) : ixV (.tuple xs) (.int i) = atD xs i := Eq.trans rfl rfl
theorem atD_nat {xs : List D} {i : Int} {d : D} (h0 : 0 ≤ i) (h : xs[i.toNat]? = some d) : atD xs i = some d := by
  have hl : i.toNat < xs.length := (List.getElem?_eq_some_iff.mp h).1
  unfold atD ixN
  rw [if_pos h0, if_pos (by omega)]
  exact h
/-! ### loops and comprehensions -/
@[simp] theorem loopG_nil (T : Tgt) (Gb : Nv → Rs) (η : Nv) : loopG T Gb [] η = .nx η := Eq.trans rfl rfl
theorem loopG_cons (T : Tgt) (Gb : Nv → Rs) (x : D) (xs : List D) (η η1 : Nv) (h : T x η = some η1) : loopG T Gb (x :: xs) η = match Gb η1 with
    | .nx η2 => loopG T Gb xs η2
    | .ct η2 => loopG T Gb xs η2
    | .bk η2 => .nx η2
    | .rt d η2 => .rt d η2
    | .ex c w p => .ex c w p
    | .no => .no := by
  show (match T x η with | none => _ | some η1 => _) = _
  rw [h]
  try rfl
theorem compD_filter {T : Tgt} {C : Nv → R Bool} {El : Nv → R D} {η : Nv} {g : D → D} {c : D → Bool} : ∀ (xs : List D), (∀ x ∈ xs, ∃ η1, T x η = some η1 ∧ C η1 = .ok (c x) ∧ (c x = true → El η1 = .ok (g x))) → compD T C El η xs = .ok ((xs.filter c).map g)
  | [], _ => rfl
  | x :: xs, h => by
    obtain ⟨η1, h1, h2, h3⟩ := h x List.mem_cons_self
    show (match T x η with | none => _ | some η1 => _) = _
    rw [h1]
    show (C η1).bindN _ = _
    rw [h2]
    have ih := compD_filter xs fun y m => h y (List.mem_cons_of_mem _ m)
    cases hc : c x with
    | false =>
      show compD T C El η xs = _
      rw [ih, List.filter_cons_of_neg (by rw [hc]; exact Bool.false_ne_true)]
    | true =>
      show (El η1).bindN _ = _
      rw [h3 hc]
      show (compD T C El η xs).bindN _ = _
      rw [ih, List.filter_cons_of_pos hc]
      rfl
theorem compE_ok {Fi : Nv → R (List D)} {T : Tgt} {C : Nv → R Bool} {El : Nv → R D} {vs : List Nat} {η : Nv} {xs ys : List D} (h1 : Fi η = .ok xs) (h2 : compD T C El (wipeE η vs) xs = .ok ys) (h3 : ys.length ≤ lineN) : compE Fi T C El vs η = .ok (.list ys) := by
  unfold compE
  rw [h1]
  show (compD T C El (wipeE η vs) xs).bindN _ = _
  rw [h2]
  show (if ys.length ≤ lineN then _ else _) = _
  rw [if_pos h3]
theorem runD_rt {m : Nat} {fall : R D} {G : Nv → Rs} {ds : List D} {d : D} {η' : Nv} (η : Nv) (hi : initD m ds = η) (h : G η = .rt d η') : runD m fall G ds = .ok d := by
  subst hi
  unfold runD
  rw [h]
/-! ### the laws' own helpers -/
namespace Lw
def G_cell : Nv → Rs :=
    (seqS (ifS (tb (e2 ltA (gv 1) (eN lenV (aC (gv 0) a0)))) (seqS (retS (e2 ixV (gv 0) (gv 1)))
    .nx) .nx)
    (seqS (retS (k0 (.int 0)))
    .nx))
def F_cell : List D → R D := runD 2 (.ok .none) G_cell
def cell (ns : List Int) (k : Nat) : Int := ns.getD k 0
theorem cell_ok (ns : List Int) (k : Nat) : F_cell [.list (ns.map PyData.int), .int (k : Int)] = .ok (.int (cell ns k)) := by
  have i : initD 2 [.list (ns.map PyData.int), .int (k : Int)] = [.d (.list (ns.map PyData.int)), .d (.int (k : Int))] := rfl
  unfold F_cell runD
  rw [i]
  by_cases h : k < ns.length
  · have e : G_cell [.d (.list (ns.map PyData.int)), .d (.int (k : Int))] = .rt (.int (cell ns k)) [.d (.list (ns.map PyData.int)), .d (.int (k : Int))] := by
      have a : atD (ns.map PyData.int) (k : Int) = some (.int (cell ns k)) := atD_nat (by omega) (by
        rw [List.getElem?_map, Int.toNat_natCast, List.getElem?_eq_getElem h]
        unfold cell
        rw [List.getD_eq_getElem?_getD, List.getElem?_eq_getElem h]
        rfl)
      simp [G_cell, h, a]
    rw [e]
  · have e : G_cell [.d (.list (ns.map PyData.int)), .d (.int (k : Int))] = .rt (.int (cell ns k)) [.d (.list (ns.map PyData.int)), .d (.int (k : Int))] := by
      have c : cell ns k = 0 := by
        unfold cell
        rw [List.getD_eq_getElem?_getD, List.getElem?_eq_none (by omega)]
        rfl
      simp [G_cell, h, c]
    rw [e]
def B_row : Nv → Rs :=
    (seqS (ifS (tb (e2 geA (gv 0) (e2 powV (k0 (.int 10)) (k0 (.int 18))))) (seqS (appS 3 (e2 modV (eN intV (aC (gv 0) a0)) (gv 2)))
    (seqS (setS 0 (e2 fdivV (gv 0) (gv 2)))
    .nx)) (seqS (setS 5 (e2 modV (eN intV (aC (e2 addV (e2 addV (e2 mulV (gv 0) (k0 (.int 48271))) (e2 mulV (gv 4) (k0 (.int 69621)))) (k0 (.int 12345))) a0)) (k0 (.int 2147483647))))
    (seqS (setS 5 (e2 modV (eN intV (aC (e2 addV (e2 addV (e2 mulV (gv 5) (gv 5)) (e2 mulV (k0 (.int 16807)) (gv 4))) (k0 (.int 7))) a0)) (k0 (.int 998244353))))
    (seqS (setS 5 (e2 modV (eN intV (aC (e2 addV (e2 addV (e2 mulV (gv 5) (gv 5)) (e2 mulV (k0 (.int 48271)) (gv 4))) (gv 0)) a0)) (k0 (.int 2147483629))))
    (seqS (appS 3 (e2 modV (eN intV (aC (e2 fdivV (gv 5) (k0 (.int 13))) a0)) (gv 2)))
    .nx)))))
    .nx)
def G_row : Nv → Rs :=
    (seqS (ownS 3 (lstV a0))
    (seqS (forS (iR1 (aC (gv 1) a0)) (gN 4) B_row)
    (seqS (retO 3)
    .nx)))
def F_row : List D → R D := runD 6 .no G_row
/-- ints from 0 below b -/
def Below (b : Int) (xs : List D) : Prop := ∀ x ∈ xs, ∃ i : Int, x = .int i ∧ 0 ≤ i ∧ i < b
theorem row_turn {c n k b : Int} {rs : List D} {s4 s5 : Sl} (hb : 0 < b ∧ b < 1073741824) (hl : rs.length < lineN) : ∃ (c' i : Int) (s5' : Sl), 0 ≤ i ∧ i < b ∧
    B_row [.d (.int c), .d (.int n), .d (.int b), .own ⟨true, rs⟩, .d (.int k), s5] = .nx [.d (.int c'), .d (.int n), .d (.int b), .own ⟨true, rs ++ [.int i]⟩, .d (.int k), s5'] := by
  have hp : powV (.int 10) (.int 18) = some (.int (10 ^ 18)) := powV_int ⟨by decide, by decide, by decide⟩
  by_cases h : (1000000000000000000 : Int) ≤ c
  · refine ⟨c / b, c % b, s5, Int.emod_nonneg _ (by omega), Int.emod_lt_of_pos _ hb.1, ?_⟩
    have m : modV (.int c) (.int b) = some (.int (c % b)) := modV_int hb.1
    have q : fdivV (.int c) (.int b) = some (.int (c / b)) := fdivV_int hb
    have ap := appS_own 3 (e2 modV (eN intV (aC (gv 0) a0)) (gv 2)) [.d (.int c), .d (.int n), .d (.int b), .own ⟨true, rs⟩, .d (.int k), s5] ⟨true, rs⟩ (.int (c % b)) rfl (by simp [m]) hl
    simp [B_row, hp, h, ap, q]
  · generalize q1 : (c * 48271 + k * 69621 + 12345) % 2147483647 = x1
    generalize q2 : (x1 * x1 + 16807 * k + 7) % 998244353 = x2
    generalize q3 : (x2 * x2 + 48271 * k + c) % 2147483629 = x3
    have b1 : 0 ≤ x1 ∧ x1 < 2147483647 := by omega
    have b2 : 0 ≤ x2 ∧ x2 < 998244353 := by omega
    have b3 : 0 ≤ x3 ∧ x3 < 2147483629 := by omega
    refine ⟨c, x3 / 13 % b, .d (.int x3), Int.emod_nonneg _ (by omega), Int.emod_lt_of_pos _ hb.1, ?_⟩
    have t1 : mulV (.int c) (.int 48271) = some (.int (c * 48271)) := mulV_int (.inr (by decide))
    have t2 : mulV (.int k) (.int 69621) = some (.int (k * 69621)) := mulV_int (.inr (by decide))
    have t3 : mulV (.int x1) (.int x1) = some (.int (x1 * x1)) := mulV_int (.inl (by omega))
    have t4 : mulV (.int 16807) (.int k) = some (.int (16807 * k)) := mulV_int (.inl (by decide))
    have t5 : mulV (.int x2) (.int x2) = some (.int (x2 * x2)) := mulV_int (.inl (by omega))
    have t6 : mulV (.int 48271) (.int k) = some (.int (48271 * k)) := mulV_int (.inl (by decide))
    have m1 : ∀ z : Int, modV (.int z) (.int 2147483647) = some (.int (z % 2147483647)) := fun z => modV_int (by decide)
    have m2 : ∀ z : Int, modV (.int z) (.int 998244353) = some (.int (z % 998244353)) := fun z => modV_int (by decide)
    have m3 : ∀ z : Int, modV (.int z) (.int 2147483629) = some (.int (z % 2147483629)) := fun z => modV_int (by decide)
    have m4 : ∀ z : Int, modV (.int z) (.int b) = some (.int (z % b)) := fun z => modV_int hb.1
    have d1 : fdivV (.int x3) (.int 13) = some (.int (x3 / 13)) := fdivV_int (by decide)
    have ap := appS_own 3 (e2 modV (eN intV (aC (e2 fdivV (gv 5) (k0 (.int 13))) a0)) (gv 2)) [.d (.int c), .d (.int n), .d (.int b), .own ⟨true, rs⟩, .d (.int k), .d (.int x3)] ⟨true, rs⟩ (.int (x3 / 13 % b)) rfl (by simp [d1, m4]) hl
    simp [B_row, hp, h, t1, t2, m1, q1, t3, t4, m2, q2, t5, t6, m3, q3, ap]
theorem row_loop {n b : Int} (hb : 0 < b ∧ b < 1073741824) : ∀ (xs : List D) (c : Int) (rs : List D) (s4 s5 : Sl), (∀ x ∈ xs, ∃ i, x = .int i) → rs.length + xs.length ≤ lineN → ∃ (c' : Int) (ys : List D) (s4' s5' : Sl), ys.length = xs.length ∧ Below b ys ∧
    loopG (gN 4) B_row xs [.d (.int c), .d (.int n), .d (.int b), .own ⟨true, rs⟩, s4, s5] = .nx [.d (.int c'), .d (.int n), .d (.int b), .own ⟨true, rs ++ ys⟩, s4', s5']
  | [], c, rs, s4, s5, _, _ => ⟨c, [], s4, s5, rfl, fun x m => absurd m List.not_mem_nil, by rw [List.append_nil]; rfl⟩
  | x :: xs, c, rs, s4, s5, h, hl => by
    obtain ⟨k, rfl⟩ := h x List.mem_cons_self
    rw [List.length_cons] at hl
    obtain ⟨c1, i, s51, h1, h2, e⟩ := row_turn (c := c) (n := n) (k := k) (b := b) (rs := rs) (s4 := s4) (s5 := s5) hb (by omega)
    obtain ⟨c2, ys, s4', s5', h3, h4, e2⟩ := row_loop hb xs c1 (rs ++ [.int i]) (.d (.int k)) s51 (fun y m => h y (List.mem_cons_of_mem _ m)) (by rw [List.length_append]; simp; omega)
    refine ⟨c2, .int i :: ys, s4', s5', by rw [List.length_cons, h3, List.length_cons], fun y m => ?_, ?_⟩
    · rcases List.mem_cons.mp m with rfl | m
      · exact ⟨i, rfl, h1, h2⟩
      · exact h4 y m
    · rw [loopG_cons (η1 := [.d (.int c), .d (.int n), .d (.int b), .own ⟨true, rs⟩, .d (.int k), s5]) (h := rfl), e]
      show loopG (gN 4) B_row xs _ = _
      rw [e2, List.append_assoc]
      rfl
theorem row_ok {c b : Int} {n : Nat} (hb : 0 < b ∧ b < 1073741824) (hn : n < 1000000) : ∃ ys : List D, ys.length = n ∧ Below b ys ∧ F_row [.int c, .int (n : Int), .int b] = .ok (.list ys) := by
  obtain ⟨c', ys, s4, s5, h1, h2, e⟩ := row_loop (n := n) hb (rangeD 0 n) c [] .no .no (fun x m => by
    unfold rangeD at m
    obtain ⟨i, _, rfl⟩ := List.mem_map.mp m
    exact ⟨_, rfl⟩) (by
      have h : (rangeD 0 n).length = n := by unfold rangeD; rw [List.length_map, List.length_range]
      rw [h, List.length_nil]
      have := lineN_eq
      omega)
  have hlen : (rangeD 0 n).length = n := by unfold rangeD; rw [List.length_map, List.length_range]
  refine ⟨ys, h1.trans hlen, h2, ?_⟩
  have r : rng1 [.int (n : Int)] = .ok (rangeD 0 n) := by
    rw [rng1_ok (by omega) (by omega), Int.toNat_natCast]
  have o : ownS 3 (lstV a0) [.d (.int c), .d (.int (n : Int)), .d (.int b), .no, .no, .no] = .nx [.d (.int c), .d (.int (n : Int)), .d (.int b), .own ⟨true, []⟩, .no, .no] := by
    rw [ownS_list 3 _ _ [] (by simp)]
    rfl
  rw [List.nil_append] at e
  have g : G_row [.d (.int c), .d (.int (n : Int)), .d (.int b), .no, .no, .no] = .rt (.list ys) [.d (.int c'), .d (.int (n : Int)), .d (.int b), .own ⟨true, ys⟩, s4, s5] := by
    simp [G_row, o, r, e, retO_own 3 [.d (.int c'), .d (.int (n : Int)), .d (.int b), .own ⟨true, ys⟩, s4, s5] ys rfl]
  exact runD_rt _ rfl g
end Lw
end Bd
/-! M1: what may be shown and compared. -/
namespace Bd
open PySem L2

/-- small data without dicts: its depth, its weight -/
structure Fine (k n : Nat) (d : D) : Prop where
  sh : d.showable = true
  nd : d.hasDict = false
  dp : d.depth ≤ k
  ls : d.leavesShort 13 = true
  wt : d.weight ≤ n
  cl : d.canLay0 = true
theorem Fine.mono {k n k' n' : Nat} {d : D} (h : Fine k n d) (hk : k ≤ k') (hn : n ≤ n') : Fine k' n' d := ⟨h.sh, h.nd, Nat.le_trans h.dp hk, h.ls, Nat.le_trans h.wt hn, h.cl⟩
theorem fine_none : Fine 0 0 .none := ⟨by simp only [PyData.showable], by simp only [PyData.hasDict], by simp only [PyData.depth]; exact Nat.le_refl _, by simp only [PyData.leavesShort], by simp only [PyData.weight]; exact Nat.le_refl _, by simp only [PyData.canLay0]⟩
theorem log2_small {n k : Nat} (h : n < 2 ^ k) (hk : 0 < k) : n.log2 < k := by
  by_cases h0 : n = 0
  · subst h0
    exact hk
  · exact (Nat.log2_lt h0).mpr h
theorem fine_int {i : Int} (h1 : -1000000000000 < i) (h2 : i < 1000000000000) : Fine 0 41 (.int i) where
  sh := by
    simp only [PyData.showable, decide_eq_true_eq]
    have := log2_small (n := i.natAbs) (k := 41) (by omega) (by decide)
    omega
  nd := by simp only [PyData.hasDict]
  dp := by simp only [PyData.depth]; exact Nat.le_refl _
  ls := by
    simp only [PyData.leavesShort, decide_eq_true_eq]
    exact PyData.shown_int_le (by omega)
  wt := by
    simp only [PyData.weight]
    split
    · exact Nat.zero_le _
    · have := log2_small (n := i.natAbs) (k := 40) (by omega) (by decide)
      omega
  cl := by simp only [PyData.canLay0]
theorem fineAll {k n : Nat} : ∀ {xs : List D}, (∀ x ∈ xs, Fine k n x) → PyData.showableAll xs = true ∧ PyData.hasDictAll xs = false ∧ PyData.depthAll xs ≤ k ∧ PyData.leavesShortAll 13 xs = true ∧ PyData.weightAll xs ≤ xs.length * (n + 1) ∧ PyData.canLayAll0 xs = true
  | [], _ => ⟨by simp only [PyData.showableAll], by simp only [PyData.hasDictAll], by simp only [PyData.depthAll]; exact Nat.zero_le _, by simp only [PyData.leavesShortAll], by simp only [PyData.weightAll]; exact Nat.zero_le _, by simp only [PyData.canLayAll0]⟩
  | x :: xs, h => by
    obtain ⟨h1, h2, h3, h4, h5, h6⟩ := fineAll fun y m => h y (List.mem_cons_of_mem _ m)
    have f := h x List.mem_cons_self
    have w := f.wt
    have d := f.dp
    refine ⟨?_, ?_, ?_, ?_, ?_, ?_⟩
    · simp only [PyData.showableAll, f.sh, h1, Bool.and_self]
    · simp only [PyData.hasDictAll, f.nd, h2, Bool.or_self]
    · simp only [PyData.depthAll]; omega
    · simp only [PyData.leavesShortAll, f.ls, h4, Bool.and_self]
    · simp only [PyData.weightAll, List.length_cons, Nat.add_mul]
      omega
    · simp only [PyData.canLayAll0, f.cl, h6, Bool.and_self]
theorem fine_list {k n : Nat} {xs : List D} (h : ∀ x ∈ xs, Fine k n x) : Fine (k + 1) (xs.length * (n + 1)) (.list xs) := by
  obtain ⟨h1, h2, h3, h4, h5, h6⟩ := fineAll h
  exact ⟨by simp only [PyData.showable, h1], by simp only [PyData.hasDict, h2], by simp only [PyData.depth]; omega, by simp only [PyData.leavesShort, h4], by simp only [PyData.weight]; exact h5, by simp only [PyData.canLay0, h6]⟩
theorem fine_tuple {k n : Nat} {xs : List D} (h : ∀ x ∈ xs, Fine k n x) : Fine (k + 1) (xs.length * (n + 1)) (.tuple xs) := by
  obtain ⟨h1, h2, h3, h4, h5, h6⟩ := fineAll h
  exact ⟨by simp only [PyData.showable, h1], by simp only [PyData.hasDict, h2], by simp only [PyData.depth]; omega, by simp only [PyData.leavesShort, h4], by simp only [PyData.weight]; exact h5, by simp only [PyData.canLay0, h6]⟩
theorem Fine.repr {k n : Nat} {d : D} (h : Fine k n d) (hk : k ≤ 64) (hn : n ≤ 1048576) : reprV [d] = some (.str d.shown) := by
  show (if d.showable = true ∧ d.hasDict = false ∧ d.depth ≤ 64 ∧ d.shown.length ≤ lineN then some (PyData.str d.shown) else none) = _
  have w : d.shown.length ≤ sizeLine := PyData.shown_fits (B := 13) (by decide) (by decide) h.ls (by have := h.wt; omega)
  rw [line_eq] at w
  have := h.dp
  rw [if_pos ⟨h.sh, h.nd, by omega, w⟩]
theorem Fine.shaped {k n : Nat} {d : D} (h : Fine k n d) (hk : k ≤ 64) : SeqAt.shaped d = true := by
  unfold SeqAt.shaped
  have := h.dp
  rw [h.cl, Bool.true_and, decide_eq_true_eq]
  omega
@[simp] theorem eqV_str (a b : Str) : eqV' (.str a) (.str b) = some (.bool (decide (a = b))) := Eq.trans rfl rfl
@[simp] theorem neV_str (a b : Str) : neV' (.str a) (.str b) = some (.bool (!decide (a = b))) := Eq.trans rfl rfl
theorem eqV_int (i j : Int) : eqV' (.int i) (.int j) = some (.bool (i == j)) := by
  show (if SeqAt.shaped (.int i) = true ∧ SeqAt.shaped (.int j) = true then some (PyData.bool (PyData.eqv (.int i) (.int j))) else none) = _
  have s : ∀ k : Int, SeqAt.shaped (.int k) = true := fun k => by
    unfold SeqAt.shaped
    simp only [PyData.canLay0, PyData.depth]
    rfl
  rw [if_pos ⟨s i, s j⟩]
  unfold PyData.eqv
  rfl
end Bd
/-! M2: ints in lists, slices, isinstance; names picked once and sorted. -/
namespace Bd
open PySem L2

/-! ### slices -/
theorem cut_take (xs : List D) (k : Int) (h : 0 ≤ k) : cutD xs none (some k) = xs.take k.toNat := by
  unfold cutD
  have e1 : HT.sIx xs.length 0 none = 0 := rfl
  have e2 : HT.sIx xs.length xs.length (some k) = min k.toNat xs.length := by
    show (if k < 0 then (k + (xs.length : Int)).toNat else min k.toNat xs.length) = _
    rw [if_neg (by omega)]
  rw [e1, e2, List.drop_zero, Nat.sub_zero, ← List.take_eq_take_min]
theorem cut_drop (xs : List D) (k : Int) (h : 0 ≤ k) : cutD xs (some k) none = xs.drop k.toNat := by
  unfold cutD
  have e1 : HT.sIx xs.length xs.length none = xs.length := rfl
  have e2 : HT.sIx xs.length 0 (some k) = min k.toNat xs.length := by
    show (if k < 0 then (k + (xs.length : Int)).toNat else min k.toNat xs.length) = _
    rw [if_neg (by omega)]
  rw [e1, e2]
  by_cases hk : k.toNat ≤ xs.length
  · rw [Nat.min_eq_left hk]
    exact List.take_of_length_le (by rw [List.length_drop]; exact Nat.le_refl _)
  · rw [Nat.min_eq_right (by omega), List.drop_length, List.drop_eq_nil_of_le (by omega)]
    simp
@[simp] theorem slV_list (lo hi : Option Int) (xs : List D) : slV lo hi (.list xs) = some (.list (cutD xs lo hi)) := Eq.trans rfl rfl
@[simp] theorem slV_tup (lo hi : Option Int) (xs : List D) : slV lo hi (.tuple xs) = some (.tuple (cutD xs lo hi)) := Eq.trans rfl rfl
@[simp] theorem slL_list (lo hi : Option Int) (xs : List D) : slL lo hi (.list xs) = some (.list (cutD xs lo hi)) := Eq.trans rfl rfl
@[simp] theorem revV_tup (xs : List D) : revV (.tuple xs) = some (.tuple xs.reverse) := Eq.trans rfl rfl
@[simp] theorem revV_list (xs : List D) : revV (.list xs) = some (.list xs.reverse) := Eq.trans rfl rfl
@[simp] theorem tupleV_list (xs : List D) : tupleV [.list xs] = some (.tuple xs) := Eq.trans rfl rfl
@[simp] theorem listV_list (xs : List D) : listV [.list xs] = some (.list xs) := Eq.trans rfl rfl
@[simp] theorem listV_tup (xs : List D) : listV [.tuple xs] = some (.list xs) := Eq.trans rfl rfl
theorem addV_list {xs ys : List D} (h : xs.length + ys.length ≤ 16777216) : addV (.list xs) (.list ys) = some (.list (xs ++ ys)) := if_pos (by rw [lineN_eq]; exact h)
/-! ### ints in lists -/
theorem shaped_int (i : Int) : SeqAt.shaped (.int i) = true := by
  unfold SeqAt.shaped
  simp only [PyData.canLay0, PyData.depth]
  rfl
theorem ints_lay : ∀ l : List Int, PyData.canLayAll0 (l.map PyData.int) = true ∧ PyData.depthAll (l.map PyData.int) = 0
  | [] => ⟨by simp only [List.map_nil, PyData.canLayAll0], by simp only [List.map_nil, PyData.depthAll]⟩
  | x :: r => by
    obtain ⟨h1, h2⟩ := ints_lay r
    exact ⟨by simp only [List.map_cons, PyData.canLayAll0, PyData.canLay0, h1, Bool.and_self], by simp only [List.map_cons, PyData.depthAll, PyData.depth, h2]; rfl⟩
theorem any_ints (a : Int) : ∀ l : List Int, ((l.map PyData.int).any fun z => PyData.eqv z (.int a)) = l.any (· == a)
  | [] => rfl
  | x :: r => by
    rw [List.map_cons, List.any_cons, List.any_cons, any_ints a r]
    unfold PyData.eqv
    rfl
theorem bools?_map : ∀ l : List Bool, bools? (l.map PyData.bool) = some l
  | [] => rfl
  | x :: r => by
    show (bools? (r.map PyData.bool)).map (x :: ·) = _
    rw [bools?_map r]
    rfl
theorem all_bools (l : List Bool) : allV [.list (l.map PyData.bool)] = some (.bool (l.all id)) := by
  show (bools? (l.map PyData.bool)).map _ = _
  rw [bools?_map]
  rfl
/-! ### isinstance -/
def kInt : D → Bool
  | .int _ => true
  | .bool _ => true
  | _ => false
def kBool : D → Bool
  | .bool _ => true
  | _ => false
def kTup : D → Bool
  | .tuple _ => true
  | _ => false
theorem isi_int (d : D) : isiV "int" d = some (.bool (kInt d)) := by
  have h : ∀ s, kitB s "int" = some (s == "int" || s == "bool") → (kitB s "int").map PyData.bool = some (.bool (s == "int" || s == "bool")) := fun s e => by rw [e]; rfl
  cases d <;> (refine (h _ ?_).trans ?_ <;> first | rfl | decide +kernel)
theorem isi_bool (d : D) : isiV "bool" d = some (.bool (kBool d)) := by
  have h : ∀ s, kitB s "bool" = some (s == "bool") → (kitB s "bool").map PyData.bool = some (.bool (s == "bool")) := fun s e => by rw [e]; rfl
  cases d <;> (refine (h _ ?_).trans ?_ <;> first | rfl | decide +kernel)
theorem isi_tuple (d : D) : isiV "tuple" d = some (.bool (kTup d)) := by
  have h : ∀ s, kitB s "tuple" = some (s == "tuple") → (kitB s "tuple").map PyData.bool = some (.bool (s == "tuple")) := fun s e => by rw [e]; rfl
  cases d <;> (refine (h _ ?_).trans ?_ <;> first | rfl | decide +kernel)
/-! ### names picked once, sorted -/
def once (p : List Int) : List Int := ((List.range p.length).filter fun i => !(p.take i).any (· == p.getD i 0)).map fun i => p.getD i 0
theorem asc_sort {l : List Int} (h : l.Nodup) : (isort l).Pairwise (· < ·) := by
  have s := isort_sorted l
  have n : (isort l).Nodup := (isort_perm l).nodup_iff.mpr h
  exact (s.and n).imp fun z => by obtain ⟨z1, z2⟩ := z; omega
end Bd
/-! M3: the law's deck: a list of five that each draw changes. -/
namespace Bd
open PySem L2

/-! ### reckoning with lists that change -/
theorem up_ok {F : Nv → R D} {η : Nv} {d : D} (h : F η = .ok d) : up F η = .ok (d, η) := by
  unfold up
  rw [h]
theorem seq_nx {Gs Gt : Nv → Rs} {η η1 : Nv} (h : Gs η = .nx η1) : seqS Gs Gt η = Gt η1 := by
  rw [seqS_def, h]
  rfl
theorem xPutS_ok {i : Nat} {F : Nv → R (D × Nv)} {Fi : Nv → R D} {η η1 : Nv} {y : D} {xs : OL} {j : Int} {m : Nat} (h1 : F η = .ok (y, η1)) (h2 : η1[i]? = some (.own xs)) (h3 : Fi η1 = .ok (.int j)) (h4 : ixN xs.l.length j = some m) : xPutS i F Fi η = .nx (η1.set i (.own ⟨xs.b, xs.l.set m y⟩)) := by
  unfold xPutS
  rw [h1]
  show (match η1[i]? with
    | some (.own _) => (only (Fi η1)).toS (putAt i y η1)
    | _ => .no) = _
  rw [h2, h3]
  show putAt i y η1 (.int j) = _
  unfold putAt
  rw [h2]
  show (match ixN xs.l.length j with
    | some m => Rs.nx (η1.set i (.own ⟨xs.b, xs.l.set m y⟩))
    | none => .no) = _
  rw [h4]
theorem frz_ok {i : Nat} {η : Nv} {xs : List D} (h : η[i]? = some (.own ⟨true, xs⟩)) : frzS i η = .nx (η.set i (.d (.list xs))) := by
  unfold frzS
  rw [h]
  rfl
/-! ### the deck -/
namespace Dk
def G_draw : Nv → Rs :=
    (seqS (ifS (andB (tb (e2 eqV' (e2 ixV (go 0) (k0 (.int 0))) (k0 (.int 0)))) (tb (e2 ltA (e2 ixV (go 0) (k0 (.int 1))) (eN lenV (aC (e2 ixV (go 0) (k0 (.int 3))) a0))))) (seqS (xPutS 0 (up (eN absV' (aC (e2 ixV (e2 ixV (go 0) (k0 (.int 3))) (e2 ixV (go 0) (k0 (.int 1)))) a0))) (k0 (.int 0)))
    (seqS (xPutS 0 (up (e2 addV (e2 ixV (go 0) (k0 (.int 1))) (k0 (.int 1)))) (k0 (.int 1)))
    .nx)) (seqS (ifS (tb (e2 eqV' (e2 ixV (go 0) (k0 (.int 0))) (k0 (.int 0)))) (seqS (xPutS 0 (up (e2 addV (e2 ixV (go 0) (k0 (.int 4))) (k0 (.int 1)))) (k0 (.int 4)))
    (seqS (setS 2 (e2 modV (eN intV (aC (e2 addV (e2 addV (e2 mulV (e2 ixV (go 0) (k0 (.int 2))) (k0 (.int 48271))) (e2 mulV (e2 ixV (go 0) (k0 (.int 4))) (k0 (.int 69621)))) (k0 (.int 12345))) a0)) (k0 (.int 2147483647))))
    (seqS (setS 2 (e2 modV (eN intV (aC (e2 addV (e2 addV (e2 mulV (gv 2) (gv 2)) (e2 mulV (k0 (.int 16807)) (e2 ixV (go 0) (k0 (.int 4))))) (k0 (.int 7))) a0)) (k0 (.int 998244353))))
    (seqS (setS 2 (e2 modV (eN intV (aC (e2 addV (e2 addV (e2 mulV (gv 2) (gv 2)) (e2 mulV (k0 (.int 48271)) (e2 ixV (go 0) (k0 (.int 4))))) (e2 ixV (go 0) (k0 (.int 2)))) a0)) (k0 (.int 2147483629))))
    (seqS (xPutS 0 (up (e2 fdivV (gv 2) (k0 (.int 13)))) (k0 (.int 0)))
    .nx))))) .nx)
    .nx))
    (seqS (setS 3 (e2 modV (eN intV (aC (e2 ixV (go 0) (k0 (.int 0))) a0)) (gv 1)))
    (seqS (xPutS 0 (up (e2 fdivV (e2 ixV (go 0) (k0 (.int 0))) (gv 1))) (k0 (.int 0)))
    (seqS (retS (gv 3))
    .nx))))
def F_draw : List D → List D → R (D × List D) := runK 4 G_draw
def mk (v p s : Int) (cells : List Int) (c : Int) : List D := [.int v, .int p, .int s, .list (cells.map PyData.int), .int c]
theorem at0 (v p s : Int) (l : List Int) (c : Int) : atD (mk v p s l c) 0 = some (.int v) := rfl
theorem at1 (v p s : Int) (l : List Int) (c : Int) : atD (mk v p s l c) 1 = some (.int p) := rfl
theorem at2 (v p s : Int) (l : List Int) (c : Int) : atD (mk v p s l c) 2 = some (.int s) := rfl
theorem tail_ok {v p s b c : Int} {l : List Int} {s2 s3 : Sl} (hv : 0 ≤ v) (hb : 0 < b ∧ b < 1073741824) : (seqS (setS 3 (e2 modV (eN intV (aC (e2 ixV (go 0) (k0 (.int 0))) a0)) (gv 1))) (seqS (xPutS 0 (up (e2 fdivV (e2 ixV (go 0) (k0 (.int 0))) (gv 1))) (k0 (.int 0))) (seqS (retS (gv 3)) .nx))) [.own ⟨false, mk v p s l c⟩, .d (.int b), s2, s3] = .rt (.int (v % b)) [.own ⟨false, mk (v / b) p s l c⟩, .d (.int b), s2, .d (.int (v % b))] := by
  have m : modV (.int v) (.int b) = some (.int (v % b)) := modV_int hb.1
  have q : fdivV (.int v) (.int b) = some (.int (v / b)) := fdivV_int hb
  rw [seq_nx (η1 := [.own ⟨false, mk v p s l c⟩, .d (.int b), s2, .d (.int (v % b))]) (by simp [at0, m])]
  rw [seq_nx (η1 := [.own ⟨false, mk (v / b) p s l c⟩, .d (.int b), s2, .d (.int (v % b))]) (by
    rw [xPutS_ok (xs := ⟨false, mk v p s l c⟩) (y := .int (v / b)) (j := 0) (m := 0) (up_ok (by simp [at0, q])) rfl rfl rfl]
    rfl)]
  simp
end Dk
end Bd
/-! M4: sums of ascending lists of ints. -/
namespace Bd
open PySem L2

def Asc (l : List Int) : Prop := l.Pairwise (· < ·)
def notIn (b : List Int) (x : Int) : Bool := !b.any (· == x)
theorem notIn_iff {b : List Int} {x : Int} : notIn b x = true ↔ x ∉ b := by
  unfold notIn
  rw [Bool.not_eq_true', List.any_eq_false]
  exact ⟨fun h m => h x m (beq_self_eq_true x), fun h y m e => h (by rw [← eq_of_beq e]; exact m)⟩
def sumL (a b : List Int) : List Int := isort (a.filter (notIn b) ++ b.filter (notIn a))
theorem mem_sumL {a b : List Int} {x : Int} : x ∈ sumL a b ↔ (x ∈ a ∧ x ∉ b) ∨ (x ∈ b ∧ x ∉ a) := by
  unfold sumL
  rw [(isort_perm _).mem_iff, List.mem_append, List.mem_filter, List.mem_filter, notIn_iff, notIn_iff]
theorem Asc.nodup {l : List Int} (h : Asc l) : l.Nodup := h.imp fun z => by omega
theorem sumL_asc {a b : List Int} (ha : Asc a) (hb : Asc b) : Asc (sumL a b) := by
  refine asc_sort (List.nodup_append.mpr ⟨ha.nodup.filter _, hb.nodup.filter _, fun x hx y hy e => ?_⟩)
  have h1 := (List.mem_filter.mp hx).2
  have h2 := (List.mem_filter.mp hy).1
  subst e
  exact notIn_iff.mp h1 h2
theorem asc_ext : ∀ {a b : List Int}, Asc a → Asc b → (∀ x, x ∈ a ↔ x ∈ b) → a = b
  | [], [], _, _, _ => rfl
  | [], y :: b, _, _, h => absurd ((h y).mpr List.mem_cons_self) List.not_mem_nil
  | x :: a, [], _, _, h => absurd ((h x).mp List.mem_cons_self) List.not_mem_nil
  | x :: a, y :: b, ha, hb, h => by
    obtain ⟨ha1, ha2⟩ := List.pairwise_cons.mp ha
    obtain ⟨hb1, hb2⟩ := List.pairwise_cons.mp hb
    have e : x = y := by
      rcases List.mem_cons.mp ((h x).mp List.mem_cons_self) with e | m
      · exact e
      · rcases List.mem_cons.mp ((h y).mpr List.mem_cons_self) with e | m2
        · exact e.symm
        · have := hb1 x m
          have := ha1 y m2
          omega
    subst e
    rw [asc_ext ha2 hb2 fun z => ?_]
    have hz := h z
    rw [List.mem_cons, List.mem_cons] at hz
    constructor
    · intro m
      rcases hz.mp (.inr m) with e | m'
      · have := ha1 z m
        omega
      · exact m'
    · intro m
      rcases hz.mpr (.inr m) with e | m'
      · have := hb1 z m
        omega
      · exact m'
theorem sumL_comm {a b : List Int} (ha : Asc a) (hb : Asc b) : sumL a b = sumL b a := asc_ext (sumL_asc ha hb) (sumL_asc hb ha) fun x => by rw [mem_sumL, mem_sumL]; exact Or.comm
theorem sumL_assoc {a b c : List Int} (ha : Asc a) (hb : Asc b) (hc : Asc c) : sumL (sumL a b) c = sumL a (sumL b c) := asc_ext (sumL_asc (sumL_asc ha hb) hc) (sumL_asc ha (sumL_asc hb hc)) fun x => by
  simp only [mem_sumL]
  by_cases h1 : x ∈ a <;> by_cases h2 : x ∈ b <;> by_cases h3 : x ∈ c <;> simp [h1, h2, h3]
theorem sumL_nil {a : List Int} (ha : Asc a) : sumL [] a = a := asc_ext (sumL_asc .nil ha) ha fun x => by
  rw [mem_sumL]
  simp
theorem sumL_self {a : List Int} (ha : Asc a) : sumL a a = [] := asc_ext (sumL_asc ha ha) .nil fun x => by
  rw [mem_sumL]
  simp
/-! ### as data -/
def tupI (l : List Int) : D := .tuple (l.map PyData.int)
theorem shaped_tup (l : List Int) : SeqAt.shaped (tupI l) = true := by
  unfold SeqAt.shaped tupI
  obtain ⟨h1, h2⟩ := ints_lay l
  simp only [PyData.canLay0, PyData.depth, h1, h2]
  rfl
theorem ints_flat : ∀ l : List Int, (l.map PyData.int).all flatD = true
  | [] => rfl
  | x :: r => by
    rw [List.map_cons, List.all_cons, ints_flat r]
    rfl
theorem notin_tup (a : Int) (l : List Int) : ninV' (.int a) (tupI l) = some (.bool (notIn l a)) := by
  show (if flatD (.int a) = true ∧ (l.map PyData.int).all flatD = true then some ((l.map PyData.int).any fun z => PyData.eqv z (.int a)) else none).map (fun b => PyData.bool !b) = _
  rw [if_pos ⟨rfl, ints_flat l⟩, any_ints]
  rfl
end Bd
/-! X0: the table of a set, laid anew: every slot is met, so each element finds room. -/
namespace Bd
open PySem L2

/-! ### the way through the slots -/
/-! ### a free slot is found -/
/-! ### the elements, one after another -/
structure Sits (m k : Nat) (owner : Array (Option Nat)) : Prop where
  sz : owner.size = m + 1
  pm : (owner.toList.filterMap id).Perm (List.range k)
end Bd
/-! X1: s ^ t of two sets of ints. -/
namespace Bd
open PySem L2 PySem.Spec PyProof.Rows

/-- the set at a as it stands: its parts -/
structure SetS (w : World) (h : Heap) (a : Addr) (o : Obj) (es : Array (Int × Value)) (ep : Nat) (t : SetTable) : Prop where
  ob : h.get? a = some o
  ex : o.ExactSet
  da : o.data = .set es ep t
  gd : ∀ e ∈ es.toList, GoodE e
  nd : (es.toList.map keyOf).Nodup
  sb : es.size < scanBound
  ft : t.fits es.size = true
  ri : Ris t.place.toList
  ld : w.params.followText "set-order" = true ∨ t.led = true
/-- its members -/
def mem (es : Array (Int × Value)) (k : Int) : Bool := decide (k ∈ es.toList.map keyOf)
section
variable {P : Program} {w : World} {A : Around} {E : Value → Shared → Prop} {s : Shared} {a f : Addr} {o og : Obj} {es ef : Array (Int × Value)} {ep epf : Nat} {t tf : SetTable}
theorem SetS.r (R : SetS w s.heap a o es ep t) {S : Int → Bool} (hS : ∀ k, S k = mem es k) : SetR w s.heap a S es.size :=
  ⟨o, es, ep, t, R.ob, R.ex, R.da, R.gd, R.nd, fun k => by rw [hS]; exact decide_eq_true_iff, R.sb, R.ft, rfl, R.ri, R.ld⟩
theorem SetS.of {S : Int → Bool} {n : Nat} {h : Heap} (R : SetR w h a S n) : ∃ o es ep t, SetS w h a o es ep t ∧ es.size = n ∧ ∀ k, S k = mem es k := by
  obtain ⟨o, es, ep, t, h1, h2, h3, h4, h5, h6, h7, h8, h9, h10, h11⟩ := R
  refine ⟨o, es, ep, t, ⟨h1, h2, h3, h4, h5, h7, h8, h10, h11⟩, h9, fun k => ?_⟩
  rw [Bool.eq_iff_iff, h6 k]
  exact decide_eq_true_iff.symm
theorem SetS.at (R : SetS w s.heap a o es ep t) {h : Heap} (e : h.get? a = s.heap.get? a) : SetS w h a o es ep t := { R with ob := e.trans R.ob }
theorem SetS.lt (R : SetS w s.heap a o es ep t) : a < s.heap.objs.size := Heap.lt_size R.ob
theorem SetS.ty (R : SetS w s.heap a o es ep t) : s.TypeIs (.ref a) "set" := ⟨o, R.ob, R.ex.1⟩

/-! ### one taken out -/
/-! ### the walk over one set while another one is filled -/
end
end Bd
/-! X2: s ^ t of two sets of ints: the copy of the one, the other's members turned. -/
namespace Bd
open PySem L2 PySem.Spec PyProof.Rows

section
variable {P : Program} {w : World} {A : Around} {E : Value → Shared → Prop} {s : Shared} {a f : Addr} {o og : Obj} {es ef : Array (Int × Value)} {ep epf : Nat} {t tf : SetTable}

end
end Bd
/-! X3: sets of ints over the hand layer: set(t), s ^ t. -/
namespace Bd
open PySem L2 PySem.Spec PyProof.Rows

section
variable {X : Cx}
end
end Bd
/-! X4: s ^ t of two sets of ints over the hand layer. -/
namespace Bd
open PySem L2 PySem.Spec PyProof.Rows

section
variable {P : Program} {w : World} {A : Around} {E : Value → Shared → Prop} {s : Shared} {a b : Addr} {o og : Obj} {es ef : Array (Int × Value)} {ep epf : Nat} {t tf : SetTable}
end
section
variable {X : Cx}
end
section
variable {P : Program} {w : World} {A : Around} {E : Value → Shared → Prop} {s : Shared} {a : Addr} {o : Obj} {es : Array (Int × Value)} {ep : Nat} {t : SetTable}
end
section
variable {X : Cx}
end
end Bd
/-! D21: sorted(set(a) ^ set(b)), sorted(set(a)), by data. -/
namespace Bd
open PySem L2

section
variable {X : Cx} {W : WX} {a b : Expr} {Fa Fb : Nv → R D} {pos q1 q2 q3 p p1 p2 : Pos}
theorem vals_ints {K : PySem.W.Frag} {H : Hp} : ∀ {vs : List V} {l : List Int}, DpAll K H vs (l.map PyData.int) → vs = l.map V.int
  | [], [], _ => rfl
  | _ :: _, [], h => by cases h
  | [], _ :: _, h => by cases h
  | v :: vs, k :: l, h => by
    cases h with
    | cons h1 h2 =>
      cases h1
      rw [vals_ints h2]
      rfl
/-! ### reckoned -/
end
end Bd
/-! D22: a def called with a list of the caller's own: what it answers holds no list, so it can't be that one. -/
namespace Bd
open PySem L2

mutual
/-- no list within -/
def flatT : D → Bool
  | .none => true
  | .bool _ => true
  | .int _ => true
  | .str _ => true
  | .list _ => false
  | .tuple ds => flatTs ds
  | .dict _ => false
def flatTs : List D → Bool
  | [] => true
  | d :: ds => flatT d && flatTs ds
end
section
variable {K : PySem.W.Frag} {H : Hp} {A B : List Addr}
theorem rd_hide {a : Addr} {xs : List V} (hl : ∀ b ∈ A, b ∉ B → ∃ ys, H b = some (.lst ys)) (h : SqT K (hid B H) a xs) : SqT K (hid A H) a xs := by
  have key : ∀ o, (∀ ys, o ≠ HO.lst ys) → hid B H a = some o → hid A H a = some o := fun o no e => by
    obtain ⟨n, e⟩ := hid_some e
    rw [hid_out fun m => ?_]
    · exact e
    · obtain ⟨ys, z⟩ := hl a m n
      rw [e] at z
      exact no ys (Option.some.inj z)
  rcases h with (h | ⟨o, h⟩) | h
  · exact .inl (.inl (key _ (fun ys z => nomatch z) h))
  · exact .inl (.inr ⟨o, key _ (fun ys z => nomatch z) h⟩)
  · exact .inr h
mutual
theorem dp_hide (hl : ∀ b ∈ A, b ∉ B → ∃ ys, H b = some (.lst ys)) : ∀ (d : D) (v : V), flatT d = true → Dp K (hid B H) v d → Dp K (hid A H) v d
  | .none, _, _, h => by cases h; exact .non
  | .bool b, _, _, h => by cases h; exact .bl b
  | .int i, _, _, h => by cases h; exact .int i
  | .str x, _, _, h => by cases h; exact .str x
  | .list ds, _, f, _ => by simp [flatT] at f
  | .tuple ds, _, f, h => by
    cases h with
    | tup h1 h2 => exact .tup (rd_hide hl h1) (dps_hide hl ds _ (by simpa [flatT] using f) h2)
  | .dict _, _, f, _ => by simp [flatT] at f
theorem dps_hide (hl : ∀ b ∈ A, b ∉ B → ∃ ys, H b = some (.lst ys)) : ∀ (ds : List D) (vs : List V), flatTs ds = true → DpAll K (hid B H) vs ds → DpAll K (hid A H) vs ds
  | [], _, _, h => by cases h; exact .nil
  | d :: ds, _, f, h => by
    cases h with
    | cons h1 h2 =>
      rw [flatTs, Bool.and_eq_true] at f
      exact .cons (dp_hide hl d _ f.1 h1) (dps_hide hl ds _ f.2 h2)
end
end
section
variable {X : Cx} {W : WX} {rl : Rl} {e : Expr} {es : List Expr} {x : Str} {p pos : Pos} {f : Addr} {fd : FuncData} {ps : List Str} {k n : Nat} {Fn : List D → R D} {Fs : Nv → R (List D)}
end
end Bd
/-! M5: what the program's sums tell. -/
namespace Bd
open PySem L2
namespace Pg
end Pg
end Bd
/-! M6: what is wanted of an answer, part by part. -/
namespace Bd
open PySem L2

/-- the answer is there and Q holds of it -/
@[irreducible] def Wn {α : Type} (r : R α) (Q : α → Prop) : Prop := match r with
  | .ok a => Q a
  | _ => False
/-- a statement's end: N behind it, T where it returns, B where it breaks off, C where it goes on -/
@[irreducible] def Sn (r : Rs) (N : Nv → Prop) (T : D → Nv → Prop) (B C : Nv → Prop) : Prop := match r with
  | .nx η => N η
  | .rt d η => T d η
  | .bk η => B η
  | .ct η => C η
  | _ => False
theorem Wn.get {α : Type} {r : R α} {Q : α → Prop} (h : Wn r Q) : ∃ a, r = .ok a ∧ Q a := by
  unfold Wn at h
  cases r with
  | ok a => exact ⟨a, rfl, h⟩
  | ex c w p => exact h.elim
  | no => exact h.elim
theorem Wn.mk {α : Type} {r : R α} {Q : α → Prop} {a : α} (e : r = .ok a) (h : Q a) : Wn r Q := by
  rw [e]
  unfold Wn
  exact h
theorem Wn.imp {α : Type} {r : R α} {P Q : α → Prop} (h : Wn r P) (k : ∀ a, P a → Q a) : Wn r Q := by
  obtain ⟨a, e, p⟩ := h.get
  exact .mk e (k a p)
theorem Sn.imp {r : Rs} {N N' B B' C C' : Nv → Prop} {T T' : D → Nv → Prop} (h : Sn r N T B C) (kN : ∀ η, N η → N' η) (kT : ∀ d η, T d η → T' d η) (kB : ∀ η, B η → B' η) (kC : ∀ η, C η → C' η) : Sn r N' T' B' C' := by
  unfold Sn at h ⊢
  cases r with
  | nx η => exact kN η h
  | rt d η => exact kT d η h
  | bk η => exact kB η h
  | ct η => exact kC η h
  | ex c w p => exact h.elim
  | no => exact h.elim
section
variable {α β : Type} {Q : α → Prop} {QD : D → Prop} {QX : D × Nv → Prop} {QB : Bool → Prop} {QY : Bool × Nv → Prop} {QL : List D → Prop} {QM : List D × Nv → Prop} {η : Nv} {N B C : Nv → Prop} {T : D → Nv → Prop}
theorem wn_ok {a : α} : Wn (.ok a) Q ↔ Q a := by first | (unfold Wn; exact Iff.rfl) | (unfold Sn; exact Iff.rfl)
theorem wn_no : Wn (R.no : R α) Q ↔ False := by unfold Wn; exact Iff.rfl
theorem sn_no : Sn .no N T B C ↔ False := by unfold Sn; exact Iff.rfl
theorem sn_nx' : Sn (.nx η) N T B C ↔ N η := by unfold Sn; exact Iff.rfl
theorem wn_bind {r : R β} {f : β → R α} : Wn (r.bind f) Q ↔ Wn r fun b => Wn (f b) Q := by first | (unfold Wn; cases r <;> exact Iff.rfl) | (unfold Sn Wn; cases r <;> exact Iff.rfl)
theorem wn_some {d : D} : Wn (.of (some d)) QD ↔ QD d := by first | (unfold Wn; exact Iff.rfl) | (unfold Sn; exact Iff.rfl)
theorem wn_of {o : Option D} : Wn (.of o) QD ↔ ∃ d, o = some d ∧ QD d := by
  cases o with
  | none => exact ⟨fun h => (wn_no.mp h).elim, fun ⟨_, h, _⟩ => nomatch h⟩
  | some d => exact ⟨fun h => ⟨d, rfl, wn_some.mp h⟩, fun ⟨_, h, q⟩ => by cases h; exact wn_some.mpr q⟩
theorem wn_only {r : R α} : Wn (only r) Q ↔ Wn r Q := by first | (unfold Wn; cases r <;> exact Iff.rfl) | (unfold Sn Wn; cases r <;> exact Iff.rfl)
theorem wn_noex {r : R D} : Wn (noex r) QD ↔ Wn r QD := by first | (unfold Wn; cases r <;> exact Iff.rfl) | (unfold Sn Wn; cases r <;> exact Iff.rfl)
/-! expressions that change nothing -/
theorem wn_e2 {f : D → D → Option D} {Fa Fb : Nv → R D} : Wn (e2 f Fa Fb η) QD ↔ Wn (Fa η) fun a => Wn (Fb η) fun b => Wn (.of (f a b)) QD := by
  rw [e2_def, wn_bind]
  simp only [wn_bind]
theorem wn_e1 {f : D → Option D} {Fa : Nv → R D} : Wn (e1 f Fa η) QD ↔ Wn (Fa η) fun a => Wn (.of (f a)) QD := wn_bind
theorem wn_eN {f : List D → Option D} {Fs : Nv → R (List D)} : Wn (eN f Fs η) QD ↔ Wn (Fs η) fun a => Wn (.of (f a)) QD := wn_bind
theorem wn_a0 : Wn (a0 η) QL ↔ QL [] := by first | (unfold Wn; exact Iff.rfl) | (unfold Sn; exact Iff.rfl)
theorem wn_aC {Fa : Nv → R D} {Fs : Nv → R (List D)} : Wn (aC Fa Fs η) QL ↔ Wn (Fa η) fun a => Wn (Fs η) fun as => QL (a :: as) := by
  rw [aC_def, wn_bind]
  simp only [wn_bind, wn_ok]
theorem wn_call {Fn : List D → R D} {Fs : Nv → R (List D)} : Wn (callV Fn Fs η) QD ↔ Wn (Fs η) fun ds => Wn (Fn ds) QD := by
  rw [callV_def, wn_bind]
  simp only [wn_noex]
theorem wn_tb {F : Nv → R D} : Wn (tb F η) QB ↔ Wn (F η) fun d => Wn (tru d) QB := wn_bind
theorem wn_tup {Fs : Nv → R (List D)} : Wn (tupV Fs η) QD ↔ Wn (Fs η) fun ds => ds.length ≤ lineN ∧ QD (.tuple ds) := by
  rw [tupV_def, wn_bind]
  simp only [wn_of]
  constructor <;> refine fun h => h.imp fun ds h => ?_
  · obtain ⟨d, e, q⟩ := h
    split at e
    · rename_i z
      cases e
      exact ⟨z, q⟩
    · cases e
  · exact ⟨_, if_pos h.1, h.2⟩
theorem wn_lst {Fs : Nv → R (List D)} : Wn (lstV Fs η) QD ↔ Wn (Fs η) fun ds => ds.length ≤ lineN ∧ QD (.list ds) := by
  rw [lstV_def, wn_bind]
  simp only [wn_of]
  constructor <;> refine fun h => h.imp fun ds h => ?_
  · obtain ⟨d, e, q⟩ := h
    split at e
    · rename_i z
      cases e
      exact ⟨z, q⟩
    · cases e
  · exact ⟨_, if_pos h.1, h.2⟩
theorem wn_ite {c : Prop} [Decidable c] {a b : R α} : Wn (if c then a else b) Q ↔ if c then Wn a Q else Wn b Q := by
  split <;> exact Iff.rfl
theorem wn_andB {Ga Gb : Nv → R Bool} : Wn (andB Ga Gb η) QB ↔ Wn (Ga η) fun k => if k = true then Wn (Gb η) QB else QB false := by
  rw [andB_def, wn_bind]
  simp only [wn_ite, wn_ok]
theorem wn_orB {Ga Gb : Nv → R Bool} : Wn (orB Ga Gb η) QB ↔ Wn (Ga η) fun k => if k = true then QB true else Wn (Gb η) QB := by
  rw [orB_def, wn_bind]
  simp only [wn_ite, wn_ok]
theorem wn_notB {Ga : Nv → R Bool} : Wn (notB Ga η) QB ↔ Wn (Ga η) fun k => QB !k := by
  rw [notB_def, wn_bind]
  simp only [wn_ok]
theorem wn_andV {Fa Fb : Nv → R D} : Wn (andV Fa Fb η) QD ↔ Wn (Fa η) fun x => Wn (tru x) fun k => if k = true then Wn (Fb η) QD else QD x := by
  rw [andV_def, wn_bind]
  simp only [wn_bind, wn_ite, wn_ok]
theorem wn_orV {Fa Fb : Nv → R D} : Wn (orV Fa Fb η) QD ↔ Wn (Fa η) fun x => Wn (tru x) fun k => if k = true then QD x else Wn (Fb η) QD := by
  rw [orV_def, wn_bind]
  simp only [wn_bind, wn_ite, wn_ok]
theorem wn_notV {Fa : Nv → R D} : Wn (notV Fa η) QD ↔ Wn (Fa η) fun x => Wn (tru x) fun k => QD (.bool !k) := by
  rw [notV_def, wn_bind]
  simp only [wn_bind, wn_ok]
theorem wn_ifV {G : Nv → R Bool} {Fa Fb : Nv → R D} : Wn (ifV G Fa Fb η) QD ↔ Wn (G η) fun k => if k = true then Wn (Fa η) QD else Wn (Fb η) QD := by
  rw [ifV_def, wn_bind]
  simp only [wn_ite]
theorem wn_iA {F : Nv → R D} : Wn (iA F η) QL ↔ Wn (F η) fun d => Wn (asSeq d) QL := wn_bind
theorem wn_iR1 {Fs : Nv → R (List D)} : Wn (iR1 Fs η) QL ↔ Wn (Fs η) fun d => Wn (rng1 d) QL := wn_bind
theorem wn_iR2 {Fs : Nv → R (List D)} : Wn (iR2 Fs η) QL ↔ Wn (Fs η) fun d => Wn (rng2 d) QL := wn_bind
theorem wn_iZ {Fs : Nv → R (List D)} : Wn (iZ Fs η) QL ↔ Wn (Fs η) fun d => Wn (zip2 d) QL := wn_bind
theorem wn_iEn {Fs : Nv → R (List D)} : Wn (iEn Fs η) QL ↔ Wn (Fs η) fun d => Wn (enum1 d) QL := wn_bind
theorem wn_iRR {F : Nv → R D} : Wn (iRR F η) QL ↔ Wn (F η) fun d => Wn (rr1 d) QL := wn_bind
theorem wn_sl {sl : Option Int → Option Int → D → Option D} {F : Nv → R D} {Lo Hi : Nv → R (Option Int)} : Wn (slE sl F Lo Hi η) QD ↔ Wn (F η) fun x => Wn (Lo η) fun l => Wn (Hi η) fun h => Wn (.of (sl l h x)) QD := by
  rw [slE_def, wn_bind]
  simp only [wn_bind]
theorem wn_p0 {Q : Option Int → Prop} : Wn (p0 η) Q ↔ Q none := by first | (unfold Wn; exact Iff.rfl) | (unfold Sn; exact Iff.rfl)
theorem wn_p1 {F : Nv → R D} {Q : Option Int → Prop} : Wn (p1 F η) Q ↔ Wn (F η) fun d => Wn (asInt d) Q := wn_bind
theorem wn_rng1 {n : Int} (h0 : 0 ≤ n) (h : n < 1000000) : Wn (rng1 [.int n]) QL ↔ QL (rangeD 0 n.toNat) := by
  rw [rng1_ok h0 h]
  all_goals first | exact Iff.rfl | (unfold Sn; exact Iff.rfl) | (unfold Wn; exact Iff.rfl)
/-! expressions that change lists -/
theorem wn_up {F : Nv → R D} : Wn (up F η) QX ↔ Wn (F η) fun d => QX (d, η) := by
  unfold up
  first | (unfold Wn; cases F η <;> exact Iff.rfl) | (unfold Sn; cases F η <;> exact Iff.rfl)
theorem wn_upB {G : Nv → R Bool} : Wn (upB G η) QY ↔ Wn (G η) fun d => QY (d, η) := by
  unfold upB
  first | (unfold Wn; cases G η <;> exact Iff.rfl) | (unfold Sn; cases G η <;> exact Iff.rfl)
theorem wn_upI {F : Nv → R (List D)} : Wn (upI F η) QM ↔ Wn (F η) fun d => QM (d, η) := by
  unfold upI
  first | (unfold Wn; cases F η <;> exact Iff.rfl) | (unfold Sn; cases F η <;> exact Iff.rfl)
theorem wn_x2 {f : D → D → Option D} {Fa Fb : Nv → R (D × Nv)} : Wn (x2 f Fa Fb η) QX ↔ Wn (Fa η) fun p => Wn (Fb p.2) fun q => Wn (.of (f p.1 q.1)) fun d => QX (d, q.2) := by
  unfold x2
  rw [wn_bind]
  simp only [wn_bind, wn_ok]
theorem wn_x0 : Wn (x0 η) QM ↔ QM ([], η) := by first | (unfold Wn; exact Iff.rfl) | (unfold Sn; exact Iff.rfl)
theorem wn_xC {Fa : Nv → R (D × Nv)} {Fs : Nv → R (List D × Nv)} : Wn (xC Fa Fs η) QM ↔ Wn (Fa η) fun p => Wn (Fs p.2) fun q => QM (p.1 :: q.1, q.2) := by
  unfold xC
  rw [wn_bind]
  simp only [wn_bind, wn_ok]
theorem wn_xN {f : List D → Option D} {Fs : Nv → R (List D × Nv)} : Wn (xN f Fs η) QX ↔ Wn (Fs η) fun p => Wn (.of (f p.1)) fun d => QX (d, p.2) := by
  unfold xN
  rw [wn_bind]
  simp only [wn_bind, wn_ok]
theorem wn_xb {F : Nv → R (D × Nv)} : Wn (xb F η) QY ↔ Wn (F η) fun p => Wn (tru p.1) fun k => QY (k, p.2) := by
  unfold xb
  rw [wn_bind]
  simp only [wn_bind, wn_ok]
theorem wn_xAnd {Ga Gb : Nv → R (Bool × Nv)} : Wn (xAnd Ga Gb η) QY ↔ Wn (Ga η) fun p => if p.1 = true then Wn (Gb p.2) QY else QY (false, p.2) := by
  unfold xAnd
  rw [wn_bind]
  simp only [wn_ite, wn_ok]
theorem wn_xOr {Ga Gb : Nv → R (Bool × Nv)} : Wn (xOr Ga Gb η) QY ↔ Wn (Ga η) fun p => if p.1 = true then QY (true, p.2) else Wn (Gb p.2) QY := by
  unfold xOr
  rw [wn_bind]
  simp only [wn_ite, wn_ok]
theorem wn_xNot {Ga : Nv → R (Bool × Nv)} : Wn (xNot Ga η) QY ↔ Wn (Ga η) fun p => QY (!p.1, p.2) := by
  unfold xNot
  rw [wn_bind]
  simp only [wn_ok]
theorem wn_xIf {G : Nv → R (Bool × Nv)} {Fa Fb : Nv → R (D × Nv)} : Wn (xIf G Fa Fb η) QX ↔ Wn (G η) fun p => if p.1 = true then Wn (Fa p.2) QX else Wn (Fb p.2) QX := by
  unfold xIf
  rw [wn_bind]
  simp only [wn_ite]
theorem wn_xCall {Fn : List D → R D} {Fs : Nv → R (List D × Nv)} : Wn (xCall Fn Fs η) QX ↔ Wn (Fs η) fun p => Wn (Fn p.1) fun d => QX (d, p.2) := by
  unfold xCall
  rw [wn_bind]
  simp only [wn_bind, wn_noex, wn_ok]
theorem wn_xR1 {Fs : Nv → R (List D × Nv)} : Wn (xR1 Fs η) QM ↔ Wn (Fs η) fun p => Wn (rng1 p.1) fun d => QM (d, p.2) := by
  unfold xR1
  rw [wn_bind]
  simp only [wn_bind, wn_ok]
theorem wn_xR2 {Fs : Nv → R (List D × Nv)} : Wn (xR2 Fs η) QM ↔ Wn (Fs η) fun p => Wn (rng2 p.1) fun d => QM (d, p.2) := by
  unfold xR2
  rw [wn_bind]
  simp only [wn_bind, wn_ok]
/-! statements -/
theorem sn_nx : Sn (.nx η) N T B C ↔ N η := by first | (unfold Wn; exact Iff.rfl) | (unfold Sn; exact Iff.rfl)
theorem sn_rt {d : D} : Sn (.rt d η) N T B C ↔ T d η := by first | (unfold Wn; exact Iff.rfl) | (unfold Sn; exact Iff.rfl)
theorem sn_bk : Sn (.bk η) N T B C ↔ B η := by first | (unfold Wn; exact Iff.rfl) | (unfold Sn; exact Iff.rfl)
theorem sn_ct : Sn (.ct η) N T B C ↔ C η := by first | (unfold Wn; exact Iff.rfl) | (unfold Sn; exact Iff.rfl)
theorem sn_seq {Gs Gt : Nv → Rs} : Sn (seqS Gs Gt η) N T B C ↔ Sn (Gs η) (fun η1 => Sn (Gt η1) N T B C) T B C := by
  rw [seqS_def]
  first | (unfold Wn; cases Gs η <;> exact Iff.rfl) | (unfold Sn; cases Gs η <;> exact Iff.rfl)
theorem sn_toS {r : R α} {f : α → Rs} : Sn (r.toS f) N T B C ↔ Wn r fun a => Sn (f a) N T B C := by first | (unfold Wn; cases r <;> exact Iff.rfl) | (unfold Sn Wn; cases r <;> exact Iff.rfl)
theorem sn_ite {c : Prop} [Decidable c] {a b : Rs} : Sn (if c then a else b) N T B C ↔ if c then Sn a N T B C else Sn b N T B C := by
  split <;> exact Iff.rfl
theorem sn_set {i : Nat} {F : Nv → R D} : Sn (setS i F η) N T B C ↔ Wn (F η) fun d => N (η.set i (.d d)) := by
  rw [setS_def, sn_toS]
  all_goals first | exact Iff.rfl | (unfold Sn; exact Iff.rfl) | (unfold Wn; exact Iff.rfl)
theorem sn_ret {F : Nv → R D} : Sn (retS F η) N T B C ↔ Wn (F η) fun d => T d η := by
  rw [retS_def, sn_toS]
  all_goals first | exact Iff.rfl | (unfold Sn; exact Iff.rfl) | (unfold Wn; exact Iff.rfl)
theorem sn_expr {F : Nv → R D} : Sn (exprS F η) N T B C ↔ Wn (F η) fun _ => N η := by
  rw [exprS_def, sn_toS]
  all_goals first | exact Iff.rfl | (unfold Sn; exact Iff.rfl) | (unfold Wn; exact Iff.rfl)
theorem sn_if {G : Nv → R Bool} {Gs Gt : Nv → Rs} : Sn (ifS G Gs Gt η) N T B C ↔ Wn (G η) fun k => if k = true then Sn (Gs η) N T B C else Sn (Gt η) N T B C := by
  rw [ifS_def, sn_toS]
  simp only [sn_ite]
theorem sn_for {Fi : Nv → R (List D)} {Tg : Tgt} {Gb : Nv → Rs} : Sn (forS Fi Tg Gb η) N T B C ↔ Wn (Fi η) fun xs => Sn (loopG Tg Gb xs η) N T B C := by
  rw [forS_def, sn_toS]
theorem sn_xSet {i : Nat} {F : Nv → R (D × Nv)} : Sn (xSet i F η) N T B C ↔ Wn (F η) fun p => N (p.2.set i (.d p.1)) := by
  unfold xSet
  rw [sn_toS, wn_only]
  all_goals first | exact Iff.rfl | (unfold Sn; exact Iff.rfl) | (unfold Wn; exact Iff.rfl)
theorem sn_xRet {F : Nv → R (D × Nv)} : Sn (xRet F η) N T B C ↔ Wn (F η) fun p => T p.1 p.2 := by
  unfold xRet
  rw [sn_toS, wn_only]
  all_goals first | exact Iff.rfl | (unfold Sn; exact Iff.rfl) | (unfold Wn; exact Iff.rfl)
theorem sn_xExpr {F : Nv → R (D × Nv)} : Sn (xExpr F η) N T B C ↔ Wn (F η) fun p => N p.2 := by
  unfold xExpr
  rw [sn_toS, wn_only]
  all_goals first | exact Iff.rfl | (unfold Sn; exact Iff.rfl) | (unfold Wn; exact Iff.rfl)
theorem sn_xIf {G : Nv → R (Bool × Nv)} {Gs Gt : Nv → Rs} : Sn (xIfS G Gs Gt η) N T B C ↔ Wn (G η) fun p => if p.1 = true then Sn (Gs p.2) N T B C else Sn (Gt p.2) N T B C := by
  unfold xIfS
  rw [sn_toS, wn_only]
  simp only [sn_ite]
theorem sn_xFor {Fi : Nv → R (List D × Nv)} {Tg : Tgt} {Gb : Nv → Rs} : Sn (xFor Fi Tg Gb η) N T B C ↔ Wn (Fi η) fun p => Sn (loopG Tg Gb p.1 p.2) N T B C := by
  unfold xFor
  rw [sn_toS, wn_only]
theorem sn_asg {Tg : Tgt} {F : Nv → R D} : Sn (asgS Tg F η) N T B C ↔ Wn (F η) fun d => ∃ η1, Tg d η = some η1 ∧ N η1 := by
  unfold asgS
  rw [sn_toS]
  constructor <;> refine fun h => h.imp fun d h => ?_
  · split at h
    · rename_i e
      exact ⟨_, e, sn_nx'.mp h⟩
    · exact (sn_no.mp h).elim
  · obtain ⟨η1, e, h⟩ := h
    rw [e]
    exact sn_nx'.mpr h
theorem sn_xAsg {Tg : Tgt} {F : Nv → R (D × Nv)} : Sn (xAsg Tg F η) N T B C ↔ Wn (F η) fun p => ∃ η1, Tg p.1 p.2 = some η1 ∧ N η1 := by
  unfold xAsg
  rw [sn_toS, wn_only]
  constructor <;> refine fun h => h.imp fun d h => ?_
  · split at h
    · rename_i e
      exact ⟨_, e, sn_nx'.mp h⟩
    · exact (sn_no.mp h).elim
  · obtain ⟨η1, e, h⟩ := h
    rw [e]
    exact sn_nx'.mpr h
theorem sn_own {i : Nat} {F : Nv → R D} : Sn (ownS i F η) N T B C ↔ Wn (F η) fun d => ∃ xs, d = .list xs ∧ N (η.set i (.own ⟨true, xs⟩)) := by
  unfold ownS
  rw [sn_toS]
  constructor <;> refine fun h => h.imp fun d h => ?_
  · split at h
    · exact ⟨_, rfl, sn_nx'.mp h⟩
    · exact (sn_no.mp h).elim
  · obtain ⟨xs, rfl, h⟩ := h
    exact sn_nx'.mpr h
theorem sn_xOwn {i : Nat} {F : Nv → R (D × Nv)} : Sn (xOwn i F η) N T B C ↔ Wn (F η) fun p => ∃ xs, p.1 = .list xs ∧ N (p.2.set i (.own ⟨true, xs⟩)) := by
  unfold xOwn
  rw [sn_toS, wn_only]
  constructor <;> refine fun h => h.imp fun p h => ?_
  · split at h
    · rename_i e
      exact ⟨_, e, sn_nx'.mp h⟩
    · exact (sn_no.mp h).elim
  · obtain ⟨xs, e, h⟩ := h
    rw [e]
    exact sn_nx'.mpr h
theorem sn_app {i : Nat} {F : Nv → R D} {xs : OL} (h0 : η[i]? = some (.own xs)) (h : Wn (F η) fun y => xs.l.length < lineN ∧ N (η.set i (.own ⟨xs.b, xs.l ++ [y]⟩))) : Sn (appS i F η) N T B C := by
  obtain ⟨y, e, hl, q⟩ := h.get
  rw [appS_own i F η xs y h0 e hl]
  exact sn_nx'.mpr q
theorem sn_frz {i : Nat} {xs : List D} (h0 : η[i]? = some (.own ⟨true, xs⟩)) (h : N (η.set i (.d (.list xs)))) : Sn (frzS i η) N T B C := by
  rw [frz_ok h0]
  exact sn_nx'.mpr h
/-- THE LOOP: I of what is left -/
theorem sn_loop {Tg : Tgt} {Gb : Nv → Rs} (I : List D → Nv → Prop) (step : ∀ x rest η, I (x :: rest) η → ∃ η1, Tg x η = some η1 ∧ Sn (Gb η1) (I rest) T N (I rest)) (fin : ∀ η, I [] η → N η) : ∀ (xs : List D) (η : Nv), I xs η → Sn (loopG Tg Gb xs η) N T B C
  | [], η, h => sn_nx'.mpr (fin η h)
  | x :: xs, η, h => by
    obtain ⟨η1, e, k⟩ := step x xs η h
    rw [loopG_cons (η1 := η1) (h := e)]
    cases q : Gb η1 with
    | nx η2 => rw [q] at k; exact sn_loop I step fin xs η2 (sn_nx'.mp k)
    | ct η2 => rw [q] at k; exact sn_loop I step fin xs η2 (sn_ct.mp k)
    | bk η2 => rw [q] at k; exact sn_nx'.mpr (sn_bk.mp k)
    | rt d η2 => rw [q] at k; exact sn_rt.mpr (sn_rt.mp k)
    | ex c w p => rw [q] at k; unfold Sn at k; exact k.elim
    | no => rw [q] at k; exact (sn_no.mp k).elim
/-- a comprehension that changes nothing: what is picked, what is told of it -/
theorem wn_comp {Fi : Nv → R (List D)} {Tg : Tgt} {Cn : Nv → R Bool} {El : Nv → R D} {vs : List Nat} {xs : List D} (c : D → Bool) (g : D → D) (hi : Wn (Fi η) (· = xs))
    (step : ∀ x ∈ xs, ∃ η1, Tg x (wipeE η vs) = some η1 ∧ Wn (Cn η1) fun b => b = c x ∧ (b = true → Wn (El η1) (· = g x))) (hz : xs.length ≤ lineN) (q : QD (.list ((xs.filter c).map g))) : Wn (compE Fi Tg Cn El vs η) QD := by
  obtain ⟨ys, e, rfl⟩ := hi.get
  refine Wn.mk (compE_ok e (compD_filter (c := c) (g := g) ys fun x m => ?_) ?_) q
  · obtain ⟨η1, e1, k⟩ := step x m
    obtain ⟨b, e2, rfl, k⟩ := k.get
    refine ⟨η1, e1, e2, fun hb => ?_⟩
    obtain ⟨y, e3, rfl⟩ := (k hb).get
    exact e3
  · rw [List.length_map]
    exact Nat.le_trans (List.length_filter_le _ _) hz
/-! defs -/
theorem wn_runD {m : Nat} {fall : R D} {G : Nv → Rs} {ds : List D} (h : Sn (G (initD m ds)) (fun _ => False) (fun d _ => QD d) (fun _ => False) (fun _ => False)) : Wn (runD m fall G ds) QD := by
  unfold runD
  unfold Sn at h
  cases e : G (initD m ds) with
  | rt d η => rw [e] at h; exact wn_ok.mpr h
  | nx η => rw [e] at h; exact h.elim
  | bk η => rw [e] at h; exact h.elim
  | ct η => rw [e] at h; exact h.elim
  | ex c w p => rw [e] at h; exact h.elim
  | no => rw [e] at h; exact h.elim
end

end Bd
/-! M7: more of how the parts are reckoned. -/
namespace Bd
open PySem L2

theorem gT2 {i j : Nat} {a b : D} {η : Nv} : gT 2 (gsC (gN i) (gsC (gN j) gs0)) (.tuple [a, b]) η = some ((η.set i (.d a)).set j (.d b)) := rfl
theorem gT3 {i j k : Nat} {a b c : D} {η : Nv} : gT 3 (gsC (gN i) (gsC (gN j) (gsC (gN k) gs0))) (.tuple [a, b, c]) η = some (((η.set i (.d a)).set j (.d b)).set k (.d c)) := rfl
theorem eqv_ints : ∀ a b : List Int, PyData.eqvAll (a.map PyData.int) (b.map PyData.int) = decide (a = b)
  | [], [] => rfl
  | [], y :: b => rfl
  | x :: a, [] => rfl
  | x :: a, y :: b => by
    show (PyData.eqv (.int x) (.int y) && PyData.eqvAll (a.map PyData.int) (b.map PyData.int)) = _
    rw [eqv_ints a b]
    have e : PyData.eqv (.int x) (.int y) = decide (x = y) := by
      unfold PyData.eqv
      rw [Bool.eq_iff_iff]
      simp
    rw [e, Bool.eq_iff_iff]
    simp
theorem eqv_tup (a b : List Int) : PyData.eqv (tupI a) (tupI b) = decide (a = b) := by
  show PyData.eqvAll (a.map PyData.int) (b.map PyData.int) = _
  exact eqv_ints a b
theorem eqV_tup (a b : List Int) : eqV' (tupI a) (tupI b) = some (.bool (decide (a = b))) := by
  unfold eqV'
  split
  · rename_i h1 h2
    cases h1
  · rw [if_pos ⟨shaped_tup a, shaped_tup b⟩, eqv_tup]
theorem neV_tup (a b : List Int) : neV' (tupI a) (tupI b) = some (.bool (!decide (a = b))) := by
  unfold neV'
  split
  · rename_i h1 h2
    cases h1
  · rw [if_pos ⟨shaped_tup a, shaped_tup b⟩, eqv_tup]
theorem any_mem (a : Int) (l : List Int) : l.any (· == a) = decide (a ∈ l) := by
  rw [Bool.eq_iff_iff, List.any_eq_true, decide_eq_true_iff]
  constructor
  · rintro ⟨x, m, e⟩
    rw [← eq_of_beq e]
    exact m
  · exact fun m => ⟨a, m, beq_self_eq_true a⟩
theorem in_tup (a : Int) (l : List Int) : inV' (.int a) (tupI l) = some (.bool (decide (a ∈ l))) := by
  show (if flatD (.int a) = true ∧ (l.map PyData.int).all flatD = true then some ((l.map PyData.int).any fun z => PyData.eqv z (.int a)) else none).map PyData.bool = _
  rw [if_pos ⟨rfl, ints_flat l⟩, any_ints, any_mem]
  rfl
theorem notin_tup' (a : Int) (l : List Int) : ninV' (.int a) (tupI l) = some (.bool (!decide (a ∈ l))) := by
  rw [notin_tup, notIn, any_mem]
/-- within a line of numbers -/
structure InU (U : List Int) (l : List Int) : Prop where
  asc : Asc l
  sub : ∀ x ∈ l, x ∈ U
theorem InU.nil {U : List Int} : InU U [] := ⟨.nil, fun _ m => absurd m List.not_mem_nil⟩
theorem InU.sum {U a b : List Int} (ha : InU U a) (hb : InU U b) : InU U (sumL a b) := ⟨sumL_asc ha.asc hb.asc, fun x m => by
  rcases mem_sumL.mp m with ⟨m, _⟩ | ⟨m, _⟩
  · exact ha.sub x m
  · exact hb.sub x m⟩
theorem asc_le : ∀ {a b : List Int}, Asc a → Asc b → (∀ x ∈ a, x ∈ b) → a.length ≤ b.length
  | [], _, _, _, _ => Nat.zero_le _
  | x :: a, [], _, _, h => absurd (h x List.mem_cons_self) List.not_mem_nil
  | x :: a, y :: b, ha, hb, h => by
    obtain ⟨ha1, ha2⟩ := List.pairwise_cons.mp ha
    obtain ⟨hb1, hb2⟩ := List.pairwise_cons.mp hb
    rw [List.length_cons, List.length_cons]
    refine Nat.succ_le_succ (asc_le ha2 hb2 fun z m => ?_)
    have lt := ha1 z m
    rcases List.mem_cons.mp (h z (List.mem_cons_of_mem _ m)) with e | m'
    · subst e
      rcases List.mem_cons.mp (h x List.mem_cons_self) with e | m2
      · omega
      · have := hb1 x m2
        omega
    · exact m'
theorem InU.len {U a : List Int} (h : InU U a) (hU : Asc U) : a.length ≤ U.length := asc_le h.asc hU h.sub
theorem Wn.eq {α : Type} {r : R α} {a : α} (h : Wn r (· = a)) : r = .ok a := by
  obtain ⟨b, e, rfl⟩ := h.get
  exact e
theorem neV_int (i j : Int) : neV' (.int i) (.int j) = some (.bool (!(i == j))) := by
  unfold neV'
  split
  · rename_i h1 h2
    cases h1
  · rw [if_pos ⟨shaped_int i, shaped_int j⟩]
    rfl
end Bd
/-! N1: sums of rows: what they make, and how many of them do. -/
namespace Bd
open PySem L2

abbrev Row := List Int
def AscR (rs : List Row) : Prop := ∀ r ∈ rs, Asc r
/-- all sums of some of the rows, each once -/
def spanL : List Row → List Row
  | [] => [[]]
  | r :: rs => if r ∈ spanL rs then spanL rs else spanL rs ++ (spanL rs).map (sumL r)
theorem span_asc : ∀ {rs : List Row}, AscR rs → ∀ x ∈ spanL rs, Asc x
  | [], _, x, h => by
    rw [List.mem_singleton.mp h]
    exact .nil
  | r :: rs, hr, x, h => by
    have ih := span_asc (rs := rs) fun y m => hr y (List.mem_cons_of_mem _ m)
    unfold spanL at h
    split at h
    · exact ih x h
    · rcases List.mem_append.mp h with h | h
      · exact ih x h
      · obtain ⟨y, hy, rfl⟩ := List.mem_map.mp h
        exact sumL_asc (hr r List.mem_cons_self) (ih y hy)
theorem AscR.tail {r : Row} {rs : List Row} (h : AscR (r :: rs)) : AscR rs := fun y m => h y (List.mem_cons_of_mem _ m)
theorem AscR.head {r : Row} {rs : List Row} (h : AscR (r :: rs)) : Asc r := h r List.mem_cons_self
theorem nil_span : ∀ rs : List Row, [] ∈ spanL rs
  | [] => List.mem_singleton.mpr rfl
  | r :: rs => by
    unfold spanL
    split
    · exact nil_span rs
    · exact List.mem_append.mpr (.inl (nil_span rs))
theorem sumL_right {a b : Row} (ha : Asc a) (hb : Asc b) : sumL a (sumL a b) = b := by
  rw [← sumL_assoc ha ha hb, sumL_self ha, sumL_nil hb]
theorem sumL_nil' {a : Row} (ha : Asc a) : sumL a [] = a := by rw [sumL_comm ha .nil, sumL_nil ha]
theorem sumL_swap {a b c : Row} (ha : Asc a) (hb : Asc b) (hc : Asc c) : sumL a (sumL b c) = sumL b (sumL a c) := by
  rw [← sumL_assoc ha hb hc, sumL_comm ha hb, sumL_assoc hb ha hc]
/-- closed under sums -/
theorem span_sum : ∀ {rs : List Row}, AscR rs → ∀ {x y : Row}, x ∈ spanL rs → y ∈ spanL rs → sumL x y ∈ spanL rs
  | [], _, x, y, hx, hy => by
    rw [List.mem_singleton.mp hx, List.mem_singleton.mp hy]
    exact List.mem_singleton.mpr rfl
  | r :: rs, hr, x, y, hx, hy => by
    have ih := @span_sum rs hr.tail
    have ha := span_asc hr.tail
    have h0 := hr.head
    unfold spanL at hx hy ⊢
    split at hx
    · rename_i c
      rw [if_pos c] at hy ⊢
      exact ih hx hy
    · rename_i c
      rw [if_neg c] at hy ⊢
      rcases List.mem_append.mp hx with hx | hx
      · rcases List.mem_append.mp hy with hy | hy
        · exact List.mem_append.mpr (.inl (ih hx hy))
        · obtain ⟨y', hy', rfl⟩ := List.mem_map.mp hy
          rw [sumL_swap (ha x hx) h0 (ha y' hy')]
          exact List.mem_append.mpr (.inr (List.mem_map.mpr ⟨_, ih hx hy', rfl⟩))
      · obtain ⟨x', hx', rfl⟩ := List.mem_map.mp hx
        rcases List.mem_append.mp hy with hy | hy
        · rw [sumL_assoc h0 (ha x' hx') (ha y hy)]
          exact List.mem_append.mpr (.inr (List.mem_map.mpr ⟨_, ih hx' hy, rfl⟩))
        · obtain ⟨y', hy', rfl⟩ := List.mem_map.mp hy
          rw [sumL_assoc h0 (ha x' hx') (sumL_asc h0 (ha y' hy')), sumL_swap (ha x' hx') h0 (ha y' hy'), sumL_right h0 (sumL_asc (ha x' hx') (ha y' hy'))]
          exact List.mem_append.mpr (.inl (ih hx' hy'))
theorem span_head {r : Row} {rs : List Row} (h : AscR (r :: rs)) : r ∈ spanL (r :: rs) := by
  unfold spanL
  split
  · assumption
  · refine List.mem_append.mpr (.inr (List.mem_map.mpr ⟨[], nil_span rs, ?_⟩))
    rw [sumL_comm h.head .nil, sumL_nil h.head]
theorem span_tail {r : Row} {rs : List Row} {x : Row} (h : x ∈ spanL rs) : x ∈ spanL (r :: rs) := by
  unfold spanL
  split
  · exact h
  · exact List.mem_append.mpr (.inl h)
theorem span_mem : ∀ {rs : List Row}, AscR rs → ∀ r ∈ rs, r ∈ spanL rs
  | r :: rs, h, x, m => by
    rcases List.mem_cons.mp m with rfl | m
    · exact span_head h
    · exact span_tail (span_mem h.tail x m)
/-- the least that is closed -/
theorem span_sub : ∀ {rs : List Row} {S : Row → Prop}, AscR rs → S [] → (∀ r ∈ rs, ∀ x, Asc x → S x → S (sumL r x)) → ∀ x ∈ spanL rs, S x
  | [], S, _, h0, _, x, m => by
    rw [List.mem_singleton.mp m]
    exact h0
  | r :: rs, S, hr, h0, hs, x, m => by
    have ih := @span_sub rs S hr.tail h0 fun y my => hs y (List.mem_cons_of_mem _ my)
    unfold spanL at m
    split at m
    · exact ih x m
    · rcases List.mem_append.mp m with m | m
      · exact ih x m
      · obtain ⟨y, my, rfl⟩ := List.mem_map.mp m
        exact hs r List.mem_cons_self y (span_asc hr.tail y my) (ih y my)
theorem span_le {rs ss : List Row} (hr : AscR rs) (hs : AscR ss) (h : ∀ r ∈ rs, r ∈ spanL ss) : ∀ x ∈ spanL rs, x ∈ spanL ss :=
  span_sub hr (nil_span ss) fun r m _ _ q => span_sum hs (h r m) q
theorem span_cons {r : Row} {rs : List Row} (h : AscR (r :: rs)) {x : Row} (hx : Asc x) : x ∈ spanL (r :: rs) ↔ x ∈ spanL rs ∨ sumL r x ∈ spanL rs := by
  constructor
  · intro m
    unfold spanL at m
    split at m
    · exact .inl m
    · rcases List.mem_append.mp m with m | m
      · exact .inl m
      · obtain ⟨y, my, rfl⟩ := List.mem_map.mp m
        rw [sumL_right h.head (span_asc h.tail y my)]
        exact .inr my
  · rintro (m | m)
    · exact span_tail m
    · have q := span_sum h (span_head h) (span_tail (r := r) m)
      rw [sumL_right h.head hx] at q
      exact q
theorem span_ext {rs ss : List Row} (hr : AscR rs) (hs : AscR ss) (h1 : ∀ r ∈ rs, r ∈ spanL ss) (h2 : ∀ r ∈ ss, r ∈ spanL rs) : ∀ x, x ∈ spanL rs ↔ x ∈ spanL ss :=
  fun x => ⟨span_le hr hs h1 x, span_le hs hr h2 x⟩
/-! ### the one way: the first one cleared out of those behind it -/
def full (rs : List Row) : List Row := rs.filter fun r => !r.isEmpty
/-! ### the other way: each row cleared by those before it -/
/-- what is left of earlier rows, the last one first: none has the end of one before it -/
inductive Left : List Row → Prop where
  | nil : Left []
  | cons {r : Row} {rs : List Row} {k : Int} : Left rs → Asc r → r.getLast? = some k → (∀ s ∈ rs, ∀ j, s.getLast? = some j → j ∉ r) → Left (r :: rs)
theorem Left.asc : ∀ {rs : List Row}, Left rs → AscR rs
  | _, .nil => fun _ m => absurd m List.not_mem_nil
  | _, .cons h ha _ _ => fun x m => by
    rcases List.mem_cons.mp m with rfl | m
    · exact ha
    · exact h.asc x m
/-- a sum of some of them other than () has one of their ends -/
theorem Left.has : ∀ {rs : List Row}, Left rs → ∀ x ∈ spanL rs, x ≠ [] → ∃ s ∈ rs, ∃ j, s.getLast? = some j ∧ j ∈ x
  | _, .nil, x, m, ne => absurd (List.mem_singleton.mp m) ne
  | _, .cons (r := r) (rs := rs) (k := k) h ha hk no, x, m, ne => by
    have ih := h.has
    have hr := h.asc
    have rx := span_asc (Left.cons h ha hk no).asc x m
    rcases (span_cons (Left.cons h ha hk no).asc rx).mp m with m | m
    · obtain ⟨s, ms, q⟩ := ih x m ne
      exact ⟨s, List.mem_cons_of_mem _ ms, q⟩
    · by_cases e : sumL r x = []
      · have ex : x = r := by
          have := sumL_right ha rx
          rw [e, sumL_nil' ha] at this
          exact this.symm
        subst ex
        exact ⟨x, List.mem_cons_self, k, hk, List.mem_of_getLast? hk⟩
      · obtain ⟨s, ms, j, hj, mj⟩ := ih _ m e
        refine ⟨s, List.mem_cons_of_mem _ ms, j, hj, ?_⟩
        rcases mem_sumL.mp mj with ⟨z, _⟩ | ⟨z, _⟩
        · exact absurd z (no s ms j hj)
        · exact z
end Bd
/-! N2: what the program's rows are sifted to, and what the laws' own ranks are. -/
namespace Bd
open PySem L2
namespace Pg
structure InP (U V : List Int) (s : Row × Row) : Prop where
  l : InU U s.1
  r : InU V s.2
end Pg
end Bd
/-! N3: sifted, relations, rank, made_of. -/
namespace Bd
open PySem L2
namespace Pg
abbrev uptoI (n : Nat) : List Int := (List.range n).map fun i : Nat => (i : Int)
end Pg
end Bd
/-! N4: the rank told by sifting is the rank. -/
namespace Bd
open PySem L2
namespace Pg
/-- what is left and not (), the last one first -/
def ends (st : List (Row × Row)) : List Row := (full (st.map Prod.fst)).reverse
end Pg
theorem snoc_ind {α : Type} {P : List α → Prop} (nil : P []) (snoc : ∀ l a, P l → P (l ++ [a])) (l : List α) : P l := by
  have h : ∀ l : List α, P l.reverse := fun l => by
    induction l with
    | nil => exact nil
    | cons a l ih =>
      rw [List.reverse_cons]
      exact snoc _ a ih
  have := h l.reverse
  rw [List.reverse_reverse] at this
  exact this
namespace Pg
/-- those of which nothing is left -/
def bare (st : List (Row × Row)) : List (Row × Row) := st.filter fun s => decide (s.1 = [])
end Pg
end Bd
/-! N5: the laws' own sums, ranks and rows. -/
namespace Bd
open PySem L2
namespace Rk
def G__law_row : Nv → Rs :=
    (seqS (xRet (xN tupleV (xC (xComp (upI (iR1 (aC (gv 1) a0))) (gN 4) (xb (x2 eqV' (xCallK 0 Dk.F_draw (xC (up (k0 (.int 3))) x0)) (up (k0 (.int 0))))) (up (e2 mulV (gv 2) (e2 subV (gv 4) (gv 3)))) [4]) x0)))
    .nx)
def F__law_row : List D → List D → R (D × List D) := runK 5 G__law_row
end Rk
end Bd
/-! N6: the rows that the laws draw. -/
namespace Bd
open PySem L2
namespace Rk
end Rk
end Bd
/-! N7: which rows make what is left. -/
namespace Bd
open PySem L2

def sumR (rs : List Row) : Row := rs.foldr sumL []
theorem sumR_asc : ∀ {rs : List Row}, AscR rs → Asc (sumR rs)
  | [], _ => .nil
  | r :: rs, h => sumL_asc h.head (sumR_asc h.tail)
theorem sumR_perm {rs ss : List Row} (p : rs.Perm ss) : AscR rs → sumR rs = sumR ss := by
  induction p with
  | nil => exact fun _ => rfl
  | cons x _ ih => exact fun h => congrArg (sumL x) (ih h.tail)
  | swap x y l => exact fun h => sumL_swap h.head h.tail.head (sumR_asc h.tail.tail)
  | trans p1 _ ih1 ih2 => exact fun h => (ih1 h).trans (ih2 fun r m => h r (p1.mem_iff.mpr m))
theorem sumR_append : ∀ {rs ss : List Row}, AscR rs → AscR ss → sumR (rs ++ ss) = sumL (sumR rs) (sumR ss)
  | [], ss, _, hs => (sumL_nil (sumR_asc hs)).symm
  | r :: rs, ss, hr, hs => by
    show sumL r (sumR (rs ++ ss)) = sumL (sumL r (sumR rs)) (sumR ss)
    rw [sumR_append hr.tail hs, sumL_assoc hr.head (sumR_asc hr.tail) (sumR_asc hs)]
/-- the sum of the rows with these indexes -/
def rowAt (rows : List Row) (i : Int) : Row := rows.getD i.toNat []
def sumAt (rows : List Row) (idx : List Int) : Row := sumR (idx.map (rowAt rows))
theorem rowAt_asc {rows : List Row} (h : AscR rows) (i : Int) : Asc (rowAt rows i) := by
  unfold rowAt
  rw [List.getD_eq_getElem?_getD]
  cases c : rows[i.toNat]? with
  | none => exact .nil
  | some r => exact h r (List.mem_of_getElem? c)
theorem rowAt_all {rows : List Row} (h : AscR rows) (idx : List Int) : AscR (idx.map (rowAt rows)) := fun r m => by
  obtain ⟨i, _, rfl⟩ := List.mem_map.mp m
  exact rowAt_asc h i
theorem sumAt_asc {rows : List Row} (h : AscR rows) (idx : List Int) : Asc (sumAt rows idx) := sumR_asc (rowAt_all h idx)
theorem filter_split {α : Type} (p : α → Bool) : ∀ l : List α, (l.filter p ++ l.filter fun x => !p x).Perm l
  | [] => List.Perm.refl _
  | x :: l => by
    cases c : p x with
    | true =>
      rw [List.filter_cons_of_pos c, List.filter_cons_of_neg (by rw [c]; simp)]
      exact (filter_split p l).cons x
    | false =>
      rw [List.filter_cons_of_neg (by rw [c]; simp), List.filter_cons_of_pos (by rw [c]; rfl)]
      exact (List.perm_middle).trans ((filter_split p l).cons x)
/-- THE SUM of indexes tells the sum of the rows -/
theorem sumAt_sum {rows : List Row} (h : AscR rows) {a b : List Int} (ha : Asc a) (hb : Asc b) : sumAt rows (sumL a b) = sumL (sumAt rows a) (sumAt rows b) := by
  have S : ∀ l : List Int, Asc (sumAt rows l) := sumAt_asc h
  have app : ∀ l m : List Int, sumAt rows (l ++ m) = sumL (sumAt rows l) (sumAt rows m) := fun l m => by
    unfold sumAt
    rw [List.map_append, sumR_append (rowAt_all h l) (rowAt_all h m)]
  have perm : ∀ {l m : List Int}, l.Perm m → sumAt rows l = sumAt rows m := fun p => sumR_perm (p.map _) (rowAt_all h _)
  have e1 : sumAt rows (sumL a b) = sumL (sumAt rows (a.filter (notIn b))) (sumAt rows (b.filter (notIn a))) := by
    rw [← app]
    exact perm (isort_perm _)
  have e2 : sumAt rows a = sumL (sumAt rows (a.filter (notIn b))) (sumAt rows (a.filter fun x => !notIn b x)) := by
    rw [← app]
    exact (perm (filter_split (notIn b) a)).symm
  have e3 : sumAt rows b = sumL (sumAt rows (b.filter (notIn a))) (sumAt rows (b.filter fun x => !notIn a x)) := by
    rw [← app]
    exact (perm (filter_split (notIn a) b)).symm
  have e4 : sumAt rows (a.filter fun x => !notIn b x) = sumAt rows (b.filter fun x => !notIn a x) := by
    refine perm ((List.perm_ext_iff_of_nodup (ha.nodup.filter _) (hb.nodup.filter _)).mpr fun x => ?_)
    have q : ∀ {c : List Int} {y : Int}, (!notIn c y) = true ↔ y ∈ c := fun {c y} => by
      rw [Bool.not_eq_true', ← Bool.not_eq_true, notIn_iff]
      simp
    rw [List.mem_filter, List.mem_filter, q, q]
    exact And.comm
  rw [e1, e2, e3, e4]
  have x1 := S (a.filter (notIn b))
  have x2 := S (b.filter (notIn a))
  have x3 := S (b.filter fun x => !notIn a x)
  rw [sumL_assoc x1 x3 (sumL_asc x2 x3), sumL_swap x3 x2 x3, sumL_self x3, sumL_nil' x2]
namespace Pg
/-- of a row cleared: the sum with the rows told; these left something -/
structure Clr (rows : List Row) (st : List (Row × Row)) (x : Row) (a : Row × Row) : Prop where
  a1 : Asc a.1
  a2 : Asc a.2
  su : a.1 = sumL x (sumAt rows a.2)
  ix : ∀ j ∈ a.2, 0 ≤ j ∧ j < (st.length : Int) ∧ ∃ s', st[j.toNat]? = some s' ∧ s'.1 ≠ []
end Pg
end Bd
/-! N8: what the laws ask of a tuple of indexes. -/
namespace Bd
open PySem L2
theorem rowAt_in {U : List Int} {rows : List Row} (h : ∀ r ∈ rows, InU U r) (l : List Int) : ∀ r ∈ l.map (rowAt rows), InU U r := fun r m => by
  obtain ⟨j, _, rfl⟩ := List.mem_map.mp m
  unfold rowAt
  rw [List.getD_eq_getElem?_getD]
  cases c : rows[j.toNat]? with
  | none => exact .nil
  | some r => exact h r (List.mem_of_getElem? c)
end Bd
/-! O1: orders, as the laws draw them. -/
namespace Bd
open PySem L2
/-- a simplex: one to three of the numbers 0 to 11, ascending -/
structure Smp (s : Row) : Prop where
  u : InU (Pg.uptoI 12) s
  lo : 1 ≤ s.length
  hi : s.length ≤ 3
/-- the faces, the first vertex left out first -/
def facesL (s : Row) : List Row := if s.length = 1 then [] else (List.range s.length).map fun k => s.take k ++ s.drop (k + 1)
/-- an order: each one behind its faces, none twice -/
inductive Ordr : List Row → Prop where
  | nil : Ordr []
  | snoc {os : List Row} {s : Row} : Ordr os → Smp s → s ∉ os → (∀ f ∈ facesL s, f ∈ os) → Ordr (os ++ [s])
theorem Ordr.smp : ∀ {os : List Row}, Ordr os → ∀ s ∈ os, Smp s
  | _, .nil, s, m => absurd m List.not_mem_nil
  | _, .snoc h hs _ _, x, m => by
    rcases List.mem_append.mp m with m | m
    · exact h.smp x m
    · rw [List.mem_singleton.mp m]
      exact hs
namespace Od
end Od
end Bd
/-! O2: orders and chains, drawn. -/
namespace Bd
open PySem L2
namespace Od
end Od
end Bd
/-! O3: orders and chains, drawn. -/
namespace Bd
open PySem L2
namespace Od
/-- positions of simplices of one size -/
structure Chn (os : List Row) (size : Nat) (l : Row) : Prop where
  asc : Asc l
  at_ : ∀ p ∈ l, 0 ≤ p ∧ ∃ s, os[p.toNat]? = some s ∧ s.length = size
theorem Chn.lt {os : List Row} {size : Nat} {l : Row} (h : Chn os size l) : ∀ p ∈ l, 0 ≤ p ∧ p < (os.length : Int) := fun p m => by
  obtain ⟨h0, s, e, _⟩ := h.at_ p m
  have := (List.getElem?_eq_some_iff.mp e).1
  omega
end Od
end Bd
/-! X6: dicts whose keys are tuples of ints, made by a comprehension and read. -/
namespace Bd
open PySem PySem.Spec PyProof.Rows L2

section
variable {X : Cx} {pins : List (Addr × Obj)} {σ : L2.St} {H : Hp} {s : Shared} {D b : Addr} {zs : List Zr} {k : List Int} {v : V}
end
/-! ### the comprehension -/
section
variable {X : Cx} {kx vx tg iter : Expr} {scope : Scope} {own : List (Str × Nat)} {pos : Pos} {wi : TI} {g : TG} {tk tv : TE}
end
end Bd
/-! X7: enumerate of a tuple (or of a list). -/
namespace Bd
open PySem PySem.Spec PyProof.Rows L2

section
variable {prog : Program} {w : World} {A : Around} {E : Value → Shared → Prop} {s : Shared}
end
end Bd
/-! X5: set(xs), xs a list of ints, with its table. -/
namespace Bd
open PySem PySem.Spec PyProof.Rows L2

section
variable {P : Program} {w : World} {A : Around} {E : Value → Shared → Prop} {s : Shared}
end
end Bd
/-! D24: set(xs), xs a list or a tuple of ints, by data. -/
namespace Bd
open PySem L2

section
variable {X : Cx} {W : WX} {a : Expr} {pos p : Pos}
end
end Bd
/-! D25: a dict whose keys are tuples of ints, by data: made by a comprehension, kept under a name, read. -/
namespace Bd
open PySem L2

def isK (p : D) (k : List Int) : Bool := match p with
  | .tuple ds => decide (ints? ds = some k)
  | _ => false
def atI (ks : List (D × D)) (k : List Int) : Option D := (ks.find? fun p => isK p.1 k).map (·.2)
section
variable {K : PySem.W.Frag} {T T' : Hp} {zs : List Zr} {ks : List (D × D)} {k : List Int} {b : Addr} {v : V} {d : D}
end
section
variable {X : Cx} {W : WX} {kx vx tg iter e : Expr} {pos : Pos} {Fi : Nv → R (List D)} {T : Tgt} {js vs : List Nat} {Kf Vf Fk F : Nv → R D}
variable {f : Fx}
end
end Bd
/-! D26: is True, is False, is not True, is not False. -/
namespace Bd
open PySem L2
section
variable {X : Cx} {W : WX} {a b : Expr} {Fa Fb : Nv → R D} {pos : Pos}
end
end Bd
/-! D27: isinstance(x, (A, B)). -/
namespace Bd
open PySem L2
section
variable {X : Cx} {W : WX} {a : Expr} {Fa : Nv → R D} {pos p p3 : Pos} {kk : Nat}
end
end Bd
/-! D28: enumerate of a list or a tuple, by data. -/
namespace Bd
open PySem L2
section
variable {X : Cx} {W : WX} {e : Expr} {pos p : Pos} {Fs : Nv → R (List D)}
end
end Bd
/-! D29: [e for x in xs for y in ys]. -/
namespace Bd
open PySem L2
theorem hid_cons {M : Addr} {A : List Addr} {H H' : Hp} (s : Same (hid [M] H) (hid [M] H')) : Same (hid (M :: A) H) (hid (M :: A) H') := fun b o e => by
  obtain ⟨n, e⟩ := hid_some e
  have nb : b ∉ [M] := fun z => n (by rw [List.mem_singleton.mp z]; exact List.mem_cons_self)
  obtain ⟨_, q⟩ := hid_some (s b o (by rw [hid_out nb]; exact e))
  rw [hid_out n]
  exact q
/-- all but M stays -/
theorem EnvD.but {K : PySem.W.Frag} {H H' : Hp} {M : Addr} {A : List Addr} {σ : L2.St} {η : Nv} (E : EnvD K H (M :: A) σ η) (nm : ∀ (j : Nat) (xs : OL), η[j]? = some (.own xs) → σ[j]? ≠ some (some (.ref M))) (s : Same (hid [M] H) (hid [M] H')) (hM : H' M ≠ none) (hK : ∀ u, DoS u → H M ≠ some u) : EnvD K H' (M :: A) σ η where
  len := E.len
  at_ := fun j sl e => by
    obtain ⟨v, e1, q⟩ := E.at_ j sl e
    refine ⟨v, e1, ?_⟩
    cases sl with
    | no => cases v <;> trivial
    | d x =>
      cases v with
      | none => exact q
      | some v => exact Dp_mono (show Dp K (hid (M :: A) H) v x from q) (hid_cons s)
    | own zs =>
      match v, q, e1 with
      | some (.ref b), ⟨m, ws, e2, q⟩, e1 =>
        have nb : b ∉ [M] := fun z => nm j zs e (by rw [e1, List.mem_singleton.mp z])
        refine ⟨m, ws, ?_, DpAll_mono q (hid_cons s)⟩
        exact (hid_some (s b _ (by rw [hid_out nb]; exact e2))).2
    | m x => exact q.m' (hid_cons s)
    | x c w p => exact q.x' (hid_cons s)
    | dk ks =>
      match v, q with
      | some (.ref b), ⟨m, q⟩ =>
        refine ⟨m, q.keep (hid_cons s) fun u so e => ?_⟩
        have nb : b ∉ [M] := fun z => hK u so (by rw [← List.mem_singleton.mp z]; exact e)
        exact (hid_some (s b _ (by rw [hid_out nb]; exact e))).2
  ap := E.ap
  tr := fun a m => by
    by_cases h : a = M
    · rw [h]
      exact hM
    · have na : a ∉ [M] := fun z => h (List.mem_singleton.mp z)
      cases q : H a with
      | none => exact absurd q (E.tr a m)
      | some o =>
        rw [(hid_some (s a o (by rw [hid_out na]; exact q))).2]
        exact fun z => nomatch z
section
variable {X : Cx} {W : WX} {tg iter tg1 iter1 elt : Expr} {pos : Pos}
end
end Bd
/-! D30: a dict of the def's own, its keys ints: made, asked, changed. -/
namespace Bd
open PySem L2

def kAt (ks : List (Int × D)) (k : Int) : Option D := (ks.find? fun p => decide (p.1 = k)).map (·.2)
def kPut (ks : List (Int × D)) (k : Int) (v : D) : List (Int × D) := if (ks.any fun p => decide (p.1 = k)) = true then ks.map (fun p => if p.1 = k then (p.1, v) else p) else ks ++ [(k, v)]
def KD (K : PySem.W.Frag) (T : Hp) (p : Key × V) (k : Int × D) : Prop := p.1 = Sum.inl k.1 ∧ Dp K T p.2 k.2
section
variable {K : PySem.W.Frag} {T T' : Hp} {kvs : List (Key × V)} {ks : List (Int × D)} {k : Int} {v : V} {d : D}
theorem kPut_len : (kPut ks k d).length ≤ ks.length + 1 := by
  unfold kPut
  split
  · rw [List.length_map]
    exact Nat.le_succ _
  · rw [List.length_append]
    exact Nat.le_refl _
end
/-! ### a new one -/
section
variable {X : Cx} {W : WX} {kx vx tg iter e : Expr} {pos : Pos} {Fi : Nv → R (List D)} {T : Tgt} {js vs : List Nat} {C : Nv → R Bool} {Kf Vf Fk F Fx : Nv → R D}
end
/-! ### asked -/
section
variable {K : PySem.W.Frag} {mg : Str → Option Value} {W : WX} {σ : L2.St} {A : List Addr} {H : Hp} {η : Nv} {i : Nat} {ks : List (Int × D)}
end
section
variable {X : Cx} {W : WX} {e e2 : Expr} {pos p : Pos} {Fk Fx : Nv → R D} {x : Str}
end
/-! ### kept, changed -/
section
variable {X : Cx} {f : Fx} {e ek : Expr} {pos : Pos} {Fk Fv : Nv → R D} {F : Nv → R (List (Int × D))} {x : Str}
end
end Bd
/-! D31: len of a dict of the def's own. -/
namespace Bd
open PySem L2
end Bd
/-! D32: sorted of a tuple of ints. -/
namespace Bd
open PySem L2 PySem.Spec PyProof.Rows
section
variable {P : Program} {w : World} {A : Around} {E : Value → Shared → Prop} {s : Shared}
end
section
variable {X : Cx} {W : WX} {e : Expr} {pos p : Pos} {Fs : Nv → R (List D)}
end
end Bd
/-! D33: a list times an int. -/
namespace Bd
open PySem L2
section
variable {X : Cx}
end
end Bd
/-! X8: sorted(xs, key=f), f a def of the program that is known by its data. -/
namespace Bd
open PySem PySem.Spec PyProof.Rows L2

section
variable {X : Cx} {pins : List (Addr × Obj)} {σ : L2.St} {H : Hp} {s : Shared}
end

section
variable {X : Cx}
end
end Bd
/-! D34: a dict of the def's own with tuples of ints for keys: made, asked, changed, listed. -/
namespace Bd
open PySem PySem.Spec PyProof.Rows L2
section
variable {K : PySem.W.Frag} {T T' : Hp} {v : V} {d : D} {b : Addr} {k : List Int}
end
section
variable {X : Cx} {pins : List (Addr × Obj)} {σ : L2.St} {H : Hp} {s : Shared} {D b : Addr} {zs : List Zr} {k : List Int} {v : V}
end
end Bd
/-! D35: such a dict by its slot. -/
namespace Bd
open PySem PySem.Spec PyProof.Rows L2
section
variable {X : Cx} {e o : Expr} {pos : Pos} {td ty : TE}
end
section
variable {K : PySem.W.Frag} {H H' T : Hp} {A : List Addr} {σ : L2.St} {η : Nv} {i : Nat} {ks : List (List Int × D)}
end
/-! ### asked -/
section
variable {K : PySem.W.Frag} {T : Hp} {zs : List Zr} {ks : List (D × D)} {k : List Int}
end
section
variable {X : Cx} {W : WX} {e : Expr} {pos p : Pos} {Fk : Nv → R D} {x : Str}
end
/-! ### made, changed -/
section
variable {X : Cx} {f : Fx} {e ek : Expr} {pos : Pos} {x : Str}
end
end Bd
/-! D36: a def that is handed a list that it may change, and dicts that it reads. -/
namespace Bd
open PySem L2

/-- an argument: data, or a dict that is read -/
def AgR (K : PySem.W.Frag) (T : Hp) (v : V) (d : D) : Prop := match d with
  | .dict ks => ∃ a, v = .ref a ∧ DcR K T a ks
  | d => Dp K T v d
abbrev AgAll (K : PySem.W.Frag) (T : Hp) : List V → List D → Prop := Paired (AgR K T)
theorem AgR.of {K : PySem.W.Frag} {T : Hp} {v : V} {d : D} (h : Dp K T v d) : AgR K T v d := by
  cases d with
  | dict ks => cases h
  | _ => exact h
theorem AgR.same {K : PySem.W.Frag} {T T' : Hp} {v : V} {d : D} (h : AgR K T v d) (s : Same T T') : AgR K T' v d := by
  cases d with
  | dict ks =>
    obtain ⟨a, e, q⟩ := h
    exact ⟨a, e, q.same s⟩
  | _ => exact Dp_mono h s
theorem AgAll.of {K : PySem.W.Frag} {T : Hp} : ∀ {vs : List V} {ds : List D}, DpAll K T vs ds → AgAll K T vs ds
  | _, _, .nil => .nil
  | _, _, .cons h t => .cons (.of h) (AgAll.of t)
section
variable {K : PySem.W.Frag}
end
section
variable {P : Program} {w : World} {K : PySem.W.Frag} {mg : Str → Option Value} {base : Heap}
end
/-! ### its call: the list, a dict of one's own, data -/
section
variable {K : PySem.W.Frag} {H : Hp} {A B : List Addr}
theorem rdL_ext {a : Addr} {xs : List V} (hl : ∀ b ∈ A, b ∉ B → ∃ p, H b = some (.ext p)) (h : SqL K (hid B H) a xs) : SqL K (hid A H) a xs := by
  have key : ∀ o, (∀ p, o ≠ HO.ext p) → hid B H a = some o → hid A H a = some o := fun o no e => by
    obtain ⟨n, e⟩ := hid_some e
    rw [hid_out fun m => ?_]
    · exact e
    · obtain ⟨p, z⟩ := hl a m n
      rw [e] at z
      exact no p (Option.some.inj z)
  rcases h with (h | ⟨o, h⟩) | h
  · exact .inl (.inl (key _ (fun p z => nomatch z) h))
  · exact .inl (.inr ⟨o, key _ (fun p z => nomatch z) h⟩)
  · exact .inr h
theorem rdT_ext {a : Addr} {xs : List V} (hl : ∀ b ∈ A, b ∉ B → ∃ p, H b = some (.ext p)) (h : SqT K (hid B H) a xs) : SqT K (hid A H) a xs := by
  have key : ∀ o, (∀ p, o ≠ HO.ext p) → hid B H a = some o → hid A H a = some o := fun o no e => by
    obtain ⟨n, e⟩ := hid_some e
    rw [hid_out fun m => ?_]
    · exact e
    · obtain ⟨p, z⟩ := hl a m n
      rw [e] at z
      exact no p (Option.some.inj z)
  rcases h with (h | ⟨o, h⟩) | h
  · exact .inl (.inl (key _ (fun p z => nomatch z) h))
  · exact .inl (.inr ⟨o, key _ (fun p z => nomatch z) h⟩)
  · exact .inr h
mutual
theorem dp_ext (hl : ∀ b ∈ A, b ∉ B → ∃ p, H b = some (.ext p)) : ∀ (d : D) (v : V), Dp K (hid B H) v d → Dp K (hid A H) v d
  | .none, _, h => by cases h; exact .non
  | .bool b, _, h => by cases h; exact .bl b
  | .int i, _, h => by cases h; exact .int i
  | .str x, _, h => by cases h; exact .str x
  | .list ds, _, h => by
    cases h with
    | lst h1 h2 => exact .lst (rdL_ext hl h1) (dps_ext hl ds _ h2)
  | .tuple ds, _, h => by
    cases h with
    | tup h1 h2 => exact .tup (rdT_ext hl h1) (dps_ext hl ds _ h2)
  | .dict _, _, h => by cases h
theorem dps_ext (hl : ∀ b ∈ A, b ∉ B → ∃ p, H b = some (.ext p)) : ∀ (ds : List D) (vs : List V), DpAll K (hid B H) vs ds → DpAll K (hid A H) vs ds
  | [], _, h => by cases h; exact .nil
  | d :: ds, _, h => by
    cases h with
    | cons h1 h2 => exact .cons (dp_ext hl d _ h1) (dps_ext hl ds _ h2)
end
end
section
variable {X : Cx} {es : List Expr} {Fs : Nv → R (List D × Nv)} {p pos : Pos}
end
end Bd
/-! D37: sorted(xs, key=f) by data. -/
namespace Bd
open PySem L2

section
variable {K : PySem.W.Frag} {T : Hp}
end
section
variable {X : Cx} {W : WX} {e : Expr} {p pf kpos pos : Pos} {F : Nv → R D} {fn : Str}
end
end Bd
/-! D38: `k in d` as a value. -/
namespace Bd
open PySem L2
section
variable {X : Cx} {W : WX} {e : Expr} {pos p : Pos} {Fk : Nv → R D} {x : Str}
end
end Bd
/-! D39: a, b = e1, e2. -/
namespace Bd
open PySem L2
section
variable {X : Cx} {f : Fx} {a b : Expr} {pos : Pos} {x y : Str}
end
/-- a, b, .. = a list -/
def gTL (n : Nat) (U : Tgts) : Tgt := fun x η => match x with
  | .list xs => if xs.length = n then U xs η else none
  | _ => none
theorem g_tupL {X : Cx} {pos : Pos} {es : List Expr} {k : Nat} {U : Tgts} {js : List Nat} {n : Nat} (hc : X.calm = true) (h : TTs X es U js) (hn : (assignEach es X.env).length = n := by rfl) (hst : (assignEach es X.env).findIdx? (·.1) = none := by rfl) : TT' X (.Tuple es k pos) (gTL n U) js := by
  refine pgW (pg_unl hc h hn hst) fun v σ H Q ⟨η, A, x, η', E, q, e, k⟩ => ?_
  unfold gTL at e
  split at e
  · split at e
    · rename_i hl
      cases q with
      | lst h1 h2 => exact ⟨_, _, rfl, (hid_le A H).seq h1, by rw [DpAll_length h2]; exact hl, η, A, _, η', E, h2, e, k⟩
    · cases e
  · cases e
end Bd
/-! D40: xs.remove(y), a list of the def's own, any data. -/
namespace Bd
open PySem L2
section
variable {X : Cx} {f : Fx} {e : Expr} {F : Nv → R (D × Nv)} {apos cpos px : Pos}
end
end Bd
/-! D41: name = [.. for .. in xs ..], xs a list of the def's own, where the line folds the two. -/
namespace Bd
open PySem L2
section
variable {X : Cx} {f : Fx} {tg elt : Expr} {pos px : Pos} {ifs : List Expr} {scope : Scope} {own : List (Str × Nat)} {T : Tgt} {js : List Nat} {C : Nv → R (Bool × Nv)} {El : Nv → R (D × Nv)}
end
end Bd
/-! D42: words that a module names. -/
namespace Bd
open PySem L2
section
variable {X : Cx} {W : WX} {pos : Pos}
theorem t_globS {x : Str} {i : Str} (hm : ∃ t, X.mg x = some (.str i t)) (hg : Gl X x := by rfl) (hd : (x == ("__debug__" : Str)) = false := by decide) : TD X W (.Name x pos) (k0 (.str i)) := by
  obtain ⟨t, hm⟩ := hm
  exact t_const (pe_glob (v := .str i) hg hm ⟨t, rfl⟩ hd) fun _ => .str i
end
end Bd
/-! D43: len(set(xs)). -/
namespace Bd
open PySem L2
section
variable {X : Cx} {W : WX} {p pos : Pos}
end
end Bd
/-! D23: rows of three ints and a thing sorted, when the ints tell the thing. -/
namespace Bd
open PySem L2

section
variable {prog : Program} {w : World} {A : Around} {s : Shared}
end
section
variable {X : Cx}
end
end Bd
namespace Bd
open PySem L2
def at0 : D → D → Bool
  | .none, .none => true
  | .int a, .int b => decide (a = b)
  | _, _ => false
def at1 : List D → List D → Bool
  | [], [] => true
  | x :: xs, y :: ys => at0 x y && at1 xs ys
  | _, _ => false
def at2 : D → D → Bool
  | .tuple xs, .tuple ys => at1 xs ys
  | _, _ => false
section
variable {X : Cx} {W : WX} {e : Expr} {pos p : Pos}
end
end Bd
/-! D44: rows of two ints, a pair of ints and a thing sorted, when the ints tell the thing. -/
namespace Bd
open PySem L2
abbrev K4 := Int × Int × Int × Int
def key4 : D → K4
  | .tuple [.int a, .int b, .tuple [.int x, .int y], _] => (a, b, x, y)
  | _ => (0, 0, 0, 0)
def Lt4 (p q : K4) : Prop := p.1 < q.1 ∨ (p.1 = q.1 ∧ (p.2.1 < q.2.1 ∨ (p.2.1 = q.2.1 ∧ (p.2.2.1 < q.2.2.1 ∨ (p.2.2.1 = q.2.2.1 ∧ p.2.2.2 < q.2.2.2)))))
instance (p q : K4) : Decidable (Lt4 p q) := by unfold Lt4; infer_instance
def Ok4 (d : D) : Prop := ∃ a b x y e, d = .tuple [.int a, .int b, .tuple [.int x, .int y], e] ∧ e.canLay0 = true ∧ e.depth ≤ 60
theorem Ok4.lay {d : D} (h : Ok4 d) : d.canLay0 = true := by
  obtain ⟨a, b, x, y, e, rfl, g, _⟩ := h
  simp [PyData.canLay0, PyData.canLayAll0, g]
noncomputable def kyR (h : Heap) (v : Value) : K4 := key4 (SeqAt.readOf h v)
section
variable {prog : Program} {w : World} {A : Around} {s : Shared}
end
section
variable {X : Cx}
end
section
variable {X : Cx} {W : WX} {e : Expr} {pos p : Pos}
end
end Bd
/-! D45: list(range(e)), e draws. -/
namespace Bd
open PySem L2
section
variable {X : Cx} {a : Expr} {F : Nv → R (D × Nv)} {p p2 pos pos2 : Pos}
end
end Bd
/-! D46: len of a dict of the def's own, keys tuples. -/
namespace Bd
open PySem L2
section
variable {X : Cx} {W : WX} {x : Str} {p q pos : Pos}
end
end Bd
/-! D47: dicts with int keys that a def is handed to read. -/
namespace Bd
open PySem L2
theorem isI_zd {K : PySem.W.Frag} {T : Hp} : ∀ {zs : List Zr} {ks : List (D × D)}, Paired (ZD K T) zs ks → isI ks = false
  | _, _, .nil => rfl
  | _, _, .cons (b := k) h _ => by
    obtain ⟨x, y⟩ := k
    obtain ⟨e, _⟩ := h
    have e : x = _ := e
    subst e
    rfl
theorem DcR.int {K : PySem.W.Frag} {T : Hp} {a : Addr} {ks : List (D × D)} (h : DcR K T a ks) (t : isI ks = true) : DcI K T a ks := by
  rcases h with ⟨_, _, zs, _, p⟩ | h
  · rw [isI_zd p] at t
    cases t
  · exact h
section
variable {X : Cx} {W : WX} {e e2 : Expr} {pos p : Pos} {Fk Fx : Nv → R D} {x : Str}
end
/-! ### a def that reads dicts -/
section
variable {P : Program} {w : World} {K : PySem.W.Frag} {mg : Str → Option Value} {base : Heap}
end
/-! ### its call -/
/-- an argument: data, or a dict of the def's own with int keys -/
def vM (K : PySem.W.Frag) : Rv := fun H A v d => match d with
  | .dict ks => ∃ a kvs ki, ks = iD ki ∧ v = .ref a ∧ H a = some (.dK kvs) ∧ Paired (KD K (hid A H)) kvs ki
  | d => Dp K (hid A H) v d
theorem vM_of {K : PySem.W.Frag} {H : Hp} {A : List Addr} {v : V} {d : D} (h : Dp K (hid A H) v d) : vM K H A v d := by
  cases d with
  | dict ks => cases h
  | _ => exact h
section
variable {X : Cx} {W : WX} {e : Expr} {Fe : Nv → R D} {pos p : Pos} {x : Str}
theorem TD.mv (h : TD X W e Fe) : TV X W (vM X.K) e Fe := peW h fun _ _ _ => tR_imp fun _ _ _ _ _ _ _ q => vM_of q
end
section
variable {K : PySem.W.Frag} {H : Hp} {A B : List Addr}
theorem rdL_dk {a : Addr} {xs : List V} (hl : ∀ b ∈ A, b ∉ B → ∃ p, H b = some (.dK p)) (h : SqL K (hid B H) a xs) : SqL K (hid A H) a xs := by
  have key : ∀ o, (∀ p, o ≠ HO.dK p) → hid B H a = some o → hid A H a = some o := fun o no e => by
    obtain ⟨n, e⟩ := hid_some e
    rw [hid_out fun m => ?_]
    · exact e
    · obtain ⟨p, z⟩ := hl a m n
      rw [e] at z
      exact no p (Option.some.inj z)
  rcases h with (h | ⟨o, h⟩) | h
  · exact .inl (.inl (key _ (fun p z => nomatch z) h))
  · exact .inl (.inr ⟨o, key _ (fun p z => nomatch z) h⟩)
  · exact .inr h
theorem rdT_dk {a : Addr} {xs : List V} (hl : ∀ b ∈ A, b ∉ B → ∃ p, H b = some (.dK p)) (h : SqT K (hid B H) a xs) : SqT K (hid A H) a xs := by
  have key : ∀ o, (∀ p, o ≠ HO.dK p) → hid B H a = some o → hid A H a = some o := fun o no e => by
    obtain ⟨n, e⟩ := hid_some e
    rw [hid_out fun m => ?_]
    · exact e
    · obtain ⟨p, z⟩ := hl a m n
      rw [e] at z
      exact no p (Option.some.inj z)
  rcases h with (h | ⟨o, h⟩) | h
  · exact .inl (.inl (key _ (fun p z => nomatch z) h))
  · exact .inl (.inr ⟨o, key _ (fun p z => nomatch z) h⟩)
  · exact .inr h
mutual
theorem dp_dk (hl : ∀ b ∈ A, b ∉ B → ∃ p, H b = some (.dK p)) : ∀ (d : D) (v : V), Dp K (hid B H) v d → Dp K (hid A H) v d
  | .none, _, h => by cases h; exact .non
  | .bool b, _, h => by cases h; exact .bl b
  | .int i, _, h => by cases h; exact .int i
  | .str x, _, h => by cases h; exact .str x
  | .list ds, _, h => by
    cases h with
    | lst h1 h2 => exact .lst (rdL_dk hl h1) (dps_dk hl ds _ h2)
  | .tuple ds, _, h => by
    cases h with
    | tup h1 h2 => exact .tup (rdT_dk hl h1) (dps_dk hl ds _ h2)
  | .dict _, _, h => by cases h
theorem dps_dk (hl : ∀ b ∈ A, b ∉ B → ∃ p, H b = some (.dK p)) : ∀ (ds : List D) (vs : List V), DpAll K (hid B H) vs ds → DpAll K (hid A H) vs ds
  | [], _, h => by cases h; exact .nil
  | d :: ds, _, h => by
    cases h with
    | cons h1 h2 => exact .cons (dp_dk hl d _ h1) (dps_dk hl ds _ h2)
end
open Classical in
/-- what is hidden but for dicts of the def's own -/
noncomputable def unK (H : Hp) (A : List Addr) : List Addr := A.filter fun b => decide (¬ ∃ kvs, H b = some (.dK kvs))
end
section
variable {X : Cx} {W : WX} {e : Expr} {es : List Expr} {x : Str} {p pos : Pos} {k n : Nat} {Fn : List D → R D} {Fs : Nv → R (List D)}
end
end Bd
/-! D48: dict(xs), xs a list of pairs with int keys. -/
namespace Bd
open PySem L2
section
variable {K : PySem.W.Frag} {T T' : Hp}
end
section
variable {X : Cx} {W : WX} {e : Expr} {Fe : Nv → R D} {p pos : Pos}
end
end Bd
/-! D49: k in d as a value, d read only, keys ints. -/
namespace Bd
open PySem L2
section
variable {X : Cx} {W : WX} {e : Expr} {Fk : Nv → R D} {pos p : Pos} {x : Str}
end
end Bd
/-! X9: {e for t in xs if ..}, e an int: a set of ints. -/
namespace Bd
open PySem PySem.Spec PyProof.Rows L2

section
variable {X : Cx} {elt tg iter : Expr} {ifs : List Expr} {scope : Scope} {own : List (Str × Nat)} {pos : Pos} {wi : TI} {g : TG} {tt : TT} {te : TE}
end
end Bd
/-! D50: an own exception class of two levels: BarError.__init__(self, word, place), C.__init__(self, place); raise C(e), raise C(). -/
namespace Bd
open PySem L2

/-! ### what may be shown in the words of an error -/
def smI : D → Bool
  | .int i => decide (i.natAbs.log2 < 64)
  | _ => false
def fmD : D → Bool
  | .none => true
  | .int i => decide (i.natAbs.log2 < 64)
  | .tuple ds => decide (ds.length ≤ 8) && ds.all smI
  | _ => false
theorem small_text {i : Int} (h : i.natAbs.log2 < 64) : (Str.ofString (toString i)).length ≤ 65 := by
  have e := PySem.int_text_length_le (a := i) (k := 64) (by decide) h
  rw [PySem.ofString_length]
  exact e
theorem repr_ints {prog : Program} {w : World} {K : PySem.W.Frag} {T : Hp} : ∀ {ds : List D} {vs : List V} {its : List Value}, DpAll K T vs ds → ds.all smI = true → Vals vs its → ∃ ts : List Str, ReprAll prog w its ts ∧ piled ts ≤ 70 * ds.length
  | [], _, _, .nil, _, r => by
    cases r
    exact ⟨[], .nil, Nat.zero_le _⟩
  | d :: ds, _, _, .cons h1 h2, e, r => by
    rw [List.all_cons, Bool.and_eq_true] at e
    cases r with
    | cons r1 r2 =>
      obtain ⟨ts, q1, q2⟩ := repr_ints h2 e.2 r2
      cases d with
      | int i =>
        cases h1
        obtain ⟨t, rfl⟩ := r1
        have hi : i.natAbs.log2 < 64 := of_decide_eq_true e.1
        refine ⟨Str.ofString (toString i) :: ts, .cons (ReprIs.int t (by omega)) q1, ?_⟩
        rw [piled_cons, List.length_cons]
        have := small_text hi
        omega
      | _ => exact absurd e.1 Bool.false_ne_true
/-- {x} in an f-string: some short text -/
def tFm (K : PySem.W.Frag) (te : TE) : TE := fun σ H Q => te σ H fun x H1 => ∃ p A, Dp K (hid A H1) x p ∧ fmD p = true ∧ p ≠ .none ∧ ∀ m : Str, m.length ≤ 900 → Q (.str m) H1
theorem pe_fm {X : Cx} {e : Expr} {te : TE} {pos : Pos} {k : Nat} (hr : Room k X.A) (he : PE X e te) : PE X (.FormattedValue e (-1) none pos) (tFm X.K te) := by
  refine ⟨fun pins s σ H Q I h => ?_⟩
  refine wpAny_FormattedValue_plain (thn (he.run pins s σ H _ I h) fun v s1 hv => ?_)
  obtain ⟨x, H1, I1, r1, p, A, dp, fm, ne, q⟩ := hv
  cases p with
  | none => exact absurd rfl ne
  | bool b => exact absurd fm Bool.false_ne_true
  | str y => exact absurd fm Bool.false_ne_true
  | list l => exact absurd fm Bool.false_ne_true
  | dict l => exact absurd fm Bool.false_ne_true
  | int i =>
    cases dp
    obtain ⟨t, rfl⟩ := r1
    have hi : i.natAbs.log2 < 64 := of_decide_eq_true fm
    exact wpAny_formatField_int (by omega) ⟨.str (toString i), H1, I1.tok _, ⟨_, rfl⟩, q _ (by have := small_text hi; exact Nat.le_trans this (by decide))⟩
  | tuple ds =>
    cases dp with
    | tup h1 h2 =>
      cases r1
      have fm : (decide (ds.length ≤ 8) && ds.all smI) = true := fm
      rw [Bool.and_eq_true] at fm
      have hl : ds.length ≤ 8 := of_decide_eq_true fm.1
      obtain ⟨its, rv, ⟨o, ho, hcl, n, hd⟩, _⟩ := I1.tuple (sqT_same (hid_le A H1) h1)
      obtain ⟨ts, q1, q2⟩ := repr_ints (prog := X.prog) (w := X.w) h2 fm.2 rv
      have htx := fmt_text ts
      have hu := hr.units
      refine fmt_tuple (ts := ts) (by omega) ho hcl hd q1 (by rw [sizeLine_eq]; omega) fun m u tk hm => ⟨.str m, H1, I1.tok _, ⟨u, rfl⟩, q m (by omega)⟩

/-! ### the two levels of __init__ -/
/-- what is asked of the class of an exception that is being made -/
structure XcC (K : PySem.W.Frag) (C : Addr) : Prop where
  o : OexC K C
  w : PySem.W.findIn K (.ref C) "word" = some none
  p : PySem.W.findIn K (.ref C) "place" = some none
def xfs (w : Str) (vp : V) : List (Str × V) := [("place", vp), ("word", .str w)]
def madeH (H : Hp) (a C dx : Addr) (w : Str) (vp : V) : Hp := upd (upd (upd H dx (exd dx [("word", .str w)])) a (exo a C (some dx))) dx (exd dx (xfs w vp))
/-- BarError.__init__(self, word, place) -/
def spB (K : PySem.W.Frag) : Sp := fun vs H Q _ => ∃ (a C : Addr) (w : Str) (vp : V) (p : D) (A : List Addr), vs = [.ref a, .str w, vp] ∧ XcC K C ∧ H a = some (exo a C none) ∧ w.length ≤ 100 ∧ fmD p = true ∧ (∀ b ∈ A, H b ≠ none) ∧ Dp K (hid A H) vp p ∧
  ∀ H1 dx, Same H H1 → H1 dx = none → dx ≠ a → Q .non (madeH H1 a C dx w vp)
/-- C.__init__(self, place) -/
def spC (K : PySem.W.Frag) (w : Str) : Sp := fun vs H Q E => ∃ a vp, vs = [.ref a, vp] ∧ spB K [.ref a, .str w, vp] H Q E
def selfN : List Str := ["self", "word", "place"]
def tBody (K : PySem.W.Frag) (mg : Str → Option Value) : TS := tSeq (tDrop (tVeI K (tCons (tVar 0) (tCons (tIf (tT K mg W0 (tb (e2 isV (gv 2) (k0 .none)))) (tVar 1)
  (fun σ H Q => tJs [tFmt (tVar 1), tC (.str " at "), tFm K (tVar 2)] Str.empty σ H fun out H1 => Q (.str out) H1)) tNil)))) (tSeq (tOst K "word" (tVar 0) (tVar 1)) (tOst K "place" (tVar 0) (tVar 2)))
theorem is_slot (w : Str) (p : D) : tb (e2 isV (gv 2) (k0 .none)) [.no, .d (.str w), .d p] = .ok (isNone p) := by
  cases p <;> rfl
theorem len_empty : (Str.empty : Str).length = 0 := by decide +kernel
theorem len_at : ((" at " : Str)).length = 4 := by decide +kernel
theorem tBody_ok {K : PySem.W.Frag} {mg : Str → Option Value} {vs : List V} {H : Hp} {Q : VK} {E : XK} (h : spB K vs H Q E) : tBody K mg { nx := fun _ H' => Q .non H', rt := Q } (L2.start selfN vs) H := by
  obtain ⟨a, C, w, vp, p, A, rfl, T, ea, hw, fm, hA, dp, q⟩ := h
  have fin : ∀ (H1 : Hp) (out : Str), Same H H1 → ∃ (b C' : Addr) (ws : List V), [V.ref a, V.str out] = .ref b :: ws ∧ ws.length ≤ 1000 ∧ OexC K C' ∧ H1 b = some (exo b C' none) ∧
      tSeq (tOst K "word" (tVar 0) (tVar 1)) (tOst K "place" (tVar 0) (tVar 2)) { nx := fun _ H' => Q .non H', rt := Q } (L2.start selfN [.ref a, .str w, vp]) H1 := fun H1 out s1 => by
    have ea1 := s1 _ _ ea
    refine ⟨a, C, [.str out], rfl, (by decide : (1 : Nat) ≤ 1000), T.o, ea1, ?_⟩
    refine ⟨.str w, rfl, .ref a, rfl, a, C, rfl, T.o, T.w, .inl ⟨ea1, fun dx hdx hne => ?_⟩⟩
    exact ⟨vp, rfl, .ref a, rfl, a, C, rfl, T.o, T.p, .inr ⟨dx, [("word", .str w)], upd_same, by rw [upd_ne hne, upd_same], (by decide : (1 : Nat) ≤ 900), q H1 dx s1 hdx hne⟩⟩
  refine ⟨.ref a, rfl, ?_⟩
  refine ⟨[.no, .d (.str w), .d p], A, ⟨rfl, fun i s e => ?_, fun i j b xs ys e _ _ _ => ?_, hA⟩, ?_⟩
  · match i, e with
    | 0, e => cases e; exact ⟨_, rfl, trivial⟩
    | 1, e => cases e; exact ⟨_, rfl, Dp.str w⟩
    | 2, e => cases e; exact ⟨_, rfl, dp⟩
  · match i, e with
    | 0, e => cases e
    | 1, e => cases e
    | 2, e => cases e
  rw [is_slot]
  intro H1 s1
  cases p with
  | none =>
    refine ⟨.str w, rfl, ?_⟩
    exact fin H1 w s1
  | bool b => exact absurd fm Bool.false_ne_true
  | str y => exact absurd fm Bool.false_ne_true
  | list l => exact absurd fm Bool.false_ne_true
  | dict l => exact absurd fm Bool.false_ne_true
  | _ =>
    refine ⟨.str w, rfl, .inl ⟨w, rfl, by rw [sizeLine_eq]; omega, w, rfl, by rw [Str.length_append, len_empty, sizeLine_eq]; omega, " at ", rfl, by rw [Str.length_append, Str.length_append, len_empty, len_at, sizeLine_eq]; omega, ?_⟩⟩
    refine ⟨vp, rfl, _, A, Dp_mono dp (hid_same s1), fm, (by intro z; cases z), fun m hm => ⟨m, rfl, by rw [Str.length_append, Str.length_append, Str.length_append, len_empty, len_at, sizeLine_eq]; omega, ?_⟩⟩
    exact fin H1 _ s1
end Bd
/-! D51: raise C(e), raise C(), by data. -/
namespace Bd
open PySem L2

/-- the first thing that a class says -/
def inCls : Stmt → Stmt
  | .ClassDef _ _ _ b .. => b.getD 0 (.Pass ⟨0, 0, 0, 0⟩)
  | s => s
abbrev FunI (K : PySem.W.Frag) (qual : Str) (st : Stmt) (f : Addr) (fd : FuncData) : Prop := FunD K "__init__" qual (defArgs st) (defBody st) (defScope st) [.non] [] f fd
section
variable {P : Program} {w : World} {K : PySem.W.Frag} {mg : Str → Option Value} {base : Heap} {qual : Str} {st : Stmt} {f : Addr} {fd : FuncData}
theorem okB (F : FunI K qual st f fd) (S : FnScope selfN selfN (defScope st))
    (hb : ∀ (cdv : Value) (A : Around) (outer : List PySem.Env) (s : Shared) (H : Hp) (E : XK), Room 0 (A.deeper (PyProof.Rows.envOfC qual (defScope st) s.heap.objs.size f cdv)) →
      PSs (cxOf (L2.CX P w) P w K mg base selfN qual (defScope st) f cdv A outer s H E) (defBody st) (tBody K mg)) : FnOk P w K mg base (L2.CX P w) 1 f fd selfN (spB K) :=
  F.ok S (fun vs H Q E h => by
    obtain ⟨a, C, w, vp, p, A, rfl, _⟩ := h
    rfl) fun cdv A outer s H vs Q E hr hsp => ⟨_, hb cdv A outer s H E hr, tBody_ok hsp⟩
end
/-- B.__init__(e, ..), B an own class -/
theorem pe_cinit {X : Cx} {C fI : Addr} {mc : Value} {x : Str} {k : Nat} {fd : FuncData} {ps : List Str} {sp : Sp} {e : Expr} {es : List Expr} {ta : TA} {p1 p2 pos : Pos} {pl : Sem Bool} (hm : X.mg x = some (.ref C)) (r : ClX.CRead X.K C mc) (c : ClX.CVal X.K C mc "__init__" (.ref fI) (.ref fI))
    (hk : PySem.W.keepIn X.K (.ref fI) = true) (F1 : FnOk X.prog X.w X.K X.mg X.base (L2.CX X.prog X.w) k fI fd ps sp) (hr : Room k X.A) (hb : Binds X.K fd ps []) (ha : PA X (e :: es) ta) (hg : Gl X x := by rfl) (hdb : (x == ("__debug__" : Str)) = false := by decide)
    (hc : eval (.Call (.Attribute (.Name x p1) "__init__" p2) (e :: es) [] pos) X.env = (do
      let ov ← eval (.Name x p1) X.env
      standAt p2.atName
      let (f, first) ← holding [ov] (getMethod ov "__init__" pl)
      callWith pos f first (backTo pos (starEach (e :: es) X.env)) (backToKw pos (keywordEach [] X.env))) := by rfl)
    (he : starEach (e :: es) X.env = (false, eval e X.env) :: starEach es X.env := by rfl) (hpl : (backTo pos (starEach es X.env)).any (·.1) = false := by rfl) :
    PE X (.Call (.Attribute (.Name x p1) "__init__" p2) (e :: es) [] pos) (tCall sp [] (fun _ _ _ => False) ta) := by
  refine ⟨fun pins s σ H Q I h => ?_⟩
  have pas : Passes (L2.CX X.prog X.w) X (fun _ _ _ => False) := fun _ _ _ _ _ _ _ c => by
    obtain ⟨_, _, _, _, _, _, _, _, _, _, _, _, z⟩ := c
    exact z.elim
  refine PySem.W.methodCall_KW (ld_glob I hg hm (PySem.W.method_cls I.kIn r.ga (ClX.getcval_ok I r c fun s2 I2 => ?_)) hdb) hc
  show wpAny _ _ (callWith pos (.ref fI) [] (backTo pos (starEach (e :: es) X.env)) []) _ _ _
  exact PySem.W.callWith_K (first := []) (h₀ := X.base) I.ok.mod.kin hk (thn (ha.run pos pins s2 σ H _ I2 h) fun us s3 ⟨vs, H1, I3, rv, q⟩ => ⟨I3.kIn, run_fn (us := us) (ds := []) (dvs := []) F1 hr hb .nil pas I3 rv q⟩) he hpl
def placeN : List Str := ["self", "place"]
/-- C.__init__(self, place): BarError.__init__(self, w, place) -/
def tBodyC (K : PySem.W.Frag) (w : Str) : TS := tDrop (tCall (spB K) [] (fun _ _ _ => False) (tCons (tVar 0) (tCons (tC (.str w)) (tCons (tVar 1) tNil))))
section
variable {P : Program} {w : World} {K : PySem.W.Frag} {mg : Str → Option Value} {base : Heap} {qual : Str} {st : Stmt} {f : Addr} {fd : FuncData}
theorem spB_no {vs : List V} {H : Hp} {Q Q' : VK} {E E' : XK} (h : spB K vs H Q E) (k : ∀ H', Q .non H' → Q' .non H') : spB K vs H Q' E' := by
  obtain ⟨a, C, w, vp, p, A, h1, h2, h3, h4, h5, h6, h7, h8⟩ := h
  exact ⟨a, C, w, vp, p, A, h1, h2, h3, h4, h5, h6, h7, fun H1 dx s1 n1 n2 => k _ (h8 H1 dx s1 n1 n2)⟩
theorem okC {wd : Str} {k : Nat} (F : FunI K qual st f fd) (S : FnScope placeN placeN (defScope st))
    (hb : ∀ (cdv : Value) (A : Around) (outer : List PySem.Env) (s : Shared) (H : Hp) (E : XK), Room k (A.deeper (PyProof.Rows.envOfC qual (defScope st) s.heap.objs.size f cdv)) →
      PSs (cxOf (L2.CX P w) P w K mg base placeN qual (defScope st) f cdv A outer s H E) (defBody st) (tBodyC K wd)) : FnOk P w K mg base (L2.CX P w) (k + 1) f fd placeN (spC K wd) :=
  F.ok S (fun vs H Q E h => by
    obtain ⟨a, vp, rfl, _⟩ := h
    rfl) fun cdv A outer s H vs Q E hr hsp => ⟨_, hb cdv A outer s H E hr, by
      obtain ⟨a, vp, rfl, h⟩ := hsp
      exact ⟨.ref a, rfl, vp, rfl, spB_no (E' := fun _ _ _ => False) h fun H' q => q⟩⟩
end

/-! ### raise -/
/-- an own class that may be raised, by the name c; its word is w -/
def Xc (P : Program) (w : World) (K : PySem.W.Frag) (mg : Str → Option Value) (base : Heap) (k : Nat) (c wd : Str) : Prop :=
  ∃ (C fI : Addr) (fd : FuncData), XcC K C ∧ PySem.W.findIn K (.ref C) "__init__" = some (some (.ref fI)) ∧ PySem.W.typeIn K (.ref fI) = some (.type "function") ∧ FnOk P w K mg base (L2.CX P w) k fI fd placeN (spC K wd) ∧ Binds K fd placeN [] ∧
    (∃ ds, Vals [.non] ds ∧ Binds K fd placeN ds) ∧ mg c = some (.ref C)
def raiseS (c wd : Str) (F : Nv → R D) : Nv → Rs := fun η => (F η).toS fun p => if fmD p = true then .ex c wd p else .no
section
variable {X : Cx} {f : Fx} {F : Nv → R D} {E : Ends} {σ : L2.St} {H : Hp}
theorem made_same {H1 H2 : Hp} {a C dx : Addr} {wd : Str} {vp : V} (na : H1 a = none) (s2 : Same (upd H1 a (exo a C none)) H2) (hdx : H2 dx = none) (hne : dx ≠ a) :
    H1 dx = none ∧ madeH H2 a C dx wd vp a = some (exo a C (some dx)) ∧ madeH H2 a C dx wd vp dx = some (exd dx (xfs wd vp)) ∧ Same H1 (upd (del (madeH H2 a C dx wd vp) a) dx (.xd (xfs wd vp))) := by
  have d1 : H1 dx = none := by
    have z := s2.free hdx
    rwa [upd_ne hne] at z
  refine ⟨d1, ?_, upd_same, fun b o e => ?_⟩
  · unfold madeH
    rw [upd_ne (Ne.symm hne), upd_same]
  · have h1 : b ≠ a := fun z => by rw [z, na] at e; cases e
    have h2 : b ≠ dx := fun z => by rw [z, d1] at e; cases e
    rw [upd_ne h2, del_ne h1]
    unfold madeH
    rw [upd_ne h2, upd_ne h1, upd_ne h2]
    exact s2 b o (by rw [upd_ne h1]; exact e)
/-- what the new exception's class is asked, from what the statement tells -/
theorem raised {C : Addr} {c wd : Str} {p : D} {vp : V} {η : Nv} {B : List Addr} {H1 : Hp} {a : Addr} (T : XcC X.K C) (hm : X.mg c = some (.ref C)) (hw : wd.length ≤ 100) (fm : fmD p = true) (e0 : EnvS X.K f.M f.H0 f.A0 H B σ η) (s1 : Same H H1) (dp : Dp X.K (hid (B ++ f.A0) H1) vp p)
    (h : PostS X.K X.mg f.W f.rl f.M f.H0 f.A0 H B (.ex c wd p) E) (na : H1 a = none) :
    spC X.K wd (.ref a :: [vp]) (upd H1 a (exo a C none)) (fun v H2 => v = .non ∧ ∃ (d : Addr) (fs : List (Str × V)), H2 a = some (exo a C (some d)) ∧ H2 d = some (exd d fs) ∧ H1 d = none ∧ f.W (.ref C) (some d) σ (upd (del H2 a) d (.xd fs))) (fun _ _ _ => False) := by
  have e1 := e0.step s1
  refine ⟨a, vp, rfl, a, C, wd, vp, p, a :: (B ++ f.A0), rfl, T, upd_same, hw, fm, fun b m => ?_, Dp_mono dp (hid_new (same_new na) na), fun H2 dx s2 hdx hne => ?_⟩
  · rcases List.mem_cons.mp m with rfl | m
    · rw [upd_same]
      exact fun z => nomatch z
    · by_cases hb : b = a
      · rw [hb, upd_same]
        exact fun z => nomatch z
      · rw [upd_ne hb]
        exact e1.env.tr b m
  · obtain ⟨d1, m1, m2, sm⟩ := made_same (wd := wd) (vp := vp) na s2 hdx hne
    refine ⟨rfl, dx, xfs wd vp, m1, m2, d1, ?_⟩
    have h : ∀ cls dd σ' H', Same (hid f.M f.H0) (hid f.M H') → ExR X.K X.mg (hid f.A0 H') cls dd c wd p → f.W cls dd σ' H' := h
    refine h _ _ σ _ (e1.same.trans (hid_same sm)) ⟨hm, dx, vp, rfl, ?_, Dp_mono (Dp_mono dp hid_app) (hid_same sm)⟩
    rw [hid_out fun m => e1.env.tr dx (List.mem_append_right _ m) d1, upd_same]
    rfl
theorem s_raise {c wd : Str} {k j : Nat} {e : Expr} {p pos pos' : Pos} (hc : X.calm = true) (tk : Takes X f.W) (x : Xc X.prog X.w X.K X.mg X.base j c wd) (hr : Room k X.A) (he : TD X f.W e F) (hw : wd.length ≤ 100 := by decide +kernel) (hj : j + 1 ≤ k := by decide) (hg : Gl X c := by rfl)
    (hdb : (c == ("__debug__" : Str)) = false := by decide) (h1 : starEach [e] X.env = (false, eval e X.env) :: starEach [] X.env := by rfl) (h2 : (backTo pos (starEach [] X.env)).any (·.1) = false := by rfl) :
    TS' X f (.Raise (some (.Call (.Name c p) [e] [] pos)) none pos') (raiseS c wd F) := by
  obtain ⟨C, fI, fd, T, iC, tI, F1, hb, _, hm⟩ := x
  have pas : Passes (L2.CX X.prog X.w) X (fun _ _ _ => False) := fun _ _ _ _ _ _ _ c => by
    obtain ⟨_, _, _, _, _, _, _, _, _, _, _, _, z⟩ := c
    exact z.elim
  refine psW (ps_raise hc tk (pmk_oex (dvs := []) (ds := []) T.o iC tI F1 (hr.mono hj) hb .nil pas hg hm (as_cons keeps_D (TD.v he) as_nil h1) hdb h1 h2)) fun E σ H h => ?_
  obtain ⟨η, B, e0, p0⟩ := h
  have p : PostS X.K X.mg f.W f.rl f.M f.H0 f.A0 H B ((F η).toS fun p => if fmD p = true then .ex c wd p else .no) E := p0
  refine (show tA X.K X.mg f.W (vD X.K) (aC F a0) σ H _ from ⟨η, B ++ f.A0, e0.env, ?_⟩)
  unfold aC
  cases ef : F η with
  | ex c' w' q =>
    rw [ef] at p
    exact fun cls dd H' s x => p cls dd σ H' (e0.same.trans (hid_same s)) (exS x)
  | no => rw [ef] at p; exact p
  | ok d =>
    rw [ef] at p
    intro vs H1 s1 qv
    have p : PostS X.K X.mg f.W f.rl f.M f.H0 f.A0 H B (if fmD d = true then .ex c wd d else .no) E := p
    by_cases fm : fmD d = true
    · rw [if_pos fm] at p
      match vs, qv with
      | [vp], qv => exact ⟨(by decide : (1 : Nat) ≤ 1000), fun a na => raised T hm hw fm e0 s1 qv.1 p na⟩
    · rw [if_neg fm] at p
      exact p.elim
end

/-! ### raise C() -/
end Bd
/-! D52: try: .. except C as e: .., by data; the caught exception is a thing of the heap while the suite runs. -/
namespace Bd
open PySem L2

section
variable {Y : Cx} {σ : L2.St} {H : Hp} {s : Shared} {a C dd : Addr} {o : Obj} {vs : Array Value}
/-- an object that lay about is told of from here on -/
theorem adopt (J : Inv Y [] σ H s) (ho : s.heap.get? a = some o) (h1 : o.cls = .ref C) (h2 : o.dict = some dd) (h3 : o.data = .fields vs) (na : H a = none) (nL : a ≠ Y.env.locals) (n0 : Y.s_0.heap.get? a = none) (np : ∀ p ∈ Y.pn, p.1 ≠ a) :
    Inv Y [] σ (upd H a (exN a C dd)) s := by
  have other : ∀ {b : Addr} {u : HO}, H b = some u → b ≠ a := fun {b u} e z => by rw [z, na] at e; cases e
  refine ⟨J.ok, J.os, J.bare, ⟨J.base.keep, J.base.slot, fun b ob e n hx => ?_, J.base.there, fun b xs e => ?_, fun b ob u e => ?_, fun b ps e => ?_⟩, J.loc, J.cell, ?_, fun y c e => ?_, fun q hq => ?_, fun b ob e => ?_, J.len⟩
  · rw [upd_ne fun z => by rw [z, n0] at e; cases e]
    exact J.base.free b ob e n hx
  · have z := J.base.tups b xs e
    rw [upd_ne (other z)]
    exact z
  · have z := J.base.frzs b ob u e
    rw [upd_ne (other z)]
    exact z
  · obtain ⟨m, z⟩ := J.base.tbls b ps e
    exact ⟨m, by rw [upd_ne (other z)]; exact z⟩
  · rw [upd_ne (Ne.symm nL)]
    exact J.free
  · obtain ⟨u, sl, ob, q⟩ := J.cell y c e
    rw [upd_ne fun z => by
      rw [z, ho] at ob
      cases ob
      rw [h3] at q
      cases q]
    exact J.freeC y c e
  · obtain ⟨p1, p2, p3⟩ := J.pin q hq
    have hq' : q ∈ Y.pn := by rw [List.append_nil] at hq; exact hq
    exact ⟨p1, by rw [upd_ne (np q hq')]; exact p2, p3⟩
  · by_cases hb : b = a
    · subst hb
      rw [upd_same] at e
      cases e
      exact ⟨⟨o, vs, ho, h1, h2, h3⟩, ⟨_, ho⟩, fun hA hB ⟨u, us, q1, q2⟩ k => ⟨u, us, k _ q1, q2⟩⟩
    · rw [upd_ne hb] at e
      exact (J.hok b ob e).stay (fun _ _ _ q => q) (fun c z => by rw [upd_ne (other z)]; exact z) fun c xs z => by rw [upd_ne (other z)]; exact z
end

/-- what the clause 'except x as n' asks of an exception of the body: slot i is n's, m slots there are -/
def wX (K : PySem.W.Frag) (m : Nat) (c : Value) (i : Nat) (ts : TS) (Wout : WX) (D : Ends) : WX := fun cls d σ H =>
  ∃ b, PySem.W.exmOne K cls c = some b ∧
    (b = true → ∃ C dd, cls = .ref C ∧ d = some dd ∧ (σ.length = m → ∀ a, H a = none → ts { nx := fun σ' H' => D.nx (σ'.set i none) H', rt := D.rt, bk := fun σ' H' => D.bk (σ'.set i none) H', ct := fun σ' H' => D.ct (σ'.set i none) H' } (σ.set i (some (.ref a))) (upd H a (exN a C dd)))) ∧
    (b = false → Wout cls d σ H)
section
variable {X : Cx} {x n : Str} {c : Value} {i : Nat} {body suite : List Stmt} {b₀ : Stmt} {np pos pos' : Pos} {tb : WX → TS} {ts : TS} {Wout : WX}
theorem suite_in {pins : List (Addr × Obj)} {σ : L2.St} {H : Hp} {s : Shared} (J : Inv X pins σ H s) (a : Addr) : Inv (X.suite a (X.pn ++ pins)) [] σ H s :=
  ⟨J.ok.suite _ _, J.os, J.bare, J.base, J.loc, J.cell, J.free, J.freeC, fun q hq => J.pin q (by rwa [List.append_nil] at hq), J.hok, J.len⟩
theorem suite_out {pins p2 : List (Addr × Obj)} {σ : L2.St} {H : Hp} {s : Shared} {a : Addr} (ok : X.Ok) (J : Inv (X.suite a (X.pn ++ pins)) p2 σ H s) : Inv X pins σ H s :=
  ⟨ok, J.os, J.bare, J.base, J.loc, J.cell, J.free, J.freeC, fun q hq => J.pin q (List.mem_append_left _ hq), J.hok, J.len⟩
theorem suite_pin {pins : List (Addr × Obj)} {σ : L2.St} {H : Hp} {s : Shared} {a : Addr} {o : Obj} {vs : Array Value} (J : Inv X pins σ H s) (h1 : s.heap.get? a = some o) (h2 : o.data = .fields vs) (na : H a = none) (nL : a ≠ X.env.locals) (nF : a ∉ X.fs) : Inv (X.suite a (X.pn ++ pins)) [(a, o)] σ H s :=
  ⟨J.ok.suite _ _, J.os, J.bare, J.base, J.loc, J.cell, J.free, J.freeC, fun q hq => by
    rcases List.mem_append.mp hq with m | m
    · exact J.pin q m
    · obtain rfl := List.mem_singleton.mp m
      exact ⟨h1, na, nL, nF, fun v z => by
        have z : o.data = .cell v := z
        rw [h2] at z
        cases z⟩, J.hok, J.len⟩
theorem unpin1 {Y : Cx} {q : Addr × Obj} {σ : L2.St} {H : Hp} {s : Shared} (J : Inv Y [q] σ H s) : Inv Y [] σ H s :=
  ⟨J.ok, J.os, J.bare, J.base, J.loc, J.cell, J.free, J.freeC, fun p hp => J.pin p (by rw [List.append_nil] at hp; exact List.mem_append_left _ hp), J.hok, J.len⟩
theorem ps_tryX (hex : X.ex = []) (stk : X.stack = X.env :: X.outer) (fr : X.env.frame = some X.env.locals) (nd : X.N.Nodup) (hi : X.N[i]? = some n) (loc : X.env.kindOf n = some .local) (nm : Names X x c) (tk : Takes X Wout)
    (hb : ∀ (W : WX) (pn : List (Addr × Obj)) (xe : Value → Shared → Prop), Takes (X.tr pn xe) W → PassesOwn (model X.prog X.w) X.A X.env xe → PSs (X.tr pn xe) body (tb W))
    (hsu : ∀ (a : Addr) (pn : List (Addr × Obj)), PSs (X.suite a pn) (b₀ :: suite) ts) :
    PS X (.Try body [.ExceptHandler (some (.Name x np)) (some n) (b₀ :: suite) pos'] [] [] pos) (fun D σ H => tb (wX X.K X.N.length c i ts Wout D) D σ H) := by
  refine ⟨fun pins s0 σ0 H0 D J0 start => ?_⟩
  have ok := J0.ok
  have frm : X.A.frames = some (X.env :: X.outer) := ok.frames.trans (congrArg some stk)
  refine wpAny_Try_except (wpAny_mono ((hb (wX X.K X.N.length c i ts Wout D) (X.pn ++ pins) (fun e s₁ => wpAny (model X.prog X.w) X.A (noteFrame e X.env) (fun _ s₂ => wpAny (model X.prog X.w) X.A (setFlight e none) (fun _ s₃ =>
    wpAny (model X.prog X.w) X.A (handleBy e X.env [.ExceptHandler (some (.Name x np)) (some n) (b₀ :: suite) pos']) (SP X pins D) X.xe s₃) X.xe s₂) X.xe s₁) (fun u s1 air => ?_) PassesOwn.looking).run [] s0 σ0 H0 D (J0.toTry _) start) (fun fl s1 out => ?_) fun _ _ z => z)
  · obtain ⟨a, B, sI, pins1, σ1, H1, cls, d, rfl, Ja, nb, up, sky, na, os1, ag, b, match1, yes, no⟩ := air
    have J1 : Inv X pins σ1 H1 sI := Ja.ofTry ok
    have sky1 : Sky B (X.env :: X.outer) a (Zc cls d) X.env.locals s1.heap := stk ▸ sky
    show wpAny (model X.prog X.w) X.A (noteFrame (.ref a) X.env) _ _ _
    refine Sky.land Zc.steady frm fr sky1 fun h3 fl3 up3 => ?_
    have J3 : Inv X pins σ1 H1 { s1 with heap := h3 } := J1.landed nb fl3.1 (up.trans up3) os1 ag
    obtain ⟨oe3, vs3, he3, hz3, hd3⟩ := fl3.there
    -- it is none of the frames
    have nfr : a ∉ frs (X.env :: X.outer) := fun m => by
      obtain ⟨_, o1, e1, n1⟩ := fl3.2.2.1.mem m
      have e2 := he3.symm.trans e1
      cases e2
      exact n1 _ hd3
    have nL : a ≠ X.env.locals := fun z => nfr (List.mem_filterMap.mpr ⟨X.env, List.mem_cons_self, fr.trans (congrArg some z.symm)⟩)
    have nsI : sI.heap.get? a = none := by
      cases q : sI.heap.get? a with
      | none => rfl
      | some o1 =>
        have z := nb a o1 q (by rw [stk]; exact nfr)
        rw [fl3.2.1] at z
        cases z
    have n00 : X.s_0.heap.get? a = none := by
      cases q : X.s_0.heap.get? a with
      | none => rfl
      | some o1 =>
        obtain ⟨o2, z⟩ := J1.base.there a o1 q (by rw [hex]; exact List.not_mem_nil)
        rw [nsI] at z
        cases z
    have nF : a ∉ X.fs := fun m => by
      obtain ⟨e, he, q⟩ := List.mem_filterMap.mp m
      exact nfr (List.mem_filterMap.mpr ⟨e, List.mem_cons_of_mem _ he, q⟩)
    refine wpAny_handleBy_cons (codeAny_handlers_test ?_) (by intro z; cases z)
    have S3 := suite_in J3 a
    have LT : PySem.W.Looks (model X.prog X.w) h3 (typeOf (.ref a)) cls := fun _ _ _ _ k q => wpAny_typeOf_ref (k _ _ he3) (by rw [hz3.1]; exact q)
    have LM := PySem.W.exm_one (M := model X.prog X.w) (J3.kIn) LT match1
    have tst : ∀ {Q : Value → Shared → Prop} {E : Value → Shared → Prop}, Q c { s1 with heap := h3 } → wpAny (model X.prog X.w) (X.A.mark (some (.ref a))) (eval (.Name x np) X.env) Q E { s1 with heap := h3 } := fun {Q E} q => by
      obtain ⟨g1, g2, g3 | ⟨g3, g4, g5⟩⟩ := nm
      · exact ld_glob (X := X.suite a (X.pn ++ pins)) S3 g1 g3 q g2
      · exact ld_blt (X := X.suite a (X.pn ++ pins)) S3 g1 g3 g4 q g5 g2
    refine tst (LM.here ?_)
    cases b with
    | true =>
      obtain ⟨C, dd, rfl, rfl, yes2⟩ := yes rfl
      refine codeAny_handlers_suite_as (HandSPX.lands_againZ fl3 fun h4 fl4 up4 => ?_)
      have J4 : Inv X pins σ1 H1 { s1 with heap := h4 } := J1.landed nb fl4.1 ((up.trans up3).trans up4) os1 ag
      obtain ⟨oe4, vs4, he4, hz4, hd4⟩ := fl4.there
      have S4 := suite_pin J4 he4 hd4 na nL nF
      refine store_ok (X := X.suite a (X.pn ++ pins)) (v := .ref a) S4 nd hi (.inl loc) rfl (fun s5 S5 => ?_) (.inr loc)
      have S6 := adopt (unpin1 S5) (S5.pin (a, oe4) (List.mem_append_right _ List.mem_cons_self)).1 hz4.1 hz4.2 hd4 na nL n00 (fun p hp z => by
        have w1 := (J1.pin p hp).1
        rw [z, nsI] at w1
        cases w1)
      refine wpAny_mono ((hsu a (X.pn ++ pins)).run [] s5 _ _ _ S6 (yes2 J1.len a na)) (fun f6 s6 out => ?_) (fun _ _ z => False.elim z)
      have gone : ∀ {σ6 : L2.St} {H6 : Hp} {Q : Shared → Prop}, Inv (X.suite a (X.pn ++ pins)) [] σ6 H6 s6 → (∀ s7, Inv X pins (σ6.set i none) H6 s7 → Q s7) →
          wpAny (model X.prog X.w) X.A (do bindName X.env n .none; unbindBehindTheSuite X.env n pos') (fun _ s7 => Q s7) X.xe s6 := fun J6 q => gone_ok (suite_out ok J6) nd hi loc q
      match f6, out with
      | .next, ⟨_, _, J6, q6⟩ => exact gone J6 fun s7 J7 => ⟨_, _, J7, q6⟩
      | .brk, ⟨_, _, J6, q6⟩ => exact gone J6 fun s7 J7 => ⟨_, _, J7, q6⟩
      | .cont, ⟨_, _, J6, q6⟩ => exact gone J6 fun s7 J7 => ⟨_, _, J7, q6⟩
      | .ret u, ⟨_, _, _, J6, r6, q6⟩ => exact gone J6 fun s7 J7 => ⟨_, _, _, J7, r6, q6⟩
    | false =>
      show wpAny _ X.A (handleBy (.ref a) X.env []) _ _ _
      refine wpAny_handleBy_nil ?_
      obtain ⟨_, _, _, oe, vs, T, _, _, g1, _, g2, g3, _⟩ := id fl3
      unfold PySem.passOn
      refine wpAny_bind (wpAny_field g1 g2 g3 ?_)
      rw [if_neg (show ¬ ((Value.ref T == Value.none) = true) from by simp)]
      have on : wpAny (model X.prog X.w) X.A (setFlight (.ref a) X.env.frame) (fun _ s4 => wpAny (model X.prog X.w) X.A (throw (.ref a) : Sem Flow) (SP X pins D) X.xe s4) X.xe { s1 with heap := h3 } := by
        rw [fr]
        refine HandSPX.setFlight_upZ fl3 fun h4 held up4 => wpAny_throw (tk _ _ ?_)
        exact ⟨a, B, sI, pins, σ1, H1, cls, d, rfl, J1, nb, (up.trans up3).trans up4, .inr (.inr (stk.symm ▸ held)), na, os1, ag, no rfl⟩
      first
        | exact wpAny_bind (wpAny_pure (wpAny_bind on))
        | exact wpAny_bind on
  · match fl, out with
    | .next, ⟨_, _, J2, q⟩ => exact wpAny_execs_nil ⟨_, _, J2.ofTry ok, q⟩
    | .brk, ⟨_, _, J2, q⟩ => exact ⟨_, _, J2.ofTry ok, q⟩
    | .cont, ⟨_, _, J2, q⟩ => exact ⟨_, _, J2.ofTry ok, q⟩
    | .ret u, ⟨_, _, _, J2, r, q⟩ => exact ⟨_, _, _, J2.ofTry ok, r, q⟩
end
end Bd
/-! D53: try: .. except C as e: .. as a statement by data; isinstance(e, C), e.word, e.place. -/
namespace Bd
open PySem L2

/-- an own class of errors, by its name -/
structure Xk (K : PySem.W.Frag) (c : Str) (C : Addr) : Prop where
  ns : PySem.W.nsIn K mainGlobals c = some (some (.ref C))
  ga : PySem.W.findIn K (.ref C) "__getattribute__" = some (some (.builtin "BaseException.__getattribute__"))
  gg : PySem.W.findIn K (.ref C) "__getattr__" = some none
  ex : PySem.W.subIn K (.ref C) (.type "BaseException") = some true
  ty : PySem.W.typeIn K (.ref C) = some (.type "type")
  hd : PySem.W.hasDictIn K C = true
  ic : PySem.W.isClsIn K C = true
  w : PySem.W.findIn K (.ref C) "word" = some none
  p : PySem.W.findIn K (.ref C) "place" = some none
  cl : PySem.W.findIn K (.ref C) "__class__" = some (some (.builtin "object.__class__"))
  gs : PySem.W.specialIn K (.builtin "object.__class__") "__get__" = some (some (.builtin "getset_descriptor.__get__"))
  tk : PySem.W.takesIn K (.builtin "object.__class__") = some true
  ob : PySem.W.mroIn K C (.type "object") = some true
theorem Xk.one {K : PySem.W.Frag} {c : Str} {C C' : Addr} (x : Xk K c C) (h : PySem.W.nsIn K mainGlobals c = some (some (.ref C'))) : C' = C := by
  have z := x.ns.symm.trans h
  cases z
  rfl
/-- for each class of the table: whether an error of it is an instance of cv -/
def Isa (K : PySem.W.Frag) (mg : Str → Option Value) (cv : Value) (l : List (Str × Bool)) : Prop := ∀ e ∈ l, ∃ C, Xk K e.1 C ∧ mg e.1 = some (.ref C) ∧ PySem.W.subIn K (.ref C) cv = some e.2
theorem isa_nil {K : PySem.W.Frag} {mg : Str → Option Value} {cv : Value} : Isa K mg cv [] := fun _ m => (List.not_mem_nil m).elim
theorem isa_cons {K : PySem.W.Frag} {mg : Str → Option Value} {cv : Value} {c : Str} {b : Bool} {C : Addr} {l : List (Str × Bool)} (x : Xk K c C) (hm : mg c = some (.ref C)) (h : PySem.W.subIn K (.ref C) cv = some b) (r : Isa K mg cv l) : Isa K mg cv ((c, b) :: l) := fun e m => by
  rcases List.mem_cons.mp m with rfl | m
  · exact ⟨C, x, hm, h⟩
  · exact r e m
theorem lkB_mem {l : List (Str × Bool)} {c : Str} {b : Bool} (h : l.lookup c = some b) : (c, b) ∈ l := by
  induction l with
  | nil => cases h
  | cons e l ih =>
    obtain ⟨d, k⟩ := e
    rw [List.lookup_cons] at h
    split at h
    · rename_i z
      cases h
      have z := eq_of_beq z
      subst z
      exact List.mem_cons_self
    · exact List.mem_cons_of_mem _ (ih h)
theorem kit_own {K : PySem.W.Frag} {c d : Str} {C D : Addr} {b : Bool} (x : Xk K c C) (y : Xk K d D) (h : PySem.W.subIn K (.ref C) (.ref D) = some b) (hs : PySem.W.subIn K (.ref D) (.ref D) = some true) : PySem.W.kitOne K (.ref C) (.ref D) = some b := by
  unfold PySem.W.kitOne
  by_cases e : (Value.ref C == Value.ref D) = true
  · rw [if_pos e]
    have z : Value.ref C = Value.ref D := eq_of_beq e
    rw [z, hs] at h
    exact h
  · rw [if_neg e]
    unfold PySem.W.kitCls
    have yi : (PySem.W.clsIn K D).isSome = true := y.ic
    simp only [yi, y.ty]
    exact h
theorem kit_VE {K : PySem.W.Frag} {C : Addr} {b : Bool} (h : PySem.W.subIn K (.ref C) (.type "ValueError") = some b) : PySem.W.kitOne K (.ref C) (.type "ValueError") = some b := by
  unfold PySem.W.kitOne
  rw [if_neg (by simp)]
  unfold PySem.W.kitCls
  show (if PySem.W.kitMeta "ValueError" = true then PySem.W.subIn K (.ref C) (.type "ValueError") else none) = some b
  rw [if_pos (by decide +kernel)]
  exact h
theorem exm_own {K : PySem.W.Frag} {d : Str} {C D : Addr} {b : Bool} (y : Xk K d D) (h : PySem.W.subIn K (.ref C) (.ref D) = some b) : PySem.W.exmOne K (.ref C) (.ref D) = some b :=
  PySem.W.exm_ref y.ex y.hd y.ty h
/-! ### the caught exception -/
section
variable {X : Cx} {W : WX} {σ : L2.St} {H : Hp} {A : List Addr} {η : Nv} {i : Nat} {c w : Str} {p : D} {s : Shared} {pins : List (Addr × Obj)}
theorem x_ref {K : PySem.W.Frag} (E : EnvD K H A σ η) (h : η[i]? = some (.x c w p)) : ∃ a, σ[i]? = some (some (.ref a)) ∧ ExH K (hid A H) a c w p := by
  obtain ⟨o, e1, q⟩ := E.at_ i _ h
  match o, q with
  | some (.ref a), q => exact ⟨a, e1, q⟩
theorem exn_at {C a dd : Addr} {fs : List (Str × V)} (J : Inv X pins σ H s) (ea : H a = some (exN a C dd)) (ed : H dd = some (.xd fs)) :
    ∃ (o od : Obj) (mA : Str → Option Value), PySem.W.InstAt s.heap a o C (some od) ∧ (∀ f, PySem.W.lookIn f od = some (mA f)) ∧ ∀ f, RelO (fs.lookup f) (mA f) := by
  have x : ObjOk X.prog X.w H s.heap a (.ext fun h => ∃ (o : Obj) (vs : Array Value), h.get? a = some o ∧ o.cls = .ref C ∧ o.dict = some dd ∧ o.data = .fields vs) := J.hok a _ ea
  obtain ⟨⟨o, vs, h1, h2, h3, h4⟩, _, _⟩ := x
  have y : ObjOk X.prog X.w H s.heap dd (.xd fs) := J.hok dd _ ed
  obtain ⟨mA, hn, hr⟩ := y
  obtain ⟨od, ho, hl⟩ := lookIn_ns hn
  exact ⟨o, od, mA, ⟨h1, h2, by unfold PySem.W.notCls; rw [h4] <;> rfl, by rw [h3]; exact ho⟩, hl, hr⟩
end
def xfV (l : List (Str × Bool)) (wd : Bool) (i : Nat) : Nv → R D := fun η => match η[i]? with
  | some (.x c w p) => if (l.lookup c).isSome = true then .ok (if wd then .str w else p) else .no
  | _ => .no
section
variable {X : Cx} {W : WX} {i : Nat} {x : Str} {pn pos : Pos} {l : List (Str × Bool)} {cv : Value}
theorem x_field (wd : Bool) (i : Nat) (T : Isa X.K X.mg cv l) (hN : X.N[i]? = some x := by rfl) (hv : Vis X.env.scope x := by first | exact Or.inl rfl | exact Or.inr (Or.inl rfl) | exact Or.inr (Or.inr rfl)) (hd : (x == ("__debug__" : Str)) = false := by decide) (hcd : (x == ("__classdict__" : Str)) = false := by decide)
    (hb : attributeBase (.Name x pn) (if wd then "word" else "place") X.env (eval (.Name x pn) X.env) = eval (.Name x pn) X.env := by rfl) : TD X W (.Attribute (.Name x pn) (if wd then "word" else "place") pos) (xfV l wd i) := by
  refine ⟨fun pins s σ H Q J h => ?_⟩
  obtain ⟨η, A, E, p0⟩ := h
  have q : Post X.K X.mg W (rD X.K) σ A H (xfV l wd i η) Q := p0
  unfold xfV at q
  split at q
  case h_2 => exact q.elim
  rename_i c w p eη
  split at q
  case isFalse => exact q.elim
  rename_i hs
  obtain ⟨a, eσ, C, dd, v, ns, ea, ed, dp⟩ := x_ref E eη
  obtain ⟨b, hl⟩ := Option.isSome_iff_exists.mp hs
  obtain ⟨C', k, _, _⟩ := T _ (lkB_mem hl)
  obtain rfl := k.one ns
  refine attr_of hb (thn ((pe_var hN hv hd hcd).run pins s σ H (fun v' H' => v' = .ref a ∧ H' = H) J ⟨.ref a, eσ, rfl, rfl⟩) fun u s1 ⟨v', H', J1, rv, e1, e2⟩ => ?_)
  subst e1 e2
  obtain rfl : u = Value.ref a := rv
  obtain ⟨o, od, mA, I1, hl1, hr⟩ := exn_at J1 ((hid_le A H') _ _ ea) ((hid_le A H') _ _ ed)
  cases wd with
  | true =>
    obtain ⟨u, hu, ru⟩ := RelO.some_of (v := V.str w) (o := mA "word") (hr "word")
    exact HandSPX.exc_get J1.kIn I1 k.ga k.gg k.ex (PySem.W.findObj_own k.hd k.w rfl ((hl1 _).trans (congrArg some hu))) (handed_of ru) ⟨.str w, H', J1.tok _, ru, q _ H' (Same.refl _) (.str w)⟩
  | false =>
    obtain ⟨u, hu, ru⟩ := RelO.some_of (v := v) (o := mA "place") (hr "place")
    exact HandSPX.exc_get J1.kIn I1 k.ga k.gg k.ex (PySem.W.findObj_own k.hd k.p rfl ((hl1 _).trans (congrArg some hu))) (handed_of ru) ⟨v, H', J1.tok _, ru, q _ H' (Same.refl _) dp⟩
end

/-! ### isinstance(e, C) -/
def rIsX (K : PySem.W.Frag) : List V → Hp → VK → Prop := fun xs H Q => ∃ (a C dd : Addr) (c : Str) (fs : List (Str × V)) (t : V) (cv : Value) (b : Bool), xs = [.ref a, t] ∧ (∀ u, RelV t u → u = cv) ∧ H a = some (exN a C dd) ∧ H dd = some (.xd fs) ∧ Xk K c C ∧ PySem.W.kitOne K (.ref C) cv = some b ∧ Q (.bl b) H
theorem call_isX {X : Cx} : CallR X (.builtin "isinstance") (rIsX X.K) := by
  intro pins s σ H xs us Q J r h
  obtain ⟨a, C, dd, c, fs, t, cv, b, rfl, ht, ea, ed, k, ko, q⟩ := h
  match us, r with
  | [u1, u2], .cons r1 (.cons r2 .nil) =>
    obtain rfl : u1 = Value.ref a := r1
    obtain rfl := ht _ r2
    obtain ⟨o, od, mA, I1, _, _⟩ := exn_at J ea ed
    exact PySem.W.kia_one (PySem.W.kitx_exc k.ic k.ga k.gg k.ex k.cl k.gs k.tk k.ob) J.kIn I1 ko (fun z => nomatch z) fun tk => ⟨.bl b, H, J.kept (t' := tk) fun _ _ z => z, rfl, q⟩
def isxV (l : List (Str × Bool)) (i : Nat) : Nv → R D := fun η => match η[i]? with
  | some (.x c _ _) => match l.lookup c with
    | some b => .ok (.bool b)
    | none => .no
  | _ => .no
section
variable {X : Cx} {W : WX} {x y : Str} {p p2 p3 pos : Pos} {l : List (Str × Bool)} {cv : Value} {t : V}
theorem isx_core (i : Nat) (T : Isa X.K X.mg cv l) (kt : ∀ c C b, Xk X.K c C → PySem.W.subIn X.K (.ref C) cv = some b → PySem.W.kitOne X.K (.ref C) cv = some b) (ht : ∀ u, RelV t u → u = cv) (hm : X.mg "isinstance" = none) (hc : PE X (.Name y p2) (tC t)) (hgl : Gl X "isinstance" := by rfl) (hN : X.N[i]? = some x := by rfl)
    (hv : Vis X.env.scope x := by first | exact Or.inl rfl | exact Or.inr (Or.inl rfl) | exact Or.inr (Or.inr rfl)) (hd : (x == ("__debug__" : Str)) = false := by decide) (hcd : (x == ("__classdict__" : Str)) = false := by decide)
    (he : starEach [.Name x p3, .Name y p2] X.env = (false, eval (.Name x p3) X.env) :: starEach [.Name y p2] X.env := by rfl) (hpl : (backTo pos (starEach [.Name y p2] X.env)).any (·.1) = false := by rfl)
    (h2 : starEach [.Name y p2] X.env = (false, eval (.Name y p2) X.env) :: starEach [] X.env := by rfl) : TD X W (.Call (.Name "isinstance" p) [.Name x p3, .Name y p2] [] pos) (isxV l i) :=
  peW (pe_callB call_isX hgl hm (by decide +kernel) (pa_cons (pe_var hN hv hd hcd) (pa_cons hc pa_nil h2) he) (he := he) (hpl := hpl)) fun σ H Q h => by
    obtain ⟨η, A, E, p0⟩ := h
    have q : Post X.K X.mg W (rD X.K) σ A H (isxV l i η) Q := p0
    unfold isxV at q
    split at q
    case h_2 => exact q.elim
    rename_i c w p eη
    split at q
    case h_2 => exact q.elim
    rename_i b hl
    obtain ⟨a, eσ, C, dd, v, ns, ea, ed, dp⟩ := x_ref E eη
    obtain ⟨C', k, _, k2⟩ := T _ (lkB_mem hl)
    obtain rfl := k.one ns
    exact ⟨.ref a, eσ, a, _, dd, c, _, t, cv, b, rfl, ht, (hid_le A H) _ _ ea, (hid_le A H) _ _ ed, k, kt _ _ _ k k2, q _ H (Same.refl _) (.bl b)⟩
/-- C an own class -/
theorem t_isx {D : Addr} (i : Nat) (T : Isa X.K X.mg (.ref D) l) (kd : Xk X.K y D) (ks : PySem.W.subIn X.K (.ref D) (.ref D) = some true) (hm : X.mg "isinstance" = none) (hmy : X.mg y = some (.ref D)) (hgl : Gl X "isinstance" := by rfl) (hgy : Gl X y := by rfl) (hdy : (y == ("__debug__" : Str)) = false := by decide) (hN : X.N[i]? = some x := by rfl)
    (hv : Vis X.env.scope x := by first | exact Or.inl rfl | exact Or.inr (Or.inl rfl) | exact Or.inr (Or.inr rfl)) (hd : (x == ("__debug__" : Str)) = false := by decide) (hcd : (x == ("__classdict__" : Str)) = false := by decide)
    (he : starEach [.Name x p3, .Name y p2] X.env = (false, eval (.Name x p3) X.env) :: starEach [.Name y p2] X.env := by rfl) (hpl : (backTo pos (starEach [.Name y p2] X.env)).any (·.1) = false := by rfl)
    (h2 : starEach [.Name y p2] X.env = (false, eval (.Name y p2) X.env) :: starEach [] X.env := by rfl) : TD X W (.Call (.Name "isinstance" p) [.Name x p3, .Name y p2] [] pos) (isxV l i) :=
  isx_core (t := .ref D) i T (fun c C b k h => kit_own k kd h ks) (fun u r => r) hm (pe_glob hgy hmy rfl hdy) hgl hN hv hd hcd he hpl h2
/-- C is ValueError -/
theorem t_isxV (i : Nat) (T : Isa X.K X.mg (.type "ValueError") l) (hm : X.mg "isinstance" = none) (hmy : X.mg "ValueError" = none) (hgl : Gl X "isinstance" := by rfl) (hgy : Gl X "ValueError" := by rfl) (hN : X.N[i]? = some x := by rfl)
    (hv : Vis X.env.scope x := by first | exact Or.inl rfl | exact Or.inr (Or.inl rfl) | exact Or.inr (Or.inr rfl)) (hd : (x == ("__debug__" : Str)) = false := by decide) (hcd : (x == ("__classdict__" : Str)) = false := by decide)
    (he : starEach [.Name x p3, .Name "ValueError" p2] X.env = (false, eval (.Name x p3) X.env) :: starEach [.Name "ValueError" p2] X.env := by rfl) (hpl : (backTo pos (starEach [.Name "ValueError" p2] X.env)).any (·.1) = false := by rfl)
    (h2 : starEach [.Name "ValueError" p2] X.env = (false, eval (.Name "ValueError" p2) X.env) :: starEach [] X.env := by rfl) : TD X W (.Call (.Name "isinstance" p) [.Name x p3, .Name "ValueError" p2] [] pos) (isxV l i) :=
  isx_core (t := .ty "ValueError") i T (fun c C b k h => kit_VE h) (fun u r => by cases r; rfl) hm (pe_bltn (v := .ty "ValueError") hgy hmy PyProof.Rows.Boot.«ValueError» rfl (by decide) (by decide)) hgl hN hv hd hcd he hpl h2
end
/-! ### try -/
def tryS (i m : Nat) (l : List (Str × Bool)) (Gb Gs : Nv → Rs) : Nv → Rs := fun η => match Gb η with
  | .ex c w p => match l.lookup c with
    | some true => match Gs ((List.replicate m Sl.no).set i (.x c w p)) with
      | .rt d η' => .rt d η'
      | _ => .no
    | some false => .ex c w p
    | none => .no
  | r => r
theorem start_x {K : PySem.W.Frag} {H0 H : Hp} {A0 : List Addr} {σ : L2.St} {i m : Nat} {c w : Str} {p : D} {a C dd : Addr} {v : V} (hA : ∀ b ∈ A0, H0 b ≠ none) (s : Same H0 H) (hl : σ.length = m) (hi : i < m) (na : H a = none)
    (ns : PySem.W.nsIn K mainGlobals c = some (some (.ref C))) (ed : hid A0 H dd = some (.xd (xfs w v))) (dp : Dp K (hid A0 H) v p) :
    EnvS K [] H0 A0 (upd H a (exN a C dd)) [] (σ.set i (some (.ref a))) ((List.replicate m Sl.no).set i (.x c w p)) := by
  have sa : Same H (upd H a (exN a C dd)) := same_new na
  have tr : ∀ b ∈ A0, upd H a (exN a C dd) b ≠ none := fun b mb z => by
    cases q : H0 b with
    | none => exact hA b mb q
    | some o =>
      have y := sa _ _ (s _ _ q)
      rw [z] at y
      cases y
  have nA : a ∉ A0 := fun mb => by
    cases q : H0 a with
    | none => exact hA a mb q
    | some o =>
      have y := s _ _ q
      rw [na] at y
      cases y
  have get : ∀ (j : Nat) (sl : Sl), ((List.replicate m Sl.no).set i (.x c w p))[j]? = some sl → (j = i ∧ sl = .x c w p) ∨ (j ≠ i ∧ sl = .no) := fun j sl e => by
    by_cases hj : j = i
    · subst hj
      rw [List.getElem?_set_self (by rw [List.length_replicate]; exact hi)] at e
      cases e
      exact .inl ⟨rfl, rfl⟩
    · rw [List.getElem?_set_ne (Ne.symm hj), List.getElem?_replicate] at e
      split at e
      · cases e
        exact .inr ⟨hj, rfl⟩
      · cases e
  refine ⟨⟨by simp [hl], fun j sl e => ?_, fun j k b xs ys e _ _ _ => ?_, tr⟩, ?_, ⟨fun q z => (List.not_mem_nil z).elim, hA⟩, fun q z => (List.not_mem_nil z).elim, fun j b xs e => ?_, fun j b ks e => ?_⟩
  · rcases get j sl e with ⟨rfl, rfl⟩ | ⟨hj, rfl⟩
    · refine ⟨_, List.getElem?_set_self (by omega), ?_⟩
      show ExH K (hid A0 (upd H a (exN a C dd))) a c w p
      refine ⟨C, dd, v, ns, by rw [hid_out nA, upd_same], hid_same sa _ _ ed, Dp_mono dp (hid_same sa)⟩
    · have hlt : j < σ.length := by
        have z := (List.getElem?_eq_some_iff.mp e).1
        rw [List.length_set, List.length_replicate] at z
        omega
      exact ⟨σ[j], by rw [List.getElem?_set_ne (Ne.symm hj)]; exact List.getElem?_eq_getElem hlt, trivial⟩
  · rcases get j _ e with ⟨_, z⟩ | ⟨_, z⟩ <;> cases z
  · rw [hid_nil, hid_nil]
    exact s.trans sa
  · rcases get j _ e with ⟨_, z⟩ | ⟨_, z⟩ <;> cases z
  · rcases get j _ e with ⟨_, z⟩ | ⟨_, z⟩ <;> cases z
section
variable {X : Cx} {f : Fx} {x n : Str} {cv : Value} {i : Nat} {l : List (Str × Bool)} {body suite : List Stmt} {b₀ : Stmt} {np pos pos' : Pos} {Gb Gs : Nv → Rs}
theorem s_try (i : Nat) (hM : f.M = []) (nd : X.N.Nodup) (tk : Takes X f.W) (T : Isa X.K X.mg cv l) (ex : ∀ c C b, Xk X.K c C → PySem.W.subIn X.K (.ref C) cv = some b → PySem.W.exmOne X.K (.ref C) cv = some b) (nm : Names X x cv)
    (hb : ∀ (W : WX) (pn : List (Addr × Obj)) (xe : Value → Shared → Prop), Takes (X.tr pn xe) W → PassesOwn (model X.prog X.w) X.A X.env xe → TSs (X.tr pn xe) { f with W := W } body Gb)
    (hsu : ∀ (a : Addr) (pn : List (Addr × Obj)), TSs (X.suite a pn) { f with W := W0 } (b₀ :: suite) Gs)
    (hex : X.ex = [] := by rfl) (stk : X.stack = X.env :: X.outer := by rfl) (fr : X.env.frame = some X.env.locals := by rfl) (hi : X.N[i]? = some n := by rfl) (loc : X.env.kindOf n = some .local := by rfl) :
    TS' X f (.Try body [.ExceptHandler (some (.Name x np)) (some n) (b₀ :: suite) pos'] [] [] pos) (tryS i X.N.length l Gb Gs) := by
  refine psW (ps_tryX (tb := fun W => tS X.K X.mg W f.rl f.M f.H0 f.A0 Gb) (ts := tS X.K X.mg W0 f.rl f.M f.H0 f.A0 Gs) hex stk fr nd hi loc nm tk (fun W pn xe t1 t2 => hb W pn xe t1 t2) hsu) fun E σ H h => ?_
  obtain ⟨η, B, e, p0⟩ := h
  obtain ⟨W, rl, M, H0, A0⟩ := f
  obtain rfl : M = [] := hM
  have p : PostS X.K X.mg W rl [] H0 A0 H B (tryS i X.N.length l Gb Gs η) E := p0
  refine ⟨η, B, e, ?_⟩
  unfold tryS at p
  split at p
  case h_2 => 
    rename_i r hr
    show PostS X.K X.mg _ rl [] H0 A0 H B (Gb η) E
    cases hg : Gb η with
    | ex c w z => exact absurd hg (hr c w z)
    | nx η1 => rw [hg] at p; exact p
    | rt d η1 => rw [hg] at p; exact p
    | bk η1 => rw [hg] at p; exact p
    | ct η1 => rw [hg] at p; exact p
    | no => rw [hg] at p; exact p
  rename_i c w z hg
  show PostS X.K X.mg _ rl [] H0 A0 H B (Gb η) E
  rw [hg]
  intro cls dd σ' H' s1 ⟨hm, dx, v, hdd, ed, dp⟩
  split at p
  case h_3 => exact p.elim
  case h_1 =>
    rename_i hl
    obtain ⟨C, k, km, k2⟩ := T _ (lkB_mem hl)
    have z1 := km.symm.trans hm
    have hcls : cls = .ref C := by cases z1; rfl
    subst hcls
    refine ⟨true, ex _ _ _ k k2, fun _ => ⟨C, dx, rfl, hdd, fun hlen a na => ?_⟩, (fun z => by cases z)⟩
    have hi2 : i < X.N.length := (List.getElem?_eq_some_iff.mp hi).1
    refine ⟨_, [], start_x e.mA.2 (same_nil s1) hlen hi2 na k.ns ed dp, ?_⟩
    split at p
    case h_2 => exact p.elim
    rename_i d η2 hg2
    show PostS X.K X.mg W0 rl [] H0 A0 _ [] (Gs _) _
    rw [hg2]
    exact p
  case h_2 =>
    rename_i hl
    obtain ⟨C, k, km, k2⟩ := T _ (lkB_mem hl)
    have z1 := km.symm.trans hm
    have hcls : cls = .ref C := by cases z1; rfl
    subst hcls
    exact ⟨false, ex _ _ _ k k2, (fun z => by cases z), fun _ => p _ _ σ' H' s1 ⟨hm, dx, v, hdd, ed, dp⟩⟩
end
end Bd
/-! D54: xs[::2], xs[1::2] of a list. -/
namespace Bd
open PySem L2
section
variable {X : Cx} {W : WX} {a : Expr} {Fa : Nv → R D} {pos : Pos}
end
end Bd
/-! D55: {e for t in xs if ..}, e an int, by data. -/
namespace Bd
open PySem L2
section
variable {X : Cx} {W : WX} {tg iter elt : Expr} {ifs : List Expr} {pos : Pos}
end
end Bd
/-! D56: a dict of the def's own handed out; dicts, whoever's, handed to a def that reads them and may raise. -/
namespace Bd
open PySem L2
def zD (ks : List (List Int × D)) : List (D × D) := ks.map fun p => (.tuple (p.1.map PyData.int), p.2)
section
variable {X : Cx} {f : Fx}
end
/-! ### what is hidden but for dicts -/
open Classical in
noncomputable def unD (H : Hp) (A : List Addr) : List Addr := A.filter fun b => decide (¬ ∃ o, DoS o ∧ H b = some o)
section
variable {K : PySem.W.Frag} {H : Hp} {A B : List Addr}
theorem rdL_do {a : Addr} {xs : List V} (hl : ∀ b ∈ A, b ∉ B → ∃ o, DoS o ∧ H b = some o) (h : SqL K (hid B H) a xs) : SqL K (hid A H) a xs := by
  have key : ∀ o, ¬ DoS o → hid B H a = some o → hid A H a = some o := fun o no e => by
    obtain ⟨n, e⟩ := hid_some e
    rw [hid_out fun m => ?_]
    · exact e
    · obtain ⟨o1, so, z⟩ := hl a m n
      rw [e] at z
      cases z
      exact no so
  rcases h with (h | ⟨o, h⟩) | h
  · exact .inl (.inl (key _ (fun z => by rcases z with ⟨_, z⟩ | ⟨_, z⟩ <;> cases z) h))
  · exact .inl (.inr ⟨o, key _ (fun z => by rcases z with ⟨_, z⟩ | ⟨_, z⟩ <;> cases z) h⟩)
  · exact .inr h
theorem rdT_do {a : Addr} {xs : List V} (hl : ∀ b ∈ A, b ∉ B → ∃ o, DoS o ∧ H b = some o) (h : SqT K (hid B H) a xs) : SqT K (hid A H) a xs := by
  have key : ∀ o, ¬ DoS o → hid B H a = some o → hid A H a = some o := fun o no e => by
    obtain ⟨n, e⟩ := hid_some e
    rw [hid_out fun m => ?_]
    · exact e
    · obtain ⟨o1, so, z⟩ := hl a m n
      rw [e] at z
      cases z
      exact no so
  rcases h with (h | ⟨o, h⟩) | h
  · exact .inl (.inl (key _ (fun z => by rcases z with ⟨_, z⟩ | ⟨_, z⟩ <;> cases z) h))
  · exact .inl (.inr ⟨o, key _ (fun z => by rcases z with ⟨_, z⟩ | ⟨_, z⟩ <;> cases z) h⟩)
  · exact .inr h
mutual
theorem dp_do (hl : ∀ b ∈ A, b ∉ B → ∃ o, DoS o ∧ H b = some o) : ∀ (d : D) (v : V), Dp K (hid B H) v d → Dp K (hid A H) v d
  | .none, _, h => by cases h; exact .non
  | .bool b, _, h => by cases h; exact .bl b
  | .int i, _, h => by cases h; exact .int i
  | .str x, _, h => by cases h; exact .str x
  | .list ds, _, h => by
    cases h with
    | lst h1 h2 => exact .lst (rdL_do hl h1) (dps_do hl ds _ h2)
  | .tuple ds, _, h => by
    cases h with
    | tup h1 h2 => exact .tup (rdT_do hl h1) (dps_do hl ds _ h2)
  | .dict _, _, h => by cases h
theorem dps_do (hl : ∀ b ∈ A, b ∉ B → ∃ o, DoS o ∧ H b = some o) : ∀ (ds : List D) (vs : List V), DpAll K (hid B H) vs ds → DpAll K (hid A H) vs ds
  | [], _, h => by cases h; exact .nil
  | d :: ds, _, h => by
    cases h with
    | cons h1 h2 => exact .cons (dp_do hl d _ h1) (dps_do hl ds _ h2)
end
end
section
variable {X : Cx} {W : WX} {e : Expr} {Fe : Nv → R D} {pos p : Pos} {x : Str}
end
/-! ### the def -/
section
variable {P : Program} {w : World} {K : PySem.W.Frag} {mg : Str → Option Value} {base : Heap}
end
section
variable {X : Cx} {W : WX} {e : Expr} {es : List Expr} {x : Str} {p pos : Pos} {k n : Nat} {Fn : List D → R D} {Fs : Nv → R (List D)}
end
end Bd
/-! D57: texts by data: join, split, removeprefix, str(i), int(text), len, parts of texts, signs. -/
namespace Bd
open PySem L2
/-- a text's method of one argument -/
def s2 (f : Str → D → Option D) (Fo Fe : Nv → R D) : Nv → R D := fun η => (Fo η).bind fun a => match a with
  | .str x => (Fe η).bind fun y => .of (f x y)
  | _ => .no
section
variable {X : Cx} {W : WX} {o e a b : Expr} {Fo Fe Fa Fb : Nv → R D} {rl : Rl} {pos p apos cpos : Pos}
theorem t_smeth {id : String} {name : Str} {r : V → List V → Hp → VK → Prop} {f : Str → D → Option D} (hb : Back rl) (slot : Slot "str" name id) (hty : typeOf (.builtin id) = pure (.type "method_descriptor")) (hm : MtR X id r)
    (hr : ∀ (H : Hp) (A : List Addr) (x : Str) (y : V) (b d : D) (Q : VK), (∀ q ∈ A, H q ≠ none) → rO X.K H H A y b → f x b = some d → (∀ v H', Same H H' → rl H H' A v d → Q v H') → r (.str x) [y] H Q)
    (ho : TO X W o Fo) (he : TO X W e Fe) (hs : starEach [e] X.env = [(false, eval e X.env)] := by rfl) (hbase : attributeBase o name X.env (eval o X.env) = eval o X.env := by rfl) (hline : (apos.endLine == cpos.line) = true := by rfl) :
    PE X (.Call (.Attribute o name apos) [e] [] cpos) (tR X.K X.mg W rl (s2 f Fo Fe)) := peW (pe_m1 slot hty hm ho he hs hbase hline) fun σ H Q ⟨η, A, E, p0⟩ => by
  have p : Post X.K X.mg W rl σ A H (s2 f Fo Fe η) Q := p0
  unfold s2 at p
  refine (show tR X.K X.mg W (rO X.K) Fo σ H _ from ⟨η, A, E, ?_⟩)
  cases e1 : Fo η with
  | ex c w q => rw [e1] at p; exact p
  | no => rw [e1] at p; exact p
  | ok a =>
    rw [e1] at p
    cases a <;> first | exact False.elim p | skip
    rename_i x
    have p : Post X.K X.mg W rl σ A H ((Fe η).bind fun y => .of (f x y)) Q := p
    intro v H1 s1 q1
    cases rO_str q1
    refine ⟨⟨x, rfl⟩, ?_⟩
    refine (show tR X.K X.mg W (rO X.K) Fe σ H1 _ from ⟨η, A, E.same s1, ?_⟩)
    have p := Post.same hb s1 p
    cases e2 : Fe η with
    | ex c w q => rw [e2] at p; exact p
    | no => rw [e2] at p; exact p
    | ok y =>
      rw [e2] at p
      have p : Post X.K X.mg W rl σ A H1 (.of (f x y)) Q := p
      intro w H2 s2 q2
      have p := Post.same hb s2 p
      cases e3 : f x y with
      | none => rw [e3] at p; exact False.elim p
      | some d =>
        rw [e3] at p
        exact hr H2 A x w y d Q (E.same (s1.trans s2)).tr (rO_same (Same.refl _) q2) e3 fun v H' s q => p v H' s q
/-! ### join, split -/
def strs? : List D → Option (List Str)
  | [] => some []
  | .str x :: ds => (strs? ds).map (x :: ·)
  | _ => none
theorem strs?_map : ∀ l : List Str, strs? (l.map PyData.str) = some l
  | [] => rfl
  | x :: l => by
    show (strs? (l.map PyData.str)).map (x :: ·) = _
    rw [strs?_map l]
    rfl
theorem strs?_eq : ∀ {ds : List D} {l : List Str}, strs? ds = some l → ds = l.map PyData.str
  | [], l, h => by cases (show some [] = some l from h); rfl
  | d :: ds, l, h => by
    cases d with
    | str i =>
      have h' : (strs? ds).map (i :: ·) = some l := h
      cases c : strs? ds with
      | none => rw [c] at h'; cases h'
      | some r =>
        rw [c] at h'
        cases h'
        rw [strs?_eq c]
        rfl
    | _ => cases (show none = some l from h)
theorem vals_strsD {K : PySem.W.Frag} {H : Hp} : ∀ {vs : List V} {l : List Str}, DpAll K H vs (l.map PyData.str) → vs = l.map V.str
  | [], [], _ => rfl
  | _ :: _, [], h => by cases h
  | [], _ :: _, h => by cases h
  | v :: vs, k :: l, h => by
    cases h with
    | cons h1 h2 =>
      cases h1
      rw [vals_strsD h2]
      rfl
def joinV (x : Str) (d : D) : Option D := match d with
  | .list ds => match strs? ds with
    | some ys => if (ys.map (·.length)).sum + ys.length * x.length ≤ 16777216 then some (.str (Txt.join x ys)) else none
    | none => none
  | _ => none
theorem t_join (ho : TO X W o Fo) (he : TO X W e Fe) (hs : starEach [e] X.env = [(false, eval e X.env)] := by rfl) (hbase : attributeBase o "join" X.env (eval o X.env) = eval o X.env := by rfl) (hline : (apos.endLine == cpos.line) = true := by rfl) :
    TD X W (.Call (.Attribute o "join" apos) [e] [] cpos) (s2 joinV Fo Fe) :=
  t_smeth back_D F.slot_str_join F.type_str_join mt_join (fun H A x y b d Q hA qb hf k => by
    unfold joinV at hf
    split at hf
    · rename_i ds
      split at hf
      · rename_i ys e2
        split at hf
        · rename_i hz
          cases hf
          obtain ⟨l, vs, rfl, h1, qv⟩ := rO_list qb
          rw [strs?_eq e2] at qv
          rw [vals_strsD qv] at h1
          exact ⟨x, l, ys, rfl, rfl, .inl h1, hz, k _ H (Same.refl _) (.str _)⟩
        · cases hf
      · cases hf
    · cases hf) ho he hs hbase hline
def splitV (x : Str) (d : D) : Option D := match d with
  | .str y => if y.length ≠ 0 ∧ x.length + 2 ≤ lineN then some (.list ((Txt.split x y).map PyData.str)) else none
  | _ => none
theorem dps_strs {K : PySem.W.Frag} {H : Hp} : ∀ l : List Str, DpAll K H (l.map V.str) (l.map PyData.str)
  | [] => .nil
  | x :: l => .cons (.str x) (dps_strs l)
theorem t_split (ho : TO X W o Fo) (he : TO X W e Fe) (hs : starEach [e] X.env = [(false, eval e X.env)] := by rfl) (hbase : attributeBase o "split" X.env (eval o X.env) = eval o X.env := by rfl) (hline : (apos.endLine == cpos.line) = true := by rfl) :
    TF X W (.Call (.Attribute o "split" apos) [e] [] cpos) (s2 splitV Fo Fe) :=
  t_smeth back_F F.slot_str_split F.type_str_split mt_split (fun H A x y b d Q hA qb hf k => by
    unfold splitV at hf
    split at hf
    · rename_i z
      split at hf
      · rename_i hz
        cases hf
        cases rO_str qb
        exact ⟨x, z, rfl, rfl, beq_eq_false_iff_ne.mpr hz.1, by rw [line_eq]; exact hz.2, fun q hq => k _ _ (same_new hq) ⟨q, _, _, rfl, rfl, hq, upd_same, dps_strs _⟩⟩
      · cases hf
    · cases hf) ho he hs hbase hline
def rmpV (x : Str) (d : D) : Option D := match d with
  | .str y => if x.length ≤ lineN then some (.str (Txt.removeprefix x y)) else none
  | _ => none
theorem t_rmp (ho : TO X W o Fo) (he : TO X W e Fe) (hs : starEach [e] X.env = [(false, eval e X.env)] := by rfl) (hbase : attributeBase o "removeprefix" X.env (eval o X.env) = eval o X.env := by rfl) (hline : (apos.endLine == cpos.line) = true := by rfl) :
    TD X W (.Call (.Attribute o "removeprefix" apos) [e] [] cpos) (s2 rmpV Fo Fe) :=
  t_smeth back_D F.slot_str_removeprefix F.type_str_removeprefix mt_removeprefix (fun H A x y b d Q hA qb hf k => by
    unfold rmpV at hf
    split at hf
    · rename_i z
      split at hf
      · rename_i hz
        cases hf
        cases rO_str qb
        exact ⟨x, z, rfl, rfl, by rw [line_eq]; exact hz, k _ H (Same.refl _) (.str _)⟩
      · cases hf
    · cases hf) ho he hs hbase hline
/-! ### str(i), int(text), len(text) -/
theorem all1' {K : PySem.W.Frag} {H : Hp} {A : List Addr} {vs : List V} {d : D} (h : AllV (vO K) H A vs [d]) : ∃ v, vs = [v] ∧ vO K H A v d := by
  match vs, h with
  | [v], ⟨h, _⟩ => exact ⟨v, rfl, h⟩
def strIV : List D → Option D
  | [.int i] => if i.natAbs.log2 < 1920 then some (.str (Str.ofString (toString i))) else none
  | _ => none
theorem t_strI {Fs : Nv → R (List D)} (hm : X.mg "str" = none) (ha : TAs X W (vO X.K) [e] Fs) (hg : Gl X "str" := by rfl) (he : starEach [e] X.env = (false, eval e X.env) :: starEach [] X.env := by rfl) (hpl : (backTo pos (starEach [] X.env)).any (·.1) = false := by rfl) :
    TD X W (.Call (.Name "str" p) [e] [] pos) (eN strIV Fs) := t_callTy back_D call_str_int (fun H A vs ds d Q hA h e k => by
  unfold strIV at e
  split at e
  · rename_i i
    split at e
    · rename_i hz
      cases e
      obtain ⟨v, rfl, q⟩ := all1' h
      cases rO_int q
      exact ⟨i, rfl, hz, k _ H (Same.refl _) (.str _)⟩
    · cases e
  · cases e) hg hm (by decide +kernel) ha (he := he) (hpl := hpl)
def intSV : List D → Option D
  | [.str x] => match intText? x with
    | some n => if x.length ≤ 640 then some (.int n) else none
    | none => none
  | _ => none
theorem t_intS {Fs : Nv → R (List D)} (hm : X.mg "int" = none) (ha : TAs X W (vO X.K) [e] Fs) (hg : Gl X "int" := by rfl) (he : starEach [e] X.env = (false, eval e X.env) :: starEach [] X.env := by rfl) (hpl : (backTo pos (starEach [] X.env)).any (·.1) = false := by rfl) :
    TD X W (.Call (.Name "int" p) [e] [] pos) (eN intSV Fs) := t_callTy back_D call_int_str (fun H A vs ds d Q hA h e k => by
  unfold intSV at e
  split at e
  · rename_i x
    split at e
    · rename_i n hn
      split at e
      · rename_i hz
        cases e
        obtain ⟨v, rfl, q⟩ := all1' h
        cases rO_str q
        exact ⟨x, n, rfl, hn, hz, k _ H (Same.refl _) (.int _)⟩
      · cases e
    · cases e
  · cases e) hg hm (by decide +kernel) ha (he := he) (hpl := hpl)
def lenTV : List D → Option D
  | [.str x] => if x.length ≤ lineN then some (.int x.length) else none
  | _ => none
theorem t_lenT {Fs : Nv → R (List D)} (hm : X.mg "len" = none) (ha : TAs X W (vO X.K) [e] Fs) (hg : Gl X "len" := by rfl) (he : starEach [e] X.env = (false, eval e X.env) :: starEach [] X.env := by rfl) (hpl : (backTo pos (starEach [] X.env)).any (·.1) = false := by rfl) :
    TD X W (.Call (.Name "len" p) [e] [] pos) (eN lenTV Fs) := t_callB back_D call_len_str (fun H A vs ds d Q hA h e k => by
  unfold lenTV at e
  split at e
  · rename_i x
    split at e
    · rename_i hz
      cases e
      obtain ⟨v, rfl, q⟩ := all1' h
      cases rO_str q
      exact ⟨x, rfl, by rw [line_eq]; exact hz, k _ H (Same.refl _) (.int _)⟩
    · cases e
  · cases e) hg hm PySem.boot_len ha (he := he) (hpl := hpl)
/-! ### a + b, a[i], a[i:j], sign in a -/
def ixT : D → D → Option D
  | .str x, .int i => if x.length ≤ lineN then (L2.atI x.cps.toList i).map fun c => .str ⟨#[c]⟩ else none
  | _, _ => none
theorem o_ixT : Op2 X (rD X.K) rIxS ixT := fun H A x y a b d Q hA ha hb e k => by
  unfold ixT at e
  split at e
  · rename_i z i
    split at e
    · rename_i hz
      obtain ⟨c, hc, rfl⟩ := Option.map_eq_some_iff.mp e
      cases rO_str ha
      cases rO_int hb
      exact ⟨_, _, c, rfl, rfl, by rw [line_eq]; exact hz, hc, k _ H (Same.refl _) (.str _)⟩
    · cases e
  · cases e
theorem t_ixT (ha : TO X W a Fa) (hb : TO X W b Fb) (hs : PlainIx b := by exact fun _ _ => rfl) : TD X W (.Subscript a b pos) (e2 ixT Fa Fb) := peW (pe_ix ix_str ha hb hs) fun _ _ _ => op2_t back_D o_ixT
def slT (lo hi : Option Int) : D → Option D
  | .str x => if x.length ≤ lineN then some (.str (Txt.slice x lo hi)) else none
  | _ => none
theorem t_sliceT {lo hi : Option Expr} {Lo Hi : Nv → R (Option Int)} {p2 : Pos} (ha : TO X W a Fa) (hl : TPt X W lo Lo) (hh : TPt X W hi Hi) : TD X W (.Subscript a (.Slice lo hi none p2) pos) (slE slT Fa Lo Hi) :=
  slice_t back_D C8.sl_txt (fun H A x a d l h Q hA ha e k => by
    unfold slT at e
    split at e
    · split at e
      · rename_i hz
        cases e
        cases rO_str ha
        exact ⟨_, rfl, by rw [line_eq]; exact hz, k _ H (Same.refl _) (.str _)⟩
      · cases e
    · cases e) ha hl hh
def inT (no : Bool) : D → D → Option D
  | .str x, .str y => match x.cps.toList with
    | [c] => some (.bool (decide (c ∈ y.cps.toList) != no))
    | _ => none
  | _, _ => none
theorem o_inT : Op2 X rB rInS (inT false) := fun H A x y a b d Q hA ha hb e k => by
  unfold inT at e
  split at e
  · rename_i x y
    split at e
    · rename_i c hc
      cases e
      cases rO_str ha
      cases rO_str hb
      have ex : x = ⟨#[c]⟩ := Str.ext' (Array.toList_inj.mp hc)
      exact ⟨c, y, by rw [ex], rfl, k _ H (Same.refl _) ⟨_, rfl, by rw [Bool.bne_false]⟩⟩
    · cases e
  · cases e
theorem o_ninT : Op2 X rB rNotInS (inT true) := fun H A x y a b d Q hA ha hb e k => by
  unfold inT at e
  split at e
  · rename_i x y
    split at e
    · rename_i c hc
      cases e
      cases rO_str ha
      cases rO_str hb
      have ex : x = ⟨#[c]⟩ := Str.ext' (Array.toList_inj.mp hc)
      exact ⟨c, y, by rw [ex], rfl, k _ H (Same.refl _) ⟨_, rfl, by rw [Bool.bne_true]⟩⟩
    · cases e
  · cases e
theorem t_inT (ha : TO X W a Fa) (hb : TO X W b Fb) (h1 : behindInMarks .In b = false := by with_unfolding_all rfl) : TD X W (.Compare a [.In] [b] pos) (e2 (inT false) Fa Fb) := t_cmpB op_inS o_inT ha hb h1
theorem b_ninT (ha : TO X W a Fa) (hb : TO X W b Fb) (h1 : behindInMarks .NotIn b = false := by with_unfolding_all rfl) : TB X W (.Compare a [.NotIn] [b] pos) (tb (e2 (inT true) Fa Fb)) := b_cmp op_notInS o_ninT ha hb h1
/-! ### for sign in text -/
def signsD (x : Str) : List D := x.cps.toList.map fun c => .str ⟨#[c]⟩
theorem walks_str {K : PySem.W.Frag} {H1 : Hp} {A : List Addr} {x : Str} : Walks K (Its x) H1 A (signsD x) where
  step := fun i d e A' H2 s _ => by
    unfold signsD at e
    rw [List.getElem?_map, Option.map_eq_some_iff] at e
    obtain ⟨c, hc, rfl⟩ := e
    rw [Array.getElem?_toList] at hc
    refine ⟨(Array.getElem?_eq_some_iff.mp hc).1, fun u H3 y => ?_⟩
    obtain ⟨rfl, c2, h2, rfl⟩ := y
    rw [hc] at h2
    cases h2
    exact ⟨Same.refl _, .str _⟩
  stop := fun A' H2 s => by
    show x.cps.size ≤ (signsD x).length
    unfold signsD
    rw [List.length_map, Array.length_toList]
    exact Nat.le_refl _
def asSigns : D → R (List D)
  | .str x => .ok (signsD x)
  | _ => .no
def iSg (F : Nv → R D) : Nv → R (List D) := fun η => (F η).bind asSigns
variable {tg iter : Expr} {F : Nv → R D}
theorem i_sgn (h : TO X W iter F) : TI' X W tg iter (iSg F) := piW (pi_str h) fun σ H R q => by
  obtain ⟨η, A, E, p0⟩ := q
  have p : PostI X.K X.mg W σ A H ((F η).bind asSigns) R := p0
  refine (show tR X.K X.mg W (rO X.K) F σ H _ from ⟨η, A, E, ?_⟩)
  cases e1 : F η with
  | ex c w q => rw [e1] at p; exact p
  | no => rw [e1] at p; exact p
  | ok d =>
    rw [e1] at p
    cases d <;> first | exact False.elim p | skip
    rename_i x
    have p : PostI X.K X.mg W σ A H (.ok (signsD x)) R := p
    intro v H1 s1 q1
    cases rO_str q1
    exact ⟨x, rfl, p _ H1 s1 walks_str⟩
end
end Bd
/-! X10: [e for t in xs], e may raise: the error passes the block. -/
namespace Bd
open PySem PySem.Spec PyProof.Rows L2

/-- where the block's run leads -/
def postX (M : Model) (A : Around) (E : Value → Shared → Prop) (use : Option (Value → Sem Unit)) (Q : Value → Shared → Prop) (acc : Value) (cenv : Env) (r : Result) (s' : Shared) : Prop :=
  match r with
  | .ok f => compPost M A E use Q acc cenv.locals (.ok f) s'
  | .error x => ∃ m, s'.heap.Ns cenv.locals m ∧ ∀ h', Heap.SameBut cenv.locals s'.heap h' → wpAny M A (passOn "comprehension.variables-let-go" x cenv : Sem Value) (fun _ _ => False) E { s' with heap := h' }
theorem compX_free {M : Model} {A : Around} {E : Value → Shared → Prop} {s : Shared} {env : Env} {e : Expr} {scope : Scope} {pos : Pos} {newAcc first : Sem Value} {g : Comprehension} {gs : List Comprehension} {cl : List (Str × Addr)} {use : Option (Value → Sem Unit)}
    {Q : Value → Shared → Prop} (hcl : clausesOf e = g :: gs) (hs : ∀ x, foldedSetIterable g.iter env x = pure x) (hclos : closureFor scope env = pure cl)
    (hkind : scope.kind = .function) (hnames : ∀ x ∈ scope.names, x.2 = .local → scope.names.lookup x.1 = some .local)
    (h : wpAny M A first (fun x s₁ => wpAny M A (pyIter x) (fun it s₂ => wpAny M A newAcc (fun acc s₃ =>
      wpAny M A (newFunctionEnv scope env.globals cl [] env.qual none .none (some env)) (fun cenv s₄ =>
        codeAny M A (.compStart e 0 it acc { cenv with scope := relabel scope env }) (postX M A E use Q acc { cenv with scope := relabel scope env }) s₄) E s₃) E s₂) E s₁) E s) :
    wpAny M A (comprehension e scope env pos newAcc false first use) Q E s := by
  unfold comprehension
  rw [hclos, hcl]
  have same : ∀ {α : Type} {t : Sem α} {Q1 Q2 : α → Shared → Prop} {s1 : Shared}, wpAny M A t Q1 E s1 → (∀ a s2, Q1 a s2 → Q2 a s2) → wpAny M A t Q2 E s1 := fun k1 k2 => wpAny_mono k1 k2 fun _ _ z => z
  refine wpAny_bind (same h fun x s1 h1 => ?_)
  refine wpAny_bind (wpAny_standAt (wpAny_bind (wpAny_of_eq (hs x) (wpAny_bind (wpAny_holding (same h1 fun it s2 h2 => ?_))))))
  refine wpAny_standIf (wpAny_bind (same h2 fun acc s3 h3 => ?_))
  refine wpAny_bind (wpAny_pure (wpAny_bind (same h3 fun cenv s4 h4 => ?_)))
  dsimp only
  have loc : ∀ x ∈ (scope.names.filter fun x => (x.2 == .local || x.2 == .cell) && x.1 != (".0" : Str)).reverse, x.2 = .local → Env.kindOf { cenv with scope := relabel scope env } x.1 = some .local :=
    fun x hx hl => lookup_relabel_local (hnames x (List.mem_filter.mp (List.mem_reverse.mp hx)).1 hl)
  refine wpAny_holding (wpAny_bind (wpAny_attempt (wpAny_holding (wpAny_run (codeAny_mono h4 fun r s' hr => ?_)))))
  cases r with
  | ok f =>
    cases use with
    | none =>
      obtain ⟨m, hn, hr⟩ := hr
      exact wpAny_bind (wpAny_holding (wpAny_comp_letGo (cenv := { cenv with scope := relabel scope env }) hkind _ s' m loc hn fun h' m' _ hs' => wpAny_pure (hr h' hs')))
    | some u =>
      have hr : wpAny M A (u acc) (fun _ s'' => ∃ m, s''.heap.Ns cenv.locals m ∧ ∀ h', Heap.SameBut cenv.locals s''.heap h' → Q .none { s'' with heap := h' }) E s' := hr
      refine wpAny_bind (wpAny_rule (wpAny_bind (wpAny_holding (same hr fun _ s'' hr' => ?_))))
      obtain ⟨m, hn, hr'⟩ := hr'
      refine wpAny_bind (wpAny_comp_letGo (cenv := { cenv with scope := relabel scope env }) hkind _ s'' m (fun x hx hl => ?_) hn fun h' m' _ hs' => wpAny_pure (hr' h' hs'))
      rcases List.mem_append.mp hx with m1 | m1
      · exact loc x (List.mem_of_mem_drop m1) hl
      · exact loc x (List.mem_of_mem_take m1) hl
  | error x =>
    obtain ⟨m, hn, hr⟩ := hr
    exact wpAny_bind (wpAny_holding (wpAny_comp_letGo (cenv := { cenv with scope := relabel scope env }) hkind _ s' m loc hn fun h' m' _ hs' => wpAny_mono (hr h' hs') (fun _ _ f => f.elim) fun _ _ y => y))
theorem frames_at {base B h h' : Heap} : ∀ {l : List Env}, h.FunFrames base l → (∀ L ∈ frs l, ∀ o, h.get? L = some o → h'.get? L = some o) → (∀ L ∈ frs l, B.get? L = none) → h'.FunFrames B l
  | [], _, _, _ => trivial
  | env :: l, hl, k, n => by
    obtain ⟨hk, ⟨L, o, hf, hn, ho, hd⟩, hr⟩ := hl
    have m : ∀ x, x ∈ frs l → x ∈ frs (env :: l) := fun x hx => by unfold frs; rw [List.filterMap_cons, hf]; exact List.mem_cons_of_mem _ hx
    have m0 : L ∈ frs (env :: l) := by unfold frs; rw [List.filterMap_cons, hf]; exact List.mem_cons_self
    exact ⟨hk, ⟨L, o, hf, n L m0, k L m0 o ho, hd⟩, frames_at hr (fun x hx => k x (m x hx)) fun x hx => n x (m x hx)⟩
theorem note_same {x : Value} {e1 e2 : Env} (h : e1.frame = e2.frame) : noteFrame x e1 = noteFrame x e2 := by
  unfold noteFrame PySem.frameOf
  rw [h]
section
variable {X : Cx} {pins : List (Addr × Obj)} {σ : L2.St} {H H' : Hp} {s s' : Shared} {B : Heap}
/-- the state without the error -/
theorem air (I : Inv X pins σ H s) (st : B.StaysIn s'.heap) (hok : HOk X.prog X.w H' B) (ub : UB (frs X.stack) H H' s.heap B s'.heap) (ag : AllBare s'.gens) :
    ∃ G : Heap, Inv X pins σ H' { s with heap := G, gens := s'.gens, drawn := s'.drawn, toks := s'.toks } ∧ (∀ b o, G.get? b = some o → b ∉ frs X.stack → B.get? b = some o) ∧ ∀ b o, G.get? b = some o → s'.heap.get? b = some o := by
  obtain ⟨G, in1, in0⟩ := restrict s'.heap fun b => (B.get? b).isSome || decide (b ∈ frs X.stack)
  have ofB : ∀ b o, B.get? b = some o → G.get? b = some o := fun b o e => by rw [in1 b (by simp [e])]; exact st b o e
  have there : ∀ b o, G.get? b = some o → s'.heap.get? b = some o ∧ ((B.get? b).isSome = true ∨ b ∈ frs X.stack) := fun b o e => by
    cases q : ((B.get? b).isSome || decide (b ∈ frs X.stack)) with
    | false => rw [in0 b q] at e; cases e
    | true => rw [in1 b q] at e; exact ⟨e, by simpa [Bool.or_eq_true] using q⟩
  have slot : ∀ b o, s.heap.get? b = some o → b ∈ frs X.stack → ∃ sl, G.get? b = some { o with slots := sl } := fun b o e hb => by
    obtain ⟨sl, q⟩ := ub.slot b o e hb
    exact ⟨sl, by rw [in1 b (by simp [hb])]; exact q⟩
  refine ⟨G, I.call (ch := []) ⟨fun b o e n hb _ => ofB b o (ub.keep b o e n hb), fun b o e n hb _ => slot b o e hb, fun b o e n _ => ub.free b o e n, fun b o e _ => ?_, ub.tups, ub.frzs, ub.tbls⟩ (hok.kept ofB) ag (fun _ z => nomatch z), fun b o e nb => ?_, fun b o e => (there b o e).1⟩
  · by_cases hb : b ∈ frs X.stack
    · obtain ⟨sl, q⟩ := slot b o e hb
      exact ⟨_, q⟩
    · obtain ⟨o', q⟩ := ub.there b o e hb
      exact ⟨o', ofB b o' q⟩
  · obtain ⟨e1, h⟩ := there b o e
    rcases h with h | h
    · obtain ⟨o', q⟩ := Option.isSome_iff_exists.mp h
      rw [st b o' q] at e1
      cases e1
      exact q
    · exact absurd h nb
/-- an error of a call within the block, noted, the block's names let go: in the def's air -/
theorem leave_block {W : WX} {E : XK} {C : Addr} {ce : Env} {u : Value} {acc : Value} {use : Option (Value → Sem Unit)} {Qf : Value → Shared → Prop} (tk : Takes X W) (hst : X.stack = X.env :: X.outer) (hfr : X.env.frame = some X.env.locals)
    (I : Inv X pins σ H s) (hC : ce.locals = C) (hF : ce.frame = X.env.frame) (fC : FpOk X pins H C) (nsC : ∃ m, s.heap.Ns C m) (nfr : C ∉ frs X.stack)
    (c : CX X.prog X.w X.stack H s E u s') (hW : ∀ cls d G, E cls d G → W cls d σ G) :
    notedBy (model X.prog X.w) X.A ce (fun x s2 => postX (model X.prog X.w) X.A X.xe use Qf acc ce (.error x) s2) u s' := by
  obtain ⟨a, B, H', cls, d, rfl, fl, hok, ub, na, os, ag, hE⟩ := c
  obtain ⟨G, IG, nb, og⟩ := air I fl.1 hok ub ag
  obtain ⟨m, oC, es, ep, hoC, hdC, rC⟩ := nsC
  have HC : H C = none := fC.1
  have BC : B.get? C = some oC := ub.keep C oC hoC HC nfr
  have hframes : X.A.frames = some (X.env :: X.outer) := by rw [I.ok.frames, hst]
  show wpAny _ X.A (noteFrame (.ref a) ce) _ _ s'
  rw [note_same hF]
  rw [hst] at fl
  refine HandSPX.looks_onZ Zc.steady hframes hfr fl fun h1 held up => ?_
  have hC1 : h1.get? C = some oC := held.1 C oC BC
  refine ⟨m, by rw [hC]; exact ⟨oC, es, ep, hC1, hdC, rC⟩, fun h2 sb => ?_⟩
  rw [hC] at sb
  have keep2 : ∀ b o, b ≠ C → h1.get? b = some o → h2.get? b = some o := fun b o nc e => (sb.2 b nc).trans e
  have aC : a ≠ C := fun z => by
    have := held.2.1
    rw [z, BC] at this
    cases this
  obtain ⟨k1, k2, k3, oe, vs, T, oT, ts, he, hz, hd, hv1, hT0, hTa, hT, hdT, h3⟩ := held
  have TC : T ≠ C := fun z => by rw [z, BC] at hT0; cases hT0
  let B2 := PySem.W.hideAll B [C]
  have ofB2 : ∀ b o, B2.get? b = some o → B.get? b = some o ∧ b ≠ C := fun b o e => ⟨PySem.W.of_hideAll _ e, fun z => by
    rw [z, PySem.W.hideAll_none _ (List.mem_singleton.mpr rfl)] at e
    cases e⟩
  have none2 : ∀ b, B.get? b = none → B2.get? b = none := fun b e => by
    cases q : B2.get? b with
    | none => rfl
    | some o =>
      have := (ofB2 b o q).1
      rw [e] at this
      cases this
  have held2 : HandSPX.HeldZ B2 (X.env :: X.outer) a (Zc cls d) X.env.locals h2 := by
    refine ⟨fun b o e => ?_, none2 a k2, ?_, oe, vs, T, oT, ts, keep2 a oe aC he, hz, hd, hv1, none2 T hT0, hTa, keep2 T oT TC hT, hdT, h3⟩
    · obtain ⟨e1, e2⟩ := ofB2 b o e
      exact keep2 b o e2 (k1 b o e1)
    · exact frames_at k3 (fun L hL o e => keep2 L o (fun z => nfr (by rw [hst, ← z]; exact hL)) e) fun L hL => none2 L (k3.mem hL).1
  have fr2 : ce.frame = some X.env.locals := hF.trans hfr
  unfold PySem.passOn
  refine wpAny_bind (wpAny_field (keep2 a oe aC he) hd hv1 ?_)
  rw [if_neg (show ¬ ((Value.ref T == Value.none) = true) from by simp)]
  rw [fr2]
  refine wpAny_bind (HandSPX.setFlight_onZ held2 fun h3' held3 up3 => ?_)
  refine wpAny_throw (tk _ _ ?_)
  have IG2 := IG.turned (t' := s'.toks) (h' := PySem.W.hideAll G [C]) (fun b o nc e => PySem.W.hideAll_get _ e fun m => nc (List.mem_singleton.mp m)) (ub.free C oC hoC HC) fC.2.1 fC.2.2.2.1 fC.2.2.2.2.1 fC.2.2.2.2.2
  have ofG : ∀ b o, (PySem.W.hideAll G [C]).get? b = some o → G.get? b = some o ∧ b ≠ C := fun b o e => ⟨PySem.W.of_hideAll _ e, fun z => by
    rw [z, PySem.W.hideAll_none _ (List.mem_singleton.mpr rfl)] at e
    cases e⟩
  refine ⟨a, B2, _, pins, σ, H', cls, d, rfl, IG2, fun b o e nf => ?_, fun b o e nd => ?_, .inr (.inr ?_), na, os, ag, hW _ _ _ hE⟩
  · obtain ⟨e1, nc⟩ := ofG b o e
    exact PySem.W.hideAll_get _ (nb b o e1 nf) fun m => nc (List.mem_singleton.mp m)
  · obtain ⟨e1, nc⟩ := ofG b o e
    obtain ⟨sl, e2⟩ := up b o (og b o e1) nd
    obtain ⟨sl2, e3⟩ := up3 b _ (keep2 b _ nc e2) nd
    exact ⟨sl2, e3⟩
  · rw [hst]
    exact held3
/-! ### the comprehension -/
/-- what an error of the block's calls is -/
def XeB (X : Cx) (Y : Cx) (Wb : WX) (u : Value) (s' : Shared) : Prop := ∃ pb σb H s, Inv Y pb σb H s ∧ CX X.prog X.w X.stack H s (WE Wb σb) u s'
/-- the context of the block's expression -/
abbrev blkX (X : Cx) (s : Shared) (H : Hp) (scope : Scope) (ce : Env) (fp : List Addr) (pn : List (Addr × Obj)) (Wb : WX) : Cx := (X.blk s H scope ce fp).tr pn (XeB X (X.blk s H scope ce fp) Wb)
theorem passB {X : Cx} {s : Shared} {H : Hp} {scope : Scope} {ce : Env} {fp : List Addr} {pn : List (Addr × Obj)} {Wb : WX} (ok : (X.blk s H scope ce fp).Ok) (σ : L2.St) : PassesAt (L2.CX X.prog X.w) (blkX X s H scope ce fp pn Wb) σ (WE Wb σ) := fun pins G t e t' I c => by
  refine ⟨[], σ, G, t, ?_, c⟩
  exact ⟨ok, I.os, I.bare, I.base, I.loc, I.cell, I.free, I.freeC, fun p hp => absurd (show p ∈ ([] : List (Addr × Obj)) ++ [] from hp) List.not_mem_nil, I.hok, I.len⟩
end
def XTurns (J : It) (g : TG) (te : TE) (σ0 : L2.St) (vs : List Nat) (D : Addr) (Q : Hp → Prop) (W : Nat → Nat → Hp → Prop) : Prop :=
  ∀ i m H, W i m H → (J.stop i H ∧ Q H) ∨ (J.go i H ∧ ∃ Nx : Hp → Prop, (∀ G, Nx G → ∃ n, n < m ∧ W (i + 1) n G) ∧
    ∀ x G, J.yld i H x G → g x σ0 G fun τ G1 => wipe τ vs = σ0 ∧ te τ G1 fun y G2 => ∃ acc, G2 D = some (.lst acc) ∧ acc.length < sizeLine ∧ Nx (upd G2 D (.lst (acc ++ [y]))))
def tXc (wi : TI) (g : TG) (te : TE) (vs : List Nat) : TE := fun σ H Q => wi σ H fun J H1 => ∀ D, H1 D = none →
  ∃ W : Nat → Nat → Hp → Prop, (∃ m, W 0 m (upd H1 D (.lst []))) ∧ XTurns J g te (wipe σ vs) vs D (Q (.ref D)) W
section
variable {X : Cx} {W Wb : WX} {elt tg iter : Expr} {scope : Scope} {own : List (Str × Nat)} {pos pos' : Pos} {wi : TI} {g : TG} {te : TE}
theorem xc_core {pins : List (Addr × Obj)} {s : Shared} {σ : L2.St} {H : Hp} {Q : VK} {use : Option (Value → Sem Unit)} {Qf : Value → Shared → Prop}
    (tk : Takes X W) (hst : X.stack = X.env :: X.outer) (hfr : X.env.frame = some X.env.locals) (hW : ∀ cls d τ G, Wb cls d τ G → W cls d σ G)
    (calm : X.calm = true) (nd : X.N.Nodup) (I0 : Inv X pins σ H s) (hw : PI X tg iter wi) (bo : BlkOk X.N X.env.scope scope own)
    (pg : ∀ (s : Shared) (H : Hp) (C : Addr) (cl : List (Str × Addr)) (fp : List Addr), PG (X.blk s H scope (compEnvC scope cl C X.env) fp) tg g)
    (pe : ∀ (s : Shared) (H : Hp) (C : Addr) (cl : List (Str × Addr)) (fp : List Addr) (pn : List (Addr × Obj)) (xe : Value → Shared → Prop), (∀ τ, PassesAt (L2.CX X.prog X.w) ((X.blk s H scope (compEnvC scope cl C X.env) fp).tr pn xe) τ (WE Wb τ)) → PE ((X.blk s H scope (compEnvC scope cl C X.env) fp).tr pn xe) elt te)
    (fo : ∀ x, foldedSetIterable iter X.env x = pure x) (wish : tXc wi g te (own.map (·.2)) σ H Q)
    (hRR : ∀ D C s' m H', Inv X pins σ H' s' → Q (.ref D) H' → s'.heap.Ns C m → FpOk X pins H' C → compPost (model X.prog X.w) X.A X.xe use Qf (.ref D) C (.ok .next) s') :
    wpAny (model X.prog X.w) X.A (comprehension (.ListComp elt [⟨tg, iter, [], 0⟩] scope pos) scope X.env pos' (newList []) false (eval iter X.env) use) Qf X.xe s := by
  have cells : ∀ nm ∈ scope.names, nm.2 = .free → ∃ c, X.env.cells.lookup nm.1 = some c := fun nm mem isf => (bo.free nm mem isf).elim (fun z => I0.ok.has _ (.inl z)) fun z => I0.ok.has _ (.inr z)
  refine compX_free (use := use) rfl fo (closure_ok cells) bo.kind (fun nm mem isl => by rw [bo.uniq nm mem, isl])
    (thn (hw.run pins s σ H _ I0 wish) fun xv sA stepA => thn stepA fun itv sB stepB => ?_)
  obtain ⟨it, fp, turn, J, HB, eit, IB, T, atB, okB, rest⟩ := stepB
  subst eit
  refine wpAny_newObj_type (newEnv_comp ?_) (by show 0 ≤ sizeLine; decide)
  generalize eD : sB.heap.objs.size = D
  have freeD : HB D = none := IB.hok.fresh (Nat.le_of_eq eD)
  obtain ⟨V, ⟨top, start⟩, turns⟩ := rest D freeD
  generalize esC : ({ sB with heap := sB.heap.push { cls := .type "list", data := .seq ([] : List Value).toArray } } : Shared) = sC
  have heapC : sC.heap = sB.heap.push { cls := .type "list", data := .seq ([] : List Value).toArray } := by rw [← esC]
  have IC : Inv X pins σ (upd HB D (.lst [])) sC := by
    subst esC
    refine IB.laid (t' := sB.toks) (fun c u e => Heap.get?_push_of_some _ e) (Nat.le_of_eq eD) ⟨Nat.zero_le _, [], 0, .nil, ?_⟩
    subst eD
    exact Heap.get?_push_size _ rfl
  have lowFp : ∀ c ∈ fp, c < sB.heap.objs.size := fun c mc => by
    obtain ⟨_, e, _⟩ := T.obj _ _ atB c mc
    exact Heap.lt_size e
  have okC : ∀ c ∈ fp, FpOk X pins (upd HB D (.lst [])) c ∧ c < sC.heap.objs.size := fun c mc => by
    have lt := lowFp c mc
    refine ⟨⟨?_, (okB c mc).2⟩, by rw [heapC, Heap.size_push]; exact Nat.lt_succ_of_lt lt⟩
    rw [upd_ne (by rw [← eD]; exact Nat.ne_of_lt lt)]
    exact (okB c mc).1
  have atC : turn 0 sC.heap := T.keep _ _ _ atB fun c _ u e => by
    rw [heapC]
    exact Heap.get?_push_of_some _ e
  have ID := block_start IC bo nd okC
  let cl := cellsFrom (sC.heap.objs.size + 1) scope.names (cloFrom X.env.cells scope.names [])
  have g1 := pg sC (upd HB D (.lst [])) sC.heap.objs.size cl fp
  have e1 := pe sC (upd HB D (.lst [])) sC.heap.objs.size cl fp
  have noneFp : ∀ c ∈ fp, (upd HB D (.lst [])) c = none := fun c mc => (okC c mc).1.1
  show codeAny _ _ (.compStart (.ListComp elt [⟨tg, iter, [], 0⟩] scope pos) 0 (.ref it) (.ref D) (compEnvC scope cl sC.heap.objs.size X.env)) (postX (model X.prog X.w) X.A X.xe use Qf (.ref D) (compEnvC scope cl sC.heap.objs.size X.env)) { sC with heap := pushCells (sC.heap.push { cls := .type "dict", data := .dict #[] }) scope.names }
  have frE : (compEnvC scope cl sC.heap.objs.size X.env).frame = X.env.frame := rfl
  generalize eE : compEnvC scope cl sC.heap.objs.size X.env = E1 at ID g1 e1 frE ⊢
  have locE : E1.locals = sC.heap.objs.size := by rw [← eE]; rfl
  generalize eH : upd HB D (.lst []) = HC at IC ID g1 e1 start noneFp okC
  generalize esD : ({ sC with heap := pushCells (sC.heap.push { cls := .type "dict", data := .dict #[] }) scope.names } : Shared) = sD at ID ⊢
  have atD : turn 0 sD.heap := T.keep _ _ _ atC fun c _ u e => by
    rw [← esD]
    exact pushCells_keeps _ _ _ _ (Heap.get?_push_of_some _ e)
  have fpIn : ∀ {τ : L2.St} {G : Hp} {t : Shared}, Inv (X.blk sC HC scope E1 fp) [] τ G t → (∀ c ∈ fp, G c = none) → ∀ c ∈ fp, FpOk (X.blk sC HC scope E1 fp) [] G c := fun {τ G t} J1 nn c mc =>
    ⟨nn c mc, (J1.ok.exf c mc).1, J1.ok.exfs c mc, .inl mc, fun nm cc e => (J1.ok.exf c mc).2 nm cc e, fun p mp => absurd (show p ∈ ([] : List (Addr × Obj)) ++ [] from mp) List.not_mem_nil⟩
  -- back in the def's context
  have back : ∀ {pb : List (Addr × Obj)} {τ : L2.St} {G : Hp} {t : Shared}, Inv (X.blk sC HC scope E1 fp) pb τ G t → Inv X pins σ G t ∧ (∃ m, t.heap.Ns sC.heap.objs.size m) ∧ FpOk X pins G sC.heap.objs.size := fun {pb τ G t} J1 => by
    have nC : G sC.heap.objs.size = none := by
      have z : G E1.locals = none := J1.free
      rwa [locE] at z
    obtain ⟨mm, hns, _⟩ := J1.loc
    have hns : t.heap.Ns E1.locals mm := hns
    rw [locE] at hns
    exact ⟨IC.call' (ch := fp) J1.os J1.base J1.hok J1.bare fun c mc => let z := (okC c mc).1; ⟨z.2.2.2.1, z.2.1, z.2.2.2.2.1, z.2.2.2.2.2⟩, ⟨mm, hns⟩, IC.fpOk (Nat.le_refl _) nC⟩
  have nfr : sC.heap.objs.size ∉ frs X.stack := fun m => by
    rcases List.mem_cons.mp (IC.stkSub _ m) with z | z
    · exact Nat.ne_of_lt IC.lt z.symm
    · exact IC.nofs (Nat.le_refl _) z
  refine codeAny_compStart_list ?_ (T.self X.A 0 _ _ _ atD ?_) <;>
  · refine compLoop_any (fun n t => ∃ i G, V i n G ∧ turn i t.heap ∧ (∀ c ∈ fp, G c = none) ∧ Inv (X.blk sC HC scope E1 fp) [] (wipe σ (own.map (·.2))) G t) ?_ top ⟨0, HC, start, atD, noneFp, ID⟩
    rintro n t ⟨i, G, wG, atG, nnG, IG⟩
    rcases turns i n G wG with ⟨isStop, fine⟩ | ⟨isGo, Nx, less, body⟩
    · refine thnF (T.done (X.blk sC HC scope E1 fp) rfl rfl rfl calm i [] t _ G (fun _ _ => False) IG (fpIn IG nnG) atG isStop) fun r t1 ⟨er, IG1⟩ => ?_
      subst er
      obtain ⟨bk, ⟨mm, hns⟩, fC⟩ := back IG1
      show compPost _ _ _ _ _ _ _ _ _
      rw [locE]
      exact hRR D _ t1 mm G bk fine hns fC
    · refine thnF (T.item (X.blk sC HC scope E1 fp) rfl rfl rfl calm i [] t _ G (fun _ _ => False) IG (fpIn IG nnG) atG isGo) fun r t1' ⟨u, er, h1⟩ => ?_
      subst er
      refine thnF h1 fun _ t2 ⟨x, G2, I2, rx, yx, at2, nn2⟩ => ?_
      have I2p := I2.pinned (fpIn I2 nn2) (T.obj _ _ at2)
      refine thnF (g1.run _ t2 _ G2 x u _ I2p rx (body x G2 yx)) fun _ t3 ⟨τ, G3, I3, same3, q3⟩ => ?_
      refine wpAny_pure ?_
      simp only [if_true]
      have I3t := I3.toTry (XeB X (X.blk sC HC scope E1 fp) Wb)
      refine wpAny_mono ((e1 _ _ (passB I3.ok)).run [] t3 τ G3 _ I3t q3) (fun yv t4 ⟨y, G4, I4t, ry, acc, hD4, hl4, nx⟩ => ?_) fun u t4 ⟨pb, σb, Hb, sb, Ib, cx⟩ => ?_
      · have I4 := I4t.ofTry I3.ok
        refine app_ok (X := X.blk sC HC scope E1 fp) I4 hD4 hl4 ry fun t6 I6 => ?_
        obtain ⟨n', lt, w'⟩ := less _ nx
        have len : (wipe σ (own.map (·.2))).length = τ.length := by rw [← same3, wipe_length]
        have pinned : ∀ c ∈ fp, ∀ o, t2.heap.get? c = some o → t6.heap.get? c = some o ∧ (upd G4 D (.lst (acc ++ [y]))) c = none := fun c mc o e =>
          let q := I6.pin (c, o) (List.mem_append_right _ (List.mem_append_right _ (mem_pinsAt mc e)))
          ⟨q.1, q.2.1⟩
        refine ⟨n', lt, i + 1, _, w', T.keep _ _ _ at2 fun c mc o e => (pinned c mc o e).1, fun c mc => ?_, (I6.unpinned (pins := [])).weak len fun j v e => ?_⟩
        · obtain ⟨o, e, _⟩ := T.obj _ _ at2 c mc
          exact (pinned c mc o e).2
        · rw [← same3] at e
          exact (wipe_some e).1
      · obtain ⟨bk, hns, fC⟩ := back Ib
        exact leave_block tk hst hfr bk locE frE fC hns nfr cx fun cls d G h => hW cls d σb G h
/-- name = [..], the name a local, on one line -/
theorem ps_setXc {i : Nat} {y : Str} {py spos : Pos} (tk : Takes X W) (hst : X.stack = X.env :: X.outer) (hfr : X.env.frame = some X.env.locals) (calm : X.calm = true) (nd : X.N.Nodup) (hy : X.N[i]? = some y) (hyl : X.env.scope.names.lookup y = some .local)
    (hsw : swapsWith (.ListComp elt [⟨tg, iter, [], 0⟩] scope pos) (some (.Name y py)) spos.line X.env = pure true) (hw : PI X tg iter wi) (bo : BlkOk X.N X.env.scope scope own)
    (pg : ∀ (s : Shared) (H : Hp) (C : Addr) (cl : List (Str × Addr)) (fp : List Addr), PG (X.blk s H scope (compEnvC scope cl C X.env) fp) tg g) (te : WX → TE)
    (pe : ∀ (Wb : WX) (s : Shared) (H : Hp) (C : Addr) (cl : List (Str × Addr)) (fp : List Addr) (pn : List (Addr × Obj)) (xe : Value → Shared → Prop), (∀ τ, PassesAt (L2.CX X.prog X.w) ((X.blk s H scope (compEnvC scope cl C X.env) fp).tr pn xe) τ (WE Wb τ)) → PE ((X.blk s H scope (compEnvC scope cl C X.env) fp).tr pn xe) elt (te Wb))
    (fo : ∀ x, foldedSetIterable iter X.env x = pure x := by intro _; rfl) :
    PS X (.Assign [.Name y py] (.ListComp elt [⟨tg, iter, [], 0⟩] scope pos) spos) (tAsg (fun σ H Q => tXc wi g (te fun cls d _ G => W cls d σ G) (own.map (·.2)) σ H Q) (gName i)) := by
  refine ⟨fun pins s σ H D I h => ?_⟩
  rw [exec_Assign_Name_used _ _ _ _ hsw]
  refine wpAny_bind (wpAny_standAt (wpAny_bind ?_))
  show wpAny _ X.A (do let _ ← comprehension (.ListComp elt [⟨tg, iter, [], 0⟩] scope pos) scope X.env (firstIterPos [⟨tg, iter, [], 0⟩] pos) (newList []) false (eval iter X.env) (some (assign (.Name y py) X.env))) _ _ s
  have h : tXc wi g (te fun cls d _ G => W cls d σ G) (own.map (·.2)) σ H (fun x H1 => gName i x σ H1 D.nx) := h
  refine wpAny_bind (thn (xc_core (Wb := fun cls d _ G => W cls d σ G) (Qf := fun _ s' => SP X pins D .next s') tk hst hfr (fun _ _ _ _ z => z) calm nd I hw bo pg (pe _) fo h fun L C s' m H' I' q hn f => ?_) fun _ s' hq => wpAny_pure (wpAny_pure hq))
  show wpAny _ _ (assign (.Name y py) X.env (.ref L)) _ _ _
  refine wpAny_assign_Name (store_ok2 (v := V.ref L) I' nd hy (.inl hyl) rfl (fun s2 I2 ⟨a, sb, ha⟩ => ?_) (.inr hyl))
  obtain ⟨f0, f1, f2, f3, f4, f5⟩ := f
  have haC : C ≠ a := by
    rcases ha with z | z
    · rw [z]; exact f1
    · exact fun e => f4 y a z e.symm
  refine ⟨m, hn.sameBut sb haC, fun h3 sb3 => ?_⟩
  exact ⟨_, H', I2.turned (t' := s2.toks) (fun b o hb e => (sb3.2 b hb).trans e) f0 f1 f3 f4 f5, q⟩
end
end Bd
/-! D58: [e for t in xs], e may raise, by data. -/
namespace Bd
open PySem L2
def compR (T : Tgt) (El : Nv → R D) (η : Nv) : List D → R (List D)
  | [] => .ok []
  | x :: xs => match T x η with
    | none => .no
    | some η1 => (El η1).bind fun y => (compR T El η xs).bind fun ys => .ok (y :: ys)
def compRE (Fi : Nv → R (List D)) (T : Tgt) (El : Nv → R D) (vs : List Nat) : Nv → R D := fun η => (Fi η).bind fun xs => if xs.length ≤ lineN then (compR T El (wipeE η vs) xs).bind fun ys => .ok (.list ys) else .no
theorem bind_as {α β γ : Type} (r : R α) (f : α → R β) (g : β → R γ) : (r.bind f).bind g = r.bind fun x => (f x).bind g := by cases r <;> rfl
section
variable {X : Cx} {W : WX} {tg iter elt : Expr} {pos : Pos}
theorem xc_t {Fi : Nv → R (List D)} {T : Tgt} {js vs : List Nat} {El : Nv → R D} (hj : ∀ j ∈ js, j ∈ vs) {σ : L2.St} {H : Hp} {Q : VK} (h : tR X.K X.mg W (rF X.K) (compRE Fi T El vs) σ H Q) :
    tXc (tI X.K X.mg W Fi) (gD X.K T js) (tR X.K X.mg (fun cls d _ G => W cls d σ G) (rD X.K) El) vs σ H Q := by
  obtain ⟨η, A, E, p0⟩ := h
  have p : Post X.K X.mg W (rF X.K) σ A H ((Fi η).bind fun xs => if xs.length ≤ lineN then (compR T El (wipeE η vs) xs).bind fun ys => .ok (.list ys) else .no) Q := p0
  refine (show tI X.K X.mg W Fi σ H _ from ⟨η, A, E, ?_⟩)
  cases e1 : Fi η with
  | ex c w q => rw [e1] at p; exact p
  | no => rw [e1] at p; exact p
  | ok ds =>
    rw [e1] at p
    have p : Post X.K X.mg W (rF X.K) σ A H (if ds.length ≤ lineN then (compR T El (wipeE η vs) ds).bind fun ys => .ok (.list ys) else .no) Q := p
    split at p
    case isFalse => exact False.elim p
    rename_i hz
    intro J H1 s1 wk M nM
    have E1 := E.same s1
    refine ⟨fun i m H2 => m + i = ds.length ∧ Same H1 H2 ∧ ∃ done acc, done.length = i ∧ Post X.K X.mg W (rF X.K) σ A H ((compR T El (wipeE η vs) (ds.drop i)).bind fun ys => .ok (.list (done ++ ys))) Q ∧ H2 M = some (.lst acc) ∧ DpAll X.K (hid (M :: A) H2) acc done,
      ⟨ds.length, rfl, same_new nM, [], [], rfl, p, upd_same, .nil⟩, fun i m H2 hw => ?_⟩
    obtain ⟨em, s2, done, acc, dl, er, hM, hd⟩ := hw
    have sh : Same (hid A H1) (hid (M :: A) H2) := hid_new s2 nM
    have E2 : EnvD X.K H2 (M :: A) σ η := E1.new s2 nM (by rw [hM]; exact fun z => nomatch z)
    cases hx : ds[i]? with
    | none =>
      have hi : ds.length ≤ i := List.getElem?_eq_none_iff.mp hx
      have ei : i = ds.length := by omega
      rw [ei, List.drop_length] at er
      have er : Post X.K X.mg W (rF X.K) σ A H (.ok (.list (done ++ []))) Q := er
      rw [List.append_nil] at er
      exact .inl ⟨by rw [ei]; exact wk.stop _ _ sh, er _ H2 (s1.trans s2) ⟨M, acc, _, rfl, rfl, s1.free nM, hM, hd⟩⟩
    | some x =>
      have hi : i < ds.length := (List.getElem?_eq_some_iff.mp hx).1
      have ed : ds.drop i = x :: ds.drop (i + 1) := by
        rw [List.drop_eq_getElem_cons hi]
        congr 1
        exact (List.getElem?_eq_some_iff.mp hx).2
      obtain ⟨g1, g2⟩ := wk.step i x hx _ _ sh E2.tr
      refine .inr ⟨g1, fun H' => ∃ m', m' < m ∧ (m' + (i + 1) = ds.length ∧ Same H1 H' ∧ ∃ done acc, done.length = i + 1 ∧ Post X.K X.mg W (rF X.K) σ A H ((compR T El (wipeE η vs) (ds.drop (i + 1))).bind fun ys => .ok (.list (done ++ ys))) Q ∧ H' M = some (.lst acc) ∧ DpAll X.K (hid (M :: A) H') acc done), fun H' hN => hN, fun v H3 y => ?_⟩
      obtain ⟨s3, qv⟩ := g2 v H3 y
      rw [ed] at er
      unfold compR at er
      cases et : T x (wipeE η vs) with
      | none => rw [et] at er; exact False.elim er
      | some η1 =>
        rw [et] at er
        have er : Post X.K X.mg W (rF X.K) σ A H (((El η1).bind fun y => (compR T El (wipeE η vs) (ds.drop (i + 1))).bind fun ys => .ok (y :: ys)).bind fun ys => .ok (.list (done ++ ys))) Q := er
        rw [bind_as] at er
        refine ⟨wipeE η vs, M :: A, x, η1, (E2.same s3).wipe vs, qv, et, fun σ2 E3 S => ⟨stored_wipe S hj (S.len.trans (wipe_length σ vs)), ?_⟩⟩
        refine (show tR X.K X.mg (fun cls d _ G => W cls d σ G) (rD X.K) El σ2 H3 _ from ⟨η1, M :: A, E3, ?_⟩)
        cases ee : El η1 with
        | no => rw [ee] at er; exact er
        | ex c w q =>
          rw [ee] at er
          have er : Post X.K X.mg W (rF X.K) σ A H (.ex c w q) Q := er
          rintro cls dd H' s4 ⟨hm, dx, vx, e2, e3, e4⟩
          have md : Same (hid (M :: A) H') (hid A H') := hid_mono fun _ z => List.mem_cons_of_mem _ z
          exact er cls dd H' (((s1.trans s2).trans s3).trans s4) ⟨hm, dx, vx, e2, md _ _ e3, Dp_mono e4 md⟩
        | ok y =>
          rw [ee] at er
          have er : Post X.K X.mg W (rF X.K) σ A H (((compR T El (wipeE η vs) (ds.drop (i + 1))).bind fun ys => .ok (y :: ys)).bind fun ys => .ok (.list (done ++ ys))) Q := er
          rw [bind_as] at er
          intro w H5 s5 qw
          have sM : H5 M = some (.lst acc) := s5 _ _ (s3 _ _ hM)
          have hidM : hid (M :: A) (upd H5 M (.lst (acc ++ [w]))) = hid (M :: A) H5 := hid_upd List.mem_cons_self
          have hl : acc.length = done.length := DpAll_length hd
          refine ⟨acc, sM, by rw [line_eq, hl]; omega, m - 1, by omega, by omega, ?_, done ++ [y], acc ++ [w], by rw [List.length_append, dl]; rfl, ?_, upd_same, ?_⟩
          · intro b o eb
            rw [upd_ne fun z => by subst z; rw [nM] at eb; cases eb]
            exact s5 _ _ (s3 _ _ (s2 _ _ eb))
          · have e : (fun ys => R.ok (PyData.list (done ++ [y] ++ ys))) = fun ys : List D => R.ok (PyData.list (done ++ (y :: ys))) := by
              funext ys
              rw [List.append_assoc]
              rfl
            rw [e]
            exact er
          · rw [hidM]
            exact DpAll_append (DpAll_mono hd (hid_same (s3.trans s5))) (.cons qw .nil)
section
variable {e : Expr} {es : List Expr} {x : Str} {p : Pos} {k n j : Nat} {rl : Rl} {Fn : List D → R D} {Fs : Nv → R (List D)}
/-- a call in a block, its error passed on -/
theorem t_callDP (pa : ∀ τ, PassesAt (L2.CX X.prog X.w) X τ (WE W τ)) (d : Df X.prog X.w X.K X.mg X.base j x n rl Fn) (hr : Room k X.A) (hgd : X.A.guards = some []) (ha : TAs X W (vD X.K) (e :: es) Fs) (hfs : ∀ η ds, Fs η = .ok ds → ds.length = n) (hb' : Back rl) (hj : j ≤ k := by decide) (hg : Gl X x := by rfl)
    (hn : es.length + 1 = n := by rfl) (hdb : (x == ("__debug__" : Str)) = false := by decide) (he : starEach (e :: es) X.env = (false, eval e X.env) :: starEach es X.env := by rfl) (hpl : (backTo pos (starEach es X.env)).any (·.1) = false := by rfl) :
    PE X (.Call (.Name x p) (e :: es) [] pos) (tR X.K X.mg W rl (callX Fn Fs)) := by
  obtain ⟨f, fd, ps, F, b, m, kp⟩ := d
  exact call_core (g := id) (Pd := True) (fun r d h => h) hb' (F.mono hj) hr hgd hg m kp b (fun σ => ⟨WE W σ, pa σ, fun A H r Q q => by
      cases r with
      | ok d => exact q
      | ex c w z => exact q
      | no => exact q⟩) ha hn hfs hdb he hpl
end
variable {f : Fx}
/-- name = [elt for tg in iter], the name a local -/
theorem s_setXc (i : Nat) {y : Str} {py spos : Pos} {scope : Scope} {own : List (Str × Nat)} {Fi : Nv → R (List D)} {T : Tgt} {js : List Nat} {El : Nv → R D} (tk : Takes X f.W) (hc : X.calm = true) (hN : X.N.Nodup)
    (hsw : swapsWith (.ListComp elt [⟨tg, iter, [], 0⟩] scope pos) (some (.Name y py)) spos.line X.env = pure true) (hi : TI' X f.W tg iter Fi) (ok : BlkOk X.N X.env.scope scope own)
    (hg : ∀ (s : Shared) (H : Hp) (C : Addr) (cl : List (Str × Addr)) (fp : List Addr), TT' (X.blk s H scope (compEnvC scope cl C X.env) fp) tg T js)
    (he : ∀ (Wb : WX) (s : Shared) (H : Hp) (C : Addr) (cl : List (Str × Addr)) (fp : List Addr) (pn : List (Addr × Obj)) (xe : Value → Shared → Prop), (∀ τ, PassesAt (L2.CX X.prog X.w) ((X.blk s H scope (compEnvC scope cl C X.env) fp).tr pn xe) τ (WE Wb τ)) → TD ((X.blk s H scope (compEnvC scope cl C X.env) fp).tr pn xe) Wb elt El)
    {ws : List Nat} (hw : own.map (·.2) = ws := by rfl) (hj : ∀ j ∈ js, j ∈ own.map (·.2) := by decide) (hy : X.N[i]? = some y := by rfl) (hyl : X.env.scope.names.lookup y = some .local := by rfl) (hst : X.stack = X.env :: X.outer := by rfl) (hfr : X.env.frame = some X.env.locals := by rfl) (hs : ∀ x, foldedSetIterable iter X.env x = pure x := by intro _; rfl) :
    TS' X f (.Assign [.Name y py] (.ListComp elt [⟨tg, iter, [], 0⟩] scope pos) spos) (setS i (compRE Fi T El ws)) := by
  subst hw
  refine psW (ps_setXc tk hst hfr hc hN hy hyl hsw hi ok (fun s H C cl fp => show PG _ tg (gD X.K T js) from hg s H C cl fp) (fun Wb => tR X.K X.mg Wb (rD X.K) El) (fun Wb s H C cl fp pn xe pa => he Wb s H C cl fp pn xe pa) hs) fun E σ H h =>
    xc_t hj (toS_R h fun η B H1 v d e0 e s q p => p _ H1 B (e.set (rF_D (fun _ hp => e0.env.fresh hp) q)) (hid_same s))
/-! ### text.index(text) -/
theorem mt_sindex : MtR X "str.index" (fun x xs H Q => ∃ (a b : Str) (k : Nat), x = .str a ∧ xs = [.str b] ∧ Txt.index0 a b = some k ∧ Q (.int (k : Nat)) H) := by
  intro pins s σ H x xs v us Q I rx rs h
  obtain ⟨a, b, k, rfl, rfl, hk, h⟩ := h
  obtain ⟨t, rfl⟩ := rx
  cases rs with
  | cons r1 rs =>
    cases rs
    obtain ⟨u, rfl⟩ := r1
    unfold Txt.index0 at hk
    obtain ⟨rest, q⟩ := List.head?_eq_some_iff.mp hk
    exact PySem.SC.index q ⟨.int (k : Nat), H, I.tok _, ⟨_, rfl⟩, h⟩
def indexT (x : Str) (d : D) : Option D := match d with
  | .str y => (Txt.index0 x y).map fun k => .int ((k : Nat) : Int)
  | _ => none
theorem t_sindex {o e : Expr} {Fo Fe : Nv → R D} {apos cpos : Pos} (ho : TO X W o Fo) (he : TO X W e Fe) (hs : starEach [e] X.env = [(false, eval e X.env)] := by rfl) (hbase : attributeBase o "index" X.env (eval o X.env) = eval o X.env := by rfl) (hline : (apos.endLine == cpos.line) = true := by rfl) :
    TD X W (.Call (.Attribute o "index" apos) [e] [] cpos) (s2 indexT Fo Fe) :=
  t_smeth back_D F.slot_str_index F.type_str_index mt_sindex (fun H A x y b d Q hA qb hf k => by
    unfold indexT at hf
    split at hf
    · obtain ⟨n, hn, rfl⟩ := Option.map_eq_some_iff.mp hf
      cases rO_str qb
      exact ⟨x, _, n, rfl, rfl, hn, k _ H (Same.refl _) (.int _)⟩
    · cases hf) ho he hs hbase hline
end
end Bd
/-! Q1: dicts reckoned; the positions of faces, rims, the rim of a rim. -/
namespace Bd
open PySem L2

section
variable {QD : D → Prop} {η : Nv} {N B C : Nv → Prop} {T : D → Nv → Prop}
end
/-! ### positions -/
def posI (os : List Row) (f : Row) : Int := (os.idxOf f : Nat)
theorem pos_inj {os : List Row} {f g : Row} (mf : f ∈ os) (mg : g ∈ os) (e : posI os f = posI os g) : f = g := by
  have e : os.idxOf f = os.idxOf g := by
    unfold posI at e
    omega
  have h1 := List.getElem_idxOf (List.idxOf_lt_length_iff.mpr mf)
  have h2 := List.getElem_idxOf (List.idxOf_lt_length_iff.mpr mg)
  rw [← h1, ← h2]
  congr 1
theorem Ordr.faces : ∀ {os : List Row}, Ordr os → ∀ s ∈ os, ∀ f ∈ facesL s, f ∈ os
  | _, .nil, s, m => absurd m List.not_mem_nil
  | _, .snoc h _ _ hf, x, m => fun f mf => by
    rcases List.mem_append.mp m with m | m
    · exact List.mem_append_left _ (h.faces x m f mf)
    · rw [List.mem_singleton.mp m] at mf
      exact List.mem_append_left _ (hf f mf)
theorem Ordr.nodup : ∀ {os : List Row}, Ordr os → os.Nodup
  | _, .nil => List.nodup_nil
  | _, .snoc h _ hn _ => List.nodup_append.mpr ⟨h.nodup, List.nodup_cons.mpr ⟨List.not_mem_nil, List.nodup_nil⟩, fun a ma b mb e => by
    rw [List.mem_singleton.mp mb] at e
    exact hn (e ▸ ma)⟩
/-- a simplex by its vertices -/
theorem Smp.cases {s : Row} (h : Smp s) : (∃ a, s = [a]) ∨ (∃ a b, s = [a, b] ∧ a < b) ∨ ∃ a b c, s = [a, b, c] ∧ a < b ∧ b < c := by
  have asc := h.u.asc
  have lo := h.lo
  have hi := h.hi
  match s, asc, lo, hi with
  | [a], _, _, _ => exact .inl ⟨a, rfl⟩
  | [a, b], asc, _, _ => exact .inr (.inl ⟨a, b, rfl, (List.pairwise_cons.mp asc).1 b List.mem_cons_self⟩)
  | [a, b, c], asc, _, _ => exact .inr (.inr ⟨a, b, c, rfl, (List.pairwise_cons.mp asc).1 b List.mem_cons_self, (List.pairwise_cons.mp (List.pairwise_cons.mp asc).2).1 c List.mem_cons_self⟩)
theorem faces2 (a b : Int) : facesL [a, b] = [[b], [a]] := rfl
theorem faces3 (a b c : Int) : facesL [a, b, c] = [[b, c], [a, c], [a, b]] := rfl
theorem faces_nodup {s : Row} (h : Smp s) : (facesL s).Nodup := by
  rcases h.cases with ⟨a, rfl⟩ | ⟨a, b, rfl, h1⟩ | ⟨a, b, c, rfl, h1, h2⟩
  · exact List.nodup_nil
  · rw [faces2]
    have : a ≠ b := Int.ne_of_lt h1
    simp [Ne.symm this]
  · rw [faces3]
    have n1 : a ≠ b := Int.ne_of_lt h1
    have n2 : b ≠ c := Int.ne_of_lt h2
    simp [Ne.symm n1, Ne.symm n2]
def rimL (os : List Row) (s : Row) : Row := isort ((facesL s).map (posI os))
theorem rim_nodup {os : List Row} {s : Row} (h : Ordr os) (m : s ∈ os) : ((facesL s).map (posI os)).Nodup :=
  List.pairwise_map.mpr ((faces_nodup (h.smp s m)).imp_of_mem fun ma mb ne e => ne (pos_inj (h.faces s m _ ma) (h.faces s m _ mb) e))
theorem rim_asc {os : List Row} {s : Row} (h : Ordr os) (m : s ∈ os) : Asc (rimL os s) := asc_sort (rim_nodup h m)
theorem mem_rim {os : List Row} {s : Row} {x : Int} : x ∈ rimL os s ↔ ∃ f ∈ facesL s, posI os f = x := by
  unfold rimL
  rw [(isort_perm _).mem_iff, List.mem_map]
theorem rim_in {os : List Row} {s : Row} (h : Ordr os) (m : s ∈ os) : InU (Pg.uptoI os.length) (rimL os s) := ⟨rim_asc h m, fun x mx => by
  obtain ⟨f, mf, rfl⟩ := mem_rim.mp mx
  have := List.idxOf_lt_length_iff.mpr (h.faces s m f mf)
  exact List.mem_map.mpr ⟨os.idxOf f, List.mem_range.mpr this, rfl⟩⟩
/-- all rims -/
def rimsL (os : List Row) : List Row := os.map (rimL os)
theorem rims_in {os : List Row} (h : Ordr os) : ∀ r ∈ rimsL os, InU (Pg.uptoI os.length) r := fun r m => by
  obtain ⟨s, ms, rfl⟩ := List.mem_map.mp m
  exact rim_in h ms
theorem rims_asc {os : List Row} (h : Ordr os) : AscR (rimsL os) := fun r m => (rims_in h r m).asc
theorem sumAt_in {U : List Int} {rows : List Row} (h : ∀ r ∈ rows, InU U r) (idx : List Int) : InU U (sumAt rows idx) := by
  have go : ∀ l : List Row, (∀ r ∈ l, InU U r) → InU U (sumR l) := fun l => by
    induction l with
    | nil => exact fun _ => .nil
    | cons r l ih => exact fun q => (q r List.mem_cons_self).sum (ih fun y m => q y (List.mem_cons_of_mem _ m))
  exact go _ (rowAt_in h idx)
/-- the rim of a chain -/
def bdy (os : List Row) (c : Row) : Row := sumAt (rimsL os) c
theorem bdy_in {os : List Row} (h : Ordr os) (c : Row) : InU (Pg.uptoI os.length) (bdy os c) := sumAt_in (rims_in h) c
theorem bdy_sum {os : List Row} (h : Ordr os) {a b : Row} (ha : Asc a) (hb : Asc b) : bdy os (sumL a b) = sumL (bdy os a) (bdy os b) := sumAt_sum (rims_asc h) ha hb
end Bd
/-! Q2: the program's faces, rims, boundaries; the laws' sums, edges, rims. -/
namespace Bd
open PySem L2
namespace Cb
def G_dimension_of : Nv → Rs :=
    (seqS (retS (e2 subV (eN lenV (aC (gv 0) a0)) (k0 (.int 1))))
    .nx)
def F_dimension_of : List D → R D := runD 1 (.ok .none) G_dimension_of
theorem dim_ok {s : Row} (h : Smp s) : F_dimension_of [tupI s] = .ok (.int ((s.length : Int) - 1)) := by
  have ln : lenV [tupI s] = some (.int (s.length : Nat)) := by
    show some (PyData.int ((s.map PyData.int).length : Nat)) = _
    rw [List.length_map]
  refine Wn.eq (wn_runD ?_)
  show Sn (G_dimension_of [.d (tupI s)]) _ _ _ _
  unfold G_dimension_of
  simp only [wn_ok, wn_some, wn_only, wn_noex, wn_e2, wn_e1, wn_eN, wn_a0, wn_aC, wn_call, wn_tb, wn_tup, wn_lst, wn_andB, wn_orB, wn_notB, wn_andV, wn_orV, wn_notV, wn_ifV, wn_iA, wn_iR1, wn_iR2, wn_iZ, wn_iEn, wn_iRR, wn_sl, wn_p0, wn_p1, wn_up, wn_upB, wn_upI, wn_x2, wn_x0, wn_xC, wn_xN, wn_xb, wn_xAnd, wn_xOr, wn_xNot, wn_xIf, wn_xCall, wn_xR1, wn_xR2, sn_nx, sn_rt, sn_bk, sn_ct, sn_seq, sn_set, sn_ret, sn_expr, sn_if, sn_for, sn_xSet, sn_xRet, sn_xExpr, sn_xIf, sn_xFor, sn_asg, sn_xAsg, sn_own, sn_xOwn, gv_zero, gv_succ, go_own, go_dat, go_succ, k0_def, gN_def, tru_bool, tru_none, tru_int, tru_list, asSeq_list, asSeq_tup, addV_int, subV_int, ltA_i, leA_i, gtA_i, geA_i, negV_int, intV_int, lenV_list, lenV_tup, ixV_list, ixV_tup, asInt_int, slV_list, slV_tup, slL_list, revV_tup, revV_list, tupleV_list, listV_list, listV_tup, eqV_str, neV_str, eqV_int, List.set_cons_zero, List.set_cons_succ, List.getElem?_cons_zero, List.getElem?_cons_succ, List.length_cons, List.length_nil, ↓reduceIte, Bool.false_eq_true, Bool.not_true, Bool.not_false, wn_ite, gT2, gT3, neV_tup, eqV_tup, in_tup, notin_tup', lineN_eq, Nat.reduceAdd, Nat.reduceLeDiff, Nat.zero_le, true_and, and_true, List.map_nil, List.map_cons, exists_eq_left', Option.some.injEq, PyData.list.injEq, exists_eq_left, PyData.int.injEq, R.ok.injEq, Sl.own.injEq, ln]
end Cb
end Bd
/-! Q3: the program's boundaries; the laws' sums, edges, rims. -/
namespace Bd
open PySem L2
namespace Cb
end Cb
end Bd
/-! Q31: own dicts with tuples for keys, and sorts by a key, reckoned. -/
namespace Bd
open PySem L2
section
variable {QD : D → Prop} {QB : Bool → Prop} {QX : D × Nv → Prop} {η : Nv} {N B C : Nv → Prop} {T : D → Nv → Prop}
end
end Bd
/-! Q32: shapes: their items in the order of growing. -/
namespace Bd
open PySem L2
namespace Sh
abbrev Ih := Row × Int
/-- a shape: none twice, the faces there, not higher -/
structure Shp (it : List Ih) : Prop where
  nd : (it.map (·.1)).Nodup
  smp : ∀ p ∈ it, Smp p.1
  cl : ∀ p ∈ it, ∀ f ∈ facesL p.1, ∃ q ∈ it, q.1 = f ∧ q.2 ≤ p.2
  bd : ∀ p ∈ it, -1000000 < p.2 ∧ p.2 < 1000000
theorem Shp.nil : Shp [] := ⟨List.nodup_nil, fun p m => absurd m List.not_mem_nil, fun p m => absurd m List.not_mem_nil, fun p m => absurd m List.not_mem_nil⟩
theorem Shp.perm {a b : List Ih} (h : Shp a) (p : b.Perm a) : Shp b := ⟨(p.map (·.1)).nodup_iff.mpr h.nd, fun x m => h.smp x (p.mem_iff.mp m), fun x m f mf => by
  obtain ⟨q, mq, e⟩ := h.cl x (p.mem_iff.mp m) f mf
  exact ⟨q, p.mem_iff.mpr mq, e⟩, fun x m => h.bd x (p.mem_iff.mp m)⟩
def itD (p : Ih) : D := .tuple [tupI p.1, .int p.2]
theorem facesL_short {s f : Row} (h : Smp s) (m : f ∈ facesL s) : f.length < s.length := by
  rcases h.cases with ⟨a, rfl⟩ | ⟨a, b, rfl, _⟩ | ⟨a, b, c, rfl, _, _⟩
  · cases m
  · rw [faces2] at m
    rcases List.mem_cons.mp m with rfl | m
    · simp
    · rw [List.mem_singleton.mp m]; simp
  · rw [faces3] at m
    rcases List.mem_cons.mp m with rfl | m
    · simp
    · rcases List.mem_cons.mp m with rfl | m
      · simp
      · rw [List.mem_singleton.mp m]; simp
end Sh
end Bd
/-! Q33: shapes, as the laws of holes draw them. -/
namespace Bd
open PySem L2
namespace Sh
/-! ### heights by simplices -/
def look (hs : List Ih) (s : Row) : Option Int := (hs.find? fun p => decide (p.1 = s)).map (·.2)
def zsD (hs : List Ih) : List (Row × D) := hs.map fun p => (p.1, PyData.int p.2)
def put (hs : List Ih) (s : Row) (h : Int) : List Ih := if s ∈ hs.map (·.1) then hs.map (fun p => if p.1 = s then (p.1, h) else p) else hs ++ [(s, h)]
theorem look_cons (p : Ih) (hs : List Ih) (s : Row) : look (p :: hs) s = if p.1 = s then some p.2 else look hs s := by
  unfold look
  rw [List.find?_cons]
  by_cases c : p.1 = s
  · rw [if_pos c, decide_eq_true c]
    rfl
  · rw [if_neg c, decide_eq_false c]
theorem look_mem : ∀ {hs : List Ih} {s : Row} {h : Int}, look hs s = some h → (s, h) ∈ hs
  | [], _, _, e => nomatch e
  | p :: hs, s, h, e => by
    rw [look_cons] at e
    split at e
    · rename_i c
      cases e
      rw [← c]
      exact List.mem_cons_self
    · exact List.mem_cons_of_mem _ (look_mem e)
theorem put_keys (hs : List Ih) (s : Row) (h : Int) : (put hs s h).map (·.1) = if s ∈ hs.map (·.1) then hs.map (·.1) else hs.map (·.1) ++ [s] := by
  unfold put
  split
  · rw [List.map_map]
    refine List.map_congr_left fun p _ => ?_
    show (if p.1 = s then (p.1, h) else p).1 = p.1
    split <;> rfl
  · rw [List.map_append]
    rfl
theorem put_nodup {hs : List Ih} {s : Row} {h : Int} (nd : (hs.map (·.1)).Nodup) : ((put hs s h).map (·.1)).Nodup := by
  rw [put_keys]
  split
  · exact nd
  · rename_i c
    exact List.nodup_append.mpr ⟨nd, List.nodup_cons.mpr ⟨List.not_mem_nil, List.nodup_nil⟩, fun a ma b mb e => c (by
      rw [List.mem_singleton.mp mb] at e
      exact e ▸ ma)⟩
theorem mem_put {hs : List Ih} {s : Row} {h : Int} {x : Ih} (m : x ∈ put hs s h) : x = (s, h) ∨ (x ∈ hs ∧ x.1 ≠ s) := by
  unfold put at m
  split at m
  · obtain ⟨p, mp, e⟩ := List.mem_map.mp m
    split at e
    · rename_i c
      rw [← e, c]
      exact .inl rfl
    · rename_i c
      subst e
      exact .inr ⟨mp, c⟩
  · rename_i c
    rcases List.mem_append.mp m with m | m
    · exact .inr ⟨m, fun e => c (by rw [← e]; exact List.mem_map.mpr ⟨x, m, rfl⟩)⟩
    · exact .inl (List.mem_singleton.mp m)
theorem put_keep {hs : List Ih} {s : Row} {h : Int} {x : Ih} (m : x ∈ hs) (n : x.1 ≠ s) : x ∈ put hs s h := by
  unfold put
  split
  · exact List.mem_map.mpr ⟨x, m, if_neg n⟩
  · exact List.mem_append_left _ m
/-! ### a shape that grows -/
structure Gro (names : Row) (m : Nat) (hs : List Ih) : Prop where
  nd : (hs.map (·.1)).Nodup
  sub : ∀ p ∈ hs, InU names p.1 ∧ 1 ≤ p.1.length ∧ p.1.length ≤ m
  cl : ∀ p ∈ hs, ∀ f ∈ facesL p.1, ∃ q ∈ hs, q.1 = f ∧ q.2 ≤ p.2
  bd : ∀ p ∈ hs, -30 < p.2 ∧ p.2 < 30 * (p.1.length : Int)
theorem Gro.up {names : Row} {m : Nat} {hs : List Ih} (g : Gro names m hs) : Gro names (m + 1) hs := ⟨g.nd, fun p mp => ⟨(g.sub p mp).1, (g.sub p mp).2.1, Nat.le_succ_of_le (g.sub p mp).2.2⟩, g.cl, g.bd⟩
theorem Gro.nil {names : Row} : Gro names 1 [] := ⟨List.nodup_nil, fun p m => absurd m List.not_mem_nil, fun p m => absurd m List.not_mem_nil, fun p m => absurd m List.not_mem_nil⟩
theorem Gro.smp {names : Row} {hs : List Ih} (hn : InU (Pg.uptoI 12) names) {m : Nat} (hm : m ≤ 3) (g : Gro names m hs) : ∀ p ∈ hs, Smp p.1 := fun p mp => by
  obtain ⟨h1, h2, h3⟩ := g.sub p mp
  exact ⟨⟨h1.asc, fun x mx => hn.sub x (h1.sub x mx)⟩, h2, by omega⟩
theorem Gro.put {names : Row} {m : Nat} {hs : List Ih} {s : Row} {h : Int} (hn : InU (Pg.uptoI 12) names) (hm : m ≤ 3) (g : Gro names m hs) (hs1 : InU names s) (hl : s.length = m) (h1 : 1 ≤ m) (hf : ∀ f ∈ facesL s, ∃ v, look hs f = some v ∧ v ≤ h) (hb : -30 < h ∧ h < 30 * (m : Int)) : Gro names m (put hs s h) := by
  have ss : Smp s := ⟨⟨hs1.asc, fun x mx => hn.sub x (hs1.sub x mx)⟩, by omega, by omega⟩
  refine ⟨put_nodup g.nd, fun p mp => ?_, fun p mp f mf => ?_, fun p mp => ?_⟩
  · rcases mem_put mp with rfl | ⟨mp, _⟩
    · exact ⟨hs1, by show 1 ≤ s.length; omega, by show s.length ≤ m; omega⟩
    · exact g.sub p mp
  · rcases mem_put mp with rfl | ⟨mp, _⟩
    · obtain ⟨v, e, lv⟩ := hf f mf
      have := facesL_short ss mf
      exact ⟨(f, v), put_keep (look_mem e) (fun e => by
        have e : f = s := e
        rw [e] at this
        exact Nat.lt_irrefl _ this), rfl, lv⟩
    · obtain ⟨q, mq, e, lq⟩ := g.cl p mp f mf
      have z1 := facesL_short (g.smp hn hm p mp) mf
      have z2 := (g.sub p mp).2.2
      exact ⟨q, put_keep mq fun e2 => by
        have z3 : f = s := e.symm.trans e2
        rw [z3] at z1
        omega, e, lq⟩
  · rcases mem_put mp with rfl | ⟨mp, _⟩
    · rw [hl]
      exact hb
    · exact g.bd p mp
/-- all rows of a few -/
def subs : Row → List Row
  | [] => [[]]
  | x :: l => subs l ++ (subs l).map (x :: ·)
theorem subs_len : ∀ l : Row, (subs l).length = 2 ^ l.length
  | [] => rfl
  | x :: l => by
    unfold subs
    rw [List.length_append, List.length_map, subs_len l, List.length_cons, Nat.pow_succ]
    omega
theorem subs_mem : ∀ {l r : Row}, Asc l → InU l r → r ∈ subs l
  | [], r, _, h => by
    cases r with
    | nil => exact List.mem_singleton.mpr rfl
    | cons y r => exact absurd (h.sub y List.mem_cons_self) List.not_mem_nil
  | x :: l, r, ha, h => by
    obtain ⟨ha1, ha2⟩ := List.pairwise_cons.mp ha
    unfold subs
    cases r with
    | nil => exact List.mem_append_left _ (subs_mem ha2 ⟨.nil, fun y m => absurd m List.not_mem_nil⟩)
    | cons y r =>
      obtain ⟨r1, r2⟩ := List.pairwise_cons.mp h.asc
      have tl : ∀ z ∈ r, z ∈ l := fun z mz => by
        rcases List.mem_cons.mp (h.sub z (List.mem_cons_of_mem _ mz)) with e | m
        · have lt := r1 z mz
          rcases List.mem_cons.mp (h.sub y List.mem_cons_self) with e2 | m2
          · omega
          · have := ha1 y m2
            omega
        · exact m
      rcases List.mem_cons.mp (h.sub y List.mem_cons_self) with e | m
      · subst e
        exact List.mem_append_right _ (List.mem_map.mpr ⟨r, subs_mem ha2 ⟨r2, tl⟩, rfl⟩)
      · refine List.mem_append_left _ (subs_mem ha2 ⟨h.asc, fun z mz => ?_⟩)
        rcases List.mem_cons.mp mz with rfl | mz
        · exact m
        · exact tl z mz
theorem nodup_le {α : Type} [DecidableEq α] : ∀ {a b : List α}, a.Nodup → (∀ x ∈ a, x ∈ b) → a.length ≤ b.length
  | [], _, _, _ => Nat.zero_le _
  | x :: a, b, nd, h => by
    rw [List.nodup_cons] at nd
    have mb := h x List.mem_cons_self
    have := nodup_le (a := a) (b := b.erase x) nd.2 fun y my => (List.mem_erase_of_ne fun e => nd.1 (by rw [← e]; exact my)).mpr (h y (List.mem_cons_of_mem _ my))
    rw [List.length_erase_of_mem mb] at this
    have := List.length_pos_of_mem mb
    rw [List.length_cons]
    omega
theorem Gro.len {names : Row} {m : Nat} {hs : List Ih} (ha : Asc names) (hl : names.length ≤ 5) (g : Gro names m hs) : hs.length ≤ 32 := by
  have h := nodup_le g.nd (b := subs names) fun s ms => by
    obtain ⟨p, mp, rfl⟩ := List.mem_map.mp ms
    exact subs_mem ha (g.sub p mp).1
  rw [List.length_map, subs_len] at h
  exact Nat.le_trans h (Nat.pow_le_pow_right (by decide) hl)
theorem Gro.shp {names : Row} {hs : List Ih} (hn : InU (Pg.uptoI 12) names) (g : Gro names 3 hs) {far : Int} (f0 : 1 ≤ far) (f1 : far ≤ 9) : Shp (hs.map fun p => (p.1, far * p.2)) := by
  refine ⟨?_, fun p mp => ?_, fun p mp f mf => ?_, fun p mp => ?_⟩
  · rw [List.map_map]
    exact g.nd
  · obtain ⟨q, mq, rfl⟩ := List.mem_map.mp mp
    exact g.smp hn (Nat.le_refl _) q mq
  · obtain ⟨q, mq, rfl⟩ := List.mem_map.mp mp
    obtain ⟨r, mr, e, lr⟩ := g.cl q mq f mf
    exact ⟨(r.1, far * r.2), List.mem_map.mpr ⟨r, mr, rfl⟩, e, Int.mul_le_mul_of_nonneg_left lr (by omega)⟩
  · obtain ⟨q, mq, rfl⟩ := List.mem_map.mp mp
    obtain ⟨b1, b2⟩ := g.bd q mq
    have l3 := (g.sub q mq).2.2
    have b3 : q.2 < 90 := by omega
    constructor
    · show -1000000 < far * q.2
      have : far * (-30) ≤ far * q.2 := Int.mul_le_mul_of_nonneg_left (by omega) (by omega)
      omega
    · show far * q.2 < 1000000
      have : far * q.2 ≤ far * 90 := Int.mul_le_mul_of_nonneg_left (by omega) (by omega)
      omega
end Sh
end Bd
/-! Q34: .. names, heights above, shapes. -/
namespace Bd
open PySem L2
namespace Sh
def cutD (s : Row) : D → D
  | .int k => tupI (s.take k.toNat ++ s.drop (k.toNat + 1))
  | _ => .none
end Sh
end Bd
/-! Q35: shapes, drawn. -/
namespace Bd
open PySem L2
namespace Sh
/-- a name's slot that holds data or nothing -/
@[reducible] def od : Option D → Sl
  | none => .no
  | some d => .d d
/-- what stays as it is in the drawing of a shape -/
abbrev frm (kx : List D) (names : Row) (wide far : Int) (hs : List Ih) (s6 s7 s8 s9 s10 s11 s12 s13 s14 : Sl) : Nv :=
  [.own ⟨false, kx⟩, .d (.int 5), .d (.list (names.map PyData.int)), .d (.int wide), .d (.int far), .dk (.tup (zsD hs)), s6, s7, s8, s9, s10, s11, s12, s13, s14]
end Sh
end Bd
/-! Q36: both sides' order of growing, places up to a height, their rims. -/
namespace Bd
open PySem L2
namespace Sh
theorem len_tup (s : Row) : lenV [tupI s] = some (.int (s.length : Nat)) := by
  show some (PyData.int ((s.map PyData.int).length : Nat)) = _
  rw [List.length_map]
end Sh
end Bd
/-! M8: the calculus with errors: Sx (statements). -/
namespace Bd
open PySem L2
@[irreducible] def Sx (r : Rs) (N : Nv → Prop) (T : D → Nv → Prop) (B C : Nv → Prop) (X : Str → Str → D → Prop) : Prop := match r with
  | .nx η => N η
  | .rt d η => T d η
  | .bk η => B η
  | .ct η => C η
  | .ex c w p => X c w p
  | .no => False
section
variable {r : Rs} {N B C : Nv → Prop} {T : D → Nv → Prop} {X : Str → Str → D → Prop} {η : Nv}
theorem sx_nx : Sx (.nx η) N T B C X ↔ N η := by unfold Sx; exact Iff.rfl
theorem sx_rt {d : D} : Sx (.rt d η) N T B C X ↔ T d η := by unfold Sx; exact Iff.rfl
theorem sx_ex {c w : Str} {p : D} : Sx (.ex c w p) N T B C X ↔ X c w p := by unfold Sx; exact Iff.rfl
theorem sx_of (h : Sn r N T B C) : Sx r N T B C X := by
  unfold Sn at h
  unfold Sx
  cases r <;> first | exact h | exact h.elim
theorem Sx.imp {N' B' C' : Nv → Prop} {T' : D → Nv → Prop} {X' : Str → Str → D → Prop} (h : Sx r N T B C X) (kN : ∀ η, N η → N' η) (kT : ∀ d η, T d η → T' d η) (kB : ∀ η, B η → B' η) (kC : ∀ η, C η → C' η) (kX : ∀ c w p, X c w p → X' c w p) : Sx r N' T' B' C' X' := by
  unfold Sx at *
  cases r with
  | nx η => exact kN _ h
  | rt d η => exact kT _ _ h
  | bk η => exact kB _ h
  | ct η => exact kC _ h
  | ex c w p => exact kX _ _ _ h
  | no => exact h
theorem sx_seq {Gs Gt : Nv → Rs} (h : Sx (Gs η) (fun η1 => Sx (Gt η1) N T B C X) T B C X) : Sx (seqS Gs Gt η) N T B C X := by
  unfold seqS
  cases e : Gs η with
  | nx η1 => rw [e] at h; exact sx_nx.mp h
  | rt d η1 => rw [e] at h; unfold Sx at h; show Sx (.rt d η1) _ _ _ _ _; unfold Sx; exact h
  | bk η1 => rw [e] at h; unfold Sx at h; show Sx (.bk η1) _ _ _ _ _; unfold Sx; exact h
  | ct η1 => rw [e] at h; unfold Sx at h; show Sx (.ct η1) _ _ _ _ _; unfold Sx; exact h
  | ex c w p => rw [e] at h; unfold Sx at h; show Sx (.ex c w p) _ _ _ _ _; unfold Sx; exact h
  | no => rw [e] at h; unfold Sx at h; exact h.elim
/-- a statement without errors, then the rest -/
theorem sx_seqN {Gs Gt : Nv → Rs} (h : Sn (Gs η) (fun η1 => Sx (Gt η1) N T B C X) T B C) : Sx (seqS Gs Gt η) N T B C X := sx_seq (sx_of h)
theorem sx_if {G : Nv → R Bool} {Gs Gt : Nv → Rs} (h : Wn (G η) fun k => if k = true then Sx (Gs η) N T B C X else Sx (Gt η) N T B C X) : Sx (ifS G Gs Gt η) N T B C X := by
  obtain ⟨k, e, h⟩ := h.get
  unfold ifS
  rw [e]
  show Sx (if k then Gs η else Gt η) N T B C X
  cases k with
  | true => exact h
  | false => exact h
theorem sx_raise {c w : Str} {F : Nv → R D} (h : Wn (F η) fun p => fmD p = true ∧ X c w p) : Sx (raiseS c w F η) N T B C X := by
  obtain ⟨p, e, h1, h2⟩ := h.get
  unfold raiseS
  rw [e]
  show Sx (if fmD p = true then .ex c w p else .no) N T B C X
  rw [if_pos h1]
  exact sx_ex.mpr h2
theorem sx_loop {Tg : Tgt} {Gb : Nv → Rs} (I : List D → Nv → Prop) (step : ∀ x rest η, I (x :: rest) η → ∃ η1, Tg x η = some η1 ∧ Sx (Gb η1) (I rest) T N (I rest) X) (fin : ∀ η, I [] η → N η) : ∀ (xs : List D) (η : Nv), I xs η → Sx (loopG Tg Gb xs η) N T B C X
  | [], η, h => by
    show Sx (.nx η) _ _ _ _ _
    exact sx_nx.mpr (fin η h)
  | x :: xs, η, h => by
    obtain ⟨η1, e1, h1⟩ := step x xs η h
    rw [loopG_cons (η1 := η1) (h := e1)]
    cases e2 : Gb η1 with
    | nx η2 => rw [e2] at h1; exact sx_loop I step fin xs η2 (sx_nx.mp h1)
    | rt d η2 => rw [e2] at h1; unfold Sx at h1; show Sx (.rt d η2) _ _ _ _ _; unfold Sx; exact h1
    | bk η2 => rw [e2] at h1; unfold Sx at h1; show Sx (.nx η2) _ _ _ _ _; unfold Sx; exact h1
    | ct η2 => rw [e2] at h1; unfold Sx at h1; exact sx_loop I step fin xs η2 h1
    | ex c w p => rw [e2] at h1; unfold Sx at h1; show Sx (.ex c w p) _ _ _ _ _; unfold Sx; exact h1
    | no => rw [e2] at h1; unfold Sx at h1; exact h1.elim
theorem sx_for {Fi : Nv → R (List D)} {Tg : Tgt} {Gb : Nv → Rs} (h : Wn (Fi η) fun xs => Sx (loopG Tg Gb xs η) N T B C X) : Sx (forS Fi Tg Gb η) N T B C X := by
  obtain ⟨xs, e, h⟩ := h.get
  unfold forS
  rw [e]
  exact h
/-- an expression that may raise, as a statement's -/
theorem sx_toS {r : R D} {f : D → Rs} (h : (∃ d, r = .ok d ∧ Sx (f d) N T B C X) ∨ ∃ c w p, r = .ex c w p ∧ X c w p) : Sx (r.toS f) N T B C X := by
  rcases h with ⟨d, rfl, h⟩ | ⟨c, w, p, rfl, h⟩
  · exact h
  · exact sx_ex.mpr h
/-- a def by its body, its answer or its error -/
theorem rx_runD {m : Nat} {fall : R D} {G : Nv → Rs} {ds : List D} {P : R D → Prop} (h : Sx (G (initD m ds)) (fun _ => P fall) (fun d _ => P (.ok d)) (fun _ => False) (fun _ => False) (fun c w p => P (.ex c w p))) : P (runD m fall G ds) := by
  unfold runD
  unfold Sx at h
  cases e : G (initD m ds) <;> rw [e] at h <;> first | exact h | exact h.elim
theorem sn_try {i m : Nat} {l : List (Str × Bool)} {Gb Gs : Nv → Rs} (h : Sx (Gb η) N T B C fun c w p => l.lookup c = some true ∧ Sn (Gs ((List.replicate m Sl.no).set i (.x c w p))) (fun _ => False) T (fun _ => False) (fun _ => False)) : Sn (tryS i m l Gb Gs η) N T B C := by
  unfold tryS
  unfold Sx at h
  cases e : Gb η with
  | ex c w p =>
    rw [e] at h
    obtain ⟨h1, h2⟩ := h
    simp only [h1]
    unfold Sn at h2
    cases e2 : Gs ((List.replicate m Sl.no).set i (.x c w p)) with
    | rt d η1 => rw [e2] at h2; show Sn (.rt d η1) _ _ _ _; unfold Sn; exact h2
    | _ => rw [e2] at h2; exact h2.elim
  | nx η1 => rw [e] at h; show Sn (.nx η1) _ _ _ _; unfold Sn; exact h
  | rt d η1 => rw [e] at h; show Sn (.rt d η1) _ _ _ _; unfold Sn; exact h
  | bk η1 => rw [e] at h; show Sn (.bk η1) _ _ _ _; unfold Sn; exact h
  | ct η1 => rw [e] at h; show Sn (.ct η1) _ _ _ _; unfold Sn; exact h
  | no => rw [e] at h; exact h.elim
theorem isx_eq {l : List (Str × Bool)} {i : Nat} {c w : Str} {p : D} {b : Bool} (h : η[i]? = some (.x c w p)) (h2 : l.lookup c = some b) : isxV l i η = .ok (.bool b) := by
  unfold isxV
  rw [h]
  dsimp only
  rw [h2]
theorem xf_word {l : List (Str × Bool)} {i : Nat} {c w : Str} {p : D} (h : η[i]? = some (.x c w p)) (h2 : (l.lookup c).isSome = true) : xfV l true i η = .ok (.str w) := by
  unfold xfV
  rw [h]
  dsimp only
  rw [if_pos h2]
  rfl
theorem xf_place {l : List (Str × Bool)} {i : Nat} {c w : Str} {p : D} (h : η[i]? = some (.x c w p)) (h2 : (l.lookup c).isSome = true) : xfV l false i η = .ok p := by
  unfold xfV
  rw [h]
  dsimp only
  rw [if_pos h2]
  rfl
end
end Bd
/-! R1: shapes by cells: the laws' _law_faces, _law_parts, _law_closed. -/
namespace Bd
open PySem L2
namespace Sc
open Sh
theorem sl_take (s : Row) (k : Nat) : slV none (some (k : Int)) (tupI s) = some (tupI (s.take k)) := by
  show some (PyData.tuple (Bd.cutD (s.map PyData.int) none (some (k : Int)))) = _
  rw [cut_take _ _ (by omega), Int.toNat_natCast, ← List.map_take]
  rfl
theorem sl_drop (s : Row) (k : Nat) : slV (some (k : Int)) none (tupI s) = some (tupI (s.drop k)) := by
  show some (PyData.tuple (Bd.cutD (s.map PyData.int) (some (k : Int)) none)) = _
  rw [cut_drop _ _ (by omega), Int.toNat_natCast, ← List.map_drop]
  rfl
def outD (s : Row) : D → D
  | .int i => tupI (s.take i.toNat ++ s.drop (i.toNat + 1))
  | _ => .none
/-! ### the parts of a few names -/
theorem in1 {U : Row} {a : Int} (h : a ∈ U) : InU U [a] := ⟨List.pairwise_singleton _ _, fun x m => by rw [List.mem_singleton.mp m]; exact h⟩
/-! ### all that is closed -/
def prD (s : Row) : D := .tuple [.int (s.length : Nat), tupI s]
end Sc
end Bd
/-! R2: all that is closed, by cells. -/
namespace Bd
open PySem L2
namespace Sc
open Sh
structure Cl (L : List Row) : Prop where
  nd : L.Nodup
  smp : ∀ s ∈ L, Smp s
  cl : ∀ s ∈ L, ∀ f ∈ facesL s, f ∈ L
end Sc
end Bd
/-! R3: shapes by cells. -/
namespace Bd
open PySem L2
namespace Sc
open Sh
structure Bd1 (it : List Ih) : Prop where
  shp : Shp it
  bd : ∀ p ∈ it, -1000 ≤ p.2 ∧ p.2 ≤ 1000
  len : it.length ≤ 42
theorem Bd1.perm {a b : List Ih} (h : Bd1 a) (p : b.Perm a) : Bd1 b := ⟨h.shp.perm p, fun x m => h.bd x (p.mem_iff.mp m), by rw [p.length_eq]; exact h.len⟩
end Sc
end Bd
/-! Q37: places and rims up to a height. -/
namespace Bd
open PySem L2
namespace Sh
/-- the positions of a dimension among the first ones -/
def plc (os : List Row) (dim : Int) (n : Nat) : List Nat := (List.range n).filter fun i => decide (((os.getD i []).length : Int) = dim + 1)
def rimsD (os : List Row) (dim : Int) (n : Nat) : List Row := (plc os dim n).map fun i => rimL os (os.getD i [])
theorem plc_mem {os : List Row} {dim : Int} {n i : Nat} : i ∈ plc os dim n ↔ i < n ∧ ((os.getD i []).length : Int) = dim + 1 := by
  unfold plc
  rw [List.mem_filter, List.mem_range, decide_eq_true_iff]
end Sh
end Bd
/-! Q38: .. holes; the laws' rims and heights. -/
namespace Bd
open PySem L2
namespace Sh
theorem getD_at {os : List Row} {i : Nat} (h : i < os.length) : os[i]? = some (os.getD i []) := by
  rw [List.getD_eq_getElem?_getD, List.getElem?_eq_getElem h]
  rfl
theorem getD_mem {os : List Row} {i : Nat} (h : i < os.length) : os.getD i [] ∈ os := List.mem_of_getElem? (getD_at h)
theorem rims_at {os : List Row} {i : Nat} (h : i < os.length) : (rimsL os).getD i [] = rimL os (os.getD i []) := by
  unfold rimsL
  rw [List.getD_eq_getElem?_getD, List.getElem?_map, getD_at h]
  rfl
theorem plc_lt {os : List Row} {dim : Int} {n : Nat} (hn : n ≤ os.length) : ∀ i ∈ plc os dim n, i < os.length := fun i m => Nat.lt_of_lt_of_le (plc_mem.mp m).1 hn
theorem rimsD_in {os : List Row} (h : Ordr os) {dim : Int} {n : Nat} (hn : n ≤ os.length) : ∀ r ∈ rimsD os dim n, InU (Pg.uptoI os.length) r := fun r m => by
  obtain ⟨i, mi, rfl⟩ := List.mem_map.mp m
  exact rim_in h (getD_mem (plc_lt hn i mi))
end Sh
end Bd
/-! Q4: what is a chain, as the laws tell it. -/
namespace Bd
open PySem L2
namespace Ch
def isOk (n : Nat) : D → Bool
  | .int i => decide (0 ≤ i) && decide (i < (n : Int))
  | _ => false
def lenAt (os : List Row) (p : Int) : Nat := (os.getD p.toNat []).length
def stepB (os : List Row) : Option Int → D → Bool
  | some q, .int i => decide (q < i) && decide (lenAt os q = lenAt os i)
  | _, _ => true
def nextQ : D → Option Int
  | .int i => some i
  | _ => none
/-- is it a chain? behind the position q -/
def goC (os : List Row) : Option Int → List D → Bool
  | _, [] => true
  | q, p :: ps => isOk os.length p && stepB os q p && goC os (nextQ p) ps
def isC (os : List Row) : D → Bool
  | .tuple ps => goC os none ps
  | _ => false
theorem len_tup (s : Row) : lenV [tupI s] = some (.int (s.length : Nat)) := by
  show some (PyData.int ((s.map PyData.int).length : Nat)) = _
  rw [List.length_map]
/-! ### the law's own -/
end Ch
end Bd
/-! Q5: the neat chains. -/
namespace Bd
open PySem L2
/-- a row of positions of simplices with d vertices -/
def Dim (os : List Row) (d : Nat) (c : Row) : Prop := ∀ p ∈ c, (rowAt os p).length = d
/-- .. with one vertex less than d -/
def DimF (os : List Row) (d : Nat) (c : Row) : Prop := ∀ p ∈ c, (rowAt os p).length + 1 = d
theorem Dim.sum {os : List Row} {d : Nat} {a b : Row} (ha : Dim os d a) (hb : Dim os d b) : Dim os d (sumL a b) := fun p m => by
  rcases mem_sumL.mp m with ⟨m, _⟩ | ⟨m, _⟩
  · exact ha p m
  · exact hb p m
theorem DimF.sum {os : List Row} {d : Nat} {a b : Row} (ha : DimF os d a) (hb : DimF os d b) : DimF os d (sumL a b) := fun p m => by
  rcases mem_sumL.mp m with ⟨m, _⟩ | ⟨m, _⟩
  · exact ha p m
  · exact hb p m
/-- neat chains of an order -/
structure NeatC (os cs : List Row) : Prop where
  len : cs.length = os.length
  ok : ∀ (i : Nat) (c : Row), cs[i]? = some c → InU (Pg.uptoI os.length) c ∧ Dim os (rowAt os (i : Int)).length c ∧
    (∃ J, c = J ++ [(i : Int)] ∧ ∀ j ∈ J, 0 ≤ j ∧ j < (i : Int) ∧ ∃ c', cs[j.toNat]? = some c' ∧ bdy os c' ≠ []) ∧
    ∀ (j : Nat) (c' : Row) (k : Int), j < i → cs[j]? = some c' → (bdy os c').getLast? = some k → k ∉ bdy os c
end Bd
/-! Q6: the laws' faults and neat chains, where there is no fault. -/
namespace Bd
open PySem L2
namespace Ch
/-- the last ones -/
def lastsL (rs : List Row) : Row := rs.filterMap List.getLast?
end Ch
end Bd
/-! Q7: the program's reduced. -/
namespace Bd
open PySem L2
namespace Cb
end Cb
end Bd
/-! Q8: what is a chain, as the program tells it; small things that can be shown. -/
namespace Bd
open PySem L2
namespace Ch
def G_is_whole : Nv → Rs :=
    (seqS (retS (andV (e1 (isiV "int") (gv 0)) (notV (e1 (isiV "bool") (gv 0)))))
    .nx)
def F_is_whole : List D → R D := runD 1 (.ok .none) G_is_whole
/-! ### the program's -/
theorem whole_ok (d : D) : F_is_whole [d] = .ok (.bool (kInt d && !kBool d)) := by
  refine Wn.eq (wn_runD ?_)
  show Sn (G_is_whole [.d d]) _ _ _ _
  unfold G_is_whole
  simp only [wn_ok, wn_some, wn_only, wn_noex, wn_e2, wn_e1, wn_eN, wn_a0, wn_aC, wn_call, wn_tb, wn_tup, wn_lst, wn_andB, wn_orB, wn_notB, wn_andV, wn_orV, wn_notV, wn_ifV, wn_iA, wn_iR1, wn_iR2, wn_iZ, wn_iEn, wn_iRR, wn_sl, wn_p0, wn_p1, wn_up, wn_upB, wn_upI, wn_x2, wn_x0, wn_xC, wn_xN, wn_xb, wn_xAnd, wn_xOr, wn_xNot, wn_xIf, wn_xCall, wn_xR1, wn_xR2, sn_nx, sn_rt, sn_bk, sn_ct, sn_seq, sn_set, sn_ret, sn_expr, sn_if, sn_for, sn_xSet, sn_xRet, sn_xExpr, sn_xIf, sn_xFor, sn_asg, sn_xAsg, sn_own, sn_xOwn, gv_zero, gv_succ, go_own, go_dat, go_succ, k0_def, gN_def, tru_bool, tru_none, tru_int, tru_list, asSeq_list, asSeq_tup, addV_int, subV_int, ltA_i, leA_i, gtA_i, geA_i, negV_int, intV_int, lenV_list, lenV_tup, ixV_list, ixV_tup, asInt_int, slV_list, slV_tup, slL_list, revV_tup, revV_list, tupleV_list, listV_list, listV_tup, eqV_str, neV_str, eqV_int, List.set_cons_zero, List.set_cons_succ, List.getElem?_cons_zero, List.getElem?_cons_succ, List.length_cons, List.length_nil, ↓reduceIte, Bool.false_eq_true, Bool.not_true, Bool.not_false, wn_ite, gT2, gT3, neV_tup, eqV_tup, in_tup, notin_tup', lineN_eq, Nat.reduceAdd, Nat.reduceLeDiff, Nat.zero_le, true_and, and_true, List.map_nil, List.map_cons, exists_eq_left', Option.some.injEq, PyData.list.injEq, exists_eq_left, PyData.int.injEq, R.ok.injEq, Sl.own.injEq, isi_int, isi_bool]
  cases kInt d <;> simp
theorem dim_ok (s : Row) : Cb.F_dimension_of [tupI s] = .ok (.int ((s.length : Int) - 1)) := by
  refine Wn.eq (wn_runD ?_)
  show Sn (Cb.G_dimension_of [.d (tupI s)]) _ _ _ _
  unfold Cb.G_dimension_of
  simp only [wn_ok, wn_some, wn_only, wn_noex, wn_e2, wn_e1, wn_eN, wn_a0, wn_aC, wn_call, wn_tb, wn_tup, wn_lst, wn_andB, wn_orB, wn_notB, wn_andV, wn_orV, wn_notV, wn_ifV, wn_iA, wn_iR1, wn_iR2, wn_iZ, wn_iEn, wn_iRR, wn_sl, wn_p0, wn_p1, wn_up, wn_upB, wn_upI, wn_x2, wn_x0, wn_xC, wn_xN, wn_xb, wn_xAnd, wn_xOr, wn_xNot, wn_xIf, wn_xCall, wn_xR1, wn_xR2, sn_nx, sn_rt, sn_bk, sn_ct, sn_seq, sn_set, sn_ret, sn_expr, sn_if, sn_for, sn_xSet, sn_xRet, sn_xExpr, sn_xIf, sn_xFor, sn_asg, sn_xAsg, sn_own, sn_xOwn, gv_zero, gv_succ, go_own, go_dat, go_succ, k0_def, gN_def, tru_bool, tru_none, tru_int, tru_list, asSeq_list, asSeq_tup, addV_int, subV_int, ltA_i, leA_i, gtA_i, geA_i, negV_int, intV_int, lenV_list, lenV_tup, ixV_list, ixV_tup, asInt_int, slV_list, slV_tup, slL_list, revV_tup, revV_list, tupleV_list, listV_list, listV_tup, eqV_str, neV_str, eqV_int, List.set_cons_zero, List.set_cons_succ, List.getElem?_cons_zero, List.getElem?_cons_succ, List.length_cons, List.length_nil, ↓reduceIte, Bool.false_eq_true, Bool.not_true, Bool.not_false, wn_ite, gT2, gT3, neV_tup, eqV_tup, in_tup, notin_tup', lineN_eq, Nat.reduceAdd, Nat.reduceLeDiff, Nat.zero_le, true_and, and_true, List.map_nil, List.map_cons, exists_eq_left', Option.some.injEq, PyData.list.injEq, exists_eq_left, PyData.int.injEq, R.ok.injEq, Sl.own.injEq, len_tup]
end Ch
theorem fine_str {s : Str} (h2 : (PyData.str s).leavesShort 13 = true) (h3 : (PyData.str s).weight ≤ 41) (h4 : (PyData.str s).canLay0 = true) : Fine 0 41 (.str s) :=
  ⟨by simp only [PyData.showable], by simp only [PyData.hasDict], by simp only [PyData.depth]; exact Nat.le_refl _, h2, h3, h4⟩
end Bd
/-! Q9: the faults of whatever is taken for right chains. -/
namespace Bd
open PySem L2
def optD : Option Int → D
  | none => .none
  | some k => .int k
namespace Ch
def itemsD : D → Option (List D)
  | .list xs => some xs
  | .tuple xs => some xs
  | _ => none
def SzAll (xs : List D) : Prop := ∀ x ∈ xs, ∀ ps, x = .tuple ps → ps.length ≤ 1000
end Ch
end Bd
/-! Q10: what the laws draw beside the neat chains. -/
namespace Bd
open PySem L2
namespace Ch
/-- a thing that may stand for a chain -/
structure Itm (x : D) : Prop where
  sz : ∀ ps, x = .tuple ps → ps.length ≤ 1000
  f : Fine 2 6000 x
/-- a value that may be judged and shown -/
structure VOk (v : D) : Prop where
  sz : ∀ xs, itemsD v = some xs → SzAll xs
  f : Fine 4 400000 v
end Ch
end Bd
/-! Q11: there is only one list of neat chains. -/
namespace Bd
open PySem L2
theorem last_le : ∀ {l : Row} {m : Int}, Asc l → l.getLast? = some m → ∀ x ∈ l, x ≤ m := fun {l m} h e x mx => by
  rcases List.eq_nil_or_concat l with rfl | ⟨J, i, rfl⟩
  · cases mx
  · rw [List.concat_eq_append] at h e mx
    rw [List.getLast?_concat] at e
    cases e
    rcases List.mem_append.mp mx with mx | mx
    · have := (List.pairwise_append.mp h).2.2 x mx m (List.mem_singleton.mpr rfl)
      omega
    · rw [List.mem_singleton.mp mx]
      exact Int.le_refl _
theorem asc_last {l : Row} {m : Int} (h : Asc l) (hm : m ∈ l) (hx : ∀ x ∈ l, x ≤ m) : l.getLast? = some m := by
  cases e : l.getLast? with
  | none =>
    rw [List.getLast?_eq_none_iff.mp e] at hm
    cases hm
  | some k =>
    have h1 := last_le h e m hm
    have h2 := hx k (List.mem_of_getLast? e)
    congr 1
    omega
theorem last_sum {a b : Row} {x y : Int} (ha : Asc a) (hb : Asc b) (ea : a.getLast? = some x) (eb : b.getLast? = some y) (ne : x ≠ y) : (sumL a b).getLast? = some (if x < y then y else x) := by
  have la := last_le ha ea
  have lb := last_le hb eb
  have mx := List.mem_of_getLast? ea
  have my := List.mem_of_getLast? eb
  refine asc_last (sumL_asc ha hb) ?_ fun z mz => ?_
  · split
    · exact mem_sumL.mpr (.inr ⟨my, fun q => by have := la y q; omega⟩)
    · exact mem_sumL.mpr (.inl ⟨mx, fun q => by have := lb x q; omega⟩)
  · rcases mem_sumL.mp mz with ⟨m, _⟩ | ⟨m, _⟩
    · have := la z m
      split <;> omega
    · have := lb z m
      split <;> omega
end Bd
/-! Q12: which chains are neat, by the laws and by the program. -/
namespace Bd
open PySem L2
namespace Ch
structure RightC (os cs : List Row) : Prop where
  len : cs.length = os.length
  ok : ∀ (i : Nat) (c : Row), cs[i]? = some c → InU (Pg.uptoI os.length) c ∧ isC os (tupI c) = true ∧ c.getLast? = some (i : Int)
end Ch
end Bd
/-! Q13: is_neat of both sides. -/
namespace Bd
open PySem L2
namespace Ch
end Ch
end Bd
/-! Q14: dicts with int keys in the calculus; rows made residue: their ends are the same whatever way. -/
namespace Bd
open PySem L2
section
variable {QD : D → Prop} {QB : Bool → Prop} {η : Nv} {N B C : Nv → Prop} {T : D → Nv → Prop} {i : Nat} {Fk Fx Fv : Nv → R D}
end
/-! ### what a dict holds -/
theorem kAt_nil (n : Int) : kAt [] n = none := rfl
theorem kAt_cons (p : Int × D) (t : List (Int × D)) (m : Int) : kAt (p :: t) m = if p.1 = m then some p.2 else kAt t m := by
  unfold kAt
  rw [List.find?_cons]
  by_cases c : p.1 = m
  · rw [decide_eq_true c, if_pos c]
    rfl
  · rw [decide_eq_false c, if_neg c]
theorem kAt_put (ks : List (Int × D)) (n m : Int) (v : D) : kAt (kPut ks n v) m = if n = m then some v else kAt ks m := by
  unfold kPut
  split
  · rename_i h
    induction ks with
    | nil => cases h
    | cons p t ih =>
      rw [List.map_cons, kAt_cons, kAt_cons]
      by_cases c : p.1 = n
      · rw [if_pos c]
        by_cases d : n = m
        · rw [if_pos d, if_pos (c.trans d)]
        · rw [if_neg d]
          have c' : ¬ p.1 = m := fun e => d (c.symm.trans e)
          rw [if_neg c', if_neg c']
          clear ih h
          induction t with
          | nil => rfl
          | cons q t ih =>
            rw [List.map_cons, kAt_cons, kAt_cons, ih]
            by_cases c2 : q.1 = n
            · rw [if_pos c2]
              have : ¬ q.1 = m := fun e => d (c2.symm.trans e)
              rw [if_neg this, if_neg this]
            · rw [if_neg c2]
      · rw [if_neg c]
        have h' : (t.any fun p => decide (p.1 = n)) = true := by
          rw [List.any_cons, decide_eq_false c, Bool.false_or] at h
          exact h
        rw [ih h']
        by_cases d : p.1 = m
        · rw [if_pos d, if_pos d]
          have : ¬ n = m := fun e => c (d.trans e.symm)
          rw [if_neg this]
        · rw [if_neg d, if_neg d]
  · rename_i h
    have h' : (ks.any fun p => decide (p.1 = n)) = false := Bool.eq_false_iff.mpr h
    clear h
    induction ks with
    | nil => rw [List.nil_append, kAt_cons, kAt_nil]
    | cons p t ih =>
      rw [List.any_cons, Bool.or_eq_false_iff] at h'
      rw [List.cons_append, kAt_cons, kAt_cons, ih h'.2]
      have c := of_decide_eq_false h'.1
      by_cases d : p.1 = m
      · rw [if_pos d, if_pos d]
        have : ¬ n = m := fun e => c (d.trans e.symm)
        rw [if_neg this]
      · rw [if_neg d, if_neg d]
theorem kPut_le (ks : List (Int × D)) (n : Int) (v : D) : (kPut ks n v).length ≤ ks.length + 1 := kPut_len
/-! ### ends of residues -/
theorem span_same {rs ss : List Row} (hr : AscR rs) (h : ∀ r, r ∈ rs ↔ r ∈ ss) : ∀ x, x ∈ spanL rs ↔ x ∈ spanL ss :=
  have hs : AscR ss := fun r m => hr r ((h r).mpr m)
  span_ext hr hs (fun r m => span_mem hs r ((h r).mp m)) fun r m => span_mem hr r ((h r).mpr m)
theorem span_snoc {rs : List Row} {r x : Row} (h : AscR (rs ++ [r])) (hx : Asc x) : x ∈ spanL (rs ++ [r]) ↔ x ∈ spanL rs ∨ sumL r x ∈ spanL rs := by
  have h' : AscR (r :: rs) := fun y m => h y (by simpa [or_comm] using m)
  rw [span_same h (ss := r :: rs) fun y => by simp [or_comm], span_cons h' hx]
theorem span_last : ∀ {rs : List Row}, AscR rs → (Ch.lastsL rs).Nodup → ∀ x ∈ spanL rs, x ≠ [] → ∃ j, x.getLast? = some j ∧ j ∈ Ch.lastsL rs
  | [], _, _, x, m, ne => absurd (List.mem_singleton.mp m) ne
  | r :: rs, ha, hd, x, m, ne => by
    have hx := span_asc ha x m
    have hr := ha.head
    cases er : r.getLast? with
    | none =>
      have e : Ch.lastsL (r :: rs) = Ch.lastsL rs := by
        unfold Ch.lastsL
        rw [List.filterMap_cons_none er]
      have r0 : r = [] := List.getLast?_eq_none_iff.mp er
      rw [e] at hd ⊢
      rcases (span_cons ha hx).mp m with m | m
      · exact span_last ha.tail hd x m ne
      · rw [r0, sumL_nil hx] at m
        exact span_last ha.tail hd x m ne
    | some k =>
      have e : Ch.lastsL (r :: rs) = k :: Ch.lastsL rs := by
        unfold Ch.lastsL
        rw [List.filterMap_cons_some er]
      rw [e, List.nodup_cons] at hd
      rw [e]
      rcases (span_cons ha hx).mp m with m | m
      · obtain ⟨j, h1, h2⟩ := span_last ha.tail hd.2 x m ne
        exact ⟨j, h1, List.mem_cons_of_mem _ h2⟩
      · have ex : x = sumL r (sumL r x) := (sumL_right hr hx).symm
        by_cases y0 : sumL r x = []
        · rw [y0, sumL_nil' hr] at ex
          rw [ex]
          exact ⟨k, er, List.mem_cons_self⟩
        · obtain ⟨j, h1, h2⟩ := span_last ha.tail hd.2 _ m y0
          have nk : k ≠ j := fun z => hd.1 (z ▸ h2)
          rw [ex, last_sum hr (sumL_asc hr hx) er h1 nk]
          split
          · exact ⟨j, rfl, List.mem_cons_of_mem _ h2⟩
          · exact ⟨k, rfl, List.mem_cons_self⟩
/-- es is rows made residue, one by one -/
inductive Red : List Row → List Row → Prop where
  | nil : Red [] []
  | snoc {rows es : List Row} {r e : Row} (h : Red rows es) (hr : Asc r) (he : Asc e) (hs : sumL r e ∈ spanL rows) (hl : ∀ j, e.getLast? = some j → j ∉ Ch.lastsL es) : Red (rows ++ [r]) (es ++ [e])
theorem Red.len {rows es : List Row} (h : Red rows es) : es.length = rows.length := by
  induction h with
  | nil => rfl
  | snoc h hr he hs hl ih => rw [List.length_append, List.length_append, ih]; rfl
theorem asc_snocR {rows : List Row} {r : Row} (h : AscR rows) (hr : Asc r) : AscR (rows ++ [r]) := fun y m => by
  rcases List.mem_append.mp m with m | m
  · exact h y m
  · rw [List.mem_singleton.mp m]
    exact hr
theorem Red.asc {rows es : List Row} (h : Red rows es) : AscR rows ∧ AscR es := by
  induction h with
  | nil => exact ⟨fun _ m => (List.not_mem_nil m).elim, fun _ m => (List.not_mem_nil m).elim⟩
  | snoc h hr he hs hl ih => exact ⟨asc_snocR ih.1 hr, asc_snocR ih.2 he⟩
theorem lasts_snoc (es : List Row) (e : Row) : Ch.lastsL (es ++ [e]) = Ch.lastsL es ++ e.getLast?.toList := by
  unfold Ch.lastsL
  rw [List.filterMap_append]
  cases h : e.getLast? with
  | none => rw [List.filterMap_cons_none h]; rfl
  | some j => rw [List.filterMap_cons_some h]; rfl
theorem Red.nodup {rows es : List Row} (h : Red rows es) : (Ch.lastsL es).Nodup := by
  induction h with
  | nil => exact List.nodup_nil
  | snoc h hr he hs hl ih =>
    rename_i rows es r e
    rw [lasts_snoc]
    cases el : e.getLast? with
    | none => simpa using ih
    | some j =>
      have := hl j el
      rw [List.nodup_append]
      refine ⟨ih, by simp, fun a ma b mb => ?_⟩
      have : b = j := by simpa using mb
      intro z
      subst z
      subst this
      exact hl _ el ma
theorem Red.span {rows es : List Row} (h : Red rows es) : ∀ x, x ∈ spanL rows ↔ x ∈ spanL es := by
  induction h with
  | nil => exact fun x => Iff.rfl
  | snoc h hr he hs hl ih =>
    rename_i rows es r e
    have a1 := asc_snocR h.asc.1 hr
    have a2 := asc_snocR h.asc.2 he
    have s1 : ∀ {y : Row}, y ∈ spanL rows → y ∈ spanL (rows ++ [r]) := fun {y} m => (span_snoc a1 (span_asc h.asc.1 y m)).mpr (.inl m)
    have s2 : ∀ {y : Row}, y ∈ spanL es → y ∈ spanL (es ++ [e]) := fun {y} m => (span_snoc a2 (span_asc h.asc.2 y m)).mpr (.inl m)
    have m1 : r ∈ spanL (rows ++ [r]) := span_mem a1 r (by simp)
    have m2 : e ∈ spanL (es ++ [e]) := span_mem a2 e (by simp)
    refine span_ext a1 a2 (fun y m => ?_) fun y m => ?_
    · rcases List.mem_append.mp m with m | m
      · exact s2 ((ih y).mp (span_mem h.asc.1 y m))
      · rw [List.mem_singleton.mp m]
        have := span_sum a2 (s2 ((ih _).mp hs)) m2
        rwa [sumL_comm (sumL_asc hr he) he, sumL_comm hr he, sumL_right he hr] at this
    · rcases List.mem_append.mp m with m | m
      · exact s1 ((ih y).mpr (span_mem h.asc.2 y m))
      · rw [List.mem_singleton.mp m]
        have := span_sum a1 m1 (s1 hs)
        rwa [sumL_right hr he] at this
theorem Red.inv {rows es : List Row} {r : Row} (h : Red (rows ++ [r]) es) : ∃ es' e, es = es' ++ [e] ∧ Red rows es' ∧ Asc r ∧ Asc e ∧ sumL r e ∈ spanL rows ∧ ∀ j, e.getLast? = some j → j ∉ Ch.lastsL es' := by
  generalize hq : rows ++ [r] = q at h
  cases h with
  | nil => exact absurd hq (by simp)
  | snoc h hr he hs hl =>
    obtain ⟨rfl, e2⟩ := List.append_inj' hq rfl
    cases e2
    exact ⟨_, _, rfl, h, hr, he, hs, hl⟩
theorem lasts_ends (es : List Row) : Ch.lastsL es = (es.map List.getLast?).filterMap id := by
  unfold Ch.lastsL
  rw [List.filterMap_map]
  rfl
theorem Red.uniq (rows : List Row) : ∀ es ds : List Row, Red rows es → Red rows ds → es.map List.getLast? = ds.map List.getLast? := by
  induction rows using snoc_ind with
  | nil =>
    intro es ds h k
    have e1 := h.len
    have e2 := k.len
    rw [List.eq_nil_of_length_eq_zero e1, List.eq_nil_of_length_eq_zero e2]
  | snoc rows r ih =>
    intro es ds h k
    obtain ⟨es, e, rfl, h, hr, he, hs, hl⟩ := h.inv
    obtain ⟨ds, d, rfl, k, _, kd, ks, kl⟩ := k.inv
    have q := ih es ds h k
    have ql : Ch.lastsL es = Ch.lastsL ds := by rw [lasts_ends, lasts_ends, q]
    rw [List.map_append, List.map_append, q]
    congr 1
    show [e.getLast?] = [d.getLast?]
    congr 1
    have mx : sumL e d ∈ spanL rows := by
      have := span_sum h.asc.1 hs ks
      have z : sumL (sumL r e) (sumL r d) = sumL e d := by
        rw [sumL_comm hr he, sumL_assoc he hr (sumL_asc hr kd), sumL_right hr kd]
      rwa [z] at this
    have mx := (h.span _).mp mx
    have key := span_last h.asc.2 h.nodup _ mx
    cases ee : e.getLast? with
    | none =>
      have e0 : e = [] := List.getLast?_eq_none_iff.mp ee
      cases ed : d.getLast? with
      | none => rfl
      | some b =>
        exfalso
        rw [e0, sumL_nil kd] at key
        obtain ⟨j, h1, h2⟩ := key (fun z => by rw [z] at ed; cases ed)
        rw [ed] at h1
        cases h1
        exact kl b ed (ql ▸ h2)
    | some a =>
      cases ed : d.getLast? with
      | none =>
        exfalso
        have d0 : d = [] := List.getLast?_eq_none_iff.mp ed
        rw [d0, sumL_nil' he] at key
        obtain ⟨j, h1, h2⟩ := key (fun z => by rw [z] at ee; cases ee)
        rw [ee] at h1
        cases h1
        exact hl a ee h2
      | some b =>
        by_cases ab : a = b
        · rw [ab]
        · exfalso
          have ls := last_sum he kd ee ed ab
          obtain ⟨j, h1, h2⟩ := key (fun z => by rw [z] at ls; cases ls)
          rw [ls] at h1
          cases h1
          split at h2
          · exact kl b ed (ql ▸ h2)
          · exact hl a ee h2
end Bd
/-! Q39: rows by their first parts; cycles among the first simplices. -/
namespace Bd
open PySem L2
def headsL (rs : List Row) : Row := rs.filterMap List.head?
namespace Sh
/-- a cycle of a dimension among the first ones -/
structure IsCyc (os : List Row) (dim : Int) (n : Nat) (c : Row) : Prop where
  asc : Asc c
  pl : ∀ x ∈ c, ∃ i ∈ plc os dim n, x = (i : Int)
  zero : bdy os c = []
theorem IsCyc.nil {os : List Row} {dim : Int} {n : Nat} : IsCyc os dim n [] := ⟨.nil, fun x m => absurd m List.not_mem_nil, rfl⟩
theorem IsCyc.sum {os : List Row} (h : Ordr os) {dim : Int} {n : Nat} {a b : Row} (ha : IsCyc os dim n a) (hb : IsCyc os dim n b) : IsCyc os dim n (sumL a b) := ⟨sumL_asc ha.asc hb.asc, fun x m => by
  rcases mem_sumL.mp m with ⟨m, _⟩ | ⟨m, _⟩
  · exact ha.pl x m
  · exact hb.pl x m, by rw [bdy_sum h ha.asc hb.asc, ha.zero, hb.zero]; rfl⟩
theorem rowAt_rims {os : List Row} {i : Nat} (hi : i < os.length) : rowAt (rimsL os) (i : Int) = rimL os (os.getD i []) := by
  unfold rowAt
  rw [Int.toNat_natCast]
  exact rims_at hi
theorem rimsD_asc {os : List Row} (h : Ordr os) {dim : Int} {n : Nat} (hn : n ≤ os.length) : AscR (rimsD os dim n) := fun r m => (rimsD_in h hn r m).asc
/-- where a cycle ends, the rim is made of those ahead -/
theorem IsCyc.last {os : List Row} (h : Ordr os) {dim : Int} {n : Nat} (hn : n ≤ os.length) {z : Row} (hz : IsCyc os dim n z) {p : Nat} (e : z.getLast? = some (p : Int)) : rimL os (os.getD p []) ∈ spanL (rimsD os dim p) := by
  have mz := List.mem_of_getLast? e
  obtain ⟨q, mq, eq⟩ := hz.pl _ mz
  have eq : p = q := by omega
  subst eq
  have pn := (plc_mem.mp mq).1
  have sp : z = z.dropLast ++ [(p : Int)] := by
    have ne : z ≠ [] := fun w => by rw [w] at e; cases e
    have := List.dropLast_concat_getLast ne
    rw [← this]
    congr 2
    · rw [this]
    · rw [List.getLast?_eq_some_getLast ne] at e
      exact Option.some.inj e
  have az := hz.asc
  rw [sp] at az
  obtain ⟨a1, _, a3⟩ := List.pairwise_append.mp az
  have hp : AscR (rimsD os dim p) := rimsD_asc h (by omega)
  have ra := rims_asc h
  have zero := hz.zero
  unfold bdy sumAt at zero
  rw [sp, List.map_append, sumR_append (rowAt_all ra _) (rowAt_all ra _)] at zero
  have e1 : sumR ([(p : Int)].map (rowAt (rimsL os))) = rimL os (os.getD p []) := by
    show sumL (rowAt (rimsL os) (p : Int)) [] = _
    rw [rowAt_rims (by omega), sumL_nil' (rim_asc h (getD_mem (by omega)))]
  rw [e1] at zero
  have e2 : sumR (z.dropLast.map (rowAt (rimsL os))) = rimL os (os.getD p []) := by
    have b1 : Asc (sumR (z.dropLast.map (rowAt (rimsL os)))) := sumR_asc (rowAt_all ra _)
    have b2 := rim_asc h (getD_mem (os := os) (show p < os.length by omega))
    have := sumL_right b1 b2
    rw [zero, sumL_nil' b1] at this
    exact this
  rw [← e2]
  have go : ∀ l : Row, (∀ x ∈ l, x ∈ z ∧ x < (p : Int)) → sumR (l.map (rowAt (rimsL os))) ∈ spanL (rimsD os dim p) := by
    intro l
    induction l with
    | nil => exact fun _ => nil_span _
    | cons x l ih =>
      intro hx
      obtain ⟨mx, lx⟩ := hx x List.mem_cons_self
      obtain ⟨i, mi, rfl⟩ := hz.pl x mx
      have mi2 := plc_mem.mp mi
      refine span_sum hp (span_mem hp _ ?_) (ih fun y my => hx y (List.mem_cons_of_mem _ my))
      rw [rowAt_rims (by omega)]
      exact List.mem_map.mpr ⟨i, plc_mem.mpr ⟨by omega, mi2.2⟩, rfl⟩
  exact go _ fun x m => ⟨by rw [sp]; exact List.mem_append_left _ m, a3 x m _ List.mem_cons_self⟩
/-- chains that make all cycles -/
structure CycB (os : List Row) (dim : Int) (n : Nat) (Z : List Row) : Prop where
  cy : ∀ c ∈ Z, IsCyc os dim n c
  all : ∀ z, IsCyc os dim n z → z ∈ spanL Z
theorem CycB.asc {os : List Row} {dim : Int} {n : Nat} {Z : List Row} (h : CycB os dim n Z) : AscR Z := fun r m => (h.cy r m).asc
theorem CycB.span {os : List Row} {dim : Int} {n : Nat} {Y Z : List Row} (hy : CycB os dim n Y) (hz : CycB os dim n Z) : ∀ x, x ∈ spanL Y ↔ x ∈ spanL Z := span_ext hy.asc hz.asc (fun r m => hz.all r (hy.cy r m)) fun r m => hy.all r (hz.cy r m)
end Sh
end Bd
/-! Q40: the program's cycles, holes that last. -/
namespace Bd
open PySem L2
namespace Sh
end Sh
end Bd
/-! Q41: holes that last, by both sides; what they are at most. -/
namespace Bd
open PySem L2
namespace Sh
theorem facesL_len1 {s f : Row} (h : Smp s) (m : f ∈ facesL s) : f.length + 1 = s.length := by
  rcases h.cases with ⟨a, rfl⟩ | ⟨a, b, rfl, _⟩ | ⟨a, b, c, rfl, _, _⟩
  · cases m
  · rw [faces2] at m
    rcases List.mem_cons.mp m with rfl | m
    · rfl
    · rw [List.mem_singleton.mp m]; rfl
  · rw [faces3] at m
    rcases List.mem_cons.mp m with rfl | m
    · rfl
    · rcases List.mem_cons.mp m with rfl | m
      · rfl
      · rw [List.mem_singleton.mp m]; rfl
end Sh
end Bd
/-! Q42: the laws' cycles. -/
namespace Bd
open PySem L2
namespace Sh
def prD (e : Row × Row) : D := .tuple [tupI e.1, tupI e.2]
def hdB (h : Int) (e : Row × Row) : Bool := decide (e.1.head? = some h)
def DkC (ks : List (Int × D)) (kept : List (Row × Row)) : Prop := ks.length ≤ kept.length ∧ ∀ h, kAt ks h = (kept.find? (hdB h)).map prD
theorem DkC.put {ks : List (Int × D)} {kept : List (Row × Row)} {e : Row × Row} {h : Int} (d : DkC ks kept) (eh : e.1.head? = some h) (no : kept.find? (hdB h) = none) : DkC (kPut ks h (prD e)) (kept ++ [e]) := by
  refine ⟨?_, fun m => ?_⟩
  · have := kPut_le ks h (prD e)
    have := d.1
    rw [List.length_append, List.length_singleton]
    omega
  · rw [kAt_put, List.find?_append]
    by_cases c : h = m
    · subst c
      rw [if_pos rfl, no]
      show _ = (([e].find? (hdB h)).map prD)
      rw [List.find?_cons]
      have : hdB h e = true := decide_eq_true eh
      rw [this]
      rfl
    · rw [if_neg c, d.2 m]
      have : hdB m e = false := decide_eq_false fun z => c (by
        rw [eh] at z
        exact Option.some.inj z)
      have e0 : [e].find? (hdB m) = none := by
        rw [List.find?_cons, this]
        rfl
      rw [e0, Option.or_none]
structure Kst (os : List Row) (dim : Int) (done : List Nat) (kept : List (Row × Row)) (found : List Row) : Prop where
  k1 : ∀ e ∈ kept, Asc e.2 ∧ (∀ x ∈ e.2, ∃ i ∈ done, x = (i : Int)) ∧ bdy os e.2 = e.1 ∧ e.1 ≠ []
  hd : (headsL (kept.map (·.1))).Nodup
  sp : ∀ x, x ∈ spanL (kept.map (·.1)) ↔ x ∈ spanL (done.map fun i => rimL os (os.getD i []))
  fo : ∀ c ∈ found, Asc c ∧ (∀ x ∈ c, ∃ i ∈ done, x = (i : Int)) ∧ bdy os c = []
  al : ∀ p ∈ done, (∃ c ∈ found, c.getLast? = some (p : Int)) ∨ rimL os (os.getD p []) ∉ spanL (rimsD os dim p)
theorem last_max {l : Row} {m : Int} (hl : Asc l) (mm : m ∈ l) (h : ∀ z ∈ l, z ≤ m) : l.getLast? = some m := by
  cases e : l.getLast? with
  | none =>
    rw [List.getLast?_eq_none_iff.mp e] at mm
    cases mm
  | some x =>
    have h1 := last_le hl e m mm
    have h2 := h x (List.mem_of_getLast? e)
    have : x = m := by omega
    rw [this]
/-- within the inner loop -/
structure Kin1 (os : List Row) (kept : List (Row × Row)) (done : List Nat) (p : Nat) (row chain : Row) : Prop where
  asc : Asc chain
  la : chain.getLast? = some (p : Int)
  el : ∀ x ∈ chain, x = (p : Int) ∨ ∃ i ∈ done, x = (i : Int)
  bd : bdy os chain = row
  sp : sumL (rimL os (os.getD p [])) row ∈ spanL (kept.map (·.1))
theorem Kst.asc {os : List Row} (h : Ordr os) {dim : Int} {done : List Nat} {kept : List (Row × Row)} {found : List Row} (k : Kst os dim done kept found) : AscR (kept.map (·.1)) := fun r m => by
  obtain ⟨e, me, rfl⟩ := List.mem_map.mp m
  rw [← (k.k1 e me).2.2.1]
  exact (bdy_in h _).asc
theorem Kin1.step {os : List Row} (h : Ordr os) {dim : Int} {done : List Nat} {kept : List (Row × Row)} {found : List Row} (k : Kst os dim done kept found) {p : Nat} (hd : ∀ i ∈ done, i < p) (hp : p < os.length) {row chain : Row} (q : Kin1 os kept done p row chain) {e : Row × Row} (me : e ∈ kept) : Kin1 os kept done p (sumL row e.1) (sumL chain e.2) := by
  obtain ⟨a1, a2, a3, _⟩ := k.k1 e me
  have rr : Asc row := by
    rw [← q.bd]
    exact (bdy_in h _).asc
  have re : Asc e.1 := by
    rw [← a3]
    exact (bdy_in h _).asc
  have rp := rim_asc h (getD_mem hp)
  refine ⟨sumL_asc q.asc a1, ?_, fun x m => ?_, by rw [bdy_sum h q.asc a1, q.bd, a3], ?_⟩
  · refine last_max (sumL_asc q.asc a1) (mem_sumL.mpr (.inl ⟨List.mem_of_getLast? q.la, fun m => ?_⟩)) fun z m => ?_
    · obtain ⟨i, mi, ei⟩ := a2 _ m
      have := hd i mi
      omega
    · rcases mem_sumL.mp m with ⟨m, _⟩ | ⟨m, _⟩
      · exact last_le q.asc q.la z m
      · obtain ⟨i, mi, ei⟩ := a2 _ m
        have := hd i mi
        omega
  · rcases mem_sumL.mp m with ⟨m, _⟩ | ⟨m, _⟩
    · exact q.el x m
    · exact .inr (a2 x m)
  · rw [← sumL_assoc rp rr re]
    exact span_sum (k.asc h) q.sp (span_mem (k.asc h) _ (List.mem_map.mpr ⟨e, me, rfl⟩))
end Sh
end Bd
/-! Q43: the laws' cycles, holes that last. -/
namespace Bd
open PySem L2
namespace Sh
end Sh
end Bd
/-! Q44: orders drawn of a shape; sums drawn of rows. -/
namespace Bd
open PySem L2
namespace Sh
end Sh
end Bd
/-! Q45: what fills a chain of one dimension; whether two cycles are of one hole. -/
namespace Bd
open PySem L2
namespace Sh
end Sh
end Bd
/-! Q15: the pairs that residues tell, by the program. -/
namespace Bd
open PySem L2
namespace Pr
/-- where an end stands -/
def lastO (ls : List (Option Int)) (j : Int) : Option Nat := ls.findIdx? fun o => decide (o = some j)
def natD : Option Nat → D
  | some p => .int (p : Nat)
  | none => .none
/-- the dict of the ends -/
def DkOf (ls : List (Option Int)) (ks : List (Int × D)) : Prop := ∀ j, kAt ks j = (lastO ls j).map fun p => .int (p : Nat)
theorem lastO_snoc (ls : List (Option Int)) (o : Option Int) (j : Int) : lastO (ls ++ [o]) j = (lastO ls j).or (if o = some j then some ls.length else none) := by
  unfold lastO
  rw [List.findIdx?_append, List.findIdx?_singleton]
  congr 1
  by_cases c : o = some j
  · rw [decide_eq_true c, if_pos c]
    simp
  · rw [decide_eq_false c, if_neg c]
    simp
theorem lastO_none {ls : List (Option Int)} {j : Int} : lastO ls j = none ↔ some j ∉ ls := by
  unfold lastO
  rw [List.findIdx?_eq_none_iff]
  constructor
  · intro h m
    have := h _ m
    simp at this
  · intro h o m
    exact decide_eq_false fun e => h (e ▸ m)
theorem DkOf.skip {ls : List (Option Int)} {ks : List (Int × D)} (h : DkOf ls ks) : DkOf (ls ++ [none]) ks := fun j => by
  rw [h j, lastO_snoc]
  simp
theorem DkOf.put {ls : List (Option Int)} {ks : List (Int × D)} {k : Int} (h : DkOf ls ks) (hn : some k ∉ ls) : DkOf (ls ++ [some k]) (kPut ks k (.int (ls.length : Nat))) := fun j => by
  rw [kAt_put, lastO_snoc]
  by_cases c : k = j
  · subst c
    rw [if_pos rfl, if_pos rfl, lastO_none.mpr hn]
    rfl
  · rw [if_neg c, if_neg fun e => c (Option.some.inj e), Option.or_none]
    exact h j
theorem DkOf.has {ls : List (Option Int)} {ks : List (Int × D)} (h : DkOf ls ks) (j : Int) : (kAt ks j).isSome = decide (some j ∈ ls) := by
  rw [h j, Option.isSome_map]
  cases e : lastO ls j with
  | none => exact (decide_eq_false (lastO_none.mp e)).symm
  | some p =>
    refine (decide_eq_true (Classical.byContradiction fun n => ?_)).symm
    rw [lastO_none.mpr n] at e
    cases e
/-! ### pairs_by -/
end Pr
end Bd
/-! Q16: the pairs of an order, by the program and by the laws. -/
namespace Bd
open PySem L2
/-- a row as a list -/
abbrev lstI (r : Row) : D := .list (r.map PyData.int)
namespace Pr
end Pr
end Bd
/-! Q17: pairs may be shown; len of a dict. -/
namespace Bd
open PySem L2
namespace Pr
end Pr
end Bd
/-! Q18: right chains tell the same pairs. -/
namespace Bd
open PySem L2
namespace Ch
end Ch
namespace Pr
end Pr
end Bd
/-! Q19: rows cut below; ranks by ends. -/
namespace Bd
open PySem L2
/-- what is at least low -/
def fl (low : Int) (r : Row) : Row := r.filter fun x => decide (low ≤ x)
theorem fl_asc {low : Int} {r : Row} (h : Asc r) : Asc (fl low r) := List.Pairwise.filter _ h
theorem mem_fl {low x : Int} {r : Row} : x ∈ fl low r ↔ x ∈ r ∧ low ≤ x := by
  unfold fl
  rw [List.mem_filter, decide_eq_true_eq]
theorem fl_sum {low : Int} {a b : Row} (ha : Asc a) (hb : Asc b) : fl low (sumL a b) = sumL (fl low a) (fl low b) := asc_ext (fl_asc (sumL_asc ha hb)) (sumL_asc (fl_asc ha) (fl_asc hb)) fun x => by
  rw [mem_fl, mem_sumL, mem_sumL, mem_fl, mem_fl]
  constructor
  · rintro ⟨⟨m, n⟩ | ⟨m, n⟩, l⟩
    · exact .inl ⟨⟨m, l⟩, fun z => n z.1⟩
    · exact .inr ⟨⟨m, l⟩, fun z => n z.1⟩
  · rintro (⟨⟨m, l⟩, n⟩ | ⟨⟨m, l⟩, n⟩)
    · exact ⟨.inl ⟨m, fun z => n ⟨z, l⟩⟩, l⟩
    · exact ⟨.inr ⟨m, fun z => n ⟨z, l⟩⟩, l⟩
theorem fl_ascR {low : Int} {rs : List Row} (h : AscR rs) : AscR (rs.map (fl low)) := fun y m => by
  obtain ⟨r, mr, rfl⟩ := List.mem_map.mp m
  exact fl_asc (h r mr)
theorem fl_span {low : Int} {rs : List Row} (h : AscR rs) : ∀ x ∈ spanL rs, fl low x ∈ spanL (rs.map (fl low)) :=
  span_sub (S := fun x => fl low x ∈ spanL (rs.map (fl low))) h (nil_span _) fun r mr x hx hS => by
    show fl low (sumL r x) ∈ _
    rw [fl_sum (h r mr) hx]
    exact span_sum (fl_ascR h) (span_mem (fl_ascR h) _ (List.mem_map.mpr ⟨r, mr, rfl⟩)) hS
theorem last_fl {low : Int} {r : Row} (h : Asc r) : (fl low r).getLast? = r.getLast?.filter fun x => decide (low ≤ x) := by
  cases q : r.getLast? with
  | none =>
    rw [List.getLast?_eq_none_iff.mp q]
    rfl
  | some k =>
    rw [Option.filter_some]
    by_cases c : low ≤ k
    · rw [decide_eq_true c]
      simp only [↓reduceIte]
      exact asc_last (fl_asc h) (mem_fl.mpr ⟨List.mem_of_getLast? q, c⟩) fun x m => last_le h q x (mem_fl.mp m).1
    · rw [decide_eq_false c]
      simp only [Bool.false_eq_true, ↓reduceIte]
      refine List.getLast?_eq_none_iff.mpr ?_
      refine List.eq_nil_iff_forall_not_mem.mpr fun x m => ?_
      have := last_le h q x (mem_fl.mp m).1
      have := (mem_fl.mp m).2
      omega
theorem Red.cut {low : Int} {rows es : List Row} (h : Red rows es) : Red (rows.map (fl low)) (es.map (fl low)) := by
  induction h with
  | nil => exact .nil
  | snoc h hr he hs hl ih =>
    rw [List.map_append, List.map_append]
    refine .snoc ih (fl_asc hr) (fl_asc he) ?_ fun j ej mj => ?_
    · rw [← fl_sum hr he]
      exact fl_span h.asc.1 _ hs
    · rw [last_fl he, Option.filter_eq_some_iff] at ej
      obtain ⟨f, mf, ef⟩ := List.mem_filterMap.mp mj
      obtain ⟨g, mg, rfl⟩ := List.mem_map.mp mf
      rw [last_fl (h.asc.2 g mg), Option.filter_eq_some_iff] at ef
      exact hl j ej.1 (List.mem_filterMap.mpr ⟨g, mg, ef.1⟩)
namespace Pr
/-- how many ends -/
def cntO (ls : List (Option Int)) : Nat := ls.countP Option.isSome
def atE (es : List Row) (j : Int) : Option Row := es.find? fun e => decide (e.getLast? = some j)
def DkR (es : List Row) (ks : List (Int × D)) : Prop := (∀ j, kAt ks j = (atE es j).map lstI) ∧ ks.length = cntO (es.map List.getLast?)
theorem atE_none {es : List Row} {j : Int} : atE es j = none ↔ some j ∉ es.map List.getLast? := by
  unfold atE
  rw [List.find?_eq_none]
  constructor
  · intro h m
    obtain ⟨e, me, q⟩ := List.mem_map.mp m
    exact h e me (decide_eq_true q)
  · intro h e m q
    exact h (List.mem_map.mpr ⟨e, m, of_decide_eq_true q⟩)
theorem cntO_snoc (ls : List (Option Int)) (o : Option Int) : cntO (ls ++ [o]) = cntO ls + (if o.isSome then 1 else 0) := by
  unfold cntO
  rw [List.countP_append, List.countP_singleton]
theorem DkR.skip {es : List Row} {ks : List (Int × D)} (h : DkR es ks) : DkR (es ++ [[]]) ks := by
  refine ⟨fun j => ?_, ?_⟩
  · rw [h.1 j]
    unfold atE
    rw [List.find?_append]
    cases List.find? (fun e => decide (e.getLast? = some j)) es <;> rfl
  · rw [h.2, List.map_append]
    show _ = cntO (_ ++ [none])
    rw [cntO_snoc]
    rfl
theorem kPut_new {ks : List (Int × D)} {k : Int} {v : D} (h : kAt ks k = none) : (kPut ks k v).length = ks.length + 1 := by
  have : (ks.any fun p => decide (p.1 = k)) = false := by
    rw [List.any_eq_false]
    intro p m q
    unfold kAt at h
    rw [Option.map_eq_none_iff, List.find?_eq_none] at h
    exact h p m q
  unfold kPut
  rw [this]
  simp
theorem DkR.put {es : List Row} {ks : List (Int × D)} {e : Row} {k : Int} (h : DkR es ks) (hk : e.getLast? = some k) (hn : some k ∉ es.map List.getLast?) : DkR (es ++ [e]) (kPut ks k (lstI e)) := by
  refine ⟨fun j => ?_, ?_⟩
  · rw [kAt_put, h.1 j]
    unfold atE
    rw [List.find?_append, List.find?_singleton]
    by_cases c : k = j
    · subst c
      have z := atE_none.mpr hn
      unfold atE at z
      rw [if_pos rfl, z, decide_eq_true hk]
      rfl
    · have : ¬ e.getLast? = some j := fun z => c (Option.some.inj (hk.symm.trans z))
      rw [if_neg c, decide_eq_false this]
      cases List.find? (fun e => decide (e.getLast? = some j)) es <;> rfl
  · rw [kPut_new (by rw [h.1 k, atE_none.mpr hn]; rfl), h.2, List.map_append]
    show _ = cntO (_ ++ [e.getLast?])
    rw [cntO_snoc, hk]
    rfl
end Pr
end Bd
/-! Q20: what fills a row, by the laws. -/
namespace Bd
open PySem L2
theorem Red.at {rows es : List Row} (h : Red rows es) : ∀ (m : Nat) (r e : Row), rows[m]? = some r → es[m]? = some e → Red (rows.take m) (es.take m) ∧ sumL r e ∈ spanL (rows.take m) ∧ ∀ j, e.getLast? = some j → j ∉ Ch.lastsL (es.take m) := by
  induction h with
  | nil => exact fun m r e h => by cases h
  | snoc h hr he hs hl ih =>
    rename_i rows es r e
    intro m r' e' h1 h2
    have hlen := h.len
    have hm := (List.getElem?_eq_some_iff.mp h1).1
    rw [List.length_append, List.length_singleton] at hm
    by_cases c : m < rows.length
    · rw [List.getElem?_append_left c] at h1
      rw [List.getElem?_append_left (by omega)] at h2
      rw [List.take_append_of_le_length (by omega), List.take_append_of_le_length (by omega)]
      exact ih m r' e' h1 h2
    · have em : m = rows.length := by omega
      subst em
      rw [List.getElem?_concat_length] at h1
      rw [← hlen, List.getElem?_concat_length] at h2
      cases h1
      cases h2
      rw [List.take_left, ← hlen, List.take_left]
      exact ⟨h, hs, hl⟩
/-- cleared of the rest, a row is nothing where it is a sum -/
theorem Red.zero {rows es : List Row} (h : Red rows es) {c e : Row} (hc : Asc c) (he : Asc e) (hs : sumL c e ∈ spanL rows) (hl : ∀ j, e.getLast? = some j → j ∉ Ch.lastsL es) : decide (e = []) = decide (c ∈ spanL rows) := by
  by_cases z : e = []
  · rw [z, sumL_nil' hc] at hs
    rw [decide_eq_true z, decide_eq_true hs]
  · rw [decide_eq_false z]
    refine (decide_eq_false fun m => z ?_).symm
    have me : e ∈ spanL rows := by
      have := span_sum h.asc.1 m hs
      rwa [sumL_right hc he] at this
    refine Classical.byContradiction fun ne => ?_
    obtain ⟨j, h1, h2⟩ := span_last h.asc.2 h.nodup e ((h.span e).mp me) ne
    exact hl j h1 h2
namespace Pr
end Pr
end Bd
/-! Q46: the pairs of an order as the laws of bars reckon them. -/
namespace Bd
open PySem L2
namespace Sh
open Pr
def DkT (es : List Row) (ks : List (Int × D)) : Prop := (∀ j, kAt ks j = (atE es j).map tupI) ∧ ks.length ≤ es.length
theorem DkT.skip {es : List Row} {ks : List (Int × D)} (h : DkT es ks) : DkT (es ++ [[]]) ks := by
  refine ⟨fun j => ?_, by have := h.2; rw [List.length_append]; omega⟩
  rw [h.1 j]
  unfold atE
  rw [List.find?_append]
  cases List.find? (fun e => decide (e.getLast? = some j)) es <;> rfl
theorem DkT.put {es : List Row} {ks : List (Int × D)} {e : Row} {k : Int} (h : DkT es ks) (hk : e.getLast? = some k) (hn : some k ∉ es.map List.getLast?) : DkT (es ++ [e]) (kPut ks k (tupI e)) := by
  refine ⟨fun j => ?_, ?_⟩
  · rw [kAt_put, h.1 j]
    unfold atE
    rw [List.find?_append, List.find?_singleton]
    by_cases c : k = j
    · subst c
      have z := atE_none.mpr hn
      unfold atE at z
      rw [if_pos rfl, z, decide_eq_true hk]
      rfl
    · have : ¬ e.getLast? = some j := fun z => c (Option.some.inj (hk.symm.trans z))
      rw [if_neg c, decide_eq_false this]
      cases List.find? (fun e => decide (e.getLast? = some j)) es <;> rfl
  · have := h.2
    have := kPut_le ks k (tupI e)
    rw [List.length_append, List.length_singleton]
    omega
def births (ls : List (Option Int)) : List Nat := (List.range ls.length).filter fun p => (ls.getD p none).isNone
end Sh
end Bd
/-! Q47: bars of items by pairs, sorted, by both sides. -/
namespace Bd
open PySem L2
namespace Sh
open Pr
def G__bar_of : Nv → Rs :=
    (seqS (asgS (gT 2 (gsC (gN 3) (gsC (gN 4) gs0))) (e2 ixV (gv 0) (gv 1)))
    (seqS (retS (tupV (aC (callV Cb.F_dimension_of (aC (gv 3) a0)) (aC (gv 4) (aC (ifV (tb (e2 isV (gv 2) (k0 .none))) (k0 .none) (e2 ixV (e2 ixV (gv 0) (gv 2)) (k0 (.int 1)))) a0)))))
    .nx))
def F__bar_of : List D → R D := runD 5 (.ok .none) G__bar_of
/-- a bar: its dimension, birth, death -/
abbrev Bq := Int × Int × Option Int
def bqD (x : Bq) : D := .tuple [.int x.1, .int x.2.1, optD x.2.2]
/-! the laws' -/
end Sh
end Bd
/-! Q48: bars of items by pairs. -/
namespace Bd
open PySem L2
namespace Sh
open Pr
def barOf (it : List Ih) (p : Nat × Option Nat) : Bq := (((it.getD p.1 ([], 0)).1.length : Int) - 1, (it.getD p.1 ([], 0)).2, p.2.map fun q => (it.getD q ([], 0)).2)
def PrOk (n : Nat) (p : Nat × Option Nat) : Prop := p.1 < n ∧ ∀ q, p.2 = some q → q < n
theorem atD_it {it : List Ih} {i : Nat} (h : i < it.length) : atD (it.map itD) (i : Int) = some (itD (it.getD i ([], 0))) := atD_nat (by omega) (by
  rw [Int.toNat_natCast, List.getElem?_map, List.getD_eq_getElem?_getD, List.getElem?_eq_getElem h]
  rfl)
theorem it_mem {it : List Ih} {i : Nat} (h : i < it.length) : it.getD i ([], 0) ∈ it := by
  rw [List.getD_eq_getElem?_getD, List.getElem?_eq_getElem h]
  exact List.getElem_mem h
theorem bar_of_ok {it : List Ih} (hs : ∀ p ∈ it, Smp p.1) {p : Nat × Option Nat} (hp : PrOk it.length p) : F__bar_of [.list (it.map itD), .int (p.1 : Nat), natD p.2] = .ok (bqD (barOf it p)) := by
  obtain ⟨a, o⟩ := p
  obtain ⟨h1, h2⟩ := hp
  dsimp only at h1 h2
  refine Wn.eq (wn_runD ?_)
  show Sn (G__bar_of [.d (.list (it.map itD)), .d (.int (a : Nat)), .d (natD o), .no, .no]) _ _ _ _
  unfold G__bar_of
  simp only [wn_ok, wn_some, wn_only, wn_noex, wn_e2, wn_e1, wn_eN, wn_a0, wn_aC, wn_call, wn_tb, wn_tup, wn_lst, wn_andB, wn_orB, wn_notB, wn_andV, wn_orV, wn_notV, wn_ifV, wn_iA, wn_iR1, wn_iR2, wn_iZ, wn_iEn, wn_iRR, wn_sl, wn_p0, wn_p1, wn_up, wn_upB, wn_upI, wn_x2, wn_x0, wn_xC, wn_xN, wn_xb, wn_xAnd, wn_xOr, wn_xNot, wn_xIf, wn_xCall, wn_xR1, wn_xR2, sn_nx, sn_rt, sn_bk, sn_ct, sn_seq, sn_set, sn_ret, sn_expr, sn_if, sn_for, sn_xSet, sn_xRet, sn_xExpr, sn_xIf, sn_xFor, sn_asg, sn_xAsg, sn_own, sn_xOwn, gv_zero, gv_succ, go_own, go_dat, go_succ, k0_def, gN_def, tru_bool, tru_none, tru_int, tru_list, asSeq_list, asSeq_tup, addV_int, subV_int, ltA_i, leA_i, gtA_i, geA_i, negV_int, intV_int, lenV_list, lenV_tup, ixV_list, ixV_tup, asInt_int, slV_list, slV_tup, slL_list, revV_tup, revV_list, tupleV_list, listV_list, listV_tup, eqV_str, neV_str, eqV_int, List.set_cons_zero, List.set_cons_succ, List.getElem?_cons_zero, List.getElem?_cons_succ, List.length_cons, List.length_nil, ↓reduceIte, Bool.false_eq_true, Bool.not_true, Bool.not_false, wn_ite, gT2, gT3, neV_tup, eqV_tup, in_tup, notin_tup', lineN_eq, Nat.reduceAdd, Nat.reduceLeDiff, Nat.zero_le, true_and, and_true, List.map_nil, List.map_cons, exists_eq_left', Option.some.injEq, PyData.list.injEq, exists_eq_left, PyData.int.injEq, R.ok.injEq, Sl.own.injEq, atD_it h1]
  refine ⟨[.d (.list (it.map itD)), .d (.int (a : Nat)), .d (natD o), .d (tupI (it.getD a ([], 0)).1), .d (.int (it.getD a ([], 0)).2)], rfl, ?_⟩
  cases o with
  | none =>
    simp only [wn_ok, wn_some, wn_only, wn_noex, wn_e2, wn_e1, wn_eN, wn_a0, wn_aC, wn_call, wn_tb, wn_tup, wn_lst, wn_andB, wn_orB, wn_notB, wn_andV, wn_orV, wn_notV, wn_ifV, wn_iA, wn_iR1, wn_iR2, wn_iZ, wn_iEn, wn_iRR, wn_sl, wn_p0, wn_p1, wn_up, wn_upB, wn_upI, wn_x2, wn_x0, wn_xC, wn_xN, wn_xb, wn_xAnd, wn_xOr, wn_xNot, wn_xIf, wn_xCall, wn_xR1, wn_xR2, sn_nx, sn_rt, sn_bk, sn_ct, sn_seq, sn_set, sn_ret, sn_expr, sn_if, sn_for, sn_xSet, sn_xRet, sn_xExpr, sn_xIf, sn_xFor, sn_asg, sn_xAsg, sn_own, sn_xOwn, gv_zero, gv_succ, go_own, go_dat, go_succ, k0_def, gN_def, tru_bool, tru_none, tru_int, tru_list, asSeq_list, asSeq_tup, addV_int, subV_int, ltA_i, leA_i, gtA_i, geA_i, negV_int, intV_int, lenV_list, lenV_tup, ixV_list, ixV_tup, asInt_int, slV_list, slV_tup, slL_list, revV_tup, revV_list, tupleV_list, listV_list, listV_tup, eqV_str, neV_str, eqV_int, List.set_cons_zero, List.set_cons_succ, List.getElem?_cons_zero, List.getElem?_cons_succ, List.length_cons, List.length_nil, ↓reduceIte, Bool.false_eq_true, Bool.not_true, Bool.not_false, wn_ite, gT2, gT3, neV_tup, eqV_tup, in_tup, notin_tup', lineN_eq, Nat.reduceAdd, Nat.reduceLeDiff, Nat.zero_le, true_and, and_true, List.map_nil, List.map_cons, exists_eq_left', Option.some.injEq, PyData.list.injEq, exists_eq_left, PyData.int.injEq, R.ok.injEq, Sl.own.injEq, natD, Cb.dim_ok (hs _ (it_mem h1)), show isV PyData.none PyData.none = some (.bool true) from rfl]
    rfl
  | some q =>
    simp only [wn_ok, wn_some, wn_only, wn_noex, wn_e2, wn_e1, wn_eN, wn_a0, wn_aC, wn_call, wn_tb, wn_tup, wn_lst, wn_andB, wn_orB, wn_notB, wn_andV, wn_orV, wn_notV, wn_ifV, wn_iA, wn_iR1, wn_iR2, wn_iZ, wn_iEn, wn_iRR, wn_sl, wn_p0, wn_p1, wn_up, wn_upB, wn_upI, wn_x2, wn_x0, wn_xC, wn_xN, wn_xb, wn_xAnd, wn_xOr, wn_xNot, wn_xIf, wn_xCall, wn_xR1, wn_xR2, sn_nx, sn_rt, sn_bk, sn_ct, sn_seq, sn_set, sn_ret, sn_expr, sn_if, sn_for, sn_xSet, sn_xRet, sn_xExpr, sn_xIf, sn_xFor, sn_asg, sn_xAsg, sn_own, sn_xOwn, gv_zero, gv_succ, go_own, go_dat, go_succ, k0_def, gN_def, tru_bool, tru_none, tru_int, tru_list, asSeq_list, asSeq_tup, addV_int, subV_int, ltA_i, leA_i, gtA_i, geA_i, negV_int, intV_int, lenV_list, lenV_tup, ixV_list, ixV_tup, asInt_int, slV_list, slV_tup, slL_list, revV_tup, revV_list, tupleV_list, listV_list, listV_tup, eqV_str, neV_str, eqV_int, List.set_cons_zero, List.set_cons_succ, List.getElem?_cons_zero, List.getElem?_cons_succ, List.length_cons, List.length_nil, ↓reduceIte, Bool.false_eq_true, Bool.not_true, Bool.not_false, wn_ite, gT2, gT3, neV_tup, eqV_tup, in_tup, notin_tup', lineN_eq, Nat.reduceAdd, Nat.reduceLeDiff, Nat.zero_le, true_and, and_true, List.map_nil, List.map_cons, exists_eq_left', Option.some.injEq, PyData.list.injEq, exists_eq_left, PyData.int.injEq, R.ok.injEq, Sl.own.injEq, natD, Cb.dim_ok (hs _ (it_mem h1)), show isV (PyData.int (q : Nat)) PyData.none = some (.bool false) from rfl, atD_it (h2 q rfl), show ixV (itD (it.getD q ([], 0))) (.int 1) = some (.int (it.getD q ([], 0)).2) from rfl]
    rfl
end Sh
end Bd
/-! Q49: wide numbers shown; shapes whose heights are stretched or laid flat. -/
namespace Bd
open PySem L2
/-- small data of numbers of up to 22 digits -/
structure FineW (k n : Nat) (d : D) : Prop where
  sh : d.showable = true
  nd : d.hasDict = false
  dp : d.depth ≤ k
  ls : d.leavesShort 24 = true
  wt : d.weight ≤ n
theorem FineW.mono {k n k' n' : Nat} {d : D} (h : FineW k n d) (hk : k ≤ k') (hn : n ≤ n') : FineW k' n' d := ⟨h.sh, h.nd, Nat.le_trans h.dp hk, h.ls, Nat.le_trans h.wt hn⟩
theorem FineW.repr {k n : Nat} {d : D} (h : FineW k n d) (hk : k ≤ 64) (hn : n ≤ 600000) : reprV [d] = some (.str d.shown) := by
  show (if d.showable = true ∧ d.hasDict = false ∧ d.depth ≤ 64 ∧ d.shown.length ≤ lineN then some (PyData.str d.shown) else none) = _
  have w := PyData.shown_le 24 (by decide) d h.ls
  have := h.wt
  have := h.dp
  have l0 := lineN_eq
  rw [if_pos ⟨h.sh, h.nd, by omega, by omega⟩]
namespace Sh
open Pr
/-- a shape, whatever its heights -/
structure Shq (it : List Ih) : Prop where
  nd : (it.map (·.1)).Nodup
  smp : ∀ p ∈ it, Smp p.1
  cl : ∀ p ∈ it, ∀ f ∈ facesL p.1, ∃ q ∈ it, q.1 = f ∧ q.2 ≤ p.2
theorem Shp.q {it : List Ih} (h : Shp it) : Shq it := ⟨h.nd, h.smp, h.cl⟩
def strP (u : Int) (p : Ih) : Ih := (p.1, u * p.2)
theorem Shq.str {it : List Ih} (h : Shq it) {u : Int} (hu : 0 ≤ u) : Shq (it.map (strP u)) := by
  refine ⟨?_, fun p m => ?_, fun p m f mf => ?_⟩
  · rw [List.map_map]
    exact h.nd
  · obtain ⟨p0, m0, rfl⟩ := List.mem_map.mp m
    exact h.smp p0 m0
  · obtain ⟨p0, m0, rfl⟩ := List.mem_map.mp m
    obtain ⟨q, mq, e, l⟩ := h.cl p0 m0 f mf
    exact ⟨_, List.mem_map.mpr ⟨q, mq, rfl⟩, e, Int.mul_le_mul_of_nonneg_left l hu⟩
def flatP (low : Int) (p : Ih) : Ih := (p.1, if p.1.length = 1 then low else p.2)
theorem Shq.flat {it : List Ih} (h : Shq it) {low : Int} (hl : ∀ p ∈ it, low ≤ p.2) : Shq (it.map (flatP low)) := by
  refine ⟨?_, fun p m => ?_, fun p m f mf => ?_⟩
  · rw [List.map_map]
    exact h.nd
  · obtain ⟨p0, m0, rfl⟩ := List.mem_map.mp m
    exact h.smp p0 m0
  · obtain ⟨p0, m0, rfl⟩ := List.mem_map.mp m
    obtain ⟨q, mq, e, l⟩ := h.cl p0 m0 f mf
    refine ⟨_, List.mem_map.mpr ⟨q, mq, rfl⟩, e, ?_⟩
    have l1 := facesL_len1 (h.smp p0 m0) mf
    have lf : 0 < f.length := by
      have := h.smp q mq
      rw [e] at this
      rcases this.cases with ⟨a, rfl⟩ | ⟨a, b, rfl, _⟩ | ⟨a, b, c, rfl, _, _⟩ <;> simp
    show (if q.1.length = 1 then low else q.2) ≤ (if p0.1.length = 1 then low else p0.2)
    rw [if_neg (show ¬ p0.1.length = 1 by omega)]
    split
    · exact hl p0 m0
    · exact l
/-! what is shown -/
/-! pairs -/
end Sh
end Bd
/-! R4: shapes sorted one by one; shown; equal. -/
namespace Bd
open PySem L2
namespace Sc
open Sh
/-! equal -/
/-! shown -/
end Sc
end Bd
/-! R5: simplices sorted. -/
namespace Bd
open PySem L2
namespace Sc
open Sh
end Sc
end Bd
/-! R6: heights, shapes at heights, counts, euler. -/
namespace Bd
open PySem L2
namespace Sc
open Sh
def cnt (it : List Ih) (k : Nat) : Nat := (it.filter fun p => decide (p.1.length = k)).length
end Sc
end Bd
/-! R7: whether data are a shape, and what is told of those that are none. -/
namespace Bd
open PySem L2
section
variable {N B C : Nv → Prop} {T : D → Nv → Prop} {X : Str → Str → D → Prop} {η : Nv}
theorem sx_expr {F : Nv → R D} (h : (∃ d, F η = .ok d ∧ N η) ∨ ∃ c w p, F η = .ex c w p ∧ X c w p) : Sx (exprS F η) N T B C X := by
  unfold exprS
  refine sx_toS (h.imp (fun ⟨d, e, h⟩ => ⟨d, e, sx_nx.mpr h⟩) id)
end
theorem wn_chain {η : Nv} {QD : D → Prop} {f g : D → D → Option D} {Fa Fb Fc : Nv → R D} : Wn (chainV f g Fa Fb Fc η) QD ↔ Wn (Fa η) fun x => Wn (Fb η) fun y => Wn (R.of (f x y)) fun z => Wn (tru z) fun k => if k = true then Wn (Fc η) fun w => Wn (R.of (g y w)) QD else QD (.bool false) := by
  unfold chainV
  rw [wn_bind]
  refine ⟨fun h => h.imp fun x h => ?_, fun h => h.imp fun x h => ?_⟩
  · refine (wn_bind.mp h).imp fun y h => (wn_bind.mp h).imp fun z h => (wn_bind.mp h).imp fun k h => ?_
    cases k with
    | true => rw [if_pos rfl] at h ⊢; exact wn_bind.mp h
    | false => rw [if_neg Bool.false_ne_true] at h ⊢; exact wn_ok.mp h
  · refine wn_bind.mpr (h.imp fun y h => wn_bind.mpr (h.imp fun z h => wn_bind.mpr (h.imp fun k h => ?_)))
    cases k with
    | true => rw [if_pos rfl] at h ⊢; exact wn_bind.mpr h
    | false => rw [if_neg Bool.false_ne_true] at h ⊢; exact wn_ok.mpr h
namespace Sc
open Sh
def G_is_whole : Nv → Rs :=
    (seqS (retS (andV (e1 (isiV "int") (gv 0)) (notV (e1 (isiV "bool") (gv 0)))))
    .nx)
def F_is_whole : List D → R D := runD 1 (.ok .none) G_is_whole
def G_is_height : Nv → Rs :=
    (seqS (retS (andV (callV F_is_whole (aC (gv 0) a0)) (chainV leA leA (e1 negV (k0 (.int (1000)))) (gv 0) (k0 (.int (1000))))))
    .nx)
def F_is_height : List D → R D := runD 1 (.ok .none) G_is_height
def whl : D → Option Int
  | .int x => some x
  | _ => none
theorem whole_ok (d : D) : F_is_whole [d] = .ok (.bool (whl d).isSome) := by
  refine Wn.eq (wn_runD ?_)
  show Sn (G_is_whole [.d d]) _ _ _ _
  unfold G_is_whole
  simp only [wn_ok, wn_some, wn_only, wn_noex, wn_e2, wn_e1, wn_eN, wn_a0, wn_aC, wn_call, wn_tb, wn_tup, wn_lst, wn_andB, wn_orB, wn_notB, wn_andV, wn_orV, wn_notV, wn_ifV, wn_iA, wn_iR1, wn_iR2, wn_iZ, wn_iEn, wn_iRR, wn_sl, wn_p0, wn_p1, wn_up, wn_upB, wn_upI, wn_x2, wn_x0, wn_xC, wn_xN, wn_xb, wn_xAnd, wn_xOr, wn_xNot, wn_xIf, wn_xCall, wn_xR1, wn_xR2, sn_nx, sn_rt, sn_bk, sn_ct, sn_seq, sn_set, sn_ret, sn_expr, sn_if, sn_for, sn_xSet, sn_xRet, sn_xExpr, sn_xIf, sn_xFor, sn_asg, sn_xAsg, sn_own, sn_xOwn, gv_zero, gv_succ, go_own, go_dat, go_succ, k0_def, gN_def, tru_bool, tru_none, tru_int, tru_list, asSeq_list, asSeq_tup, addV_int, subV_int, ltA_i, leA_i, gtA_i, geA_i, negV_int, intV_int, lenV_list, lenV_tup, ixV_list, ixV_tup, asInt_int, slV_list, slV_tup, slL_list, revV_tup, revV_list, tupleV_list, listV_list, listV_tup, eqV_str, neV_str, eqV_int, List.set_cons_zero, List.set_cons_succ, List.getElem?_cons_zero, List.getElem?_cons_succ, List.length_cons, List.length_nil, ↓reduceIte, Bool.false_eq_true, Bool.not_true, Bool.not_false, wn_ite, gT2, gT3, neV_tup, eqV_tup, in_tup, notin_tup', lineN_eq, Nat.reduceAdd, Nat.reduceLeDiff, Nat.zero_le, true_and, and_true, List.map_nil, List.map_cons, exists_eq_left', Option.some.injEq, PyData.list.injEq, exists_eq_left, PyData.int.injEq, R.ok.injEq, Sl.own.injEq, isi_int, isi_bool]
  cases d <;> rfl
/-! ### the heights by simplex -/
structure Good (acc : List Ih) : Prop where
  nd : (acc.map (·.1)).Nodup
  smp : ∀ p ∈ acc, Smp p.1
  bd : ∀ p ∈ acc, -1000 ≤ p.2 ∧ p.2 ≤ 1000
theorem Good.nil : Good [] := ⟨List.nodup_nil, fun _ m => absurd m List.not_mem_nil, fun _ m => absurd m List.not_mem_nil⟩
theorem Good.snoc {acc : List Ih} {p : Ih} (g : Good acc) (sm : Smp p.1) (b : -1000 ≤ p.2 ∧ p.2 ≤ 1000) (n : p.1 ∉ acc.map (·.1)) : Good (acc ++ [p]) where
  nd := by
    rw [List.map_append]
    refine List.nodup_append.mpr ⟨g.nd, List.nodup_cons.mpr ⟨List.not_mem_nil, List.nodup_nil⟩, fun a ma b mb => ?_⟩
    have mb : b = p.1 := List.mem_singleton.mp mb
    subst mb
    exact fun z => n (z ▸ ma)
  smp := fun q m => (List.mem_append.mp m).elim (g.smp q) fun m => by rw [List.mem_singleton.mp m]; exact sm
  bd := fun q m => (List.mem_append.mp m).elim (g.bd q) fun m => by rw [List.mem_singleton.mp m]; exact b
theorem fm_int {i : Nat} (h : i < 1000000) : fmD (.int ((i : Nat) : Int)) = true := by
  have := log2_small (n := ((i : Nat) : Int).natAbs) (k := 40) (by omega) (by decide)
  exact decide_eq_true (by omega)
def outB : (String × Nat) ⊕ List Ih → R D
  | .inl (w, i) => .ex (Str.ofString w) (Str.ofString w) (.int ((i : Nat) : Int))
  | .inr it => .ok (.dict (zD (zsD it)))
/-! ### the faces -/
/-! ### all -/
end Sc
end Bd
/-! Q23: orders that grow by whole simplices. -/
namespace Bd
open PySem L2
namespace Od
end Od
end Bd
/-! Q21: the cycles that the laws draw. -/
namespace Bd
open PySem L2
namespace Pr
structure LoopC (os : List Row) (i : Nat) (c e : Row) : Prop where
  ic : InU (Pg.uptoI os.length) c
  ie : InU (Pg.uptoI os.length) e
  has : (i : Int) ∈ c
  le : ∀ x ∈ c, x ≤ (i : Int)
  dc : Dim os (rowAt os (i : Int)).length c
  de : DimF os (rowAt os (i : Int)).length e
theorem LoopC.sum {os : List Row} {i p : Nat} {c e c' e' : Row} {j : Int} (h : LoopC os i c e) (h' : LoopC os p c' e') (lt : p < i) (ej : e.getLast? = some j) (ej' : e'.getLast? = some j) : LoopC os i (sumL c c') (sumL e e') := by
  have x1 := h.de j (List.mem_of_getLast? ej)
  have x2 := h'.de j (List.mem_of_getLast? ej')
  have ed : (rowAt os (p : Int)).length = (rowAt os (i : Int)).length := by omega
  have dc' := h'.dc
  have de' := h'.de
  rw [ed] at dc' de'
  refine ⟨h.ic.sum h'.ic, h.ie.sum h'.ie, mem_sumL.mpr (.inl ⟨h.has, fun m => by have := h'.le _ m; omega⟩), fun x m => ?_, h.dc.sum dc', h.de.sum de'⟩
  rcases mem_sumL.mp m with ⟨m, _⟩ | ⟨m, _⟩
  · exact h.le x m
  · have := h'.le x m
    omega
def DkW (es : List Row) (ks : List (Int × D)) : Prop := ∀ j v, kAt ks j = some v → ∃ p : Nat, v = .int (p : Nat) ∧ ∃ e, es[p]? = some e ∧ e.getLast? = some j
theorem DkW.skip {es : List Row} {ks : List (Int × D)} {e : Row} (h : DkW es ks) : DkW (es ++ [e]) ks := fun j v hv => by
  obtain ⟨p, e1, f, ef, el⟩ := h j v hv
  exact ⟨p, e1, f, by rw [List.getElem?_append_left (List.getElem?_eq_some_iff.mp ef).1]; exact ef, el⟩
theorem DkW.put {es : List Row} {ks : List (Int × D)} {e : Row} {k : Int} (h : DkW es ks) (hk : e.getLast? = some k) : DkW (es ++ [e]) (kPut ks k (.int (es.length : Nat))) := fun j v hv => by
  rw [kAt_put] at hv
  split at hv
  · rename_i c
    cases hv
    subst c
    exact ⟨es.length, rfl, e, by rw [List.getElem?_concat_length], hk⟩
  · exact h.skip j v hv
end Pr
end Bd
/-! Q24: births and deaths in pairs cancel out. -/
namespace Bd
open PySem L2
theorem rem_sum (w : Nat → Int) (i : Nat) : ∀ l : List Nat, l.Nodup → i ∈ l → ((l.filter fun p => decide (p ≠ i)).map w).sum + w i = (l.map w).sum
  | [], _, m => (List.not_mem_nil m).elim
  | a :: t, nd, m => by
    have nd' := List.nodup_cons.mp nd
    rw [List.filter_cons]
    by_cases c : a = i
    · subst c
      rw [decide_eq_false (fun z => z rfl)]
      have : t.filter (fun p => decide (p ≠ a)) = t := List.filter_eq_self.mpr fun p mp => decide_eq_true fun z => nd'.1 (z ▸ mp)
      simp only [Bool.false_eq_true, ↓reduceIte]
      rw [this, List.map_cons, List.sum_cons]
      omega
    · rw [decide_eq_true c]
      simp only [↓reduceIte]
      have ih := rem_sum w i t nd'.2 ((List.mem_cons.mp m).resolve_left fun z => c z.symm)
      rw [List.map_cons, List.map_cons, List.sum_cons, List.sum_cons]
      omega
theorem range_nodup (n : Nat) : (List.range n).Nodup := List.nodup_range
namespace Pr
def freeB (ls : List (Option Int)) (p : Nat) : Bool := (ls.getD p none).isNone && (lastO ls (p : Int)).isNone
theorem euler (w : Nat → Int) (ls : List (Option Int)) : (ls.filterMap id).Nodup → (∀ (q : Nat) (j : Int), ls[q]? = some (some j) → ∃ i : Nat, j = (i : Int) ∧ i < q ∧ ls[i]? = some none ∧ w i + w q = 0) →
    (((List.range ls.length).filter (freeB ls)).map w).sum = ((List.range ls.length).map w).sum := by
  induction ls using snoc_ind with
  | nil => exact fun _ _ => rfl
  | snoc ls o ih =>
    intro hd hq
    rw [List.filterMap_append] at hd
    have hd' := List.nodup_append.mp hd
    have hq' : ∀ (q : Nat) (j : Int), ls[q]? = some (some j) → ∃ i : Nat, j = (i : Int) ∧ i < q ∧ ls[i]? = some none ∧ w i + w q = 0 := fun q j e => by
      have ql := (List.getElem?_eq_some_iff.mp e).1
      obtain ⟨i, h1, h2, h3, h4⟩ := hq q j (by rw [List.getElem?_append_left ql]; exact e)
      rw [List.getElem?_append_left (by omega)] at h3
      exact ⟨i, h1, h2, h3, h4⟩
    have ih := ih hd'.1 hq'
    rw [List.length_append, List.length_singleton, List.range_succ, List.filter_append, List.map_append, List.map_append, List.sum_append, List.sum_append]
    have pre : ∀ p ∈ List.range ls.length, (ls ++ [o]).getD p none = ls.getD p none := fun p m => by
      have := List.mem_range.mp m
      rw [List.getD_eq_getElem?_getD, List.getD_eq_getElem?_getD, List.getElem?_append_left this]
    have lst : (ls ++ [o]).getD ls.length none = o := by
      rw [List.getD_eq_getElem?_getD, List.getElem?_concat_length]
      rfl
    cases o with
    | none =>
      have e1 : (List.range ls.length).filter (freeB (ls ++ [none])) = (List.range ls.length).filter (freeB ls) := List.filter_congr fun p m => by
        unfold freeB
        rw [pre p m, lastO_snoc]
        simp
      have nl : lastO (ls ++ [none]) (ls.length : Int) = none := by
        rw [lastO_snoc]
        simp only [reduceCtorEq, ↓reduceIte, Option.or_none]
        refine lastO_none.mpr fun m => ?_
        obtain ⟨q, hq1, eq⟩ := List.mem_iff_getElem.mp m
        obtain ⟨i, h1, h2, _⟩ := hq' q (ls.length : Int) (by rw [List.getElem?_eq_getElem hq1, eq])
        omega
      have e2 : [ls.length].filter (freeB (ls ++ [none])) = [ls.length] := by
        rw [List.filter_cons]
        unfold freeB
        rw [lst, nl]
        rfl
      rw [e1, e2, ih]
    | some j =>
      obtain ⟨i, rfl, hi, ei, wi⟩ := hq ls.length j (by rw [List.getElem?_concat_length])
      rw [List.getElem?_append_left hi] at ei
      have e2 : [ls.length].filter (freeB (ls ++ [some (i : Int)])) = [] := by
        rw [List.filter_cons]
        unfold freeB
        rw [lst]
        rfl
      have nm : some (i : Int) ∉ ls := fun m => hd'.2.2 (i : Int) (List.mem_filterMap.mpr ⟨_, m, rfl⟩) (i : Int) (by simp) rfl
      have e1 : (List.range ls.length).filter (freeB (ls ++ [some (i : Int)])) = ((List.range ls.length).filter (freeB ls)).filter fun p => decide (p ≠ i) := by
        rw [List.filter_filter]
        refine List.filter_congr fun p m => ?_
        unfold freeB
        rw [pre p m, lastO_snoc]
        by_cases c : p = i
        · subst c
          rw [lastO_none.mpr nm]
          simp
        · have : ¬ (some (i : Int) = some (p : Int)) := fun z => c (by have := Option.some.inj z; omega)
          rw [if_neg this, Option.or_none]
          simp [c]
      have mi : i ∈ (List.range ls.length).filter (freeB ls) := by
        refine List.mem_filter.mpr ⟨List.mem_range.mpr hi, ?_⟩
        unfold freeB
        rw [List.getD_eq_getElem?_getD, ei, lastO_none.mpr nm]
        rfl
      have rs := rem_sum w i _ (List.Pairwise.filter _ (range_nodup ls.length)) mi
      rw [e1, e2]
      rw [ih] at rs
      simp only [List.map_nil, List.sum_nil, List.map_cons, List.sum_cons]
      omega
end Pr
end Bd
/-! Q25: beginnings of orders. -/
namespace Bd
open PySem L2
theorem Ordr.take : ∀ {os : List Row}, Ordr os → ∀ m : Nat, Ordr (os.take m)
  | _, .nil, m => by
    rw [List.take_nil]
    exact .nil
  | _, .snoc (os := os) (s := s) h hs hn hf, m => by
    by_cases c : m ≤ os.length
    · rw [List.take_append_of_le_length c]
      exact h.take m
    · rw [List.take_of_length_le (by rw [List.length_append, List.length_singleton]; omega)]
      exact .snoc h hs hn hf
namespace Pr
end Pr
/-! ### other names -/
/-- rho tells the twelve names apart, within them -/
structure Ren (rho : Int → Int) : Prop where
  inj : ∀ x ∈ Pg.uptoI 12, ∀ y ∈ Pg.uptoI 12, rho x = rho y → x = y
  to : ∀ x ∈ Pg.uptoI 12, rho x ∈ Pg.uptoI 12
end Bd
/-! R8: what stands above some; parts of shapes that are shapes. -/
namespace Bd
open PySem L2
namespace Sc
open Sh
abbrev names (it : List Ih) : List Row := it.map (·.1)
/-! ### parts that are shapes -/
theorem Shp.sub {it jt : List Ih} (h : Shp it) (s : jt.Sublist it) (cl : ∀ p ∈ jt, ∀ f ∈ facesL p.1, ∃ q ∈ jt, q.1 = f ∧ q.2 ≤ p.2) : Shp jt :=
  ⟨h.nd.sublist (s.map _), fun p m => h.smp p (s.subset m), cl, fun p m => h.bd p (s.subset m)⟩
end Sc
end Bd
/-! R9: numbers in words. -/
namespace Bd
open PySem L2
open TL
theorem wn_s2 {η : Nv} {QD : D → Prop} {f : Str → D → Option D} {Fo Fe : Nv → R D} : Wn (s2 f Fo Fe η) QD ↔ Wn (Fo η) fun a => ∃ x, a = .str x ∧ Wn (Fe η) fun y => Wn (R.of (f x y)) QD := by
  unfold s2
  rw [wn_bind]
  refine ⟨fun h => h.imp fun a q => ?_, fun h => h.imp fun a ⟨x, e, q⟩ => ?_⟩
  · split at q
    · exact ⟨_, rfl, wn_bind.mp q⟩
    · exact (wn_no.mp q).elim
  · subst e
    exact wn_bind.mpr q
namespace Tx
def G__is_number : Nv → Rs :=
    (seqS (setS 1 (s2 rmpV (gv 0) (k0 (.str "-"))))
    (seqS (ifS (notB (tb (chainV leA leA (k0 (.int 1)) (eN lenTV (aC (gv 1) a0)) (k0 (.int (6)))))) (seqS (retS (k0 (.bool false)))
    .nx) .nx)
    (seqS (ifS (notB (tb (eN allV (aC (compE (iSg (gv 1)) (gN 2) (fun _ => .ok true) (e2 (inT false) (gv 2) (k0 (.str "0123456789"))) [2]) a0)))) (seqS (retS (k0 (.bool false)))
    .nx) .nx)
    (seqS (retS (orV (e2 neV' (e2 ixT (gv 1) (k0 (.int 0))) (k0 (.str "0"))) (e2 eqV' (gv 0) (k0 (.str "0")))))
    .nx))))
def F__is_number : List D → R D := runD 3 (.ok .none) G__is_number
def G__number_of : Nv → Rs :=
    (seqS (ifS (notB (tb (callV F__is_number (aC (gv 0) a0)))) (seqS (raiseS "BadLine" "BadLine" (gv 1))
    .nx) .nx)
    (seqS (retS (eN intSV (aC (gv 0) a0)))
    .nx))
def F__number_of : List D → R D := runD 2 (.ok .none) G__number_of

/-! ### a word -/
def digs : List Nat → List Nat
  | 45 :: cs => cs
  | cs => cs
theorem tl_rmp (w : Str) : tl (Txt.removeprefix w "-") = digs (tl w) := by
  rw [StrLaws.removeprefix_eq, StrLaws.subAt_eq]
  have e1 : (Str.ofString "-").length = 1 := by decide +kernel
  have e2 : (Str.ofString "-").cps.toList = [45] := by decide +kernel
  rw [e1, e2, len_tl w]
  show tl (if (decide (0 + 1 ≤ (tl w).length) && (((tl w).drop 0).take 1 == [45])) = true then ⟨(((tl w).drop 1).take ((tl w).length - 1)).toArray⟩ else w) = _
  cases h : tl w with
  | nil =>
    simp
    rw [h]
    rfl
  | cons c cs =>
    by_cases hc : c = 45
    · subst hc
      simp
      rfl
    · have : ¬ (decide (0 + 1 ≤ (c :: cs).length) && (((c :: cs).drop 0).take 1 == [45])) = true := by simp [hc]
      rw [if_neg this, h]
      unfold digs
      split
      · rename_i e
        cases e
        exact absurd rfl hc
      · rfl
def digB (c : Nat) : Bool := decide (48 ≤ c) && decide (c ≤ 57)
theorem digits_are (c : Nat) : decide (c ∈ (Str.ofString "0123456789").cps.toList) = digB c := by
  have e : (Str.ofString "0123456789").cps.toList = [48, 49, 50, 51, 52, 53, 54, 55, 56, 57] := by decide +kernel
  rw [e]
  unfold digB
  rw [Bool.eq_iff_iff, Bool.and_eq_true, decide_eq_true_iff, decide_eq_true_iff, decide_eq_true_iff]
  simp only [List.mem_cons, List.not_mem_nil, or_false]
  omega
/-- whether it is a number -/
def numB (l : List Nat) : Bool := decide (1 ≤ (digs l).length) && decide ((digs l).length ≤ 6) && (digs l).all digB && (!decide ((digs l).head? = some 48) || decide (l = [48]))
def inDg : D → D
  | .str x => match x.cps.toList with
    | [c] => .bool (digB c)
    | _ => .none
  | _ => .none
theorem is_number_ok {w : Str} (hl : w.length ≤ 1000000) : F__is_number [.str w] = .ok (.bool (numB (tl w))) := by
  refine Wn.eq (wn_runD ?_)
  show Sn (G__is_number [.d (.str w), .no, .no]) _ _ _ _
  unfold G__is_number
  obtain ⟨v, hv⟩ : ∃ v, Txt.removeprefix w "-" = v := ⟨_, rfl⟩
  have tv : tl v = digs (tl w) := by rw [← hv, tl_rmp]
  have vl : v.length = (digs (tl w)).length := by rw [len_tl, tv]
  have dl : (digs (tl w)).length ≤ w.length := by
    rw [len_tl]
    unfold digs
    split
    · rename_i cs e
      rw [e, List.length_cons]
      exact Nat.le_succ _
    · exact Nat.le_refl _
  have r1 : rmpV w (.str "-") = some (.str v) := by
    show (if w.length ≤ lineN then some (PyData.str (Txt.removeprefix w "-")) else none) = _
    rw [if_pos (by rw [lineN_eq]; omega), hv]
  have n1 : lenTV [.str v] = some (.int ((digs (tl w)).length : Nat)) := by
    show (if v.length ≤ lineN then some (PyData.int v.length) else none) = _
    rw [if_pos (by rw [lineN_eq]; omega), vl]
  simp only [wn_ok, wn_some, wn_only, wn_noex, wn_e2, wn_e1, wn_eN, wn_a0, wn_aC, wn_call, wn_tb, wn_tup, wn_lst, wn_andB, wn_orB, wn_notB, wn_andV, wn_orV, wn_notV, wn_ifV, wn_iA, wn_iR1, wn_iR2, wn_iZ, wn_iEn, wn_iRR, wn_sl, wn_p0, wn_p1, wn_up, wn_upB, wn_upI, wn_x2, wn_x0, wn_xC, wn_xN, wn_xb, wn_xAnd, wn_xOr, wn_xNot, wn_xIf, wn_xCall, wn_xR1, wn_xR2, sn_nx, sn_rt, sn_bk, sn_ct, sn_seq, sn_set, sn_ret, sn_expr, sn_if, sn_for, sn_xSet, sn_xRet, sn_xExpr, sn_xIf, sn_xFor, sn_asg, sn_xAsg, sn_own, sn_xOwn, gv_zero, gv_succ, go_own, go_dat, go_succ, k0_def, gN_def, tru_bool, tru_none, tru_int, tru_list, asSeq_list, asSeq_tup, addV_int, subV_int, ltA_i, leA_i, gtA_i, geA_i, negV_int, intV_int, lenV_list, lenV_tup, ixV_list, ixV_tup, asInt_int, slV_list, slV_tup, slL_list, revV_tup, revV_list, tupleV_list, listV_list, listV_tup, eqV_str, neV_str, eqV_int, List.set_cons_zero, List.set_cons_succ, List.getElem?_cons_zero, List.getElem?_cons_succ, List.length_cons, List.length_nil, ↓reduceIte, Bool.false_eq_true, Bool.not_true, Bool.not_false, wn_ite, gT2, gT3, neV_tup, eqV_tup, in_tup, notin_tup', lineN_eq, Nat.reduceAdd, Nat.reduceLeDiff, Nat.zero_le, true_and, and_true, List.map_nil, List.map_cons, exists_eq_left', Option.some.injEq, PyData.list.injEq, exists_eq_left, PyData.int.injEq, R.ok.injEq, Sl.own.injEq, wn_s2, wn_chain, PyData.str.injEq, r1, n1]
  by_cases c1 : 1 ≤ (digs (tl w)).length
  · by_cases c2 : (digs (tl w)).length ≤ 6
    · rw [decide_eq_true (show (1 : Int) ≤ ((digs (tl w)).length : Int) by omega)]
      simp only [↓reduceIte]
      rw [decide_eq_true (show ((digs (tl w)).length : Int) ≤ 6 by omega)]
      simp only [Bool.not_true, Bool.false_eq_true, ↓reduceIte]
      refine wn_comp (xs := signsD v) (fun _ => true) inDg ?_ ?_ ?_ ?_
      · exact Wn.mk (show iSg (gv 1) [.d (.str w), .d (.str v), .no] = .ok (signsD v) from rfl) rfl
      · intro y m
        obtain ⟨c, mc, rfl⟩ := List.mem_map.mp m
        refine ⟨[.d (.str w), .d (.str v), .d (.str ⟨#[c]⟩)], rfl, wn_ok.mpr ⟨rfl, fun _ => ?_⟩⟩
        have e : inT false (.str ⟨#[c]⟩) (.str "0123456789") = some (.bool (digB c)) := by
          show some (PyData.bool (decide (c ∈ (Str.ofString "0123456789").cps.toList) != false)) = _
          rw [digits_are, Bool.bne_false]
        simp only [wn_ok, wn_some, wn_only, wn_noex, wn_e2, wn_e1, wn_eN, wn_a0, wn_aC, wn_call, wn_tb, wn_tup, wn_lst, wn_andB, wn_orB, wn_notB, wn_andV, wn_orV, wn_notV, wn_ifV, wn_iA, wn_iR1, wn_iR2, wn_iZ, wn_iEn, wn_iRR, wn_sl, wn_p0, wn_p1, wn_up, wn_upB, wn_upI, wn_x2, wn_x0, wn_xC, wn_xN, wn_xb, wn_xAnd, wn_xOr, wn_xNot, wn_xIf, wn_xCall, wn_xR1, wn_xR2, sn_nx, sn_rt, sn_bk, sn_ct, sn_seq, sn_set, sn_ret, sn_expr, sn_if, sn_for, sn_xSet, sn_xRet, sn_xExpr, sn_xIf, sn_xFor, sn_asg, sn_xAsg, sn_own, sn_xOwn, gv_zero, gv_succ, go_own, go_dat, go_succ, k0_def, gN_def, tru_bool, tru_none, tru_int, tru_list, asSeq_list, asSeq_tup, addV_int, subV_int, ltA_i, leA_i, gtA_i, geA_i, negV_int, intV_int, lenV_list, lenV_tup, ixV_list, ixV_tup, asInt_int, slV_list, slV_tup, slL_list, revV_tup, revV_list, tupleV_list, listV_list, listV_tup, eqV_str, neV_str, eqV_int, List.set_cons_zero, List.set_cons_succ, List.getElem?_cons_zero, List.getElem?_cons_succ, List.length_cons, List.length_nil, ↓reduceIte, Bool.false_eq_true, Bool.not_true, Bool.not_false, wn_ite, gT2, gT3, neV_tup, eqV_tup, in_tup, notin_tup', lineN_eq, Nat.reduceAdd, Nat.reduceLeDiff, Nat.zero_le, true_and, and_true, List.map_nil, List.map_cons, exists_eq_left', Option.some.injEq, PyData.list.injEq, exists_eq_left, PyData.int.injEq, R.ok.injEq, Sl.own.injEq, e]
        rfl
      · unfold signsD
        rw [List.length_map, lineN_eq]
        show (tl v).length ≤ _
        rw [tv]
        omega
      · have e1 : ((signsD v).filter fun _ => true).map inDg = ((digs (tl w)).map digB).map PyData.bool := by
          rw [List.filter_eq_self.mpr fun _ _ => rfl]
          unfold signsD
          rw [List.map_map, List.map_map]
          show List.map _ (tl v) = _
          rw [tv]
          rfl
        rw [e1]
        simp only [wn_ok, wn_some, wn_only, wn_noex, wn_e2, wn_e1, wn_eN, wn_a0, wn_aC, wn_call, wn_tb, wn_tup, wn_lst, wn_andB, wn_orB, wn_notB, wn_andV, wn_orV, wn_notV, wn_ifV, wn_iA, wn_iR1, wn_iR2, wn_iZ, wn_iEn, wn_iRR, wn_sl, wn_p0, wn_p1, wn_up, wn_upB, wn_upI, wn_x2, wn_x0, wn_xC, wn_xN, wn_xb, wn_xAnd, wn_xOr, wn_xNot, wn_xIf, wn_xCall, wn_xR1, wn_xR2, sn_nx, sn_rt, sn_bk, sn_ct, sn_seq, sn_set, sn_ret, sn_expr, sn_if, sn_for, sn_xSet, sn_xRet, sn_xExpr, sn_xIf, sn_xFor, sn_asg, sn_xAsg, sn_own, sn_xOwn, gv_zero, gv_succ, go_own, go_dat, go_succ, k0_def, gN_def, tru_bool, tru_none, tru_int, tru_list, asSeq_list, asSeq_tup, addV_int, subV_int, ltA_i, leA_i, gtA_i, geA_i, negV_int, intV_int, lenV_list, lenV_tup, ixV_list, ixV_tup, asInt_int, slV_list, slV_tup, slL_list, revV_tup, revV_list, tupleV_list, listV_list, listV_tup, eqV_str, neV_str, eqV_int, List.set_cons_zero, List.set_cons_succ, List.getElem?_cons_zero, List.getElem?_cons_succ, List.length_cons, List.length_nil, ↓reduceIte, Bool.false_eq_true, Bool.not_true, Bool.not_false, wn_ite, gT2, gT3, neV_tup, eqV_tup, in_tup, notin_tup', lineN_eq, Nat.reduceAdd, Nat.reduceLeDiff, Nat.zero_le, true_and, and_true, List.map_nil, List.map_cons, exists_eq_left', Option.some.injEq, PyData.list.injEq, exists_eq_left, PyData.int.injEq, R.ok.injEq, Sl.own.injEq, all_bools]
        have e2 : ((digs (tl w)).map digB).all id = (digs (tl w)).all digB := by rw [List.all_map]; rfl
        rw [e2]
        cases ha : (digs (tl w)).all digB with
        | false =>
          have z : numB (tl w) = false := by unfold numB; rw [ha]; simp
          rw [z]
          rfl
        | true =>
          simp only [Bool.not_true, Bool.false_eq_true, ↓reduceIte]
          obtain ⟨c, cs, ec⟩ : ∃ c cs, digs (tl w) = c :: cs := by
            cases h : digs (tl w) with
            | nil => rw [h] at c1; simp at c1
            | cons c cs => exact ⟨c, cs, rfl⟩
          have ix : ixT (.str v) (.int 0) = some (.str ⟨#[c]⟩) := by
            show (if v.length ≤ lineN then (L2.atI v.cps.toList 0).map fun c => PyData.str ⟨#[c]⟩ else none) = _
            rw [if_pos (by rw [lineN_eq]; omega), show v.cps.toList = c :: cs from tv.trans ec]
            have a0 : L2.atI (c :: cs) 0 = some c := by simp [L2.atI, L2.ixN]
            rw [a0]
            rfl
          have zero : (⟨#[c]⟩ : Str) = "0" ↔ c = 48 := by
            have e0 : (Str.ofString "0") = ⟨#[48]⟩ := by decide +kernel
            rw [e0]
            constructor
            · intro e
              have := congrArg (fun s : Str => s.cps.toList) e
              simpa using this
            · rintro rfl; rfl
          have wz : w = "0" ↔ tl w = [48] := by
            have e0 : tl (Str.ofString "0") = [48] := by decide +kernel
            rw [← e0]
            exact ⟨fun e => by rw [e], fun e => ext_tl e⟩
          simp only [wn_ok, wn_some, wn_only, wn_noex, wn_e2, wn_e1, wn_eN, wn_a0, wn_aC, wn_call, wn_tb, wn_tup, wn_lst, wn_andB, wn_orB, wn_notB, wn_andV, wn_orV, wn_notV, wn_ifV, wn_iA, wn_iR1, wn_iR2, wn_iZ, wn_iEn, wn_iRR, wn_sl, wn_p0, wn_p1, wn_up, wn_upB, wn_upI, wn_x2, wn_x0, wn_xC, wn_xN, wn_xb, wn_xAnd, wn_xOr, wn_xNot, wn_xIf, wn_xCall, wn_xR1, wn_xR2, sn_nx, sn_rt, sn_bk, sn_ct, sn_seq, sn_set, sn_ret, sn_expr, sn_if, sn_for, sn_xSet, sn_xRet, sn_xExpr, sn_xIf, sn_xFor, sn_asg, sn_xAsg, sn_own, sn_xOwn, gv_zero, gv_succ, go_own, go_dat, go_succ, k0_def, gN_def, tru_bool, tru_none, tru_int, tru_list, asSeq_list, asSeq_tup, addV_int, subV_int, ltA_i, leA_i, gtA_i, geA_i, negV_int, intV_int, lenV_list, lenV_tup, ixV_list, ixV_tup, asInt_int, slV_list, slV_tup, slL_list, revV_tup, revV_list, tupleV_list, listV_list, listV_tup, eqV_str, neV_str, eqV_int, List.set_cons_zero, List.set_cons_succ, List.getElem?_cons_zero, List.getElem?_cons_succ, List.length_cons, List.length_nil, ↓reduceIte, Bool.false_eq_true, Bool.not_true, Bool.not_false, wn_ite, gT2, gT3, neV_tup, eqV_tup, in_tup, notin_tup', lineN_eq, Nat.reduceAdd, Nat.reduceLeDiff, Nat.zero_le, true_and, and_true, List.map_nil, List.map_cons, exists_eq_left', Option.some.injEq, PyData.list.injEq, exists_eq_left, PyData.int.injEq, R.ok.injEq, Sl.own.injEq, ix]
          have nb : numB (tl w) = (!decide (c = 48) || decide (tl w = [48])) := by
            unfold numB
            rw [ha, decide_eq_true c1, decide_eq_true c2, ec]
            simp
          rw [nb, decide_eq_decide.mpr zero, decide_eq_decide.mpr wz]
          cases decide (c = 48) <;> rfl
    · rw [decide_eq_true (show (1 : Int) ≤ ((digs (tl w)).length : Int) by omega)]
      simp only [↓reduceIte]
      rw [decide_eq_false (show ¬ ((digs (tl w)).length : Int) ≤ 6 by omega)]
      have z : numB (tl w) = false := by unfold numB; rw [decide_eq_false c2]; simp
      rw [z]
      rfl
  · rw [decide_eq_false (show ¬ (1 : Int) ≤ ((digs (tl w)).length : Int) by omega)]
    have z : numB (tl w) = false := by unfold numB; rw [decide_eq_false c1]; simp
    rw [z]
    rfl
/-- which number -/
def valB : List Nat → Int
  | 45 :: cs => -((NumText.digitsVal cs : Nat) : Int)
  | cs => ((NumText.digitsVal cs : Nat) : Int)
theorem all_digits {l : List Nat} (h : l.all digB = true) : NumText.AllDigits l := fun c m => by
  have := List.all_eq_true.mp h c m
  unfold digB at this
  rw [Bool.and_eq_true, decide_eq_true_iff, decide_eq_true_iff] at this
  exact this
theorem numB_facts {l : List Nat} (h : numB l = true) : 1 ≤ (digs l).length ∧ (digs l).length ≤ 6 ∧ NumText.AllDigits (digs l) := by
  unfold numB at h
  simp only [Bool.and_eq_true, decide_eq_true_eq] at h
  exact ⟨h.1.1.1, h.1.1.2, all_digits h.1.2⟩
theorem int_word {w : Str} (h : numB (tl w) = true) : intText? w = some (valB (tl w)) ∧ w.length ≤ 7 := by
  obtain ⟨h1, h2, h3⟩ := numB_facts h
  have len := len_tl w
  by_cases c : ∃ cs, tl w = 45 :: cs
  · obtain ⟨cs, e⟩ := c
    rw [e] at h1 h2 h3
    have h1 : 1 ≤ cs.length := h1
    have h2 : cs.length ≤ 6 := h2
    rw [e, List.length_cons] at len
    refine ⟨?_, by omega⟩
    rw [e]
    exact PySem.intText_neg e h3 (fun z => by rw [z] at h1; simp at h1) (by omega)
  · have ed : digs (tl w) = tl w := by
      unfold digs
      split
      · rename_i cs e
        exact absurd ⟨cs, e⟩ c
      · rfl
    have ev : valB (tl w) = ((NumText.digitsVal (tl w) : Nat) : Int) := by
      unfold valB
      split
      · rename_i cs e
        exact absurd ⟨cs, e⟩ c
      · rfl
    rw [ed] at h1 h2 h3
    refine ⟨?_, by omega⟩
    rw [ev]
    exact PySem.intText_digits h3 (fun z => by rw [show tl w = [] from z] at h1; simp at h1) (by omega)
def outN (i : Nat) (w : Str) : R D := if numB (tl w) = true then .ok (.int (valB (tl w))) else .ex "BadLine" "BadLine" (.int ((i : Nat) : Int))
theorem number_ok {w : Str} {i : Nat} (hl : w.length ≤ 1000000) (hi : i < 1000000) : F__number_of [.str w, .int ((i : Nat) : Int)] = outN i w := by
  refine rx_runD (P := fun r => r = outN i w) ?_
  show Sx (G__number_of [.d (.str w), .d (.int ((i : Nat) : Int))]) _ _ _ _ _
  unfold G__number_of
  refine sx_seq (sx_if ?_)
  simp only [wn_ok, wn_some, wn_only, wn_noex, wn_e2, wn_e1, wn_eN, wn_a0, wn_aC, wn_call, wn_tb, wn_tup, wn_lst, wn_andB, wn_orB, wn_notB, wn_andV, wn_orV, wn_notV, wn_ifV, wn_iA, wn_iR1, wn_iR2, wn_iZ, wn_iEn, wn_iRR, wn_sl, wn_p0, wn_p1, wn_up, wn_upB, wn_upI, wn_x2, wn_x0, wn_xC, wn_xN, wn_xb, wn_xAnd, wn_xOr, wn_xNot, wn_xIf, wn_xCall, wn_xR1, wn_xR2, sn_nx, sn_rt, sn_bk, sn_ct, sn_seq, sn_set, sn_ret, sn_expr, sn_if, sn_for, sn_xSet, sn_xRet, sn_xExpr, sn_xIf, sn_xFor, sn_asg, sn_xAsg, sn_own, sn_xOwn, gv_zero, gv_succ, go_own, go_dat, go_succ, k0_def, gN_def, tru_bool, tru_none, tru_int, tru_list, asSeq_list, asSeq_tup, addV_int, subV_int, ltA_i, leA_i, gtA_i, geA_i, negV_int, intV_int, lenV_list, lenV_tup, ixV_list, ixV_tup, asInt_int, slV_list, slV_tup, slL_list, revV_tup, revV_list, tupleV_list, listV_list, listV_tup, eqV_str, neV_str, eqV_int, List.set_cons_zero, List.set_cons_succ, List.getElem?_cons_zero, List.getElem?_cons_succ, List.length_cons, List.length_nil, ↓reduceIte, Bool.false_eq_true, Bool.not_true, Bool.not_false, wn_ite, gT2, gT3, neV_tup, eqV_tup, in_tup, notin_tup', lineN_eq, Nat.reduceAdd, Nat.reduceLeDiff, Nat.zero_le, true_and, and_true, List.map_nil, List.map_cons, exists_eq_left', Option.some.injEq, PyData.list.injEq, exists_eq_left, PyData.int.injEq, R.ok.injEq, Sl.own.injEq, is_number_ok hl]
  unfold outN
  by_cases c : numB (tl w) = true
  · rw [c]
    simp only [Bool.not_true, Bool.false_eq_true, ↓reduceIte]
    obtain ⟨e1, e2⟩ := int_word c
    have iv : intSV [.str w] = some (.int (valB (tl w))) := by
      unfold intSV
      dsimp only
      rw [e1]
      exact if_pos (by omega)
    refine sx_nx.mpr (sx_seq (sx_of ?_))
    simp only [wn_ok, wn_some, wn_only, wn_noex, wn_e2, wn_e1, wn_eN, wn_a0, wn_aC, wn_call, wn_tb, wn_tup, wn_lst, wn_andB, wn_orB, wn_notB, wn_andV, wn_orV, wn_notV, wn_ifV, wn_iA, wn_iR1, wn_iR2, wn_iZ, wn_iEn, wn_iRR, wn_sl, wn_p0, wn_p1, wn_up, wn_upB, wn_upI, wn_x2, wn_x0, wn_xC, wn_xN, wn_xb, wn_xAnd, wn_xOr, wn_xNot, wn_xIf, wn_xCall, wn_xR1, wn_xR2, sn_nx, sn_rt, sn_bk, sn_ct, sn_seq, sn_set, sn_ret, sn_expr, sn_if, sn_for, sn_xSet, sn_xRet, sn_xExpr, sn_xIf, sn_xFor, sn_asg, sn_xAsg, sn_own, sn_xOwn, gv_zero, gv_succ, go_own, go_dat, go_succ, k0_def, gN_def, tru_bool, tru_none, tru_int, tru_list, asSeq_list, asSeq_tup, addV_int, subV_int, ltA_i, leA_i, gtA_i, geA_i, negV_int, intV_int, lenV_list, lenV_tup, ixV_list, ixV_tup, asInt_int, slV_list, slV_tup, slL_list, revV_tup, revV_list, tupleV_list, listV_list, listV_tup, eqV_str, neV_str, eqV_int, List.set_cons_zero, List.set_cons_succ, List.getElem?_cons_zero, List.getElem?_cons_succ, List.length_cons, List.length_nil, ↓reduceIte, Bool.false_eq_true, Bool.not_true, Bool.not_false, wn_ite, gT2, gT3, neV_tup, eqV_tup, in_tup, notin_tup', lineN_eq, Nat.reduceAdd, Nat.reduceLeDiff, Nat.zero_le, true_and, and_true, List.map_nil, List.map_cons, exists_eq_left', Option.some.injEq, PyData.list.injEq, exists_eq_left, PyData.int.injEq, R.ok.injEq, Sl.own.injEq, iv]
  · rw [if_neg c, Bool.not_eq_true _ |>.mp c]
    simp only [Bool.not_false, ↓reduceIte]
    refine sx_seq (sx_raise ?_)
    simp only [wn_ok, wn_some, wn_only, wn_noex, wn_e2, wn_e1, wn_eN, wn_a0, wn_aC, wn_call, wn_tb, wn_tup, wn_lst, wn_andB, wn_orB, wn_notB, wn_andV, wn_orV, wn_notV, wn_ifV, wn_iA, wn_iR1, wn_iR2, wn_iZ, wn_iEn, wn_iRR, wn_sl, wn_p0, wn_p1, wn_up, wn_upB, wn_upI, wn_x2, wn_x0, wn_xC, wn_xN, wn_xb, wn_xAnd, wn_xOr, wn_xNot, wn_xIf, wn_xCall, wn_xR1, wn_xR2, sn_nx, sn_rt, sn_bk, sn_ct, sn_seq, sn_set, sn_ret, sn_expr, sn_if, sn_for, sn_xSet, sn_xRet, sn_xExpr, sn_xIf, sn_xFor, sn_asg, sn_xAsg, sn_own, sn_xOwn, gv_zero, gv_succ, go_own, go_dat, go_succ, k0_def, gN_def, tru_bool, tru_none, tru_int, tru_list, asSeq_list, asSeq_tup, addV_int, subV_int, ltA_i, leA_i, gtA_i, geA_i, negV_int, intV_int, lenV_list, lenV_tup, ixV_list, ixV_tup, asInt_int, slV_list, slV_tup, slL_list, revV_tup, revV_list, tupleV_list, listV_list, listV_tup, eqV_str, neV_str, eqV_int, List.set_cons_zero, List.set_cons_succ, List.getElem?_cons_zero, List.getElem?_cons_succ, List.length_cons, List.length_nil, ↓reduceIte, Bool.false_eq_true, Bool.not_true, Bool.not_false, wn_ite, gT2, gT3, neV_tup, eqV_tup, in_tup, notin_tup', lineN_eq, Nat.reduceAdd, Nat.reduceLeDiff, Nat.zero_le, true_and, and_true, List.map_nil, List.map_cons, exists_eq_left', Option.some.injEq, PyData.list.injEq, exists_eq_left, PyData.int.injEq, R.ok.injEq, Sl.own.injEq]
    exact Sc.fm_int hi
/-! ### numbers written -/
def numI (i : Int) : Str := Str.ofString (toString i)
def sgnL (i : Int) : List Nat := if 0 ≤ i then numL i.toNat else 45 :: numL (-i).toNat
theorem tl_numI (i : Int) : tl (numI i) = sgnL i := by
  unfold sgnL
  split
  · rename_i h
    have e : i = ((i.toNat : Nat) : Int) := (Int.toNat_of_nonneg h).symm
    conv => lhs; rw [e]
    exact tl_num i.toNat
  · rename_i h
    obtain ⟨m, rfl⟩ : ∃ m, i = Int.negSucc m := by
      cases i with
      | ofNat k => exact absurd (Int.natCast_nonneg k) h
      | negSucc m => exact ⟨m, rfl⟩
    have e : (-(Int.negSucc m)).toNat = m + 1 := rfl
    rw [e, ← tl_num (m + 1)]
    unfold numI
    rw [tl_ofString, tl_ofString]
    have e1 : toString (Int.negSucc m) = "-" ++ toString (m + 1) := rfl
    have e2 : toString ((m + 1 : Nat) : Int) = toString (m + 1) := rfl
    rw [e1, e2, String.toList_append, List.map_append]
    rfl
theorem sgn_len {i : Int} (h : -1000000 < i ∧ i < 1000000) : (sgnL i).length ≤ 7 := by
  unfold sgnL
  split
  · have := numL_len (n := i.toNat) (k := 6) (by decide) (by omega)
    omega
  · have := numL_len (n := (-i).toNat) (k := 6) (by decide) (by omega)
    rw [List.length_cons]
    omega
theorem strI_ok {i : Int} (h : -1000000 < i ∧ i < 1000000) : strIV [.int i] = some (.str (numI i)) := by
  show (if i.natAbs.log2 < 1920 then some (PyData.str (Str.ofString (toString i))) else none) = _
  have := log2_small (n := i.natAbs) (k := 40) (by omega) (by decide)
  rw [if_pos (by omega)]
  rfl
end Tx
end Bd
/-! R10: texts of lines of words, any. -/
namespace Bd
open PySem L2
open TL
namespace Tx
def G__words_by_line : Nv → Rs :=
    (seqS (ifS (tb (e2 eqV' (gv 0) (k0 (.str "")))) (seqS (retS (lstV a0))
    .nx) .nx)
    (seqS (retS (compE (iA (s2 splitV (gv 0) (k0 (.str "\n")))) (gN 1) (fun _ => .ok true) (s2 splitV (gv 1) (k0 (.str " "))) [1]))
    .nx))
def F__words_by_line : List D → R D := runD 2 .no G__words_by_line
def G__law_number : Nv → Rs :=
    (seqS (setS 1 (gv 0))
    (seqS (ifS (tb (e2 eqV' (slE slT (gv 0) p0 (p1 (k0 (.int 1)))) (k0 (.str "-")))) (seqS (setS 1 (slE slT (gv 0) (p1 (k0 (.int 1))) p0))
    .nx) .nx)
    (seqS (ifS (orB (notB (tb (chainV leA leA (k0 (.int 1)) (eN lenTV (aC (gv 1) a0)) (k0 (.int 6))))) (andB (tb (e2 eqV' (e2 ixT (gv 1) (k0 (.int 0))) (k0 (.str "0")))) (tb (e2 neV' (gv 0) (k0 (.str "0")))))) (seqS (retS (k0 .none))
    .nx) .nx)
    (seqS (setS 2 (k0 (.int 0)))
    (seqS (forS (iSg (gv 1)) (gN 3) (seqS (ifS (tb (e2 (inT true) (gv 3) (k0 (.str "0123456789")))) (seqS (retS (k0 .none))
    .nx) .nx)
    (seqS (setS 2 (e2 addV (e2 mulV (gv 2) (k0 (.int 10))) (s2 indexT (k0 (.str "0123456789")) (gv 3))))
    .nx)))
    (seqS (retS (e2 ixV (lstV (aC (gv 2) (aC (e1 negV (gv 2)) a0))) (eN intV (aC (e2 eqV' (slE slT (gv 0) p0 (p1 (k0 (.int 1)))) (k0 (.str "-"))) a0))))
    .nx))))))
def F__law_number : List D → R D := runD 4 (.ok .none) G__law_number
def G__law_word_of : Nv → Rs :=
    (seqS (setS 1 (lstV (aC (k0 (.str "")) (aC (k0 (.str "0")) (aC (k0 (.str "1")) (aC (k0 (.str "2")) (aC (k0 (.str "11")) (aC (k0 (.str "12")) (aC (k0 (.str "-1")) (aC (k0 (.str "1000")) (aC (k0 (.str "1001")) (aC (k0 (.str "-1000")) (aC (k0 (.str "-1001")) (aC (k0 (.str "00")) (aC (k0 (.str "-0")) (aC (k0 (.str "+1")) (aC (k0 (.str "1.0")) (aC (k0 (.str "0123")) a0))))))))))))))))))
    (seqS (setS 1 (e2 addV (gv 1) (lstV (aC (k0 (.str "999999")) (aC (k0 (.str "1000000")) (aC (k0 (.str "-999999")) (aC (k0 (.str "-1000000")) (aC (k0 (.str "--1")) (aC (k0 (.str "-01")) (aC (k0 (.str "1_0")) (aC (k0 (.str "-")) (aC (k0 (.str "at")) (aC (k0 (.str "At")) (aC (k0 (.str "3")) (aC (k0 (.str "a")) a0)))))))))))))))
    (seqS (retS (e2 ixV (gv 1) (e2 modV (eN intV (aC (gv 0) a0)) (k0 (.int 28)))))
    .nx)))
def F__law_word_of : List D → R D := runD 2 (.ok .none) G__law_word_of
def G__law_changed (Fw : List D → R D) : Nv → Rs :=
    (seqS (setS 2 (callV Lw.F_row (aC (gv 0) (aC (k0 (.int 5)) (aC (k0 (.int 720720)) a0)))))
    (seqS (setS 3 (e2 modV (eN intV (aC (e2 ixV (gv 2) (k0 (.int 0))) a0)) (eN lenV (aC (gv 1) a0))))
    (seqS (setS 4 (e2 ixV (gv 1) (gv 3)))
    (seqS (setS 5 (e2 modV (eN intV (aC (e2 ixV (gv 2) (k0 (.int 1))) a0)) (e2 addV (eN lenV (aC (gv 4) a0)) (k0 (.int 1)))))
    (seqS (setS 6 (e2 modV (eN intV (aC (e2 ixV (gv 2) (k0 (.int 2))) a0)) (k0 (.int 9))))
    (seqS (ifS (tb (e2 eqV' (gv 6) (k0 (.int 0)))) (seqS (retS (e2 addV (e2 addV (slE slV (gv 1) p0 (p1 (gv 3))) (lstV (aC (e2 addV (slE slV (gv 4) p0 (p1 (gv 5))) (slE slV (gv 4) (p1 (e2 addV (gv 5) (k0 (.int 1)))) p0)) a0))) (slE slV (gv 1) (p1 (e2 addV (gv 3) (k0 (.int 1)))) p0)))
    .nx) .nx)
    (seqS (ifS (tb (e2 eqV' (gv 6) (k0 (.int 1)))) (seqS (retS (e2 addV (e2 addV (slE slV (gv 1) p0 (p1 (gv 3))) (lstV (aC (e2 addV (slE slV (gv 4) p0 (p1 (gv 5))) (slE slV (gv 4) (p1 (eN maxV (aC (k0 (.int 0)) (aC (e2 subV (gv 5) (k0 (.int 1))) a0)))) p0)) a0))) (slE slV (gv 1) (p1 (e2 addV (gv 3) (k0 (.int 1)))) p0)))
    .nx) .nx)
    (seqS (ifS (tb (e2 ltA (gv 6) (k0 (.int 6)))) (seqS (retS (e2 addV (e2 addV (slE slV (gv 1) p0 (p1 (gv 3))) (lstV (aC (e2 addV (e2 addV (slE slV (gv 4) p0 (p1 (gv 5))) (lstV (aC (callV Fw (aC (e2 ixV (gv 2) (k0 (.int 3))) a0)) a0))) (slE slV (gv 4) (p1 (e2 addV (gv 5) (e2 modV (eN intV (aC (gv 6) a0)) (k0 (.int 2))))) p0)) a0))) (slE slV (gv 1) (p1 (e2 addV (gv 3) (k0 (.int 1)))) p0)))
    .nx) .nx)
    (seqS (ifS (tb (e2 eqV' (gv 6) (k0 (.int 6)))) (seqS (retS (e2 addV (slE slV (gv 1) p0 (p1 (gv 3))) (slE slV (gv 1) (p1 (e2 addV (gv 3) (k0 (.int 1)))) p0)))
    .nx) .nx)
    (seqS (ifS (tb (e2 eqV' (gv 6) (k0 (.int 7)))) (seqS (retS (e2 addV (e2 addV (slE slV (gv 1) p0 (p1 (gv 3))) (slE slV (gv 1) (p1 (e2 addV (gv 3) (k0 (.int 1)))) p0)) (lstV (aC (gv 4) a0))))
    .nx) .nx)
    (seqS (setS 7 (e2 ixV (lstV (aC (e2 modV (eN intV (aC (e2 ixV (gv 2) (k0 (.int 4))) a0)) (e2 addV (eN lenV (aC (gv 1) a0)) (k0 (.int 1)))) (aC (eN lenV (aC (gv 1) a0)) a0))) (e2 modV (eN intV (aC (e2 fdivV (e2 ixV (gv 2) (k0 (.int 3))) (k0 (.int 5))) a0)) (k0 (.int 2)))))
    (seqS (retS (e2 addV (e2 addV (slE slV (gv 1) p0 (p1 (gv 7))) (lstV (aC (e2 ixV (lstV (aC (gv 4) (aC (lstV (aC (k0 (.str "")) a0)) (aC (lstV (aC (k0 (.str "")) a0)) (aC (lstV (aC (k0 (.str "at")) a0)) (aC (lstV (aC (k0 (.str "0")) (aC (k0 (.str "at")) (aC (k0 (.str "0")) a0)))) a0)))))) (e2 modV (eN intV (aC (e2 ixV (gv 2) (k0 (.int 3))) a0)) (k0 (.int 5)))) a0))) (slE slV (gv 1) (p1 (gv 7)) p0)))
    .nx))))))))))))
def F__law_changed (Fw : List D → R D) : List D → R D := runD 8 (.ok .none) (G__law_changed Fw)

/-! ### split, then joined -/
theorem spl_ne (S : List Nat) : ∀ (l acc : List Nat), spl S 0 acc l ≠ []
  | [], acc => by rw [spl_nil]; exact List.cons_ne_nil _ _
  | c :: r, acc => by
    cases h : pre S (c :: r) with
    | true => rw [spl_hit h]; exact List.cons_ne_nil _ _
    | false => rw [spl_miss h]; exact spl_ne S r _
theorem join_spl (s : Nat) : ∀ (l acc : List Nat), joinL [s] (spl [s] 0 acc l) = acc ++ l
  | [], acc => by rw [spl_nil, List.append_nil]; rfl
  | c :: r, acc => by
    cases h : pre [s] (c :: r) with
    | true =>
      have hc : c = s := by
        have h : ([c] == [s]) = true := h
        simpa using h
      rw [spl_hit h]
      have ih := join_spl s r []
      show joinL [s] (acc :: spl [s] 0 [] r) = _
      cases q : spl [s] 0 [] r with
      | nil => exact absurd q (spl_ne _ _ _)
      | cons p ps =>
        rw [q] at ih
        show acc ++ ([s] ++ joinL [s] (p :: ps)) = _
        rw [ih, hc]
        rfl
    | false =>
      rw [spl_miss h, join_spl s r]
      rw [List.append_assoc]
      rfl
theorem join_split {x y : Str} {s : Nat} (ey : tl y = [s]) (hk : y.cps.all (· < 256) = true) : Txt.join y (Txt.split x y) = x := by
  refine ext_tl ?_
  rw [join_eq, tl_join, split_spl x y (by rw [ey]; simp) (kind_ok hk), ey, join_spl]
  rfl
theorem joinL_mem (S : List Nat) : ∀ {ps : List (List Nat)} {p : List Nat}, p ∈ ps → p.length ≤ (joinL S ps).length
  | [], _, m => absurd m List.not_mem_nil
  | [q], p, m => by rw [List.mem_singleton.mp m]; exact Nat.le_refl _
  | q :: r :: ps, p, m => by
    show p.length ≤ (q ++ (S ++ joinL S (r :: ps))).length
    rw [List.length_append, List.length_append]
    rcases List.mem_cons.mp m with rfl | m
    · omega
    · have := joinL_mem S (ps := r :: ps) m
      omega
theorem split_len {x y p : Str} {s : Nat} (ey : tl y = [s]) (hk : y.cps.all (· < 256) = true) (m : p ∈ Txt.split x y) : p.length ≤ x.length := by
  have e := join_split (x := x) ey hk
  have h := joinL_mem (tl y) (ps := (Txt.split x y).map tl) (p := tl p) (List.mem_map.mpr ⟨p, m, rfl⟩)
  rw [← tl_join, ← join_eq, e] at h
  rw [len_tl, len_tl]
  exact h
theorem spl_len (s : Nat) : ∀ (l acc : List Nat), (spl [s] 0 acc l).length ≤ l.length + 1
  | [], acc => by rw [spl_nil]; exact Nat.le_refl _
  | c :: r, acc => by
    cases h : pre [s] (c :: r) with
    | true =>
      rw [spl_hit h, List.length_cons, List.length_cons]
      exact Nat.succ_le_succ (spl_len s r [])
    | false =>
      rw [spl_miss h, List.length_cons]
      exact Nat.le_succ_of_le (spl_len s r _)
theorem split_cnt {x y : Str} {s : Nat} (ey : tl y = [s]) (hk : y.cps.all (· < 256) = true) : (Txt.split x y).length ≤ x.length + 1 := by
  have h := congrArg List.length (split_spl x y (by rw [ey]; simp) (kind_ok hk))
  rw [List.length_map, ey] at h
  rw [h, len_tl]
  exact spl_len s _ _
theorem nl1 : tl (Str.ofString "\n") = [10] := by decide +kernel
theorem sp1 : tl (Str.ofString " ") = [32] := by decide +kernel
/-- the words by line -/
def wlL (t : Str) : List (List Str) := if t = "" then [] else (Txt.split t "\n").map fun l => Txt.split l " "
def lineD (ws : List Str) : D := .list (ws.map PyData.str)
def splD : D → D
  | .str l => lineD (Txt.split l " ")
  | _ => .none
theorem split_nl {t : Str} (hl : t.length ≤ 1000000) : splitV t (.str "\n") = some (.list ((Txt.split t "\n").map PyData.str)) :=
  if_pos ⟨by decide +kernel, by rw [lineN_eq]; omega⟩
theorem split_sp {t : Str} (hl : t.length ≤ 1000000) : splitV t (.str " ") = some (lineD (Txt.split t " ")) :=
  if_pos ⟨by decide +kernel, by rw [lineN_eq]; omega⟩
theorem wl_map (t : Str) : (((Txt.split t "\n").map PyData.str).filter fun _ => true).map splD = ((Txt.split t "\n").map fun l => Txt.split l " ").map lineD := by
  rw [List.filter_eq_self.mpr fun _ _ => rfl, List.map_map, List.map_map]
  rfl
theorem wbl_ok {t : Str} (hl : t.length ≤ 1000000) : F__words_by_line [.str t] = .ok (.list ((wlL t).map lineD)) := by
  refine Wn.eq (wn_runD ?_)
  show Sn (G__words_by_line [.d (.str t), .no]) _ _ _ _
  unfold G__words_by_line wlL
  simp only [wn_ok, wn_some, wn_only, wn_noex, wn_e2, wn_e1, wn_eN, wn_a0, wn_aC, wn_call, wn_tb, wn_tup, wn_lst, wn_andB, wn_orB, wn_notB, wn_andV, wn_orV, wn_notV, wn_ifV, wn_iA, wn_iR1, wn_iR2, wn_iZ, wn_iEn, wn_iRR, wn_sl, wn_p0, wn_p1, wn_up, wn_upB, wn_upI, wn_x2, wn_x0, wn_xC, wn_xN, wn_xb, wn_xAnd, wn_xOr, wn_xNot, wn_xIf, wn_xCall, wn_xR1, wn_xR2, sn_nx, sn_rt, sn_bk, sn_ct, sn_seq, sn_set, sn_ret, sn_expr, sn_if, sn_for, sn_xSet, sn_xRet, sn_xExpr, sn_xIf, sn_xFor, sn_asg, sn_xAsg, sn_own, sn_xOwn, gv_zero, gv_succ, go_own, go_dat, go_succ, k0_def, gN_def, tru_bool, tru_none, tru_int, tru_list, asSeq_list, asSeq_tup, addV_int, subV_int, ltA_i, leA_i, gtA_i, geA_i, negV_int, intV_int, lenV_list, lenV_tup, ixV_list, ixV_tup, asInt_int, slV_list, slV_tup, slL_list, revV_tup, revV_list, tupleV_list, listV_list, listV_tup, eqV_str, neV_str, eqV_int, List.set_cons_zero, List.set_cons_succ, List.getElem?_cons_zero, List.getElem?_cons_succ, List.length_cons, List.length_nil, ↓reduceIte, Bool.false_eq_true, Bool.not_true, Bool.not_false, wn_ite, gT2, gT3, neV_tup, eqV_tup, in_tup, notin_tup', lineN_eq, Nat.reduceAdd, Nat.reduceLeDiff, Nat.zero_le, true_and, and_true, List.map_nil, List.map_cons, exists_eq_left', Option.some.injEq, PyData.list.injEq, exists_eq_left, PyData.int.injEq, R.ok.injEq, Sl.own.injEq]
  by_cases c : t = ""
  · rw [decide_eq_true c, if_pos c]
    rfl
  · rw [decide_eq_false c, if_neg c]
    simp only [Bool.false_eq_true, ↓reduceIte]
    refine wn_comp (xs := (Txt.split t "\n").map PyData.str) (fun _ => true) splD ?_ ?_ ?_ ?_
    · simp only [wn_ok, wn_some, wn_only, wn_noex, wn_e2, wn_e1, wn_eN, wn_a0, wn_aC, wn_call, wn_tb, wn_tup, wn_lst, wn_andB, wn_orB, wn_notB, wn_andV, wn_orV, wn_notV, wn_ifV, wn_iA, wn_iR1, wn_iR2, wn_iZ, wn_iEn, wn_iRR, wn_sl, wn_p0, wn_p1, wn_up, wn_upB, wn_upI, wn_x2, wn_x0, wn_xC, wn_xN, wn_xb, wn_xAnd, wn_xOr, wn_xNot, wn_xIf, wn_xCall, wn_xR1, wn_xR2, sn_nx, sn_rt, sn_bk, sn_ct, sn_seq, sn_set, sn_ret, sn_expr, sn_if, sn_for, sn_xSet, sn_xRet, sn_xExpr, sn_xIf, sn_xFor, sn_asg, sn_xAsg, sn_own, sn_xOwn, gv_zero, gv_succ, go_own, go_dat, go_succ, k0_def, gN_def, tru_bool, tru_none, tru_int, tru_list, asSeq_list, asSeq_tup, addV_int, subV_int, ltA_i, leA_i, gtA_i, geA_i, negV_int, intV_int, lenV_list, lenV_tup, ixV_list, ixV_tup, asInt_int, slV_list, slV_tup, slL_list, revV_tup, revV_list, tupleV_list, listV_list, listV_tup, eqV_str, neV_str, eqV_int, List.set_cons_zero, List.set_cons_succ, List.getElem?_cons_zero, List.getElem?_cons_succ, List.length_cons, List.length_nil, ↓reduceIte, Bool.false_eq_true, Bool.not_true, Bool.not_false, wn_ite, gT2, gT3, neV_tup, eqV_tup, in_tup, notin_tup', lineN_eq, Nat.reduceAdd, Nat.reduceLeDiff, Nat.zero_le, true_and, and_true, List.map_nil, List.map_cons, exists_eq_left', Option.some.injEq, PyData.list.injEq, exists_eq_left, PyData.int.injEq, R.ok.injEq, Sl.own.injEq, wn_s2, PyData.str.injEq, split_nl hl]
    · intro y m
      obtain ⟨l, ml, rfl⟩ := List.mem_map.mp m
      have := split_len nl1 (by decide +kernel) ml
      refine ⟨[.d (.str t), .d (.str l)], rfl, wn_ok.mpr ⟨rfl, fun _ => ?_⟩⟩
      simp only [wn_ok, wn_some, wn_only, wn_noex, wn_e2, wn_e1, wn_eN, wn_a0, wn_aC, wn_call, wn_tb, wn_tup, wn_lst, wn_andB, wn_orB, wn_notB, wn_andV, wn_orV, wn_notV, wn_ifV, wn_iA, wn_iR1, wn_iR2, wn_iZ, wn_iEn, wn_iRR, wn_sl, wn_p0, wn_p1, wn_up, wn_upB, wn_upI, wn_x2, wn_x0, wn_xC, wn_xN, wn_xb, wn_xAnd, wn_xOr, wn_xNot, wn_xIf, wn_xCall, wn_xR1, wn_xR2, sn_nx, sn_rt, sn_bk, sn_ct, sn_seq, sn_set, sn_ret, sn_expr, sn_if, sn_for, sn_xSet, sn_xRet, sn_xExpr, sn_xIf, sn_xFor, sn_asg, sn_xAsg, sn_own, sn_xOwn, gv_zero, gv_succ, go_own, go_dat, go_succ, k0_def, gN_def, tru_bool, tru_none, tru_int, tru_list, asSeq_list, asSeq_tup, addV_int, subV_int, ltA_i, leA_i, gtA_i, geA_i, negV_int, intV_int, lenV_list, lenV_tup, ixV_list, ixV_tup, asInt_int, slV_list, slV_tup, slL_list, revV_tup, revV_list, tupleV_list, listV_list, listV_tup, eqV_str, neV_str, eqV_int, List.set_cons_zero, List.set_cons_succ, List.getElem?_cons_zero, List.getElem?_cons_succ, List.length_cons, List.length_nil, ↓reduceIte, Bool.false_eq_true, Bool.not_true, Bool.not_false, wn_ite, gT2, gT3, neV_tup, eqV_tup, in_tup, notin_tup', lineN_eq, Nat.reduceAdd, Nat.reduceLeDiff, Nat.zero_le, true_and, and_true, List.map_nil, List.map_cons, exists_eq_left', Option.some.injEq, PyData.list.injEq, exists_eq_left, PyData.int.injEq, R.ok.injEq, Sl.own.injEq, wn_s2, PyData.str.injEq, split_sp (t := l) (by omega)]
      rfl
    · have := split_cnt (x := t) nl1 (by decide +kernel)
      rw [List.length_map, lineN_eq]
      omega
    · rw [wl_map]
/-! ### numbers are written one way -/
theorem canon : ∀ (n : Nat) (cs : List Nat), cs.length = n → NumText.AllDigits cs → cs ≠ [] → (cs.head? ≠ some 48 ∨ cs = [48]) → numL (NumText.digitsVal cs) = cs
  | 0, cs, hn, _, ne, _ => absurd (List.length_eq_zero_iff.mp hn) ne
  | n + 1, cs, hn, ad, ne, hh => by
    obtain ⟨r, d, rfl⟩ : ∃ r d, cs = r ++ [d] := ⟨cs.dropLast, cs.getLast ne, (List.dropLast_concat_getLast ne).symm⟩
    have hd := ad d (List.mem_append_right _ (List.mem_singleton.mpr rfl))
    have val : NumText.digitsVal (r ++ [d]) = NumText.digitsVal r * 10 + (d - 48) := by
      unfold NumText.digitsVal
      rw [List.foldl_append]
      rfl
    rw [val]
    by_cases c : r = []
    · subst c
      show numL (0 * 10 + (d - 48)) = [d]
      rw [numL_lt (by omega)]
      congr 1
      omega
    · have adr : NumText.AllDigits r := fun x m => ad x (List.mem_append_left _ m)
      have hr : r.head? ≠ some 48 := by
        rcases hh with h | h
        · cases r with
          | nil => exact absurd rfl c
          | cons a r => exact h
        · exfalso
          have := congrArg List.length h
          rw [List.length_append, List.length_singleton, List.length_singleton] at this
          have : r.length = 0 := by omega
          exact c (List.length_eq_zero_iff.mp this)
      have ih := canon n r (by rw [List.length_append] at hn; simp at hn; omega) adr c (.inl hr)
      have pos : 1 ≤ NumText.digitsVal r := by
        apply Classical.byContradiction
        intro z
        have : NumText.digitsVal r = 0 := by omega
        rw [this, numL_lt (by decide)] at ih
        rw [← ih] at hr
        exact hr rfl
      rw [numL_step (by omega)]
      have e1 : (NumText.digitsVal r * 10 + (d - 48)) / 10 = NumText.digitsVal r := by omega
      have e2 : (NumText.digitsVal r * 10 + (d - 48)) % 10 = d - 48 := by omega
      rw [e1, e2, ih]
      congr 2
      omega
theorem canon_word {w : Str} (h : numB (tl w) = true) : numI (valB (tl w)) = w := by
  refine ext_tl ?_
  rw [tl_numI]
  obtain ⟨h1, h2, h3⟩ := numB_facts h
  have h4 : (digs (tl w)).head? ≠ some 48 ∨ tl w = [48] := by
    unfold numB at h
    simp only [Bool.and_eq_true, Bool.or_eq_true, Bool.not_eq_true', decide_eq_false_iff_not, decide_eq_true_eq] at h
    exact h.2
  have ne : digs (tl w) ≠ [] := fun z => by rw [z] at h1; simp at h1
  generalize tl w = l at *
  by_cases c : ∃ cs, l = 45 :: cs
  · obtain ⟨cs, rfl⟩ := c
    have hh : cs.head? ≠ some 48 := by
      rcases h4 with h | h
      · exact h
      · simp at h
    have cn := canon _ cs rfl h3 ne (.inl hh)
    have pos : 1 ≤ NumText.digitsVal cs := by
      apply Classical.byContradiction
      intro z
      have : NumText.digitsVal cs = 0 := by omega
      rw [this, numL_lt (by decide)] at cn
      rw [← cn] at hh
      exact hh rfl
    show sgnL (-((NumText.digitsVal cs : Nat) : Int)) = _
    unfold sgnL
    rw [if_neg (by omega)]
    have e : (-(-((NumText.digitsVal cs : Nat) : Int))).toNat = NumText.digitsVal cs := by omega
    rw [e, cn]
  · have ed : digs l = l := by
      unfold digs
      split
      · rename_i cs
        exact absurd ⟨cs, rfl⟩ c
      · rfl
    have ev : valB l = ((NumText.digitsVal l : Nat) : Int) := by
      unfold valB
      split
      · rename_i cs
        exact absurd ⟨cs, rfl⟩ c
      · rfl
    rw [ed] at h3 ne h4
    rw [ev]
    unfold sgnL
    rw [if_pos (by omega), Int.toNat_natCast]
    exact canon _ l rfl h3 ne h4
/-! ### the law's reading of a number -/
def numD (w : Str) : D := if numB (tl w) = true then .int (valB (tl w)) else .none
theorem sl_take {w : Str} : tl (Txt.slice w none (some 1)) = (tl w).take 1 := by
  have e : w = SX.S (tl w) := (mk_tl w).symm
  conv => lhs; rw [e]
  rw [SX.slice_to (by decide)]
  rfl
theorem sl_drop {w : Str} : tl (Txt.slice w (some 1) none) = (tl w).drop 1 := by
  have e : w = SX.S (tl w) := (mk_tl w).symm
  conv => lhs; rw [e]
  rw [SX.slice_from (by decide)]
  rfl
def neg (l : List Nat) : Bool := decide (l.take 1 = [45])
theorem digs_neg (l : List Nat) : digs l = if neg l = true then l.drop 1 else l := by
  unfold neg
  cases l with
  | nil => rfl
  | cons c cs =>
    show digs (c :: cs) = if decide ([c] = [45]) = true then cs else c :: cs
    by_cases h : c = 45
    · subst h
      rfl
    · rw [decide_eq_false (by simpa using h), if_neg Bool.false_ne_true]
      unfold digs
      split
      · rename_i e
        cases e
        exact absurd rfl h
      · rfl
theorem val_neg (l : List Nat) : valB l = if neg l = true then -((NumText.digitsVal (digs l) : Nat) : Int) else ((NumText.digitsVal (digs l) : Nat) : Int) := by
  rw [digs_neg]
  unfold neg
  cases l with
  | nil => rfl
  | cons c cs =>
    show valB (c :: cs) = if decide ([c] = [45]) = true then -((NumText.digitsVal (if decide ([c] = [45]) = true then cs else c :: cs) : Nat) : Int) else ((NumText.digitsVal (if decide ([c] = [45]) = true then cs else c :: cs) : Nat) : Int)
    by_cases h : c = 45
    · subst h
      rfl
    · rw [decide_eq_false (by simpa using h), if_neg Bool.false_ne_true, if_neg Bool.false_ne_true]
      unfold valB
      split
      · rename_i e
        cases e
        exact absurd rfl h
      · rfl
theorem index_dig {c : Nat} (h : digB c = true) : indexT "0123456789" (.str ⟨#[c]⟩) = some (.int ((c - 48 : Nat) : Int)) := by
  unfold digB at h
  rw [Bool.and_eq_true, decide_eq_true_iff, decide_eq_true_iff] at h
  obtain ⟨d, hd, rfl⟩ : ∃ d, d < 10 ∧ c = 48 + d := ⟨c - 48, by omega, by omega⟩
  have e : ∀ d, d < 10 → Txt.index0 "0123456789" ⟨#[48 + d]⟩ = some d := by decide +kernel
  show (Txt.index0 "0123456789" ⟨#[48 + d]⟩).map (fun k => PyData.int ((k : Nat) : Int)) = _
  rw [e d hd, Nat.add_sub_cancel_left]
  rfl
theorem notin_dig (c : Nat) : inT true (.str ⟨#[c]⟩) (.str "0123456789") = some (.bool (!digB c)) := by
  show some (PyData.bool (decide (c ∈ (Str.ofString "0123456789").cps.toList) != true)) = _
  rw [digits_are, Bool.bne_true]
theorem one_str (c d : Nat) : decide ((⟨#[c]⟩ : Str) = ⟨#[d]⟩) = decide (c = d) := by
  rw [decide_eq_decide]
  constructor
  · intro e
    have := congrArg (fun s : Str => s.cps.toList) e
    simpa using this
  · rintro rfl; rfl
theorem law_number_ok {w : Str} (hl : w.length ≤ 1000000) : F__law_number [.str w] = .ok (numD w) := by
  refine Wn.eq (wn_runD ?_)
  show Sn (G__law_number [.d (.str w), .no, .no, .no]) _ _ _ _
  unfold G__law_number
  have lw := len_tl w
  have t1 : slT none (some 1) (.str w) = some (.str (Txt.slice w none (some 1))) := if_pos (by rw [lineN_eq]; omega)
  have t2 : slT (some 1) none (.str w) = some (.str (Txt.slice w (some 1) none)) := if_pos (by rw [lineN_eq]; omega)
  have dash : decide (Txt.slice w none (some 1) = "-") = neg (tl w) := by
    unfold neg
    rw [decide_eq_decide]
    have e : tl (Str.ofString "-") = [45] := by decide +kernel
    rw [← e, ← sl_take]
    exact ⟨fun z => by rw [z], fun z => ext_tl z⟩
  obtain ⟨v, hv, tv⟩ : ∃ v : Str, v = (if neg (tl w) = true then Txt.slice w (some 1) none else w) ∧ tl v = digs (tl w) := by
    refine ⟨_, rfl, ?_⟩
    rw [digs_neg]
    split
    · exact sl_drop
    · rfl
  have vl : v.length = (digs (tl w)).length := by rw [len_tl, tv]
  have dle : (digs (tl w)).length ≤ (tl w).length := by
    rw [digs_neg]
    split
    · rw [List.length_drop]; omega
    · exact Nat.le_refl _
  have rest : Sn ((seqS (ifS (orB (notB (tb (chainV leA leA (k0 (.int 1)) (eN lenTV (aC (gv 1) a0)) (k0 (.int 6))))) (andB (tb (e2 eqV' (e2 ixT (gv 1) (k0 (.int 0))) (k0 (.str "0")))) (tb (e2 neV' (gv 0) (k0 (.str "0")))))) (seqS (retS (k0 .none))
    .nx) .nx)
    (seqS (setS 2 (k0 (.int 0)))
    (seqS (forS (iSg (gv 1)) (gN 3) (seqS (ifS (tb (e2 (inT true) (gv 3) (k0 (.str "0123456789")))) (seqS (retS (k0 .none))
    .nx) .nx)
    (seqS (setS 2 (e2 addV (e2 mulV (gv 2) (k0 (.int 10))) (s2 indexT (k0 (.str "0123456789")) (gv 3))))
    .nx)))
    (seqS (retS (e2 ixV (lstV (aC (gv 2) (aC (e1 negV (gv 2)) a0))) (eN intV (aC (e2 eqV' (slE slT (gv 0) p0 (p1 (k0 (.int 1)))) (k0 (.str "-"))) a0))))
    .nx)))) [.d (.str w), .d (.str v), .no, .no]) (fun _ => False) (fun d _ => d = numD w) (fun _ => False) (fun _ => False) := by
    have n1 : lenTV [.str v] = some (.int ((digs (tl w)).length : Nat)) := by
      show (if v.length ≤ lineN then some (PyData.int v.length) else none) = _
      rw [if_pos (by rw [lineN_eq]; omega), vl]
    rw [sn_seq, sn_if]
    simp only [wn_ok, wn_some, wn_only, wn_noex, wn_e2, wn_e1, wn_eN, wn_a0, wn_aC, wn_call, wn_tb, wn_tup, wn_lst, wn_andB, wn_orB, wn_notB, wn_andV, wn_orV, wn_notV, wn_ifV, wn_iA, wn_iR1, wn_iR2, wn_iZ, wn_iEn, wn_iRR, wn_sl, wn_p0, wn_p1, wn_up, wn_upB, wn_upI, wn_x2, wn_x0, wn_xC, wn_xN, wn_xb, wn_xAnd, wn_xOr, wn_xNot, wn_xIf, wn_xCall, wn_xR1, wn_xR2, sn_nx, sn_rt, sn_bk, sn_ct, sn_seq, sn_set, sn_ret, sn_expr, sn_if, sn_for, sn_xSet, sn_xRet, sn_xExpr, sn_xIf, sn_xFor, sn_asg, sn_xAsg, sn_own, sn_xOwn, gv_zero, gv_succ, go_own, go_dat, go_succ, k0_def, gN_def, tru_bool, tru_none, tru_int, tru_list, asSeq_list, asSeq_tup, addV_int, subV_int, ltA_i, leA_i, gtA_i, geA_i, negV_int, intV_int, lenV_list, lenV_tup, ixV_list, ixV_tup, asInt_int, slV_list, slV_tup, slL_list, revV_tup, revV_list, tupleV_list, listV_list, listV_tup, eqV_str, neV_str, eqV_int, List.set_cons_zero, List.set_cons_succ, List.getElem?_cons_zero, List.getElem?_cons_succ, List.length_cons, List.length_nil, ↓reduceIte, Bool.false_eq_true, Bool.not_true, Bool.not_false, wn_ite, gT2, gT3, neV_tup, eqV_tup, in_tup, notin_tup', lineN_eq, Nat.reduceAdd, Nat.reduceLeDiff, Nat.zero_le, true_and, and_true, List.map_nil, List.map_cons, exists_eq_left', Option.some.injEq, PyData.list.injEq, exists_eq_left, PyData.int.injEq, R.ok.injEq, Sl.own.injEq, wn_chain, n1]
    by_cases c1 : 1 ≤ (digs (tl w)).length
    · rw [decide_eq_true (show (1 : Int) ≤ ((digs (tl w)).length : Int) by omega)]
      simp only [↓reduceIte]
      by_cases c2 : (digs (tl w)).length ≤ 6
      · rw [decide_eq_true (show ((digs (tl w)).length : Int) ≤ 6 by omega)]
        simp only [Bool.not_true, Bool.false_eq_true, ↓reduceIte]
        obtain ⟨c, cs, ec⟩ : ∃ c cs, digs (tl w) = c :: cs := by
          cases h : digs (tl w) with
          | nil => rw [h] at c1; simp at c1
          | cons c cs => exact ⟨c, cs, rfl⟩
        have ix : ixT (.str v) (.int 0) = some (.str ⟨#[c]⟩) := by
          show (if v.length ≤ lineN then (L2.atI v.cps.toList 0).map fun c => PyData.str ⟨#[c]⟩ else none) = _
          rw [if_pos (by rw [lineN_eq]; omega), show v.cps.toList = c :: cs from tv.trans ec]
          have a0 : L2.atI (c :: cs) 0 = some c := by simp [L2.atI, L2.ixN]
          rw [a0]
          rfl
        have z1 : decide ((⟨#[c]⟩ : Str) = "0") = decide (c = 48) := by
          have e0 : (Str.ofString "0") = ⟨#[48]⟩ := by decide +kernel
          rw [e0]
          exact one_str c 48
        have wz : decide (w = "0") = decide (tl w = [48]) := by
          have e0 : tl (Str.ofString "0") = [48] := by decide +kernel
          rw [decide_eq_decide, ← e0]
          exact ⟨fun e => by rw [e], fun e => ext_tl e⟩
        have nb : numB (tl w) = ((digs (tl w)).all digB && (!decide (c = 48) || decide (tl w = [48]))) := by
          unfold numB
          rw [decide_eq_true c1, decide_eq_true c2, ec]
          simp
        simp only [wn_ok, wn_some, wn_only, wn_noex, wn_e2, wn_e1, wn_eN, wn_a0, wn_aC, wn_call, wn_tb, wn_tup, wn_lst, wn_andB, wn_orB, wn_notB, wn_andV, wn_orV, wn_notV, wn_ifV, wn_iA, wn_iR1, wn_iR2, wn_iZ, wn_iEn, wn_iRR, wn_sl, wn_p0, wn_p1, wn_up, wn_upB, wn_upI, wn_x2, wn_x0, wn_xC, wn_xN, wn_xb, wn_xAnd, wn_xOr, wn_xNot, wn_xIf, wn_xCall, wn_xR1, wn_xR2, sn_nx, sn_rt, sn_bk, sn_ct, sn_seq, sn_set, sn_ret, sn_expr, sn_if, sn_for, sn_xSet, sn_xRet, sn_xExpr, sn_xIf, sn_xFor, sn_asg, sn_xAsg, sn_own, sn_xOwn, gv_zero, gv_succ, go_own, go_dat, go_succ, k0_def, gN_def, tru_bool, tru_none, tru_int, tru_list, asSeq_list, asSeq_tup, addV_int, subV_int, ltA_i, leA_i, gtA_i, geA_i, negV_int, intV_int, lenV_list, lenV_tup, ixV_list, ixV_tup, asInt_int, slV_list, slV_tup, slL_list, revV_tup, revV_list, tupleV_list, listV_list, listV_tup, eqV_str, neV_str, eqV_int, List.set_cons_zero, List.set_cons_succ, List.getElem?_cons_zero, List.getElem?_cons_succ, List.length_cons, List.length_nil, ↓reduceIte, Bool.false_eq_true, Bool.not_true, Bool.not_false, wn_ite, gT2, gT3, neV_tup, eqV_tup, in_tup, notin_tup', lineN_eq, Nat.reduceAdd, Nat.reduceLeDiff, Nat.zero_le, true_and, and_true, List.map_nil, List.map_cons, exists_eq_left', Option.some.injEq, PyData.list.injEq, exists_eq_left, PyData.int.injEq, R.ok.injEq, Sl.own.injEq, ix]
        rw [z1, wz]
        have lp : ∀ q : Bool, q = (!decide (c = 48) || decide (tl w = [48])) → q = true → Sn (loopG (gN 3) (seqS (ifS (tb (e2 (inT true) (gv 3) (k0 (.str "0123456789")))) (seqS (retS (k0 .none))
            .nx) .nx)
            (seqS (setS 2 (e2 addV (e2 mulV (gv 2) (k0 (.int 10))) (s2 indexT (k0 (.str "0123456789")) (gv 3))))
            .nx)) (signsD v) [.d (.str w), .d (.str v), .d (.int 0), .no]) (fun η1 => Wn (gv 2 η1) fun a => Wn (gv 2 η1) fun a1 => Wn (R.of (negV a1)) fun a2 => Wn (gv 0 η1) fun x => Wn (R.of (slT none (some 1) x)) fun a3 => Wn (R.of (eqV' a3 (.str "-"))) fun a4 => Wn (R.of (intV [a4])) fun b => Wn (R.of (ixV (.list [a, a2]) b)) fun d => d = numD w) (fun d _ => d = numD w) (fun _ => False) (fun _ => False) := fun q hq qt => by
          have nbq : numB (tl w) = (digs (tl w)).all digB := by rw [nb, ← hq, qt, Bool.and_true]
          refine sn_loop (fun xs η => ∃ (done rest : List Nat) (s3 : Sl), xs = rest.map (fun c => PyData.str ⟨#[c]⟩) ∧ digs (tl w) = done ++ rest ∧ done.all digB = true ∧ η = [.d (.str w), .d (.str v), .d (.int ((NumText.digitsVal done : Nat) : Int)), s3]) ?_ ?_ _ _ ⟨[], digs (tl w), .no, by unfold signsD; rw [← tv], rfl, rfl, rfl⟩
          · rintro x xs η ⟨done, rest, s3, e, hd, ha, rfl⟩
            cases rest with
            | nil => cases e
            | cons d rest =>
              rw [List.map_cons] at e
              obtain ⟨rfl, rfl⟩ := List.cons.inj e
              refine ⟨[.d (.str w), .d (.str v), .d (.int ((NumText.digitsVal done : Nat) : Int)), .d (.str ⟨#[d]⟩)], rfl, ?_⟩
              simp only [wn_ok, wn_some, wn_only, wn_noex, wn_e2, wn_e1, wn_eN, wn_a0, wn_aC, wn_call, wn_tb, wn_tup, wn_lst, wn_andB, wn_orB, wn_notB, wn_andV, wn_orV, wn_notV, wn_ifV, wn_iA, wn_iR1, wn_iR2, wn_iZ, wn_iEn, wn_iRR, wn_sl, wn_p0, wn_p1, wn_up, wn_upB, wn_upI, wn_x2, wn_x0, wn_xC, wn_xN, wn_xb, wn_xAnd, wn_xOr, wn_xNot, wn_xIf, wn_xCall, wn_xR1, wn_xR2, sn_nx, sn_rt, sn_bk, sn_ct, sn_seq, sn_set, sn_ret, sn_expr, sn_if, sn_for, sn_xSet, sn_xRet, sn_xExpr, sn_xIf, sn_xFor, sn_asg, sn_xAsg, sn_own, sn_xOwn, gv_zero, gv_succ, go_own, go_dat, go_succ, k0_def, gN_def, tru_bool, tru_none, tru_int, tru_list, asSeq_list, asSeq_tup, addV_int, subV_int, ltA_i, leA_i, gtA_i, geA_i, negV_int, intV_int, lenV_list, lenV_tup, ixV_list, ixV_tup, asInt_int, slV_list, slV_tup, slL_list, revV_tup, revV_list, tupleV_list, listV_list, listV_tup, eqV_str, neV_str, eqV_int, List.set_cons_zero, List.set_cons_succ, List.getElem?_cons_zero, List.getElem?_cons_succ, List.length_cons, List.length_nil, ↓reduceIte, Bool.false_eq_true, Bool.not_true, Bool.not_false, wn_ite, gT2, gT3, neV_tup, eqV_tup, in_tup, notin_tup', lineN_eq, Nat.reduceAdd, Nat.reduceLeDiff, Nat.zero_le, true_and, and_true, List.map_nil, List.map_cons, exists_eq_left', Option.some.injEq, PyData.list.injEq, exists_eq_left, PyData.int.injEq, R.ok.injEq, Sl.own.injEq, notin_dig]
              cases hdig : digB d with
              | false =>
                have z : numB (tl w) = false := by rw [nbq, hd, List.all_append, List.all_cons, hdig]; simp
                simp only [Bool.not_false, ↓reduceIte]
                unfold numD
                rw [z]
                rfl
              | true =>
                simp only [Bool.not_true, Bool.false_eq_true, ↓reduceIte]
                have mu : mulV (.int ((NumText.digitsVal done : Nat) : Int)) (.int 10) = some (.int (((NumText.digitsVal done : Nat) : Int) * 10)) := mulV_int (.inr (by decide))
                simp only [wn_ok, wn_some, wn_only, wn_noex, wn_e2, wn_e1, wn_eN, wn_a0, wn_aC, wn_call, wn_tb, wn_tup, wn_lst, wn_andB, wn_orB, wn_notB, wn_andV, wn_orV, wn_notV, wn_ifV, wn_iA, wn_iR1, wn_iR2, wn_iZ, wn_iEn, wn_iRR, wn_sl, wn_p0, wn_p1, wn_up, wn_upB, wn_upI, wn_x2, wn_x0, wn_xC, wn_xN, wn_xb, wn_xAnd, wn_xOr, wn_xNot, wn_xIf, wn_xCall, wn_xR1, wn_xR2, sn_nx, sn_rt, sn_bk, sn_ct, sn_seq, sn_set, sn_ret, sn_expr, sn_if, sn_for, sn_xSet, sn_xRet, sn_xExpr, sn_xIf, sn_xFor, sn_asg, sn_xAsg, sn_own, sn_xOwn, gv_zero, gv_succ, go_own, go_dat, go_succ, k0_def, gN_def, tru_bool, tru_none, tru_int, tru_list, asSeq_list, asSeq_tup, addV_int, subV_int, ltA_i, leA_i, gtA_i, geA_i, negV_int, intV_int, lenV_list, lenV_tup, ixV_list, ixV_tup, asInt_int, slV_list, slV_tup, slL_list, revV_tup, revV_list, tupleV_list, listV_list, listV_tup, eqV_str, neV_str, eqV_int, List.set_cons_zero, List.set_cons_succ, List.getElem?_cons_zero, List.getElem?_cons_succ, List.length_cons, List.length_nil, ↓reduceIte, Bool.false_eq_true, Bool.not_true, Bool.not_false, wn_ite, gT2, gT3, neV_tup, eqV_tup, in_tup, notin_tup', lineN_eq, Nat.reduceAdd, Nat.reduceLeDiff, Nat.zero_le, true_and, and_true, List.map_nil, List.map_cons, exists_eq_left', Option.some.injEq, PyData.list.injEq, exists_eq_left, PyData.int.injEq, R.ok.injEq, Sl.own.injEq, wn_s2, PyData.str.injEq, mu, index_dig hdig]
                refine ⟨done ++ [d], rest, .d (.str ⟨#[d]⟩), rfl, by rw [hd, List.append_assoc]; rfl, by rw [List.all_append, ha, List.all_cons, hdig]; rfl, ?_⟩
                have val : NumText.digitsVal (done ++ [d]) = NumText.digitsVal done * 10 + (d - 48) := by
                  unfold NumText.digitsVal
                  rw [List.foldl_append]
                  rfl
                rw [val]
                rfl
          · rintro η ⟨done, rest, s3, e, hd, ha, rfl⟩
            have : rest = [] := List.map_eq_nil_iff.mp e.symm
            subst this
            rw [List.append_nil] at hd
            have nt : numB (tl w) = true := by rw [nbq, hd, ha]
            simp only [wn_ok, wn_some, wn_only, wn_noex, wn_e2, wn_e1, wn_eN, wn_a0, wn_aC, wn_call, wn_tb, wn_tup, wn_lst, wn_andB, wn_orB, wn_notB, wn_andV, wn_orV, wn_notV, wn_ifV, wn_iA, wn_iR1, wn_iR2, wn_iZ, wn_iEn, wn_iRR, wn_sl, wn_p0, wn_p1, wn_up, wn_upB, wn_upI, wn_x2, wn_x0, wn_xC, wn_xN, wn_xb, wn_xAnd, wn_xOr, wn_xNot, wn_xIf, wn_xCall, wn_xR1, wn_xR2, sn_nx, sn_rt, sn_bk, sn_ct, sn_seq, sn_set, sn_ret, sn_expr, sn_if, sn_for, sn_xSet, sn_xRet, sn_xExpr, sn_xIf, sn_xFor, sn_asg, sn_xAsg, sn_own, sn_xOwn, gv_zero, gv_succ, go_own, go_dat, go_succ, k0_def, gN_def, tru_bool, tru_none, tru_int, tru_list, asSeq_list, asSeq_tup, addV_int, subV_int, ltA_i, leA_i, gtA_i, geA_i, negV_int, intV_int, lenV_list, lenV_tup, ixV_list, ixV_tup, asInt_int, slV_list, slV_tup, slL_list, revV_tup, revV_list, tupleV_list, listV_list, listV_tup, eqV_str, neV_str, eqV_int, List.set_cons_zero, List.set_cons_succ, List.getElem?_cons_zero, List.getElem?_cons_succ, List.length_cons, List.length_nil, ↓reduceIte, Bool.false_eq_true, Bool.not_true, Bool.not_false, wn_ite, gT2, gT3, neV_tup, eqV_tup, in_tup, notin_tup', lineN_eq, Nat.reduceAdd, Nat.reduceLeDiff, Nat.zero_le, true_and, and_true, List.map_nil, List.map_cons, exists_eq_left', Option.some.injEq, PyData.list.injEq, exists_eq_left, PyData.int.injEq, R.ok.injEq, Sl.own.injEq, t1]
            rw [dash]
            unfold numD
            rw [if_pos nt, val_neg, hd]
            have i0 : intV [.bool false] = some (.int 0) := rfl
            have i1 : intV [.bool true] = some (.int 1) := rfl
            have a0 : ∀ x y : D, atD [x, y] 0 = some x := fun _ _ => rfl
            have a1 : ∀ x y : D, atD [x, y] 1 = some y := fun _ _ => rfl
            cases neg (tl w) with
            | false =>
              simp only [wn_ok, wn_some, wn_only, wn_noex, wn_e2, wn_e1, wn_eN, wn_a0, wn_aC, wn_call, wn_tb, wn_tup, wn_lst, wn_andB, wn_orB, wn_notB, wn_andV, wn_orV, wn_notV, wn_ifV, wn_iA, wn_iR1, wn_iR2, wn_iZ, wn_iEn, wn_iRR, wn_sl, wn_p0, wn_p1, wn_up, wn_upB, wn_upI, wn_x2, wn_x0, wn_xC, wn_xN, wn_xb, wn_xAnd, wn_xOr, wn_xNot, wn_xIf, wn_xCall, wn_xR1, wn_xR2, sn_nx, sn_rt, sn_bk, sn_ct, sn_seq, sn_set, sn_ret, sn_expr, sn_if, sn_for, sn_xSet, sn_xRet, sn_xExpr, sn_xIf, sn_xFor, sn_asg, sn_xAsg, sn_own, sn_xOwn, gv_zero, gv_succ, go_own, go_dat, go_succ, k0_def, gN_def, tru_bool, tru_none, tru_int, tru_list, asSeq_list, asSeq_tup, addV_int, subV_int, ltA_i, leA_i, gtA_i, geA_i, negV_int, intV_int, lenV_list, lenV_tup, ixV_list, ixV_tup, asInt_int, slV_list, slV_tup, slL_list, revV_tup, revV_list, tupleV_list, listV_list, listV_tup, eqV_str, neV_str, eqV_int, List.set_cons_zero, List.set_cons_succ, List.getElem?_cons_zero, List.getElem?_cons_succ, List.length_cons, List.length_nil, ↓reduceIte, Bool.false_eq_true, Bool.not_true, Bool.not_false, wn_ite, gT2, gT3, neV_tup, eqV_tup, in_tup, notin_tup', lineN_eq, Nat.reduceAdd, Nat.reduceLeDiff, Nat.zero_le, true_and, and_true, List.map_nil, List.map_cons, exists_eq_left', Option.some.injEq, PyData.list.injEq, exists_eq_left, PyData.int.injEq, R.ok.injEq, Sl.own.injEq, i0, a0]
            | true =>
              simp only [wn_ok, wn_some, wn_only, wn_noex, wn_e2, wn_e1, wn_eN, wn_a0, wn_aC, wn_call, wn_tb, wn_tup, wn_lst, wn_andB, wn_orB, wn_notB, wn_andV, wn_orV, wn_notV, wn_ifV, wn_iA, wn_iR1, wn_iR2, wn_iZ, wn_iEn, wn_iRR, wn_sl, wn_p0, wn_p1, wn_up, wn_upB, wn_upI, wn_x2, wn_x0, wn_xC, wn_xN, wn_xb, wn_xAnd, wn_xOr, wn_xNot, wn_xIf, wn_xCall, wn_xR1, wn_xR2, sn_nx, sn_rt, sn_bk, sn_ct, sn_seq, sn_set, sn_ret, sn_expr, sn_if, sn_for, sn_xSet, sn_xRet, sn_xExpr, sn_xIf, sn_xFor, sn_asg, sn_xAsg, sn_own, sn_xOwn, gv_zero, gv_succ, go_own, go_dat, go_succ, k0_def, gN_def, tru_bool, tru_none, tru_int, tru_list, asSeq_list, asSeq_tup, addV_int, subV_int, ltA_i, leA_i, gtA_i, geA_i, negV_int, intV_int, lenV_list, lenV_tup, ixV_list, ixV_tup, asInt_int, slV_list, slV_tup, slL_list, revV_tup, revV_list, tupleV_list, listV_list, listV_tup, eqV_str, neV_str, eqV_int, List.set_cons_zero, List.set_cons_succ, List.getElem?_cons_zero, List.getElem?_cons_succ, List.length_cons, List.length_nil, ↓reduceIte, Bool.false_eq_true, Bool.not_true, Bool.not_false, wn_ite, gT2, gT3, neV_tup, eqV_tup, in_tup, notin_tup', lineN_eq, Nat.reduceAdd, Nat.reduceLeDiff, Nat.zero_le, true_and, and_true, List.map_nil, List.map_cons, exists_eq_left', Option.some.injEq, PyData.list.injEq, exists_eq_left, PyData.int.injEq, R.ok.injEq, Sl.own.injEq, i1, a1]
        cases h48 : decide (c = 48) with
        | false =>
          rw [h48] at lp
          simp only [Bool.false_eq_true, ↓reduceIte]
          exact Wn.mk (show iSg (gv 1) [.d (.str w), .d (.str v), .d (.int 0), .no] = .ok (signsD v) from rfl) (lp true (by simp) rfl)
        | true =>
          simp only [↓reduceIte]
          cases hw : decide (tl w = [48]) with
          | false =>
            have z : numB (tl w) = false := by rw [nb, h48, hw]; simp
            simp only [Bool.not_false, ↓reduceIte]
            unfold numD
            rw [z]
            rfl
          | true =>
            rw [hw] at lp
            simp only [Bool.not_true, Bool.false_eq_true, ↓reduceIte]
            exact Wn.mk (show iSg (gv 1) [.d (.str w), .d (.str v), .d (.int 0), .no] = .ok (signsD v) from rfl) (lp true (by simp) rfl)
      · rw [decide_eq_false (show ¬ ((digs (tl w)).length : Int) ≤ 6 by omega)]
        have z : numB (tl w) = false := by unfold numB; rw [decide_eq_false c2]; simp
        unfold numD
        rw [z]
        rfl
    · rw [decide_eq_false (show ¬ (1 : Int) ≤ ((digs (tl w)).length : Int) by omega)]
      have z : numB (tl w) = false := by unfold numB; rw [decide_eq_false c1]; simp
      unfold numD
      rw [z]
      rfl
  rw [sn_seq, sn_set]
  refine Wn.mk (a := .str w) rfl ?_
  show Sn (seqS (ifS (tb (e2 eqV' (slE slT (gv 0) p0 (p1 (k0 (.int 1)))) (k0 (.str "-")))) (seqS (setS 1 (slE slT (gv 0) (p1 (k0 (.int 1))) p0)) .nx) .nx) _ [.d (.str w), .d (.str w), .no, .no]) _ _ _ _
  rw [sn_seq, sn_if]
  have test : tb (e2 eqV' (slE slT (gv 0) p0 (p1 (k0 (.int 1)))) (k0 (.str "-"))) [.d (.str w), .d (.str w), .no, .no] = .ok (neg (tl w)) := by
    refine Wn.eq ?_
    simp only [wn_ok, wn_some, wn_only, wn_noex, wn_e2, wn_e1, wn_eN, wn_a0, wn_aC, wn_call, wn_tb, wn_tup, wn_lst, wn_andB, wn_orB, wn_notB, wn_andV, wn_orV, wn_notV, wn_ifV, wn_iA, wn_iR1, wn_iR2, wn_iZ, wn_iEn, wn_iRR, wn_sl, wn_p0, wn_p1, wn_up, wn_upB, wn_upI, wn_x2, wn_x0, wn_xC, wn_xN, wn_xb, wn_xAnd, wn_xOr, wn_xNot, wn_xIf, wn_xCall, wn_xR1, wn_xR2, sn_nx, sn_rt, sn_bk, sn_ct, sn_seq, sn_set, sn_ret, sn_expr, sn_if, sn_for, sn_xSet, sn_xRet, sn_xExpr, sn_xIf, sn_xFor, sn_asg, sn_xAsg, sn_own, sn_xOwn, gv_zero, gv_succ, go_own, go_dat, go_succ, k0_def, gN_def, tru_bool, tru_none, tru_int, tru_list, asSeq_list, asSeq_tup, addV_int, subV_int, ltA_i, leA_i, gtA_i, geA_i, negV_int, intV_int, lenV_list, lenV_tup, ixV_list, ixV_tup, asInt_int, slV_list, slV_tup, slL_list, revV_tup, revV_list, tupleV_list, listV_list, listV_tup, eqV_str, neV_str, eqV_int, List.set_cons_zero, List.set_cons_succ, List.getElem?_cons_zero, List.getElem?_cons_succ, List.length_cons, List.length_nil, ↓reduceIte, Bool.false_eq_true, Bool.not_true, Bool.not_false, wn_ite, gT2, gT3, neV_tup, eqV_tup, in_tup, notin_tup', lineN_eq, Nat.reduceAdd, Nat.reduceLeDiff, Nat.zero_le, true_and, and_true, List.map_nil, List.map_cons, exists_eq_left', Option.some.injEq, PyData.list.injEq, exists_eq_left, PyData.int.injEq, R.ok.injEq, Sl.own.injEq, t1]
    rw [dash]
  refine Wn.mk test ?_
  cases hn : neg (tl w) with
  | true =>
    rw [hn, if_pos rfl] at hv
    rw [if_pos rfl, sn_seq, sn_set]
    have cut : slE slT (gv 0) (p1 (k0 (.int 1))) p0 [.d (.str w), .d (.str w), .no, .no] = .ok (.str v) := by
      refine Wn.eq ?_
      simp only [wn_ok, wn_some, wn_only, wn_noex, wn_e2, wn_e1, wn_eN, wn_a0, wn_aC, wn_call, wn_tb, wn_tup, wn_lst, wn_andB, wn_orB, wn_notB, wn_andV, wn_orV, wn_notV, wn_ifV, wn_iA, wn_iR1, wn_iR2, wn_iZ, wn_iEn, wn_iRR, wn_sl, wn_p0, wn_p1, wn_up, wn_upB, wn_upI, wn_x2, wn_x0, wn_xC, wn_xN, wn_xb, wn_xAnd, wn_xOr, wn_xNot, wn_xIf, wn_xCall, wn_xR1, wn_xR2, sn_nx, sn_rt, sn_bk, sn_ct, sn_seq, sn_set, sn_ret, sn_expr, sn_if, sn_for, sn_xSet, sn_xRet, sn_xExpr, sn_xIf, sn_xFor, sn_asg, sn_xAsg, sn_own, sn_xOwn, gv_zero, gv_succ, go_own, go_dat, go_succ, k0_def, gN_def, tru_bool, tru_none, tru_int, tru_list, asSeq_list, asSeq_tup, addV_int, subV_int, ltA_i, leA_i, gtA_i, geA_i, negV_int, intV_int, lenV_list, lenV_tup, ixV_list, ixV_tup, asInt_int, slV_list, slV_tup, slL_list, revV_tup, revV_list, tupleV_list, listV_list, listV_tup, eqV_str, neV_str, eqV_int, List.set_cons_zero, List.set_cons_succ, List.getElem?_cons_zero, List.getElem?_cons_succ, List.length_cons, List.length_nil, ↓reduceIte, Bool.false_eq_true, Bool.not_true, Bool.not_false, wn_ite, gT2, gT3, neV_tup, eqV_tup, in_tup, notin_tup', lineN_eq, Nat.reduceAdd, Nat.reduceLeDiff, Nat.zero_le, true_and, and_true, List.map_nil, List.map_cons, exists_eq_left', Option.some.injEq, PyData.list.injEq, exists_eq_left, PyData.int.injEq, R.ok.injEq, Sl.own.injEq, t2]
      rw [hv]
    refine Wn.mk cut ?_
    exact sn_nx.mpr rest
  | false =>
    rw [hn, if_neg Bool.false_ne_true] at hv
    subst hv
    rw [if_neg Bool.false_ne_true]
    exact sn_nx.mpr rest
/-! ### lines changed -/
theorem word_of_ok (c : Int) : ∃ w : Str, w.length ≤ 8 ∧ F__law_word_of [.int c] = .ok (.str w) := by
  obtain ⟨ws, hws, hlen, hs⟩ : ∃ ws : List Str, ws = (["", "0", "1", "2", "11", "12", "-1", "1000", "1001", "-1000", "-1001", "00", "-0", "+1", "1.0", "0123", "999999", "1000000", "-999999", "-1000000", "--1", "-01", "1_0", "-", "at", "At", "3", "a"] : List Str) ∧ ws.length = 28 ∧ ∀ w ∈ ws, w.length ≤ 8 := ⟨_, rfl, rfl, by decide +kernel⟩
  have q0 := Int.emod_nonneg c (show (28 : Int) ≠ 0 by decide)
  have q1 := Int.emod_lt_of_pos c (show (0 : Int) < 28 by decide)
  have hb : (c % 28).toNat < ws.length := by omega
  have at' : atD (ws.map PyData.str) (c % 28) = some (.str ws[(c % 28).toNat]) := atD_nat q0 (by rw [List.getElem?_map, List.getElem?_eq_getElem hb]; rfl)
  refine ⟨ws[(c % 28).toNat], hs _ (List.getElem_mem hb), ?_⟩
  refine Wn.eq (wn_runD ?_)
  show Sn (G__law_word_of [.d (.int c), .no]) _ _ _ _
  unfold G__law_word_of
  have m28 : modV (.int c) (.int 28) = some (.int (c % 28)) := modV_int (by decide)
  have ad : addV (.list [.str "", .str "0", .str "1", .str "2", .str "11", .str "12", .str "-1", .str "1000", .str "1001", .str "-1000", .str "-1001", .str "00", .str "-0", .str "+1", .str "1.0", .str "0123"]) (.list [.str "999999", .str "1000000", .str "-999999", .str "-1000000", .str "--1", .str "-01", .str "1_0", .str "-", .str "at", .str "At", .str "3", .str "a"]) = some (.list (ws.map PyData.str)) := by
    rw [addV_list (by simp only [List.length_cons, List.length_nil]; omega), hws]
    rfl
  simp only [wn_ok, wn_some, wn_only, wn_noex, wn_e2, wn_e1, wn_eN, wn_a0, wn_aC, wn_call, wn_tb, wn_tup, wn_lst, wn_andB, wn_orB, wn_notB, wn_andV, wn_orV, wn_notV, wn_ifV, wn_iA, wn_iR1, wn_iR2, wn_iZ, wn_iEn, wn_iRR, wn_sl, wn_p0, wn_p1, wn_up, wn_upB, wn_upI, wn_x2, wn_x0, wn_xC, wn_xN, wn_xb, wn_xAnd, wn_xOr, wn_xNot, wn_xIf, wn_xCall, wn_xR1, wn_xR2, sn_nx, sn_rt, sn_bk, sn_ct, sn_seq, sn_set, sn_ret, sn_expr, sn_if, sn_for, sn_xSet, sn_xRet, sn_xExpr, sn_xIf, sn_xFor, sn_asg, sn_xAsg, sn_own, sn_xOwn, gv_zero, gv_succ, go_own, go_dat, go_succ, k0_def, gN_def, tru_bool, tru_none, tru_int, tru_list, asSeq_list, asSeq_tup, addV_int, subV_int, ltA_i, leA_i, gtA_i, geA_i, negV_int, intV_int, lenV_list, lenV_tup, ixV_list, ixV_tup, asInt_int, slV_list, slV_tup, slL_list, revV_tup, revV_list, tupleV_list, listV_list, listV_tup, eqV_str, neV_str, eqV_int, List.set_cons_zero, List.set_cons_succ, List.getElem?_cons_zero, List.getElem?_cons_succ, List.length_cons, List.length_nil, ↓reduceIte, Bool.false_eq_true, Bool.not_true, Bool.not_false, wn_ite, gT2, gT3, neV_tup, eqV_tup, in_tup, notin_tup', lineN_eq, Nat.reduceAdd, Nat.reduceLeDiff, Nat.zero_le, true_and, and_true, List.map_nil, List.map_cons, exists_eq_left', Option.some.injEq, PyData.list.injEq, exists_eq_left, PyData.int.injEq, R.ok.injEq, Sl.own.injEq, ad, m28, at']
/-- how long -/
def Lim (a b : Nat) (ls : List (List Str)) : Prop := ls.length ≤ a ∧ ∀ l ∈ ls, l.length ≤ b ∧ ∀ w ∈ l, w.length ≤ 8
theorem cutL_take (ls : List (List Str)) (k : Nat) : cutD (ls.map lineD) none (some ((k : Nat) : Int)) = (ls.take k).map lineD := by
  rw [cut_take _ _ (by omega), Int.toNat_natCast, List.map_take]
theorem cutL_drop (ls : List (List Str)) (k : Nat) : cutD (ls.map lineD) (some ((k : Nat) : Int)) none = (ls.drop k).map lineD := by
  rw [cut_drop _ _ (by omega), Int.toNat_natCast, List.map_drop]
theorem cutW_take (l : List Str) (k : Nat) : cutD (l.map PyData.str) none (some ((k : Nat) : Int)) = (l.take k).map PyData.str := by
  rw [cut_take _ _ (by omega), Int.toNat_natCast, List.map_take]
theorem cutW_drop (l : List Str) (k : Nat) : cutD (l.map PyData.str) (some ((k : Nat) : Int)) none = (l.drop k).map PyData.str := by
  rw [cut_drop _ _ (by omega), Int.toNat_natCast, List.map_drop]
theorem addL {xs ys : List (List Str)} (h : xs.length + ys.length ≤ 1000) : addV (.list (xs.map lineD)) (.list (ys.map lineD)) = some (.list ((xs ++ ys).map lineD)) := by
  rw [addV_list (by rw [List.length_map, List.length_map]; omega), List.map_append]
theorem addW {xs ys : List Str} (h : xs.length + ys.length ≤ 1000) : addV (.list (xs.map PyData.str)) (.list (ys.map PyData.str)) = some (.list ((xs ++ ys).map PyData.str)) := by
  rw [addV_list (by rw [List.length_map, List.length_map]; omega), List.map_append]
theorem changed_w {Fw : List D → R D} (hW : ∀ c : Int, ∃ w : Str, w.length ≤ 8 ∧ Fw [.int c] = .ok (.str w)) {c : Int} {a b : Nat} {ls : List (List Str)} {QD : D → Prop} (h : Lim a b ls) (hn : 0 < ls.length) (ha : a ≤ 100) (hb : 3 ≤ b) (hb2 : b ≤ 100) (k : ∀ ls' : List (List Str), Lim (a + 1) (b + 1) ls' → QD (.list (ls'.map lineD))) : Wn (F__law_changed Fw [.int c, .list (ls.map lineD)]) QD := by
  refine wn_runD ?_
  show Sn (G__law_changed Fw [.d (.int c), .d (.list (ls.map lineD)), .no, .no, .no, .no, .no, .no]) _ _ _ _
  unfold G__law_changed
  obtain ⟨ys, yl, yb, ye⟩ := Lw.row_ok (c := c) (b := 720720) (n := 5) (by decide) (by decide)
  have ye : Lw.F_row [.int c, .int 5, .int 720720] = .ok (.list ys) := ye
  match ys, yl with
  | [y0, y1, y2, y3, y4], _ =>
    obtain ⟨r0, rfl, a0, b0⟩ := yb y0 (by simp)
    obtain ⟨r1, rfl, a1, b1⟩ := yb y1 (by simp)
    obtain ⟨r2, rfl, a2, b2⟩ := yb y2 (by simp)
    obtain ⟨r3, rfl, a3, b3⟩ := yb y3 (by simp)
    obtain ⟨r4, rfl, a4, b4⟩ := yb y4 (by simp)
    have x0 : atD [PyData.int r0, .int r1, .int r2, .int r3, .int r4] 0 = some (.int r0) := rfl
    have x1 : atD [PyData.int r0, .int r1, .int r2, .int r3, .int r4] 1 = some (.int r1) := rfl
    have x2 : atD [PyData.int r0, .int r1, .int r2, .int r3, .int r4] 2 = some (.int r2) := rfl
    have x3 : atD [PyData.int r0, .int r1, .int r2, .int r3, .int r4] 3 = some (.int r3) := rfl
    have x4 : atD [PyData.int r0, .int r1, .int r2, .int r3, .int r4] 4 = some (.int r4) := rfl
    have ll : lenV [.list (ls.map lineD)] = some (.int ((ls.length : Nat) : Int)) := by
      show some (PyData.int ((ls.map lineD).length : Nat)) = _
      rw [List.length_map]
    have mL : ∀ z : Int, modV (.int z) (.int ((ls.length : Nat) : Int)) = some (.int (z % ((ls.length : Nat) : Int))) := fun z => modV_int (by omega)
    have mL1 : ∀ z : Int, modV (.int z) (.int (((ls.length : Nat) : Int) + 1)) = some (.int (z % (((ls.length : Nat) : Int) + 1))) := fun z => modV_int (by omega)
    have p0 := Int.emod_nonneg r0 (show ((ls.length : Nat) : Int) ≠ 0 by omega)
    have p1 := Int.emod_lt_of_pos r0 (show (0 : Int) < ((ls.length : Nat) : Int) by omega)
    obtain ⟨at', hat⟩ : ∃ at' : Nat, r0 % ((ls.length : Nat) : Int) = ((at' : Nat) : Int) := ⟨_, (Int.toNat_of_nonneg p0).symm⟩
    have atl : at' < ls.length := by omega
    obtain ⟨line, hline⟩ : ∃ line, ls[at']? = some line := ⟨_, List.getElem?_eq_getElem atl⟩
    have ml : line ∈ ls := List.mem_of_getElem? hline
    obtain ⟨lb, lw⟩ := h.2 line ml
    have hA := h.1
    have xl : atD (ls.map lineD) ((at' : Nat) : Int) = some (lineD line) := atD_nat (by omega) (by rw [Int.toNat_natCast, List.getElem?_map, hline]; rfl)
    have ln : lenV [lineD line] = some (.int ((line.length : Nat) : Int)) := by
      show some (PyData.int ((line.map PyData.str).length : Nat)) = _
      rw [List.length_map]
    have mW : ∀ z : Int, modV (.int z) (.int (((line.length : Nat) : Int) + 1)) = some (.int (z % (((line.length : Nat) : Int) + 1))) := fun z => modV_int (by omega)
    have w0 := Int.emod_nonneg r1 (show (((line.length : Nat) : Int) + 1) ≠ 0 by omega)
    have w1 := Int.emod_lt_of_pos r1 (show (0 : Int) < (((line.length : Nat) : Int) + 1) by omega)
    obtain ⟨pl, hpl⟩ : ∃ pl : Nat, r1 % (((line.length : Nat) : Int) + 1) = ((pl : Nat) : Int) := ⟨_, (Int.toNat_of_nonneg w0).symm⟩
    have pll : pl ≤ line.length := by omega
    have m9 : ∀ z : Int, modV (.int z) (.int 9) = some (.int (z % 9)) := fun z => modV_int (by decide)
    have m5 : ∀ z : Int, modV (.int z) (.int 5) = some (.int (z % 5)) := fun z => modV_int (by decide)
    have m2 : ∀ z : Int, modV (.int z) (.int 2) = some (.int (z % 2)) := fun z => modV_int (by decide)
    have c0 := Int.emod_nonneg r2 (show (9 : Int) ≠ 0 by decide)
    -- a line put in the place of the one
    have put : ∀ l2 : List Str, l2.length ≤ b + 1 → (∀ w ∈ l2, w.length ≤ 8) → addV (.list ((ls.take at').map lineD)) (.list [lineD l2]) = some (.list ((ls.take at' ++ [l2]).map lineD)) ∧ addV (.list ((ls.take at' ++ [l2]).map lineD)) (.list ((ls.drop (at' + 1)).map lineD)) = some (.list ((ls.take at' ++ [l2] ++ ls.drop (at' + 1)).map lineD)) ∧ Lim (a + 1) (b + 1) (ls.take at' ++ [l2] ++ ls.drop (at' + 1)) := fun l2 h1 h2 => by
      refine ⟨addL (ys := [l2]) (by rw [List.length_take, List.length_singleton]; omega), addL (by rw [List.length_append, List.length_take, List.length_drop, List.length_singleton]; omega), ?_, fun l m => ?_⟩
      · rw [List.length_append, List.length_append, List.length_take, List.length_drop, List.length_singleton]
        omega
      · rcases List.mem_append.mp m with m | m
        · rcases List.mem_append.mp m with m | m
          · have := h.2 l (List.mem_of_mem_take m)
            exact ⟨by omega, this.2⟩
          · rw [List.mem_singleton.mp m]; exact ⟨h1, h2⟩
        · have := h.2 l (List.mem_of_mem_drop m)
          exact ⟨by omega, this.2⟩
    have wT : ∀ n, ∀ w ∈ line.take n, w.length ≤ 8 := fun n w m => lw w (List.mem_of_mem_take m)
    have wD : ∀ n, ∀ w ∈ line.drop n, w.length ≤ 8 := fun n w m => lw w (List.mem_of_mem_drop m)
    have sT : slV none (some ((pl : Nat) : Int)) (lineD line) = some (lineD (line.take pl)) := by
      show some (PyData.list (cutD (line.map PyData.str) none (some ((pl : Nat) : Int)))) = _
      rw [cutW_take]
      rfl
    have sD : ∀ n : Nat, slV (some ((n : Nat) : Int)) none (lineD line) = some (lineD (line.drop n)) := fun n => by
      show some (PyData.list (cutD (line.map PyData.str) (some ((n : Nat) : Int)) none)) = _
      rw [cutW_drop]
      rfl
    have sD1 : slV (some (((pl : Nat) : Int) + 1)) none (lineD line) = some (lineD (line.drop (pl + 1))) := sD (pl + 1)
    have cT := cutL_take ls at'
    have cD : cutD (ls.map lineD) (some (((at' : Nat) : Int) + 1)) none = (ls.drop (at' + 1)).map lineD := cutL_drop ls (at' + 1)
    have aW : ∀ xs ys : List Str, xs.length + ys.length ≤ 1000 → addV (lineD xs) (lineD ys) = some (lineD (xs ++ ys)) := fun xs ys h => addW h
    have lT : ∀ n, (line.take n).length ≤ n := fun n => by rw [List.length_take]; omega
    have lD : ∀ n, (line.drop n).length = line.length - n := fun n => List.length_drop
    simp only [wn_ok, wn_some, wn_only, wn_noex, wn_e2, wn_e1, wn_eN, wn_a0, wn_aC, wn_call, wn_tb, wn_tup, wn_lst, wn_andB, wn_orB, wn_notB, wn_andV, wn_orV, wn_notV, wn_ifV, wn_iA, wn_iR1, wn_iR2, wn_iZ, wn_iEn, wn_iRR, wn_sl, wn_p0, wn_p1, wn_up, wn_upB, wn_upI, wn_x2, wn_x0, wn_xC, wn_xN, wn_xb, wn_xAnd, wn_xOr, wn_xNot, wn_xIf, wn_xCall, wn_xR1, wn_xR2, sn_nx, sn_rt, sn_bk, sn_ct, sn_seq, sn_set, sn_ret, sn_expr, sn_if, sn_for, sn_xSet, sn_xRet, sn_xExpr, sn_xIf, sn_xFor, sn_asg, sn_xAsg, sn_own, sn_xOwn, gv_zero, gv_succ, go_own, go_dat, go_succ, k0_def, gN_def, tru_bool, tru_none, tru_int, tru_list, asSeq_list, asSeq_tup, addV_int, subV_int, ltA_i, leA_i, gtA_i, geA_i, negV_int, intV_int, lenV_list, lenV_tup, ixV_list, ixV_tup, asInt_int, slV_list, slV_tup, slL_list, revV_tup, revV_list, tupleV_list, listV_list, listV_tup, eqV_str, neV_str, eqV_int, List.set_cons_zero, List.set_cons_succ, List.getElem?_cons_zero, List.getElem?_cons_succ, List.length_cons, List.length_nil, ↓reduceIte, Bool.false_eq_true, Bool.not_true, Bool.not_false, wn_ite, gT2, gT3, neV_tup, eqV_tup, in_tup, notin_tup', lineN_eq, Nat.reduceAdd, Nat.reduceLeDiff, Nat.zero_le, true_and, and_true, List.map_nil, List.map_cons, exists_eq_left', Option.some.injEq, PyData.list.injEq, exists_eq_left, PyData.int.injEq, R.ok.injEq, Sl.own.injEq, ye, x0, x1, x2, ll, mL, hat, xl, ln, mW, hpl, m9, cT, cD, sT, sD1, beq_iff_eq, decide_eq_true_eq]
    split
    · obtain ⟨e1, e2, e3⟩ := put (line.take pl ++ line.drop (pl + 1)) (by rw [List.length_append, lD]; have := lT pl; omega) (fun w m => (List.mem_append.mp m).elim (wT _ w) (wD _ w))
      simp only [wn_ok, wn_some, wn_only, wn_noex, wn_e2, wn_e1, wn_eN, wn_a0, wn_aC, wn_call, wn_tb, wn_tup, wn_lst, wn_andB, wn_orB, wn_notB, wn_andV, wn_orV, wn_notV, wn_ifV, wn_iA, wn_iR1, wn_iR2, wn_iZ, wn_iEn, wn_iRR, wn_sl, wn_p0, wn_p1, wn_up, wn_upB, wn_upI, wn_x2, wn_x0, wn_xC, wn_xN, wn_xb, wn_xAnd, wn_xOr, wn_xNot, wn_xIf, wn_xCall, wn_xR1, wn_xR2, sn_nx, sn_rt, sn_bk, sn_ct, sn_seq, sn_set, sn_ret, sn_expr, sn_if, sn_for, sn_xSet, sn_xRet, sn_xExpr, sn_xIf, sn_xFor, sn_asg, sn_xAsg, sn_own, sn_xOwn, gv_zero, gv_succ, go_own, go_dat, go_succ, k0_def, gN_def, tru_bool, tru_none, tru_int, tru_list, asSeq_list, asSeq_tup, addV_int, subV_int, ltA_i, leA_i, gtA_i, geA_i, negV_int, intV_int, lenV_list, lenV_tup, ixV_list, ixV_tup, asInt_int, slV_list, slV_tup, slL_list, revV_tup, revV_list, tupleV_list, listV_list, listV_tup, eqV_str, neV_str, eqV_int, List.set_cons_zero, List.set_cons_succ, List.getElem?_cons_zero, List.getElem?_cons_succ, List.length_cons, List.length_nil, ↓reduceIte, Bool.false_eq_true, Bool.not_true, Bool.not_false, wn_ite, gT2, gT3, neV_tup, eqV_tup, in_tup, notin_tup', lineN_eq, Nat.reduceAdd, Nat.reduceLeDiff, Nat.zero_le, true_and, and_true, List.map_nil, List.map_cons, exists_eq_left', Option.some.injEq, PyData.list.injEq, exists_eq_left, PyData.int.injEq, R.ok.injEq, Sl.own.injEq, aW _ _ (show (line.take pl).length + (line.drop (pl + 1)).length ≤ 1000 by rw [lD]; have := lT pl; omega), e1, e2]
      exact k _ e3
    split
    · have mx : maxV [.int 0, .int (((pl : Nat) : Int) - 1)] = some (.int (((pl - 1 : Nat) : Nat) : Int)) := by
        show some (PyData.int (if ((pl : Nat) : Int) - 1 > 0 then ((pl : Nat) : Int) - 1 else 0)) = _
        congr 2
        split <;> omega
      obtain ⟨e1, e2, e3⟩ := put (line.take pl ++ line.drop (pl - 1)) (by rw [List.length_append, lD]; have := lT pl; omega) (fun w m => (List.mem_append.mp m).elim (wT _ w) (wD _ w))
      simp only [wn_ok, wn_some, wn_only, wn_noex, wn_e2, wn_e1, wn_eN, wn_a0, wn_aC, wn_call, wn_tb, wn_tup, wn_lst, wn_andB, wn_orB, wn_notB, wn_andV, wn_orV, wn_notV, wn_ifV, wn_iA, wn_iR1, wn_iR2, wn_iZ, wn_iEn, wn_iRR, wn_sl, wn_p0, wn_p1, wn_up, wn_upB, wn_upI, wn_x2, wn_x0, wn_xC, wn_xN, wn_xb, wn_xAnd, wn_xOr, wn_xNot, wn_xIf, wn_xCall, wn_xR1, wn_xR2, sn_nx, sn_rt, sn_bk, sn_ct, sn_seq, sn_set, sn_ret, sn_expr, sn_if, sn_for, sn_xSet, sn_xRet, sn_xExpr, sn_xIf, sn_xFor, sn_asg, sn_xAsg, sn_own, sn_xOwn, gv_zero, gv_succ, go_own, go_dat, go_succ, k0_def, gN_def, tru_bool, tru_none, tru_int, tru_list, asSeq_list, asSeq_tup, addV_int, subV_int, ltA_i, leA_i, gtA_i, geA_i, negV_int, intV_int, lenV_list, lenV_tup, ixV_list, ixV_tup, asInt_int, slV_list, slV_tup, slL_list, revV_tup, revV_list, tupleV_list, listV_list, listV_tup, eqV_str, neV_str, eqV_int, List.set_cons_zero, List.set_cons_succ, List.getElem?_cons_zero, List.getElem?_cons_succ, List.length_cons, List.length_nil, ↓reduceIte, Bool.false_eq_true, Bool.not_true, Bool.not_false, wn_ite, gT2, gT3, neV_tup, eqV_tup, in_tup, notin_tup', lineN_eq, Nat.reduceAdd, Nat.reduceLeDiff, Nat.zero_le, true_and, and_true, List.map_nil, List.map_cons, exists_eq_left', Option.some.injEq, PyData.list.injEq, exists_eq_left, PyData.int.injEq, R.ok.injEq, Sl.own.injEq, mx, sD, aW _ _ (show (line.take pl).length + (line.drop (pl - 1)).length ≤ 1000 by rw [lD]; have := lT pl; omega), e1, e2]
      exact k _ e3
    split
    · obtain ⟨wd, wl, we⟩ := hW r3
      have q0 := Int.emod_nonneg (r2 % 9) (show (2 : Int) ≠ 0 by decide)
      have q1 := Int.emod_lt_of_pos (r2 % 9) (show (0 : Int) < 2 by decide)
      obtain ⟨e, he⟩ : ∃ e : Nat, r2 % 9 % 2 = ((e : Nat) : Int) := ⟨_, (Int.toNat_of_nonneg q0).symm⟩
      have sE : slV (some (((pl : Nat) : Int) + ((e : Nat) : Int))) none (lineD line) = some (lineD (line.drop (pl + e))) := sD (pl + e)
      have a1 : addV (lineD (line.take pl)) (.list [.str wd]) = some (lineD (line.take pl ++ [wd])) := aW _ [wd] (by rw [List.length_singleton]; have := lT pl; omega)
      obtain ⟨e1, e2, e3⟩ := put (line.take pl ++ [wd] ++ line.drop (pl + e)) (by rw [List.length_append, List.length_append, List.length_singleton, lD]; have := lT pl; omega) (fun w m => (List.mem_append.mp m).elim (fun m => (List.mem_append.mp m).elim (wT _ w) (fun m => by rw [List.mem_singleton.mp m]; exact wl)) (wD _ w))
      simp only [wn_ok, wn_some, wn_only, wn_noex, wn_e2, wn_e1, wn_eN, wn_a0, wn_aC, wn_call, wn_tb, wn_tup, wn_lst, wn_andB, wn_orB, wn_notB, wn_andV, wn_orV, wn_notV, wn_ifV, wn_iA, wn_iR1, wn_iR2, wn_iZ, wn_iEn, wn_iRR, wn_sl, wn_p0, wn_p1, wn_up, wn_upB, wn_upI, wn_x2, wn_x0, wn_xC, wn_xN, wn_xb, wn_xAnd, wn_xOr, wn_xNot, wn_xIf, wn_xCall, wn_xR1, wn_xR2, sn_nx, sn_rt, sn_bk, sn_ct, sn_seq, sn_set, sn_ret, sn_expr, sn_if, sn_for, sn_xSet, sn_xRet, sn_xExpr, sn_xIf, sn_xFor, sn_asg, sn_xAsg, sn_own, sn_xOwn, gv_zero, gv_succ, go_own, go_dat, go_succ, k0_def, gN_def, tru_bool, tru_none, tru_int, tru_list, asSeq_list, asSeq_tup, addV_int, subV_int, ltA_i, leA_i, gtA_i, geA_i, negV_int, intV_int, lenV_list, lenV_tup, ixV_list, ixV_tup, asInt_int, slV_list, slV_tup, slL_list, revV_tup, revV_list, tupleV_list, listV_list, listV_tup, eqV_str, neV_str, eqV_int, List.set_cons_zero, List.set_cons_succ, List.getElem?_cons_zero, List.getElem?_cons_succ, List.length_cons, List.length_nil, ↓reduceIte, Bool.false_eq_true, Bool.not_true, Bool.not_false, wn_ite, gT2, gT3, neV_tup, eqV_tup, in_tup, notin_tup', lineN_eq, Nat.reduceAdd, Nat.reduceLeDiff, Nat.zero_le, true_and, and_true, List.map_nil, List.map_cons, exists_eq_left', Option.some.injEq, PyData.list.injEq, exists_eq_left, PyData.int.injEq, R.ok.injEq, Sl.own.injEq, x3, we, m2, he, sE, a1, aW _ _ (show (line.take pl ++ [wd]).length + (line.drop (pl + e)).length ≤ 1000 by rw [List.length_append, List.length_singleton, lD]; have := lT pl; omega), e1, e2]
      exact k _ e3
    have LT : (ls.take at').length = at' := by rw [List.length_take]; omega
    have LD : (ls.drop (at' + 1)).length = ls.length - (at' + 1) := List.length_drop
    have off : Lim (a + 1) (b + 1) (ls.take at' ++ ls.drop (at' + 1)) := ⟨by rw [List.length_append]; omega, fun l m => by
      have := (List.mem_append.mp m).elim (fun m => h.2 l (List.mem_of_mem_take m)) (fun m => h.2 l (List.mem_of_mem_drop m))
      exact ⟨by omega, this.2⟩⟩
    have e0 : addV (.list ((ls.take at').map lineD)) (.list ((ls.drop (at' + 1)).map lineD)) = some (.list ((ls.take at' ++ ls.drop (at' + 1)).map lineD)) := addL (by omega)
    split
    · simp only [wn_ok, wn_some, wn_only, wn_noex, wn_e2, wn_e1, wn_eN, wn_a0, wn_aC, wn_call, wn_tb, wn_tup, wn_lst, wn_andB, wn_orB, wn_notB, wn_andV, wn_orV, wn_notV, wn_ifV, wn_iA, wn_iR1, wn_iR2, wn_iZ, wn_iEn, wn_iRR, wn_sl, wn_p0, wn_p1, wn_up, wn_upB, wn_upI, wn_x2, wn_x0, wn_xC, wn_xN, wn_xb, wn_xAnd, wn_xOr, wn_xNot, wn_xIf, wn_xCall, wn_xR1, wn_xR2, sn_nx, sn_rt, sn_bk, sn_ct, sn_seq, sn_set, sn_ret, sn_expr, sn_if, sn_for, sn_xSet, sn_xRet, sn_xExpr, sn_xIf, sn_xFor, sn_asg, sn_xAsg, sn_own, sn_xOwn, gv_zero, gv_succ, go_own, go_dat, go_succ, k0_def, gN_def, tru_bool, tru_none, tru_int, tru_list, asSeq_list, asSeq_tup, addV_int, subV_int, ltA_i, leA_i, gtA_i, geA_i, negV_int, intV_int, lenV_list, lenV_tup, ixV_list, ixV_tup, asInt_int, slV_list, slV_tup, slL_list, revV_tup, revV_list, tupleV_list, listV_list, listV_tup, eqV_str, neV_str, eqV_int, List.set_cons_zero, List.set_cons_succ, List.getElem?_cons_zero, List.getElem?_cons_succ, List.length_cons, List.length_nil, ↓reduceIte, Bool.false_eq_true, Bool.not_true, Bool.not_false, wn_ite, gT2, gT3, neV_tup, eqV_tup, in_tup, notin_tup', lineN_eq, Nat.reduceAdd, Nat.reduceLeDiff, Nat.zero_le, true_and, and_true, List.map_nil, List.map_cons, exists_eq_left', Option.some.injEq, PyData.list.injEq, exists_eq_left, PyData.int.injEq, R.ok.injEq, Sl.own.injEq, e0]
      exact k _ off
    split
    · have e1 : addV (.list ((ls.take at' ++ ls.drop (at' + 1)).map lineD)) (.list [lineD line]) = some (.list ((ls.take at' ++ ls.drop (at' + 1) ++ [line]).map lineD)) := addL (ys := [line]) (by rw [List.length_append, List.length_singleton]; omega)
      simp only [wn_ok, wn_some, wn_only, wn_noex, wn_e2, wn_e1, wn_eN, wn_a0, wn_aC, wn_call, wn_tb, wn_tup, wn_lst, wn_andB, wn_orB, wn_notB, wn_andV, wn_orV, wn_notV, wn_ifV, wn_iA, wn_iR1, wn_iR2, wn_iZ, wn_iEn, wn_iRR, wn_sl, wn_p0, wn_p1, wn_up, wn_upB, wn_upI, wn_x2, wn_x0, wn_xC, wn_xN, wn_xb, wn_xAnd, wn_xOr, wn_xNot, wn_xIf, wn_xCall, wn_xR1, wn_xR2, sn_nx, sn_rt, sn_bk, sn_ct, sn_seq, sn_set, sn_ret, sn_expr, sn_if, sn_for, sn_xSet, sn_xRet, sn_xExpr, sn_xIf, sn_xFor, sn_asg, sn_xAsg, sn_own, sn_xOwn, gv_zero, gv_succ, go_own, go_dat, go_succ, k0_def, gN_def, tru_bool, tru_none, tru_int, tru_list, asSeq_list, asSeq_tup, addV_int, subV_int, ltA_i, leA_i, gtA_i, geA_i, negV_int, intV_int, lenV_list, lenV_tup, ixV_list, ixV_tup, asInt_int, slV_list, slV_tup, slL_list, revV_tup, revV_list, tupleV_list, listV_list, listV_tup, eqV_str, neV_str, eqV_int, List.set_cons_zero, List.set_cons_succ, List.getElem?_cons_zero, List.getElem?_cons_succ, List.length_cons, List.length_nil, ↓reduceIte, Bool.false_eq_true, Bool.not_true, Bool.not_false, wn_ite, gT2, gT3, neV_tup, eqV_tup, in_tup, notin_tup', lineN_eq, Nat.reduceAdd, Nat.reduceLeDiff, Nat.zero_le, true_and, and_true, List.map_nil, List.map_cons, exists_eq_left', Option.some.injEq, PyData.list.injEq, exists_eq_left, PyData.int.injEq, R.ok.injEq, Sl.own.injEq, e0, e1]
      refine k _ ⟨by rw [List.length_append, List.length_append, List.length_singleton]; omega, fun l m => ?_⟩
      rcases List.mem_append.mp m with m | m
      · exact off.2 l m
      · rw [List.mem_singleton.mp m]
        exact ⟨by omega, lw⟩
    · have f5 : fdivV (.int r3) (.int 5) = some (.int (r3 / 5)) := fdivV_int (by decide)
      have g0 := Int.emod_nonneg (r3 / 5) (show (2 : Int) ≠ 0 by decide)
      have g1 := Int.emod_lt_of_pos (r3 / 5) (show (0 : Int) < 2 by decide)
      have u0 := Int.emod_nonneg r4 (show (((ls.length : Nat) : Int) + 1) ≠ 0 by omega)
      have u1 := Int.emod_lt_of_pos r4 (show (0 : Int) < (((ls.length : Nat) : Int) + 1) by omega)
      obtain ⟨u, hu, ul⟩ : ∃ u : Nat, atD [PyData.int (r4 % (((ls.length : Nat) : Int) + 1)), .int ((ls.length : Nat) : Int)] (r3 / 5 % 2) = some (.int ((u : Nat) : Int)) ∧ u ≤ ls.length := by
        by_cases z : r3 / 5 % 2 = 0
        · rw [z]
          exact ⟨(r4 % (((ls.length : Nat) : Int) + 1)).toNat, by rw [Int.toNat_of_nonneg u0]; rfl, by omega⟩
        · rw [show r3 / 5 % 2 = 1 by omega]
          exact ⟨ls.length, rfl, Nat.le_refl _⟩
      have j0 := Int.emod_nonneg r3 (show (5 : Int) ≠ 0 by decide)
      have j1 := Int.emod_lt_of_pos r3 (show (0 : Int) < 5 by decide)
      obtain ⟨l2, hl2, l2l, l2w⟩ : ∃ l2 : List Str, atD [lineD line, .list [.str ""], .list [.str ""], .list [.str "at"], .list [.str "0", .str "at", .str "0"]] (r3 % 5) = some (lineD l2) ∧ l2.length ≤ b + 1 ∧ ∀ w ∈ l2, w.length ≤ 8 := by
        rcases (by omega : r3 % 5 = 0 ∨ r3 % 5 = 1 ∨ r3 % 5 = 2 ∨ r3 % 5 = 3 ∨ r3 % 5 = 4) with z | z | z | z | z
        · rw [z]; exact ⟨line, rfl, by omega, lw⟩
        · rw [z]; exact ⟨[""], rfl, by simp, by decide +kernel⟩
        · rw [z]; exact ⟨[""], rfl, by simp, by decide +kernel⟩
        · rw [z]; exact ⟨["at"], rfl, by simp, by decide +kernel⟩
        · rw [z]; exact ⟨["0", "at", "0"], rfl, by simp only [List.length_cons, List.length_nil]; omega, by decide +kernel⟩
      have t0 := cutL_take ls u
      have t1 := cutL_drop ls u
      have e1 : addV (.list ((ls.take u).map lineD)) (.list [lineD l2]) = some (.list ((ls.take u ++ [l2]).map lineD)) := addL (ys := [l2]) (by rw [List.length_take, List.length_singleton]; omega)
      have e2 : addV (.list ((ls.take u ++ [l2]).map lineD)) (.list ((ls.drop u).map lineD)) = some (.list ((ls.take u ++ [l2] ++ ls.drop u).map lineD)) := addL (by rw [List.length_append, List.length_take, List.length_singleton, List.length_drop]; omega)
      simp only [wn_ok, wn_some, wn_only, wn_noex, wn_e2, wn_e1, wn_eN, wn_a0, wn_aC, wn_call, wn_tb, wn_tup, wn_lst, wn_andB, wn_orB, wn_notB, wn_andV, wn_orV, wn_notV, wn_ifV, wn_iA, wn_iR1, wn_iR2, wn_iZ, wn_iEn, wn_iRR, wn_sl, wn_p0, wn_p1, wn_up, wn_upB, wn_upI, wn_x2, wn_x0, wn_xC, wn_xN, wn_xb, wn_xAnd, wn_xOr, wn_xNot, wn_xIf, wn_xCall, wn_xR1, wn_xR2, sn_nx, sn_rt, sn_bk, sn_ct, sn_seq, sn_set, sn_ret, sn_expr, sn_if, sn_for, sn_xSet, sn_xRet, sn_xExpr, sn_xIf, sn_xFor, sn_asg, sn_xAsg, sn_own, sn_xOwn, gv_zero, gv_succ, go_own, go_dat, go_succ, k0_def, gN_def, tru_bool, tru_none, tru_int, tru_list, asSeq_list, asSeq_tup, addV_int, subV_int, ltA_i, leA_i, gtA_i, geA_i, negV_int, intV_int, lenV_list, lenV_tup, ixV_list, ixV_tup, asInt_int, slV_list, slV_tup, slL_list, revV_tup, revV_list, tupleV_list, listV_list, listV_tup, eqV_str, neV_str, eqV_int, List.set_cons_zero, List.set_cons_succ, List.getElem?_cons_zero, List.getElem?_cons_succ, List.length_cons, List.length_nil, ↓reduceIte, Bool.false_eq_true, Bool.not_true, Bool.not_false, wn_ite, gT2, gT3, neV_tup, eqV_tup, in_tup, notin_tup', lineN_eq, Nat.reduceAdd, Nat.reduceLeDiff, Nat.zero_le, true_and, and_true, List.map_nil, List.map_cons, exists_eq_left', Option.some.injEq, PyData.list.injEq, exists_eq_left, PyData.int.injEq, R.ok.injEq, Sl.own.injEq, x4, mL1, x3, f5, m2, hu, m5, hl2, t0, t1, e1, e2]
      refine k _ ⟨by rw [List.length_append, List.length_append, List.length_singleton, List.length_take, List.length_drop]; omega, fun l m => ?_⟩
      rcases List.mem_append.mp m with m | m
      · rcases List.mem_append.mp m with m | m
        · have := h.2 l (List.mem_of_mem_take m)
          exact ⟨by omega, this.2⟩
        · rw [List.mem_singleton.mp m]; exact ⟨l2l, l2w⟩
      · have := h.2 l (List.mem_of_mem_drop m)
        exact ⟨by omega, this.2⟩
end Tx
end Bd
/-! R11: texts read line by line, by both sides. -/
namespace Bd
open PySem L2
open TL
section
variable {r : Rs} {N B C : Nv → Prop} {T : D → Nv → Prop} {X : Str → Str → D → Prop} {η : Nv}
theorem sx_setR {i : Nat} {F : Nv → R D} (h : (∃ d, F η = .ok d ∧ N (η.set i (.d d))) ∨ ∃ c w p, F η = .ex c w p ∧ X c w p) : Sx (setS i F η) N T B C X := by
  show Sx ((F η).toS fun x => .nx (η.set i (.d x))) _ _ _ _ _
  exact sx_toS (h.imp (fun ⟨d, e, k⟩ => ⟨d, e, sx_nx.mpr k⟩) id)
theorem sx_retR {F : Nv → R D} (h : (∃ d, F η = .ok d ∧ T d η) ∨ ∃ c w p, F η = .ex c w p ∧ X c w p) : Sx (retS F η) N T B C X := by
  show Sx ((F η).toS fun x => .rt x η) _ _ _ _ _
  exact sx_toS (h.imp (fun ⟨d, e, k⟩ => ⟨d, e, sx_rt.mpr k⟩) id)
end
namespace Tx
/-! ### joined -/
theorem joinL_le (S : List Nat) (b : Nat) : ∀ {ps : List (List Nat)}, (∀ p ∈ ps, p.length ≤ b) → (joinL S ps).length ≤ ps.length * (b + S.length)
  | [], _ => Nat.zero_le _
  | [q], h => by
    show q.length ≤ _
    have := h q List.mem_cons_self
    rw [List.length_singleton, Nat.one_mul]
    omega
  | q :: r :: ps, h => by
    show (q ++ (S ++ joinL S (r :: ps))).length ≤ (ps.length + 1 + 1) * _
    rw [List.length_append, List.length_append]
    have h1 := h q List.mem_cons_self
    have ih := joinL_le S b (ps := r :: ps) fun p m => h p (List.mem_cons_of_mem _ m)
    have ih : (joinL S (r :: ps)).length ≤ (ps.length + 1) * (b + S.length) := ih
    rw [Nat.add_mul (ps.length + 1), Nat.one_mul]
    omega
theorem sum_le (k : Nat) : ∀ {l : List Nat}, (∀ x ∈ l, x ≤ k) → l.sum ≤ l.length * k
  | [], _ => Nat.zero_le _
  | x :: l, h => by
    rw [List.sum_cons, List.length_cons, Nat.add_mul, Nat.one_mul]
    have h1 := h x List.mem_cons_self
    have ih := sum_le k (l := l) fun y m => h y (List.mem_cons_of_mem _ m)
    omega
def lineT (l : List Str) : Str := Txt.join " " l
def textOf (ls : List (List Str)) : Str := Txt.join "\n" (ls.map lineT)
theorem len_join {y : Str} {ps : List Str} {b : Nat} (h : ∀ p ∈ ps, p.length ≤ b) : (Txt.join y ps).length ≤ ps.length * (b + y.length) := by
  rw [join_eq, len_tl, tl_join]
  have := joinL_le (tl y) b (ps := ps.map tl) fun p m => by
    obtain ⟨q, mq, rfl⟩ := List.mem_map.mp m
    rw [← len_tl]
    exact h q mq
  rw [List.length_map, ← len_tl] at this
  exact this
theorem len_sp : (Str.ofString " ").length = 1 := by decide +kernel
theorem len_nl : (Str.ofString "\n").length = 1 := by decide +kernel
theorem line_len {l : List Str} {b : Nat} (h1 : l.length ≤ b) (h2 : ∀ w ∈ l, w.length ≤ 8) : (lineT l).length ≤ b * 9 := by
  have := len_join (y := " ") h2
  rw [len_sp] at this
  exact Nat.le_trans this (Nat.mul_le_mul_right _ h1)
theorem Lim.text_len {a b : Nat} {ls : List (List Str)} (h : Lim a b ls) : (textOf ls).length ≤ a * (b * 9 + 1) := by
  have := len_join (y := "\n") (ps := ls.map lineT) (b := b * 9) fun p m => by
    obtain ⟨l, ml, rfl⟩ := List.mem_map.mp m
    exact line_len (h.2 l ml).1 (h.2 l ml).2
  rw [len_nl, List.length_map] at this
  exact Nat.le_trans this (Nat.mul_le_mul_right _ h.1)
theorem join_strs {y : Str} {ps : List Str} {b : Nat} (h : ∀ p ∈ ps, p.length ≤ b) (hb : ps.length * (b + y.length) ≤ 16777216) : joinV y (.list (ps.map PyData.str)) = some (.str (Txt.join y ps)) := by
  unfold joinV
  dsimp only
  rw [strs?_map]
  dsimp only
  refine if_pos ?_
  have := sum_le b (l := ps.map Str.length) fun x m => by
    obtain ⟨p, mp, rfl⟩ := List.mem_map.mp m
    exact h p mp
  rw [List.length_map] at this
  rw [Nat.mul_add] at hb
  show (ps.map Str.length).sum + ps.length * y.length ≤ 16777216
  omega
theorem join_line {l : List Str} (h1 : l.length ≤ 1000) (h2 : ∀ w ∈ l, w.length ≤ 8) : joinV " " (lineD l) = some (.str (lineT l)) :=
  join_strs h2 (by rw [len_sp]; omega)
theorem join_text {a b : Nat} {ls : List (List Str)} (h : Lim a b ls) (ha : a ≤ 1000) (hb : b ≤ 1000) : joinV "\n" (.list ((ls.map lineT).map PyData.str)) = some (.str (textOf ls)) := by
  refine join_strs (b := b * 9) (fun p m => ?_) ?_
  · obtain ⟨l, ml, rfl⟩ := List.mem_map.mp m
    exact line_len (h.2 l ml).1 (h.2 l ml).2
  · rw [len_nl, List.length_map]
    have h1 := h.1
    calc ls.length * (b * 9 + 1) ≤ 1000 * 9001 := Nat.mul_le_mul (by omega) (by omega)
      _ ≤ 16777216 := by decide
def lnT : D → D
  | .list ds => .str (Txt.join " " ((strs? ds).getD []))
  | _ => .none
theorem lnT_line (l : List Str) : lnT (lineD l) = .str (lineT l) := by
  show PyData.str (Txt.join " " ((strs? (l.map PyData.str)).getD [])) = _
  rw [strs?_map]
  rfl
/-- each line joined -/
theorem comp_join {i j : Nat} {η : Nv} {a b : Nat} {ls : List (List Str)} (hi : gv i η = .ok (.list (ls.map lineD))) (hj : j < η.length) (h : Lim a b ls) (ha : a ≤ 1000) (hb : b ≤ 1000) :
    compE (iA (gv i)) (gN j) (fun _ => .ok true) (s2 joinV (k0 (.str " ")) (gv j)) [j] η = .ok (.list ((ls.map lineT).map PyData.str)) := by
  refine Wn.eq ?_
  refine wn_comp (xs := ls.map lineD) (fun _ => true) lnT ?_ ?_ ?_ ?_
  · simp only [wn_ok, wn_some, wn_only, wn_noex, wn_e2, wn_e1, wn_eN, wn_a0, wn_aC, wn_call, wn_tb, wn_tup, wn_lst, wn_andB, wn_orB, wn_notB, wn_andV, wn_orV, wn_notV, wn_ifV, wn_iA, wn_iR1, wn_iR2, wn_iZ, wn_iEn, wn_iRR, wn_sl, wn_p0, wn_p1, wn_up, wn_upB, wn_upI, wn_x2, wn_x0, wn_xC, wn_xN, wn_xb, wn_xAnd, wn_xOr, wn_xNot, wn_xIf, wn_xCall, wn_xR1, wn_xR2, sn_nx, sn_rt, sn_bk, sn_ct, sn_seq, sn_set, sn_ret, sn_expr, sn_if, sn_for, sn_xSet, sn_xRet, sn_xExpr, sn_xIf, sn_xFor, sn_asg, sn_xAsg, sn_own, sn_xOwn, gv_zero, gv_succ, go_own, go_dat, go_succ, k0_def, gN_def, tru_bool, tru_none, tru_int, tru_list, asSeq_list, asSeq_tup, addV_int, subV_int, ltA_i, leA_i, gtA_i, geA_i, negV_int, intV_int, lenV_list, lenV_tup, ixV_list, ixV_tup, asInt_int, slV_list, slV_tup, slL_list, revV_tup, revV_list, tupleV_list, listV_list, listV_tup, eqV_str, neV_str, eqV_int, List.set_cons_zero, List.set_cons_succ, List.getElem?_cons_zero, List.getElem?_cons_succ, List.length_cons, List.length_nil, ↓reduceIte, Bool.false_eq_true, Bool.not_true, Bool.not_false, wn_ite, gT2, gT3, neV_tup, eqV_tup, in_tup, notin_tup', lineN_eq, Nat.reduceAdd, Nat.reduceLeDiff, Nat.zero_le, true_and, and_true, List.map_nil, List.map_cons, exists_eq_left', Option.some.injEq, PyData.list.injEq, exists_eq_left, PyData.int.injEq, R.ok.injEq, Sl.own.injEq, hi]
  · intro y m
    obtain ⟨l, ml, rfl⟩ := List.mem_map.mp m
    refine ⟨_, rfl, wn_ok.mpr ⟨rfl, fun _ => ?_⟩⟩
    have g : gv j ((wipeE η [j]).set j (.d (lineD l))) = .ok (lineD l) := by
      unfold gv
      rw [List.getElem?_set]
      have : j < (wipeE η [j]).length := by show j < (η.set j .no).length; rw [List.length_set]; exact hj
      simp [this]
    simp only [wn_ok, wn_some, wn_only, wn_noex, wn_e2, wn_e1, wn_eN, wn_a0, wn_aC, wn_call, wn_tb, wn_tup, wn_lst, wn_andB, wn_orB, wn_notB, wn_andV, wn_orV, wn_notV, wn_ifV, wn_iA, wn_iR1, wn_iR2, wn_iZ, wn_iEn, wn_iRR, wn_sl, wn_p0, wn_p1, wn_up, wn_upB, wn_upI, wn_x2, wn_x0, wn_xC, wn_xN, wn_xb, wn_xAnd, wn_xOr, wn_xNot, wn_xIf, wn_xCall, wn_xR1, wn_xR2, sn_nx, sn_rt, sn_bk, sn_ct, sn_seq, sn_set, sn_ret, sn_expr, sn_if, sn_for, sn_xSet, sn_xRet, sn_xExpr, sn_xIf, sn_xFor, sn_asg, sn_xAsg, sn_own, sn_xOwn, gv_zero, gv_succ, go_own, go_dat, go_succ, k0_def, gN_def, tru_bool, tru_none, tru_int, tru_list, asSeq_list, asSeq_tup, addV_int, subV_int, ltA_i, leA_i, gtA_i, geA_i, negV_int, intV_int, lenV_list, lenV_tup, ixV_list, ixV_tup, asInt_int, slV_list, slV_tup, slL_list, revV_tup, revV_list, tupleV_list, listV_list, listV_tup, eqV_str, neV_str, eqV_int, List.set_cons_zero, List.set_cons_succ, List.getElem?_cons_zero, List.getElem?_cons_succ, List.length_cons, List.length_nil, ↓reduceIte, Bool.false_eq_true, Bool.not_true, Bool.not_false, wn_ite, gT2, gT3, neV_tup, eqV_tup, in_tup, notin_tup', lineN_eq, Nat.reduceAdd, Nat.reduceLeDiff, Nat.zero_le, true_and, and_true, List.map_nil, List.map_cons, exists_eq_left', Option.some.injEq, PyData.list.injEq, exists_eq_left, PyData.int.injEq, R.ok.injEq, Sl.own.injEq, wn_s2, PyData.str.injEq, g, join_line (l := l) (by have := (h.2 l ml).1; omega) (h.2 l ml).2]
    rw [lnT_line]
  · rw [List.length_map, lineN_eq]
    have := h.1
    omega
  · rw [List.filter_eq_self.mpr fun _ _ => rfl, List.map_map, List.map_map]
    congr 1
    exact List.map_congr_left fun l _ => lnT_line l
/-- each line split, by the law -/
theorem comp_split {t : Str} {i j : Nat} {η : Nv} (hl : t.length ≤ 1000000) (ne : t ≠ "") (hi : gv i η = .ok (.str t)) (hj : j < η.length) :
    compE (iA (s2 splitV (gv i) (k0 (.str "\n")))) (gN j) (fun _ => .ok true) (s2 splitV (gv j) (k0 (.str " "))) [j] η = .ok (.list ((wlL t).map lineD)) := by
  refine Wn.eq ?_
  refine wn_comp (xs := (Txt.split t "\n").map PyData.str) (fun _ => true) splD ?_ ?_ ?_ ?_
  · simp only [wn_ok, wn_some, wn_only, wn_noex, wn_e2, wn_e1, wn_eN, wn_a0, wn_aC, wn_call, wn_tb, wn_tup, wn_lst, wn_andB, wn_orB, wn_notB, wn_andV, wn_orV, wn_notV, wn_ifV, wn_iA, wn_iR1, wn_iR2, wn_iZ, wn_iEn, wn_iRR, wn_sl, wn_p0, wn_p1, wn_up, wn_upB, wn_upI, wn_x2, wn_x0, wn_xC, wn_xN, wn_xb, wn_xAnd, wn_xOr, wn_xNot, wn_xIf, wn_xCall, wn_xR1, wn_xR2, sn_nx, sn_rt, sn_bk, sn_ct, sn_seq, sn_set, sn_ret, sn_expr, sn_if, sn_for, sn_xSet, sn_xRet, sn_xExpr, sn_xIf, sn_xFor, sn_asg, sn_xAsg, sn_own, sn_xOwn, gv_zero, gv_succ, go_own, go_dat, go_succ, k0_def, gN_def, tru_bool, tru_none, tru_int, tru_list, asSeq_list, asSeq_tup, addV_int, subV_int, ltA_i, leA_i, gtA_i, geA_i, negV_int, intV_int, lenV_list, lenV_tup, ixV_list, ixV_tup, asInt_int, slV_list, slV_tup, slL_list, revV_tup, revV_list, tupleV_list, listV_list, listV_tup, eqV_str, neV_str, eqV_int, List.set_cons_zero, List.set_cons_succ, List.getElem?_cons_zero, List.getElem?_cons_succ, List.length_cons, List.length_nil, ↓reduceIte, Bool.false_eq_true, Bool.not_true, Bool.not_false, wn_ite, gT2, gT3, neV_tup, eqV_tup, in_tup, notin_tup', lineN_eq, Nat.reduceAdd, Nat.reduceLeDiff, Nat.zero_le, true_and, and_true, List.map_nil, List.map_cons, exists_eq_left', Option.some.injEq, PyData.list.injEq, exists_eq_left, PyData.int.injEq, R.ok.injEq, Sl.own.injEq, wn_s2, PyData.str.injEq, hi, split_nl hl]
  · intro y m
    obtain ⟨l, ml, rfl⟩ := List.mem_map.mp m
    have := split_len nl1 (by decide +kernel) ml
    refine ⟨_, rfl, wn_ok.mpr ⟨rfl, fun _ => ?_⟩⟩
    have g : gv j ((wipeE η [j]).set j (.d (.str l))) = .ok (.str l) := by
      unfold gv
      rw [List.getElem?_set]
      have : j < (wipeE η [j]).length := by show j < (η.set j .no).length; rw [List.length_set]; exact hj
      simp [this]
    simp only [wn_ok, wn_some, wn_only, wn_noex, wn_e2, wn_e1, wn_eN, wn_a0, wn_aC, wn_call, wn_tb, wn_tup, wn_lst, wn_andB, wn_orB, wn_notB, wn_andV, wn_orV, wn_notV, wn_ifV, wn_iA, wn_iR1, wn_iR2, wn_iZ, wn_iEn, wn_iRR, wn_sl, wn_p0, wn_p1, wn_up, wn_upB, wn_upI, wn_x2, wn_x0, wn_xC, wn_xN, wn_xb, wn_xAnd, wn_xOr, wn_xNot, wn_xIf, wn_xCall, wn_xR1, wn_xR2, sn_nx, sn_rt, sn_bk, sn_ct, sn_seq, sn_set, sn_ret, sn_expr, sn_if, sn_for, sn_xSet, sn_xRet, sn_xExpr, sn_xIf, sn_xFor, sn_asg, sn_xAsg, sn_own, sn_xOwn, gv_zero, gv_succ, go_own, go_dat, go_succ, k0_def, gN_def, tru_bool, tru_none, tru_int, tru_list, asSeq_list, asSeq_tup, addV_int, subV_int, ltA_i, leA_i, gtA_i, geA_i, negV_int, intV_int, lenV_list, lenV_tup, ixV_list, ixV_tup, asInt_int, slV_list, slV_tup, slL_list, revV_tup, revV_list, tupleV_list, listV_list, listV_tup, eqV_str, neV_str, eqV_int, List.set_cons_zero, List.set_cons_succ, List.getElem?_cons_zero, List.getElem?_cons_succ, List.length_cons, List.length_nil, ↓reduceIte, Bool.false_eq_true, Bool.not_true, Bool.not_false, wn_ite, gT2, gT3, neV_tup, eqV_tup, in_tup, notin_tup', lineN_eq, Nat.reduceAdd, Nat.reduceLeDiff, Nat.zero_le, true_and, and_true, List.map_nil, List.map_cons, exists_eq_left', Option.some.injEq, PyData.list.injEq, exists_eq_left, PyData.int.injEq, R.ok.injEq, Sl.own.injEq, wn_s2, PyData.str.injEq, g, split_sp (t := l) (by omega)]
    rfl
  · have := split_cnt (x := t) nl1 (by decide +kernel)
    rw [List.length_map, lineN_eq]
    omega
  · rw [wl_map]
    unfold wlL
    rw [if_neg ne]
/-! ### how many, how long -/
theorem wl_cnt (t : Str) : (wlL t).length ≤ t.length + 1 := by
  unfold wlL
  split
  · exact Nat.zero_le _
  · rw [List.length_map]
    exact split_cnt nl1 (by decide +kernel)
theorem wl_line {t : Str} {l : List Str} (m : l ∈ wlL t) : l.length ≤ t.length + 1 ∧ (∀ w ∈ l, w.length ≤ t.length) := by
  unfold wlL at m
  split at m
  · exact absurd m List.not_mem_nil
  · obtain ⟨x, mx, rfl⟩ := List.mem_map.mp m
    have h1 := split_len nl1 (by decide +kernel) mx
    have h2 := split_cnt (x := x) sp1 (by decide +kernel)
    refine ⟨by omega, fun w mw => ?_⟩
    have := split_len sp1 (by decide +kernel) mw
    omega
theorem wl_back {t : Str} (ne : t ≠ "") : textOf (wlL t) = t := by
  unfold textOf wlL
  rw [if_neg ne, List.map_map]
  have e : (Txt.split t "\n").map (lineT ∘ fun l => Txt.split l " ") = Txt.split t "\n" := by
    conv => rhs; rw [← List.map_id (Txt.split t "\n")]
    exact List.map_congr_left fun l _ => join_split sp1 (by decide +kernel)
  rw [e]
  exact join_split nl1 (by decide +kernel)
/-! ### the first line that isn't one -/
section
variable (g : List Str → Option D)
def rdB : Nat → List (List Str) → Option Nat
  | _, [] => none
  | k, l :: ls => if (g l).isSome = true then rdB (k + 1) ls else some k
def oneR (k : Nat) (l : List Str) : R D := match g l with
  | none => .ex "BadLine" "BadLine" (.int ((k : Nat) : Int))
  | some y => .ok y
def rowsO (ls : List (List Str)) : List D := ls.map fun l => (g l).getD .none
def rdO (ls : List (List Str)) : Option Nat → R (List D)
  | none => .ok (rowsO g ls)
  | some k => .ex "BadLine" "BadLine" (.int ((k : Nat) : Int))
end
theorem compR_rd {g : List Str → Option D} {T : Tgt} {El : Nv → R D} {η : Nv} : ∀ (k : Nat) (ls : List (List Str)), (∀ j l, l ∈ ls → j < k + ls.length → ∃ η1, T (.tuple [.int ((j : Nat) : Int), lineD l]) η = some η1 ∧ El η1 = oneR g j l) →
    compR T El η (enumD k (ls.map lineD)) = rdO g ls (rdB g k ls)
  | k, [], _ => rfl
  | k, l :: ls, h => by
    obtain ⟨η1, e1, e2⟩ := h k l List.mem_cons_self (by rw [List.length_cons]; omega)
    have ih := compR_rd (k + 1) ls fun j l m hj => h j l (List.mem_cons_of_mem _ m) (by rw [List.length_cons]; omega)
    rw [List.map_cons]
    unfold enumD compR rdB
    rw [e1]
    dsimp only
    rw [e2]
    unfold oneR
    cases hg : g l with
    | none => rfl
    | some y =>
      dsimp only
      rw [R.ok_bind, ih, Option.isSome_some, if_pos rfl]
      cases rdB g (k + 1) ls with
      | none =>
        show R.ok (y :: rowsO g ls) = .ok (rowsO g (l :: ls))
        unfold rowsO
        rw [List.map_cons, hg]
        rfl
      | some j => rfl
theorem rdB_lt {g : List Str → Option D} : ∀ {k : Nat} {ls : List (List Str)} {j : Nat}, rdB g k ls = some j → j < k + ls.length
  | _, [], _, h => nomatch h
  | k, l :: ls, j, h => by
    unfold rdB at h
    rw [List.length_cons]
    split at h
    · have := rdB_lt h
      omega
    · cases h
      omega
theorem rdB_all {g : List Str → Option D} : ∀ {k : Nat} {ls : List (List Str)}, rdB g k ls = none → ∀ l ∈ ls, (g l).isSome = true
  | _, [], _, _, m => absurd m List.not_mem_nil
  | k, l :: ls, h, x, m => by
    unfold rdB at h
    split at h
    · rcases List.mem_cons.mp m with rfl | m
      · assumption
      · exact rdB_all h x m
    · cases h
/-- what the program reads -/
theorem readP {g : List Str → Option D} {t : Str} (hl : t.length ≤ 100000) {Fw Fo : List D → R D} (hw : Fw [.str t] = .ok (.list ((wlL t).map lineD))) (ho : ∀ (l : List Str) (j : Nat), l ∈ wlL t → j < 1000000 → Fo [lineD l, .int ((j : Nat) : Int)] = oneR g j l) :
    compRE (iEn (aC (callV Fw (aC (gv 0) a0)) a0)) (gT 2 (gsC (gN 2) (gsC (gN 3) gs0))) (callX Fo (aC (gv 3) (aC (gv 2) a0))) [2, 3] [.d (.str t), .no, .no, .no] = (rdO g (wlL t) (rdB g 0 (wlL t))).bind fun ys => .ok (.list ys) := by
  have c := wl_cnt t
  have hi : iEn (aC (callV Fw (aC (gv 0) a0)) a0) [.d (.str t), .no, .no, .no] = .ok (enumD 0 ((wlL t).map lineD)) := by
    have : aC (callV Fw (aC (gv 0) a0)) a0 [.d (.str t), .no, .no, .no] = .ok [.list ((wlL t).map lineD)] := by
      refine Wn.eq ?_
      simp only [wn_ok, wn_some, wn_only, wn_noex, wn_e2, wn_e1, wn_eN, wn_a0, wn_aC, wn_call, wn_tb, wn_tup, wn_lst, wn_andB, wn_orB, wn_notB, wn_andV, wn_orV, wn_notV, wn_ifV, wn_iA, wn_iR1, wn_iR2, wn_iZ, wn_iEn, wn_iRR, wn_sl, wn_p0, wn_p1, wn_up, wn_upB, wn_upI, wn_x2, wn_x0, wn_xC, wn_xN, wn_xb, wn_xAnd, wn_xOr, wn_xNot, wn_xIf, wn_xCall, wn_xR1, wn_xR2, sn_nx, sn_rt, sn_bk, sn_ct, sn_seq, sn_set, sn_ret, sn_expr, sn_if, sn_for, sn_xSet, sn_xRet, sn_xExpr, sn_xIf, sn_xFor, sn_asg, sn_xAsg, sn_own, sn_xOwn, gv_zero, gv_succ, go_own, go_dat, go_succ, k0_def, gN_def, tru_bool, tru_none, tru_int, tru_list, asSeq_list, asSeq_tup, addV_int, subV_int, ltA_i, leA_i, gtA_i, geA_i, negV_int, intV_int, lenV_list, lenV_tup, ixV_list, ixV_tup, asInt_int, slV_list, slV_tup, slL_list, revV_tup, revV_list, tupleV_list, listV_list, listV_tup, eqV_str, neV_str, eqV_int, List.set_cons_zero, List.set_cons_succ, List.getElem?_cons_zero, List.getElem?_cons_succ, List.length_cons, List.length_nil, ↓reduceIte, Bool.false_eq_true, Bool.not_true, Bool.not_false, wn_ite, gT2, gT3, neV_tup, eqV_tup, in_tup, notin_tup', lineN_eq, Nat.reduceAdd, Nat.reduceLeDiff, Nat.zero_le, true_and, and_true, List.map_nil, List.map_cons, exists_eq_left', Option.some.injEq, PyData.list.injEq, exists_eq_left, PyData.int.injEq, R.ok.injEq, Sl.own.injEq, hw]
    unfold iEn
    rw [this]
    rfl
  unfold compRE
  rw [hi, R.ok_bind]
  have el : ∀ (k : Nat) (xs : List D), (enumD k xs).length = xs.length := fun k xs => by
    induction xs generalizing k with
    | nil => rfl
    | cons x xs ih => show (enumD (k + 1) xs).length + 1 = _; rw [ih]; rfl
  rw [if_pos (by rw [el, List.length_map, lineN_eq]; omega)]
  congr 1
  exact compR_rd 0 (wlL t) fun j l m hj => ⟨[.d (.str t), .no, .d (.int ((j : Nat) : Int)), .d (lineD l)], rfl, ho l j m (by omega)⟩
end Tx
end Bd
namespace Bd
open PySem L2
/-- is_whole: 0 value -/
def G_is_whole : Nv → Rs :=
    (seqS (retS (andV (e1 (isiV "int") (gv 0)) (notV (e1 (isiV "bool") (gv 0)))))
    .nx)
def F_is_whole : List D → R D := runD 1 (.ok .none) G_is_whole
/-- is_height: 0 value -/
def G_is_height : Nv → Rs :=
    (seqS (retS (andV (callV F_is_whole (aC (gv 0) a0)) (chainV leA leA (e1 negV (k0 (.int (1000)))) (gv 0) (k0 (.int (1000))))))
    .nx)
def F_is_height : List D → R D := runD 1 (.ok .none) G_is_height
/-- is_bar: 0 value, 1 dimension, 2 birth, 3 death -/
def G_is_bar : Nv → Rs :=
    (seqS (ifS (orB (notB (tb (e1 (isiV "tuple") (gv 0)))) (tb (e2 neV' (eN lenV (aC (gv 0) a0)) (k0 (.int 3))))) (seqS (retS (k0 (.bool false)))
    .nx) .nx)
    (seqS (asgS (gT 3 (gsC (gN 1) (gsC (gN 2) (gsC (gN 3) gs0)))) (gv 0))
    (seqS (ifS (orB (notB (tb (callV F_is_whole (aC (gv 1) a0)))) (notB (tb (chainV leA leA (k0 (.int 0)) (gv 1) (k0 (.int (2))))))) (seqS (retS (k0 (.bool false)))
    .nx) .nx)
    (seqS (ifS (notB (tb (callV F_is_height (aC (gv 2) a0)))) (seqS (retS (k0 (.bool false)))
    .nx) .nx)
    (seqS (retS (orV (e2 isV (gv 3) (k0 .none)) (andV (callV F_is_height (aC (gv 3) a0)) (e2 ltA (gv 2) (gv 3)))))
    .nx)))))
def F_is_bar : List D → R D := runD 4 (.ok .none) G_is_bar
/-- check_bars: 0 bars, 1 index, 2 bar -/
def G_check_bars : Nv → Rs :=
    (seqS (forS (iEn (aC (gv 0) a0)) (gT 2 (gsC (gN 1) (gsC (gN 2) gs0))) (seqS (ifS (notB (tb (callV F_is_bar (aC (gv 2) a0)))) (seqS (raiseS "BadBar" "BadBar" (gv 1))
    .nx) .nx)
    .nx))
    .nx)
def F_check_bars : List D → R D := runD 3 (.ok .none) G_check_bars
/-- _bar_line: 0 dimension, 1 birth, 2 death -/
def G__bar_line : Nv → Rs :=
    (seqS (retS (s2 joinV (k0 (.str " ")) (lstV (aC (eN strIV (aC (gv 0) a0)) (aC (eN strIV (aC (gv 1) a0)) (aC (ifV (tb (e2 isV (gv 2) (k0 .none))) (k0 (.str "-")) (eN strIV (aC (gv 2) a0))) a0))))))
    .nx)
def F__bar_line : List D → R D := runD 3 (.ok .none) G__bar_line
/-- format_bars: 0 bars, 1 dimension, 2 birth, 3 death -/
def G_format_bars : Nv → Rs :=
    (seqS (retS (s2 joinV (k0 (.str "\n")) (compE (iA (gv 0)) (gT 3 (gsC (gN 1) (gsC (gN 2) (gsC (gN 3) gs0)))) (fun _ => .ok true) (callV F__bar_line (aC (gv 1) (aC (gv 2) (aC (gv 3) a0)))) [1, 2, 3])))
    .nx)
def F_format_bars : List D → R D := runD 4 (.ok .none) G_format_bars
/-- _is_number: 0 word, 1 digits, 2 sign -/
def G__is_number : Nv → Rs :=
    (seqS (setS 1 (s2 rmpV (gv 0) (k0 (.str "-"))))
    (seqS (ifS (notB (tb (chainV leA leA (k0 (.int 1)) (eN lenTV (aC (gv 1) a0)) (k0 (.int (6)))))) (seqS (retS (k0 (.bool false)))
    .nx) .nx)
    (seqS (ifS (notB (tb (eN allV (aC (compE (iSg (gv 1)) (gN 2) (fun _ => .ok true) (e2 (inT false) (gv 2) (k0 (.str "0123456789"))) [2]) a0)))) (seqS (retS (k0 (.bool false)))
    .nx) .nx)
    (seqS (retS (orV (e2 neV' (e2 ixT (gv 1) (k0 (.int 0))) (k0 (.str "0"))) (e2 eqV' (gv 0) (k0 (.str "0")))))
    .nx))))
def F__is_number : List D → R D := runD 3 (.ok .none) G__is_number
/-- _number_of: 0 word, 1 index -/
def G__number_of : Nv → Rs :=
    (seqS (ifS (notB (tb (callV F__is_number (aC (gv 0) a0)))) (seqS (raiseS "BadLine" "BadLine" (gv 1))
    .nx) .nx)
    (seqS (retS (eN intSV (aC (gv 0) a0)))
    .nx))
def F__number_of : List D → R D := runD 2 (.ok .none) G__number_of
/-- _bar_of: 0 words, 1 index, 2 dimension, 3 birth, 4 death, 5 end -/
def G__bar_of : Nv → Rs :=
    (seqS (ifS (tb (e2 neV' (eN lenV (aC (gv 0) a0)) (k0 (.int 3)))) (seqS (raiseS "BadLine" "BadLine" (gv 1))
    .nx) .nx)
    (seqS (asgS (gTL 3 (gsC (gN 2) (gsC (gN 3) (gsC (gN 4) gs0)))) (gv 0))
    (seqS (setS 5 (ifV (tb (e2 eqV' (gv 4) (k0 (.str "-")))) (k0 .none) (callX F__number_of (aC (gv 4) (aC (gv 1) a0)))))
    (seqS (retS (tupV (aC (callX F__number_of (aC (gv 2) (aC (gv 1) a0))) (aC (callX F__number_of (aC (gv 3) (aC (gv 1) a0))) (aC (gv 5) a0)))))
    .nx))))
def F__bar_of : List D → R D := runD 6 (.ok .none) G__bar_of
/-- _words_by_line: 0 text, 1 line -/
def G__words_by_line : Nv → Rs :=
    (seqS (ifS (tb (e2 eqV' (gv 0) (k0 (.str "")))) (seqS (retS (lstV a0))
    .nx) .nx)
    (seqS (retS (compE (iA (s2 splitV (gv 0) (k0 (.str "\n")))) (gN 1) (fun _ => .ok true) (s2 splitV (gv 1) (k0 (.str " "))) [1]))
    .nx))
def F__words_by_line : List D → R D := runD 2 .no G__words_by_line
/-- parse_bars: 0 text, 1 bars, 2 index, 3 words -/
def G_parse_bars : Nv → Rs :=
    (seqS (setS 1 (compRE (iEn (aC (callV F__words_by_line (aC (gv 0) a0)) a0)) (gT 2 (gsC (gN 2) (gsC (gN 3) gs0))) (callX F__bar_of (aC (gv 3) (aC (gv 2) a0))) [2, 3]))
    (seqS (exprS (callX F_check_bars (aC (gv 1) a0)))
    (seqS (retS (gv 1))
    .nx)))
def F_parse_bars : List D → R D := runD 4 (.ok .none) G_parse_bars
/-- _law_cell: 0 script, 1 k -/
def G__law_cell : Nv → Rs :=
    (seqS (ifS (tb (e2 ltA (gv 1) (eN lenV (aC (gv 0) a0)))) (seqS (retS (e2 ixV (gv 0) (gv 1)))
    .nx) .nx)
    (seqS (retS (k0 (.int 0)))
    .nx))
def F__law_cell : List D → R D := runD 2 (.ok .none) G__law_cell
/-- _law_row: 0 cell, 1 count, 2 base, 3 row, 4 k, 5 number -/
def G__law_row : Nv → Rs :=
    (seqS (ownS 3 (lstV a0))
    (seqS (forS (iR1 (aC (gv 1) a0)) (gN 4) (seqS (ifS (tb (e2 geA (gv 0) (e2 powV (k0 (.int 10)) (k0 (.int 18))))) (seqS (appS 3 (e2 modV (eN intV (aC (gv 0) a0)) (gv 2)))
    (seqS (setS 0 (e2 fdivV (gv 0) (gv 2)))
    .nx)) (seqS (setS 5 (e2 modV (eN intV (aC (e2 addV (e2 addV (e2 mulV (gv 0) (k0 (.int 48271))) (e2 mulV (gv 4) (k0 (.int 69621)))) (k0 (.int 12345))) a0)) (k0 (.int 2147483647))))
    (seqS (setS 5 (e2 modV (eN intV (aC (e2 addV (e2 addV (e2 mulV (gv 5) (gv 5)) (e2 mulV (k0 (.int 16807)) (gv 4))) (k0 (.int 7))) a0)) (k0 (.int 998244353))))
    (seqS (setS 5 (e2 modV (eN intV (aC (e2 addV (e2 addV (e2 mulV (gv 5) (gv 5)) (e2 mulV (k0 (.int 48271)) (gv 4))) (gv 0)) a0)) (k0 (.int 2147483629))))
    (seqS (appS 3 (e2 modV (eN intV (aC (e2 fdivV (gv 5) (k0 (.int 13))) a0)) (gv 2)))
    .nx)))))
    .nx))
    (seqS (retO 3)
    .nx)))
def F__law_row : List D → R D := runD 6 .no G__law_row
/-- _law_number: 0 word, 1 digits, 2 number, 3 digit -/
def G__law_number : Nv → Rs :=
    (seqS (setS 1 (gv 0))
    (seqS (ifS (tb (e2 eqV' (slE slT (gv 0) p0 (p1 (k0 (.int 1)))) (k0 (.str "-")))) (seqS (setS 1 (slE slT (gv 0) (p1 (k0 (.int 1))) p0))
    .nx) .nx)
    (seqS (ifS (orB (notB (tb (chainV leA leA (k0 (.int 1)) (eN lenTV (aC (gv 1) a0)) (k0 (.int 6))))) (andB (tb (e2 eqV' (e2 ixT (gv 1) (k0 (.int 0))) (k0 (.str "0")))) (tb (e2 neV' (gv 0) (k0 (.str "0")))))) (seqS (retS (k0 .none))
    .nx) .nx)
    (seqS (setS 2 (k0 (.int 0)))
    (seqS (forS (iSg (gv 1)) (gN 3) (seqS (ifS (tb (e2 (inT true) (gv 3) (k0 (.str "0123456789")))) (seqS (retS (k0 .none))
    .nx) .nx)
    (seqS (setS 2 (e2 addV (e2 mulV (gv 2) (k0 (.int 10))) (s2 indexT (k0 (.str "0123456789")) (gv 3))))
    .nx)))
    (seqS (retS (e2 ixV (lstV (aC (gv 2) (aC (e1 negV (gv 2)) a0))) (eN intV (aC (e2 eqV' (slE slT (gv 0) p0 (p1 (k0 (.int 1)))) (k0 (.str "-"))) a0))))
    .nx))))))
def F__law_number : List D → R D := runD 4 (.ok .none) G__law_number
/-- _law_word_of: 0 cell, 1 words -/
def G__law_word_of : Nv → Rs :=
    (seqS (setS 1 (lstV (aC (k0 (.str "")) (aC (k0 (.str "0")) (aC (k0 (.str "1")) (aC (k0 (.str "2")) (aC (k0 (.str "11")) (aC (k0 (.str "12")) (aC (k0 (.str "-1")) (aC (k0 (.str "1000")) (aC (k0 (.str "1001")) (aC (k0 (.str "-1000")) (aC (k0 (.str "-1001")) (aC (k0 (.str "00")) (aC (k0 (.str "-0")) (aC (k0 (.str "+1")) (aC (k0 (.str "1.0")) (aC (k0 (.str "0123")) a0))))))))))))))))))
    (seqS (setS 1 (e2 addV (gv 1) (lstV (aC (k0 (.str "999999")) (aC (k0 (.str "1000000")) (aC (k0 (.str "-999999")) (aC (k0 (.str "-1000000")) (aC (k0 (.str "--1")) (aC (k0 (.str "-01")) (aC (k0 (.str "1_0")) (aC (k0 (.str "-")) (aC (k0 (.str "at")) (aC (k0 (.str "At")) (aC (k0 (.str "3")) (aC (k0 (.str "a")) a0)))))))))))))))
    (seqS (retS (e2 ixV (gv 1) (e2 modV (eN intV (aC (gv 0) a0)) (k0 (.int 28)))))
    .nx)))
def F__law_word_of : List D → R D := runD 2 (.ok .none) G__law_word_of
/-- _law_changed: 0 cell, 1 lines, 2 row, 3 at, 4 line, 5 place, 6 choice, 7 spot -/
def G__law_changed : Nv → Rs :=
    (seqS (setS 2 (callV F__law_row (aC (gv 0) (aC (k0 (.int 5)) (aC (k0 (.int 720720)) a0)))))
    (seqS (setS 3 (e2 modV (eN intV (aC (e2 ixV (gv 2) (k0 (.int 0))) a0)) (eN lenV (aC (gv 1) a0))))
    (seqS (setS 4 (e2 ixV (gv 1) (gv 3)))
    (seqS (setS 5 (e2 modV (eN intV (aC (e2 ixV (gv 2) (k0 (.int 1))) a0)) (e2 addV (eN lenV (aC (gv 4) a0)) (k0 (.int 1)))))
    (seqS (setS 6 (e2 modV (eN intV (aC (e2 ixV (gv 2) (k0 (.int 2))) a0)) (k0 (.int 9))))
    (seqS (ifS (tb (e2 eqV' (gv 6) (k0 (.int 0)))) (seqS (retS (e2 addV (e2 addV (slE slV (gv 1) p0 (p1 (gv 3))) (lstV (aC (e2 addV (slE slV (gv 4) p0 (p1 (gv 5))) (slE slV (gv 4) (p1 (e2 addV (gv 5) (k0 (.int 1)))) p0)) a0))) (slE slV (gv 1) (p1 (e2 addV (gv 3) (k0 (.int 1)))) p0)))
    .nx) .nx)
    (seqS (ifS (tb (e2 eqV' (gv 6) (k0 (.int 1)))) (seqS (retS (e2 addV (e2 addV (slE slV (gv 1) p0 (p1 (gv 3))) (lstV (aC (e2 addV (slE slV (gv 4) p0 (p1 (gv 5))) (slE slV (gv 4) (p1 (eN maxV (aC (k0 (.int 0)) (aC (e2 subV (gv 5) (k0 (.int 1))) a0)))) p0)) a0))) (slE slV (gv 1) (p1 (e2 addV (gv 3) (k0 (.int 1)))) p0)))
    .nx) .nx)
    (seqS (ifS (tb (e2 ltA (gv 6) (k0 (.int 6)))) (seqS (retS (e2 addV (e2 addV (slE slV (gv 1) p0 (p1 (gv 3))) (lstV (aC (e2 addV (e2 addV (slE slV (gv 4) p0 (p1 (gv 5))) (lstV (aC (callV F__law_word_of (aC (e2 ixV (gv 2) (k0 (.int 3))) a0)) a0))) (slE slV (gv 4) (p1 (e2 addV (gv 5) (e2 modV (eN intV (aC (gv 6) a0)) (k0 (.int 2))))) p0)) a0))) (slE slV (gv 1) (p1 (e2 addV (gv 3) (k0 (.int 1)))) p0)))
    .nx) .nx)
    (seqS (ifS (tb (e2 eqV' (gv 6) (k0 (.int 6)))) (seqS (retS (e2 addV (slE slV (gv 1) p0 (p1 (gv 3))) (slE slV (gv 1) (p1 (e2 addV (gv 3) (k0 (.int 1)))) p0)))
    .nx) .nx)
    (seqS (ifS (tb (e2 eqV' (gv 6) (k0 (.int 7)))) (seqS (retS (e2 addV (e2 addV (slE slV (gv 1) p0 (p1 (gv 3))) (slE slV (gv 1) (p1 (e2 addV (gv 3) (k0 (.int 1)))) p0)) (lstV (aC (gv 4) a0))))
    .nx) .nx)
    (seqS (setS 7 (e2 ixV (lstV (aC (e2 modV (eN intV (aC (e2 ixV (gv 2) (k0 (.int 4))) a0)) (e2 addV (eN lenV (aC (gv 1) a0)) (k0 (.int 1)))) (aC (eN lenV (aC (gv 1) a0)) a0))) (e2 modV (eN intV (aC (e2 fdivV (e2 ixV (gv 2) (k0 (.int 3))) (k0 (.int 5))) a0)) (k0 (.int 2)))))
    (seqS (retS (e2 addV (e2 addV (slE slV (gv 1) p0 (p1 (gv 7))) (lstV (aC (e2 ixV (lstV (aC (gv 4) (aC (lstV (aC (k0 (.str "")) a0)) (aC (lstV (aC (k0 (.str "")) a0)) (aC (lstV (aC (k0 (.str "at")) a0)) (aC (lstV (aC (k0 (.str "0")) (aC (k0 (.str "at")) (aC (k0 (.str "0")) a0)))) a0)))))) (e2 modV (eN intV (aC (e2 ixV (gv 2) (k0 (.int 3))) a0)) (k0 (.int 5)))) a0))) (slE slV (gv 1) (p1 (gv 7)) p0)))
    .nx))))))))))))
def F__law_changed : List D → R D := runD 8 (.ok .none) G__law_changed
/-- _law_bar: 0 cell, 1 row, 2 wide, 3 birth, 4 death -/
def G__law_bar : Nv → Rs :=
    (seqS (setS 1 (callV F__law_row (aC (gv 0) (aC (k0 (.int 5)) (aC (k0 (.int 2001)) a0)))))
    (seqS (setS 2 (e2 ixV (lstV (aC (k0 (.int 4)) (aC (k0 (.int 2001)) a0))) (e2 modV (eN intV (aC (e2 ixV (gv 1) (k0 (.int 3))) a0)) (k0 (.int 2)))))
    (seqS (setS 3 (e2 subV (e2 modV (eN intV (aC (e2 ixV (gv 1) (k0 (.int 1))) a0)) (gv 2)) (e2 ixV (lstV (aC (k0 (.int 2)) (aC (k0 (.int 1000)) a0))) (e2 modV (eN intV (aC (e2 ixV (gv 1) (k0 (.int 3))) a0)) (k0 (.int 2))))))
    (seqS (setS 4 (eN minV (aC (k0 (.int 1000)) (aC (e2 addV (e2 addV (gv 3) (k0 (.int 1))) (e2 modV (eN intV (aC (e2 ixV (gv 1) (k0 (.int 2))) a0)) (gv 2))) a0))))
    (seqS (ifS (orB (tb (e2 eqV' (gv 4) (gv 3))) (tb (e2 eqV' (e2 modV (eN intV (aC (e2 ixV (gv 1) (k0 (.int 4))) a0)) (k0 (.int 4))) (k0 (.int 0))))) (seqS (setS 4 (k0 .none))
    .nx) .nx)
    (seqS (retS (tupV (aC (e2 modV (eN intV (aC (e2 ixV (gv 1) (k0 (.int 0))) a0)) (k0 (.int 3))) (aC (gv 3) (aC (gv 4) a0)))))
    .nx))))))
def F__law_bar : List D → R D := runD 5 (.ok .none) G__law_bar
/-- _law_words: 0 bar, 1 part -/
def G__law_words : Nv → Rs :=
    (seqS (ifS (tb (e2 isV (e2 ixV (gv 0) (k0 (.int 2))) (k0 .none))) (seqS (retS (lstV (aC (eN strIV (aC (e2 ixV (gv 0) (k0 (.int 0))) a0)) (aC (eN strIV (aC (e2 ixV (gv 0) (k0 (.int 1))) a0)) (aC (k0 (.str "-")) a0)))))
    .nx) .nx)
    (seqS (retS (compE (iA (gv 0)) (gN 1) (fun _ => .ok true) (eN strIV (aC (gv 1) a0)) [1]))
    .nx))
def F__law_words : List D → R D := runD 2 .no G__law_words
/-- _law_read: 0 lines, 1 found, 2 k, 3 words, 4 numbers, 5 word -/
def G__law_read : Nv → Rs :=
    (seqS (ownS 1 (lstV a0))
    (seqS (forS (iR1 (aC (eN lenV (aC (gv 0) a0)) a0)) (gN 2) (seqS (setS 3 (e2 ixV (gv 0) (gv 2)))
    (seqS (ifS (tb (e2 neV' (eN lenV (aC (gv 3) a0)) (k0 (.int 3)))) (seqS (retS (gv 2))
    .nx) .nx)
    (seqS (setS 4 (compE (iA (gv 3)) (gN 5) (fun _ => .ok true) (callV F__law_number (aC (gv 5) a0)) [5]))
    (seqS (ifS (orB (tb (e2 inV' (k0 .none) (slE slV (gv 4) p0 (p1 (k0 (.int 2)))))) (andB (tb (e2 isV (e2 ixV (gv 4) (k0 (.int 2))) (k0 .none))) (tb (e2 neV' (e2 ixV (gv 3) (k0 (.int 2))) (k0 (.str "-")))))) (seqS (retS (gv 2))
    .nx) .nx)
    (seqS (appS 1 (eN tupleV (aC (gv 4) a0)))
    .nx))))))
    (seqS (frzS 1)
    (seqS (retS (gv 1))
    .nx))))
def F__law_read : List D → R D := runD 6 (.ok .none) G__law_read
/-- _law_outcome: 0 which, 1 value, 2 e -/
def G__law_outcome : Nv → Rs :=
    (seqS (tryS 2 3 [("BarError", true), ("BadShape", true), ("BadBar", true), ("BadLine", true)] (seqS (ifS (tb (e2 eqV' (gv 0) (k0 (.int 0)))) (seqS (retS (callX F_parse_bars (aC (gv 1) a0)))
    .nx) .nx)
    (seqS (exprS (callX F_check_bars (aC (gv 1) a0)))
    (seqS (retS (eN listV (aC (gv 1) a0)))
    .nx)))
    (seqS (ifS (orB (notB (tb (isxV [("BarError", true), ("BadShape", true), ("BadBar", true), ("BadLine", true)] 2))) (orB (tb (e2 neV' (isxV [("BarError", false), ("BadShape", false), ("BadBar", false), ("BadLine", true)] 2) (e2 eqV' (xfV [("BarError", true), ("BadShape", true), ("BadBar", true), ("BadLine", true)] true 2) (k0 (.str "BadLine"))))) (tb (isxV [("BarError", false), ("BadShape", true), ("BadBar", false), ("BadLine", false)] 2)))) (seqS (retS (tupV (aC (k0 (.str "kind")) (aC (k0 .none) a0))))
    .nx) .nx)
    (seqS (retS (tupV (aC (xfV [("BarError", true), ("BadShape", true), ("BadBar", true), ("BadLine", true)] true 2) (aC (xfV [("BarError", true), ("BadShape", true), ("BadBar", true), ("BadLine", true)] false 2) a0))))
    .nx)))
    .nx)
def F__law_outcome : List D → R D := runD 3 (.ok .none) G__law_outcome
/-- law: 0 script, 1 k, 2 bars, 3 lines, 4 given, 5 text, 6 due, 7 bar, 8 line -/
def G_law : Nv → Rs :=
    (seqS (setS 2 (compE (iR1 (aC (e2 modV (eN intV (aC (callV F__law_cell (aC (gv 0) (aC (k0 (.int 0)) a0))) a0)) (k0 (.int 9))) a0)) (gN 1) (fun _ => .ok true) (callV F__law_bar (aC (e2 addV (eN intV (aC (callV F__law_cell (aC (gv 0) (aC (e2 addV (k0 (.int 1)) (e2 modV (eN intV (aC (gv 1) a0)) (k0 (.int 4)))) a0))) a0)) (e2 mulV (k0 (.int 1009)) (gv 1))) a0)) [1]))
    (seqS (setS 3 (compE (iA (gv 2)) (gN 7) (fun _ => .ok true) (callV F__law_words (aC (gv 7) a0)) [7]))
    (seqS (setS 4 (eN listV (aC (gv 2) a0)))
    (seqS (ifS (orB (tb (e2 neV' (callV F_format_bars (aC (gv 4) a0)) (s2 joinV (k0 (.str "\n")) (compE (iA (gv 3)) (gN 8) (fun _ => .ok true) (s2 joinV (k0 (.str " ")) (gv 8)) [8])))) (tb (e2 neV' (eN reprV (aC (gv 4) a0)) (eN reprV (aC (gv 2) a0))))) (seqS (retS (k0 (.bool false)))
    .nx) .nx)
    (seqS (forS (iR1 (aC (e2 modV (eN intV (aC (callV F__law_cell (aC (gv 0) (aC (k0 (.int 5)) a0))) a0)) (k0 (.int 4))) a0)) (gN 1) (seqS (ifS (tb (e2 gtA (eN lenV (aC (gv 3) a0)) (k0 (.int 0)))) (seqS (setS 3 (callV F__law_changed (aC (callV F__law_cell (aC (gv 0) (aC (e2 addV (k0 (.int 6)) (gv 1)) a0))) (aC (gv 3) a0))))
    .nx) .nx)
    .nx))
    (seqS (setS 5 (s2 joinV (k0 (.str "\n")) (compE (iA (gv 3)) (gN 8) (fun _ => .ok true) (s2 joinV (k0 (.str " ")) (gv 8)) [8])))
    (seqS (setS 6 (lstV a0))
    (seqS (ifS (tb (e2 neV' (gv 5) (k0 (.str "")))) (seqS (setS 6 (callV F__law_read (aC (compE (iA (s2 splitV (gv 5) (k0 (.str "\n")))) (gN 8) (fun _ => .ok true) (s2 splitV (gv 8) (k0 (.str " "))) [8]) a0)))
    .nx) .nx)
    (seqS (ifS (tb (e1 (isiV "int") (gv 6))) (seqS (setS 6 (tupV (aC (k0 (.str "BadLine")) (aC (gv 6) a0))))
    .nx) (seqS (setS 6 (callV F__law_outcome (aC (k0 (.int 1)) (aC (gv 6) a0))))
    .nx))
    (seqS (ifS (andB (tb (e1 (isiV "list") (gv 6))) (tb (e2 neV' (s2 joinV (k0 (.str "\n")) (compE (iA (gv 6)) (gN 7) (fun _ => .ok true) (s2 joinV (k0 (.str " ")) (callV F__law_words (aC (gv 7) a0))) [7])) (gv 5)))) (seqS (retS (k0 (.bool false)))
    .nx) .nx)
    (seqS (retS (andV (e2 eqV' (eN reprV (aC (callV F__law_outcome (aC (k0 (.int 0)) (aC (gv 5) a0))) a0)) (eN reprV (aC (gv 6) a0))) (e2 eqV' (eN reprV (aC (callV F__law_outcome (aC (k0 (.int 0)) (aC (gv 5) a0))) a0)) (eN reprV (aC (gv 6) a0)))))
    .nx)))))))))))
def F_law : List D → R D := runD 9 (.ok .none) G_law
def topS (i : Nat) : Stmt := PySem.Challenge.pw_barstay_k10_bars_written.main.body.getD i (.Pass ⟨0, 0, 0, 0⟩)
structure Zs (mg : Str → Option Value) : Prop where
  b_ValueError : mg "ValueError" = none
  b_all : mg "all" = none
  b_bool : mg "bool" = none
  b_enumerate : mg "enumerate" = none
  b_int : mg "int" = none
  b_isinstance : mg "isinstance" = none
  b_len : mg "len" = none
  b_list : mg "list" = none
  b_max : mg "max" = none
  b_min : mg "min" = none
  b_range : mg "range" = none
  b_repr : mg "repr" = none
  b_str : mg "str" = none
  b_tuple : mg "tuple" = none
  c_HEIGHT_MOST : ∃ t, mg "HEIGHT_MOST" = some (.int (1000) t)
  c_DIMENSION_MOST : ∃ t, mg "DIMENSION_MOST" = some (.int (2) t)
  c_DIGITS : ∃ t, mg "DIGITS" = some (.str "0123456789" t)
  c_DIGITS_MOST : ∃ t, mg "DIGITS_MOST" = some (.int (6) t)
  c_NO_END : ∃ t, mg "NO_END" = some (.str "-" t)
def cl_st (i : Nat) : Stmt := inCls (topS i)
structure Ze (K : PySem.W.Frag) (mg : Str → Option Value) : Prop where
  x_VE : Isa K mg (.type "ValueError") [("BarError", true), ("BadShape", true), ("BadBar", true), ("BadLine", true)]
  x_BarError : ∃ C, Xk K "BarError" C ∧ mg "BarError" = some (.ref C) ∧ PySem.W.subIn K (.ref C) (.ref C) = some true ∧ Isa K mg (.ref C) [("BarError", true), ("BadShape", true), ("BadBar", true), ("BadLine", true)]
  x_BadShape : ∃ C, Xk K "BadShape" C ∧ mg "BadShape" = some (.ref C) ∧ PySem.W.subIn K (.ref C) (.ref C) = some true ∧ Isa K mg (.ref C) [("BarError", false), ("BadShape", true), ("BadBar", false), ("BadLine", false)]
  x_BadBar : ∃ C, Xk K "BadBar" C ∧ mg "BadBar" = some (.ref C) ∧ PySem.W.subIn K (.ref C) (.ref C) = some true ∧ Isa K mg (.ref C) [("BarError", false), ("BadShape", false), ("BadBar", true), ("BadLine", false)]
  x_BadLine : ∃ C, Xk K "BadLine" C ∧ mg "BadLine" = some (.ref C) ∧ PySem.W.subIn K (.ref C) (.ref C) = some true ∧ Isa K mg (.ref C) [("BarError", false), ("BadShape", false), ("BadBar", false), ("BadLine", true)]
section
variable {P : Program} {w : World} {K : PySem.W.Frag} {mg : Str → Option Value} {base : Heap}
theorem sx_BarError : FnScope selfN selfN (defScope (cl_st 1)) := ⟨rfl, rfl, rfl, by decide +kernel, rfl, by decide +kernel, by decide +kernel⟩
theorem in_BarError {f : Addr} {fd : FuncData} (F : FunI K "BarError.__init__" (cl_st 1) f fd) (z : Zs mg) (vV : PySem.W.findCls K (.type "ValueError") (.type "type") "__init__" = some (.val (.builtin "ValueError.__init__"))) : FnOk P w K mg base (L2.CX P w) 1 f fd selfN (spB K) :=
  okB F sx_BarError fun cdv A outer s H E hr => pss_cons (ps_expr (pe_veinit rfl z.b_ValueError vV (pa_cons (pe_var (i := 0) rfl (.inl rfl)) (pa_cons (pe_ifExp (b_is (TD.o (t_var 2)) (TD.o t_none)) (pe_var (i := 1) rfl (.inl rfl)) (pe_joined (.cons (pe_fmt (pe_var (i := 1) rfl (.inl rfl))) (.cons pe_str (.cons (pe_fm hr (pe_var (i := 2) rfl (.inl rfl))) .nil))))) pa_nil)))) (pss_cons (ps_ost (pe_var (i := 0) rfl (.inl rfl)) (pe_var (i := 1) rfl (.inl rfl))) (pss_one (ps_ost (pe_var (i := 0) rfl (.inl rfl)) (pe_var (i := 2) rfl (.inl rfl)))))
theorem bi_BarError {f : Addr} {fd : FuncData} (F : FunI K "BarError.__init__" (cl_st 1) f fd) : Binds K fd selfN [] := by
  obtain ⟨ds, v, b⟩ := F.binds1 (ps := selfN) 3 1 (by simp) rfl fun T kV doc pm an cdv ct us its hu hi => match us, its, hu, hi with | [_, _, _], [_], _, _ => ⟨_, rfl, rfl⟩
  cases v
  exact b
theorem sx_BadShape : FnScope placeN placeN (defScope (cl_st 2)) := ⟨rfl, rfl, rfl, by decide +kernel, rfl, by decide +kernel, by decide +kernel⟩
theorem in_BadShape {C fB : Addr} {fdB : FuncData} {f : Addr} {fd : FuncData} (F : FunI K "BadShape.__init__" (cl_st 2) f fd) (m : mg "BarError" = some (.ref C)) (r : ClX.CRead K C (.type "type")) (c : ClX.CVal K C (.type "type") "__init__" (.ref fB) (.ref fB)) (kf : PySem.W.keepIn K (.ref fB) = true) (F1 : FnOk P w K mg base (L2.CX P w) 1 fB fdB selfN (spB K)) (b3 : Binds K fdB selfN []) : FnOk P w K mg base (L2.CX P w) 2 f fd placeN (spC K "BadShape") :=
  okC F sx_BadShape fun cdv A outer s H E hr => pss_one (ps_expr (pe_cinit m r c kf F1 hr b3 (pa_cons (pe_var (i := 0) rfl (.inl rfl)) (pa_cons pe_str (pa_cons (pe_var (i := 1) rfl (.inl rfl)) pa_nil)))))
theorem bi_BadShape {f : Addr} {fd : FuncData} (F : FunI K "BadShape.__init__" (cl_st 2) f fd) : Binds K fd placeN [] := by
  obtain ⟨ds, v, b⟩ := F.binds1 (ps := placeN) 2 1 (by simp) rfl fun T kV doc pm an cdv ct us its hu hi => match us, its, hu, hi with | [_, _], [_], _, _ => ⟨_, rfl, rfl⟩
  cases v
  exact b
theorem b0_BadShape {f : Addr} {fd : FuncData} (F : FunI K "BadShape.__init__" (cl_st 2) f fd) : ∃ ds, Vals [.non] ds ∧ Binds K fd placeN ds :=
  F.binds1 (ps := placeN) 1 0 (by simp) rfl fun T kV doc pm an cdv ct us its hu hi => match us, its, hu, hi with | [_], [_], _, _ => ⟨_, rfl, rfl⟩
theorem sx_BadBar : FnScope placeN placeN (defScope (cl_st 3)) := ⟨rfl, rfl, rfl, by decide +kernel, rfl, by decide +kernel, by decide +kernel⟩
theorem in_BadBar {C fB : Addr} {fdB : FuncData} {f : Addr} {fd : FuncData} (F : FunI K "BadBar.__init__" (cl_st 3) f fd) (m : mg "BarError" = some (.ref C)) (r : ClX.CRead K C (.type "type")) (c : ClX.CVal K C (.type "type") "__init__" (.ref fB) (.ref fB)) (kf : PySem.W.keepIn K (.ref fB) = true) (F1 : FnOk P w K mg base (L2.CX P w) 1 fB fdB selfN (spB K)) (b3 : Binds K fdB selfN []) : FnOk P w K mg base (L2.CX P w) 2 f fd placeN (spC K "BadBar") :=
  okC F sx_BadBar fun cdv A outer s H E hr => pss_one (ps_expr (pe_cinit m r c kf F1 hr b3 (pa_cons (pe_var (i := 0) rfl (.inl rfl)) (pa_cons pe_str (pa_cons (pe_var (i := 1) rfl (.inl rfl)) pa_nil)))))
theorem bi_BadBar {f : Addr} {fd : FuncData} (F : FunI K "BadBar.__init__" (cl_st 3) f fd) : Binds K fd placeN [] := by
  obtain ⟨ds, v, b⟩ := F.binds1 (ps := placeN) 2 1 (by simp) rfl fun T kV doc pm an cdv ct us its hu hi => match us, its, hu, hi with | [_, _], [_], _, _ => ⟨_, rfl, rfl⟩
  cases v
  exact b
theorem b0_BadBar {f : Addr} {fd : FuncData} (F : FunI K "BadBar.__init__" (cl_st 3) f fd) : ∃ ds, Vals [.non] ds ∧ Binds K fd placeN ds :=
  F.binds1 (ps := placeN) 1 0 (by simp) rfl fun T kV doc pm an cdv ct us its hu hi => match us, its, hu, hi with | [_], [_], _, _ => ⟨_, rfl, rfl⟩
theorem sx_BadLine : FnScope placeN placeN (defScope (cl_st 4)) := ⟨rfl, rfl, rfl, by decide +kernel, rfl, by decide +kernel, by decide +kernel⟩
theorem in_BadLine {C fB : Addr} {fdB : FuncData} {f : Addr} {fd : FuncData} (F : FunI K "BadLine.__init__" (cl_st 4) f fd) (m : mg "BarError" = some (.ref C)) (r : ClX.CRead K C (.type "type")) (c : ClX.CVal K C (.type "type") "__init__" (.ref fB) (.ref fB)) (kf : PySem.W.keepIn K (.ref fB) = true) (F1 : FnOk P w K mg base (L2.CX P w) 1 fB fdB selfN (spB K)) (b3 : Binds K fdB selfN []) : FnOk P w K mg base (L2.CX P w) 2 f fd placeN (spC K "BadLine") :=
  okC F sx_BadLine fun cdv A outer s H E hr => pss_one (ps_expr (pe_cinit m r c kf F1 hr b3 (pa_cons (pe_var (i := 0) rfl (.inl rfl)) (pa_cons pe_str (pa_cons (pe_var (i := 1) rfl (.inl rfl)) pa_nil)))))
theorem bi_BadLine {f : Addr} {fd : FuncData} (F : FunI K "BadLine.__init__" (cl_st 4) f fd) : Binds K fd placeN [] := by
  obtain ⟨ds, v, b⟩ := F.binds1 (ps := placeN) 2 1 (by simp) rfl fun T kV doc pm an cdv ct us its hu hi => match us, its, hu, hi with | [_, _], [_], _, _ => ⟨_, rfl, rfl⟩
  cases v
  exact b
theorem b0_BadLine {f : Addr} {fd : FuncData} (F : FunI K "BadLine.__init__" (cl_st 4) f fd) : ∃ ds, Vals [.non] ds ∧ Binds K fd placeN ds :=
  F.binds1 (ps := placeN) 1 0 (by simp) rfl fun T kV doc pm an cdv ct us its hu hi => match us, its, hu, hi with | [_], [_], _, _ => ⟨_, rfl, rfl⟩
abbrev s_is_whole : Stmt := topS 8
theorem sc_is_whole : FnScope ["value"] ["value"] (defScope s_is_whole) := ⟨rfl, rfl, rfl, by decide +kernel, rfl, by decide +kernel, by decide +kernel⟩
set_option maxHeartbeats 400000 in
theorem ok_is_whole {f : Addr} {fd : FuncData} (F : Fun K "is_whole" "is_whole" s_is_whole f fd) (z : Zs mg) (gm : mg "is_whole" = some (.ref f)) : Df P w K mg base 1 "is_whole" 1 (rD K) F_is_whole := by
  have bb : Binds K fd ["value"] [] := F.binds fun _ _ _ _ _ _ us hl => (match us, hl with | [_], _ => rfl)
  refine ⟨f, fd, ["value"], ?_, bb, gm, F.kp⟩
  suffices body : ∀ (cdv : Value) (A : Around) (outer : List PySem.Env) (s : Shared) (H : Hp) (E : XK) (A0 : List Addr), Room 0 (A.deeper (PyProof.Rows.envOfC "is_whole" (defScope s_is_whole) s.heap.objs.size f cdv)) → A.guards = some [] →
      TSs (cxOf (L2.CX P w) P w K mg base ["value"] "is_whole" (defScope s_is_whole) f cdv A outer s H E) ⟨fun cls d _ H => E cls d H, rD K, [], H, A0⟩ (defBody s_is_whole) G_is_whole by
    exact fn_rule (k := 0) (G := G_is_whole) (N := ["value"]) (ps := ["value"]) (rl := rD K) (fall := .ok .none) F sc_is_whole (.inl ⟨rfl, rfl⟩) body
  intro cdv A outer s H E A0 hr hg
  have hN := sc_is_whole.nd
  have hu := hr.un
  have u64 : (A.deeper (PyProof.Rows.envOfC "is_whole" (defScope s_is_whole) s.heap.objs.size f cdv)).units + 64 < cLine := by omega
  have u65 : (A.deeper (PyProof.Rows.envOfC "is_whole" (defScope s_is_whole) s.heap.objs.size f cdv)).units + 65 < cLine := by omega
  have u66 : (A.deeper (PyProof.Rows.envOfC "is_whole" (defScope s_is_whole) s.heap.objs.size f cdv)).units + 66 < cLine := by omega
  have tk : Takes (cxOf (L2.CX P w) P w K mg base ["value"] "is_whole" (defScope s_is_whole) f cdv A outer s H E) (fun cls d _ H => E cls d H) := takes_of rfl rfl rfl rfl
  have hp : PassesOwn (model P w) (cxOf (L2.CX P w) P w K mg base ["value"] "is_whole" (defScope s_is_whole) f cdv A outer s H E).A (cxOf (L2.CX P w) P w K mg base ["value"] "is_whole" (defScope s_is_whole) f cdv A outer s H E).env (cxOf (L2.CX P w) P w K mg base ["value"] "is_whole" (defScope s_is_whole) f cdv A outer s H E).xe := passes_of (X := cxOf (L2.CX P w) P w K mg base ["value"] "is_whole" (defScope s_is_whole) f cdv A outer s H E) rfl
  exact ss_cons (s_ret (t_and (t_isi (T := "int") z.b_isinstance z.b_int (by decide +kernel) (TD.o (t_var 0))) (t_one (t_not (TD.o (t_isi (T := "bool") z.b_isinstance z.b_bool (by decide +kernel) (TD.o (t_var 0))))))) rfl)
    (ss_nil)
abbrev s_is_height : Stmt := topS 9
theorem sc_is_height : FnScope ["value"] ["value"] (defScope s_is_height) := ⟨rfl, rfl, rfl, by decide +kernel, rfl, by decide +kernel, by decide +kernel⟩
set_option maxHeartbeats 400000 in
theorem ok_is_height {f : Addr} {fd : FuncData} (F : Fun K "is_height" "is_height" s_is_height f fd) (z : Zs mg) (d_is_whole : Df P w K mg base 1 "is_whole" 1 (rD K) F_is_whole) (gm : mg "is_height" = some (.ref f)) : Df P w K mg base 2 "is_height" 1 (rD K) F_is_height := by
  have bb : Binds K fd ["value"] [] := F.binds fun _ _ _ _ _ _ us hl => (match us, hl with | [_], _ => rfl)
  refine ⟨f, fd, ["value"], ?_, bb, gm, F.kp⟩
  suffices body : ∀ (cdv : Value) (A : Around) (outer : List PySem.Env) (s : Shared) (H : Hp) (E : XK) (A0 : List Addr), Room 1 (A.deeper (PyProof.Rows.envOfC "is_height" (defScope s_is_height) s.heap.objs.size f cdv)) → A.guards = some [] →
      TSs (cxOf (L2.CX P w) P w K mg base ["value"] "is_height" (defScope s_is_height) f cdv A outer s H E) ⟨fun cls d _ H => E cls d H, rD K, [], H, A0⟩ (defBody s_is_height) G_is_height by
    exact fn_rule (k := 1) (G := G_is_height) (N := ["value"]) (ps := ["value"]) (rl := rD K) (fall := .ok .none) F sc_is_height (.inl ⟨rfl, rfl⟩) body
  intro cdv A outer s H E A0 hr hg
  have hN := sc_is_height.nd
  have hu := hr.un
  have u64 : (A.deeper (PyProof.Rows.envOfC "is_height" (defScope s_is_height) s.heap.objs.size f cdv)).units + 64 < cLine := by omega
  have u65 : (A.deeper (PyProof.Rows.envOfC "is_height" (defScope s_is_height) s.heap.objs.size f cdv)).units + 65 < cLine := by omega
  have u66 : (A.deeper (PyProof.Rows.envOfC "is_height" (defScope s_is_height) s.heap.objs.size f cdv)).units + 66 < cLine := by omega
  have tk : Takes (cxOf (L2.CX P w) P w K mg base ["value"] "is_height" (defScope s_is_height) f cdv A outer s H E) (fun cls d _ H => E cls d H) := takes_of rfl rfl rfl rfl
  have hp : PassesOwn (model P w) (cxOf (L2.CX P w) P w K mg base ["value"] "is_height" (defScope s_is_height) f cdv A outer s H E).A (cxOf (L2.CX P w) P w K mg base ["value"] "is_height" (defScope s_is_height) f cdv A outer s H E).env (cxOf (L2.CX P w) P w K mg base ["value"] "is_height" (defScope s_is_height) f cdv A outer s H E).xe := passes_of (X := cxOf (L2.CX P w) P w K mg base ["value"] "is_height" (defScope s_is_height) f cdv A outer s H E) rfl
  exact ss_cons (s_ret (t_and (t_callD d_is_whole hr hg (as_cons keeps_D (TD.v (t_var 0)) (as_nil)) (aC_len a0_len) back_D) (t_one (t_chain (f := leA) (g := leA) (op_leA u64) (op_leA u64) o_leA o_leA (TD.o (t_neg (TD.o (t_globI (i := 1000) z.c_HEIGHT_MOST)))) (TD.o (t_var 0)) (TD.o (t_globI (i := 1000) z.c_HEIGHT_MOST))))) rfl)
    (ss_nil)
abbrev s_is_bar : Stmt := topS 10
theorem sc_is_bar : FnScope ["value", "dimension", "birth", "death"] ["value"] (defScope s_is_bar) := ⟨rfl, rfl, rfl, by decide +kernel, rfl, by decide +kernel, by decide +kernel⟩
set_option maxHeartbeats 400000 in
theorem ok_is_bar {f : Addr} {fd : FuncData} (F : Fun K "is_bar" "is_bar" s_is_bar f fd) (z : Zs mg) (d_is_height : Df P w K mg base 2 "is_height" 1 (rD K) F_is_height) (d_is_whole : Df P w K mg base 1 "is_whole" 1 (rD K) F_is_whole) (gm : mg "is_bar" = some (.ref f)) : Df P w K mg base 3 "is_bar" 1 (rD K) F_is_bar := by
  have bb : Binds K fd ["value"] [] := F.binds fun _ _ _ _ _ _ us hl => (match us, hl with | [_], _ => rfl)
  refine ⟨f, fd, ["value"], ?_, bb, gm, F.kp⟩
  suffices body : ∀ (cdv : Value) (A : Around) (outer : List PySem.Env) (s : Shared) (H : Hp) (E : XK) (A0 : List Addr), Room 2 (A.deeper (PyProof.Rows.envOfC "is_bar" (defScope s_is_bar) s.heap.objs.size f cdv)) → A.guards = some [] →
      TSs (cxOf (L2.CX P w) P w K mg base ["value", "dimension", "birth", "death"] "is_bar" (defScope s_is_bar) f cdv A outer s H E) ⟨fun cls d _ H => E cls d H, rD K, [], H, A0⟩ (defBody s_is_bar) G_is_bar by
    exact fn_rule (k := 2) (G := G_is_bar) (N := ["value", "dimension", "birth", "death"]) (ps := ["value"]) (rl := rD K) (fall := .ok .none) F sc_is_bar (.inl ⟨rfl, rfl⟩) body
  intro cdv A outer s H E A0 hr hg
  have hN := sc_is_bar.nd
  have hu := hr.un
  have u64 : (A.deeper (PyProof.Rows.envOfC "is_bar" (defScope s_is_bar) s.heap.objs.size f cdv)).units + 64 < cLine := by omega
  have u65 : (A.deeper (PyProof.Rows.envOfC "is_bar" (defScope s_is_bar) s.heap.objs.size f cdv)).units + 65 < cLine := by omega
  have u66 : (A.deeper (PyProof.Rows.envOfC "is_bar" (defScope s_is_bar) s.heap.objs.size f cdv)).units + 66 < cLine := by omega
  have tk : Takes (cxOf (L2.CX P w) P w K mg base ["value", "dimension", "birth", "death"] "is_bar" (defScope s_is_bar) f cdv A outer s H E) (fun cls d _ H => E cls d H) := takes_of rfl rfl rfl rfl
  have hp : PassesOwn (model P w) (cxOf (L2.CX P w) P w K mg base ["value", "dimension", "birth", "death"] "is_bar" (defScope s_is_bar) f cdv A outer s H E).A (cxOf (L2.CX P w) P w K mg base ["value", "dimension", "birth", "death"] "is_bar" (defScope s_is_bar) f cdv A outer s H E).env (cxOf (L2.CX P w) P w K mg base ["value", "dimension", "birth", "death"] "is_bar" (defScope s_is_bar) f cdv A outer s H E).xe := passes_of (X := cxOf (L2.CX P w) P w K mg base ["value", "dimension", "birth", "death"] "is_bar" (defScope s_is_bar) f cdv A outer s H E) rfl
  exact ss_cons (s_if (b_w (w_or (b_not (b_val (TD.o (t_isi (T := "tuple") z.b_isinstance z.b_tuple (by decide +kernel) (TD.o (t_var 0)))))) (w_or1 (b_ne u64 (TD.o (t_len z.b_len (as_cons keeps_O (TO.v (TD.o (t_var 0))) (as_nil)))) (TD.o (t_int)))))) (ss_cons (s_ret (t_bool) rfl)
    (ss_nil)) (ss_nil))
    (ss_cons (s_asg (t_var 0) (g_tup rfl (g_cons (g_name 1 hN) (g_cons (g_name 2 hN) (g_cons (g_name 3 hN) (g_nil))))))
    (ss_cons (s_if (b_w (w_or (b_not (b_val (TD.o (t_callD d_is_whole hr hg (as_cons keeps_D (TD.v (t_var 1)) (as_nil)) (aC_len a0_len) back_D)))) (w_or1 (b_not (b_chain (f := leA) (g := leA) (op_leA u64) (op_leA u64) o_leA o_leA (TD.o (t_int)) (TD.o (t_var 1)) (TD.o (t_globI (i := 2) z.c_DIMENSION_MOST))))))) (ss_cons (s_ret (t_bool) rfl)
    (ss_nil)) (ss_nil))
    (ss_cons (s_if (b_not (b_val (TD.o (t_callD d_is_height hr hg (as_cons keeps_D (TD.v (t_var 2)) (as_nil)) (aC_len a0_len) back_D)))) (ss_cons (s_ret (t_bool) rfl)
    (ss_nil)) (ss_nil))
    (ss_cons (s_ret (t_or (t_is (TD.o (t_var 3)) (TD.o (t_none))) (t_one (t_and (t_callD d_is_height hr hg (as_cons keeps_D (TD.v (t_var 3)) (as_nil)) (aC_len a0_len) back_D) (t_one (t_ltA u64 (TD.o (t_var 2)) (TD.o (t_var 3))))))) rfl)
    (ss_nil)))))
abbrev s_check_bars : Stmt := topS 11
theorem sc_check_bars : FnScope ["bars", "index", "bar"] ["bars"] (defScope s_check_bars) := ⟨rfl, rfl, rfl, by decide +kernel, rfl, by decide +kernel, by decide +kernel⟩
set_option maxHeartbeats 400000 in
theorem ok_check_bars {f : Addr} {fd : FuncData} (F : Fun K "check_bars" "check_bars" s_check_bars f fd) (z : Zs mg) (d_is_bar : Df P w K mg base 3 "is_bar" 1 (rD K) F_is_bar) (x_BadBar : Xc P w K mg base 2 "BadBar" "BadBar") (gm : mg "check_bars" = some (.ref f)) : Df P w K mg base 4 "check_bars" 1 (rD K) F_check_bars := by
  have bb : Binds K fd ["bars"] [] := F.binds fun _ _ _ _ _ _ us hl => (match us, hl with | [_], _ => rfl)
  refine ⟨f, fd, ["bars"], ?_, bb, gm, F.kp⟩
  suffices body : ∀ (cdv : Value) (A : Around) (outer : List PySem.Env) (s : Shared) (H : Hp) (E : XK) (A0 : List Addr), Room 3 (A.deeper (PyProof.Rows.envOfC "check_bars" (defScope s_check_bars) s.heap.objs.size f cdv)) → A.guards = some [] →
      TSs (cxOf (L2.CX P w) P w K mg base ["bars", "index", "bar"] "check_bars" (defScope s_check_bars) f cdv A outer s H E) ⟨fun cls d _ H => E cls d H, rD K, [], H, A0⟩ (defBody s_check_bars) G_check_bars by
    exact fn_rule (k := 3) (G := G_check_bars) (N := ["bars", "index", "bar"]) (ps := ["bars"]) (rl := rD K) (fall := .ok .none) F sc_check_bars (.inl ⟨rfl, rfl⟩) body
  intro cdv A outer s H E A0 hr hg
  have hN := sc_check_bars.nd
  have hu := hr.un
  have u64 : (A.deeper (PyProof.Rows.envOfC "check_bars" (defScope s_check_bars) s.heap.objs.size f cdv)).units + 64 < cLine := by omega
  have u65 : (A.deeper (PyProof.Rows.envOfC "check_bars" (defScope s_check_bars) s.heap.objs.size f cdv)).units + 65 < cLine := by omega
  have u66 : (A.deeper (PyProof.Rows.envOfC "check_bars" (defScope s_check_bars) s.heap.objs.size f cdv)).units + 66 < cLine := by omega
  have tk : Takes (cxOf (L2.CX P w) P w K mg base ["bars", "index", "bar"] "check_bars" (defScope s_check_bars) f cdv A outer s H E) (fun cls d _ H => E cls d H) := takes_of rfl rfl rfl rfl
  have hp : PassesOwn (model P w) (cxOf (L2.CX P w) P w K mg base ["bars", "index", "bar"] "check_bars" (defScope s_check_bars) f cdv A outer s H E).A (cxOf (L2.CX P w) P w K mg base ["bars", "index", "bar"] "check_bars" (defScope s_check_bars) f cdv A outer s H E).env (cxOf (L2.CX P w) P w K mg base ["bars", "index", "bar"] "check_bars" (defScope s_check_bars) f cdv A outer s H E).xe := passes_of (X := cxOf (L2.CX P w) P w K mg base ["bars", "index", "bar"] "check_bars" (defScope s_check_bars) f cdv A outer s H E) rfl
  exact ss_cons (s_for hp rfl (i_enum z.b_enumerate (as_cons keeps_D (TD.v (t_var 0)) (as_nil))) (g_tup rfl (g_cons (g_name 1 hN) (g_cons (g_name 2 hN) (g_nil)))) (ss_cons (s_if (b_not (b_val (TD.o (t_callD d_is_bar hr hg (as_cons keeps_D (TD.v (t_var 2)) (as_nil)) (aC_len a0_len) back_D)))) (ss_cons (s_raise rfl tk x_BadBar hr (wd := "BadBar") (t_var 1))
    (ss_nil)) (ss_nil))
    (ss_nil)))
    (ss_nil)
abbrev s__bar_line : Stmt := topS 17
theorem sc__bar_line : FnScope ["dimension", "birth", "death"] ["dimension", "birth", "death"] (defScope s__bar_line) := ⟨rfl, rfl, rfl, by decide +kernel, rfl, by decide +kernel, by decide +kernel⟩
set_option maxHeartbeats 400000 in
theorem ok__bar_line {f : Addr} {fd : FuncData} (F : Fun K "_bar_line" "_bar_line" s__bar_line f fd) (z : Zs mg) (gm : mg "_bar_line" = some (.ref f)) : Df P w K mg base 1 "_bar_line" 3 (rD K) F__bar_line := by
  have bb : Binds K fd ["dimension", "birth", "death"] [] := F.binds fun _ _ _ _ _ _ us hl => (match us, hl with | [_, _, _], _ => rfl)
  refine ⟨f, fd, ["dimension", "birth", "death"], ?_, bb, gm, F.kp⟩
  suffices body : ∀ (cdv : Value) (A : Around) (outer : List PySem.Env) (s : Shared) (H : Hp) (E : XK) (A0 : List Addr), Room 0 (A.deeper (PyProof.Rows.envOfC "_bar_line" (defScope s__bar_line) s.heap.objs.size f cdv)) → A.guards = some [] →
      TSs (cxOf (L2.CX P w) P w K mg base ["dimension", "birth", "death"] "_bar_line" (defScope s__bar_line) f cdv A outer s H E) ⟨fun cls d _ H => E cls d H, rD K, [], H, A0⟩ (defBody s__bar_line) G__bar_line by
    exact fn_rule (k := 0) (G := G__bar_line) (N := ["dimension", "birth", "death"]) (ps := ["dimension", "birth", "death"]) (rl := rD K) (fall := .ok .none) F sc__bar_line (.inl ⟨rfl, rfl⟩) body
  intro cdv A outer s H E A0 hr hg
  have hN := sc__bar_line.nd
  have hu := hr.un
  have u64 : (A.deeper (PyProof.Rows.envOfC "_bar_line" (defScope s__bar_line) s.heap.objs.size f cdv)).units + 64 < cLine := by omega
  have u65 : (A.deeper (PyProof.Rows.envOfC "_bar_line" (defScope s__bar_line) s.heap.objs.size f cdv)).units + 65 < cLine := by omega
  have u66 : (A.deeper (PyProof.Rows.envOfC "_bar_line" (defScope s__bar_line) s.heap.objs.size f cdv)).units + 66 < cLine := by omega
  have tk : Takes (cxOf (L2.CX P w) P w K mg base ["dimension", "birth", "death"] "_bar_line" (defScope s__bar_line) f cdv A outer s H E) (fun cls d _ H => E cls d H) := takes_of rfl rfl rfl rfl
  have hp : PassesOwn (model P w) (cxOf (L2.CX P w) P w K mg base ["dimension", "birth", "death"] "_bar_line" (defScope s__bar_line) f cdv A outer s H E).A (cxOf (L2.CX P w) P w K mg base ["dimension", "birth", "death"] "_bar_line" (defScope s__bar_line) f cdv A outer s H E).env (cxOf (L2.CX P w) P w K mg base ["dimension", "birth", "death"] "_bar_line" (defScope s__bar_line) f cdv A outer s H E).xe := passes_of (X := cxOf (L2.CX P w) P w K mg base ["dimension", "birth", "death"] "_bar_line" (defScope s__bar_line) f cdv A outer s H E) rfl
  exact ss_cons (s_ret (t_join (TD.o (t_str)) (TF.o (t_lst (as_cons keeps_D (TD.v (t_strI z.b_str (as_cons keeps_O (TO.v (TD.o (t_var 0))) (as_nil)))) (as_cons keeps_D (TD.v (t_strI z.b_str (as_cons keeps_O (TO.v (TD.o (t_var 1))) (as_nil)))) (as_cons keeps_D (TD.v (t_if (b_is (TD.o (t_var 2)) (TD.o (t_none))) (t_globS (i := "-") z.c_NO_END) (t_strI z.b_str (as_cons keeps_O (TO.v (TD.o (t_var 2))) (as_nil))))) (as_nil))))))) rfl)
    (ss_nil)
abbrev s_format_bars : Stmt := topS 16
theorem sc_format_bars : FnScope ["bars", "dimension", "birth", "death"] ["bars"] (defScope s_format_bars) := ⟨rfl, rfl, rfl, by decide +kernel, rfl, by decide +kernel, by decide +kernel⟩
set_option maxHeartbeats 400000 in
theorem ok_format_bars {f : Addr} {fd : FuncData} (F : Fun K "format_bars" "format_bars" s_format_bars f fd) (z : Zs mg) (d__bar_line : Df P w K mg base 1 "_bar_line" 3 (rD K) F__bar_line) (gm : mg "format_bars" = some (.ref f)) : Df P w K mg base 2 "format_bars" 1 (rD K) F_format_bars := by
  have bb : Binds K fd ["bars"] [] := F.binds fun _ _ _ _ _ _ us hl => (match us, hl with | [_], _ => rfl)
  refine ⟨f, fd, ["bars"], ?_, bb, gm, F.kp⟩
  suffices body : ∀ (cdv : Value) (A : Around) (outer : List PySem.Env) (s : Shared) (H : Hp) (E : XK) (A0 : List Addr), Room 1 (A.deeper (PyProof.Rows.envOfC "format_bars" (defScope s_format_bars) s.heap.objs.size f cdv)) → A.guards = some [] →
      TSs (cxOf (L2.CX P w) P w K mg base ["bars", "dimension", "birth", "death"] "format_bars" (defScope s_format_bars) f cdv A outer s H E) ⟨fun cls d _ H => E cls d H, rD K, [], H, A0⟩ (defBody s_format_bars) G_format_bars by
    exact fn_rule (k := 1) (G := G_format_bars) (N := ["bars", "dimension", "birth", "death"]) (ps := ["bars"]) (rl := rD K) (fall := .ok .none) F sc_format_bars (.inl ⟨rfl, rfl⟩) body
  intro cdv A outer s H E A0 hr hg
  have hN := sc_format_bars.nd
  have hu := hr.un
  have u64 : (A.deeper (PyProof.Rows.envOfC "format_bars" (defScope s_format_bars) s.heap.objs.size f cdv)).units + 64 < cLine := by omega
  have u65 : (A.deeper (PyProof.Rows.envOfC "format_bars" (defScope s_format_bars) s.heap.objs.size f cdv)).units + 65 < cLine := by omega
  have u66 : (A.deeper (PyProof.Rows.envOfC "format_bars" (defScope s_format_bars) s.heap.objs.size f cdv)).units + 66 < cLine := by omega
  have tk : Takes (cxOf (L2.CX P w) P w K mg base ["bars", "dimension", "birth", "death"] "format_bars" (defScope s_format_bars) f cdv A outer s H E) (fun cls d _ H => E cls d H) := takes_of rfl rfl rfl rfl
  have hp : PassesOwn (model P w) (cxOf (L2.CX P w) P w K mg base ["bars", "dimension", "birth", "death"] "format_bars" (defScope s_format_bars) f cdv A outer s H E).A (cxOf (L2.CX P w) P w K mg base ["bars", "dimension", "birth", "death"] "format_bars" (defScope s_format_bars) f cdv A outer s H E).env (cxOf (L2.CX P w) P w K mg base ["bars", "dimension", "birth", "death"] "format_bars" (defScope s_format_bars) f cdv A outer s H E).xe := passes_of (X := cxOf (L2.CX P w) P w K mg base ["bars", "dimension", "birth", "death"] "format_bars" (defScope s_format_bars) f cdv A outer s H E) rfl
  exact ss_cons (s_ret (t_join (TD.o (t_str)) (TF.o (t_lc rfl hN (i_any (t_var 0)) (blkOk_by (N := ["bars", "dimension", "birth", "death"]) (sc := defScope s_format_bars) (own := [("dimension", 1), ("birth", 2), ("death", 3)]) (by first | decide +kernel | rfl | with_unfolding_all rfl)) (fun _ _ _ _ _ => g_tup rfl (g_cons (g_name 1 hN) (g_cons (g_name 2 hN) (g_cons (g_name 3 hN) (g_nil))))) (fun _ _ _ _ _ => cs_nil) (fun _ _ _ _ _ => t_callD d__bar_line hr hg (as_cons keeps_D (TD.v (t_var 1)) (as_cons keeps_D (TD.v (t_var 2)) (as_cons keeps_D (TD.v (t_var 3)) (as_nil)))) (aC_len (aC_len (aC_len a0_len))) back_D)))) rfl)
    (ss_nil)
abbrev s__is_number : Stmt := topS 22
theorem sc__is_number : FnScope ["word", "digits", "sign"] ["word"] (defScope s__is_number) := ⟨rfl, rfl, rfl, by decide +kernel, rfl, by decide +kernel, by decide +kernel⟩
set_option maxHeartbeats 400000 in
theorem ok__is_number {f : Addr} {fd : FuncData} (F : Fun K "_is_number" "_is_number" s__is_number f fd) (z : Zs mg) (gm : mg "_is_number" = some (.ref f)) : Df P w K mg base 1 "_is_number" 1 (rD K) F__is_number := by
  have bb : Binds K fd ["word"] [] := F.binds fun _ _ _ _ _ _ us hl => (match us, hl with | [_], _ => rfl)
  refine ⟨f, fd, ["word"], ?_, bb, gm, F.kp⟩
  suffices body : ∀ (cdv : Value) (A : Around) (outer : List PySem.Env) (s : Shared) (H : Hp) (E : XK) (A0 : List Addr), Room 0 (A.deeper (PyProof.Rows.envOfC "_is_number" (defScope s__is_number) s.heap.objs.size f cdv)) → A.guards = some [] →
      TSs (cxOf (L2.CX P w) P w K mg base ["word", "digits", "sign"] "_is_number" (defScope s__is_number) f cdv A outer s H E) ⟨fun cls d _ H => E cls d H, rD K, [], H, A0⟩ (defBody s__is_number) G__is_number by
    exact fn_rule (k := 0) (G := G__is_number) (N := ["word", "digits", "sign"]) (ps := ["word"]) (rl := rD K) (fall := .ok .none) F sc__is_number (.inl ⟨rfl, rfl⟩) body
  intro cdv A outer s H E A0 hr hg
  have hN := sc__is_number.nd
  have hu := hr.un
  have u64 : (A.deeper (PyProof.Rows.envOfC "_is_number" (defScope s__is_number) s.heap.objs.size f cdv)).units + 64 < cLine := by omega
  have u65 : (A.deeper (PyProof.Rows.envOfC "_is_number" (defScope s__is_number) s.heap.objs.size f cdv)).units + 65 < cLine := by omega
  have u66 : (A.deeper (PyProof.Rows.envOfC "_is_number" (defScope s__is_number) s.heap.objs.size f cdv)).units + 66 < cLine := by omega
  have tk : Takes (cxOf (L2.CX P w) P w K mg base ["word", "digits", "sign"] "_is_number" (defScope s__is_number) f cdv A outer s H E) (fun cls d _ H => E cls d H) := takes_of rfl rfl rfl rfl
  have hp : PassesOwn (model P w) (cxOf (L2.CX P w) P w K mg base ["word", "digits", "sign"] "_is_number" (defScope s__is_number) f cdv A outer s H E).A (cxOf (L2.CX P w) P w K mg base ["word", "digits", "sign"] "_is_number" (defScope s__is_number) f cdv A outer s H E).env (cxOf (L2.CX P w) P w K mg base ["word", "digits", "sign"] "_is_number" (defScope s__is_number) f cdv A outer s H E).xe := passes_of (X := cxOf (L2.CX P w) P w K mg base ["word", "digits", "sign"] "_is_number" (defScope s__is_number) f cdv A outer s H E) rfl
  exact ss_cons (s_set 1 hN (t_rmp (TD.o (t_var 0)) (TD.o (t_str))))
    (ss_cons (s_if (b_not (b_chain (f := leA) (g := leA) (op_leA u64) (op_leA u64) o_leA o_leA (TD.o (t_int)) (TD.o (t_lenT z.b_len (as_cons keeps_O (TO.v (TD.o (t_var 1))) (as_nil)))) (TD.o (t_globI (i := 6) z.c_DIGITS_MOST)))) (ss_cons (s_ret (t_bool) rfl)
    (ss_nil)) (ss_nil))
    (ss_cons (s_if (b_not (b_val (TD.o (t_all rfl z.b_all (as_cons keeps_O (TO.v (TF.o (t_lc rfl hN (i_sgn (TD.o (t_var 1))) (blkOk_by (N := ["word", "digits", "sign"]) (sc := defScope s__is_number) (own := [("sign", 2)]) (by first | decide +kernel | rfl | with_unfolding_all rfl)) (fun _ _ _ _ _ => g_name 2 hN) (fun _ _ _ _ _ => cs_nil) (fun _ _ _ _ _ => t_inT (TD.o (t_var 2)) (TD.o (t_globS (i := "0123456789") z.c_DIGITS)))))) (as_nil)))))) (ss_cons (s_ret (t_bool) rfl)
    (ss_nil)) (ss_nil))
    (ss_cons (s_ret (t_or (t_ne u64 (TD.o (t_ixT (TD.o (t_var 1)) (TD.o (t_int)))) (TD.o (t_str))) (t_one (t_eq u64 (TD.o (t_var 0)) (TD.o (t_str))))) rfl)
    (ss_nil))))
abbrev s__number_of : Stmt := topS 21
theorem sc__number_of : FnScope ["word", "index"] ["word", "index"] (defScope s__number_of) := ⟨rfl, rfl, rfl, by decide +kernel, rfl, by decide +kernel, by decide +kernel⟩
set_option maxHeartbeats 400000 in
theorem ok__number_of {f : Addr} {fd : FuncData} (F : Fun K "_number_of" "_number_of" s__number_of f fd) (z : Zs mg) (d__is_number : Df P w K mg base 1 "_is_number" 1 (rD K) F__is_number) (x_BadLine : Xc P w K mg base 2 "BadLine" "BadLine") (gm : mg "_number_of" = some (.ref f)) : Df P w K mg base 4 "_number_of" 2 (rD K) F__number_of := by
  have bb : Binds K fd ["word", "index"] [] := F.binds fun _ _ _ _ _ _ us hl => (match us, hl with | [_, _], _ => rfl)
  refine ⟨f, fd, ["word", "index"], ?_, bb, gm, F.kp⟩
  suffices body : ∀ (cdv : Value) (A : Around) (outer : List PySem.Env) (s : Shared) (H : Hp) (E : XK) (A0 : List Addr), Room 3 (A.deeper (PyProof.Rows.envOfC "_number_of" (defScope s__number_of) s.heap.objs.size f cdv)) → A.guards = some [] →
      TSs (cxOf (L2.CX P w) P w K mg base ["word", "index"] "_number_of" (defScope s__number_of) f cdv A outer s H E) ⟨fun cls d _ H => E cls d H, rD K, [], H, A0⟩ (defBody s__number_of) G__number_of by
    exact fn_rule (k := 3) (G := G__number_of) (N := ["word", "index"]) (ps := ["word", "index"]) (rl := rD K) (fall := .ok .none) F sc__number_of (.inl ⟨rfl, rfl⟩) body
  intro cdv A outer s H E A0 hr hg
  have hN := sc__number_of.nd
  have hu := hr.un
  have u64 : (A.deeper (PyProof.Rows.envOfC "_number_of" (defScope s__number_of) s.heap.objs.size f cdv)).units + 64 < cLine := by omega
  have u65 : (A.deeper (PyProof.Rows.envOfC "_number_of" (defScope s__number_of) s.heap.objs.size f cdv)).units + 65 < cLine := by omega
  have u66 : (A.deeper (PyProof.Rows.envOfC "_number_of" (defScope s__number_of) s.heap.objs.size f cdv)).units + 66 < cLine := by omega
  have tk : Takes (cxOf (L2.CX P w) P w K mg base ["word", "index"] "_number_of" (defScope s__number_of) f cdv A outer s H E) (fun cls d _ H => E cls d H) := takes_of rfl rfl rfl rfl
  have hp : PassesOwn (model P w) (cxOf (L2.CX P w) P w K mg base ["word", "index"] "_number_of" (defScope s__number_of) f cdv A outer s H E).A (cxOf (L2.CX P w) P w K mg base ["word", "index"] "_number_of" (defScope s__number_of) f cdv A outer s H E).env (cxOf (L2.CX P w) P w K mg base ["word", "index"] "_number_of" (defScope s__number_of) f cdv A outer s H E).xe := passes_of (X := cxOf (L2.CX P w) P w K mg base ["word", "index"] "_number_of" (defScope s__number_of) f cdv A outer s H E) rfl
  exact ss_cons (s_if (b_not (b_val (TD.o (t_callD d__is_number hr hg (as_cons keeps_D (TD.v (t_var 0)) (as_nil)) (aC_len a0_len) back_D)))) (ss_cons (s_raise rfl tk x_BadLine hr (wd := "BadLine") (t_var 1))
    (ss_nil)) (ss_nil))
    (ss_cons (s_ret (t_intS z.b_int (as_cons keeps_O (TO.v (TD.o (t_var 0))) (as_nil))) rfl)
    (ss_nil))
abbrev s__bar_of : Stmt := topS 20
theorem sc__bar_of : FnScope ["words", "index", "dimension", "birth", "death", "end"] ["words", "index"] (defScope s__bar_of) := ⟨rfl, rfl, rfl, by decide +kernel, rfl, by decide +kernel, by decide +kernel⟩
set_option maxHeartbeats 400000 in
theorem ok__bar_of {f : Addr} {fd : FuncData} (F : Fun K "_bar_of" "_bar_of" s__bar_of f fd) (z : Zs mg) (d__number_of : Df P w K mg base 4 "_number_of" 2 (rD K) F__number_of) (x_BadLine : Xc P w K mg base 2 "BadLine" "BadLine") (gm : mg "_bar_of" = some (.ref f)) : Df P w K mg base 5 "_bar_of" 2 (rD K) F__bar_of := by
  have bb : Binds K fd ["words", "index"] [] := F.binds fun _ _ _ _ _ _ us hl => (match us, hl with | [_, _], _ => rfl)
  refine ⟨f, fd, ["words", "index"], ?_, bb, gm, F.kp⟩
  suffices body : ∀ (cdv : Value) (A : Around) (outer : List PySem.Env) (s : Shared) (H : Hp) (E : XK) (A0 : List Addr), Room 4 (A.deeper (PyProof.Rows.envOfC "_bar_of" (defScope s__bar_of) s.heap.objs.size f cdv)) → A.guards = some [] →
      TSs (cxOf (L2.CX P w) P w K mg base ["words", "index", "dimension", "birth", "death", "end"] "_bar_of" (defScope s__bar_of) f cdv A outer s H E) ⟨fun cls d _ H => E cls d H, rD K, [], H, A0⟩ (defBody s__bar_of) G__bar_of by
    exact fn_rule (k := 4) (G := G__bar_of) (N := ["words", "index", "dimension", "birth", "death", "end"]) (ps := ["words", "index"]) (rl := rD K) (fall := .ok .none) F sc__bar_of (.inl ⟨rfl, rfl⟩) body
  intro cdv A outer s H E A0 hr hg
  have hN := sc__bar_of.nd
  have hu := hr.un
  have u64 : (A.deeper (PyProof.Rows.envOfC "_bar_of" (defScope s__bar_of) s.heap.objs.size f cdv)).units + 64 < cLine := by omega
  have u65 : (A.deeper (PyProof.Rows.envOfC "_bar_of" (defScope s__bar_of) s.heap.objs.size f cdv)).units + 65 < cLine := by omega
  have u66 : (A.deeper (PyProof.Rows.envOfC "_bar_of" (defScope s__bar_of) s.heap.objs.size f cdv)).units + 66 < cLine := by omega
  have tk : Takes (cxOf (L2.CX P w) P w K mg base ["words", "index", "dimension", "birth", "death", "end"] "_bar_of" (defScope s__bar_of) f cdv A outer s H E) (fun cls d _ H => E cls d H) := takes_of rfl rfl rfl rfl
  have hp : PassesOwn (model P w) (cxOf (L2.CX P w) P w K mg base ["words", "index", "dimension", "birth", "death", "end"] "_bar_of" (defScope s__bar_of) f cdv A outer s H E).A (cxOf (L2.CX P w) P w K mg base ["words", "index", "dimension", "birth", "death", "end"] "_bar_of" (defScope s__bar_of) f cdv A outer s H E).env (cxOf (L2.CX P w) P w K mg base ["words", "index", "dimension", "birth", "death", "end"] "_bar_of" (defScope s__bar_of) f cdv A outer s H E).xe := passes_of (X := cxOf (L2.CX P w) P w K mg base ["words", "index", "dimension", "birth", "death", "end"] "_bar_of" (defScope s__bar_of) f cdv A outer s H E) rfl
  exact ss_cons (s_if (b_ne u64 (TD.o (t_len z.b_len (as_cons keeps_O (TO.v (TD.o (t_var 0))) (as_nil)))) (TD.o (t_int))) (ss_cons (s_raise rfl tk x_BadLine hr (wd := "BadLine") (t_var 1))
    (ss_nil)) (ss_nil))
    (ss_cons (s_asg (t_var 0) (g_tupL rfl (g_cons (g_name 2 hN) (g_cons (g_name 3 hN) (g_cons (g_name 4 hN) (g_nil))))))
    (ss_cons (s_set 5 hN (t_if (b_eq u64 (TD.o (t_var 4)) (TD.o (t_globS (i := "-") z.c_NO_END))) (t_none) (t_callDX tk d__number_of hr hg (as_cons keeps_D (TD.v (t_var 4)) (as_cons keeps_D (TD.v (t_var 1)) (as_nil))) (aC_len (aC_len a0_len)) back_D)))
    (ss_cons (s_ret (t_tup (as_cons keeps_D (TD.v (t_callDX tk d__number_of hr hg (as_cons keeps_D (TD.v (t_var 2)) (as_cons keeps_D (TD.v (t_var 1)) (as_nil))) (aC_len (aC_len a0_len)) back_D)) (as_cons keeps_D (TD.v (t_callDX tk d__number_of hr hg (as_cons keeps_D (TD.v (t_var 3)) (as_cons keeps_D (TD.v (t_var 1)) (as_nil))) (aC_len (aC_len a0_len)) back_D)) (as_cons keeps_D (TD.v (t_var 5)) (as_nil))))) rfl)
    (ss_nil))))
abbrev s__words_by_line : Stmt := topS 19
theorem sc__words_by_line : FnScope ["text", "line"] ["text"] (defScope s__words_by_line) := ⟨rfl, rfl, rfl, by decide +kernel, rfl, by decide +kernel, by decide +kernel⟩
set_option maxHeartbeats 400000 in
theorem ok__words_by_line {f : Addr} {fd : FuncData} (F : Fun K "_words_by_line" "_words_by_line" s__words_by_line f fd) (z : Zs mg) (gm : mg "_words_by_line" = some (.ref f)) : Df P w K mg base 1 "_words_by_line" 1 (rF K) F__words_by_line := by
  have bb : Binds K fd ["text"] [] := F.binds fun _ _ _ _ _ _ us hl => (match us, hl with | [_], _ => rfl)
  refine ⟨f, fd, ["text"], ?_, bb, gm, F.kp⟩
  suffices body : ∀ (cdv : Value) (A : Around) (outer : List PySem.Env) (s : Shared) (H : Hp) (E : XK) (A0 : List Addr), Room 0 (A.deeper (PyProof.Rows.envOfC "_words_by_line" (defScope s__words_by_line) s.heap.objs.size f cdv)) → A.guards = some [] →
      TSs (cxOf (L2.CX P w) P w K mg base ["text", "line"] "_words_by_line" (defScope s__words_by_line) f cdv A outer s H E) ⟨fun cls d _ H => E cls d H, rF K, [], H, A0⟩ (defBody s__words_by_line) G__words_by_line by
    exact fn_rule (k := 0) (G := G__words_by_line) (N := ["text", "line"]) (ps := ["text"]) (rl := rF K) (fall := .no) F sc__words_by_line (.inr rfl) body
  intro cdv A outer s H E A0 hr hg
  have hN := sc__words_by_line.nd
  have hu := hr.un
  have u64 : (A.deeper (PyProof.Rows.envOfC "_words_by_line" (defScope s__words_by_line) s.heap.objs.size f cdv)).units + 64 < cLine := by omega
  have u65 : (A.deeper (PyProof.Rows.envOfC "_words_by_line" (defScope s__words_by_line) s.heap.objs.size f cdv)).units + 65 < cLine := by omega
  have u66 : (A.deeper (PyProof.Rows.envOfC "_words_by_line" (defScope s__words_by_line) s.heap.objs.size f cdv)).units + 66 < cLine := by omega
  have tk : Takes (cxOf (L2.CX P w) P w K mg base ["text", "line"] "_words_by_line" (defScope s__words_by_line) f cdv A outer s H E) (fun cls d _ H => E cls d H) := takes_of rfl rfl rfl rfl
  have hp : PassesOwn (model P w) (cxOf (L2.CX P w) P w K mg base ["text", "line"] "_words_by_line" (defScope s__words_by_line) f cdv A outer s H E).A (cxOf (L2.CX P w) P w K mg base ["text", "line"] "_words_by_line" (defScope s__words_by_line) f cdv A outer s H E).env (cxOf (L2.CX P w) P w K mg base ["text", "line"] "_words_by_line" (defScope s__words_by_line) f cdv A outer s H E).xe := passes_of (X := cxOf (L2.CX P w) P w K mg base ["text", "line"] "_words_by_line" (defScope s__words_by_line) f cdv A outer s H E) rfl
  exact ss_cons (s_if (b_eq u64 (TD.o (t_var 0)) (TD.o (t_str))) (ss_cons (s_retF (t_lst (as_nil)) rfl)
    (ss_nil)) (ss_nil))
    (ss_cons (s_retF (t_lc rfl hN (i_any (TF.d (t_split (TD.o (t_var 0)) (TD.o (t_str))))) (blkOk_by (N := ["text", "line"]) (sc := defScope s__words_by_line) (own := [("line", 1)]) (by first | decide +kernel | rfl | with_unfolding_all rfl)) (fun _ _ _ _ _ => g_name 1 hN) (fun _ _ _ _ _ => cs_nil) (fun _ _ _ _ _ => TF.d (t_split (TD.o (t_var 1)) (TD.o (t_str))))) rfl)
    (ss_nil))
abbrev s_parse_bars : Stmt := topS 18
theorem sc_parse_bars : FnScope ["text", "bars", "index", "words"] ["text"] (defScope s_parse_bars) := ⟨rfl, rfl, rfl, by decide +kernel, rfl, by decide +kernel, by decide +kernel⟩
set_option maxHeartbeats 400000 in
theorem ok_parse_bars {f : Addr} {fd : FuncData} (F : Fun K "parse_bars" "parse_bars" s_parse_bars f fd) (z : Zs mg) (d__bar_of : Df P w K mg base 5 "_bar_of" 2 (rD K) F__bar_of) (d__words_by_line : Df P w K mg base 1 "_words_by_line" 1 (rF K) F__words_by_line) (d_check_bars : Df P w K mg base 4 "check_bars" 1 (rD K) F_check_bars) (gm : mg "parse_bars" = some (.ref f)) : Df P w K mg base 6 "parse_bars" 1 (rD K) F_parse_bars := by
  have bb : Binds K fd ["text"] [] := F.binds fun _ _ _ _ _ _ us hl => (match us, hl with | [_], _ => rfl)
  refine ⟨f, fd, ["text"], ?_, bb, gm, F.kp⟩
  suffices body : ∀ (cdv : Value) (A : Around) (outer : List PySem.Env) (s : Shared) (H : Hp) (E : XK) (A0 : List Addr), Room 5 (A.deeper (PyProof.Rows.envOfC "parse_bars" (defScope s_parse_bars) s.heap.objs.size f cdv)) → A.guards = some [] →
      TSs (cxOf (L2.CX P w) P w K mg base ["text", "bars", "index", "words"] "parse_bars" (defScope s_parse_bars) f cdv A outer s H E) ⟨fun cls d _ H => E cls d H, rD K, [], H, A0⟩ (defBody s_parse_bars) G_parse_bars by
    exact fn_rule (k := 5) (G := G_parse_bars) (N := ["text", "bars", "index", "words"]) (ps := ["text"]) (rl := rD K) (fall := .ok .none) F sc_parse_bars (.inl ⟨rfl, rfl⟩) body
  intro cdv A outer s H E A0 hr hg
  have hN := sc_parse_bars.nd
  have hu := hr.un
  have u64 : (A.deeper (PyProof.Rows.envOfC "parse_bars" (defScope s_parse_bars) s.heap.objs.size f cdv)).units + 64 < cLine := by omega
  have u65 : (A.deeper (PyProof.Rows.envOfC "parse_bars" (defScope s_parse_bars) s.heap.objs.size f cdv)).units + 65 < cLine := by omega
  have u66 : (A.deeper (PyProof.Rows.envOfC "parse_bars" (defScope s_parse_bars) s.heap.objs.size f cdv)).units + 66 < cLine := by omega
  have tk : Takes (cxOf (L2.CX P w) P w K mg base ["text", "bars", "index", "words"] "parse_bars" (defScope s_parse_bars) f cdv A outer s H E) (fun cls d _ H => E cls d H) := takes_of rfl rfl rfl rfl
  have hp : PassesOwn (model P w) (cxOf (L2.CX P w) P w K mg base ["text", "bars", "index", "words"] "parse_bars" (defScope s_parse_bars) f cdv A outer s H E).A (cxOf (L2.CX P w) P w K mg base ["text", "bars", "index", "words"] "parse_bars" (defScope s_parse_bars) f cdv A outer s H E).env (cxOf (L2.CX P w) P w K mg base ["text", "bars", "index", "words"] "parse_bars" (defScope s_parse_bars) f cdv A outer s H E).xe := passes_of (X := cxOf (L2.CX P w) P w K mg base ["text", "bars", "index", "words"] "parse_bars" (defScope s_parse_bars) f cdv A outer s H E) rfl
  exact ss_cons (s_setXc 1 tk rfl hN (sw_true rfl rfl rfl (by decide +kernel)) (i_enum z.b_enumerate (as_cons keeps_D (TD.v (TF.d (t_callD d__words_by_line hr hg (as_cons keeps_D (TD.v (t_var 0)) (as_nil)) (aC_len a0_len) back_F))) (as_nil))) (blkOk_by (N := ["text", "bars", "index", "words"]) (sc := defScope s_parse_bars) (own := [("index", 2), ("words", 3)]) (by first | decide +kernel | rfl | with_unfolding_all rfl)) (fun _ _ _ _ _ => g_tup rfl (g_cons (g_name 2 hN) (g_cons (g_name 3 hN) (g_nil)))) (fun _ _ _ _ _ _ _ _ pa => t_callDP pa d__bar_of hr hg (as_cons keeps_D (TD.v (t_var 3)) (as_cons keeps_D (TD.v (t_var 2)) (as_nil))) (aC_len (aC_len a0_len)) back_D))
    (ss_cons (s_expr (t_callDX tk d_check_bars hr hg (as_cons keeps_D (TD.v (t_var 1)) (as_nil)) (aC_len a0_len) back_D))
    (ss_cons (s_ret (t_var 1) rfl)
    (ss_nil)))
abbrev s__law_cell : Stmt := topS 24
theorem sc__law_cell : FnScope ["script", "k"] ["script", "k"] (defScope s__law_cell) := ⟨rfl, rfl, rfl, by decide +kernel, rfl, by decide +kernel, by decide +kernel⟩
set_option maxHeartbeats 400000 in
theorem ok__law_cell {f : Addr} {fd : FuncData} (F : Fun K "_law_cell" "_law_cell" s__law_cell f fd) (z : Zs mg) (gm : mg "_law_cell" = some (.ref f)) : Df P w K mg base 1 "_law_cell" 2 (rD K) F__law_cell := by
  have bb : Binds K fd ["script", "k"] [] := F.binds fun _ _ _ _ _ _ us hl => (match us, hl with | [_, _], _ => rfl)
  refine ⟨f, fd, ["script", "k"], ?_, bb, gm, F.kp⟩
  suffices body : ∀ (cdv : Value) (A : Around) (outer : List PySem.Env) (s : Shared) (H : Hp) (E : XK) (A0 : List Addr), Room 0 (A.deeper (PyProof.Rows.envOfC "_law_cell" (defScope s__law_cell) s.heap.objs.size f cdv)) → A.guards = some [] →
      TSs (cxOf (L2.CX P w) P w K mg base ["script", "k"] "_law_cell" (defScope s__law_cell) f cdv A outer s H E) ⟨fun cls d _ H => E cls d H, rD K, [], H, A0⟩ (defBody s__law_cell) G__law_cell by
    exact fn_rule (k := 0) (G := G__law_cell) (N := ["script", "k"]) (ps := ["script", "k"]) (rl := rD K) (fall := .ok .none) F sc__law_cell (.inl ⟨rfl, rfl⟩) body
  intro cdv A outer s H E A0 hr hg
  have hN := sc__law_cell.nd
  have hu := hr.un
  have u64 : (A.deeper (PyProof.Rows.envOfC "_law_cell" (defScope s__law_cell) s.heap.objs.size f cdv)).units + 64 < cLine := by omega
  have u65 : (A.deeper (PyProof.Rows.envOfC "_law_cell" (defScope s__law_cell) s.heap.objs.size f cdv)).units + 65 < cLine := by omega
  have u66 : (A.deeper (PyProof.Rows.envOfC "_law_cell" (defScope s__law_cell) s.heap.objs.size f cdv)).units + 66 < cLine := by omega
  have tk : Takes (cxOf (L2.CX P w) P w K mg base ["script", "k"] "_law_cell" (defScope s__law_cell) f cdv A outer s H E) (fun cls d _ H => E cls d H) := takes_of rfl rfl rfl rfl
  have hp : PassesOwn (model P w) (cxOf (L2.CX P w) P w K mg base ["script", "k"] "_law_cell" (defScope s__law_cell) f cdv A outer s H E).A (cxOf (L2.CX P w) P w K mg base ["script", "k"] "_law_cell" (defScope s__law_cell) f cdv A outer s H E).env (cxOf (L2.CX P w) P w K mg base ["script", "k"] "_law_cell" (defScope s__law_cell) f cdv A outer s H E).xe := passes_of (X := cxOf (L2.CX P w) P w K mg base ["script", "k"] "_law_cell" (defScope s__law_cell) f cdv A outer s H E) rfl
  exact ss_cons (s_if (b_ltA u64 (TD.o (t_var 1)) (TD.o (t_len z.b_len (as_cons keeps_O (TO.v (TD.o (t_var 0))) (as_nil))))) (ss_cons (s_ret (t_ix (TD.o (t_var 0)) (TD.o (t_var 1))) rfl)
    (ss_nil)) (ss_nil))
    (ss_cons (s_ret (t_int) rfl)
    (ss_nil))
abbrev s__law_row : Stmt := topS 25
theorem sc__law_row : FnScope ["cell", "count", "base", "row", "k", "number"] ["cell", "count", "base"] (defScope s__law_row) := ⟨rfl, rfl, rfl, by decide +kernel, rfl, by decide +kernel, by decide +kernel⟩
set_option maxHeartbeats 400000 in
theorem ok__law_row {f : Addr} {fd : FuncData} (F : Fun K "_law_row" "_law_row" s__law_row f fd) (z : Zs mg) (gm : mg "_law_row" = some (.ref f)) : Df P w K mg base 1 "_law_row" 3 (rF K) F__law_row := by
  have bb : Binds K fd ["cell", "count", "base"] [] := F.binds fun _ _ _ _ _ _ us hl => (match us, hl with | [_, _, _], _ => rfl)
  refine ⟨f, fd, ["cell", "count", "base"], ?_, bb, gm, F.kp⟩
  suffices body : ∀ (cdv : Value) (A : Around) (outer : List PySem.Env) (s : Shared) (H : Hp) (E : XK) (A0 : List Addr), Room 0 (A.deeper (PyProof.Rows.envOfC "_law_row" (defScope s__law_row) s.heap.objs.size f cdv)) → A.guards = some [] →
      TSs (cxOf (L2.CX P w) P w K mg base ["cell", "count", "base", "row", "k", "number"] "_law_row" (defScope s__law_row) f cdv A outer s H E) ⟨fun cls d _ H => E cls d H, rF K, [], H, A0⟩ (defBody s__law_row) G__law_row by
    exact fn_rule (k := 0) (G := G__law_row) (N := ["cell", "count", "base", "row", "k", "number"]) (ps := ["cell", "count", "base"]) (rl := rF K) (fall := .no) F sc__law_row (.inr rfl) body
  intro cdv A outer s H E A0 hr hg
  have hN := sc__law_row.nd
  have hu := hr.un
  have u64 : (A.deeper (PyProof.Rows.envOfC "_law_row" (defScope s__law_row) s.heap.objs.size f cdv)).units + 64 < cLine := by omega
  have u65 : (A.deeper (PyProof.Rows.envOfC "_law_row" (defScope s__law_row) s.heap.objs.size f cdv)).units + 65 < cLine := by omega
  have u66 : (A.deeper (PyProof.Rows.envOfC "_law_row" (defScope s__law_row) s.heap.objs.size f cdv)).units + 66 < cLine := by omega
  have tk : Takes (cxOf (L2.CX P w) P w K mg base ["cell", "count", "base", "row", "k", "number"] "_law_row" (defScope s__law_row) f cdv A outer s H E) (fun cls d _ H => E cls d H) := takes_of rfl rfl rfl rfl
  have hp : PassesOwn (model P w) (cxOf (L2.CX P w) P w K mg base ["cell", "count", "base", "row", "k", "number"] "_law_row" (defScope s__law_row) f cdv A outer s H E).A (cxOf (L2.CX P w) P w K mg base ["cell", "count", "base", "row", "k", "number"] "_law_row" (defScope s__law_row) f cdv A outer s H E).env (cxOf (L2.CX P w) P w K mg base ["cell", "count", "base", "row", "k", "number"] "_law_row" (defScope s__law_row) f cdv A outer s H E).xe := passes_of (X := cxOf (L2.CX P w) P w K mg base ["cell", "count", "base", "row", "k", "number"] "_law_row" (defScope s__law_row) f cdv A outer s H E) rfl
  exact ss_cons (s_own 3 hN (t_lst (as_nil)))
    (ss_cons (s_for hp rfl (i_range1 (by rfl) z.b_range (as_cons keeps_O (TO.v (TD.o (t_var 1))) (as_nil))) (g_name 4 hN) (ss_cons (s_if (b_geA u64 (TD.o (t_var 0)) (TD.o (t_op back_D op_pow o_pow (TD.o (t_int)) (TD.o (t_int))))) (ss_cons (s_app 3 (t_op back_D op_mod o_mod (TD.o (t_intc z.b_int (as_cons keeps_O (TO.v (TD.o (t_var 0))) (as_nil)))) (TD.o (t_var 2))))
    (ss_cons (s_set 0 hN (t_op back_D op_fdiv o_fdiv (TD.o (t_var 0)) (TD.o (t_var 2))))
    (ss_nil))) (ss_cons (s_set 5 hN (t_op back_D op_mod o_mod (TD.o (t_intc z.b_int (as_cons keeps_O (TO.v (TD.o (t_op back_D op_addA o_add (TD.o (t_op back_D op_addA o_add (TD.o (t_op back_D op_mul o_mul (TD.o (t_var 0)) (TD.o (t_int)))) (TD.o (t_op back_D op_mul o_mul (TD.o (t_var 4)) (TD.o (t_int)))))) (TD.o (t_int))))) (as_nil)))) (TD.o (t_int))))
    (ss_cons (s_set 5 hN (t_op back_D op_mod o_mod (TD.o (t_intc z.b_int (as_cons keeps_O (TO.v (TD.o (t_op back_D op_addA o_add (TD.o (t_op back_D op_addA o_add (TD.o (t_op back_D op_mul o_mul (TD.o (t_var 5)) (TD.o (t_var 5)))) (TD.o (t_op back_D op_mul o_mul (TD.o (t_int)) (TD.o (t_var 4)))))) (TD.o (t_int))))) (as_nil)))) (TD.o (t_int))))
    (ss_cons (s_set 5 hN (t_op back_D op_mod o_mod (TD.o (t_intc z.b_int (as_cons keeps_O (TO.v (TD.o (t_op back_D op_addA o_add (TD.o (t_op back_D op_addA o_add (TD.o (t_op back_D op_mul o_mul (TD.o (t_var 5)) (TD.o (t_var 5)))) (TD.o (t_op back_D op_mul o_mul (TD.o (t_int)) (TD.o (t_var 4)))))) (TD.o (t_var 0))))) (as_nil)))) (TD.o (t_int))))
    (ss_cons (s_app 3 (t_op back_D op_mod o_mod (TD.o (t_intc z.b_int (as_cons keeps_O (TO.v (TD.o (t_op back_D op_fdiv o_fdiv (TD.o (t_var 5)) (TD.o (t_int))))) (as_nil)))) (TD.o (t_var 2))))
    (ss_nil))))))
    (ss_nil)))
    (ss_cons (s_retO 3 rfl)
    (ss_nil)))
abbrev s__law_number : Stmt := topS 26
theorem sc__law_number : FnScope ["word", "digits", "number", "digit"] ["word"] (defScope s__law_number) := ⟨rfl, rfl, rfl, by decide +kernel, rfl, by decide +kernel, by decide +kernel⟩
set_option maxHeartbeats 400000 in
theorem ok__law_number {f : Addr} {fd : FuncData} (F : Fun K "_law_number" "_law_number" s__law_number f fd) (z : Zs mg) (gm : mg "_law_number" = some (.ref f)) : Df P w K mg base 1 "_law_number" 1 (rD K) F__law_number := by
  have bb : Binds K fd ["word"] [] := F.binds fun _ _ _ _ _ _ us hl => (match us, hl with | [_], _ => rfl)
  refine ⟨f, fd, ["word"], ?_, bb, gm, F.kp⟩
  suffices body : ∀ (cdv : Value) (A : Around) (outer : List PySem.Env) (s : Shared) (H : Hp) (E : XK) (A0 : List Addr), Room 0 (A.deeper (PyProof.Rows.envOfC "_law_number" (defScope s__law_number) s.heap.objs.size f cdv)) → A.guards = some [] →
      TSs (cxOf (L2.CX P w) P w K mg base ["word", "digits", "number", "digit"] "_law_number" (defScope s__law_number) f cdv A outer s H E) ⟨fun cls d _ H => E cls d H, rD K, [], H, A0⟩ (defBody s__law_number) G__law_number by
    exact fn_rule (k := 0) (G := G__law_number) (N := ["word", "digits", "number", "digit"]) (ps := ["word"]) (rl := rD K) (fall := .ok .none) F sc__law_number (.inl ⟨rfl, rfl⟩) body
  intro cdv A outer s H E A0 hr hg
  have hN := sc__law_number.nd
  have hu := hr.un
  have u64 : (A.deeper (PyProof.Rows.envOfC "_law_number" (defScope s__law_number) s.heap.objs.size f cdv)).units + 64 < cLine := by omega
  have u65 : (A.deeper (PyProof.Rows.envOfC "_law_number" (defScope s__law_number) s.heap.objs.size f cdv)).units + 65 < cLine := by omega
  have u66 : (A.deeper (PyProof.Rows.envOfC "_law_number" (defScope s__law_number) s.heap.objs.size f cdv)).units + 66 < cLine := by omega
  have tk : Takes (cxOf (L2.CX P w) P w K mg base ["word", "digits", "number", "digit"] "_law_number" (defScope s__law_number) f cdv A outer s H E) (fun cls d _ H => E cls d H) := takes_of rfl rfl rfl rfl
  have hp : PassesOwn (model P w) (cxOf (L2.CX P w) P w K mg base ["word", "digits", "number", "digit"] "_law_number" (defScope s__law_number) f cdv A outer s H E).A (cxOf (L2.CX P w) P w K mg base ["word", "digits", "number", "digit"] "_law_number" (defScope s__law_number) f cdv A outer s H E).env (cxOf (L2.CX P w) P w K mg base ["word", "digits", "number", "digit"] "_law_number" (defScope s__law_number) f cdv A outer s H E).xe := passes_of (X := cxOf (L2.CX P w) P w K mg base ["word", "digits", "number", "digit"] "_law_number" (defScope s__law_number) f cdv A outer s H E) rfl
  exact ss_cons (s_set 1 hN (t_var 0))
    (ss_cons (s_if (b_eq u64 (TD.o (t_sliceT (TD.o (t_var 0)) (pt_0) (pt_1 (TD.o (t_int))))) (TD.o (t_str))) (ss_cons (s_set 1 hN (t_sliceT (TD.o (t_var 0)) (pt_1 (TD.o (t_int))) (pt_0)))
    (ss_nil)) (ss_nil))
    (ss_cons (s_if (b_w (w_or (b_not (b_chain (f := leA) (g := leA) (op_leA u64) (op_leA u64) o_leA o_leA (TD.o (t_int)) (TD.o (t_lenT z.b_len (as_cons keeps_O (TO.v (TD.o (t_var 1))) (as_nil)))) (TD.o (t_int)))) (w_or1 (b_w (w_and (b_eq u64 (TD.o (t_ixT (TD.o (t_var 1)) (TD.o (t_int)))) (TD.o (t_str))) (w_and1 (b_ne u64 (TD.o (t_var 0)) (TD.o (t_str))))))))) (ss_cons (s_ret (t_none) rfl)
    (ss_nil)) (ss_nil))
    (ss_cons (s_set 2 hN (t_int))
    (ss_cons (s_for hp rfl (i_sgn (TD.o (t_var 1))) (g_name 3 hN) (ss_cons (s_if (b_ninT (TD.o (t_var 3)) (TD.o (t_str))) (ss_cons (s_ret (t_none) rfl)
    (ss_nil)) (ss_nil))
    (ss_cons (s_set 2 hN (t_op back_D op_addA o_add (TD.o (t_op back_D op_mul o_mul (TD.o (t_var 2)) (TD.o (t_int)))) (TD.o (t_sindex (TD.o (t_str)) (TD.o (t_var 3))))))
    (ss_nil))))
    (ss_cons (s_ret (t_ix (TF.o (t_lst (as_cons keeps_D (TD.v (t_var 2)) (as_cons keeps_D (TD.v (t_neg (TD.o (t_var 2)))) (as_nil))))) (TD.o (t_intc z.b_int (as_cons keeps_O (TO.v (TD.o (t_eq u64 (TD.o (t_sliceT (TD.o (t_var 0)) (pt_0) (pt_1 (TD.o (t_int))))) (TD.o (t_str))))) (as_nil))))) rfl)
    (ss_nil))))))
abbrev s__law_word_of : Stmt := topS 27
theorem sc__law_word_of : FnScope ["cell", "words"] ["cell"] (defScope s__law_word_of) := ⟨rfl, rfl, rfl, by decide +kernel, rfl, by decide +kernel, by decide +kernel⟩
set_option maxHeartbeats 400000 in
theorem ok__law_word_of {f : Addr} {fd : FuncData} (F : Fun K "_law_word_of" "_law_word_of" s__law_word_of f fd) (z : Zs mg) (gm : mg "_law_word_of" = some (.ref f)) : Df P w K mg base 1 "_law_word_of" 1 (rD K) F__law_word_of := by
  have bb : Binds K fd ["cell"] [] := F.binds fun _ _ _ _ _ _ us hl => (match us, hl with | [_], _ => rfl)
  refine ⟨f, fd, ["cell"], ?_, bb, gm, F.kp⟩
  suffices body : ∀ (cdv : Value) (A : Around) (outer : List PySem.Env) (s : Shared) (H : Hp) (E : XK) (A0 : List Addr), Room 0 (A.deeper (PyProof.Rows.envOfC "_law_word_of" (defScope s__law_word_of) s.heap.objs.size f cdv)) → A.guards = some [] →
      TSs (cxOf (L2.CX P w) P w K mg base ["cell", "words"] "_law_word_of" (defScope s__law_word_of) f cdv A outer s H E) ⟨fun cls d _ H => E cls d H, rD K, [], H, A0⟩ (defBody s__law_word_of) G__law_word_of by
    exact fn_rule (k := 0) (G := G__law_word_of) (N := ["cell", "words"]) (ps := ["cell"]) (rl := rD K) (fall := .ok .none) F sc__law_word_of (.inl ⟨rfl, rfl⟩) body
  intro cdv A outer s H E A0 hr hg
  have hN := sc__law_word_of.nd
  have hu := hr.un
  have u64 : (A.deeper (PyProof.Rows.envOfC "_law_word_of" (defScope s__law_word_of) s.heap.objs.size f cdv)).units + 64 < cLine := by omega
  have u65 : (A.deeper (PyProof.Rows.envOfC "_law_word_of" (defScope s__law_word_of) s.heap.objs.size f cdv)).units + 65 < cLine := by omega
  have u66 : (A.deeper (PyProof.Rows.envOfC "_law_word_of" (defScope s__law_word_of) s.heap.objs.size f cdv)).units + 66 < cLine := by omega
  have tk : Takes (cxOf (L2.CX P w) P w K mg base ["cell", "words"] "_law_word_of" (defScope s__law_word_of) f cdv A outer s H E) (fun cls d _ H => E cls d H) := takes_of rfl rfl rfl rfl
  have hp : PassesOwn (model P w) (cxOf (L2.CX P w) P w K mg base ["cell", "words"] "_law_word_of" (defScope s__law_word_of) f cdv A outer s H E).A (cxOf (L2.CX P w) P w K mg base ["cell", "words"] "_law_word_of" (defScope s__law_word_of) f cdv A outer s H E).env (cxOf (L2.CX P w) P w K mg base ["cell", "words"] "_law_word_of" (defScope s__law_word_of) f cdv A outer s H E).xe := passes_of (X := cxOf (L2.CX P w) P w K mg base ["cell", "words"] "_law_word_of" (defScope s__law_word_of) f cdv A outer s H E) rfl
  exact ss_cons (s_set 1 hN (TF.d (t_lst (as_cons keeps_D (TD.v (t_str)) (as_cons keeps_D (TD.v (t_str)) (as_cons keeps_D (TD.v (t_str)) (as_cons keeps_D (TD.v (t_str)) (as_cons keeps_D (TD.v (t_str)) (as_cons keeps_D (TD.v (t_str)) (as_cons keeps_D (TD.v (t_str)) (as_cons keeps_D (TD.v (t_str)) (as_cons keeps_D (TD.v (t_str)) (as_cons keeps_D (TD.v (t_str)) (as_cons keeps_D (TD.v (t_str)) (as_cons keeps_D (TD.v (t_str)) (as_cons keeps_D (TD.v (t_str)) (as_cons keeps_D (TD.v (t_str)) (as_cons keeps_D (TD.v (t_str)) (as_cons keeps_D (TD.v (t_str)) (as_nil))))))))))))))))))))
    (ss_cons (s_set 1 hN (t_op back_D op_addA o_add (TD.o (t_var 1)) (TF.o (t_lst (as_cons keeps_D (TD.v (t_str)) (as_cons keeps_D (TD.v (t_str)) (as_cons keeps_D (TD.v (t_str)) (as_cons keeps_D (TD.v (t_str)) (as_cons keeps_D (TD.v (t_str)) (as_cons keeps_D (TD.v (t_str)) (as_cons keeps_D (TD.v (t_str)) (as_cons keeps_D (TD.v (t_str)) (as_cons keeps_D (TD.v (t_str)) (as_cons keeps_D (TD.v (t_str)) (as_cons keeps_D (TD.v (t_str)) (as_cons keeps_D (TD.v (t_str)) (as_nil)))))))))))))))))
    (ss_cons (s_ret (t_ix (TD.o (t_var 1)) (TD.o (t_op back_D op_mod o_mod (TD.o (t_intc z.b_int (as_cons keeps_O (TO.v (TD.o (t_var 0))) (as_nil)))) (TD.o (t_int))))) rfl)
    (ss_nil)))
abbrev s__law_changed : Stmt := topS 28
theorem sc__law_changed : FnScope ["cell", "lines", "row", "at", "line", "place", "choice", "spot"] ["cell", "lines"] (defScope s__law_changed) := ⟨rfl, rfl, rfl, by decide +kernel, rfl, by decide +kernel, by decide +kernel⟩
set_option maxHeartbeats 400000 in
theorem ok__law_changed {f : Addr} {fd : FuncData} (F : Fun K "_law_changed" "_law_changed" s__law_changed f fd) (z : Zs mg) (d__law_row : Df P w K mg base 1 "_law_row" 3 (rF K) F__law_row) (d__law_word_of : Df P w K mg base 1 "_law_word_of" 1 (rD K) F__law_word_of) (gm : mg "_law_changed" = some (.ref f)) : Df P w K mg base 2 "_law_changed" 2 (rD K) F__law_changed := by
  have bb : Binds K fd ["cell", "lines"] [] := F.binds fun _ _ _ _ _ _ us hl => (match us, hl with | [_, _], _ => rfl)
  refine ⟨f, fd, ["cell", "lines"], ?_, bb, gm, F.kp⟩
  suffices body : ∀ (cdv : Value) (A : Around) (outer : List PySem.Env) (s : Shared) (H : Hp) (E : XK) (A0 : List Addr), Room 1 (A.deeper (PyProof.Rows.envOfC "_law_changed" (defScope s__law_changed) s.heap.objs.size f cdv)) → A.guards = some [] →
      TSs (cxOf (L2.CX P w) P w K mg base ["cell", "lines", "row", "at", "line", "place", "choice", "spot"] "_law_changed" (defScope s__law_changed) f cdv A outer s H E) ⟨fun cls d _ H => E cls d H, rD K, [], H, A0⟩ (defBody s__law_changed) G__law_changed by
    exact fn_rule (k := 1) (G := G__law_changed) (N := ["cell", "lines", "row", "at", "line", "place", "choice", "spot"]) (ps := ["cell", "lines"]) (rl := rD K) (fall := .ok .none) F sc__law_changed (.inl ⟨rfl, rfl⟩) body
  intro cdv A outer s H E A0 hr hg
  have hN := sc__law_changed.nd
  have hu := hr.un
  have u64 : (A.deeper (PyProof.Rows.envOfC "_law_changed" (defScope s__law_changed) s.heap.objs.size f cdv)).units + 64 < cLine := by omega
  have u65 : (A.deeper (PyProof.Rows.envOfC "_law_changed" (defScope s__law_changed) s.heap.objs.size f cdv)).units + 65 < cLine := by omega
  have u66 : (A.deeper (PyProof.Rows.envOfC "_law_changed" (defScope s__law_changed) s.heap.objs.size f cdv)).units + 66 < cLine := by omega
  have tk : Takes (cxOf (L2.CX P w) P w K mg base ["cell", "lines", "row", "at", "line", "place", "choice", "spot"] "_law_changed" (defScope s__law_changed) f cdv A outer s H E) (fun cls d _ H => E cls d H) := takes_of rfl rfl rfl rfl
  have hp : PassesOwn (model P w) (cxOf (L2.CX P w) P w K mg base ["cell", "lines", "row", "at", "line", "place", "choice", "spot"] "_law_changed" (defScope s__law_changed) f cdv A outer s H E).A (cxOf (L2.CX P w) P w K mg base ["cell", "lines", "row", "at", "line", "place", "choice", "spot"] "_law_changed" (defScope s__law_changed) f cdv A outer s H E).env (cxOf (L2.CX P w) P w K mg base ["cell", "lines", "row", "at", "line", "place", "choice", "spot"] "_law_changed" (defScope s__law_changed) f cdv A outer s H E).xe := passes_of (X := cxOf (L2.CX P w) P w K mg base ["cell", "lines", "row", "at", "line", "place", "choice", "spot"] "_law_changed" (defScope s__law_changed) f cdv A outer s H E) rfl
  exact ss_cons (s_set 2 hN (TF.d (t_callD d__law_row hr hg (as_cons keeps_D (TD.v (t_var 0)) (as_cons keeps_D (TD.v (t_int)) (as_cons keeps_D (TD.v (t_int)) (as_nil)))) (aC_len (aC_len (aC_len a0_len))) back_F)))
    (ss_cons (s_set 3 hN (t_op back_D op_mod o_mod (TD.o (t_intc z.b_int (as_cons keeps_O (TO.v (TD.o (t_ix (TD.o (t_var 2)) (TD.o (t_int))))) (as_nil)))) (TD.o (t_len z.b_len (as_cons keeps_O (TO.v (TD.o (t_var 1))) (as_nil))))))
    (ss_cons (s_set 4 hN (t_ix (TD.o (t_var 1)) (TD.o (t_var 3))))
    (ss_cons (s_set 5 hN (t_op back_D op_mod o_mod (TD.o (t_intc z.b_int (as_cons keeps_O (TO.v (TD.o (t_ix (TD.o (t_var 2)) (TD.o (t_int))))) (as_nil)))) (TD.o (t_op back_D op_addA o_add (TD.o (t_len z.b_len (as_cons keeps_O (TO.v (TD.o (t_var 4))) (as_nil)))) (TD.o (t_int))))))
    (ss_cons (s_set 6 hN (t_op back_D op_mod o_mod (TD.o (t_intc z.b_int (as_cons keeps_O (TO.v (TD.o (t_ix (TD.o (t_var 2)) (TD.o (t_int))))) (as_nil)))) (TD.o (t_int))))
    (ss_cons (s_if (b_eq u64 (TD.o (t_var 6)) (TD.o (t_int))) (ss_cons (s_ret (t_op back_D op_addA o_add (TD.o (t_op back_D op_addA o_add (TD.o (t_slice (TD.o (t_var 1)) (pt_0) (pt_1 (TD.o (t_var 3))))) (TF.o (t_lst (as_cons keeps_D (TD.v (t_op back_D op_addA o_add (TD.o (t_slice (TD.o (t_var 4)) (pt_0) (pt_1 (TD.o (t_var 5))))) (TD.o (t_slice (TD.o (t_var 4)) (pt_1 (TD.o (t_op back_D op_addA o_add (TD.o (t_var 5)) (TD.o (t_int))))) (pt_0))))) (as_nil)))))) (TD.o (t_slice (TD.o (t_var 1)) (pt_1 (TD.o (t_op back_D op_addA o_add (TD.o (t_var 3)) (TD.o (t_int))))) (pt_0)))) rfl)
    (ss_nil)) (ss_nil))
    (ss_cons (s_if (b_eq u64 (TD.o (t_var 6)) (TD.o (t_int))) (ss_cons (s_ret (t_op back_D op_addA o_add (TD.o (t_op back_D op_addA o_add (TD.o (t_slice (TD.o (t_var 1)) (pt_0) (pt_1 (TD.o (t_var 3))))) (TF.o (t_lst (as_cons keeps_D (TD.v (t_op back_D op_addA o_add (TD.o (t_slice (TD.o (t_var 4)) (pt_0) (pt_1 (TD.o (t_var 5))))) (TD.o (t_slice (TD.o (t_var 4)) (pt_1 (TD.o (t_max rfl z.b_max (as_cons keeps_O (TO.v (TD.o (t_int))) (as_cons keeps_O (TO.v (TD.o (t_op back_D op_sub o_sub (TD.o (t_var 5)) (TD.o (t_int))))) (as_nil)))))) (pt_0))))) (as_nil)))))) (TD.o (t_slice (TD.o (t_var 1)) (pt_1 (TD.o (t_op back_D op_addA o_add (TD.o (t_var 3)) (TD.o (t_int))))) (pt_0)))) rfl)
    (ss_nil)) (ss_nil))
    (ss_cons (s_if (b_ltA u64 (TD.o (t_var 6)) (TD.o (t_int))) (ss_cons (s_ret (t_op back_D op_addA o_add (TD.o (t_op back_D op_addA o_add (TD.o (t_slice (TD.o (t_var 1)) (pt_0) (pt_1 (TD.o (t_var 3))))) (TF.o (t_lst (as_cons keeps_D (TD.v (t_op back_D op_addA o_add (TD.o (t_op back_D op_addA o_add (TD.o (t_slice (TD.o (t_var 4)) (pt_0) (pt_1 (TD.o (t_var 5))))) (TF.o (t_lst (as_cons keeps_D (TD.v (t_callD d__law_word_of hr hg (as_cons keeps_D (TD.v (t_ix (TD.o (t_var 2)) (TD.o (t_int)))) (as_nil)) (aC_len a0_len) back_D)) (as_nil)))))) (TD.o (t_slice (TD.o (t_var 4)) (pt_1 (TD.o (t_op back_D op_addA o_add (TD.o (t_var 5)) (TD.o (t_op back_D op_mod o_mod (TD.o (t_intc z.b_int (as_cons keeps_O (TO.v (TD.o (t_var 6))) (as_nil)))) (TD.o (t_int))))))) (pt_0))))) (as_nil)))))) (TD.o (t_slice (TD.o (t_var 1)) (pt_1 (TD.o (t_op back_D op_addA o_add (TD.o (t_var 3)) (TD.o (t_int))))) (pt_0)))) rfl)
    (ss_nil)) (ss_nil))
    (ss_cons (s_if (b_eq u64 (TD.o (t_var 6)) (TD.o (t_int))) (ss_cons (s_ret (t_op back_D op_addA o_add (TD.o (t_slice (TD.o (t_var 1)) (pt_0) (pt_1 (TD.o (t_var 3))))) (TD.o (t_slice (TD.o (t_var 1)) (pt_1 (TD.o (t_op back_D op_addA o_add (TD.o (t_var 3)) (TD.o (t_int))))) (pt_0)))) rfl)
    (ss_nil)) (ss_nil))
    (ss_cons (s_if (b_eq u64 (TD.o (t_var 6)) (TD.o (t_int))) (ss_cons (s_ret (t_op back_D op_addA o_add (TD.o (t_op back_D op_addA o_add (TD.o (t_slice (TD.o (t_var 1)) (pt_0) (pt_1 (TD.o (t_var 3))))) (TD.o (t_slice (TD.o (t_var 1)) (pt_1 (TD.o (t_op back_D op_addA o_add (TD.o (t_var 3)) (TD.o (t_int))))) (pt_0))))) (TF.o (t_lst (as_cons keeps_D (TD.v (t_var 4)) (as_nil))))) rfl)
    (ss_nil)) (ss_nil))
    (ss_cons (s_set 7 hN (t_ix (TF.o (t_lst (as_cons keeps_D (TD.v (t_op back_D op_mod o_mod (TD.o (t_intc z.b_int (as_cons keeps_O (TO.v (TD.o (t_ix (TD.o (t_var 2)) (TD.o (t_int))))) (as_nil)))) (TD.o (t_op back_D op_addA o_add (TD.o (t_len z.b_len (as_cons keeps_O (TO.v (TD.o (t_var 1))) (as_nil)))) (TD.o (t_int)))))) (as_cons keeps_D (TD.v (t_len z.b_len (as_cons keeps_O (TO.v (TD.o (t_var 1))) (as_nil)))) (as_nil))))) (TD.o (t_op back_D op_mod o_mod (TD.o (t_intc z.b_int (as_cons keeps_O (TO.v (TD.o (t_op back_D op_fdiv o_fdiv (TD.o (t_ix (TD.o (t_var 2)) (TD.o (t_int)))) (TD.o (t_int))))) (as_nil)))) (TD.o (t_int))))))
    (ss_cons (s_ret (t_op back_D op_addA o_add (TD.o (t_op back_D op_addA o_add (TD.o (t_slice (TD.o (t_var 1)) (pt_0) (pt_1 (TD.o (t_var 7))))) (TF.o (t_lst (as_cons keeps_D (TD.v (t_ix (TF.o (t_lst (as_cons keeps_D (TD.v (t_var 4)) (as_cons keeps_D (TD.v (TF.d (t_lst (as_cons keeps_D (TD.v (t_str)) (as_nil))))) (as_cons keeps_D (TD.v (TF.d (t_lst (as_cons keeps_D (TD.v (t_str)) (as_nil))))) (as_cons keeps_D (TD.v (TF.d (t_lst (as_cons keeps_D (TD.v (t_str)) (as_nil))))) (as_cons keeps_D (TD.v (TF.d (t_lst (as_cons keeps_D (TD.v (t_str)) (as_cons keeps_D (TD.v (t_str)) (as_cons keeps_D (TD.v (t_str)) (as_nil))))))) (as_nil)))))))) (TD.o (t_op back_D op_mod o_mod (TD.o (t_intc z.b_int (as_cons keeps_O (TO.v (TD.o (t_ix (TD.o (t_var 2)) (TD.o (t_int))))) (as_nil)))) (TD.o (t_int)))))) (as_nil)))))) (TD.o (t_slice (TD.o (t_var 1)) (pt_1 (TD.o (t_var 7))) (pt_0)))) rfl)
    (ss_nil))))))))))))
abbrev s__law_bar : Stmt := topS 29
theorem sc__law_bar : FnScope ["cell", "row", "wide", "birth", "death"] ["cell"] (defScope s__law_bar) := ⟨rfl, rfl, rfl, by decide +kernel, rfl, by decide +kernel, by decide +kernel⟩
set_option maxHeartbeats 400000 in
theorem ok__law_bar {f : Addr} {fd : FuncData} (F : Fun K "_law_bar" "_law_bar" s__law_bar f fd) (z : Zs mg) (d__law_row : Df P w K mg base 1 "_law_row" 3 (rF K) F__law_row) (gm : mg "_law_bar" = some (.ref f)) : Df P w K mg base 2 "_law_bar" 1 (rD K) F__law_bar := by
  have bb : Binds K fd ["cell"] [] := F.binds fun _ _ _ _ _ _ us hl => (match us, hl with | [_], _ => rfl)
  refine ⟨f, fd, ["cell"], ?_, bb, gm, F.kp⟩
  suffices body : ∀ (cdv : Value) (A : Around) (outer : List PySem.Env) (s : Shared) (H : Hp) (E : XK) (A0 : List Addr), Room 1 (A.deeper (PyProof.Rows.envOfC "_law_bar" (defScope s__law_bar) s.heap.objs.size f cdv)) → A.guards = some [] →
      TSs (cxOf (L2.CX P w) P w K mg base ["cell", "row", "wide", "birth", "death"] "_law_bar" (defScope s__law_bar) f cdv A outer s H E) ⟨fun cls d _ H => E cls d H, rD K, [], H, A0⟩ (defBody s__law_bar) G__law_bar by
    exact fn_rule (k := 1) (G := G__law_bar) (N := ["cell", "row", "wide", "birth", "death"]) (ps := ["cell"]) (rl := rD K) (fall := .ok .none) F sc__law_bar (.inl ⟨rfl, rfl⟩) body
  intro cdv A outer s H E A0 hr hg
  have hN := sc__law_bar.nd
  have hu := hr.un
  have u64 : (A.deeper (PyProof.Rows.envOfC "_law_bar" (defScope s__law_bar) s.heap.objs.size f cdv)).units + 64 < cLine := by omega
  have u65 : (A.deeper (PyProof.Rows.envOfC "_law_bar" (defScope s__law_bar) s.heap.objs.size f cdv)).units + 65 < cLine := by omega
  have u66 : (A.deeper (PyProof.Rows.envOfC "_law_bar" (defScope s__law_bar) s.heap.objs.size f cdv)).units + 66 < cLine := by omega
  have tk : Takes (cxOf (L2.CX P w) P w K mg base ["cell", "row", "wide", "birth", "death"] "_law_bar" (defScope s__law_bar) f cdv A outer s H E) (fun cls d _ H => E cls d H) := takes_of rfl rfl rfl rfl
  have hp : PassesOwn (model P w) (cxOf (L2.CX P w) P w K mg base ["cell", "row", "wide", "birth", "death"] "_law_bar" (defScope s__law_bar) f cdv A outer s H E).A (cxOf (L2.CX P w) P w K mg base ["cell", "row", "wide", "birth", "death"] "_law_bar" (defScope s__law_bar) f cdv A outer s H E).env (cxOf (L2.CX P w) P w K mg base ["cell", "row", "wide", "birth", "death"] "_law_bar" (defScope s__law_bar) f cdv A outer s H E).xe := passes_of (X := cxOf (L2.CX P w) P w K mg base ["cell", "row", "wide", "birth", "death"] "_law_bar" (defScope s__law_bar) f cdv A outer s H E) rfl
  exact ss_cons (s_set 1 hN (TF.d (t_callD d__law_row hr hg (as_cons keeps_D (TD.v (t_var 0)) (as_cons keeps_D (TD.v (t_int)) (as_cons keeps_D (TD.v (t_int)) (as_nil)))) (aC_len (aC_len (aC_len a0_len))) back_F)))
    (ss_cons (s_set 2 hN (t_ix (TF.o (t_lst (as_cons keeps_D (TD.v (t_int)) (as_cons keeps_D (TD.v (t_int)) (as_nil))))) (TD.o (t_op back_D op_mod o_mod (TD.o (t_intc z.b_int (as_cons keeps_O (TO.v (TD.o (t_ix (TD.o (t_var 1)) (TD.o (t_int))))) (as_nil)))) (TD.o (t_int))))))
    (ss_cons (s_set 3 hN (t_op back_D op_sub o_sub (TD.o (t_op back_D op_mod o_mod (TD.o (t_intc z.b_int (as_cons keeps_O (TO.v (TD.o (t_ix (TD.o (t_var 1)) (TD.o (t_int))))) (as_nil)))) (TD.o (t_var 2)))) (TD.o (t_ix (TF.o (t_lst (as_cons keeps_D (TD.v (t_int)) (as_cons keeps_D (TD.v (t_int)) (as_nil))))) (TD.o (t_op back_D op_mod o_mod (TD.o (t_intc z.b_int (as_cons keeps_O (TO.v (TD.o (t_ix (TD.o (t_var 1)) (TD.o (t_int))))) (as_nil)))) (TD.o (t_int))))))))
    (ss_cons (s_set 4 hN (t_min rfl z.b_min (as_cons keeps_O (TO.v (TD.o (t_int))) (as_cons keeps_O (TO.v (TD.o (t_op back_D op_addA o_add (TD.o (t_op back_D op_addA o_add (TD.o (t_var 3)) (TD.o (t_int)))) (TD.o (t_op back_D op_mod o_mod (TD.o (t_intc z.b_int (as_cons keeps_O (TO.v (TD.o (t_ix (TD.o (t_var 1)) (TD.o (t_int))))) (as_nil)))) (TD.o (t_var 2))))))) (as_nil)))))
    (ss_cons (s_if (b_w (w_or (b_eq u64 (TD.o (t_var 4)) (TD.o (t_var 3))) (w_or1 (b_eq u64 (TD.o (t_op back_D op_mod o_mod (TD.o (t_intc z.b_int (as_cons keeps_O (TO.v (TD.o (t_ix (TD.o (t_var 1)) (TD.o (t_int))))) (as_nil)))) (TD.o (t_int)))) (TD.o (t_int)))))) (ss_cons (s_set 4 hN (t_none))
    (ss_nil)) (ss_nil))
    (ss_cons (s_ret (t_tup (as_cons keeps_D (TD.v (t_op back_D op_mod o_mod (TD.o (t_intc z.b_int (as_cons keeps_O (TO.v (TD.o (t_ix (TD.o (t_var 1)) (TD.o (t_int))))) (as_nil)))) (TD.o (t_int)))) (as_cons keeps_D (TD.v (t_var 3)) (as_cons keeps_D (TD.v (t_var 4)) (as_nil))))) rfl)
    (ss_nil))))))
abbrev s__law_words : Stmt := topS 30
theorem sc__law_words : FnScope ["bar", "part"] ["bar"] (defScope s__law_words) := ⟨rfl, rfl, rfl, by decide +kernel, rfl, by decide +kernel, by decide +kernel⟩
set_option maxHeartbeats 400000 in
theorem ok__law_words {f : Addr} {fd : FuncData} (F : Fun K "_law_words" "_law_words" s__law_words f fd) (z : Zs mg) (gm : mg "_law_words" = some (.ref f)) : Df P w K mg base 1 "_law_words" 1 (rF K) F__law_words := by
  have bb : Binds K fd ["bar"] [] := F.binds fun _ _ _ _ _ _ us hl => (match us, hl with | [_], _ => rfl)
  refine ⟨f, fd, ["bar"], ?_, bb, gm, F.kp⟩
  suffices body : ∀ (cdv : Value) (A : Around) (outer : List PySem.Env) (s : Shared) (H : Hp) (E : XK) (A0 : List Addr), Room 0 (A.deeper (PyProof.Rows.envOfC "_law_words" (defScope s__law_words) s.heap.objs.size f cdv)) → A.guards = some [] →
      TSs (cxOf (L2.CX P w) P w K mg base ["bar", "part"] "_law_words" (defScope s__law_words) f cdv A outer s H E) ⟨fun cls d _ H => E cls d H, rF K, [], H, A0⟩ (defBody s__law_words) G__law_words by
    exact fn_rule (k := 0) (G := G__law_words) (N := ["bar", "part"]) (ps := ["bar"]) (rl := rF K) (fall := .no) F sc__law_words (.inr rfl) body
  intro cdv A outer s H E A0 hr hg
  have hN := sc__law_words.nd
  have hu := hr.un
  have u64 : (A.deeper (PyProof.Rows.envOfC "_law_words" (defScope s__law_words) s.heap.objs.size f cdv)).units + 64 < cLine := by omega
  have u65 : (A.deeper (PyProof.Rows.envOfC "_law_words" (defScope s__law_words) s.heap.objs.size f cdv)).units + 65 < cLine := by omega
  have u66 : (A.deeper (PyProof.Rows.envOfC "_law_words" (defScope s__law_words) s.heap.objs.size f cdv)).units + 66 < cLine := by omega
  have tk : Takes (cxOf (L2.CX P w) P w K mg base ["bar", "part"] "_law_words" (defScope s__law_words) f cdv A outer s H E) (fun cls d _ H => E cls d H) := takes_of rfl rfl rfl rfl
  have hp : PassesOwn (model P w) (cxOf (L2.CX P w) P w K mg base ["bar", "part"] "_law_words" (defScope s__law_words) f cdv A outer s H E).A (cxOf (L2.CX P w) P w K mg base ["bar", "part"] "_law_words" (defScope s__law_words) f cdv A outer s H E).env (cxOf (L2.CX P w) P w K mg base ["bar", "part"] "_law_words" (defScope s__law_words) f cdv A outer s H E).xe := passes_of (X := cxOf (L2.CX P w) P w K mg base ["bar", "part"] "_law_words" (defScope s__law_words) f cdv A outer s H E) rfl
  exact ss_cons (s_if (b_is (TD.o (t_ix (TD.o (t_var 0)) (TD.o (t_int)))) (TD.o (t_none))) (ss_cons (s_retF (t_lst (as_cons keeps_D (TD.v (t_strI z.b_str (as_cons keeps_O (TO.v (TD.o (t_ix (TD.o (t_var 0)) (TD.o (t_int))))) (as_nil)))) (as_cons keeps_D (TD.v (t_strI z.b_str (as_cons keeps_O (TO.v (TD.o (t_ix (TD.o (t_var 0)) (TD.o (t_int))))) (as_nil)))) (as_cons keeps_D (TD.v (t_str)) (as_nil))))) rfl)
    (ss_nil)) (ss_nil))
    (ss_cons (s_retF (t_lc rfl hN (i_any (t_var 0)) (blkOk_by (N := ["bar", "part"]) (sc := defScope s__law_words) (own := [("part", 1)]) (by first | decide +kernel | rfl | with_unfolding_all rfl)) (fun _ _ _ _ _ => g_name 1 hN) (fun _ _ _ _ _ => cs_nil) (fun _ _ _ _ _ => t_strI z.b_str (as_cons keeps_O (TO.v (TD.o (t_var 1))) (as_nil)))) rfl)
    (ss_nil))
abbrev s__law_read : Stmt := topS 31
theorem sc__law_read : FnScope ["lines", "found", "k", "words", "numbers", "word"] ["lines"] (defScope s__law_read) := ⟨rfl, rfl, rfl, by decide +kernel, rfl, by decide +kernel, by decide +kernel⟩
set_option maxHeartbeats 400000 in
theorem ok__law_read {f : Addr} {fd : FuncData} (F : Fun K "_law_read" "_law_read" s__law_read f fd) (z : Zs mg) (d__law_number : Df P w K mg base 1 "_law_number" 1 (rD K) F__law_number) (gm : mg "_law_read" = some (.ref f)) : Df P w K mg base 2 "_law_read" 1 (rD K) F__law_read := by
  have bb : Binds K fd ["lines"] [] := F.binds fun _ _ _ _ _ _ us hl => (match us, hl with | [_], _ => rfl)
  refine ⟨f, fd, ["lines"], ?_, bb, gm, F.kp⟩
  suffices body : ∀ (cdv : Value) (A : Around) (outer : List PySem.Env) (s : Shared) (H : Hp) (E : XK) (A0 : List Addr), Room 1 (A.deeper (PyProof.Rows.envOfC "_law_read" (defScope s__law_read) s.heap.objs.size f cdv)) → A.guards = some [] →
      TSs (cxOf (L2.CX P w) P w K mg base ["lines", "found", "k", "words", "numbers", "word"] "_law_read" (defScope s__law_read) f cdv A outer s H E) ⟨fun cls d _ H => E cls d H, rD K, [], H, A0⟩ (defBody s__law_read) G__law_read by
    exact fn_rule (k := 1) (G := G__law_read) (N := ["lines", "found", "k", "words", "numbers", "word"]) (ps := ["lines"]) (rl := rD K) (fall := .ok .none) F sc__law_read (.inl ⟨rfl, rfl⟩) body
  intro cdv A outer s H E A0 hr hg
  have hN := sc__law_read.nd
  have hu := hr.un
  have u64 : (A.deeper (PyProof.Rows.envOfC "_law_read" (defScope s__law_read) s.heap.objs.size f cdv)).units + 64 < cLine := by omega
  have u65 : (A.deeper (PyProof.Rows.envOfC "_law_read" (defScope s__law_read) s.heap.objs.size f cdv)).units + 65 < cLine := by omega
  have u66 : (A.deeper (PyProof.Rows.envOfC "_law_read" (defScope s__law_read) s.heap.objs.size f cdv)).units + 66 < cLine := by omega
  have tk : Takes (cxOf (L2.CX P w) P w K mg base ["lines", "found", "k", "words", "numbers", "word"] "_law_read" (defScope s__law_read) f cdv A outer s H E) (fun cls d _ H => E cls d H) := takes_of rfl rfl rfl rfl
  have hp : PassesOwn (model P w) (cxOf (L2.CX P w) P w K mg base ["lines", "found", "k", "words", "numbers", "word"] "_law_read" (defScope s__law_read) f cdv A outer s H E).A (cxOf (L2.CX P w) P w K mg base ["lines", "found", "k", "words", "numbers", "word"] "_law_read" (defScope s__law_read) f cdv A outer s H E).env (cxOf (L2.CX P w) P w K mg base ["lines", "found", "k", "words", "numbers", "word"] "_law_read" (defScope s__law_read) f cdv A outer s H E).xe := passes_of (X := cxOf (L2.CX P w) P w K mg base ["lines", "found", "k", "words", "numbers", "word"] "_law_read" (defScope s__law_read) f cdv A outer s H E) rfl
  exact ss_cons (s_own 1 hN (t_lst (as_nil)))
    (ss_cons (s_for hp rfl (i_range1 (by rfl) z.b_range (as_cons keeps_O (TO.v (TD.o (t_len z.b_len (as_cons keeps_O (TO.v (TD.o (t_var 0))) (as_nil))))) (as_nil))) (g_name 2 hN) (ss_cons (s_set 3 hN (t_ix (TD.o (t_var 0)) (TD.o (t_var 2))))
    (ss_cons (s_if (b_ne u64 (TD.o (t_len z.b_len (as_cons keeps_O (TO.v (TD.o (t_var 3))) (as_nil)))) (TD.o (t_int))) (ss_cons (s_ret (t_var 2) rfl)
    (ss_nil)) (ss_nil))
    (ss_cons (s_setLc 4 rfl hN (sw_true rfl rfl rfl (by decide +kernel)) (i_any (t_var 3)) (blkOk_by (N := ["lines", "found", "k", "words", "numbers", "word"]) (sc := defScope s__law_read) (own := [("word", 5)]) (by first | decide +kernel | rfl | with_unfolding_all rfl)) (fun _ _ _ _ _ => g_name 5 hN) (fun _ _ _ _ _ => cs_nil) (fun _ _ _ _ _ => t_callD d__law_number hr hg (as_cons keeps_D (TD.v (t_var 5)) (as_nil)) (aC_len a0_len) back_D))
    (ss_cons (s_if (b_w (w_or (b_in u65 (TD.o (t_none)) (TD.o (t_slice (TD.o (t_var 4)) (pt_0) (pt_1 (TD.o (t_int)))))) (w_or1 (b_w (w_and (b_is (TD.o (t_ix (TD.o (t_var 4)) (TD.o (t_int)))) (TD.o (t_none))) (w_and1 (b_ne u64 (TD.o (t_ix (TD.o (t_var 3)) (TD.o (t_int)))) (TD.o (t_str))))))))) (ss_cons (s_ret (t_var 2) rfl)
    (ss_nil)) (ss_nil))
    (ss_cons (s_app 1 (t_tuplec z.b_tuple (as_cons keeps_O (TO.v (TD.o (t_var 4))) (as_nil))))
    (ss_nil)))))))
    (ss_frz 1 (ss_cons (s_ret (t_var 1) rfl)
    (ss_nil))))
abbrev s__law_outcome : Stmt := topS 32
theorem sc__law_outcome : FnScope ["which", "value", "e"] ["which", "value"] (defScope s__law_outcome) := ⟨rfl, rfl, rfl, by decide +kernel, rfl, by decide +kernel, by decide +kernel⟩
set_option maxHeartbeats 400000 in
theorem ok__law_outcome {f : Addr} {fd : FuncData} (F : Fun K "_law_outcome" "_law_outcome" s__law_outcome f fd) (z : Zs mg) (d_check_bars : Df P w K mg base 4 "check_bars" 1 (rD K) F_check_bars) (d_parse_bars : Df P w K mg base 6 "parse_bars" 1 (rD K) F_parse_bars) (ze : Ze K mg) (gm : mg "_law_outcome" = some (.ref f)) : Df P w K mg base 7 "_law_outcome" 2 (rD K) F__law_outcome := by
  have bb : Binds K fd ["which", "value"] [] := F.binds fun _ _ _ _ _ _ us hl => (match us, hl with | [_, _], _ => rfl)
  refine ⟨f, fd, ["which", "value"], ?_, bb, gm, F.kp⟩
  suffices body : ∀ (cdv : Value) (A : Around) (outer : List PySem.Env) (s : Shared) (H : Hp) (E : XK) (A0 : List Addr), Room 6 (A.deeper (PyProof.Rows.envOfC "_law_outcome" (defScope s__law_outcome) s.heap.objs.size f cdv)) → A.guards = some [] →
      TSs (cxOf (L2.CX P w) P w K mg base ["which", "value", "e"] "_law_outcome" (defScope s__law_outcome) f cdv A outer s H E) ⟨fun cls d _ H => E cls d H, rD K, [], H, A0⟩ (defBody s__law_outcome) G__law_outcome by
    exact fn_rule (k := 6) (G := G__law_outcome) (N := ["which", "value", "e"]) (ps := ["which", "value"]) (rl := rD K) (fall := .ok .none) F sc__law_outcome (.inl ⟨rfl, rfl⟩) body
  intro cdv A outer s H E A0 hr hg
  have hN := sc__law_outcome.nd
  obtain ⟨C_BadLine, k_BadLine, m_BadLine, s_BadLine, i_BadLine⟩ := ze.x_BadLine
  obtain ⟨C_BadShape, k_BadShape, m_BadShape, s_BadShape, i_BadShape⟩ := ze.x_BadShape
  obtain ⟨C_BarError, k_BarError, m_BarError, s_BarError, i_BarError⟩ := ze.x_BarError
  have i_VE := ze.x_VE
  have hu := hr.un
  have u64 : (A.deeper (PyProof.Rows.envOfC "_law_outcome" (defScope s__law_outcome) s.heap.objs.size f cdv)).units + 64 < cLine := by omega
  have u65 : (A.deeper (PyProof.Rows.envOfC "_law_outcome" (defScope s__law_outcome) s.heap.objs.size f cdv)).units + 65 < cLine := by omega
  have u66 : (A.deeper (PyProof.Rows.envOfC "_law_outcome" (defScope s__law_outcome) s.heap.objs.size f cdv)).units + 66 < cLine := by omega
  have tk : Takes (cxOf (L2.CX P w) P w K mg base ["which", "value", "e"] "_law_outcome" (defScope s__law_outcome) f cdv A outer s H E) (fun cls d _ H => E cls d H) := takes_of rfl rfl rfl rfl
  have hp : PassesOwn (model P w) (cxOf (L2.CX P w) P w K mg base ["which", "value", "e"] "_law_outcome" (defScope s__law_outcome) f cdv A outer s H E).A (cxOf (L2.CX P w) P w K mg base ["which", "value", "e"] "_law_outcome" (defScope s__law_outcome) f cdv A outer s H E).env (cxOf (L2.CX P w) P w K mg base ["which", "value", "e"] "_law_outcome" (defScope s__law_outcome) f cdv A outer s H E).xe := passes_of (X := cxOf (L2.CX P w) P w K mg base ["which", "value", "e"] "_law_outcome" (defScope s__law_outcome) f cdv A outer s H E) rfl
  exact ss_cons (s_try 2 rfl hN tk i_BarError (fun c C b k h => exm_own k_BarError h) ⟨rfl, by decide, .inl m_BarError⟩ (fun _ pn xe tk hp => ss_cons (s_if (b_eq u64 (TD.o (t_var 0)) (TD.o (t_int))) (ss_cons (s_ret (t_callDX tk d_parse_bars hr hg (as_cons keeps_D (TD.v (t_var 1)) (as_nil)) (aC_len a0_len) back_D) rfl)
    (ss_nil)) (ss_nil))
    (ss_cons (s_expr (t_callDX tk d_check_bars hr hg (as_cons keeps_D (TD.v (t_var 1)) (as_nil)) (aC_len a0_len) back_D))
    (ss_cons (s_ret (TF.d (t_listc z.b_list (as_cons keeps_O (TO.v (TD.o (t_var 1))) (as_nil)))) rfl)
    (ss_nil))))
    (fun a pn => ss_cons (s_if (b_w (w_or (b_not (b_val (TD.o (t_isxV 2 i_VE z.b_isinstance z.b_ValueError)))) (w_or (b_ne u64 (TD.o (t_isx 2 i_BadLine k_BadLine s_BadLine z.b_isinstance m_BadLine)) (TD.o (t_eq u64 (TD.o (x_field true 2 i_VE)) (TD.o (t_str))))) (w_or1 (b_val (TD.o (t_isx 2 i_BadShape k_BadShape s_BadShape z.b_isinstance m_BadShape))))))) (ss_cons (s_ret (t_tup (as_cons keeps_D (TD.v (t_str)) (as_cons keeps_D (TD.v (t_none)) (as_nil)))) rfl)
    (ss_nil)) (ss_nil))
    (ss_cons (s_ret (t_tup (as_cons keeps_D (TD.v (x_field true 2 i_VE)) (as_cons keeps_D (TD.v (x_field false 2 i_VE)) (as_nil)))) rfl)
    (ss_nil))))
    (ss_nil)
abbrev s_law : Stmt := topS 33
theorem sc_law : FnScope ["script", "k", "bars", "lines", "given", "text", "due", "bar", "line"] ["script"] (defScope s_law) := ⟨rfl, rfl, rfl, by decide +kernel, rfl, by decide +kernel, by decide +kernel⟩
set_option maxHeartbeats 400000 in
theorem ok_law {f : Addr} {fd : FuncData} (F : Fun K "law" "law" s_law f fd) (z : Zs mg) (d__law_bar : Df P w K mg base 2 "_law_bar" 1 (rD K) F__law_bar) (d__law_cell : Df P w K mg base 1 "_law_cell" 2 (rD K) F__law_cell) (d__law_changed : Df P w K mg base 2 "_law_changed" 2 (rD K) F__law_changed) (d__law_outcome : Df P w K mg base 7 "_law_outcome" 2 (rD K) F__law_outcome) (d__law_read : Df P w K mg base 2 "_law_read" 1 (rD K) F__law_read) (d__law_words : Df P w K mg base 1 "_law_words" 1 (rF K) F__law_words) (d_format_bars : Df P w K mg base 2 "format_bars" 1 (rD K) F_format_bars) : FnG P w K mg base 8 f fd ["script"] (spD K mg (rD K) 1 F_law) := by
  suffices body : ∀ (cdv : Value) (A : Around) (outer : List PySem.Env) (s : Shared) (H : Hp) (E : XK) (A0 : List Addr), Room 7 (A.deeper (PyProof.Rows.envOfC "law" (defScope s_law) s.heap.objs.size f cdv)) → A.guards = some [] →
      TSs (cxOf (L2.CX P w) P w K mg base ["script", "k", "bars", "lines", "given", "text", "due", "bar", "line"] "law" (defScope s_law) f cdv A outer s H E) ⟨fun cls d _ H => E cls d H, rD K, [], H, A0⟩ (defBody s_law) G_law by
    exact fn_rule (k := 7) (G := G_law) (N := ["script", "k", "bars", "lines", "given", "text", "due", "bar", "line"]) (ps := ["script"]) (rl := rD K) (fall := .ok .none) F sc_law (.inl ⟨rfl, rfl⟩) body
  intro cdv A outer s H E A0 hr hg
  have hN := sc_law.nd
  have hu := hr.un
  have u64 : (A.deeper (PyProof.Rows.envOfC "law" (defScope s_law) s.heap.objs.size f cdv)).units + 64 < cLine := by omega
  have u65 : (A.deeper (PyProof.Rows.envOfC "law" (defScope s_law) s.heap.objs.size f cdv)).units + 65 < cLine := by omega
  have u66 : (A.deeper (PyProof.Rows.envOfC "law" (defScope s_law) s.heap.objs.size f cdv)).units + 66 < cLine := by omega
  have tk : Takes (cxOf (L2.CX P w) P w K mg base ["script", "k", "bars", "lines", "given", "text", "due", "bar", "line"] "law" (defScope s_law) f cdv A outer s H E) (fun cls d _ H => E cls d H) := takes_of rfl rfl rfl rfl
  have hp : PassesOwn (model P w) (cxOf (L2.CX P w) P w K mg base ["script", "k", "bars", "lines", "given", "text", "due", "bar", "line"] "law" (defScope s_law) f cdv A outer s H E).A (cxOf (L2.CX P w) P w K mg base ["script", "k", "bars", "lines", "given", "text", "due", "bar", "line"] "law" (defScope s_law) f cdv A outer s H E).env (cxOf (L2.CX P w) P w K mg base ["script", "k", "bars", "lines", "given", "text", "due", "bar", "line"] "law" (defScope s_law) f cdv A outer s H E).xe := passes_of (X := cxOf (L2.CX P w) P w K mg base ["script", "k", "bars", "lines", "given", "text", "due", "bar", "line"] "law" (defScope s_law) f cdv A outer s H E) rfl
  exact ss_cons (s_setLc 2 rfl hN (sw_true rfl rfl rfl (by decide +kernel)) (i_range1 (by rfl) z.b_range (as_cons keeps_O (TO.v (TD.o (t_op back_D op_mod o_mod (TD.o (t_intc z.b_int (as_cons keeps_O (TO.v (TD.o (t_callD d__law_cell hr hg (as_cons keeps_D (TD.v (t_var 0)) (as_cons keeps_D (TD.v (t_int)) (as_nil))) (aC_len (aC_len a0_len)) back_D))) (as_nil)))) (TD.o (t_int))))) (as_nil))) (blkOk_by (N := ["script", "k", "bars", "lines", "given", "text", "due", "bar", "line"]) (sc := defScope s_law) (own := [("k", 1)]) (by first | decide +kernel | rfl | with_unfolding_all rfl)) (fun _ _ _ _ _ => g_name 1 hN) (fun _ _ _ _ _ => cs_nil) (fun _ _ _ _ _ => t_callD d__law_bar hr hg (as_cons keeps_D (TD.v (t_op back_D op_addA o_add (TD.o (t_intc z.b_int (as_cons keeps_O (TO.v (TD.o (t_callD d__law_cell hr hg (as_cons keeps_D (TD.v (t_var 0)) (as_cons keeps_D (TD.v (t_op back_D op_addA o_add (TD.o (t_int)) (TD.o (t_op back_D op_mod o_mod (TD.o (t_intc z.b_int (as_cons keeps_O (TO.v (TD.o (t_var 1))) (as_nil)))) (TD.o (t_int)))))) (as_nil))) (aC_len (aC_len a0_len)) back_D))) (as_nil)))) (TD.o (t_op back_D op_mul o_mul (TD.o (t_int)) (TD.o (t_var 1)))))) (as_nil)) (aC_len a0_len) back_D))
    (ss_cons (s_setLc 3 rfl hN (sw_true rfl rfl rfl (by decide +kernel)) (i_any (t_var 2)) (blkOk_by (N := ["script", "k", "bars", "lines", "given", "text", "due", "bar", "line"]) (sc := defScope s_law) (own := [("bar", 7)]) (by first | decide +kernel | rfl | with_unfolding_all rfl)) (fun _ _ _ _ _ => g_name 7 hN) (fun _ _ _ _ _ => cs_nil) (fun _ _ _ _ _ => TF.d (t_callD d__law_words hr hg (as_cons keeps_D (TD.v (t_var 7)) (as_nil)) (aC_len a0_len) back_F)))
    (ss_cons (s_set 4 hN (TF.d (t_listc z.b_list (as_cons keeps_O (TO.v (TD.o (t_var 2))) (as_nil)))))
    (ss_cons (s_if (b_w (w_or (b_ne u64 (TD.o (t_callD d_format_bars hr hg (as_cons keeps_D (TD.v (t_var 4)) (as_nil)) (aC_len a0_len) back_D)) (TD.o (t_join (TD.o (t_str)) (TF.o (t_lc rfl hN (i_any (t_var 3)) (blkOk_by (N := ["script", "k", "bars", "lines", "given", "text", "due", "bar", "line"]) (sc := defScope s_law) (own := [("line", 8)]) (by first | decide +kernel | rfl | with_unfolding_all rfl)) (fun _ _ _ _ _ => g_name 8 hN) (fun _ _ _ _ _ => cs_nil) (fun _ _ _ _ _ => t_join (TD.o (t_str)) (TD.o (t_var 8)))))))) (w_or1 (b_ne u64 (TD.o (t_repr hg u66 z.b_repr (as_cons keeps_O (TO.v (TD.o (t_var 4))) (as_nil)))) (TD.o (t_repr hg u66 z.b_repr (as_cons keeps_O (TO.v (TD.o (t_var 2))) (as_nil)))))))) (ss_cons (s_ret (t_bool) rfl)
    (ss_nil)) (ss_nil))
    (ss_cons (s_for hp rfl (i_range1 (by rfl) z.b_range (as_cons keeps_O (TO.v (TD.o (t_op back_D op_mod o_mod (TD.o (t_intc z.b_int (as_cons keeps_O (TO.v (TD.o (t_callD d__law_cell hr hg (as_cons keeps_D (TD.v (t_var 0)) (as_cons keeps_D (TD.v (t_int)) (as_nil))) (aC_len (aC_len a0_len)) back_D))) (as_nil)))) (TD.o (t_int))))) (as_nil))) (g_name 1 hN) (ss_cons (s_if (b_gtA u64 (TD.o (t_len z.b_len (as_cons keeps_O (TO.v (TD.o (t_var 3))) (as_nil)))) (TD.o (t_int))) (ss_cons (s_set 3 hN (t_callD d__law_changed hr hg (as_cons keeps_D (TD.v (t_callD d__law_cell hr hg (as_cons keeps_D (TD.v (t_var 0)) (as_cons keeps_D (TD.v (t_op back_D op_addA o_add (TD.o (t_int)) (TD.o (t_var 1)))) (as_nil))) (aC_len (aC_len a0_len)) back_D)) (as_cons keeps_D (TD.v (t_var 3)) (as_nil))) (aC_len (aC_len a0_len)) back_D))
    (ss_nil)) (ss_nil))
    (ss_nil)))
    (ss_cons (s_set 5 hN (t_join (TD.o (t_str)) (TF.o (t_lc rfl hN (i_any (t_var 3)) (blkOk_by (N := ["script", "k", "bars", "lines", "given", "text", "due", "bar", "line"]) (sc := defScope s_law) (own := [("line", 8)]) (by first | decide +kernel | rfl | with_unfolding_all rfl)) (fun _ _ _ _ _ => g_name 8 hN) (fun _ _ _ _ _ => cs_nil) (fun _ _ _ _ _ => t_join (TD.o (t_str)) (TD.o (t_var 8)))))))
    (ss_cons (s_set 6 hN (TF.d (t_lst (as_nil))))
    (ss_cons (s_if (b_ne u64 (TD.o (t_var 5)) (TD.o (t_str))) (ss_cons (s_set 6 hN (t_callD d__law_read hr hg (as_cons keeps_D (TD.v (TF.d (t_lc rfl hN (i_any (TF.d (t_split (TD.o (t_var 5)) (TD.o (t_str))))) (blkOk_by (N := ["script", "k", "bars", "lines", "given", "text", "due", "bar", "line"]) (sc := defScope s_law) (own := [("line", 8)]) (by first | decide +kernel | rfl | with_unfolding_all rfl)) (fun _ _ _ _ _ => g_name 8 hN) (fun _ _ _ _ _ => cs_nil) (fun _ _ _ _ _ => TF.d (t_split (TD.o (t_var 8)) (TD.o (t_str))))))) (as_nil)) (aC_len a0_len) back_D))
    (ss_nil)) (ss_nil))
    (ss_cons (s_if (b_val (TD.o (t_isi (T := "int") z.b_isinstance z.b_int (by decide +kernel) (TD.o (t_var 6))))) (ss_cons (s_set 6 hN (t_tup (as_cons keeps_D (TD.v (t_str)) (as_cons keeps_D (TD.v (t_var 6)) (as_nil)))))
    (ss_nil)) (ss_cons (s_set 6 hN (t_callD d__law_outcome hr hg (as_cons keeps_D (TD.v (t_int)) (as_cons keeps_D (TD.v (t_var 6)) (as_nil))) (aC_len (aC_len a0_len)) back_D))
    (ss_nil)))
    (ss_cons (s_if (b_w (w_and (b_val (TD.o (t_isi (T := "list") z.b_isinstance z.b_list (by decide +kernel) (TD.o (t_var 6))))) (w_and1 (b_ne u64 (TD.o (t_join (TD.o (t_str)) (TF.o (t_lc rfl hN (i_any (t_var 6)) (blkOk_by (N := ["script", "k", "bars", "lines", "given", "text", "due", "bar", "line"]) (sc := defScope s_law) (own := [("bar", 7)]) (by first | decide +kernel | rfl | with_unfolding_all rfl)) (fun _ _ _ _ _ => g_name 7 hN) (fun _ _ _ _ _ => cs_nil) (fun _ _ _ _ _ => t_join (TD.o (t_str)) (TF.o (t_callD d__law_words hr hg (as_cons keeps_D (TD.v (t_var 7)) (as_nil)) (aC_len a0_len) back_F))))))) (TD.o (t_var 5)))))) (ss_cons (s_ret (t_bool) rfl)
    (ss_nil)) (ss_nil))
    (ss_cons (s_ret (t_and (t_eq u64 (TD.o (t_repr hg u66 z.b_repr (as_cons keeps_O (TO.v (TD.o (t_callD d__law_outcome hr hg (as_cons keeps_D (TD.v (t_int)) (as_cons keeps_D (TD.v (t_var 5)) (as_nil))) (aC_len (aC_len a0_len)) back_D))) (as_nil)))) (TD.o (t_repr hg u66 z.b_repr (as_cons keeps_O (TO.v (TD.o (t_var 6))) (as_nil))))) (t_one (t_eq u64 (TD.o (t_repr hg u66 z.b_repr (as_cons keeps_O (TO.v (TD.o (t_callD d__law_outcome hr hg (as_cons keeps_D (TD.v (t_int)) (as_cons keeps_D (TD.v (t_var 5)) (as_nil))) (aC_len (aC_len a0_len)) back_D))) (as_nil)))) (TD.o (t_repr hg u66 z.b_repr (as_cons keeps_O (TO.v (TD.o (t_var 6))) (as_nil))))))) rfl)
    (ss_nil)))))))))))
end
end Bd
namespace Bd
open PySem L2
open Sh (Bq bqD)

theorem e_cell : F__law_cell = Lw.F_cell := rfl
theorem e_row : F__law_row = Lw.F_row := rfl
/-! ### bars that are drawn -/
structure Gb (x : Bq) : Prop where
  d : 0 ≤ x.1 ∧ x.1 ≤ 2
  b : -1000 ≤ x.2.1 ∧ x.2.1 ≤ 1000
  e : ∀ z, x.2.2 = some z → x.2.1 < z ∧ z ≤ 1000
theorem minV_2 (a b : Int) : minV [.int a, .int b] = some (.int (if b < a then b else a)) := rfl
theorem bar_w (c : Int) {QD : D → Prop} (k : ∀ x : Bq, Gb x → QD (bqD x)) : Wn (F__law_bar [.int c]) QD := by
  refine wn_runD ?_
  show Sn (G__law_bar [.d (.int c), .no, .no, .no, .no]) _ _ _ _
  unfold G__law_bar
  obtain ⟨ys, yl, yb, ye⟩ := Lw.row_ok (c := c) (b := 2001) (n := 5) (by decide) (by decide)
  have ye : F__law_row [.int c, .int 5, .int 2001] = .ok (.list ys) := by rw [e_row]; exact ye
  simp only [wn_ok, wn_some, wn_only, wn_noex, wn_e2, wn_e1, wn_eN, wn_a0, wn_aC, wn_call, wn_tb, wn_tup, wn_lst, wn_andB, wn_orB, wn_notB, wn_andV, wn_orV, wn_notV, wn_ifV, wn_iA, wn_iR1, wn_iR2, wn_iZ, wn_iEn, wn_iRR, wn_sl, wn_p0, wn_p1, wn_up, wn_upB, wn_upI, wn_x2, wn_x0, wn_xC, wn_xN, wn_xb, wn_xAnd, wn_xOr, wn_xNot, wn_xIf, wn_xCall, wn_xR1, wn_xR2, sn_nx, sn_rt, sn_bk, sn_ct, sn_seq, sn_set, sn_ret, sn_expr, sn_if, sn_for, sn_xSet, sn_xRet, sn_xExpr, sn_xIf, sn_xFor, sn_asg, sn_xAsg, sn_own, sn_xOwn, gv_zero, gv_succ, go_own, go_dat, go_succ, k0_def, gN_def, tru_bool, tru_none, tru_int, tru_list, asSeq_list, asSeq_tup, addV_int, subV_int, ltA_i, leA_i, gtA_i, geA_i, negV_int, intV_int, lenV_list, lenV_tup, ixV_list, ixV_tup, asInt_int, slV_list, slV_tup, slL_list, revV_tup, revV_list, tupleV_list, listV_list, listV_tup, eqV_str, neV_str, eqV_int, List.set_cons_zero, List.set_cons_succ, List.getElem?_cons_zero, List.getElem?_cons_succ, List.length_cons, List.length_nil, ↓reduceIte, Bool.false_eq_true, Bool.not_true, Bool.not_false, wn_ite, gT2, gT3, neV_tup, eqV_tup, in_tup, notin_tup', lineN_eq, Nat.reduceAdd, Nat.reduceLeDiff, Nat.zero_le, true_and, and_true, List.map_nil, List.map_cons, exists_eq_left', Option.some.injEq, PyData.list.injEq, exists_eq_left, PyData.int.injEq, R.ok.injEq, Sl.own.injEq, ye]
  match ys, yl with
  | [y0, y1, y2, y3, y4], _ =>
    obtain ⟨i0, rfl, a0, b0⟩ := yb y0 (by simp)
    obtain ⟨i1, rfl, a1, b1⟩ := yb y1 (by simp)
    obtain ⟨i2, rfl, a2, b2⟩ := yb y2 (by simp)
    obtain ⟨i3, rfl, a3, b3⟩ := yb y3 (by simp)
    obtain ⟨i4, rfl, a4, b4⟩ := yb y4 (by simp)
    have m2 : ∀ z : Int, modV (.int z) (.int 2) = some (.int (z % 2)) := fun z => modV_int (by decide)
    have x0 : atD [PyData.int i0, .int i1, .int i2, .int i3, .int i4] 0 = some (.int i0) := rfl
    have x1 : atD [PyData.int i0, .int i1, .int i2, .int i3, .int i4] 1 = some (.int i1) := rfl
    have x2 : atD [PyData.int i0, .int i1, .int i2, .int i3, .int i4] 2 = some (.int i2) := rfl
    have x3 : atD [PyData.int i0, .int i1, .int i2, .int i3, .int i4] 3 = some (.int i3) := rfl
    have x4 : atD [PyData.int i0, .int i1, .int i2, .int i3, .int i4] 4 = some (.int i4) := rfl
    have key : ∀ wide low : Int, 0 < wide → wide ≤ 2001 → (wide = 4 ∧ low = 2 ∨ wide = 2001 ∧ low = 1000) → ixV (.list [.int 4, .int 2001]) (.int (i3 % 2)) = some (.int wide) → ixV (.list [.int 2, .int 1000]) (.int (i3 % 2)) = some (.int low) →
        Sn (G__law_bar [.d (.int c), .no, .no, .no, .no]) (fun _ => False) (fun d _ => QD d) (fun _ => False) (fun _ => False) := fun wide low h1 h2 h3 h4 h5 => by
      unfold G__law_bar
      have mw : ∀ z : Int, modV (.int z) (.int wide) = some (.int (z % wide)) := fun z => modV_int h1
      have m3 : ∀ z : Int, modV (.int z) (.int 3) = some (.int (z % 3)) := fun z => modV_int (by decide)
      have m4 : ∀ z : Int, modV (.int z) (.int 4) = some (.int (z % 4)) := fun z => modV_int (by decide)
      have p1 := Int.emod_nonneg i1 (show wide ≠ 0 by omega)
      have p2 := Int.emod_lt_of_pos i1 h1
      have p3 := Int.emod_nonneg i2 (show wide ≠ 0 by omega)
      have p4 := Int.emod_lt_of_pos i2 h1
      simp only [wn_ok, wn_some, wn_only, wn_noex, wn_e2, wn_e1, wn_eN, wn_a0, wn_aC, wn_call, wn_tb, wn_tup, wn_lst, wn_andB, wn_orB, wn_notB, wn_andV, wn_orV, wn_notV, wn_ifV, wn_iA, wn_iR1, wn_iR2, wn_iZ, wn_iEn, wn_iRR, wn_sl, wn_p0, wn_p1, wn_up, wn_upB, wn_upI, wn_x2, wn_x0, wn_xC, wn_xN, wn_xb, wn_xAnd, wn_xOr, wn_xNot, wn_xIf, wn_xCall, wn_xR1, wn_xR2, sn_nx, sn_rt, sn_bk, sn_ct, sn_seq, sn_set, sn_ret, sn_expr, sn_if, sn_for, sn_xSet, sn_xRet, sn_xExpr, sn_xIf, sn_xFor, sn_asg, sn_xAsg, sn_own, sn_xOwn, gv_zero, gv_succ, go_own, go_dat, go_succ, k0_def, gN_def, tru_bool, tru_none, tru_int, tru_list, asSeq_list, asSeq_tup, addV_int, subV_int, ltA_i, leA_i, gtA_i, geA_i, negV_int, intV_int, lenV_list, lenV_tup, ixV_list, ixV_tup, asInt_int, slV_list, slV_tup, slL_list, revV_tup, revV_list, tupleV_list, listV_list, listV_tup, eqV_str, neV_str, eqV_int, List.set_cons_zero, List.set_cons_succ, List.getElem?_cons_zero, List.getElem?_cons_succ, List.length_cons, List.length_nil, ↓reduceIte, Bool.false_eq_true, Bool.not_true, Bool.not_false, wn_ite, gT2, gT3, neV_tup, eqV_tup, in_tup, notin_tup', lineN_eq, Nat.reduceAdd, Nat.reduceLeDiff, Nat.zero_le, true_and, and_true, List.map_nil, List.map_cons, exists_eq_left', Option.some.injEq, PyData.list.injEq, exists_eq_left, PyData.int.injEq, R.ok.injEq, Sl.own.injEq, ye, x0, x1, x2, x3, x4, m2, h4, h5, mw, m3, m4, minV_2]
      generalize i1 % wide = b at p1 p2 ⊢
      generalize i2 % wide = e at p3 p4 ⊢
      by_cases q : b - low + 1 + e < 1000
      · rw [if_pos q]
        have q2 : (b - low + 1 + e == b - low) = false := by simp; omega
        rw [q2]
        simp only [wn_ok, wn_some, wn_only, wn_noex, wn_e2, wn_e1, wn_eN, wn_a0, wn_aC, wn_call, wn_tb, wn_tup, wn_lst, wn_andB, wn_orB, wn_notB, wn_andV, wn_orV, wn_notV, wn_ifV, wn_iA, wn_iR1, wn_iR2, wn_iZ, wn_iEn, wn_iRR, wn_sl, wn_p0, wn_p1, wn_up, wn_upB, wn_upI, wn_x2, wn_x0, wn_xC, wn_xN, wn_xb, wn_xAnd, wn_xOr, wn_xNot, wn_xIf, wn_xCall, wn_xR1, wn_xR2, sn_nx, sn_rt, sn_bk, sn_ct, sn_seq, sn_set, sn_ret, sn_expr, sn_if, sn_for, sn_xSet, sn_xRet, sn_xExpr, sn_xIf, sn_xFor, sn_asg, sn_xAsg, sn_own, sn_xOwn, gv_zero, gv_succ, go_own, go_dat, go_succ, k0_def, gN_def, tru_bool, tru_none, tru_int, tru_list, asSeq_list, asSeq_tup, addV_int, subV_int, ltA_i, leA_i, gtA_i, geA_i, negV_int, intV_int, lenV_list, lenV_tup, ixV_list, ixV_tup, asInt_int, slV_list, slV_tup, slL_list, revV_tup, revV_list, tupleV_list, listV_list, listV_tup, eqV_str, neV_str, eqV_int, List.set_cons_zero, List.set_cons_succ, List.getElem?_cons_zero, List.getElem?_cons_succ, List.length_cons, List.length_nil, ↓reduceIte, Bool.false_eq_true, Bool.not_true, Bool.not_false, wn_ite, gT2, gT3, neV_tup, eqV_tup, in_tup, notin_tup', lineN_eq, Nat.reduceAdd, Nat.reduceLeDiff, Nat.zero_le, true_and, and_true, List.map_nil, List.map_cons, exists_eq_left', Option.some.injEq, PyData.list.injEq, exists_eq_left, PyData.int.injEq, R.ok.injEq, Sl.own.injEq, x0, x4, m3, m4]
        split
        · exact k (i0 % 3, b - low, none) ⟨by dsimp only; omega, by dsimp only; omega, fun z hz => nomatch hz⟩
        · exact k (i0 % 3, b - low, some (b - low + 1 + e)) ⟨by dsimp only; omega, by dsimp only; omega, fun z hz => by cases hz; dsimp only; omega⟩
      · rw [if_neg q]
        by_cases q2 : (1000 : Int) = b - low
        · have q3 : ((1000 : Int) == b - low) = true := by simpa using q2
          rw [q3]
          simp only [wn_ok, wn_some, wn_only, wn_noex, wn_e2, wn_e1, wn_eN, wn_a0, wn_aC, wn_call, wn_tb, wn_tup, wn_lst, wn_andB, wn_orB, wn_notB, wn_andV, wn_orV, wn_notV, wn_ifV, wn_iA, wn_iR1, wn_iR2, wn_iZ, wn_iEn, wn_iRR, wn_sl, wn_p0, wn_p1, wn_up, wn_upB, wn_upI, wn_x2, wn_x0, wn_xC, wn_xN, wn_xb, wn_xAnd, wn_xOr, wn_xNot, wn_xIf, wn_xCall, wn_xR1, wn_xR2, sn_nx, sn_rt, sn_bk, sn_ct, sn_seq, sn_set, sn_ret, sn_expr, sn_if, sn_for, sn_xSet, sn_xRet, sn_xExpr, sn_xIf, sn_xFor, sn_asg, sn_xAsg, sn_own, sn_xOwn, gv_zero, gv_succ, go_own, go_dat, go_succ, k0_def, gN_def, tru_bool, tru_none, tru_int, tru_list, asSeq_list, asSeq_tup, addV_int, subV_int, ltA_i, leA_i, gtA_i, geA_i, negV_int, intV_int, lenV_list, lenV_tup, ixV_list, ixV_tup, asInt_int, slV_list, slV_tup, slL_list, revV_tup, revV_list, tupleV_list, listV_list, listV_tup, eqV_str, neV_str, eqV_int, List.set_cons_zero, List.set_cons_succ, List.getElem?_cons_zero, List.getElem?_cons_succ, List.length_cons, List.length_nil, ↓reduceIte, Bool.false_eq_true, Bool.not_true, Bool.not_false, wn_ite, gT2, gT3, neV_tup, eqV_tup, in_tup, notin_tup', lineN_eq, Nat.reduceAdd, Nat.reduceLeDiff, Nat.zero_le, true_and, and_true, List.map_nil, List.map_cons, exists_eq_left', Option.some.injEq, PyData.list.injEq, exists_eq_left, PyData.int.injEq, R.ok.injEq, Sl.own.injEq, x0, x4, m3, m4]
          exact k (i0 % 3, b - low, none) ⟨by dsimp only; omega, by dsimp only; omega, fun z hz => nomatch hz⟩
        · have q3 : ((1000 : Int) == b - low) = false := by simpa using q2
          rw [q3]
          simp only [wn_ok, wn_some, wn_only, wn_noex, wn_e2, wn_e1, wn_eN, wn_a0, wn_aC, wn_call, wn_tb, wn_tup, wn_lst, wn_andB, wn_orB, wn_notB, wn_andV, wn_orV, wn_notV, wn_ifV, wn_iA, wn_iR1, wn_iR2, wn_iZ, wn_iEn, wn_iRR, wn_sl, wn_p0, wn_p1, wn_up, wn_upB, wn_upI, wn_x2, wn_x0, wn_xC, wn_xN, wn_xb, wn_xAnd, wn_xOr, wn_xNot, wn_xIf, wn_xCall, wn_xR1, wn_xR2, sn_nx, sn_rt, sn_bk, sn_ct, sn_seq, sn_set, sn_ret, sn_expr, sn_if, sn_for, sn_xSet, sn_xRet, sn_xExpr, sn_xIf, sn_xFor, sn_asg, sn_xAsg, sn_own, sn_xOwn, gv_zero, gv_succ, go_own, go_dat, go_succ, k0_def, gN_def, tru_bool, tru_none, tru_int, tru_list, asSeq_list, asSeq_tup, addV_int, subV_int, ltA_i, leA_i, gtA_i, geA_i, negV_int, intV_int, lenV_list, lenV_tup, ixV_list, ixV_tup, asInt_int, slV_list, slV_tup, slL_list, revV_tup, revV_list, tupleV_list, listV_list, listV_tup, eqV_str, neV_str, eqV_int, List.set_cons_zero, List.set_cons_succ, List.getElem?_cons_zero, List.getElem?_cons_succ, List.length_cons, List.length_nil, ↓reduceIte, Bool.false_eq_true, Bool.not_true, Bool.not_false, wn_ite, gT2, gT3, neV_tup, eqV_tup, in_tup, notin_tup', lineN_eq, Nat.reduceAdd, Nat.reduceLeDiff, Nat.zero_le, true_and, and_true, List.map_nil, List.map_cons, exists_eq_left', Option.some.injEq, PyData.list.injEq, exists_eq_left, PyData.int.injEq, R.ok.injEq, Sl.own.injEq, x0, x4, m3, m4]
          split
          · exact k (i0 % 3, b - low, none) ⟨by dsimp only; omega, by dsimp only; omega, fun z hz => nomatch hz⟩
          · exact k (i0 % 3, b - low, some 1000) ⟨by dsimp only; omega, by dsimp only; omega, fun z hz => by cases hz; dsimp only; omega⟩
    have main : Sn (G__law_bar [.d (.int c), .no, .no, .no, .no]) (fun _ => False) (fun d _ => QD d) (fun _ => False) (fun _ => False) := by
      by_cases q : i3 % 2 = 0
      · exact key 4 2 (by decide) (by decide) (.inl ⟨rfl, rfl⟩) (by rw [q]; rfl) (by rw [q]; rfl)
      · have q : i3 % 2 = 1 := by omega
        exact key 2001 1000 (by decide) (by decide) (.inr ⟨rfl, rfl⟩) (by rw [q]; rfl) (by rw [q]; rfl)
    unfold G__law_bar at main
    revert main
    simp only [wn_ok, wn_some, wn_only, wn_noex, wn_e2, wn_e1, wn_eN, wn_a0, wn_aC, wn_call, wn_tb, wn_tup, wn_lst, wn_andB, wn_orB, wn_notB, wn_andV, wn_orV, wn_notV, wn_ifV, wn_iA, wn_iR1, wn_iR2, wn_iZ, wn_iEn, wn_iRR, wn_sl, wn_p0, wn_p1, wn_up, wn_upB, wn_upI, wn_x2, wn_x0, wn_xC, wn_xN, wn_xb, wn_xAnd, wn_xOr, wn_xNot, wn_xIf, wn_xCall, wn_xR1, wn_xR2, sn_nx, sn_rt, sn_bk, sn_ct, sn_seq, sn_set, sn_ret, sn_expr, sn_if, sn_for, sn_xSet, sn_xRet, sn_xExpr, sn_xIf, sn_xFor, sn_asg, sn_xAsg, sn_own, sn_xOwn, gv_zero, gv_succ, go_own, go_dat, go_succ, k0_def, gN_def, tru_bool, tru_none, tru_int, tru_list, asSeq_list, asSeq_tup, addV_int, subV_int, ltA_i, leA_i, gtA_i, geA_i, negV_int, intV_int, lenV_list, lenV_tup, ixV_list, ixV_tup, asInt_int, slV_list, slV_tup, slL_list, revV_tup, revV_list, tupleV_list, listV_list, listV_tup, eqV_str, neV_str, eqV_int, List.set_cons_zero, List.set_cons_succ, List.getElem?_cons_zero, List.getElem?_cons_succ, List.length_cons, List.length_nil, ↓reduceIte, Bool.false_eq_true, Bool.not_true, Bool.not_false, wn_ite, gT2, gT3, neV_tup, eqV_tup, in_tup, notin_tup', lineN_eq, Nat.reduceAdd, Nat.reduceLeDiff, Nat.zero_le, true_and, and_true, List.map_nil, List.map_cons, exists_eq_left', Option.some.injEq, PyData.list.injEq, exists_eq_left, PyData.int.injEq, R.ok.injEq, Sl.own.injEq, ye]
    exact id

/-! ### what a bar is, by both sides -/
theorem e_whole : F_is_whole = Ch.F_is_whole := rfl
theorem chain_le2 {a b c : Int} {Fa Fb Fc : Nv → R D} {η : Nv} (e1 : Fa η = .ok (.int a)) (e2 : Fb η = .ok (.int b)) (e3 : Fc η = .ok (.int c)) : chainV leA leA Fa Fb Fc η = .ok (.bool (decide (a ≤ b) && decide (b ≤ c))) := by
  rw [chainV_def, e1, R.ok_bind, e2, R.ok_bind, leA_i, of_some, R.ok_bind, tru_bool, R.ok_bind]
  cases decide (a ≤ b) with
  | false => rfl
  | true =>
    simp only [↓reduceIte]
    rw [e3, R.ok_bind, leA_i, of_some]
    rfl
def hgtB : D → Bool
  | .int z => decide (-1000 ≤ z) && decide (z ≤ 1000)
  | _ => false
def dimB : D → Bool
  | .int z => decide (0 ≤ z) && decide (z ≤ 2)
  | _ => false
def endB (b : D) : D → Bool
  | .none => true
  | .int z => hgtB (.int z) && (match b with | .int y => decide (y < z) | _ => false)
  | _ => false
def isBarB : D → Bool
  | .tuple [d, b, e] => dimB d && (hgtB b && endB b e)
  | _ => false
theorem pheight_ok (d : D) : F_is_height [d] = .ok (.bool (hgtB d)) := by
  refine Wn.eq (wn_runD ?_)
  show Sn (G_is_height [.d d]) _ _ _ _
  unfold G_is_height
  rw [e_whole]
  simp only [wn_ok, wn_some, wn_only, wn_noex, wn_e2, wn_e1, wn_eN, wn_a0, wn_aC, wn_call, wn_tb, wn_tup, wn_lst, wn_andB, wn_orB, wn_notB, wn_andV, wn_orV, wn_notV, wn_ifV, wn_iA, wn_iR1, wn_iR2, wn_iZ, wn_iEn, wn_iRR, wn_sl, wn_p0, wn_p1, wn_up, wn_upB, wn_upI, wn_x2, wn_x0, wn_xC, wn_xN, wn_xb, wn_xAnd, wn_xOr, wn_xNot, wn_xIf, wn_xCall, wn_xR1, wn_xR2, sn_nx, sn_rt, sn_bk, sn_ct, sn_seq, sn_set, sn_ret, sn_expr, sn_if, sn_for, sn_xSet, sn_xRet, sn_xExpr, sn_xIf, sn_xFor, sn_asg, sn_xAsg, sn_own, sn_xOwn, gv_zero, gv_succ, go_own, go_dat, go_succ, k0_def, gN_def, tru_bool, tru_none, tru_int, tru_list, asSeq_list, asSeq_tup, addV_int, subV_int, ltA_i, leA_i, gtA_i, geA_i, negV_int, intV_int, lenV_list, lenV_tup, ixV_list, ixV_tup, asInt_int, slV_list, slV_tup, slL_list, revV_tup, revV_list, tupleV_list, listV_list, listV_tup, eqV_str, neV_str, eqV_int, List.set_cons_zero, List.set_cons_succ, List.getElem?_cons_zero, List.getElem?_cons_succ, List.length_cons, List.length_nil, ↓reduceIte, Bool.false_eq_true, Bool.not_true, Bool.not_false, wn_ite, gT2, gT3, neV_tup, eqV_tup, in_tup, notin_tup', lineN_eq, Nat.reduceAdd, Nat.reduceLeDiff, Nat.zero_le, true_and, and_true, List.map_nil, List.map_cons, exists_eq_left', Option.some.injEq, PyData.list.injEq, exists_eq_left, PyData.int.injEq, R.ok.injEq, Sl.own.injEq, Ch.whole_ok]
  cases d with
  | int z =>
    simp only [kInt, kBool, Bool.not_false, Bool.and_self, ↓reduceIte]
    exact Wn.mk (chain_le2 (a := -1000) (b := z) (c := 1000) rfl rfl rfl) rfl
  | _ => rfl
theorem isn (d : D) : isV d .none = some (.bool (isNone d)) := by cases d <;> rfl
theorem isBarB_no {l : List D} (h : l.length ≠ 3) : isBarB (.tuple l) = false := by
  match l, h with
  | [], _ => rfl
  | [_], _ => rfl
  | [_, _], _ => rfl
  | [_, _, _], h => exact absurd rfl h
  | _ :: _ :: _ :: _ :: _, _ => rfl
theorem three {l : List D} (h : l.length = 3) : ∃ a b c, l = [a, b, c] := by
  match l, h with
  | [a, b, c], _ => exact ⟨a, b, c, rfl⟩
def wholB : D → Bool
  | .int _ => true
  | _ => false
theorem wholB_eq (d : D) : (kInt d && !kBool d) = wholB d := by cases d <;> rfl
theorem pbar_ok (v : D) (hz : ∀ l, v = .tuple l → l.length ≤ 1000) : F_is_bar [v] = .ok (.bool (isBarB v)) := by
  refine Wn.eq (wn_runD ?_)
  show Sn (G_is_bar [.d v, .no, .no, .no]) _ _ _ _
  unfold G_is_bar
  rw [e_whole]
  simp only [wn_ok, wn_some, wn_only, wn_noex, wn_e2, wn_e1, wn_eN, wn_a0, wn_aC, wn_call, wn_tb, wn_tup, wn_lst, wn_andB, wn_orB, wn_notB, wn_andV, wn_orV, wn_notV, wn_ifV, wn_iA, wn_iR1, wn_iR2, wn_iZ, wn_iEn, wn_iRR, wn_sl, wn_p0, wn_p1, wn_up, wn_upB, wn_upI, wn_x2, wn_x0, wn_xC, wn_xN, wn_xb, wn_xAnd, wn_xOr, wn_xNot, wn_xIf, wn_xCall, wn_xR1, wn_xR2, sn_nx, sn_rt, sn_bk, sn_ct, sn_seq, sn_set, sn_ret, sn_expr, sn_if, sn_for, sn_xSet, sn_xRet, sn_xExpr, sn_xIf, sn_xFor, sn_asg, sn_xAsg, sn_own, sn_xOwn, gv_zero, gv_succ, go_own, go_dat, go_succ, k0_def, gN_def, tru_bool, tru_none, tru_int, tru_list, asSeq_list, asSeq_tup, addV_int, subV_int, ltA_i, leA_i, gtA_i, geA_i, negV_int, intV_int, lenV_list, lenV_tup, ixV_list, ixV_tup, asInt_int, slV_list, slV_tup, slL_list, revV_tup, revV_list, tupleV_list, listV_list, listV_tup, eqV_str, neV_str, eqV_int, List.set_cons_zero, List.set_cons_succ, List.getElem?_cons_zero, List.getElem?_cons_succ, List.length_cons, List.length_nil, ↓reduceIte, Bool.false_eq_true, Bool.not_true, Bool.not_false, wn_ite, gT2, gT3, neV_tup, eqV_tup, in_tup, notin_tup', lineN_eq, Nat.reduceAdd, Nat.reduceLeDiff, Nat.zero_le, true_and, and_true, List.map_nil, List.map_cons, exists_eq_left', Option.some.injEq, PyData.list.injEq, exists_eq_left, PyData.int.injEq, R.ok.injEq, Sl.own.injEq, isi_tuple]
  cases v with
  | tuple l =>
    replace hz := hz l rfl
    simp only [kTup, Bool.not_true, Bool.false_eq_true, ↓reduceIte]
    simp only [wn_ok, wn_some, wn_only, wn_noex, wn_e2, wn_e1, wn_eN, wn_a0, wn_aC, wn_call, wn_tb, wn_tup, wn_lst, wn_andB, wn_orB, wn_notB, wn_andV, wn_orV, wn_notV, wn_ifV, wn_iA, wn_iR1, wn_iR2, wn_iZ, wn_iEn, wn_iRR, wn_sl, wn_p0, wn_p1, wn_up, wn_upB, wn_upI, wn_x2, wn_x0, wn_xC, wn_xN, wn_xb, wn_xAnd, wn_xOr, wn_xNot, wn_xIf, wn_xCall, wn_xR1, wn_xR2, sn_nx, sn_rt, sn_bk, sn_ct, sn_seq, sn_set, sn_ret, sn_expr, sn_if, sn_for, sn_xSet, sn_xRet, sn_xExpr, sn_xIf, sn_xFor, sn_asg, sn_xAsg, sn_own, sn_xOwn, gv_zero, gv_succ, go_own, go_dat, go_succ, k0_def, gN_def, tru_bool, tru_none, tru_int, tru_list, asSeq_list, asSeq_tup, addV_int, subV_int, ltA_i, leA_i, gtA_i, geA_i, negV_int, intV_int, lenV_list, lenV_tup, ixV_list, ixV_tup, asInt_int, slV_list, slV_tup, slL_list, revV_tup, revV_list, tupleV_list, listV_list, listV_tup, eqV_str, neV_str, eqV_int, List.set_cons_zero, List.set_cons_succ, List.getElem?_cons_zero, List.getElem?_cons_succ, List.length_cons, List.length_nil, ↓reduceIte, Bool.false_eq_true, Bool.not_true, Bool.not_false, wn_ite, gT2, gT3, neV_tup, eqV_tup, in_tup, notin_tup', lineN_eq, Nat.reduceAdd, Nat.reduceLeDiff, Nat.zero_le, true_and, and_true, List.map_nil, List.map_cons, exists_eq_left', Option.some.injEq, PyData.list.injEq, exists_eq_left, PyData.int.injEq, R.ok.injEq, Sl.own.injEq, neV_int]
    by_cases h3 : l.length = 3
    · obtain ⟨d, b, e, rfl⟩ := three h3
      simp only [List.length_cons, List.length_nil, Int.cast_ofNat_Int, beq_self_eq_true, Bool.not_true, Bool.false_eq_true, ↓reduceIte, Nat.zero_add, Nat.reduceAdd]
      refine ⟨[.d (.tuple [d, b, e]), .d d, .d b, .d e], rfl, ?_⟩
      simp only [wn_ok, wn_some, wn_only, wn_noex, wn_e2, wn_e1, wn_eN, wn_a0, wn_aC, wn_call, wn_tb, wn_tup, wn_lst, wn_andB, wn_orB, wn_notB, wn_andV, wn_orV, wn_notV, wn_ifV, wn_iA, wn_iR1, wn_iR2, wn_iZ, wn_iEn, wn_iRR, wn_sl, wn_p0, wn_p1, wn_up, wn_upB, wn_upI, wn_x2, wn_x0, wn_xC, wn_xN, wn_xb, wn_xAnd, wn_xOr, wn_xNot, wn_xIf, wn_xCall, wn_xR1, wn_xR2, sn_nx, sn_rt, sn_bk, sn_ct, sn_seq, sn_set, sn_ret, sn_expr, sn_if, sn_for, sn_xSet, sn_xRet, sn_xExpr, sn_xIf, sn_xFor, sn_asg, sn_xAsg, sn_own, sn_xOwn, gv_zero, gv_succ, go_own, go_dat, go_succ, k0_def, gN_def, tru_bool, tru_none, tru_int, tru_list, asSeq_list, asSeq_tup, addV_int, subV_int, ltA_i, leA_i, gtA_i, geA_i, negV_int, intV_int, lenV_list, lenV_tup, ixV_list, ixV_tup, asInt_int, slV_list, slV_tup, slL_list, revV_tup, revV_list, tupleV_list, listV_list, listV_tup, eqV_str, neV_str, eqV_int, List.set_cons_zero, List.set_cons_succ, List.getElem?_cons_zero, List.getElem?_cons_succ, List.length_cons, List.length_nil, ↓reduceIte, Bool.false_eq_true, Bool.not_true, Bool.not_false, wn_ite, gT2, gT3, neV_tup, eqV_tup, in_tup, notin_tup', lineN_eq, Nat.reduceAdd, Nat.reduceLeDiff, Nat.zero_le, true_and, and_true, List.map_nil, List.map_cons, exists_eq_left', Option.some.injEq, PyData.list.injEq, exists_eq_left, PyData.int.injEq, R.ok.injEq, Sl.own.injEq, Ch.whole_ok, wholB_eq, pheight_ok, isn]
      have e4 : isBarB (.tuple [d, b, e]) = (dimB d && (hgtB b && endB b e)) := rfl
      rw [e4]
      clear e4 hz h3
      cases d with
      | int z =>
        simp only [wholB, Bool.not_true, Bool.false_eq_true, ↓reduceIte, dimB]
        refine Wn.mk (chain_le2 (a := 0) (b := z) (c := 2) rfl rfl rfl) ?_
        simp only [wn_ok, wn_some, wn_only, wn_noex, wn_e2, wn_e1, wn_eN, wn_a0, wn_aC, wn_call, wn_tb, wn_tup, wn_lst, wn_andB, wn_orB, wn_notB, wn_andV, wn_orV, wn_notV, wn_ifV, wn_iA, wn_iR1, wn_iR2, wn_iZ, wn_iEn, wn_iRR, wn_sl, wn_p0, wn_p1, wn_up, wn_upB, wn_upI, wn_x2, wn_x0, wn_xC, wn_xN, wn_xb, wn_xAnd, wn_xOr, wn_xNot, wn_xIf, wn_xCall, wn_xR1, wn_xR2, sn_nx, sn_rt, sn_bk, sn_ct, sn_seq, sn_set, sn_ret, sn_expr, sn_if, sn_for, sn_xSet, sn_xRet, sn_xExpr, sn_xIf, sn_xFor, sn_asg, sn_xAsg, sn_own, sn_xOwn, gv_zero, gv_succ, go_own, go_dat, go_succ, k0_def, gN_def, tru_bool, tru_none, tru_int, tru_list, asSeq_list, asSeq_tup, addV_int, subV_int, ltA_i, leA_i, gtA_i, geA_i, negV_int, intV_int, lenV_list, lenV_tup, ixV_list, ixV_tup, asInt_int, slV_list, slV_tup, slL_list, revV_tup, revV_list, tupleV_list, listV_list, listV_tup, eqV_str, neV_str, eqV_int, List.set_cons_zero, List.set_cons_succ, List.getElem?_cons_zero, List.getElem?_cons_succ, List.length_cons, List.length_nil, ↓reduceIte, Bool.false_eq_true, Bool.not_true, Bool.not_false, wn_ite, gT2, gT3, neV_tup, eqV_tup, in_tup, notin_tup', lineN_eq, Nat.reduceAdd, Nat.reduceLeDiff, Nat.zero_le, true_and, and_true, List.map_nil, List.map_cons, exists_eq_left', Option.some.injEq, PyData.list.injEq, exists_eq_left, PyData.int.injEq, R.ok.injEq, Sl.own.injEq, pheight_ok, isn]
        cases (decide (0 ≤ z) && decide (z ≤ 2)) with
        | false => simp
        | true =>
          simp only [Bool.not_true, Bool.false_eq_true, ↓reduceIte, Bool.true_and]
          cases hb : hgtB b with
          | false => simp
          | true =>
            simp only [Bool.not_true, Bool.false_eq_true, ↓reduceIte, Bool.true_and]
            cases b with
            | int y =>
              cases e with
              | int z =>
                simp only [isNone, Bool.false_eq_true, ↓reduceIte, endB]
                simp only [wn_ok, wn_some, wn_only, wn_noex, wn_e2, wn_e1, wn_eN, wn_a0, wn_aC, wn_call, wn_tb, wn_tup, wn_lst, wn_andB, wn_orB, wn_notB, wn_andV, wn_orV, wn_notV, wn_ifV, wn_iA, wn_iR1, wn_iR2, wn_iZ, wn_iEn, wn_iRR, wn_sl, wn_p0, wn_p1, wn_up, wn_upB, wn_upI, wn_x2, wn_x0, wn_xC, wn_xN, wn_xb, wn_xAnd, wn_xOr, wn_xNot, wn_xIf, wn_xCall, wn_xR1, wn_xR2, sn_nx, sn_rt, sn_bk, sn_ct, sn_seq, sn_set, sn_ret, sn_expr, sn_if, sn_for, sn_xSet, sn_xRet, sn_xExpr, sn_xIf, sn_xFor, sn_asg, sn_xAsg, sn_own, sn_xOwn, gv_zero, gv_succ, go_own, go_dat, go_succ, k0_def, gN_def, tru_bool, tru_none, tru_int, tru_list, asSeq_list, asSeq_tup, addV_int, subV_int, ltA_i, leA_i, gtA_i, geA_i, negV_int, intV_int, lenV_list, lenV_tup, ixV_list, ixV_tup, asInt_int, slV_list, slV_tup, slL_list, revV_tup, revV_list, tupleV_list, listV_list, listV_tup, eqV_str, neV_str, eqV_int, List.set_cons_zero, List.set_cons_succ, List.getElem?_cons_zero, List.getElem?_cons_succ, List.length_cons, List.length_nil, ↓reduceIte, Bool.false_eq_true, Bool.not_true, Bool.not_false, wn_ite, gT2, gT3, neV_tup, eqV_tup, in_tup, notin_tup', lineN_eq, Nat.reduceAdd, Nat.reduceLeDiff, Nat.zero_le, true_and, and_true, List.map_nil, List.map_cons, exists_eq_left', Option.some.injEq, PyData.list.injEq, exists_eq_left, PyData.int.injEq, R.ok.injEq, Sl.own.injEq]
                cases hgtB (.int z) <;> simp
              | none => simp [isNone, endB]
              | _ => simp [isNone, endB, hgtB]
            | _ => exact absurd hb Bool.false_ne_true
      | _ => simp [wholB, dimB]
    · have e3 : (((l.length : Nat) : Int) == 3) = false := by simp; omega
      rw [e3, isBarB_no h3]
      simp
  | _ => simp [kTup, isBarB]

/-! ### check_bars -/
def badI : Nat → List D → Option Nat
  | _, [] => none
  | i, d :: ds => if isBarB d = true then badI (i + 1) ds else some i
def outB : Option Nat → R D
  | none => .ok .none
  | some k => .ex "BadBar" "BadBar" (.int (k : Nat))
/-- values as they stand in the lists here -/
def Val (v : D) : Prop := ∀ l, v = .tuple l → l.length ≤ 1000
theorem small_log {k : Nat} (h : k < 2 ^ 40) : ((k : Nat) : Int).natAbs.log2 < 64 := by
  rw [Int.natAbs_natCast]
  have := log2_small (n := k) (k := 40) h (by decide)
  omega
theorem pcheck_ok {ds : List D} (hv : ∀ d ∈ ds, Val d) (hl : ds.length ≤ 1000) : F_check_bars [.list ds] = outB (badI 0 ds) := by
  refine rx_runD (P := fun r => r = outB (badI 0 ds)) ?_
  show Sx (G_check_bars [.d (.list ds), .no, .no]) _ _ _ _ _
  unfold G_check_bars
  refine sx_seq (sx_for ?_)
  simp only [wn_ok, wn_some, wn_only, wn_noex, wn_e2, wn_e1, wn_eN, wn_a0, wn_aC, wn_call, wn_tb, wn_tup, wn_lst, wn_andB, wn_orB, wn_notB, wn_andV, wn_orV, wn_notV, wn_ifV, wn_iA, wn_iR1, wn_iR2, wn_iZ, wn_iEn, wn_iRR, wn_sl, wn_p0, wn_p1, wn_up, wn_upB, wn_upI, wn_x2, wn_x0, wn_xC, wn_xN, wn_xb, wn_xAnd, wn_xOr, wn_xNot, wn_xIf, wn_xCall, wn_xR1, wn_xR2, sn_nx, sn_rt, sn_bk, sn_ct, sn_seq, sn_set, sn_ret, sn_expr, sn_if, sn_for, sn_xSet, sn_xRet, sn_xExpr, sn_xIf, sn_xFor, sn_asg, sn_xAsg, sn_own, sn_xOwn, gv_zero, gv_succ, go_own, go_dat, go_succ, k0_def, gN_def, tru_bool, tru_none, tru_int, tru_list, asSeq_list, asSeq_tup, addV_int, subV_int, ltA_i, leA_i, gtA_i, geA_i, negV_int, intV_int, lenV_list, lenV_tup, ixV_list, ixV_tup, asInt_int, slV_list, slV_tup, slL_list, revV_tup, revV_list, tupleV_list, listV_list, listV_tup, eqV_str, neV_str, eqV_int, List.set_cons_zero, List.set_cons_succ, List.getElem?_cons_zero, List.getElem?_cons_succ, List.length_cons, List.length_nil, ↓reduceIte, Bool.false_eq_true, Bool.not_true, Bool.not_false, wn_ite, gT2, gT3, neV_tup, eqV_tup, in_tup, notin_tup', lineN_eq, Nat.reduceAdd, Nat.reduceLeDiff, Nat.zero_le, true_and, and_true, List.map_nil, List.map_cons, exists_eq_left', Option.some.injEq, PyData.list.injEq, exists_eq_left, PyData.int.injEq, R.ok.injEq, Sl.own.injEq]
  refine Wn.mk (a := enumD 0 ds) rfl ?_
  refine sx_loop (fun xs η => ∃ (k : Nat) (rest : List D) (s1 s2 : Sl), η = [.d (.list ds), s1, s2] ∧ xs = enumD k rest ∧ (∀ d ∈ rest, Val d) ∧ k + rest.length ≤ 1000 ∧ badI k rest = badI 0 ds) ?_ ?_ _ _ ⟨0, ds, .no, .no, rfl, rfl, hv, by omega, rfl⟩
  · rintro x xs η ⟨k, rest, s1, s2, rfl, e, hr, hk, hb⟩
    match rest, e with
    | d :: rest, e =>
      cases e
      rw [List.length_cons] at hk
      refine ⟨[.d (.list ds), .d (.int (k : Nat)), .d d], rfl, ?_⟩
      refine sx_seq (sx_if ?_)
      simp only [wn_ok, wn_some, wn_only, wn_noex, wn_e2, wn_e1, wn_eN, wn_a0, wn_aC, wn_call, wn_tb, wn_tup, wn_lst, wn_andB, wn_orB, wn_notB, wn_andV, wn_orV, wn_notV, wn_ifV, wn_iA, wn_iR1, wn_iR2, wn_iZ, wn_iEn, wn_iRR, wn_sl, wn_p0, wn_p1, wn_up, wn_upB, wn_upI, wn_x2, wn_x0, wn_xC, wn_xN, wn_xb, wn_xAnd, wn_xOr, wn_xNot, wn_xIf, wn_xCall, wn_xR1, wn_xR2, sn_nx, sn_rt, sn_bk, sn_ct, sn_seq, sn_set, sn_ret, sn_expr, sn_if, sn_for, sn_xSet, sn_xRet, sn_xExpr, sn_xIf, sn_xFor, sn_asg, sn_xAsg, sn_own, sn_xOwn, gv_zero, gv_succ, go_own, go_dat, go_succ, k0_def, gN_def, tru_bool, tru_none, tru_int, tru_list, asSeq_list, asSeq_tup, addV_int, subV_int, ltA_i, leA_i, gtA_i, geA_i, negV_int, intV_int, lenV_list, lenV_tup, ixV_list, ixV_tup, asInt_int, slV_list, slV_tup, slL_list, revV_tup, revV_list, tupleV_list, listV_list, listV_tup, eqV_str, neV_str, eqV_int, List.set_cons_zero, List.set_cons_succ, List.getElem?_cons_zero, List.getElem?_cons_succ, List.length_cons, List.length_nil, ↓reduceIte, Bool.false_eq_true, Bool.not_true, Bool.not_false, wn_ite, gT2, gT3, neV_tup, eqV_tup, in_tup, notin_tup', lineN_eq, Nat.reduceAdd, Nat.reduceLeDiff, Nat.zero_le, true_and, and_true, List.map_nil, List.map_cons, exists_eq_left', Option.some.injEq, PyData.list.injEq, exists_eq_left, PyData.int.injEq, R.ok.injEq, Sl.own.injEq, pbar_ok d (hr d List.mem_cons_self)]
      have hb : (if isBarB d = true then badI (k + 1) rest else some k) = badI 0 ds := hb
      cases h : isBarB d with
      | true =>
        rw [h, if_pos rfl] at hb
        simp only [Bool.not_true, Bool.false_eq_true, ↓reduceIte]
        exact sx_nx.mpr (sx_nx.mpr ⟨k + 1, rest, _, _, rfl, rfl, fun y m => hr y (List.mem_cons_of_mem _ m), by omega, hb⟩)
      | false =>
        rw [h, if_neg Bool.false_ne_true] at hb
        simp only [Bool.not_false, ↓reduceIte]
        refine sx_seq (sx_raise ?_)
        simp only [wn_ok, wn_some, wn_only, wn_noex, wn_e2, wn_e1, wn_eN, wn_a0, wn_aC, wn_call, wn_tb, wn_tup, wn_lst, wn_andB, wn_orB, wn_notB, wn_andV, wn_orV, wn_notV, wn_ifV, wn_iA, wn_iR1, wn_iR2, wn_iZ, wn_iEn, wn_iRR, wn_sl, wn_p0, wn_p1, wn_up, wn_upB, wn_upI, wn_x2, wn_x0, wn_xC, wn_xN, wn_xb, wn_xAnd, wn_xOr, wn_xNot, wn_xIf, wn_xCall, wn_xR1, wn_xR2, sn_nx, sn_rt, sn_bk, sn_ct, sn_seq, sn_set, sn_ret, sn_expr, sn_if, sn_for, sn_xSet, sn_xRet, sn_xExpr, sn_xIf, sn_xFor, sn_asg, sn_xAsg, sn_own, sn_xOwn, gv_zero, gv_succ, go_own, go_dat, go_succ, k0_def, gN_def, tru_bool, tru_none, tru_int, tru_list, asSeq_list, asSeq_tup, addV_int, subV_int, ltA_i, leA_i, gtA_i, geA_i, negV_int, intV_int, lenV_list, lenV_tup, ixV_list, ixV_tup, asInt_int, slV_list, slV_tup, slL_list, revV_tup, revV_list, tupleV_list, listV_list, listV_tup, eqV_str, neV_str, eqV_int, List.set_cons_zero, List.set_cons_succ, List.getElem?_cons_zero, List.getElem?_cons_succ, List.length_cons, List.length_nil, ↓reduceIte, Bool.false_eq_true, Bool.not_true, Bool.not_false, wn_ite, gT2, gT3, neV_tup, eqV_tup, in_tup, notin_tup', lineN_eq, Nat.reduceAdd, Nat.reduceLeDiff, Nat.zero_le, true_and, and_true, List.map_nil, List.map_cons, exists_eq_left', Option.some.injEq, PyData.list.injEq, exists_eq_left, PyData.int.injEq, R.ok.injEq, Sl.own.injEq]
        refine ⟨?_, by rw [← hb]; rfl⟩
        exact decide_eq_true (small_log (by omega))
  · rintro η ⟨k, rest, s1, s2, rfl, e, hr, hk, hb⟩
    match rest, e with
    | [], _ =>
      refine sx_nx.mpr ?_
      rw [← hb]
      rfl

/-! ### texts -/
theorem e_wbl : F__words_by_line = Tx.F__words_by_line := rfl
theorem e_num : F__law_number = Tx.F__law_number := rfl
theorem e_nof : F__number_of = Tx.F__number_of := rfl
theorem e_wo : F__law_word_of = Tx.F__law_word_of := rfl
theorem e_chg : F__law_changed = Tx.F__law_changed F__law_word_of := rfl
open Tx
open TL (tl len_tl ext_tl)
theorem dv_lt : ∀ (l : List Nat) (acc : Nat), NumText.AllDigits l → l.foldl (fun a c => a * 10 + (c - 48)) acc < (acc + 1) * 10 ^ l.length
  | [], acc, _ => by simp
  | c :: l, acc, h => by
    rw [List.foldl_cons, List.length_cons]
    have hc := h c List.mem_cons_self
    refine Nat.lt_of_lt_of_le (dv_lt l _ fun x m => h x (List.mem_cons_of_mem _ m)) ?_
    rw [Nat.pow_succ, Nat.mul_comm (10 ^ l.length) 10, ← Nat.mul_assoc]
    exact Nat.mul_le_mul_right _ (by omega)
def Sm (i : Int) : Prop := -1000000 < i ∧ i < 1000000
theorem val_sm {w : Str} (h : numB (tl w) = true) : Sm (valB (tl w)) := by
  obtain ⟨h1, h2, h3⟩ := numB_facts h
  have lt : NumText.digitsVal (digs (tl w)) < 1000000 := by
    have := dv_lt (digs (tl w)) 0 h3
    have e : NumText.digitsVal (digs (tl w)) = (digs (tl w)).foldl (fun a c => a * 10 + (c - 48)) 0 := rfl
    rw [e]
    refine Nat.lt_of_lt_of_le this ?_
    rw [Nat.zero_add, Nat.one_mul]
    exact Nat.pow_le_pow_right (by decide) h2
  rw [val_neg]
  unfold Sm
  split <;> omega
def endW : Option Int → Str
  | none => "-"
  | some e => numI e
/-- the words of a bar -/
def wordsB (x : Bq) : List Str := [numI x.1, numI x.2.1, endW x.2.2]
structure Sb (x : Bq) : Prop where
  d : Sm x.1
  b : Sm x.2.1
  e : ∀ z, x.2.2 = some z → Sm z
theorem Gb.sb {x : Bq} (h : Gb x) : Sb x := ⟨by have := h.d; unfold Sm; omega, by have := h.b; unfold Sm; omega, fun z hz => by have := h.e z hz; have := h.b; unfold Sm; omega⟩
theorem words_ok {x : Bq} (h : Sb x) : F__law_words [bqD x] = .ok (lineD (wordsB x)) := by
  refine Wn.eq (wn_runD ?_)
  show Sn (G__law_words [.d (bqD x), .no]) _ _ _ _
  unfold G__law_words
  obtain ⟨d, b, o⟩ := x
  have x0 : ixV (bqD (d, b, o)) (.int 0) = some (.int d) := rfl
  have x1 : ixV (bqD (d, b, o)) (.int 1) = some (.int b) := rfl
  have x2 : ixV (bqD (d, b, o)) (.int 2) = some (optD o) := rfl
  have s0 := strI_ok h.d
  have s1 := strI_ok h.b
  simp only [wn_ok, wn_some, wn_only, wn_noex, wn_e2, wn_e1, wn_eN, wn_a0, wn_aC, wn_call, wn_tb, wn_tup, wn_lst, wn_andB, wn_orB, wn_notB, wn_andV, wn_orV, wn_notV, wn_ifV, wn_iA, wn_iR1, wn_iR2, wn_iZ, wn_iEn, wn_iRR, wn_sl, wn_p0, wn_p1, wn_up, wn_upB, wn_upI, wn_x2, wn_x0, wn_xC, wn_xN, wn_xb, wn_xAnd, wn_xOr, wn_xNot, wn_xIf, wn_xCall, wn_xR1, wn_xR2, sn_nx, sn_rt, sn_bk, sn_ct, sn_seq, sn_set, sn_ret, sn_expr, sn_if, sn_for, sn_xSet, sn_xRet, sn_xExpr, sn_xIf, sn_xFor, sn_asg, sn_xAsg, sn_own, sn_xOwn, gv_zero, gv_succ, go_own, go_dat, go_succ, k0_def, gN_def, tru_bool, tru_none, tru_int, tru_list, asSeq_list, asSeq_tup, addV_int, subV_int, ltA_i, leA_i, gtA_i, geA_i, negV_int, intV_int, lenV_list, lenV_tup, ixV_list, ixV_tup, asInt_int, slV_list, slV_tup, slL_list, revV_tup, revV_list, tupleV_list, listV_list, listV_tup, eqV_str, neV_str, eqV_int, List.set_cons_zero, List.set_cons_succ, List.getElem?_cons_zero, List.getElem?_cons_succ, List.length_cons, List.length_nil, ↓reduceIte, Bool.false_eq_true, Bool.not_true, Bool.not_false, wn_ite, gT2, gT3, neV_tup, eqV_tup, in_tup, notin_tup', lineN_eq, Nat.reduceAdd, Nat.reduceLeDiff, Nat.zero_le, true_and, and_true, List.map_nil, List.map_cons, exists_eq_left', Option.some.injEq, PyData.list.injEq, exists_eq_left, PyData.int.injEq, R.ok.injEq, Sl.own.injEq, x2, isn]
  cases o with
  | none =>
    simp only [optD, isNone, ↓reduceIte]
    simp only [wn_ok, wn_some, wn_only, wn_noex, wn_e2, wn_e1, wn_eN, wn_a0, wn_aC, wn_call, wn_tb, wn_tup, wn_lst, wn_andB, wn_orB, wn_notB, wn_andV, wn_orV, wn_notV, wn_ifV, wn_iA, wn_iR1, wn_iR2, wn_iZ, wn_iEn, wn_iRR, wn_sl, wn_p0, wn_p1, wn_up, wn_upB, wn_upI, wn_x2, wn_x0, wn_xC, wn_xN, wn_xb, wn_xAnd, wn_xOr, wn_xNot, wn_xIf, wn_xCall, wn_xR1, wn_xR2, sn_nx, sn_rt, sn_bk, sn_ct, sn_seq, sn_set, sn_ret, sn_expr, sn_if, sn_for, sn_xSet, sn_xRet, sn_xExpr, sn_xIf, sn_xFor, sn_asg, sn_xAsg, sn_own, sn_xOwn, gv_zero, gv_succ, go_own, go_dat, go_succ, k0_def, gN_def, tru_bool, tru_none, tru_int, tru_list, asSeq_list, asSeq_tup, addV_int, subV_int, ltA_i, leA_i, gtA_i, geA_i, negV_int, intV_int, lenV_list, lenV_tup, ixV_list, ixV_tup, asInt_int, slV_list, slV_tup, slL_list, revV_tup, revV_list, tupleV_list, listV_list, listV_tup, eqV_str, neV_str, eqV_int, List.set_cons_zero, List.set_cons_succ, List.getElem?_cons_zero, List.getElem?_cons_succ, List.length_cons, List.length_nil, ↓reduceIte, Bool.false_eq_true, Bool.not_true, Bool.not_false, wn_ite, gT2, gT3, neV_tup, eqV_tup, in_tup, notin_tup', lineN_eq, Nat.reduceAdd, Nat.reduceLeDiff, Nat.zero_le, true_and, and_true, List.map_nil, List.map_cons, exists_eq_left', Option.some.injEq, PyData.list.injEq, exists_eq_left, PyData.int.injEq, R.ok.injEq, Sl.own.injEq, x0, x1, s0, s1]
    rfl
  | some e =>
    have s2 := strI_ok (h.e e rfl)
    simp only [optD, isNone, Bool.false_eq_true, ↓reduceIte]
    refine wn_comp (xs := [.int d, .int b, .int e]) (fun _ => true) (fun z => (strIV [z]).getD .none) ?_ ?_ ?_ ?_
    · simp only [wn_ok, wn_some, wn_only, wn_noex, wn_e2, wn_e1, wn_eN, wn_a0, wn_aC, wn_call, wn_tb, wn_tup, wn_lst, wn_andB, wn_orB, wn_notB, wn_andV, wn_orV, wn_notV, wn_ifV, wn_iA, wn_iR1, wn_iR2, wn_iZ, wn_iEn, wn_iRR, wn_sl, wn_p0, wn_p1, wn_up, wn_upB, wn_upI, wn_x2, wn_x0, wn_xC, wn_xN, wn_xb, wn_xAnd, wn_xOr, wn_xNot, wn_xIf, wn_xCall, wn_xR1, wn_xR2, sn_nx, sn_rt, sn_bk, sn_ct, sn_seq, sn_set, sn_ret, sn_expr, sn_if, sn_for, sn_xSet, sn_xRet, sn_xExpr, sn_xIf, sn_xFor, sn_asg, sn_xAsg, sn_own, sn_xOwn, gv_zero, gv_succ, go_own, go_dat, go_succ, k0_def, gN_def, tru_bool, tru_none, tru_int, tru_list, asSeq_list, asSeq_tup, addV_int, subV_int, ltA_i, leA_i, gtA_i, geA_i, negV_int, intV_int, lenV_list, lenV_tup, ixV_list, ixV_tup, asInt_int, slV_list, slV_tup, slL_list, revV_tup, revV_list, tupleV_list, listV_list, listV_tup, eqV_str, neV_str, eqV_int, List.set_cons_zero, List.set_cons_succ, List.getElem?_cons_zero, List.getElem?_cons_succ, List.length_cons, List.length_nil, ↓reduceIte, Bool.false_eq_true, Bool.not_true, Bool.not_false, wn_ite, gT2, gT3, neV_tup, eqV_tup, in_tup, notin_tup', lineN_eq, Nat.reduceAdd, Nat.reduceLeDiff, Nat.zero_le, true_and, and_true, List.map_nil, List.map_cons, exists_eq_left', Option.some.injEq, PyData.list.injEq, exists_eq_left, PyData.int.injEq, R.ok.injEq, Sl.own.injEq]
      exact Wn.mk (show asSeq (bqD (d, b, some e)) = .ok [.int d, .int b, .int e] from rfl) rfl
    · intro y m
      refine ⟨[.d (bqD (d, b, some e)), .d y], rfl, wn_ok.mpr ⟨rfl, fun _ => ?_⟩⟩
      simp only [wn_ok, wn_some, wn_only, wn_noex, wn_e2, wn_e1, wn_eN, wn_a0, wn_aC, wn_call, wn_tb, wn_tup, wn_lst, wn_andB, wn_orB, wn_notB, wn_andV, wn_orV, wn_notV, wn_ifV, wn_iA, wn_iR1, wn_iR2, wn_iZ, wn_iEn, wn_iRR, wn_sl, wn_p0, wn_p1, wn_up, wn_upB, wn_upI, wn_x2, wn_x0, wn_xC, wn_xN, wn_xb, wn_xAnd, wn_xOr, wn_xNot, wn_xIf, wn_xCall, wn_xR1, wn_xR2, sn_nx, sn_rt, sn_bk, sn_ct, sn_seq, sn_set, sn_ret, sn_expr, sn_if, sn_for, sn_xSet, sn_xRet, sn_xExpr, sn_xIf, sn_xFor, sn_asg, sn_xAsg, sn_own, sn_xOwn, gv_zero, gv_succ, go_own, go_dat, go_succ, k0_def, gN_def, tru_bool, tru_none, tru_int, tru_list, asSeq_list, asSeq_tup, addV_int, subV_int, ltA_i, leA_i, gtA_i, geA_i, negV_int, intV_int, lenV_list, lenV_tup, ixV_list, ixV_tup, asInt_int, slV_list, slV_tup, slL_list, revV_tup, revV_list, tupleV_list, listV_list, listV_tup, eqV_str, neV_str, eqV_int, List.set_cons_zero, List.set_cons_succ, List.getElem?_cons_zero, List.getElem?_cons_succ, List.length_cons, List.length_nil, ↓reduceIte, Bool.false_eq_true, Bool.not_true, Bool.not_false, wn_ite, gT2, gT3, neV_tup, eqV_tup, in_tup, notin_tup', lineN_eq, Nat.reduceAdd, Nat.reduceLeDiff, Nat.zero_le, true_and, and_true, List.map_nil, List.map_cons, exists_eq_left', Option.some.injEq, PyData.list.injEq, exists_eq_left, PyData.int.injEq, R.ok.injEq, Sl.own.injEq]
      simp only [List.mem_cons, List.not_mem_nil, or_false] at m
      rcases m with rfl | rfl | rfl
      · rw [s0]; exact Wn.mk rfl rfl
      · rw [s1]; exact Wn.mk rfl rfl
      · rw [s2]; exact Wn.mk rfl rfl
    · simp [lineN_eq]
    · have s0 : strIV [.int d] = some (.str (numI d)) := s0
      have s1 : strIV [.int b] = some (.str (numI b)) := s1
      simp only [List.filter_cons, ↓reduceIte, List.filter_nil, List.map_cons, List.map_nil, s0, s1, s2, Option.getD_some]
      rfl
theorem wordsB_le {x : Bq} (h : Sb x) : ∀ w ∈ wordsB x, w.length ≤ 8 := fun w m => by
  have key : ∀ i, Sm i → (numI i).length ≤ 8 := fun i hi => by
    rw [len_tl, tl_numI]
    have := sgn_len hi
    omega
  simp only [wordsB, List.mem_cons, List.not_mem_nil, or_false] at m
  rcases m with rfl | rfl | rfl
  · exact key _ h.d
  · exact key _ h.b
  · cases ho : x.2.2 with
    | none => exact (by decide +kernel : (Str.ofString "-").length ≤ 8)
    | some z => exact key _ (h.e z ho)
/-- a line, read -/
def barG : List Str → Option D
  | [a, b, c] => if (numB (tl a) && (numB (tl b) && (numB (tl c) || decide (c = "-")))) = true then some (.tuple [numD a, numD b, numD c]) else none
  | _ => none
theorem dash_no : numB (tl (Str.ofString "-")) = false := by decide +kernel
theorem numD_no {w : Str} (h : numB (tl w) = false) : numD w = .none := by unfold numD; rw [h]; rfl
theorem numD_yes {w : Str} (h : numB (tl w) = true) : numD w = .int (valB (tl w)) := by unfold numD; rw [h]; rfl
theorem barG_some {l : List Str} {y : D} (h : barG l = some y) : ∃ x : Bq, Sb x ∧ y = bqD x ∧ wordsB x = l := by
  unfold barG at h
  split at h
  · rename_i a b c
    split at h
    · rename_i q
      cases h
      simp only [Bool.and_eq_true, Bool.or_eq_true, decide_eq_true_eq] at q
      obtain ⟨q1, q2, q3⟩ := q
      rw [numD_yes q1, numD_yes q2]
      cases hc : numB (tl c) with
      | true =>
        refine ⟨(valB (tl a), valB (tl b), some (valB (tl c))), ⟨val_sm q1, val_sm q2, fun z hz => by cases hz; exact val_sm hc⟩, by rw [numD_yes hc]; rfl, ?_⟩
        show [numI _, numI _, numI _] = _
        rw [canon_word q1, canon_word q2, canon_word hc]
      | false =>
        rw [hc] at q3
        have q3 : c = "-" := q3.resolve_left Bool.false_ne_true
        subst q3
        refine ⟨(valB (tl a), valB (tl b), none), ⟨val_sm q1, val_sm q2, fun z hz => nomatch hz⟩, by rw [numD_no dash_no]; rfl, ?_⟩
        show [numI _, numI _, _] = _
        rw [canon_word q1, canon_word q2]
        rfl
    · cases h
  · cases h
theorem tup3 {F1 F2 F3 : Nv → R D} {η : Nv} : tupV (aC F1 (aC F2 (aC F3 a0))) η = (F1 η).bind fun x => (F2 η).bind fun y => (F3 η).bind fun z => .ok (.tuple [x, y, z]) := by
  unfold tupV eN aC a0
  cases F1 η with
  | ok x =>
    cases F2 η with
    | ok y =>
      cases F3 η with
      | ok z =>
        simp only [R.ok_bind]
        rw [if_pos (by simp [lineN_eq])]
        rfl
      | _ => rfl
    | _ => rfl
  | _ => rfl
theorem bar_of_ok {l : List Str} {j : Nat} (hw : ∀ w ∈ l, w.length ≤ 1000000) (hl : l.length ≤ 1000000) (hj : j < 1000000) : F__bar_of [lineD l, .int ((j : Nat) : Int)] = oneR barG j l := by
  refine rx_runD (P := fun r => r = oneR barG j l) ?_
  show Sx (G__bar_of [.d (lineD l), .d (.int ((j : Nat) : Int)), .no, .no, .no, .no]) _ _ _ _ _
  unfold G__bar_of
  refine sx_seq (sx_if ?_)
  have ll : lenV [lineD l] = some (.int ((l.length : Nat) : Int)) := by
    show some (PyData.int ((l.map PyData.str).length : Nat)) = _
    rw [List.length_map]
  simp only [wn_ok, wn_some, wn_only, wn_noex, wn_e2, wn_e1, wn_eN, wn_a0, wn_aC, wn_call, wn_tb, wn_tup, wn_lst, wn_andB, wn_orB, wn_notB, wn_andV, wn_orV, wn_notV, wn_ifV, wn_iA, wn_iR1, wn_iR2, wn_iZ, wn_iEn, wn_iRR, wn_sl, wn_p0, wn_p1, wn_up, wn_upB, wn_upI, wn_x2, wn_x0, wn_xC, wn_xN, wn_xb, wn_xAnd, wn_xOr, wn_xNot, wn_xIf, wn_xCall, wn_xR1, wn_xR2, sn_nx, sn_rt, sn_bk, sn_ct, sn_seq, sn_set, sn_ret, sn_expr, sn_if, sn_for, sn_xSet, sn_xRet, sn_xExpr, sn_xIf, sn_xFor, sn_asg, sn_xAsg, sn_own, sn_xOwn, gv_zero, gv_succ, go_own, go_dat, go_succ, k0_def, gN_def, tru_bool, tru_none, tru_int, tru_list, asSeq_list, asSeq_tup, addV_int, subV_int, ltA_i, leA_i, gtA_i, geA_i, negV_int, intV_int, lenV_list, lenV_tup, ixV_list, ixV_tup, asInt_int, slV_list, slV_tup, slL_list, revV_tup, revV_list, tupleV_list, listV_list, listV_tup, eqV_str, neV_str, eqV_int, List.set_cons_zero, List.set_cons_succ, List.getElem?_cons_zero, List.getElem?_cons_succ, List.length_cons, List.length_nil, ↓reduceIte, Bool.false_eq_true, Bool.not_true, Bool.not_false, wn_ite, gT2, gT3, neV_tup, eqV_tup, in_tup, notin_tup', lineN_eq, Nat.reduceAdd, Nat.reduceLeDiff, Nat.zero_le, true_and, and_true, List.map_nil, List.map_cons, exists_eq_left', Option.some.injEq, PyData.list.injEq, exists_eq_left, PyData.int.injEq, R.ok.injEq, Sl.own.injEq, ll, neV_int]
  by_cases h3 : l.length = 3
  · obtain ⟨a, b, c, rfl⟩ : ∃ a b c, l = [a, b, c] := by
      match l, h3 with
      | [a, b, c], _ => exact ⟨a, b, c, rfl⟩
    simp only [List.length_cons, List.length_nil, Int.cast_ofNat_Int, Nat.zero_add, Nat.reduceAdd, beq_self_eq_true, Bool.not_true, Bool.false_eq_true, ↓reduceIte]
    have na := number_ok (w := a) (i := j) (hw a (by simp)) hj
    have nb := number_ok (w := b) (i := j) (hw b (by simp)) hj
    have nc := number_ok (w := c) (i := j) (hw c (by simp)) hj
    refine sx_nx.mpr (sx_seqN ?_)
    simp only [wn_ok, wn_some, wn_only, wn_noex, wn_e2, wn_e1, wn_eN, wn_a0, wn_aC, wn_call, wn_tb, wn_tup, wn_lst, wn_andB, wn_orB, wn_notB, wn_andV, wn_orV, wn_notV, wn_ifV, wn_iA, wn_iR1, wn_iR2, wn_iZ, wn_iEn, wn_iRR, wn_sl, wn_p0, wn_p1, wn_up, wn_upB, wn_upI, wn_x2, wn_x0, wn_xC, wn_xN, wn_xb, wn_xAnd, wn_xOr, wn_xNot, wn_xIf, wn_xCall, wn_xR1, wn_xR2, sn_nx, sn_rt, sn_bk, sn_ct, sn_seq, sn_set, sn_ret, sn_expr, sn_if, sn_for, sn_xSet, sn_xRet, sn_xExpr, sn_xIf, sn_xFor, sn_asg, sn_xAsg, sn_own, sn_xOwn, gv_zero, gv_succ, go_own, go_dat, go_succ, k0_def, gN_def, tru_bool, tru_none, tru_int, tru_list, asSeq_list, asSeq_tup, addV_int, subV_int, ltA_i, leA_i, gtA_i, geA_i, negV_int, intV_int, lenV_list, lenV_tup, ixV_list, ixV_tup, asInt_int, slV_list, slV_tup, slL_list, revV_tup, revV_list, tupleV_list, listV_list, listV_tup, eqV_str, neV_str, eqV_int, List.set_cons_zero, List.set_cons_succ, List.getElem?_cons_zero, List.getElem?_cons_succ, List.length_cons, List.length_nil, ↓reduceIte, Bool.false_eq_true, Bool.not_true, Bool.not_false, wn_ite, gT2, gT3, neV_tup, eqV_tup, in_tup, notin_tup', lineN_eq, Nat.reduceAdd, Nat.reduceLeDiff, Nat.zero_le, true_and, and_true, List.map_nil, List.map_cons, exists_eq_left', Option.some.injEq, PyData.list.injEq, exists_eq_left, PyData.int.injEq, R.ok.injEq, Sl.own.injEq]
    refine ⟨[.d (lineD [a, b, c]), .d (.int ((j : Nat) : Int)), .d (.str a), .d (.str b), .d (.str c), .no], rfl, ?_⟩
    refine sx_seq (sx_setR ?_)
    have t : tb (e2 eqV' (gv 4) (k0 (.str "-"))) [.d (lineD [a, b, c]), .d (.int ((j : Nat) : Int)), .d (.str a), .d (.str b), .d (.str c), .no] = .ok (decide (c = "-")) := by
      refine Wn.eq ?_
      simp only [wn_ok, wn_some, wn_only, wn_noex, wn_e2, wn_e1, wn_eN, wn_a0, wn_aC, wn_call, wn_tb, wn_tup, wn_lst, wn_andB, wn_orB, wn_notB, wn_andV, wn_orV, wn_notV, wn_ifV, wn_iA, wn_iR1, wn_iR2, wn_iZ, wn_iEn, wn_iRR, wn_sl, wn_p0, wn_p1, wn_up, wn_upB, wn_upI, wn_x2, wn_x0, wn_xC, wn_xN, wn_xb, wn_xAnd, wn_xOr, wn_xNot, wn_xIf, wn_xCall, wn_xR1, wn_xR2, sn_nx, sn_rt, sn_bk, sn_ct, sn_seq, sn_set, sn_ret, sn_expr, sn_if, sn_for, sn_xSet, sn_xRet, sn_xExpr, sn_xIf, sn_xFor, sn_asg, sn_xAsg, sn_own, sn_xOwn, gv_zero, gv_succ, go_own, go_dat, go_succ, k0_def, gN_def, tru_bool, tru_none, tru_int, tru_list, asSeq_list, asSeq_tup, addV_int, subV_int, ltA_i, leA_i, gtA_i, geA_i, negV_int, intV_int, lenV_list, lenV_tup, ixV_list, ixV_tup, asInt_int, slV_list, slV_tup, slL_list, revV_tup, revV_list, tupleV_list, listV_list, listV_tup, eqV_str, neV_str, eqV_int, List.set_cons_zero, List.set_cons_succ, List.getElem?_cons_zero, List.getElem?_cons_succ, List.length_cons, List.length_nil, ↓reduceIte, Bool.false_eq_true, Bool.not_true, Bool.not_false, wn_ite, gT2, gT3, neV_tup, eqV_tup, in_tup, notin_tup', lineN_eq, Nat.reduceAdd, Nat.reduceLeDiff, Nat.zero_le, true_and, and_true, List.map_nil, List.map_cons, exists_eq_left', Option.some.injEq, PyData.list.injEq, exists_eq_left, PyData.int.injEq, R.ok.injEq, Sl.own.injEq]
    have v5 : ifV (tb (e2 eqV' (gv 4) (k0 (.str "-")))) (k0 .none) (callX F__number_of (aC (gv 4) (aC (gv 1) a0))) [.d (lineD [a, b, c]), .d (.int ((j : Nat) : Int)), .d (.str a), .d (.str b), .d (.str c), .no] = if c = "-" then .ok .none else outN j c := by
      show (tb _ _).bind _ = _
      rw [t, R.ok_bind]
      by_cases q : c = "-"
      · rw [if_pos q, decide_eq_true q]
        rfl
      · rw [if_neg q, decide_eq_false q, ← nc]
        rfl
    rw [v5]
    clear v5 t
    unfold outN at na nb ⊢
    have ge : oneR barG j [a, b, c] = match (if (numB (tl a) && (numB (tl b) && (numB (tl c) || decide (c = "-")))) = true then some (PyData.tuple [numD a, numD b, numD c]) else none) with
        | none => R.ex "BadLine" "BadLine" (.int ((j : Nat) : Int))
        | some y => .ok y := rfl
    have tail : ∀ d5 : D, d5 = numD c → (numB (tl c) || decide (c = "-")) = true → Sx (seqS (retS (tupV (aC (callX F__number_of (aC (gv 2) (aC (gv 1) a0))) (aC (callX F__number_of (aC (gv 3) (aC (gv 1) a0))) (aC (gv 5) a0))))) .nx ([Sl.d (lineD [a, b, c]), .d (.int ((j : Nat) : Int)), .d (.str a), .d (.str b), .d (.str c), .no].set 5 (.d d5)))
        (fun _ => R.ok PyData.none = oneR barG j [a, b, c]) (fun d _ => R.ok d = oneR barG j [a, b, c]) (fun _ => False) (fun _ => False) fun c' w p => R.ex c' w p = oneR barG j [a, b, c] := fun d5 hd q => by
      refine sx_seq (sx_retR ?_)
      rw [tup3]
      have f1 : callX F__number_of (aC (gv 2) (aC (gv 1) a0)) ([Sl.d (lineD [a, b, c]), .d (.int ((j : Nat) : Int)), .d (.str a), .d (.str b), .d (.str c), .no].set 5 (.d d5)) = F__number_of [.str a, .int ((j : Nat) : Int)] := rfl
      have f2 : callX F__number_of (aC (gv 3) (aC (gv 1) a0)) ([Sl.d (lineD [a, b, c]), .d (.int ((j : Nat) : Int)), .d (.str a), .d (.str b), .d (.str c), .no].set 5 (.d d5)) = F__number_of [.str b, .int ((j : Nat) : Int)] := rfl
      have f3 : gv 5 ([Sl.d (lineD [a, b, c]), .d (.int ((j : Nat) : Int)), .d (.str a), .d (.str b), .d (.str c), .no].set 5 (.d d5)) = .ok d5 := rfl
      rw [f1, f2, f3, e_nof, na, nb, ge, q, hd]
      cases ha : numB (tl a) with
      | false => exact .inr ⟨_, _, _, rfl, rfl⟩
      | true =>
        cases hb : numB (tl b) with
        | false => exact .inr ⟨_, _, _, rfl, rfl⟩
        | true =>
          rw [numD_yes ha, numD_yes hb]
          exact .inl ⟨_, rfl, rfl⟩
    by_cases q : c = "-"
    · rw [if_pos q]
      exact .inl ⟨_, rfl, tail _ (by rw [q]; exact (numD_no dash_no).symm) (by rw [decide_eq_true q, Bool.or_true])⟩
    · rw [if_neg q]
      cases hc : numB (tl c) with
      | true => exact .inl ⟨_, rfl, tail _ (numD_yes hc).symm (by rw [hc]; rfl)⟩
      | false =>
        refine .inr ⟨_, _, _, rfl, ?_⟩
        rw [ge, hc, decide_eq_false q]
        cases numB (tl a) <;> cases numB (tl b) <;> rfl
  · have g : barG l = none := by
      unfold barG
      split
      · exact absurd rfl h3
      · rfl
    have e4 : (((l.length : Nat) : Int) == 3) = false := by simp; omega
    rw [e4]
    simp only [Bool.not_false, ↓reduceIte]
    refine sx_seq (sx_raise ?_)
    simp only [wn_ok, wn_some, wn_only, wn_noex, wn_e2, wn_e1, wn_eN, wn_a0, wn_aC, wn_call, wn_tb, wn_tup, wn_lst, wn_andB, wn_orB, wn_notB, wn_andV, wn_orV, wn_notV, wn_ifV, wn_iA, wn_iR1, wn_iR2, wn_iZ, wn_iEn, wn_iRR, wn_sl, wn_p0, wn_p1, wn_up, wn_upB, wn_upI, wn_x2, wn_x0, wn_xC, wn_xN, wn_xb, wn_xAnd, wn_xOr, wn_xNot, wn_xIf, wn_xCall, wn_xR1, wn_xR2, sn_nx, sn_rt, sn_bk, sn_ct, sn_seq, sn_set, sn_ret, sn_expr, sn_if, sn_for, sn_xSet, sn_xRet, sn_xExpr, sn_xIf, sn_xFor, sn_asg, sn_xAsg, sn_own, sn_xOwn, gv_zero, gv_succ, go_own, go_dat, go_succ, k0_def, gN_def, tru_bool, tru_none, tru_int, tru_list, asSeq_list, asSeq_tup, addV_int, subV_int, ltA_i, leA_i, gtA_i, geA_i, negV_int, intV_int, lenV_list, lenV_tup, ixV_list, ixV_tup, asInt_int, slV_list, slV_tup, slL_list, revV_tup, revV_list, tupleV_list, listV_list, listV_tup, eqV_str, neV_str, eqV_int, List.set_cons_zero, List.set_cons_succ, List.getElem?_cons_zero, List.getElem?_cons_succ, List.length_cons, List.length_nil, ↓reduceIte, Bool.false_eq_true, Bool.not_true, Bool.not_false, wn_ite, gT2, gT3, neV_tup, eqV_tup, in_tup, notin_tup', lineN_eq, Nat.reduceAdd, Nat.reduceLeDiff, Nat.zero_le, true_and, and_true, List.map_nil, List.map_cons, exists_eq_left', Option.some.injEq, PyData.list.injEq, exists_eq_left, PyData.int.injEq, R.ok.injEq, Sl.own.injEq]
    refine ⟨Sc.fm_int hj, ?_⟩
    unfold oneR
    rw [g]

/-! ### a text, read -/
def parO (t : Str) : R D := match rdB barG 0 (wlL t) with
  | some k => .ex "BadLine" "BadLine" (.int ((k : Nat) : Int))
  | none => match badI 0 (rowsO barG (wlL t)) with
    | some k => .ex "BadBar" "BadBar" (.int ((k : Nat) : Int))
    | none => .ok (.list (rowsO barG (wlL t)))
theorem rows_bq {ls : List (List Str)} {k : Nat} (h : rdB barG k ls = none) : ∃ xs : List Bq, (∀ x ∈ xs, Sb x) ∧ rowsO barG ls = xs.map bqD ∧ xs.map wordsB = ls := by
  have all := rdB_all h
  clear h
  induction ls with
  | nil => exact ⟨[], fun _ m => absurd m List.not_mem_nil, rfl, rfl⟩
  | cons l ls ih =>
    obtain ⟨xs, h1, h2, h3⟩ := ih fun l m => all l (List.mem_cons_of_mem _ m)
    have hs := all l List.mem_cons_self
    cases hg : barG l with
    | none => rw [hg] at hs; exact absurd hs Bool.false_ne_true
    | some y =>
      obtain ⟨x, hx, rfl, hw⟩ := barG_some hg
      refine ⟨x :: xs, fun z m => ?_, ?_, ?_⟩
      · rcases List.mem_cons.mp m with rfl | m
        · exact hx
        · exact h1 z m
      · unfold rowsO at h2 ⊢
        rw [List.map_cons, List.map_cons, hg, h2]
        rfl
      · rw [List.map_cons, hw, h3]
theorem rows_val {ls : List (List Str)} : ∀ d ∈ rowsO barG ls, Val d := fun d m l e => by
  obtain ⟨x, _, hx⟩ := List.mem_map.mp m
  rw [← hx] at e
  cases hg : barG x with
  | none => rw [hg] at e; cases e
  | some y =>
    obtain ⟨b, _, rfl, _⟩ := barG_some hg
    rw [hg] at e
    cases e
    exact (by decide : 3 ≤ 1000)
theorem parse_ok {t : Str} (hl : t.length ≤ 900) : F_parse_bars [.str t] = parO t := by
  refine rx_runD (P := fun r => r = parO t) ?_
  show Sx (G_parse_bars [.d (.str t), .no, .no, .no]) _ _ _ _ _
  unfold G_parse_bars
  have hw : F__words_by_line [.str t] = .ok (.list ((wlL t).map lineD)) := by rw [e_wbl]; exact wbl_ok (by omega)
  have rd := readP (g := barG) (t := t) (by omega) hw (Fo := F__bar_of) fun l j m hj => by
    obtain ⟨h1, h2⟩ := wl_line m
    exact bar_of_ok (fun w mw => by have := h2 w mw; omega) (by omega) hj
  have cnt := wl_cnt t
  refine sx_seq (sx_setR ?_)
  rw [rd]
  unfold parO
  cases hr : rdB barG 0 (wlL t) with
  | some k => exact .inr ⟨_, _, _, rfl, rfl⟩
  | none =>
    refine .inl ⟨_, rfl, ?_⟩
    refine sx_seq (sx_expr ?_)
    have ck : callX F_check_bars (aC (gv 1) a0) ([Sl.d (.str t), .no, .no, .no].set 1 (.d (.list (rowsO barG (wlL t))))) = outB (badI 0 (rowsO barG (wlL t))) := pcheck_ok rows_val (by unfold rowsO; rw [List.length_map]; omega)
    rw [ck]
    cases hb : badI 0 (rowsO barG (wlL t)) with
    | some k => exact .inr ⟨_, _, _, rfl, rfl⟩
    | none =>
      refine .inl ⟨_, rfl, ?_⟩
      refine sx_of ?_
      rw [sn_seq, sn_ret]
      exact Wn.mk (a := .list (rowsO barG (wlL t))) rfl rfl
def dueD (ls : List (List Str)) : D := match rdB barG 0 ls with
  | some k => .int ((k : Nat) : Int)
  | none => .list (rowsO barG ls)
theorem read_ok {ls : List (List Str)} (hw : ∀ l ∈ ls, l.length ≤ 1000000 ∧ ∀ w ∈ l, w.length ≤ 1000000) (hl : ls.length ≤ 1000) : F__law_read [.list (ls.map lineD)] = .ok (dueD ls) := by
  refine Wn.eq (wn_runD ?_)
  show Sn (G__law_read [.d (.list (ls.map lineD)), .no, .no, .no, .no, .no]) _ _ _ _
  unfold G__law_read
  simp only [wn_ok, wn_some, wn_only, wn_noex, wn_e2, wn_e1, wn_eN, wn_a0, wn_aC, wn_call, wn_tb, wn_tup, wn_lst, wn_andB, wn_orB, wn_notB, wn_andV, wn_orV, wn_notV, wn_ifV, wn_iA, wn_iR1, wn_iR2, wn_iZ, wn_iEn, wn_iRR, wn_sl, wn_p0, wn_p1, wn_up, wn_upB, wn_upI, wn_x2, wn_x0, wn_xC, wn_xN, wn_xb, wn_xAnd, wn_xOr, wn_xNot, wn_xIf, wn_xCall, wn_xR1, wn_xR2, sn_nx, sn_rt, sn_bk, sn_ct, sn_seq, sn_set, sn_ret, sn_expr, sn_if, sn_for, sn_xSet, sn_xRet, sn_xExpr, sn_xIf, sn_xFor, sn_asg, sn_xAsg, sn_own, sn_xOwn, gv_zero, gv_succ, go_own, go_dat, go_succ, k0_def, gN_def, tru_bool, tru_none, tru_int, tru_list, asSeq_list, asSeq_tup, addV_int, subV_int, ltA_i, leA_i, gtA_i, geA_i, negV_int, intV_int, lenV_list, lenV_tup, ixV_list, ixV_tup, asInt_int, slV_list, slV_tup, slL_list, revV_tup, revV_list, tupleV_list, listV_list, listV_tup, eqV_str, neV_str, eqV_int, List.set_cons_zero, List.set_cons_succ, List.getElem?_cons_zero, List.getElem?_cons_succ, List.length_cons, List.length_nil, ↓reduceIte, Bool.false_eq_true, Bool.not_true, Bool.not_false, wn_ite, gT2, gT3, neV_tup, eqV_tup, in_tup, notin_tup', lineN_eq, Nat.reduceAdd, Nat.reduceLeDiff, Nat.zero_le, true_and, and_true, List.map_nil, List.map_cons, exists_eq_left', Option.some.injEq, PyData.list.injEq, exists_eq_left, PyData.int.injEq, R.ok.injEq, Sl.own.injEq]
  rw [List.length_map, wn_rng1 (by omega) (by omega), Int.toNat_natCast]
  refine sn_loop (fun xs η => ∃ (done rest : List (List Str)) (s2 s3 s4 s5 : Sl), ls = done ++ rest ∧ xs = (List.range' done.length rest.length).map (fun k => PyData.int ((k : Nat) : Int)) ∧ rdB barG done.length rest = rdB barG 0 ls ∧ rowsO barG done ++ rowsO barG rest = rowsO barG ls ∧
    η = [.d (.list (ls.map lineD)), .own ⟨true, rowsO barG done⟩, s2, s3, s4, s5]) ?_ ?_ _ _ ⟨[], ls, .no, .no, .no, .no, rfl, ?_, rfl, rfl, rfl⟩
  · rintro x xs η ⟨done, rest, s2, s3, s4, s5, el, ex, hb, hr, rfl⟩
    cases rest with
    | nil => cases ex
    | cons l rest =>
      rw [List.length_cons, List.range'_succ, List.map_cons] at ex
      obtain ⟨rfl, rfl⟩ := List.cons.inj ex
      obtain ⟨w1, w2⟩ := hw l (by rw [el]; simp)
      have dl : done.length + (rest.length + 1) ≤ 1000 := by
        have := congrArg List.length el
        rw [List.length_append, List.length_cons] at this
        omega
      have hb : (if (barG l).isSome = true then rdB barG (done.length + 1) rest else some done.length) = rdB barG 0 ls := hb
      have stop : barG l = none → PyData.int ((done.length : Nat) : Int) = dueD ls := fun hg => by
        unfold dueD
        rw [← hb, hg]
        rfl
      refine ⟨[.d (.list (ls.map lineD)), .own ⟨true, rowsO barG done⟩, .d (.int ((done.length : Nat) : Int)), s3, s4, s5], rfl, ?_⟩
      have xl : atD (ls.map lineD) ((done.length : Nat) : Int) = some (lineD l) := atD_nat (by omega) (by rw [Int.toNat_natCast, List.getElem?_map, el, List.getElem?_append_right (Nat.le_refl _), Nat.sub_self]; rfl)
      have ll : lenV [lineD l] = some (.int ((l.length : Nat) : Int)) := by
        show some (PyData.int ((l.map PyData.str).length : Nat)) = _
        rw [List.length_map]
      simp only [wn_ok, wn_some, wn_only, wn_noex, wn_e2, wn_e1, wn_eN, wn_a0, wn_aC, wn_call, wn_tb, wn_tup, wn_lst, wn_andB, wn_orB, wn_notB, wn_andV, wn_orV, wn_notV, wn_ifV, wn_iA, wn_iR1, wn_iR2, wn_iZ, wn_iEn, wn_iRR, wn_sl, wn_p0, wn_p1, wn_up, wn_upB, wn_upI, wn_x2, wn_x0, wn_xC, wn_xN, wn_xb, wn_xAnd, wn_xOr, wn_xNot, wn_xIf, wn_xCall, wn_xR1, wn_xR2, sn_nx, sn_rt, sn_bk, sn_ct, sn_seq, sn_set, sn_ret, sn_expr, sn_if, sn_for, sn_xSet, sn_xRet, sn_xExpr, sn_xIf, sn_xFor, sn_asg, sn_xAsg, sn_own, sn_xOwn, gv_zero, gv_succ, go_own, go_dat, go_succ, k0_def, gN_def, tru_bool, tru_none, tru_int, tru_list, asSeq_list, asSeq_tup, addV_int, subV_int, ltA_i, leA_i, gtA_i, geA_i, negV_int, intV_int, lenV_list, lenV_tup, ixV_list, ixV_tup, asInt_int, slV_list, slV_tup, slL_list, revV_tup, revV_list, tupleV_list, listV_list, listV_tup, eqV_str, neV_str, eqV_int, List.set_cons_zero, List.set_cons_succ, List.getElem?_cons_zero, List.getElem?_cons_succ, List.length_cons, List.length_nil, ↓reduceIte, Bool.false_eq_true, Bool.not_true, Bool.not_false, wn_ite, gT2, gT3, neV_tup, eqV_tup, in_tup, notin_tup', lineN_eq, Nat.reduceAdd, Nat.reduceLeDiff, Nat.zero_le, true_and, and_true, List.map_nil, List.map_cons, exists_eq_left', Option.some.injEq, PyData.list.injEq, exists_eq_left, PyData.int.injEq, R.ok.injEq, Sl.own.injEq, xl, ll, neV_int]
      by_cases h3 : l.length = 3
      · obtain ⟨a, b, c, rfl⟩ : ∃ a b c, l = [a, b, c] := by
          match l, h3 with
          | [a, b, c], _ => exact ⟨a, b, c, rfl⟩
        simp only [List.length_cons, List.length_nil, Int.cast_ofNat_Int, Nat.zero_add, Nat.reduceAdd, beq_self_eq_true, Bool.not_true, Bool.false_eq_true, ↓reduceIte]
        refine wn_comp (xs := [a, b, c].map PyData.str) (fun _ => true) (fun d => match d with | .str w => numD w | _ => .none) ?_ ?_ ?_ ?_
        · exact Wn.mk (show iA (gv 3) [.d (.list (ls.map lineD)), .own ⟨true, rowsO barG done⟩, .d (.int ((done.length : Nat) : Int)), .d (lineD [a, b, c]), s4, s5] = .ok ([a, b, c].map PyData.str) from rfl) rfl
        · intro y m
          obtain ⟨w, mw, rfl⟩ := List.mem_map.mp m
          refine ⟨[.d (.list (ls.map lineD)), .own ⟨true, rowsO barG done⟩, .d (.int ((done.length : Nat) : Int)), .d (lineD [a, b, c]), s4, .d (.str w)], rfl, wn_ok.mpr ⟨rfl, fun _ => ?_⟩⟩
          have : F__law_number [.str w] = .ok (numD w) := by rw [e_num]; exact law_number_ok (w2 w mw)
          simp only [wn_ok, wn_some, wn_only, wn_noex, wn_e2, wn_e1, wn_eN, wn_a0, wn_aC, wn_call, wn_tb, wn_tup, wn_lst, wn_andB, wn_orB, wn_notB, wn_andV, wn_orV, wn_notV, wn_ifV, wn_iA, wn_iR1, wn_iR2, wn_iZ, wn_iEn, wn_iRR, wn_sl, wn_p0, wn_p1, wn_up, wn_upB, wn_upI, wn_x2, wn_x0, wn_xC, wn_xN, wn_xb, wn_xAnd, wn_xOr, wn_xNot, wn_xIf, wn_xCall, wn_xR1, wn_xR2, sn_nx, sn_rt, sn_bk, sn_ct, sn_seq, sn_set, sn_ret, sn_expr, sn_if, sn_for, sn_xSet, sn_xRet, sn_xExpr, sn_xIf, sn_xFor, sn_asg, sn_xAsg, sn_own, sn_xOwn, gv_zero, gv_succ, go_own, go_dat, go_succ, k0_def, gN_def, tru_bool, tru_none, tru_int, tru_list, asSeq_list, asSeq_tup, addV_int, subV_int, ltA_i, leA_i, gtA_i, geA_i, negV_int, intV_int, lenV_list, lenV_tup, ixV_list, ixV_tup, asInt_int, slV_list, slV_tup, slL_list, revV_tup, revV_list, tupleV_list, listV_list, listV_tup, eqV_str, neV_str, eqV_int, List.set_cons_zero, List.set_cons_succ, List.getElem?_cons_zero, List.getElem?_cons_succ, List.length_cons, List.length_nil, ↓reduceIte, Bool.false_eq_true, Bool.not_true, Bool.not_false, wn_ite, gT2, gT3, neV_tup, eqV_tup, in_tup, notin_tup', lineN_eq, Nat.reduceAdd, Nat.reduceLeDiff, Nat.zero_le, true_and, and_true, List.map_nil, List.map_cons, exists_eq_left', Option.some.injEq, PyData.list.injEq, exists_eq_left, PyData.int.injEq, R.ok.injEq, Sl.own.injEq, this]
        · simp [lineN_eq]
        · have e1 : ((([a, b, c].map PyData.str).filter fun _ => true).map fun d : D => match d with | .str w => numD w | _ => .none) = [numD a, numD b, numD c] := rfl
          rw [e1]
          have x2 : atD [numD a, numD b, numD c] 2 = some (numD c) := rfl
          have x3 : ixV (lineD [a, b, c]) (.int 2) = some (.str c) := rfl
          have cu : cutD [numD a, numD b, numD c] none (some 2) = [numD a, numD b] := rfl
          have isN : inV' .none (.list [numD a, numD b]) = some (.bool !(numB (tl a) && numB (tl b))) := by
            unfold numD
            cases numB (tl a) <;> cases numB (tl b) <;> rfl
          simp only [wn_ok, wn_some, wn_only, wn_noex, wn_e2, wn_e1, wn_eN, wn_a0, wn_aC, wn_call, wn_tb, wn_tup, wn_lst, wn_andB, wn_orB, wn_notB, wn_andV, wn_orV, wn_notV, wn_ifV, wn_iA, wn_iR1, wn_iR2, wn_iZ, wn_iEn, wn_iRR, wn_sl, wn_p0, wn_p1, wn_up, wn_upB, wn_upI, wn_x2, wn_x0, wn_xC, wn_xN, wn_xb, wn_xAnd, wn_xOr, wn_xNot, wn_xIf, wn_xCall, wn_xR1, wn_xR2, sn_nx, sn_rt, sn_bk, sn_ct, sn_seq, sn_set, sn_ret, sn_expr, sn_if, sn_for, sn_xSet, sn_xRet, sn_xExpr, sn_xIf, sn_xFor, sn_asg, sn_xAsg, sn_own, sn_xOwn, gv_zero, gv_succ, go_own, go_dat, go_succ, k0_def, gN_def, tru_bool, tru_none, tru_int, tru_list, asSeq_list, asSeq_tup, addV_int, subV_int, ltA_i, leA_i, gtA_i, geA_i, negV_int, intV_int, lenV_list, lenV_tup, ixV_list, ixV_tup, asInt_int, slV_list, slV_tup, slL_list, revV_tup, revV_list, tupleV_list, listV_list, listV_tup, eqV_str, neV_str, eqV_int, List.set_cons_zero, List.set_cons_succ, List.getElem?_cons_zero, List.getElem?_cons_succ, List.length_cons, List.length_nil, ↓reduceIte, Bool.false_eq_true, Bool.not_true, Bool.not_false, wn_ite, gT2, gT3, neV_tup, eqV_tup, in_tup, notin_tup', lineN_eq, Nat.reduceAdd, Nat.reduceLeDiff, Nat.zero_le, true_and, and_true, List.map_nil, List.map_cons, exists_eq_left', Option.some.injEq, PyData.list.injEq, exists_eq_left, PyData.int.injEq, R.ok.injEq, Sl.own.injEq, x2, x3, cu, isN, isn]
          have ge : barG [a, b, c] = if (numB (tl a) && (numB (tl b) && (numB (tl c) || decide (c = "-")))) = true then some (PyData.tuple [numD a, numD b, numD c]) else none := rfl
          have nn : isNone (numD c) = !numB (tl c) := by unfold numD; cases numB (tl c) <;> rfl
          rw [nn]
          have keep : barG [a, b, c] = some (PyData.tuple [numD a, numD b, numD c]) → ∃ (done' rest' : List (List Str)) (t2 t3 t4 t5 : Sl), ls = done' ++ rest' ∧ (List.range' (done.length + 1) rest.length).map (fun k => PyData.int ((k : Nat) : Int)) = (List.range' done'.length rest'.length).map (fun k => PyData.int ((k : Nat) : Int)) ∧ rdB barG done'.length rest' = rdB barG 0 ls ∧ rowsO barG done' ++ rowsO barG rest' = rowsO barG ls ∧
              [Sl.d (.list (ls.map lineD)), .own ⟨true, rowsO barG done ++ [PyData.tuple [numD a, numD b, numD c]]⟩, .d (.int ((done.length : Nat) : Int)), .d (lineD [a, b, c]), .d (.list [numD a, numD b, numD c]), s5] = [.d (.list (ls.map lineD)), .own ⟨true, rowsO barG done'⟩, t2, t3, t4, t5] := fun hg => by
            have ed : rowsO barG (done ++ [[a, b, c]]) = rowsO barG done ++ [PyData.tuple [numD a, numD b, numD c]] := by
              unfold rowsO
              rw [List.map_append, List.map_singleton, hg]
              rfl
            refine ⟨done ++ [[a, b, c]], rest, _, _, _, _, by rw [el, List.append_assoc]; rfl, by rw [List.length_append, List.length_singleton], ?_, ?_, by rw [ed]⟩
            · rw [List.length_append, List.length_singleton, ← hb, hg]
              rfl
            · rw [ed, ← hr, List.append_assoc]
              congr 1
              unfold rowsO
              rw [List.map_cons, hg]
              rfl
          have rl : (rowsO barG done).length = done.length := List.length_map _
          cases ha : numB (tl a) with
          | false =>
            simp only [Bool.false_and, Bool.not_false, ↓reduceIte]
            exact stop (by rw [ge, ha]; rfl)
          | true =>
            cases hb2 : numB (tl b) with
            | false =>
              simp only [Bool.and_false, Bool.not_false, ↓reduceIte]
              exact stop (by rw [ge, ha, hb2]; rfl)
            | true =>
              simp only [Bool.and_self, Bool.not_true, Bool.false_eq_true, ↓reduceIte]
              cases hc : numB (tl c) with
              | true =>
                simp only [Bool.not_true, Bool.false_eq_true, ↓reduceIte]
                refine sn_app rfl ?_
                simp only [wn_ok, wn_some, wn_only, wn_noex, wn_e2, wn_e1, wn_eN, wn_a0, wn_aC, wn_call, wn_tb, wn_tup, wn_lst, wn_andB, wn_orB, wn_notB, wn_andV, wn_orV, wn_notV, wn_ifV, wn_iA, wn_iR1, wn_iR2, wn_iZ, wn_iEn, wn_iRR, wn_sl, wn_p0, wn_p1, wn_up, wn_upB, wn_upI, wn_x2, wn_x0, wn_xC, wn_xN, wn_xb, wn_xAnd, wn_xOr, wn_xNot, wn_xIf, wn_xCall, wn_xR1, wn_xR2, sn_nx, sn_rt, sn_bk, sn_ct, sn_seq, sn_set, sn_ret, sn_expr, sn_if, sn_for, sn_xSet, sn_xRet, sn_xExpr, sn_xIf, sn_xFor, sn_asg, sn_xAsg, sn_own, sn_xOwn, gv_zero, gv_succ, go_own, go_dat, go_succ, k0_def, gN_def, tru_bool, tru_none, tru_int, tru_list, asSeq_list, asSeq_tup, addV_int, subV_int, ltA_i, leA_i, gtA_i, geA_i, negV_int, intV_int, lenV_list, lenV_tup, ixV_list, ixV_tup, asInt_int, slV_list, slV_tup, slL_list, revV_tup, revV_list, tupleV_list, listV_list, listV_tup, eqV_str, neV_str, eqV_int, List.set_cons_zero, List.set_cons_succ, List.getElem?_cons_zero, List.getElem?_cons_succ, List.length_cons, List.length_nil, ↓reduceIte, Bool.false_eq_true, Bool.not_true, Bool.not_false, wn_ite, gT2, gT3, neV_tup, eqV_tup, in_tup, notin_tup', lineN_eq, Nat.reduceAdd, Nat.reduceLeDiff, Nat.zero_le, true_and, and_true, List.map_nil, List.map_cons, exists_eq_left', Option.some.injEq, PyData.list.injEq, exists_eq_left, PyData.int.injEq, R.ok.injEq, Sl.own.injEq]
                exact ⟨by omega, keep (by rw [ge, ha, hb2, hc]; rfl)⟩
              | false =>
                simp only [Bool.not_false, ↓reduceIte]
                by_cases q : c = "-"
                · rw [decide_eq_true q]
                  simp only [Bool.not_true, Bool.false_eq_true, ↓reduceIte]
                  refine sn_app rfl ?_
                  simp only [wn_ok, wn_some, wn_only, wn_noex, wn_e2, wn_e1, wn_eN, wn_a0, wn_aC, wn_call, wn_tb, wn_tup, wn_lst, wn_andB, wn_orB, wn_notB, wn_andV, wn_orV, wn_notV, wn_ifV, wn_iA, wn_iR1, wn_iR2, wn_iZ, wn_iEn, wn_iRR, wn_sl, wn_p0, wn_p1, wn_up, wn_upB, wn_upI, wn_x2, wn_x0, wn_xC, wn_xN, wn_xb, wn_xAnd, wn_xOr, wn_xNot, wn_xIf, wn_xCall, wn_xR1, wn_xR2, sn_nx, sn_rt, sn_bk, sn_ct, sn_seq, sn_set, sn_ret, sn_expr, sn_if, sn_for, sn_xSet, sn_xRet, sn_xExpr, sn_xIf, sn_xFor, sn_asg, sn_xAsg, sn_own, sn_xOwn, gv_zero, gv_succ, go_own, go_dat, go_succ, k0_def, gN_def, tru_bool, tru_none, tru_int, tru_list, asSeq_list, asSeq_tup, addV_int, subV_int, ltA_i, leA_i, gtA_i, geA_i, negV_int, intV_int, lenV_list, lenV_tup, ixV_list, ixV_tup, asInt_int, slV_list, slV_tup, slL_list, revV_tup, revV_list, tupleV_list, listV_list, listV_tup, eqV_str, neV_str, eqV_int, List.set_cons_zero, List.set_cons_succ, List.getElem?_cons_zero, List.getElem?_cons_succ, List.length_cons, List.length_nil, ↓reduceIte, Bool.false_eq_true, Bool.not_true, Bool.not_false, wn_ite, gT2, gT3, neV_tup, eqV_tup, in_tup, notin_tup', lineN_eq, Nat.reduceAdd, Nat.reduceLeDiff, Nat.zero_le, true_and, and_true, List.map_nil, List.map_cons, exists_eq_left', Option.some.injEq, PyData.list.injEq, exists_eq_left, PyData.int.injEq, R.ok.injEq, Sl.own.injEq]
                  exact ⟨by omega, keep (by rw [ge, ha, hb2, hc, decide_eq_true q]; rfl)⟩
                · rw [decide_eq_false q]
                  simp only [Bool.not_false, ↓reduceIte]
                  exact stop (by rw [ge, ha, hb2, hc, decide_eq_false q]; rfl)
      · have g : barG l = none := by
          unfold barG
          split
          · exact absurd rfl h3
          · rfl
        have e4 : (((l.length : Nat) : Int) == 3) = false := by simp; omega
        rw [e4]
        simp only [Bool.not_false, ↓reduceIte]
        exact stop g
  · rintro η ⟨done, rest, s2, s3, s4, s5, el, ex, hb, hr, rfl⟩
    have : rest = [] := by
      cases rest with
      | nil => rfl
      | cons l rest => rw [List.length_cons, List.range'_succ] at ex; cases ex
    subst this
    refine sn_frz rfl ?_
    simp only [wn_ok, wn_some, wn_only, wn_noex, wn_e2, wn_e1, wn_eN, wn_a0, wn_aC, wn_call, wn_tb, wn_tup, wn_lst, wn_andB, wn_orB, wn_notB, wn_andV, wn_orV, wn_notV, wn_ifV, wn_iA, wn_iR1, wn_iR2, wn_iZ, wn_iEn, wn_iRR, wn_sl, wn_p0, wn_p1, wn_up, wn_upB, wn_upI, wn_x2, wn_x0, wn_xC, wn_xN, wn_xb, wn_xAnd, wn_xOr, wn_xNot, wn_xIf, wn_xCall, wn_xR1, wn_xR2, sn_nx, sn_rt, sn_bk, sn_ct, sn_seq, sn_set, sn_ret, sn_expr, sn_if, sn_for, sn_xSet, sn_xRet, sn_xExpr, sn_xIf, sn_xFor, sn_asg, sn_xAsg, sn_own, sn_xOwn, gv_zero, gv_succ, go_own, go_dat, go_succ, k0_def, gN_def, tru_bool, tru_none, tru_int, tru_list, asSeq_list, asSeq_tup, addV_int, subV_int, ltA_i, leA_i, gtA_i, geA_i, negV_int, intV_int, lenV_list, lenV_tup, ixV_list, ixV_tup, asInt_int, slV_list, slV_tup, slL_list, revV_tup, revV_list, tupleV_list, listV_list, listV_tup, eqV_str, neV_str, eqV_int, List.set_cons_zero, List.set_cons_succ, List.getElem?_cons_zero, List.getElem?_cons_succ, List.length_cons, List.length_nil, ↓reduceIte, Bool.false_eq_true, Bool.not_true, Bool.not_false, wn_ite, gT2, gT3, neV_tup, eqV_tup, in_tup, notin_tup', lineN_eq, Nat.reduceAdd, Nat.reduceLeDiff, Nat.zero_le, true_and, and_true, List.map_nil, List.map_cons, exists_eq_left', Option.some.injEq, PyData.list.injEq, exists_eq_left, PyData.int.injEq, R.ok.injEq, Sl.own.injEq]
    unfold dueD
    rw [← hb, ← hr]
    show _ = PyData.list (rowsO barG done ++ [])
    rw [List.append_nil]
  · unfold rangeD
    rw [List.range_eq_range']
    exact List.map_congr_left fun i _ => by rw [Int.zero_add]

/-! ### what comes of it -/
def exD (w : Str) (k : Nat) : D := .tuple [.str w, .int ((k : Nat) : Int)]
def checkD (rows : List D) : D := match badI 0 rows with
  | some k => exD "BadBar" k
  | none => .list rows
def outD (t : Str) : D := match rdB barG 0 (wlL t) with
  | some k => exD "BadLine" k
  | none => checkD (rowsO barG (wlL t))
theorem hand_ok {w : Str} {k : Nat} (hw : w = "BadBar" ∨ w = "BadLine") : Sn (((seqS (ifS (orB (notB (tb (isxV [("BarError", true), ("BadShape", true), ("BadBar", true), ("BadLine", true)] 2))) (orB (tb (e2 neV' (isxV [("BarError", false), ("BadShape", false), ("BadBar", false), ("BadLine", true)] 2) (e2 eqV' (xfV [("BarError", true), ("BadShape", true), ("BadBar", true), ("BadLine", true)] true 2) (k0 (.str "BadLine"))))) (tb (isxV [("BarError", false), ("BadShape", true), ("BadBar", false), ("BadLine", false)] 2)))) (seqS (retS (tupV (aC (k0 (.str "kind")) (aC (k0 .none) a0))))
    .nx) .nx)
    (seqS (retS (tupV (aC (xfV [("BarError", true), ("BadShape", true), ("BadBar", true), ("BadLine", true)] true 2) (aC (xfV [("BarError", true), ("BadShape", true), ("BadBar", true), ("BadLine", true)] false 2) a0))))
    .nx))) ((List.replicate 3 Sl.no).set 2 (.x w w (.int ((k : Nat) : Int))))) (fun _ => False) (fun d _ => d = exD w k) (fun _ => False) (fun _ => False) := by
  have x1 : ∀ l b, l.lookup w = some b → isxV l 2 ((List.replicate 3 Sl.no).set 2 (.x w w (.int ((k : Nat) : Int)))) = .ok (.bool b) := fun l b h => isx_eq rfl h
  have y1 : ∀ l, (l.lookup w).isSome = true → xfV l true 2 ((List.replicate 3 Sl.no).set 2 (.x w w (.int ((k : Nat) : Int)))) = .ok (.str w) := fun l h => xf_word rfl h
  have y2 : ∀ l, (l.lookup w).isSome = true → xfV l false 2 ((List.replicate 3 Sl.no).set 2 (.x w w (.int ((k : Nat) : Int)))) = .ok (.int ((k : Nat) : Int)) := fun l h => xf_place rfl h
  generalize (List.replicate 3 Sl.no).set 2 (.x w w (.int ((k : Nat) : Int))) = η1 at x1 y1 y2 ⊢
  rcases hw with rfl | rfl
  · have a1 := x1 [("BarError", true), ("BadShape", true), ("BadBar", true), ("BadLine", true)] true (by decide +kernel)
    have a2 := x1 [("BarError", false), ("BadShape", false), ("BadBar", false), ("BadLine", true)] false (by decide +kernel)
    have a3 := x1 [("BarError", false), ("BadShape", true), ("BadBar", false), ("BadLine", false)] false (by decide +kernel)
    have a4 := y1 [("BarError", true), ("BadShape", true), ("BadBar", true), ("BadLine", true)] (by decide +kernel)
    have a5 := y2 [("BarError", true), ("BadShape", true), ("BadBar", true), ("BadLine", true)] (by decide +kernel)
    have n1 : decide (Str.ofString "BadBar" = Str.ofString "BadLine") = false := by decide +kernel
    have n2 : neV' (.bool false) (.bool false) = some (.bool false) := rfl
    simp only [wn_ok, wn_some, wn_only, wn_noex, wn_e2, wn_e1, wn_eN, wn_a0, wn_aC, wn_call, wn_tb, wn_tup, wn_lst, wn_andB, wn_orB, wn_notB, wn_andV, wn_orV, wn_notV, wn_ifV, wn_iA, wn_iR1, wn_iR2, wn_iZ, wn_iEn, wn_iRR, wn_sl, wn_p0, wn_p1, wn_up, wn_upB, wn_upI, wn_x2, wn_x0, wn_xC, wn_xN, wn_xb, wn_xAnd, wn_xOr, wn_xNot, wn_xIf, wn_xCall, wn_xR1, wn_xR2, sn_nx, sn_rt, sn_bk, sn_ct, sn_seq, sn_set, sn_ret, sn_expr, sn_if, sn_for, sn_xSet, sn_xRet, sn_xExpr, sn_xIf, sn_xFor, sn_asg, sn_xAsg, sn_own, sn_xOwn, gv_zero, gv_succ, go_own, go_dat, go_succ, k0_def, gN_def, tru_bool, tru_none, tru_int, tru_list, asSeq_list, asSeq_tup, addV_int, subV_int, ltA_i, leA_i, gtA_i, geA_i, negV_int, intV_int, lenV_list, lenV_tup, ixV_list, ixV_tup, asInt_int, slV_list, slV_tup, slL_list, revV_tup, revV_list, tupleV_list, listV_list, listV_tup, eqV_str, neV_str, eqV_int, List.set_cons_zero, List.set_cons_succ, List.getElem?_cons_zero, List.getElem?_cons_succ, List.length_cons, List.length_nil, ↓reduceIte, Bool.false_eq_true, Bool.not_true, Bool.not_false, wn_ite, gT2, gT3, neV_tup, eqV_tup, in_tup, notin_tup', lineN_eq, Nat.reduceAdd, Nat.reduceLeDiff, Nat.zero_le, true_and, and_true, List.map_nil, List.map_cons, exists_eq_left', Option.some.injEq, PyData.list.injEq, exists_eq_left, PyData.int.injEq, R.ok.injEq, Sl.own.injEq, a1, a2, a3, a4, a5, n1, n2]
    rfl
  · have a1 := x1 [("BarError", true), ("BadShape", true), ("BadBar", true), ("BadLine", true)] true (by decide +kernel)
    have a2 := x1 [("BarError", false), ("BadShape", false), ("BadBar", false), ("BadLine", true)] true (by decide +kernel)
    have a3 := x1 [("BarError", false), ("BadShape", true), ("BadBar", false), ("BadLine", false)] false (by decide +kernel)
    have a4 := y1 [("BarError", true), ("BadShape", true), ("BadBar", true), ("BadLine", true)] (by decide +kernel)
    have a5 := y2 [("BarError", true), ("BadShape", true), ("BadBar", true), ("BadLine", true)] (by decide +kernel)
    have n1 : decide (Str.ofString "BadLine" = Str.ofString "BadLine") = true := by decide +kernel
    have n2 : neV' (.bool true) (.bool true) = some (.bool false) := rfl
    simp only [wn_ok, wn_some, wn_only, wn_noex, wn_e2, wn_e1, wn_eN, wn_a0, wn_aC, wn_call, wn_tb, wn_tup, wn_lst, wn_andB, wn_orB, wn_notB, wn_andV, wn_orV, wn_notV, wn_ifV, wn_iA, wn_iR1, wn_iR2, wn_iZ, wn_iEn, wn_iRR, wn_sl, wn_p0, wn_p1, wn_up, wn_upB, wn_upI, wn_x2, wn_x0, wn_xC, wn_xN, wn_xb, wn_xAnd, wn_xOr, wn_xNot, wn_xIf, wn_xCall, wn_xR1, wn_xR2, sn_nx, sn_rt, sn_bk, sn_ct, sn_seq, sn_set, sn_ret, sn_expr, sn_if, sn_for, sn_xSet, sn_xRet, sn_xExpr, sn_xIf, sn_xFor, sn_asg, sn_xAsg, sn_own, sn_xOwn, gv_zero, gv_succ, go_own, go_dat, go_succ, k0_def, gN_def, tru_bool, tru_none, tru_int, tru_list, asSeq_list, asSeq_tup, addV_int, subV_int, ltA_i, leA_i, gtA_i, geA_i, negV_int, intV_int, lenV_list, lenV_tup, ixV_list, ixV_tup, asInt_int, slV_list, slV_tup, slL_list, revV_tup, revV_list, tupleV_list, listV_list, listV_tup, eqV_str, neV_str, eqV_int, List.set_cons_zero, List.set_cons_succ, List.getElem?_cons_zero, List.getElem?_cons_succ, List.length_cons, List.length_nil, ↓reduceIte, Bool.false_eq_true, Bool.not_true, Bool.not_false, wn_ite, gT2, gT3, neV_tup, eqV_tup, in_tup, notin_tup', lineN_eq, Nat.reduceAdd, Nat.reduceLeDiff, Nat.zero_le, true_and, and_true, List.map_nil, List.map_cons, exists_eq_left', Option.some.injEq, PyData.list.injEq, exists_eq_left, PyData.int.injEq, R.ok.injEq, Sl.own.injEq, a1, a2, a3, a4, a5, n1, n2]
    rw [decide_true]
    simp only [wn_ok, wn_some, wn_only, wn_noex, wn_e2, wn_e1, wn_eN, wn_a0, wn_aC, wn_call, wn_tb, wn_tup, wn_lst, wn_andB, wn_orB, wn_notB, wn_andV, wn_orV, wn_notV, wn_ifV, wn_iA, wn_iR1, wn_iR2, wn_iZ, wn_iEn, wn_iRR, wn_sl, wn_p0, wn_p1, wn_up, wn_upB, wn_upI, wn_x2, wn_x0, wn_xC, wn_xN, wn_xb, wn_xAnd, wn_xOr, wn_xNot, wn_xIf, wn_xCall, wn_xR1, wn_xR2, sn_nx, sn_rt, sn_bk, sn_ct, sn_seq, sn_set, sn_ret, sn_expr, sn_if, sn_for, sn_xSet, sn_xRet, sn_xExpr, sn_xIf, sn_xFor, sn_asg, sn_xAsg, sn_own, sn_xOwn, gv_zero, gv_succ, go_own, go_dat, go_succ, k0_def, gN_def, tru_bool, tru_none, tru_int, tru_list, asSeq_list, asSeq_tup, addV_int, subV_int, ltA_i, leA_i, gtA_i, geA_i, negV_int, intV_int, lenV_list, lenV_tup, ixV_list, ixV_tup, asInt_int, slV_list, slV_tup, slL_list, revV_tup, revV_list, tupleV_list, listV_list, listV_tup, eqV_str, neV_str, eqV_int, List.set_cons_zero, List.set_cons_succ, List.getElem?_cons_zero, List.getElem?_cons_succ, List.length_cons, List.length_nil, ↓reduceIte, Bool.false_eq_true, Bool.not_true, Bool.not_false, wn_ite, gT2, gT3, neV_tup, eqV_tup, in_tup, notin_tup', lineN_eq, Nat.reduceAdd, Nat.reduceLeDiff, Nat.zero_le, true_and, and_true, List.map_nil, List.map_cons, exists_eq_left', Option.some.injEq, PyData.list.injEq, exists_eq_left, PyData.int.injEq, R.ok.injEq, Sl.own.injEq, n2]
    rfl
theorem out0_ok {t : Str} (hl : t.length ≤ 900) : F__law_outcome [.int 0, .str t] = .ok (outD t) := by
  refine Wn.eq (wn_runD ?_)
  show Sn (G__law_outcome [.d (.int 0), .d (.str t), .no]) _ _ _ _
  unfold G__law_outcome
  rw [sn_seq]
  have hc : callX F_parse_bars (aC (gv 1) a0) [.d (.int 0), .d (.str t), .no] = parO t := parse_ok hl
  refine sn_try ?_
  refine sx_seq (sx_if (Wn.mk (a := true) rfl ?_))
  rw [if_pos rfl]
  refine sx_seq (sx_retR ?_)
  rw [hc]
  unfold parO outD checkD
  cases rdB barG 0 (wlL t) with
  | some k => exact .inr ⟨_, _, _, rfl, by decide +kernel, hand_ok (.inr rfl)⟩
  | none =>
    dsimp only
    cases badI 0 (rowsO barG (wlL t)) with
    | some k => exact .inr ⟨_, _, _, rfl, by decide +kernel, hand_ok (.inl rfl)⟩
    | none => exact .inl ⟨_, rfl, rfl⟩
theorem out1_ok {rows : List D} (hv : ∀ d ∈ rows, Val d) (hl : rows.length ≤ 1000) : F__law_outcome [.int 1, .list rows] = .ok (checkD rows) := by
  refine Wn.eq (wn_runD ?_)
  show Sn (G__law_outcome [.d (.int 1), .d (.list rows), .no]) _ _ _ _
  unfold G__law_outcome
  rw [sn_seq]
  have hc : callX F_check_bars (aC (gv 1) a0) [.d (.int 1), .d (.list rows), .no] = outB (badI 0 rows) := pcheck_ok hv hl
  refine sn_try ?_
  refine sx_seq (sx_if (Wn.mk (a := false) rfl ?_))
  rw [if_neg Bool.false_ne_true]
  refine sx_nx.mpr (sx_seq (sx_expr ?_))
  rw [hc]
  unfold checkD
  cases badI 0 rows with
  | some k => exact .inr ⟨_, _, _, rfl, by decide +kernel, hand_ok (.inl rfl)⟩
  | none =>
    exact .inl ⟨_, rfl, sx_seq (sx_retR (.inl ⟨.list rows, rfl, rfl⟩))⟩

/-! ### the law -/
theorem bar_line_ok {x : Bq} (h : Sb x) : F__bar_line [.int x.1, .int x.2.1, optD x.2.2] = .ok (.str (lineT (wordsB x))) := by
  refine Wn.eq (wn_runD ?_)
  show Sn (G__bar_line [.d (.int x.1), .d (.int x.2.1), .d (optD x.2.2)]) _ _ _ _
  unfold G__bar_line
  obtain ⟨d, b, o⟩ := x
  have s0 := strI_ok h.d
  have s1 := strI_ok h.b
  have j := join_line (l := wordsB (d, b, o)) (show 3 ≤ 1000 by decide) (wordsB_le h)
  cases o with
  | none =>
    have j : joinV " " (.list [.str (numI d), .str (numI b), .str "-"]) = some (.str (lineT (wordsB (d, b, none)))) := j
    simp only [wn_ok, wn_some, wn_only, wn_noex, wn_e2, wn_e1, wn_eN, wn_a0, wn_aC, wn_call, wn_tb, wn_tup, wn_lst, wn_andB, wn_orB, wn_notB, wn_andV, wn_orV, wn_notV, wn_ifV, wn_iA, wn_iR1, wn_iR2, wn_iZ, wn_iEn, wn_iRR, wn_sl, wn_p0, wn_p1, wn_up, wn_upB, wn_upI, wn_x2, wn_x0, wn_xC, wn_xN, wn_xb, wn_xAnd, wn_xOr, wn_xNot, wn_xIf, wn_xCall, wn_xR1, wn_xR2, sn_nx, sn_rt, sn_bk, sn_ct, sn_seq, sn_set, sn_ret, sn_expr, sn_if, sn_for, sn_xSet, sn_xRet, sn_xExpr, sn_xIf, sn_xFor, sn_asg, sn_xAsg, sn_own, sn_xOwn, gv_zero, gv_succ, go_own, go_dat, go_succ, k0_def, gN_def, tru_bool, tru_none, tru_int, tru_list, asSeq_list, asSeq_tup, addV_int, subV_int, ltA_i, leA_i, gtA_i, geA_i, negV_int, intV_int, lenV_list, lenV_tup, ixV_list, ixV_tup, asInt_int, slV_list, slV_tup, slL_list, revV_tup, revV_list, tupleV_list, listV_list, listV_tup, eqV_str, neV_str, eqV_int, List.set_cons_zero, List.set_cons_succ, List.getElem?_cons_zero, List.getElem?_cons_succ, List.length_cons, List.length_nil, ↓reduceIte, Bool.false_eq_true, Bool.not_true, Bool.not_false, wn_ite, gT2, gT3, neV_tup, eqV_tup, in_tup, notin_tup', lineN_eq, Nat.reduceAdd, Nat.reduceLeDiff, Nat.zero_le, true_and, and_true, List.map_nil, List.map_cons, exists_eq_left', Option.some.injEq, PyData.list.injEq, exists_eq_left, PyData.int.injEq, R.ok.injEq, Sl.own.injEq, wn_s2, PyData.str.injEq, optD, isn, isNone, s0, s1, j]
  | some e =>
    have s2 := strI_ok (h.e e rfl)
    have j : joinV " " (.list [.str (numI d), .str (numI b), .str (numI e)]) = some (.str (lineT (wordsB (d, b, some e)))) := j
    simp only [wn_ok, wn_some, wn_only, wn_noex, wn_e2, wn_e1, wn_eN, wn_a0, wn_aC, wn_call, wn_tb, wn_tup, wn_lst, wn_andB, wn_orB, wn_notB, wn_andV, wn_orV, wn_notV, wn_ifV, wn_iA, wn_iR1, wn_iR2, wn_iZ, wn_iEn, wn_iRR, wn_sl, wn_p0, wn_p1, wn_up, wn_upB, wn_upI, wn_x2, wn_x0, wn_xC, wn_xN, wn_xb, wn_xAnd, wn_xOr, wn_xNot, wn_xIf, wn_xCall, wn_xR1, wn_xR2, sn_nx, sn_rt, sn_bk, sn_ct, sn_seq, sn_set, sn_ret, sn_expr, sn_if, sn_for, sn_xSet, sn_xRet, sn_xExpr, sn_xIf, sn_xFor, sn_asg, sn_xAsg, sn_own, sn_xOwn, gv_zero, gv_succ, go_own, go_dat, go_succ, k0_def, gN_def, tru_bool, tru_none, tru_int, tru_list, asSeq_list, asSeq_tup, addV_int, subV_int, ltA_i, leA_i, gtA_i, geA_i, negV_int, intV_int, lenV_list, lenV_tup, ixV_list, ixV_tup, asInt_int, slV_list, slV_tup, slL_list, revV_tup, revV_list, tupleV_list, listV_list, listV_tup, eqV_str, neV_str, eqV_int, List.set_cons_zero, List.set_cons_succ, List.getElem?_cons_zero, List.getElem?_cons_succ, List.length_cons, List.length_nil, ↓reduceIte, Bool.false_eq_true, Bool.not_true, Bool.not_false, wn_ite, gT2, gT3, neV_tup, eqV_tup, in_tup, notin_tup', lineN_eq, Nat.reduceAdd, Nat.reduceLeDiff, Nat.zero_le, true_and, and_true, List.map_nil, List.map_cons, exists_eq_left', Option.some.injEq, PyData.list.injEq, exists_eq_left, PyData.int.injEq, R.ok.injEq, Sl.own.injEq, wn_s2, PyData.str.injEq, optD, isn, isNone, s0, s1, s2, j]
theorem lim_words {xs : List Bq} (h : ∀ x ∈ xs, Sb x) : Lim xs.length 3 (xs.map wordsB) :=
  ⟨by rw [List.length_map]; exact Nat.le_refl _, fun l m => by
    obtain ⟨x, mx, rfl⟩ := List.mem_map.mp m
    exact ⟨Nat.le_refl _, wordsB_le (h x mx)⟩⟩
def onL (f : Bq → Str) : D → D
  | .tuple [.int d, .int b, .int e] => .str (f (d, b, some e))
  | .tuple [.int d, .int b, .none] => .str (f (d, b, none))
  | _ => .none
theorem onL_b (f : Bq → Str) (x : Bq) : onL f (bqD x) = .str (f x) := by
  obtain ⟨d, b, o⟩ := x
  cases o <;> rfl
theorem onLs (f : Bq → Str) (xs : List Bq) : ((xs.map bqD).filter fun _ => true).map (onL f) = (xs.map f).map PyData.str := by
  rw [List.filter_eq_self.mpr fun _ _ => rfl, List.map_map, List.map_map]
  exact List.map_congr_left fun x _ => onL_b f x
def onW : D → D
  | .tuple [.int d, .int b, .int e] => lineD (wordsB (d, b, some e))
  | .tuple [.int d, .int b, .none] => lineD (wordsB (d, b, none))
  | _ => .none
theorem onWs (xs : List Bq) : ((xs.map bqD).filter fun _ => true).map onW = (xs.map wordsB).map lineD := by
  rw [List.filter_eq_self.mpr fun _ _ => rfl, List.map_map, List.map_map]
  refine List.map_congr_left fun x _ => ?_
  obtain ⟨d, b, o⟩ := x
  cases o <;> rfl
theorem onW_b (x : Bq) : onW (bqD x) = lineD (wordsB x) := by
  obtain ⟨d, b, o⟩ := x
  cases o <;> rfl
theorem format_ok {xs : List Bq} (h : ∀ x ∈ xs, Sb x) (hl : xs.length ≤ 1000) : F_format_bars [.list (xs.map bqD)] = .ok (.str (textOf (xs.map wordsB))) := by
  refine Wn.eq (wn_runD ?_)
  show Sn (G_format_bars [.d (.list (xs.map bqD)), .no, .no, .no]) _ _ _ _
  unfold G_format_bars
  simp only [wn_ok, wn_some, wn_only, wn_noex, wn_e2, wn_e1, wn_eN, wn_a0, wn_aC, wn_call, wn_tb, wn_tup, wn_lst, wn_andB, wn_orB, wn_notB, wn_andV, wn_orV, wn_notV, wn_ifV, wn_iA, wn_iR1, wn_iR2, wn_iZ, wn_iEn, wn_iRR, wn_sl, wn_p0, wn_p1, wn_up, wn_upB, wn_upI, wn_x2, wn_x0, wn_xC, wn_xN, wn_xb, wn_xAnd, wn_xOr, wn_xNot, wn_xIf, wn_xCall, wn_xR1, wn_xR2, sn_nx, sn_rt, sn_bk, sn_ct, sn_seq, sn_set, sn_ret, sn_expr, sn_if, sn_for, sn_xSet, sn_xRet, sn_xExpr, sn_xIf, sn_xFor, sn_asg, sn_xAsg, sn_own, sn_xOwn, gv_zero, gv_succ, go_own, go_dat, go_succ, k0_def, gN_def, tru_bool, tru_none, tru_int, tru_list, asSeq_list, asSeq_tup, addV_int, subV_int, ltA_i, leA_i, gtA_i, geA_i, negV_int, intV_int, lenV_list, lenV_tup, ixV_list, ixV_tup, asInt_int, slV_list, slV_tup, slL_list, revV_tup, revV_list, tupleV_list, listV_list, listV_tup, eqV_str, neV_str, eqV_int, List.set_cons_zero, List.set_cons_succ, List.getElem?_cons_zero, List.getElem?_cons_succ, List.length_cons, List.length_nil, ↓reduceIte, Bool.false_eq_true, Bool.not_true, Bool.not_false, wn_ite, gT2, gT3, neV_tup, eqV_tup, in_tup, notin_tup', lineN_eq, Nat.reduceAdd, Nat.reduceLeDiff, Nat.zero_le, true_and, and_true, List.map_nil, List.map_cons, exists_eq_left', Option.some.injEq, PyData.list.injEq, exists_eq_left, PyData.int.injEq, R.ok.injEq, Sl.own.injEq, wn_s2, PyData.str.injEq]
  refine wn_comp (xs := xs.map bqD) (fun _ => true) (onL fun x => lineT (wordsB x)) ?_ ?_ ?_ ?_
  · simp only [wn_ok, wn_some, wn_only, wn_noex, wn_e2, wn_e1, wn_eN, wn_a0, wn_aC, wn_call, wn_tb, wn_tup, wn_lst, wn_andB, wn_orB, wn_notB, wn_andV, wn_orV, wn_notV, wn_ifV, wn_iA, wn_iR1, wn_iR2, wn_iZ, wn_iEn, wn_iRR, wn_sl, wn_p0, wn_p1, wn_up, wn_upB, wn_upI, wn_x2, wn_x0, wn_xC, wn_xN, wn_xb, wn_xAnd, wn_xOr, wn_xNot, wn_xIf, wn_xCall, wn_xR1, wn_xR2, sn_nx, sn_rt, sn_bk, sn_ct, sn_seq, sn_set, sn_ret, sn_expr, sn_if, sn_for, sn_xSet, sn_xRet, sn_xExpr, sn_xIf, sn_xFor, sn_asg, sn_xAsg, sn_own, sn_xOwn, gv_zero, gv_succ, go_own, go_dat, go_succ, k0_def, gN_def, tru_bool, tru_none, tru_int, tru_list, asSeq_list, asSeq_tup, addV_int, subV_int, ltA_i, leA_i, gtA_i, geA_i, negV_int, intV_int, lenV_list, lenV_tup, ixV_list, ixV_tup, asInt_int, slV_list, slV_tup, slL_list, revV_tup, revV_list, tupleV_list, listV_list, listV_tup, eqV_str, neV_str, eqV_int, List.set_cons_zero, List.set_cons_succ, List.getElem?_cons_zero, List.getElem?_cons_succ, List.length_cons, List.length_nil, ↓reduceIte, Bool.false_eq_true, Bool.not_true, Bool.not_false, wn_ite, gT2, gT3, neV_tup, eqV_tup, in_tup, notin_tup', lineN_eq, Nat.reduceAdd, Nat.reduceLeDiff, Nat.zero_le, true_and, and_true, List.map_nil, List.map_cons, exists_eq_left', Option.some.injEq, PyData.list.injEq, exists_eq_left, PyData.int.injEq, R.ok.injEq, Sl.own.injEq]
  · intro y m
    obtain ⟨x, mx, rfl⟩ := List.mem_map.mp m
    refine ⟨[.d (.list (xs.map bqD)), .d (.int x.1), .d (.int x.2.1), .d (optD x.2.2)], rfl, wn_ok.mpr ⟨rfl, fun _ => ?_⟩⟩
    simp only [wn_ok, wn_some, wn_only, wn_noex, wn_e2, wn_e1, wn_eN, wn_a0, wn_aC, wn_call, wn_tb, wn_tup, wn_lst, wn_andB, wn_orB, wn_notB, wn_andV, wn_orV, wn_notV, wn_ifV, wn_iA, wn_iR1, wn_iR2, wn_iZ, wn_iEn, wn_iRR, wn_sl, wn_p0, wn_p1, wn_up, wn_upB, wn_upI, wn_x2, wn_x0, wn_xC, wn_xN, wn_xb, wn_xAnd, wn_xOr, wn_xNot, wn_xIf, wn_xCall, wn_xR1, wn_xR2, sn_nx, sn_rt, sn_bk, sn_ct, sn_seq, sn_set, sn_ret, sn_expr, sn_if, sn_for, sn_xSet, sn_xRet, sn_xExpr, sn_xIf, sn_xFor, sn_asg, sn_xAsg, sn_own, sn_xOwn, gv_zero, gv_succ, go_own, go_dat, go_succ, k0_def, gN_def, tru_bool, tru_none, tru_int, tru_list, asSeq_list, asSeq_tup, addV_int, subV_int, ltA_i, leA_i, gtA_i, geA_i, negV_int, intV_int, lenV_list, lenV_tup, ixV_list, ixV_tup, asInt_int, slV_list, slV_tup, slL_list, revV_tup, revV_list, tupleV_list, listV_list, listV_tup, eqV_str, neV_str, eqV_int, List.set_cons_zero, List.set_cons_succ, List.getElem?_cons_zero, List.getElem?_cons_succ, List.length_cons, List.length_nil, ↓reduceIte, Bool.false_eq_true, Bool.not_true, Bool.not_false, wn_ite, gT2, gT3, neV_tup, eqV_tup, in_tup, notin_tup', lineN_eq, Nat.reduceAdd, Nat.reduceLeDiff, Nat.zero_le, true_and, and_true, List.map_nil, List.map_cons, exists_eq_left', Option.some.injEq, PyData.list.injEq, exists_eq_left, PyData.int.injEq, R.ok.injEq, Sl.own.injEq, bar_line_ok (h x mx)]
    rw [onL_b]
  · rw [List.length_map, lineN_eq]; omega
  · rw [onLs]
    have j := join_text (lim_words h) hl (by decide)
    have e : (xs.map fun x => lineT (wordsB x)) = (xs.map wordsB).map lineT := by rw [List.map_map]; rfl
    rw [e, j]
    exact Wn.mk rfl rfl
theorem fine_rowB {x : Bq} (h : Sb x) : Fine 1 200 (bqD x) := by
  refine (fine_tuple (k := 0) (n := 41) fun y m => ?_).mono (Nat.le_refl _) (by simp)
  simp only [List.mem_cons, List.not_mem_nil, or_false] at m
  have hd := h.d
  have hb := h.b
  unfold Sm at hd hb
  rcases m with rfl | rfl | rfl
  · exact fine_int (by omega) (by omega)
  · exact fine_int (by omega) (by omega)
  · cases ho : x.2.2 with
    | none => exact fine_none.mono (by decide) (by decide)
    | some z =>
      have he := h.e z ho
      unfold Sm at he
      exact fine_int (by omega) (by omega)
theorem fine_rows_ {xs : List Bq} (h : ∀ x ∈ xs, Sb x) (hl : xs.length ≤ 1000) : Fine 2 300000 (.list (xs.map bqD)) := by
  refine (fine_list (k := 1) (n := 200) (xs := xs.map bqD) fun d m => ?_).mono (Nat.le_refl _) ?_
  · obtain ⟨x, mx, rfl⟩ := List.mem_map.mp m
    exact fine_rowB (h x mx)
  · rw [List.length_map]; omega
theorem fine_BB : Fine 0 41 (.str "BadBar") := fine_str (by decide +kernel) (by decide +kernel) (by decide +kernel)
theorem fine_BL : Fine 0 41 (.str "BadLine") := fine_str (by decide +kernel) (by decide +kernel) (by decide +kernel)
theorem fine_ex {w : Str} {k : Nat} (h : Fine 0 41 (.str w)) (hk : k ≤ 100000) : Fine 2 300000 (exD w k) := by
  refine (fine_tuple (k := 0) (n := 41) fun y m => ?_).mono (by decide) (by simp)
  simp only [List.mem_cons, List.not_mem_nil, or_false] at m
  rcases m with rfl | rfl
  · exact h
  · exact fine_int (by omega) (by omega)
theorem badI_lt : ∀ {i : Nat} {ds : List D} {k : Nat}, badI i ds = some k → k < i + ds.length
  | _, [], _, h => nomatch h
  | i, d :: ds, k, h => by
    unfold badI at h
    rw [List.length_cons]
    split at h
    · have := badI_lt h
      omega
    · cases h
      omega
theorem out_fine {t : Str} (hl : t.length ≤ 900) : Fine 2 300000 (outD t) := by
  have cnt := wl_cnt t
  unfold outD
  cases hr : rdB barG 0 (wlL t) with
  | some k =>
    have := rdB_lt hr
    exact fine_ex fine_BL (by omega)
  | none =>
    dsimp only
    unfold checkD
    obtain ⟨xs, h1, h2, h3⟩ := rows_bq hr
    have lx : xs.length ≤ 1000 := by
      have := congrArg List.length h3
      rw [List.length_map] at this
      omega
    cases hb : badI 0 (rowsO barG (wlL t)) with
    | some k =>
      have := badI_lt hb
      rw [h2, List.length_map] at this
      exact fine_ex fine_BB (by omega)
    | none =>
      dsimp only
      rw [h2]
      exact fine_rows_ h1 lx

theorem bar_ex (c : Int) : ∃ x : Bq, Gb x ∧ F__law_bar [.int c] = .ok (bqD x) := by
  obtain ⟨d, e, x, g, rfl⟩ := (bar_w c (QD := fun d => ∃ x, Gb x ∧ d = bqD x) fun x g => ⟨x, g, rfl⟩).get
  exact ⟨x, g, e⟩
noncomputable def barQ (c : Int) : Bq := Classical.choose (bar_ex c)
theorem barQ_ok (c : Int) : F__law_bar [.int c] = .ok (bqD (barQ c)) := (Classical.choose_spec (bar_ex c)).2
theorem barQ_gb (c : Int) : Gb (barQ c) := (Classical.choose_spec (bar_ex c)).1
noncomputable def goodQ (ns : List Int) (k : Nat) : Bq := barQ (Lw.cell ns (1 + k % 4) + 1009 * k)
noncomputable def goodD (ns : List Int) : D → D
  | .int i => bqD (goodQ ns i.toNat)
  | _ => .none
theorem text_nil : textOf [] = "" := by decide +kernel
theorem wl_text (t : Str) : textOf (wlL t) = t := by
  by_cases c : t = ""
  · subst c
    have : wlL (Str.ofString "") = [] := if_pos rfl
    rw [this]
    exact text_nil
  · exact wl_back c
theorem out_list {t : Str} {l : List D} (h : outD t = .list l) : ∃ xs : List Bq, (∀ x ∈ xs, Sb x) ∧ l = xs.map bqD ∧ xs.map wordsB = wlL t := by
  unfold outD at h
  cases hr : rdB barG 0 (wlL t) with
  | some k => rw [hr] at h; cases h
  | none =>
    rw [hr] at h
    dsimp only at h
    unfold checkD at h
    cases hb : badI 0 (rowsO barG (wlL t)) with
    | some k => rw [hb] at h; cases h
    | none =>
      rw [hb] at h
      dsimp only at h
      cases h
      exact rows_bq hr
theorem out_kind (t : Str) : (∃ l, outD t = .list l) ∨ ∃ w k, outD t = exD w k := by
  unfold outD
  cases rdB barG 0 (wlL t) with
  | some k => exact .inr ⟨_, _, rfl⟩
  | none =>
    dsimp only
    unfold checkD
    cases badI 0 (rowsO barG (wlL t)) with
    | some k => exact .inr ⟨_, _, rfl⟩
    | none => exact .inl ⟨_, rfl⟩
/-- from the text on -/
theorem tail_ok {sc bars given : D} {s1 s6 s7 s8 : Sl} {ls : List (List Str)} (h : Lim 11 6 ls) : Sn ((seqS (setS 5 (s2 joinV (k0 (.str "\n")) (compE (iA (gv 3)) (gN 8) (fun _ => .ok true) (s2 joinV (k0 (.str " ")) (gv 8)) [8])))
    (seqS (setS 6 (lstV a0))
    (seqS (ifS (tb (e2 neV' (gv 5) (k0 (.str "")))) (seqS (setS 6 (callV F__law_read (aC (compE (iA (s2 splitV (gv 5) (k0 (.str "\n")))) (gN 8) (fun _ => .ok true) (s2 splitV (gv 8) (k0 (.str " "))) [8]) a0)))
    .nx) .nx)
    (seqS (ifS (tb (e1 (isiV "int") (gv 6))) (seqS (setS 6 (tupV (aC (k0 (.str "BadLine")) (aC (gv 6) a0))))
    .nx) (seqS (setS 6 (callV F__law_outcome (aC (k0 (.int 1)) (aC (gv 6) a0))))
    .nx))
    (seqS (ifS (andB (tb (e1 (isiV "list") (gv 6))) (tb (e2 neV' (s2 joinV (k0 (.str "\n")) (compE (iA (gv 6)) (gN 7) (fun _ => .ok true) (s2 joinV (k0 (.str " ")) (callV F__law_words (aC (gv 7) a0))) [7])) (gv 5)))) (seqS (retS (k0 (.bool false)))
    .nx) .nx)
    (seqS (retS (andV (e2 eqV' (eN reprV (aC (callV F__law_outcome (aC (k0 (.int 0)) (aC (gv 5) a0))) a0)) (eN reprV (aC (gv 6) a0))) (e2 eqV' (eN reprV (aC (callV F__law_outcome (aC (k0 (.int 0)) (aC (gv 5) a0))) a0)) (eN reprV (aC (gv 6) a0)))))
    .nx)))))) [.d sc, s1, .d bars, .d (.list (ls.map lineD)), .d given, .no, s6, s7, s8]) (fun _ => False) (fun d _ => d = PyData.bool true) (fun _ => False) (fun _ => False) := by
  rw [sn_seq, sn_set, wn_s2]
  refine Wn.mk (a := .str "\n") rfl ⟨_, rfl, ?_⟩
  refine Wn.mk (comp_join (ls := ls) rfl (by simp) h (by decide) (by decide)) ?_
  rw [join_text h (by decide) (by decide)]
  refine Wn.mk (a := .str (textOf ls)) rfl ?_
  have tlen : (textOf ls).length ≤ 900 := Nat.le_trans h.text_len (by decide)
  generalize textOf ls = t at tlen
  rw [sn_seq, sn_set]
  refine Wn.mk (a := .list []) rfl ?_
  have wl := wl_cnt t
  have due : Sn ((ifS (tb (e2 neV' (gv 5) (k0 (.str "")))) (seqS (setS 6 (callV F__law_read (aC (compE (iA (s2 splitV (gv 5) (k0 (.str "\n")))) (gN 8) (fun _ => .ok true) (s2 splitV (gv 8) (k0 (.str " "))) [8]) a0)))
    .nx) .nx) [.d sc, s1, .d bars, .d (.list (ls.map lineD)), .d given, .d (.str t), .d (.list []), s7, s8]) (fun η => η = [.d sc, s1, .d bars, .d (.list (ls.map lineD)), .d given, .d (.str t), .d (dueD (wlL t)), s7, s8]) (fun _ _ => False) (fun _ => False) (fun _ => False) := by
    simp only [wn_ok, wn_some, wn_only, wn_noex, wn_e2, wn_e1, wn_eN, wn_a0, wn_aC, wn_call, wn_tb, wn_tup, wn_lst, wn_andB, wn_orB, wn_notB, wn_andV, wn_orV, wn_notV, wn_ifV, wn_iA, wn_iR1, wn_iR2, wn_iZ, wn_iEn, wn_iRR, wn_sl, wn_p0, wn_p1, wn_up, wn_upB, wn_upI, wn_x2, wn_x0, wn_xC, wn_xN, wn_xb, wn_xAnd, wn_xOr, wn_xNot, wn_xIf, wn_xCall, wn_xR1, wn_xR2, sn_nx, sn_rt, sn_bk, sn_ct, sn_seq, sn_set, sn_ret, sn_expr, sn_if, sn_for, sn_xSet, sn_xRet, sn_xExpr, sn_xIf, sn_xFor, sn_asg, sn_xAsg, sn_own, sn_xOwn, gv_zero, gv_succ, go_own, go_dat, go_succ, k0_def, gN_def, tru_bool, tru_none, tru_int, tru_list, asSeq_list, asSeq_tup, addV_int, subV_int, ltA_i, leA_i, gtA_i, geA_i, negV_int, intV_int, lenV_list, lenV_tup, ixV_list, ixV_tup, asInt_int, slV_list, slV_tup, slL_list, revV_tup, revV_list, tupleV_list, listV_list, listV_tup, eqV_str, neV_str, eqV_int, List.set_cons_zero, List.set_cons_succ, List.getElem?_cons_zero, List.getElem?_cons_succ, List.length_cons, List.length_nil, ↓reduceIte, Bool.false_eq_true, Bool.not_true, Bool.not_false, wn_ite, gT2, gT3, neV_tup, eqV_tup, in_tup, notin_tup', lineN_eq, Nat.reduceAdd, Nat.reduceLeDiff, Nat.zero_le, true_and, and_true, List.map_nil, List.map_cons, exists_eq_left', Option.some.injEq, PyData.list.injEq, exists_eq_left, PyData.int.injEq, R.ok.injEq, Sl.own.injEq, neV_str]
    by_cases c : t = ""
    · subst c
      rw [decide_eq_true rfl]
      rfl
    · rw [decide_eq_false c]
      simp only [Bool.not_false, ↓reduceIte]
      refine Wn.mk (comp_split (t := t) (by omega) c rfl (by simp)) ?_
      have rd : F__law_read [.list ((wlL t).map lineD)] = .ok (dueD (wlL t)) := read_ok (fun l m => by
        obtain ⟨h1, h2⟩ := wl_line m
        exact ⟨by omega, fun w mw => by have := h2 w mw; omega⟩) (by omega)
      simp only [wn_ok, wn_some, wn_only, wn_noex, wn_e2, wn_e1, wn_eN, wn_a0, wn_aC, wn_call, wn_tb, wn_tup, wn_lst, wn_andB, wn_orB, wn_notB, wn_andV, wn_orV, wn_notV, wn_ifV, wn_iA, wn_iR1, wn_iR2, wn_iZ, wn_iEn, wn_iRR, wn_sl, wn_p0, wn_p1, wn_up, wn_upB, wn_upI, wn_x2, wn_x0, wn_xC, wn_xN, wn_xb, wn_xAnd, wn_xOr, wn_xNot, wn_xIf, wn_xCall, wn_xR1, wn_xR2, sn_nx, sn_rt, sn_bk, sn_ct, sn_seq, sn_set, sn_ret, sn_expr, sn_if, sn_for, sn_xSet, sn_xRet, sn_xExpr, sn_xIf, sn_xFor, sn_asg, sn_xAsg, sn_own, sn_xOwn, gv_zero, gv_succ, go_own, go_dat, go_succ, k0_def, gN_def, tru_bool, tru_none, tru_int, tru_list, asSeq_list, asSeq_tup, addV_int, subV_int, ltA_i, leA_i, gtA_i, geA_i, negV_int, intV_int, lenV_list, lenV_tup, ixV_list, ixV_tup, asInt_int, slV_list, slV_tup, slL_list, revV_tup, revV_list, tupleV_list, listV_list, listV_tup, eqV_str, neV_str, eqV_int, List.set_cons_zero, List.set_cons_succ, List.getElem?_cons_zero, List.getElem?_cons_succ, List.length_cons, List.length_nil, ↓reduceIte, Bool.false_eq_true, Bool.not_true, Bool.not_false, wn_ite, gT2, gT3, neV_tup, eqV_tup, in_tup, notin_tup', lineN_eq, Nat.reduceAdd, Nat.reduceLeDiff, Nat.zero_le, true_and, and_true, List.map_nil, List.map_cons, exists_eq_left', Option.some.injEq, PyData.list.injEq, exists_eq_left, PyData.int.injEq, R.ok.injEq, Sl.own.injEq, rd]
  rw [sn_seq]
  refine due.imp ?_ (fun _ _ f => f.elim) (fun _ f => f.elim) (fun _ f => f.elim)
  rintro η rfl
  clear due
  have od : Sn ((ifS (tb (e1 (isiV "int") (gv 6))) (seqS (setS 6 (tupV (aC (k0 (.str "BadLine")) (aC (gv 6) a0))))
    .nx) (seqS (setS 6 (callV F__law_outcome (aC (k0 (.int 1)) (aC (gv 6) a0))))
    .nx)) [.d sc, s1, .d bars, .d (.list (ls.map lineD)), .d given, .d (.str t), .d (dueD (wlL t)), s7, s8]) (fun η => η = [.d sc, s1, .d bars, .d (.list (ls.map lineD)), .d given, .d (.str t), .d (outD t), s7, s8]) (fun _ _ => False) (fun _ => False) (fun _ => False) := by
    unfold dueD outD
    cases hr : rdB barG 0 (wlL t) with
    | some k =>
      dsimp only
      simp only [wn_ok, wn_some, wn_only, wn_noex, wn_e2, wn_e1, wn_eN, wn_a0, wn_aC, wn_call, wn_tb, wn_tup, wn_lst, wn_andB, wn_orB, wn_notB, wn_andV, wn_orV, wn_notV, wn_ifV, wn_iA, wn_iR1, wn_iR2, wn_iZ, wn_iEn, wn_iRR, wn_sl, wn_p0, wn_p1, wn_up, wn_upB, wn_upI, wn_x2, wn_x0, wn_xC, wn_xN, wn_xb, wn_xAnd, wn_xOr, wn_xNot, wn_xIf, wn_xCall, wn_xR1, wn_xR2, sn_nx, sn_rt, sn_bk, sn_ct, sn_seq, sn_set, sn_ret, sn_expr, sn_if, sn_for, sn_xSet, sn_xRet, sn_xExpr, sn_xIf, sn_xFor, sn_asg, sn_xAsg, sn_own, sn_xOwn, gv_zero, gv_succ, go_own, go_dat, go_succ, k0_def, gN_def, tru_bool, tru_none, tru_int, tru_list, asSeq_list, asSeq_tup, addV_int, subV_int, ltA_i, leA_i, gtA_i, geA_i, negV_int, intV_int, lenV_list, lenV_tup, ixV_list, ixV_tup, asInt_int, slV_list, slV_tup, slL_list, revV_tup, revV_list, tupleV_list, listV_list, listV_tup, eqV_str, neV_str, eqV_int, List.set_cons_zero, List.set_cons_succ, List.getElem?_cons_zero, List.getElem?_cons_succ, List.length_cons, List.length_nil, ↓reduceIte, Bool.false_eq_true, Bool.not_true, Bool.not_false, wn_ite, gT2, gT3, neV_tup, eqV_tup, in_tup, notin_tup', lineN_eq, Nat.reduceAdd, Nat.reduceLeDiff, Nat.zero_le, true_and, and_true, List.map_nil, List.map_cons, exists_eq_left', Option.some.injEq, PyData.list.injEq, exists_eq_left, PyData.int.injEq, R.ok.injEq, Sl.own.injEq, isi_int]
      rfl
    | none =>
      dsimp only
      have o1 := out1_ok (rows := rowsO barG (wlL t)) rows_val (by unfold rowsO; rw [List.length_map]; omega)
      simp only [wn_ok, wn_some, wn_only, wn_noex, wn_e2, wn_e1, wn_eN, wn_a0, wn_aC, wn_call, wn_tb, wn_tup, wn_lst, wn_andB, wn_orB, wn_notB, wn_andV, wn_orV, wn_notV, wn_ifV, wn_iA, wn_iR1, wn_iR2, wn_iZ, wn_iEn, wn_iRR, wn_sl, wn_p0, wn_p1, wn_up, wn_upB, wn_upI, wn_x2, wn_x0, wn_xC, wn_xN, wn_xb, wn_xAnd, wn_xOr, wn_xNot, wn_xIf, wn_xCall, wn_xR1, wn_xR2, sn_nx, sn_rt, sn_bk, sn_ct, sn_seq, sn_set, sn_ret, sn_expr, sn_if, sn_for, sn_xSet, sn_xRet, sn_xExpr, sn_xIf, sn_xFor, sn_asg, sn_xAsg, sn_own, sn_xOwn, gv_zero, gv_succ, go_own, go_dat, go_succ, k0_def, gN_def, tru_bool, tru_none, tru_int, tru_list, asSeq_list, asSeq_tup, addV_int, subV_int, ltA_i, leA_i, gtA_i, geA_i, negV_int, intV_int, lenV_list, lenV_tup, ixV_list, ixV_tup, asInt_int, slV_list, slV_tup, slL_list, revV_tup, revV_list, tupleV_list, listV_list, listV_tup, eqV_str, neV_str, eqV_int, List.set_cons_zero, List.set_cons_succ, List.getElem?_cons_zero, List.getElem?_cons_succ, List.length_cons, List.length_nil, ↓reduceIte, Bool.false_eq_true, Bool.not_true, Bool.not_false, wn_ite, gT2, gT3, neV_tup, eqV_tup, in_tup, notin_tup', lineN_eq, Nat.reduceAdd, Nat.reduceLeDiff, Nat.zero_le, true_and, and_true, List.map_nil, List.map_cons, exists_eq_left', Option.some.injEq, PyData.list.injEq, exists_eq_left, PyData.int.injEq, R.ok.injEq, Sl.own.injEq, isi_int, o1]
      simp only [kInt, Bool.false_eq_true, ↓reduceIte]
  rw [sn_seq]
  refine od.imp ?_ (fun _ _ f => f.elim) (fun _ f => f.elim) (fun _ f => f.elim)
  rintro η rfl
  clear od
  have o0 := out0_ok tlen
  have rp : reprV [outD t] = some (.str (outD t).shown) := (out_fine tlen).repr (by decide) (by decide)
  have fin : Sn ((seqS (retS (andV (e2 eqV' (eN reprV (aC (callV F__law_outcome (aC (k0 (.int 0)) (aC (gv 5) a0))) a0)) (eN reprV (aC (gv 6) a0))) (e2 eqV' (eN reprV (aC (callV F__law_outcome (aC (k0 (.int 0)) (aC (gv 5) a0))) a0)) (eN reprV (aC (gv 6) a0)))))
    .nx) [.d sc, s1, .d bars, .d (.list (ls.map lineD)), .d given, .d (.str t), .d (outD t), s7, s8]) (fun _ => False) (fun d _ => d = PyData.bool true) (fun _ => False) (fun _ => False) := by
    simp only [wn_ok, wn_some, wn_only, wn_noex, wn_e2, wn_e1, wn_eN, wn_a0, wn_aC, wn_call, wn_tb, wn_tup, wn_lst, wn_andB, wn_orB, wn_notB, wn_andV, wn_orV, wn_notV, wn_ifV, wn_iA, wn_iR1, wn_iR2, wn_iZ, wn_iEn, wn_iRR, wn_sl, wn_p0, wn_p1, wn_up, wn_upB, wn_upI, wn_x2, wn_x0, wn_xC, wn_xN, wn_xb, wn_xAnd, wn_xOr, wn_xNot, wn_xIf, wn_xCall, wn_xR1, wn_xR2, sn_nx, sn_rt, sn_bk, sn_ct, sn_seq, sn_set, sn_ret, sn_expr, sn_if, sn_for, sn_xSet, sn_xRet, sn_xExpr, sn_xIf, sn_xFor, sn_asg, sn_xAsg, sn_own, sn_xOwn, gv_zero, gv_succ, go_own, go_dat, go_succ, k0_def, gN_def, tru_bool, tru_none, tru_int, tru_list, asSeq_list, asSeq_tup, addV_int, subV_int, ltA_i, leA_i, gtA_i, geA_i, negV_int, intV_int, lenV_list, lenV_tup, ixV_list, ixV_tup, asInt_int, slV_list, slV_tup, slL_list, revV_tup, revV_list, tupleV_list, listV_list, listV_tup, eqV_str, neV_str, eqV_int, List.set_cons_zero, List.set_cons_succ, List.getElem?_cons_zero, List.getElem?_cons_succ, List.length_cons, List.length_nil, ↓reduceIte, Bool.false_eq_true, Bool.not_true, Bool.not_false, wn_ite, gT2, gT3, neV_tup, eqV_tup, in_tup, notin_tup', lineN_eq, Nat.reduceAdd, Nat.reduceLeDiff, Nat.zero_le, true_and, and_true, List.map_nil, List.map_cons, exists_eq_left', Option.some.injEq, PyData.list.injEq, exists_eq_left, PyData.int.injEq, R.ok.injEq, Sl.own.injEq, o0, rp]
    simp
  rw [sn_seq, sn_if]
  rcases out_kind t with ⟨l, hl⟩ | ⟨w, k, hk⟩
  · obtain ⟨xs, h1, h2, h3⟩ := out_list hl
    have lx : xs.length ≤ 1000 := by
      have := congrArg List.length h3
      rw [List.length_map] at this
      omega
    rw [hl, h2] at fin ⊢
    rw [wn_andB]
    refine Wn.mk (a := true) rfl ?_
    simp only [↓reduceIte]
    rw [wn_tb, wn_e2, wn_s2]
    refine Wn.mk (a := .str "\n") rfl ⟨_, rfl, ?_⟩
    refine wn_comp (xs := xs.map bqD) (fun _ => true) (onL fun x => lineT (wordsB x)) ?_ ?_ ?_ ?_
    · simp only [wn_ok, wn_some, wn_only, wn_noex, wn_e2, wn_e1, wn_eN, wn_a0, wn_aC, wn_call, wn_tb, wn_tup, wn_lst, wn_andB, wn_orB, wn_notB, wn_andV, wn_orV, wn_notV, wn_ifV, wn_iA, wn_iR1, wn_iR2, wn_iZ, wn_iEn, wn_iRR, wn_sl, wn_p0, wn_p1, wn_up, wn_upB, wn_upI, wn_x2, wn_x0, wn_xC, wn_xN, wn_xb, wn_xAnd, wn_xOr, wn_xNot, wn_xIf, wn_xCall, wn_xR1, wn_xR2, sn_nx, sn_rt, sn_bk, sn_ct, sn_seq, sn_set, sn_ret, sn_expr, sn_if, sn_for, sn_xSet, sn_xRet, sn_xExpr, sn_xIf, sn_xFor, sn_asg, sn_xAsg, sn_own, sn_xOwn, gv_zero, gv_succ, go_own, go_dat, go_succ, k0_def, gN_def, tru_bool, tru_none, tru_int, tru_list, asSeq_list, asSeq_tup, addV_int, subV_int, ltA_i, leA_i, gtA_i, geA_i, negV_int, intV_int, lenV_list, lenV_tup, ixV_list, ixV_tup, asInt_int, slV_list, slV_tup, slL_list, revV_tup, revV_list, tupleV_list, listV_list, listV_tup, eqV_str, neV_str, eqV_int, List.set_cons_zero, List.set_cons_succ, List.getElem?_cons_zero, List.getElem?_cons_succ, List.length_cons, List.length_nil, ↓reduceIte, Bool.false_eq_true, Bool.not_true, Bool.not_false, wn_ite, gT2, gT3, neV_tup, eqV_tup, in_tup, notin_tup', lineN_eq, Nat.reduceAdd, Nat.reduceLeDiff, Nat.zero_le, true_and, and_true, List.map_nil, List.map_cons, exists_eq_left', Option.some.injEq, PyData.list.injEq, exists_eq_left, PyData.int.injEq, R.ok.injEq, Sl.own.injEq]
    · intro y m
      obtain ⟨x, mx, rfl⟩ := List.mem_map.mp m
      refine ⟨[.d sc, s1, .d bars, .d (.list (ls.map lineD)), .d given, .d (.str t), .d (.list (xs.map bqD)), .d (bqD x), s8], rfl, wn_ok.mpr ⟨rfl, fun _ => ?_⟩⟩
      have j := join_line (l := wordsB x) (show 3 ≤ 1000 by decide) (wordsB_le (h1 x mx))
      simp only [wn_ok, wn_some, wn_only, wn_noex, wn_e2, wn_e1, wn_eN, wn_a0, wn_aC, wn_call, wn_tb, wn_tup, wn_lst, wn_andB, wn_orB, wn_notB, wn_andV, wn_orV, wn_notV, wn_ifV, wn_iA, wn_iR1, wn_iR2, wn_iZ, wn_iEn, wn_iRR, wn_sl, wn_p0, wn_p1, wn_up, wn_upB, wn_upI, wn_x2, wn_x0, wn_xC, wn_xN, wn_xb, wn_xAnd, wn_xOr, wn_xNot, wn_xIf, wn_xCall, wn_xR1, wn_xR2, sn_nx, sn_rt, sn_bk, sn_ct, sn_seq, sn_set, sn_ret, sn_expr, sn_if, sn_for, sn_xSet, sn_xRet, sn_xExpr, sn_xIf, sn_xFor, sn_asg, sn_xAsg, sn_own, sn_xOwn, gv_zero, gv_succ, go_own, go_dat, go_succ, k0_def, gN_def, tru_bool, tru_none, tru_int, tru_list, asSeq_list, asSeq_tup, addV_int, subV_int, ltA_i, leA_i, gtA_i, geA_i, negV_int, intV_int, lenV_list, lenV_tup, ixV_list, ixV_tup, asInt_int, slV_list, slV_tup, slL_list, revV_tup, revV_list, tupleV_list, listV_list, listV_tup, eqV_str, neV_str, eqV_int, List.set_cons_zero, List.set_cons_succ, List.getElem?_cons_zero, List.getElem?_cons_succ, List.length_cons, List.length_nil, ↓reduceIte, Bool.false_eq_true, Bool.not_true, Bool.not_false, wn_ite, gT2, gT3, neV_tup, eqV_tup, in_tup, notin_tup', lineN_eq, Nat.reduceAdd, Nat.reduceLeDiff, Nat.zero_le, true_and, and_true, List.map_nil, List.map_cons, exists_eq_left', Option.some.injEq, PyData.list.injEq, exists_eq_left, PyData.int.injEq, R.ok.injEq, Sl.own.injEq, wn_s2, PyData.str.injEq, words_ok (h1 x mx), j]
      rw [onL_b]
    · rw [List.length_map, lineN_eq]; omega
    · rw [onLs]
      have j := join_text (lim_words h1) lx (by decide)
      have e : (xs.map fun x => lineT (wordsB x)) = (xs.map wordsB).map lineT := by rw [List.map_map]; rfl
      rw [e, j, h3, wl_text]
      simp only [wn_ok, wn_some, wn_only, wn_noex, wn_e2, wn_e1, wn_eN, wn_a0, wn_aC, wn_call, wn_tb, wn_tup, wn_lst, wn_andB, wn_orB, wn_notB, wn_andV, wn_orV, wn_notV, wn_ifV, wn_iA, wn_iR1, wn_iR2, wn_iZ, wn_iEn, wn_iRR, wn_sl, wn_p0, wn_p1, wn_up, wn_upB, wn_upI, wn_x2, wn_x0, wn_xC, wn_xN, wn_xb, wn_xAnd, wn_xOr, wn_xNot, wn_xIf, wn_xCall, wn_xR1, wn_xR2, sn_nx, sn_rt, sn_bk, sn_ct, sn_seq, sn_set, sn_ret, sn_expr, sn_if, sn_for, sn_xSet, sn_xRet, sn_xExpr, sn_xIf, sn_xFor, sn_asg, sn_xAsg, sn_own, sn_xOwn, gv_zero, gv_succ, go_own, go_dat, go_succ, k0_def, gN_def, tru_bool, tru_none, tru_int, tru_list, asSeq_list, asSeq_tup, addV_int, subV_int, ltA_i, leA_i, gtA_i, geA_i, negV_int, intV_int, lenV_list, lenV_tup, ixV_list, ixV_tup, asInt_int, slV_list, slV_tup, slL_list, revV_tup, revV_list, tupleV_list, listV_list, listV_tup, eqV_str, neV_str, eqV_int, List.set_cons_zero, List.set_cons_succ, List.getElem?_cons_zero, List.getElem?_cons_succ, List.length_cons, List.length_nil, ↓reduceIte, Bool.false_eq_true, Bool.not_true, Bool.not_false, wn_ite, gT2, gT3, neV_tup, eqV_tup, in_tup, notin_tup', lineN_eq, Nat.reduceAdd, Nat.reduceLeDiff, Nat.zero_le, true_and, and_true, List.map_nil, List.map_cons, exists_eq_left', Option.some.injEq, PyData.list.injEq, exists_eq_left, PyData.int.injEq, R.ok.injEq, Sl.own.injEq]
      simp only [decide_true, Bool.not_true, Bool.false_eq_true, ↓reduceIte]
      revert fin
      simp only [wn_ok, wn_some, wn_only, wn_noex, wn_e2, wn_e1, wn_eN, wn_a0, wn_aC, wn_call, wn_tb, wn_tup, wn_lst, wn_andB, wn_orB, wn_notB, wn_andV, wn_orV, wn_notV, wn_ifV, wn_iA, wn_iR1, wn_iR2, wn_iZ, wn_iEn, wn_iRR, wn_sl, wn_p0, wn_p1, wn_up, wn_upB, wn_upI, wn_x2, wn_x0, wn_xC, wn_xN, wn_xb, wn_xAnd, wn_xOr, wn_xNot, wn_xIf, wn_xCall, wn_xR1, wn_xR2, sn_nx, sn_rt, sn_bk, sn_ct, sn_seq, sn_set, sn_ret, sn_expr, sn_if, sn_for, sn_xSet, sn_xRet, sn_xExpr, sn_xIf, sn_xFor, sn_asg, sn_xAsg, sn_own, sn_xOwn, gv_zero, gv_succ, go_own, go_dat, go_succ, k0_def, gN_def, tru_bool, tru_none, tru_int, tru_list, asSeq_list, asSeq_tup, addV_int, subV_int, ltA_i, leA_i, gtA_i, geA_i, negV_int, intV_int, lenV_list, lenV_tup, ixV_list, ixV_tup, asInt_int, slV_list, slV_tup, slL_list, revV_tup, revV_list, tupleV_list, listV_list, listV_tup, eqV_str, neV_str, eqV_int, List.set_cons_zero, List.set_cons_succ, List.getElem?_cons_zero, List.getElem?_cons_succ, List.length_cons, List.length_nil, ↓reduceIte, Bool.false_eq_true, Bool.not_true, Bool.not_false, wn_ite, gT2, gT3, neV_tup, eqV_tup, in_tup, notin_tup', lineN_eq, Nat.reduceAdd, Nat.reduceLeDiff, Nat.zero_le, true_and, and_true, List.map_nil, List.map_cons, exists_eq_left', Option.some.injEq, PyData.list.injEq, exists_eq_left, PyData.int.injEq, R.ok.injEq, Sl.own.injEq]
      exact id
  · rw [hk] at fin ⊢
    rw [wn_andB]
    refine Wn.mk (a := false) rfl ?_
    simp only [Bool.false_eq_true, ↓reduceIte]
    exact sn_nx.mpr fin

theorem law_true (ns : List Int) (h : ns.length ≤ 63) : F_law [.list (ns.map PyData.int)] = .ok (.bool true) := by
  refine Wn.eq (wn_runD ?_)
  show Sn (G_law [.d (.list (ns.map PyData.int)), .no, .no, .no, .no, .no, .no, .no, .no]) _ _ _ _
  unfold G_law
  have m9 : ∀ z : Int, modV (.int z) (.int 9) = some (.int (z % 9)) := fun z => modV_int (by decide)
  have m4 : ∀ z : Int, modV (.int z) (.int 4) = some (.int (z % 4)) := fun z => modV_int (by decide)
  have c0 : F__law_cell [.list (ns.map PyData.int), .int 0] = .ok (.int (Lw.cell ns 0)) := by rw [e_cell]; exact Lw.cell_ok ns 0
  rw [sn_seq, sn_set]
  have g0 := Int.emod_nonneg (Lw.cell ns 0) (show (9 : Int) ≠ 0 by decide)
  have g1 := Int.emod_lt_of_pos (Lw.cell ns 0) (show (0 : Int) < 9 by decide)
  generalize hn : Lw.cell ns 0 % 9 = n9 at g0 g1
  refine wn_comp (xs := rangeD 0 n9.toNat) (fun _ => true) (goodD ns) ?_ ?_ ?_ ?_
  · simp only [wn_ok, wn_some, wn_only, wn_noex, wn_e2, wn_e1, wn_eN, wn_a0, wn_aC, wn_call, wn_tb, wn_tup, wn_lst, wn_andB, wn_orB, wn_notB, wn_andV, wn_orV, wn_notV, wn_ifV, wn_iA, wn_iR1, wn_iR2, wn_iZ, wn_iEn, wn_iRR, wn_sl, wn_p0, wn_p1, wn_up, wn_upB, wn_upI, wn_x2, wn_x0, wn_xC, wn_xN, wn_xb, wn_xAnd, wn_xOr, wn_xNot, wn_xIf, wn_xCall, wn_xR1, wn_xR2, sn_nx, sn_rt, sn_bk, sn_ct, sn_seq, sn_set, sn_ret, sn_expr, sn_if, sn_for, sn_xSet, sn_xRet, sn_xExpr, sn_xIf, sn_xFor, sn_asg, sn_xAsg, sn_own, sn_xOwn, gv_zero, gv_succ, go_own, go_dat, go_succ, k0_def, gN_def, tru_bool, tru_none, tru_int, tru_list, asSeq_list, asSeq_tup, addV_int, subV_int, ltA_i, leA_i, gtA_i, geA_i, negV_int, intV_int, lenV_list, lenV_tup, ixV_list, ixV_tup, asInt_int, slV_list, slV_tup, slL_list, revV_tup, revV_list, tupleV_list, listV_list, listV_tup, eqV_str, neV_str, eqV_int, List.set_cons_zero, List.set_cons_succ, List.getElem?_cons_zero, List.getElem?_cons_succ, List.length_cons, List.length_nil, ↓reduceIte, Bool.false_eq_true, Bool.not_true, Bool.not_false, wn_ite, gT2, gT3, neV_tup, eqV_tup, in_tup, notin_tup', lineN_eq, Nat.reduceAdd, Nat.reduceLeDiff, Nat.zero_le, true_and, and_true, List.map_nil, List.map_cons, exists_eq_left', Option.some.injEq, PyData.list.injEq, exists_eq_left, PyData.int.injEq, R.ok.injEq, Sl.own.injEq, c0, m9, hn]
    rw [wn_rng1 g0 (by omega)]
  · intro y m
    obtain ⟨i, mi, rfl⟩ := List.mem_map.mp m
    have mi := List.mem_range.mp mi
    rw [Int.zero_add]
    refine ⟨[.d (.list (ns.map PyData.int)), .d (.int (i : Nat)), .no, .no, .no, .no, .no, .no, .no], rfl, ?_⟩
    rw [wn_ok]
    refine ⟨rfl, fun _ => ?_⟩
    have ci : F__law_cell [.list (ns.map PyData.int), .int (1 + ((i : Nat) : Int) % 4)] = .ok (.int (Lw.cell ns (1 + i % 4))) := by
      rw [e_cell, show (1 + ((i : Nat) : Int) % 4) = ((1 + i % 4 : Nat) : Int) by omega]
      exact Lw.cell_ok ns _
    have mu : mulV (.int 1009) (.int (i : Nat)) = some (.int (1009 * (i : Nat))) := mulV_int (.inl (by decide))
    simp only [wn_ok, wn_some, wn_only, wn_noex, wn_e2, wn_e1, wn_eN, wn_a0, wn_aC, wn_call, wn_tb, wn_tup, wn_lst, wn_andB, wn_orB, wn_notB, wn_andV, wn_orV, wn_notV, wn_ifV, wn_iA, wn_iR1, wn_iR2, wn_iZ, wn_iEn, wn_iRR, wn_sl, wn_p0, wn_p1, wn_up, wn_upB, wn_upI, wn_x2, wn_x0, wn_xC, wn_xN, wn_xb, wn_xAnd, wn_xOr, wn_xNot, wn_xIf, wn_xCall, wn_xR1, wn_xR2, sn_nx, sn_rt, sn_bk, sn_ct, sn_seq, sn_set, sn_ret, sn_expr, sn_if, sn_for, sn_xSet, sn_xRet, sn_xExpr, sn_xIf, sn_xFor, sn_asg, sn_xAsg, sn_own, sn_xOwn, gv_zero, gv_succ, go_own, go_dat, go_succ, k0_def, gN_def, tru_bool, tru_none, tru_int, tru_list, asSeq_list, asSeq_tup, addV_int, subV_int, ltA_i, leA_i, gtA_i, geA_i, negV_int, intV_int, lenV_list, lenV_tup, ixV_list, ixV_tup, asInt_int, slV_list, slV_tup, slL_list, revV_tup, revV_list, tupleV_list, listV_list, listV_tup, eqV_str, neV_str, eqV_int, List.set_cons_zero, List.set_cons_succ, List.getElem?_cons_zero, List.getElem?_cons_succ, List.length_cons, List.length_nil, ↓reduceIte, Bool.false_eq_true, Bool.not_true, Bool.not_false, wn_ite, gT2, gT3, neV_tup, eqV_tup, in_tup, notin_tup', lineN_eq, Nat.reduceAdd, Nat.reduceLeDiff, Nat.zero_le, true_and, and_true, List.map_nil, List.map_cons, exists_eq_left', Option.some.injEq, PyData.list.injEq, exists_eq_left, PyData.int.injEq, R.ok.injEq, Sl.own.injEq, m4, ci, mu, barQ_ok]
    show _ = bqD (goodQ ns ((i : Nat) : Int).toNat)
    rw [Int.toNat_natCast]
    rfl
  · simp [rangeD, lineN_eq]
    omega
  · obtain ⟨good, hgood⟩ : ∃ l, l = (List.range n9.toNat).map (goodQ ns) := ⟨_, rfl⟩
    have gl : good.length ≤ 8 := by rw [hgood, List.length_map, List.length_range]; omega
    have gg : ∀ x ∈ good, Sb x := fun x m => by
      rw [hgood] at m
      obtain ⟨i, _, rfl⟩ := List.mem_map.mp m
      exact (barQ_gb _).sb
    have eg : ((rangeD 0 n9.toNat).filter fun _ => true).map (goodD ns) = good.map bqD := by
      rw [List.filter_eq_self.mpr fun _ _ => rfl, hgood]
      unfold rangeD
      rw [List.map_map, List.map_map]
      refine List.map_congr_left fun i _ => ?_
      show bqD (goodQ ns (0 + ((i : Nat) : Int)).toNat) = _
      rw [Int.zero_add, Int.toNat_natCast]
      rfl
    rw [eg]
    clear eg hgood
    rw [sn_seq, sn_set]
    refine wn_comp (xs := good.map bqD) (fun _ => true) onW ?_ ?_ ?_ ?_
    · simp only [wn_ok, wn_some, wn_only, wn_noex, wn_e2, wn_e1, wn_eN, wn_a0, wn_aC, wn_call, wn_tb, wn_tup, wn_lst, wn_andB, wn_orB, wn_notB, wn_andV, wn_orV, wn_notV, wn_ifV, wn_iA, wn_iR1, wn_iR2, wn_iZ, wn_iEn, wn_iRR, wn_sl, wn_p0, wn_p1, wn_up, wn_upB, wn_upI, wn_x2, wn_x0, wn_xC, wn_xN, wn_xb, wn_xAnd, wn_xOr, wn_xNot, wn_xIf, wn_xCall, wn_xR1, wn_xR2, sn_nx, sn_rt, sn_bk, sn_ct, sn_seq, sn_set, sn_ret, sn_expr, sn_if, sn_for, sn_xSet, sn_xRet, sn_xExpr, sn_xIf, sn_xFor, sn_asg, sn_xAsg, sn_own, sn_xOwn, gv_zero, gv_succ, go_own, go_dat, go_succ, k0_def, gN_def, tru_bool, tru_none, tru_int, tru_list, asSeq_list, asSeq_tup, addV_int, subV_int, ltA_i, leA_i, gtA_i, geA_i, negV_int, intV_int, lenV_list, lenV_tup, ixV_list, ixV_tup, asInt_int, slV_list, slV_tup, slL_list, revV_tup, revV_list, tupleV_list, listV_list, listV_tup, eqV_str, neV_str, eqV_int, List.set_cons_zero, List.set_cons_succ, List.getElem?_cons_zero, List.getElem?_cons_succ, List.length_cons, List.length_nil, ↓reduceIte, Bool.false_eq_true, Bool.not_true, Bool.not_false, wn_ite, gT2, gT3, neV_tup, eqV_tup, in_tup, notin_tup', lineN_eq, Nat.reduceAdd, Nat.reduceLeDiff, Nat.zero_le, true_and, and_true, List.map_nil, List.map_cons, exists_eq_left', Option.some.injEq, PyData.list.injEq, exists_eq_left, PyData.int.injEq, R.ok.injEq, Sl.own.injEq]
    · intro y m
      obtain ⟨x, mx, rfl⟩ := List.mem_map.mp m
      refine ⟨[.d (.list (ns.map PyData.int)), .no, .d (.list (good.map bqD)), .no, .no, .no, .no, .d (bqD x), .no], rfl, wn_ok.mpr ⟨rfl, fun _ => ?_⟩⟩
      simp only [wn_ok, wn_some, wn_only, wn_noex, wn_e2, wn_e1, wn_eN, wn_a0, wn_aC, wn_call, wn_tb, wn_tup, wn_lst, wn_andB, wn_orB, wn_notB, wn_andV, wn_orV, wn_notV, wn_ifV, wn_iA, wn_iR1, wn_iR2, wn_iZ, wn_iEn, wn_iRR, wn_sl, wn_p0, wn_p1, wn_up, wn_upB, wn_upI, wn_x2, wn_x0, wn_xC, wn_xN, wn_xb, wn_xAnd, wn_xOr, wn_xNot, wn_xIf, wn_xCall, wn_xR1, wn_xR2, sn_nx, sn_rt, sn_bk, sn_ct, sn_seq, sn_set, sn_ret, sn_expr, sn_if, sn_for, sn_xSet, sn_xRet, sn_xExpr, sn_xIf, sn_xFor, sn_asg, sn_xAsg, sn_own, sn_xOwn, gv_zero, gv_succ, go_own, go_dat, go_succ, k0_def, gN_def, tru_bool, tru_none, tru_int, tru_list, asSeq_list, asSeq_tup, addV_int, subV_int, ltA_i, leA_i, gtA_i, geA_i, negV_int, intV_int, lenV_list, lenV_tup, ixV_list, ixV_tup, asInt_int, slV_list, slV_tup, slL_list, revV_tup, revV_list, tupleV_list, listV_list, listV_tup, eqV_str, neV_str, eqV_int, List.set_cons_zero, List.set_cons_succ, List.getElem?_cons_zero, List.getElem?_cons_succ, List.length_cons, List.length_nil, ↓reduceIte, Bool.false_eq_true, Bool.not_true, Bool.not_false, wn_ite, gT2, gT3, neV_tup, eqV_tup, in_tup, notin_tup', lineN_eq, Nat.reduceAdd, Nat.reduceLeDiff, Nat.zero_le, true_and, and_true, List.map_nil, List.map_cons, exists_eq_left', Option.some.injEq, PyData.list.injEq, exists_eq_left, PyData.int.injEq, R.ok.injEq, Sl.own.injEq, words_ok (gg x mx)]
      rw [onW_b]
    · rw [List.length_map, lineN_eq]; omega
    · rw [onWs]
      have lim0 := lim_words gg
      have lim8 : Lim 8 3 (good.map wordsB) := ⟨Nat.le_trans lim0.1 gl, lim0.2⟩
      rw [sn_seq, sn_set]
      refine Wn.mk (a := .list (good.map bqD)) rfl ?_
      rw [sn_seq, sn_if]
      have fo := format_ok gg (by omega)
      have rg : reprV [.list (good.map bqD)] = some (.str (PyData.list (good.map bqD)).shown) := (fine_rows_ gg (by omega)).repr (by decide) (by decide)
      have jn : s2 joinV (k0 (.str "\n")) (compE (iA (gv 3)) (gN 8) (fun _ => .ok true) (s2 joinV (k0 (.str " ")) (gv 8)) [8]) [.d (.list (ns.map PyData.int)), .no, .d (.list (good.map bqD)), .d (.list ((good.map wordsB).map lineD)), .d (.list (good.map bqD)), .no, .no, .no, .no] = .ok (.str (textOf (good.map wordsB))) := by
        refine Wn.eq ?_
        rw [wn_s2]
        refine Wn.mk (a := .str "\n") rfl ⟨_, rfl, ?_⟩
        refine Wn.mk (comp_join (ls := good.map wordsB) rfl (by simp) lim8 (by decide) (by decide)) ?_
        rw [join_text lim8 (by decide) (by decide)]
        exact Wn.mk rfl rfl
      have test : orB (tb (e2 neV' (callV F_format_bars (aC (gv 4) a0)) (s2 joinV (k0 (.str "\n")) (compE (iA (gv 3)) (gN 8) (fun _ => .ok true) (s2 joinV (k0 (.str " ")) (gv 8)) [8])))) (tb (e2 neV' (eN reprV (aC (gv 4) a0)) (eN reprV (aC (gv 2) a0)))) [.d (.list (ns.map PyData.int)), .no, .d (.list (good.map bqD)), .d (.list ((good.map wordsB).map lineD)), .d (.list (good.map bqD)), .no, .no, .no, .no] = .ok false := by
        refine Wn.eq ?_
        rw [wn_orB, wn_tb, wn_e2]
        refine Wn.mk (a := .str (textOf (good.map wordsB))) (Wn.eq (by simp only [wn_ok, wn_some, wn_only, wn_noex, wn_e2, wn_e1, wn_eN, wn_a0, wn_aC, wn_call, wn_tb, wn_tup, wn_lst, wn_andB, wn_orB, wn_notB, wn_andV, wn_orV, wn_notV, wn_ifV, wn_iA, wn_iR1, wn_iR2, wn_iZ, wn_iEn, wn_iRR, wn_sl, wn_p0, wn_p1, wn_up, wn_upB, wn_upI, wn_x2, wn_x0, wn_xC, wn_xN, wn_xb, wn_xAnd, wn_xOr, wn_xNot, wn_xIf, wn_xCall, wn_xR1, wn_xR2, sn_nx, sn_rt, sn_bk, sn_ct, sn_seq, sn_set, sn_ret, sn_expr, sn_if, sn_for, sn_xSet, sn_xRet, sn_xExpr, sn_xIf, sn_xFor, sn_asg, sn_xAsg, sn_own, sn_xOwn, gv_zero, gv_succ, go_own, go_dat, go_succ, k0_def, gN_def, tru_bool, tru_none, tru_int, tru_list, asSeq_list, asSeq_tup, addV_int, subV_int, ltA_i, leA_i, gtA_i, geA_i, negV_int, intV_int, lenV_list, lenV_tup, ixV_list, ixV_tup, asInt_int, slV_list, slV_tup, slL_list, revV_tup, revV_list, tupleV_list, listV_list, listV_tup, eqV_str, neV_str, eqV_int, List.set_cons_zero, List.set_cons_succ, List.getElem?_cons_zero, List.getElem?_cons_succ, List.length_cons, List.length_nil, ↓reduceIte, Bool.false_eq_true, Bool.not_true, Bool.not_false, wn_ite, gT2, gT3, neV_tup, eqV_tup, in_tup, notin_tup', lineN_eq, Nat.reduceAdd, Nat.reduceLeDiff, Nat.zero_le, true_and, and_true, List.map_nil, List.map_cons, exists_eq_left', Option.some.injEq, PyData.list.injEq, exists_eq_left, PyData.int.injEq, R.ok.injEq, Sl.own.injEq, fo])) (Wn.mk jn ?_)
        simp only [wn_ok, wn_some, wn_only, wn_noex, wn_e2, wn_e1, wn_eN, wn_a0, wn_aC, wn_call, wn_tb, wn_tup, wn_lst, wn_andB, wn_orB, wn_notB, wn_andV, wn_orV, wn_notV, wn_ifV, wn_iA, wn_iR1, wn_iR2, wn_iZ, wn_iEn, wn_iRR, wn_sl, wn_p0, wn_p1, wn_up, wn_upB, wn_upI, wn_x2, wn_x0, wn_xC, wn_xN, wn_xb, wn_xAnd, wn_xOr, wn_xNot, wn_xIf, wn_xCall, wn_xR1, wn_xR2, sn_nx, sn_rt, sn_bk, sn_ct, sn_seq, sn_set, sn_ret, sn_expr, sn_if, sn_for, sn_xSet, sn_xRet, sn_xExpr, sn_xIf, sn_xFor, sn_asg, sn_xAsg, sn_own, sn_xOwn, gv_zero, gv_succ, go_own, go_dat, go_succ, k0_def, gN_def, tru_bool, tru_none, tru_int, tru_list, asSeq_list, asSeq_tup, addV_int, subV_int, ltA_i, leA_i, gtA_i, geA_i, negV_int, intV_int, lenV_list, lenV_tup, ixV_list, ixV_tup, asInt_int, slV_list, slV_tup, slL_list, revV_tup, revV_list, tupleV_list, listV_list, listV_tup, eqV_str, neV_str, eqV_int, List.set_cons_zero, List.set_cons_succ, List.getElem?_cons_zero, List.getElem?_cons_succ, List.length_cons, List.length_nil, ↓reduceIte, Bool.false_eq_true, Bool.not_true, Bool.not_false, wn_ite, gT2, gT3, neV_tup, eqV_tup, in_tup, notin_tup', lineN_eq, Nat.reduceAdd, Nat.reduceLeDiff, Nat.zero_le, true_and, and_true, List.map_nil, List.map_cons, exists_eq_left', Option.some.injEq, PyData.list.injEq, exists_eq_left, PyData.int.injEq, R.ok.injEq, Sl.own.injEq, neV_str, rg]
        simp
      refine Wn.mk test ?_
      simp only [Bool.false_eq_true, ↓reduceIte]
      refine sn_nx.mpr ?_
      rw [sn_seq, sn_for]
      have c5 : F__law_cell [.list (ns.map PyData.int), .int 5] = .ok (.int (Lw.cell ns 5)) := by rw [e_cell]; exact Lw.cell_ok ns 5
      have t0 := Int.emod_nonneg (Lw.cell ns 5) (show (4 : Int) ≠ 0 by decide)
      have t1 := Int.emod_lt_of_pos (Lw.cell ns 5) (show (0 : Int) < 4 by decide)
      have it : iR1 (aC (e2 modV (eN intV (aC (callV F__law_cell (aC (gv 0) (aC (k0 (.int 5)) a0))) a0)) (k0 (.int 4))) a0) [.d (.list (ns.map PyData.int)), .no, .d (.list (good.map bqD)), .d (.list ((good.map wordsB).map lineD)), .d (.list (good.map bqD)), .no, .no, .no, .no] = .ok (rangeD 0 (Lw.cell ns 5 % 4).toNat) := by
        refine Wn.eq ?_
        simp only [wn_ok, wn_some, wn_only, wn_noex, wn_e2, wn_e1, wn_eN, wn_a0, wn_aC, wn_call, wn_tb, wn_tup, wn_lst, wn_andB, wn_orB, wn_notB, wn_andV, wn_orV, wn_notV, wn_ifV, wn_iA, wn_iR1, wn_iR2, wn_iZ, wn_iEn, wn_iRR, wn_sl, wn_p0, wn_p1, wn_up, wn_upB, wn_upI, wn_x2, wn_x0, wn_xC, wn_xN, wn_xb, wn_xAnd, wn_xOr, wn_xNot, wn_xIf, wn_xCall, wn_xR1, wn_xR2, sn_nx, sn_rt, sn_bk, sn_ct, sn_seq, sn_set, sn_ret, sn_expr, sn_if, sn_for, sn_xSet, sn_xRet, sn_xExpr, sn_xIf, sn_xFor, sn_asg, sn_xAsg, sn_own, sn_xOwn, gv_zero, gv_succ, go_own, go_dat, go_succ, k0_def, gN_def, tru_bool, tru_none, tru_int, tru_list, asSeq_list, asSeq_tup, addV_int, subV_int, ltA_i, leA_i, gtA_i, geA_i, negV_int, intV_int, lenV_list, lenV_tup, ixV_list, ixV_tup, asInt_int, slV_list, slV_tup, slL_list, revV_tup, revV_list, tupleV_list, listV_list, listV_tup, eqV_str, neV_str, eqV_int, List.set_cons_zero, List.set_cons_succ, List.getElem?_cons_zero, List.getElem?_cons_succ, List.length_cons, List.length_nil, ↓reduceIte, Bool.false_eq_true, Bool.not_true, Bool.not_false, wn_ite, gT2, gT3, neV_tup, eqV_tup, in_tup, notin_tup', lineN_eq, Nat.reduceAdd, Nat.reduceLeDiff, Nat.zero_le, true_and, and_true, List.map_nil, List.map_cons, exists_eq_left', Option.some.injEq, PyData.list.injEq, exists_eq_left, PyData.int.injEq, R.ok.injEq, Sl.own.injEq, c5, m4]
        rw [wn_rng1 t0 (by omega)]
      refine Wn.mk it ?_
      generalize Lw.cell ns 5 % 4 = t at t0 t1
      refine sn_loop (fun xs η => ∃ (n : Nat) (ls : List (List Str)) (s1 : Sl), (∀ x ∈ xs, ∃ i : Nat, x = .int (i : Nat)) ∧ n + xs.length ≤ 3 ∧ Lim (8 + n) (3 + n) ls ∧
        η = [.d (.list (ns.map PyData.int)), s1, .d (.list (good.map bqD)), .d (.list (ls.map lineD)), .d (.list (good.map bqD)), .no, .no, .no, .no]) ?_ ?_ _ _ ⟨0, good.map wordsB, .no, ?_, ?_, lim8, rfl⟩
      · rintro x rest η ⟨n, ls, s1, hx, hn, hl, rfl⟩
        obtain ⟨i, rfl⟩ := hx x List.mem_cons_self
        rw [List.length_cons] at hn
        have hx2 : ∀ x ∈ rest, ∃ i : Nat, x = .int (i : Nat) := fun x m => hx x (List.mem_cons_of_mem _ m)
        refine ⟨[.d (.list (ns.map PyData.int)), .d (.int (i : Nat)), .d (.list (good.map bqD)), .d (.list (ls.map lineD)), .d (.list (good.map bqD)), .no, .no, .no, .no], rfl, ?_⟩
        have ci : F__law_cell [.list (ns.map PyData.int), .int (6 + ((i : Nat) : Int))] = .ok (.int (Lw.cell ns (6 + i))) := by
          rw [e_cell, show (6 + ((i : Nat) : Int)) = ((6 + i : Nat) : Int) by omega]
          exact Lw.cell_ok ns _
        simp only [wn_ok, wn_some, wn_only, wn_noex, wn_e2, wn_e1, wn_eN, wn_a0, wn_aC, wn_call, wn_tb, wn_tup, wn_lst, wn_andB, wn_orB, wn_notB, wn_andV, wn_orV, wn_notV, wn_ifV, wn_iA, wn_iR1, wn_iR2, wn_iZ, wn_iEn, wn_iRR, wn_sl, wn_p0, wn_p1, wn_up, wn_upB, wn_upI, wn_x2, wn_x0, wn_xC, wn_xN, wn_xb, wn_xAnd, wn_xOr, wn_xNot, wn_xIf, wn_xCall, wn_xR1, wn_xR2, sn_nx, sn_rt, sn_bk, sn_ct, sn_seq, sn_set, sn_ret, sn_expr, sn_if, sn_for, sn_xSet, sn_xRet, sn_xExpr, sn_xIf, sn_xFor, sn_asg, sn_xAsg, sn_own, sn_xOwn, gv_zero, gv_succ, go_own, go_dat, go_succ, k0_def, gN_def, tru_bool, tru_none, tru_int, tru_list, asSeq_list, asSeq_tup, addV_int, subV_int, ltA_i, leA_i, gtA_i, geA_i, negV_int, intV_int, lenV_list, lenV_tup, ixV_list, ixV_tup, asInt_int, slV_list, slV_tup, slL_list, revV_tup, revV_list, tupleV_list, listV_list, listV_tup, eqV_str, neV_str, eqV_int, List.set_cons_zero, List.set_cons_succ, List.getElem?_cons_zero, List.getElem?_cons_succ, List.length_cons, List.length_nil, ↓reduceIte, Bool.false_eq_true, Bool.not_true, Bool.not_false, wn_ite, gT2, gT3, neV_tup, eqV_tup, in_tup, notin_tup', lineN_eq, Nat.reduceAdd, Nat.reduceLeDiff, Nat.zero_le, true_and, and_true, List.map_nil, List.map_cons, exists_eq_left', Option.some.injEq, PyData.list.injEq, exists_eq_left, PyData.int.injEq, R.ok.injEq, Sl.own.injEq]
        rw [List.length_map]
        by_cases h0 : 0 < ls.length
        · have : decide (0 < ((ls.length : Nat) : Int)) = true := decide_eq_true (by omega)
          rw [this]
          simp only [wn_ok, wn_some, wn_only, wn_noex, wn_e2, wn_e1, wn_eN, wn_a0, wn_aC, wn_call, wn_tb, wn_tup, wn_lst, wn_andB, wn_orB, wn_notB, wn_andV, wn_orV, wn_notV, wn_ifV, wn_iA, wn_iR1, wn_iR2, wn_iZ, wn_iEn, wn_iRR, wn_sl, wn_p0, wn_p1, wn_up, wn_upB, wn_upI, wn_x2, wn_x0, wn_xC, wn_xN, wn_xb, wn_xAnd, wn_xOr, wn_xNot, wn_xIf, wn_xCall, wn_xR1, wn_xR2, sn_nx, sn_rt, sn_bk, sn_ct, sn_seq, sn_set, sn_ret, sn_expr, sn_if, sn_for, sn_xSet, sn_xRet, sn_xExpr, sn_xIf, sn_xFor, sn_asg, sn_xAsg, sn_own, sn_xOwn, gv_zero, gv_succ, go_own, go_dat, go_succ, k0_def, gN_def, tru_bool, tru_none, tru_int, tru_list, asSeq_list, asSeq_tup, addV_int, subV_int, ltA_i, leA_i, gtA_i, geA_i, negV_int, intV_int, lenV_list, lenV_tup, ixV_list, ixV_tup, asInt_int, slV_list, slV_tup, slL_list, revV_tup, revV_list, tupleV_list, listV_list, listV_tup, eqV_str, neV_str, eqV_int, List.set_cons_zero, List.set_cons_succ, List.getElem?_cons_zero, List.getElem?_cons_succ, List.length_cons, List.length_nil, ↓reduceIte, Bool.false_eq_true, Bool.not_true, Bool.not_false, wn_ite, gT2, gT3, neV_tup, eqV_tup, in_tup, notin_tup', lineN_eq, Nat.reduceAdd, Nat.reduceLeDiff, Nat.zero_le, true_and, and_true, List.map_nil, List.map_cons, exists_eq_left', Option.some.injEq, PyData.list.injEq, exists_eq_left, PyData.int.injEq, R.ok.injEq, Sl.own.injEq, ci]
          rw [e_chg]
          refine changed_w (fun c => by rw [e_wo]; exact word_of_ok c) hl h0 (by omega) (by omega) (by omega) fun ls' l' => ?_
          exact ⟨n + 1, ls', _, hx2, by omega, l', rfl⟩
        · have : decide (0 < ((ls.length : Nat) : Int)) = false := decide_eq_false (by omega)
          rw [this]
          simp only [Bool.false_eq_true, ↓reduceIte]
          exact ⟨n, ls, _, hx2, by omega, hl, rfl⟩
      · rintro η ⟨n, ls, s1, _, hn, hl, rfl⟩
        have hn : n ≤ 3 := hn
        exact tail_ok ⟨Nat.le_trans hl.1 (by omega), fun l m => ⟨Nat.le_trans (hl.2 l m).1 (by omega), (hl.2 l m).2⟩⟩
      · intro x m
        obtain ⟨i, _, rfl⟩ := List.mem_map.mp m
        exact ⟨i, by rw [Int.zero_add]⟩
      · have : (rangeD 0 t.toNat).length = t.toNat := by unfold rangeD; rw [List.length_map, List.length_range]
        omega
end Bd
namespace Bd
open PySem L2
set_option maxHeartbeats 4000000 in
theorem all_mk {l : PySem.W.OpenLaw} {w : World} {K : PySem.W.Frag} {h : Heap} {mg : Str → Option Value} {fa : Addr} (X : K.In h) (Gm : h.Ns mainGlobals mg) (hfa : mg "law" = some (.ref fa))
    {f1 f2 f3 f4 f5 f6 f7 f8 f9 f10 f11 f12 f13 f14 f15 f16 f17 f18 f19 f20 f21 : Addr} {od1 an1 od2 an2 od3 an3 od4 an4 od5 an5 od6 an6 od7 an7 od8 an8 od9 an9 od10 an10 od11 an11 od12 an12 od13 an13 od14 an14 od15 an15 od16 an16 od17 an17 od18 an18 od19 an19 od20 an20 od21 an21 : Option Addr} {sl1 sl2 sl3 sl4 sl5 sl6 sl7 sl8 sl9 sl10 sl11 sl12 sl13 sl14 sl15 sl16 sl17 sl18 sl19 sl20 sl21 : Array (Option Value)} {oc1 kV1 dc1 pm1 cd1 ct1 oc2 kV2 dc2 pm2 cd2 ct2 oc3 kV3 dc3 pm3 cd3 ct3 oc4 kV4 dc4 pm4 cd4 ct4 oc5 kV5 dc5 pm5 cd5 ct5 oc6 kV6 dc6 pm6 cd6 ct6 oc7 kV7 dc7 pm7 cd7 ct7 oc8 kV8 dc8 pm8 cd8 ct8 oc9 kV9 dc9 pm9 cd9 ct9 oc10 kV10 dc10 pm10 cd10 ct10 oc11 kV11 dc11 pm11 cd11 ct11 oc12 kV12 dc12 pm12 cd12 ct12 oc13 kV13 dc13 pm13 cd13 ct13 oc14 kV14 dc14 pm14 cd14 ct14 oc15 kV15 dc15 pm15 cd15 ct15 oc16 kV16 dc16 pm16 cd16 ct16 oc17 kV17 dc17 pm17 cd17 ct17 oc18 kV18 dc18 pm18 cd18 ct18 oc19 kV19 dc19 pm19 cd19 ct19 oc20 kV20 dc20 pm20 cd20 ct20 oc21 kV21 dc21 pm21 cd21 ct21 : Value}
    (a1 : PySem.W.nsIn K mainGlobals "is_whole" = some (some (.ref f1))) (l1 : K.lookup f1 = some ⟨oc1, od1, .func (PySem.W.fnOf "is_whole" "is_whole" (defArgs s_is_whole) (defBody s_is_whole) (defScope s_is_whole) .none kV1 dc1 pm1 an1 cd1 ct1), sl1⟩) (c1 : PySem.W.codeIn K cd1 "is_whole" = true) (k1 : PySem.W.keepIn K (.ref f1) = true)
    (a2 : PySem.W.nsIn K mainGlobals "is_height" = some (some (.ref f2))) (l2 : K.lookup f2 = some ⟨oc2, od2, .func (PySem.W.fnOf "is_height" "is_height" (defArgs s_is_height) (defBody s_is_height) (defScope s_is_height) .none kV2 dc2 pm2 an2 cd2 ct2), sl2⟩) (c2 : PySem.W.codeIn K cd2 "is_height" = true) (k2 : PySem.W.keepIn K (.ref f2) = true)
    (a3 : PySem.W.nsIn K mainGlobals "is_bar" = some (some (.ref f3))) (l3 : K.lookup f3 = some ⟨oc3, od3, .func (PySem.W.fnOf "is_bar" "is_bar" (defArgs s_is_bar) (defBody s_is_bar) (defScope s_is_bar) .none kV3 dc3 pm3 an3 cd3 ct3), sl3⟩) (c3 : PySem.W.codeIn K cd3 "is_bar" = true) (k3 : PySem.W.keepIn K (.ref f3) = true)
    (a4 : PySem.W.nsIn K mainGlobals "check_bars" = some (some (.ref f4))) (l4 : K.lookup f4 = some ⟨oc4, od4, .func (PySem.W.fnOf "check_bars" "check_bars" (defArgs s_check_bars) (defBody s_check_bars) (defScope s_check_bars) .none kV4 dc4 pm4 an4 cd4 ct4), sl4⟩) (c4 : PySem.W.codeIn K cd4 "check_bars" = true) (k4 : PySem.W.keepIn K (.ref f4) = true)
    (a5 : PySem.W.nsIn K mainGlobals "_bar_line" = some (some (.ref f5))) (l5 : K.lookup f5 = some ⟨oc5, od5, .func (PySem.W.fnOf "_bar_line" "_bar_line" (defArgs s__bar_line) (defBody s__bar_line) (defScope s__bar_line) .none kV5 dc5 pm5 an5 cd5 ct5), sl5⟩) (c5 : PySem.W.codeIn K cd5 "_bar_line" = true) (k5 : PySem.W.keepIn K (.ref f5) = true)
    (a6 : PySem.W.nsIn K mainGlobals "format_bars" = some (some (.ref f6))) (l6 : K.lookup f6 = some ⟨oc6, od6, .func (PySem.W.fnOf "format_bars" "format_bars" (defArgs s_format_bars) (defBody s_format_bars) (defScope s_format_bars) .none kV6 dc6 pm6 an6 cd6 ct6), sl6⟩) (c6 : PySem.W.codeIn K cd6 "format_bars" = true) (k6 : PySem.W.keepIn K (.ref f6) = true)
    (a7 : PySem.W.nsIn K mainGlobals "_is_number" = some (some (.ref f7))) (l7 : K.lookup f7 = some ⟨oc7, od7, .func (PySem.W.fnOf "_is_number" "_is_number" (defArgs s__is_number) (defBody s__is_number) (defScope s__is_number) .none kV7 dc7 pm7 an7 cd7 ct7), sl7⟩) (c7 : PySem.W.codeIn K cd7 "_is_number" = true) (k7 : PySem.W.keepIn K (.ref f7) = true)
    (a8 : PySem.W.nsIn K mainGlobals "_number_of" = some (some (.ref f8))) (l8 : K.lookup f8 = some ⟨oc8, od8, .func (PySem.W.fnOf "_number_of" "_number_of" (defArgs s__number_of) (defBody s__number_of) (defScope s__number_of) .none kV8 dc8 pm8 an8 cd8 ct8), sl8⟩) (c8 : PySem.W.codeIn K cd8 "_number_of" = true) (k8 : PySem.W.keepIn K (.ref f8) = true)
    (a9 : PySem.W.nsIn K mainGlobals "_bar_of" = some (some (.ref f9))) (l9 : K.lookup f9 = some ⟨oc9, od9, .func (PySem.W.fnOf "_bar_of" "_bar_of" (defArgs s__bar_of) (defBody s__bar_of) (defScope s__bar_of) .none kV9 dc9 pm9 an9 cd9 ct9), sl9⟩) (c9 : PySem.W.codeIn K cd9 "_bar_of" = true) (k9 : PySem.W.keepIn K (.ref f9) = true)
    (a10 : PySem.W.nsIn K mainGlobals "_words_by_line" = some (some (.ref f10))) (l10 : K.lookup f10 = some ⟨oc10, od10, .func (PySem.W.fnOf "_words_by_line" "_words_by_line" (defArgs s__words_by_line) (defBody s__words_by_line) (defScope s__words_by_line) .none kV10 dc10 pm10 an10 cd10 ct10), sl10⟩) (c10 : PySem.W.codeIn K cd10 "_words_by_line" = true) (k10 : PySem.W.keepIn K (.ref f10) = true)
    (a11 : PySem.W.nsIn K mainGlobals "parse_bars" = some (some (.ref f11))) (l11 : K.lookup f11 = some ⟨oc11, od11, .func (PySem.W.fnOf "parse_bars" "parse_bars" (defArgs s_parse_bars) (defBody s_parse_bars) (defScope s_parse_bars) .none kV11 dc11 pm11 an11 cd11 ct11), sl11⟩) (c11 : PySem.W.codeIn K cd11 "parse_bars" = true) (k11 : PySem.W.keepIn K (.ref f11) = true)
    (a12 : PySem.W.nsIn K mainGlobals "_law_cell" = some (some (.ref f12))) (l12 : K.lookup f12 = some ⟨oc12, od12, .func (PySem.W.fnOf "_law_cell" "_law_cell" (defArgs s__law_cell) (defBody s__law_cell) (defScope s__law_cell) .none kV12 dc12 pm12 an12 cd12 ct12), sl12⟩) (c12 : PySem.W.codeIn K cd12 "_law_cell" = true) (k12 : PySem.W.keepIn K (.ref f12) = true)
    (a13 : PySem.W.nsIn K mainGlobals "_law_row" = some (some (.ref f13))) (l13 : K.lookup f13 = some ⟨oc13, od13, .func (PySem.W.fnOf "_law_row" "_law_row" (defArgs s__law_row) (defBody s__law_row) (defScope s__law_row) .none kV13 dc13 pm13 an13 cd13 ct13), sl13⟩) (c13 : PySem.W.codeIn K cd13 "_law_row" = true) (k13 : PySem.W.keepIn K (.ref f13) = true)
    (a14 : PySem.W.nsIn K mainGlobals "_law_number" = some (some (.ref f14))) (l14 : K.lookup f14 = some ⟨oc14, od14, .func (PySem.W.fnOf "_law_number" "_law_number" (defArgs s__law_number) (defBody s__law_number) (defScope s__law_number) .none kV14 dc14 pm14 an14 cd14 ct14), sl14⟩) (c14 : PySem.W.codeIn K cd14 "_law_number" = true) (k14 : PySem.W.keepIn K (.ref f14) = true)
    (a15 : PySem.W.nsIn K mainGlobals "_law_word_of" = some (some (.ref f15))) (l15 : K.lookup f15 = some ⟨oc15, od15, .func (PySem.W.fnOf "_law_word_of" "_law_word_of" (defArgs s__law_word_of) (defBody s__law_word_of) (defScope s__law_word_of) .none kV15 dc15 pm15 an15 cd15 ct15), sl15⟩) (c15 : PySem.W.codeIn K cd15 "_law_word_of" = true) (k15 : PySem.W.keepIn K (.ref f15) = true)
    (a16 : PySem.W.nsIn K mainGlobals "_law_changed" = some (some (.ref f16))) (l16 : K.lookup f16 = some ⟨oc16, od16, .func (PySem.W.fnOf "_law_changed" "_law_changed" (defArgs s__law_changed) (defBody s__law_changed) (defScope s__law_changed) .none kV16 dc16 pm16 an16 cd16 ct16), sl16⟩) (c16 : PySem.W.codeIn K cd16 "_law_changed" = true) (k16 : PySem.W.keepIn K (.ref f16) = true)
    (a17 : PySem.W.nsIn K mainGlobals "_law_bar" = some (some (.ref f17))) (l17 : K.lookup f17 = some ⟨oc17, od17, .func (PySem.W.fnOf "_law_bar" "_law_bar" (defArgs s__law_bar) (defBody s__law_bar) (defScope s__law_bar) .none kV17 dc17 pm17 an17 cd17 ct17), sl17⟩) (c17 : PySem.W.codeIn K cd17 "_law_bar" = true) (k17 : PySem.W.keepIn K (.ref f17) = true)
    (a18 : PySem.W.nsIn K mainGlobals "_law_words" = some (some (.ref f18))) (l18 : K.lookup f18 = some ⟨oc18, od18, .func (PySem.W.fnOf "_law_words" "_law_words" (defArgs s__law_words) (defBody s__law_words) (defScope s__law_words) .none kV18 dc18 pm18 an18 cd18 ct18), sl18⟩) (c18 : PySem.W.codeIn K cd18 "_law_words" = true) (k18 : PySem.W.keepIn K (.ref f18) = true)
    (a19 : PySem.W.nsIn K mainGlobals "_law_read" = some (some (.ref f19))) (l19 : K.lookup f19 = some ⟨oc19, od19, .func (PySem.W.fnOf "_law_read" "_law_read" (defArgs s__law_read) (defBody s__law_read) (defScope s__law_read) .none kV19 dc19 pm19 an19 cd19 ct19), sl19⟩) (c19 : PySem.W.codeIn K cd19 "_law_read" = true) (k19 : PySem.W.keepIn K (.ref f19) = true)
    (a20 : PySem.W.nsIn K mainGlobals "_law_outcome" = some (some (.ref f20))) (l20 : K.lookup f20 = some ⟨oc20, od20, .func (PySem.W.fnOf "_law_outcome" "_law_outcome" (defArgs s__law_outcome) (defBody s__law_outcome) (defScope s__law_outcome) .none kV20 dc20 pm20 an20 cd20 ct20), sl20⟩) (c20 : PySem.W.codeIn K cd20 "_law_outcome" = true) (k20 : PySem.W.keepIn K (.ref f20) = true)
    (a21 : PySem.W.nsIn K mainGlobals "law" = some (some (.ref f21))) (l21 : K.lookup f21 = some ⟨oc21, od21, .func (PySem.W.fnOf "law" "law" (defArgs s_law) (defBody s_law) (defScope s_law) .none kV21 dc21 pm21 an21 cd21 ct21), sl21⟩) (c21 : PySem.W.codeIn K cd21 "law" = true) (k21 : PySem.W.keepIn K (.ref f21) = true)
    {C_BarError fi_BarError N_BarError T_BarError C_BadShape fi_BadShape N_BadShape T_BadShape C_BadBar fi_BadBar N_BadBar T_BadBar C_BadLine fi_BadLine N_BadLine T_BadLine : Addr} {nm_BarError qn_BarError nm_BadShape qn_BadShape nm_BadBar qn_BadBar nm_BadLine qn_BadLine : Str} {bs_BarError sb_BarError bs_BadShape sb_BadShape bs_BadBar sb_BadBar bs_BadLine sb_BadLine : List Value} {sn_BarError sn_BadShape sn_BadBar sn_BadLine : List Str} {ab_BarError ab_BadShape ab_BadBar ab_BadLine : Bool} {co_BarError co_BadShape co_BadBar co_BadLine : Option Bool} {dd_BarError odi_BarError ani_BarError odt_BarError dd_BadShape odi_BadShape ani_BadShape odt_BadShape dd_BadBar odi_BadBar ani_BadBar odt_BadBar dd_BadLine odi_BadLine ani_BadLine odt_BadLine : Option Addr} {u0_BarError u1_BarError u2_BarError u3_BarError u5_BarError u0_BadShape u1_BadShape u2_BadShape u3_BadShape u5_BadShape u0_BadBar u1_BadBar u2_BadBar u3_BadBar u5_BadBar u0_BadLine u1_BadLine u2_BadLine u3_BadLine u5_BadLine : Option Value}
    {oci_BarError kVi_BarError dci_BarError pmi_BarError cdi_BarError cti_BarError oct_BarError oci_BadShape kVi_BadShape dci_BadShape pmi_BadShape cdi_BadShape cti_BadShape oct_BadShape oci_BadBar kVi_BadBar dci_BadBar pmi_BadBar cdi_BadBar cti_BadBar oct_BadBar oci_BadLine kVi_BadLine dci_BadLine pmi_BadLine cdi_BadLine cti_BadLine oct_BadLine : Value} {sli_BarError slt_BarError sli_BadShape slt_BadShape sli_BadBar slt_BadBar sli_BadLine slt_BadLine : Array (Option Value)} {nt_BarError nt_BadShape nt_BadBar nt_BadLine : Nat}
    (e_gs : PySem.W.specialIn K (.builtin "object.__class__") "__get__" = some (some (.builtin "getset_descriptor.__get__"))) (e_tk : PySem.W.takesIn K (.builtin "object.__class__") = some true) (e_vV : PySem.W.findCls K (.type "ValueError") (.type "type") "__init__" = some (.val (.builtin "ValueError.__init__")))
    (e_rd : PySem.W.readsIn K C_BarError (.type "type") = true) (e_ta : PySem.W.specialIn K (.ref C_BarError) "__getattribute__" = some (some (.builtin "type.__getattribute__"))) (e_fc : PySem.W.findCls K (.ref C_BarError) (.type "type") "__init__" = some (.val (.ref fi_BarError)))
    (BarError_ns : PySem.W.nsIn K mainGlobals "BarError" = some (some (.ref C_BarError))) (BarError_lk : K.lookup C_BarError = some (excClassObj nm_BarError qn_BarError C_BarError N_BarError bs_BarError [.type "ValueError", .type "Exception", .type "BaseException", .type "object"] true sn_BarError sb_BarError ab_BarError co_BarError dd_BarError u0_BarError u1_BarError u2_BarError u3_BarError u5_BarError "ValueError.__new__")) (BarError_sa : PySem.W.findIn K (.ref C_BarError) "__setattr__" = some (some (.builtin "object.__setattr__"))) (BarError_ga : PySem.W.findIn K (.ref C_BarError) "__getattribute__" = some (some (.builtin "BaseException.__getattribute__"))) (BarError_gg : PySem.W.findIn K (.ref C_BarError) "__getattr__" = some none) (BarError_ex : PySem.W.subIn K (.ref C_BarError) (.type "BaseException") = some true) (BarError_ty : PySem.W.typeIn K (.ref C_BarError) = some (.type "type")) (BarError_kp : PySem.W.keepIn K (.ref C_BarError) = true) (BarError_hd : PySem.W.hasDictIn K C_BarError = true) (BarError_ic : PySem.W.isClsIn K C_BarError = true) (BarError_w : PySem.W.findIn K (.ref C_BarError) "word" = some none) (BarError_p : PySem.W.findIn K (.ref C_BarError) "place" = some none) (BarError_cl : PySem.W.findIn K (.ref C_BarError) "__class__" = some (some (.builtin "object.__class__"))) (BarError_ob : PySem.W.mroIn K C_BarError (.type "object") = some true) (BarError_ii : PySem.W.findIn K (.ref C_BarError) "__init__" = some (some (.ref fi_BarError))) (BarError_ti : PySem.W.typeIn K (.ref fi_BarError) = some (.type "function")) (BarError_li : K.lookup fi_BarError = some ⟨oci_BarError, odi_BarError, .func (PySem.W.fnOf "__init__" "BarError.__init__" (defArgs (cl_st 1)) (defBody (cl_st 1)) (defScope (cl_st 1)) (.ref T_BarError) kVi_BarError dci_BarError pmi_BarError ani_BarError cdi_BarError cti_BarError), sli_BarError⟩) (BarError_lt : K.lookup T_BarError = some ⟨oct_BarError, odt_BarError, .seq #[Value.none] nt_BarError, slt_BarError⟩) (BarError_cc : PySem.W.codeIn K cdi_BarError "BarError.__init__" = true) (BarError_kf : PySem.W.keepIn K (.ref fi_BarError) = true) (BarError_ve : PySem.W.subIn K (.ref C_BarError) (.type "ValueError") = some true) (BarError_s_BarError : PySem.W.subIn K (.ref C_BarError) (.ref C_BarError) = some true) (BarError_s_BadShape : PySem.W.subIn K (.ref C_BarError) (.ref C_BadShape) = some false) (BarError_s_BadBar : PySem.W.subIn K (.ref C_BarError) (.ref C_BadBar) = some false) (BarError_s_BadLine : PySem.W.subIn K (.ref C_BarError) (.ref C_BadLine) = some false)
    (BadShape_ns : PySem.W.nsIn K mainGlobals "BadShape" = some (some (.ref C_BadShape))) (BadShape_lk : K.lookup C_BadShape = some (excClassObj nm_BadShape qn_BadShape C_BadShape N_BadShape bs_BadShape [.ref C_BarError, .type "ValueError", .type "Exception", .type "BaseException", .type "object"] true sn_BadShape sb_BadShape ab_BadShape co_BadShape dd_BadShape u0_BadShape u1_BadShape u2_BadShape u3_BadShape u5_BadShape "ValueError.__new__")) (BadShape_sa : PySem.W.findIn K (.ref C_BadShape) "__setattr__" = some (some (.builtin "object.__setattr__"))) (BadShape_ga : PySem.W.findIn K (.ref C_BadShape) "__getattribute__" = some (some (.builtin "BaseException.__getattribute__"))) (BadShape_gg : PySem.W.findIn K (.ref C_BadShape) "__getattr__" = some none) (BadShape_ex : PySem.W.subIn K (.ref C_BadShape) (.type "BaseException") = some true) (BadShape_ty : PySem.W.typeIn K (.ref C_BadShape) = some (.type "type")) (BadShape_kp : PySem.W.keepIn K (.ref C_BadShape) = true) (BadShape_hd : PySem.W.hasDictIn K C_BadShape = true) (BadShape_ic : PySem.W.isClsIn K C_BadShape = true) (BadShape_w : PySem.W.findIn K (.ref C_BadShape) "word" = some none) (BadShape_p : PySem.W.findIn K (.ref C_BadShape) "place" = some none) (BadShape_cl : PySem.W.findIn K (.ref C_BadShape) "__class__" = some (some (.builtin "object.__class__"))) (BadShape_ob : PySem.W.mroIn K C_BadShape (.type "object") = some true) (BadShape_ii : PySem.W.findIn K (.ref C_BadShape) "__init__" = some (some (.ref fi_BadShape))) (BadShape_ti : PySem.W.typeIn K (.ref fi_BadShape) = some (.type "function")) (BadShape_li : K.lookup fi_BadShape = some ⟨oci_BadShape, odi_BadShape, .func (PySem.W.fnOf "__init__" "BadShape.__init__" (defArgs (cl_st 2)) (defBody (cl_st 2)) (defScope (cl_st 2)) (.ref T_BadShape) kVi_BadShape dci_BadShape pmi_BadShape ani_BadShape cdi_BadShape cti_BadShape), sli_BadShape⟩) (BadShape_lt : K.lookup T_BadShape = some ⟨oct_BadShape, odt_BadShape, .seq #[Value.none] nt_BadShape, slt_BadShape⟩) (BadShape_cc : PySem.W.codeIn K cdi_BadShape "BadShape.__init__" = true) (BadShape_kf : PySem.W.keepIn K (.ref fi_BadShape) = true) (BadShape_ve : PySem.W.subIn K (.ref C_BadShape) (.type "ValueError") = some true) (BadShape_s_BarError : PySem.W.subIn K (.ref C_BadShape) (.ref C_BarError) = some true) (BadShape_s_BadShape : PySem.W.subIn K (.ref C_BadShape) (.ref C_BadShape) = some true) (BadShape_s_BadBar : PySem.W.subIn K (.ref C_BadShape) (.ref C_BadBar) = some false) (BadShape_s_BadLine : PySem.W.subIn K (.ref C_BadShape) (.ref C_BadLine) = some false)
    (BadBar_ns : PySem.W.nsIn K mainGlobals "BadBar" = some (some (.ref C_BadBar))) (BadBar_lk : K.lookup C_BadBar = some (excClassObj nm_BadBar qn_BadBar C_BadBar N_BadBar bs_BadBar [.ref C_BarError, .type "ValueError", .type "Exception", .type "BaseException", .type "object"] true sn_BadBar sb_BadBar ab_BadBar co_BadBar dd_BadBar u0_BadBar u1_BadBar u2_BadBar u3_BadBar u5_BadBar "ValueError.__new__")) (BadBar_sa : PySem.W.findIn K (.ref C_BadBar) "__setattr__" = some (some (.builtin "object.__setattr__"))) (BadBar_ga : PySem.W.findIn K (.ref C_BadBar) "__getattribute__" = some (some (.builtin "BaseException.__getattribute__"))) (BadBar_gg : PySem.W.findIn K (.ref C_BadBar) "__getattr__" = some none) (BadBar_ex : PySem.W.subIn K (.ref C_BadBar) (.type "BaseException") = some true) (BadBar_ty : PySem.W.typeIn K (.ref C_BadBar) = some (.type "type")) (BadBar_kp : PySem.W.keepIn K (.ref C_BadBar) = true) (BadBar_hd : PySem.W.hasDictIn K C_BadBar = true) (BadBar_ic : PySem.W.isClsIn K C_BadBar = true) (BadBar_w : PySem.W.findIn K (.ref C_BadBar) "word" = some none) (BadBar_p : PySem.W.findIn K (.ref C_BadBar) "place" = some none) (BadBar_cl : PySem.W.findIn K (.ref C_BadBar) "__class__" = some (some (.builtin "object.__class__"))) (BadBar_ob : PySem.W.mroIn K C_BadBar (.type "object") = some true) (BadBar_ii : PySem.W.findIn K (.ref C_BadBar) "__init__" = some (some (.ref fi_BadBar))) (BadBar_ti : PySem.W.typeIn K (.ref fi_BadBar) = some (.type "function")) (BadBar_li : K.lookup fi_BadBar = some ⟨oci_BadBar, odi_BadBar, .func (PySem.W.fnOf "__init__" "BadBar.__init__" (defArgs (cl_st 3)) (defBody (cl_st 3)) (defScope (cl_st 3)) (.ref T_BadBar) kVi_BadBar dci_BadBar pmi_BadBar ani_BadBar cdi_BadBar cti_BadBar), sli_BadBar⟩) (BadBar_lt : K.lookup T_BadBar = some ⟨oct_BadBar, odt_BadBar, .seq #[Value.none] nt_BadBar, slt_BadBar⟩) (BadBar_cc : PySem.W.codeIn K cdi_BadBar "BadBar.__init__" = true) (BadBar_kf : PySem.W.keepIn K (.ref fi_BadBar) = true) (BadBar_ve : PySem.W.subIn K (.ref C_BadBar) (.type "ValueError") = some true) (BadBar_s_BarError : PySem.W.subIn K (.ref C_BadBar) (.ref C_BarError) = some true) (BadBar_s_BadShape : PySem.W.subIn K (.ref C_BadBar) (.ref C_BadShape) = some false) (BadBar_s_BadBar : PySem.W.subIn K (.ref C_BadBar) (.ref C_BadBar) = some true) (BadBar_s_BadLine : PySem.W.subIn K (.ref C_BadBar) (.ref C_BadLine) = some false)
    (BadLine_ns : PySem.W.nsIn K mainGlobals "BadLine" = some (some (.ref C_BadLine))) (BadLine_lk : K.lookup C_BadLine = some (excClassObj nm_BadLine qn_BadLine C_BadLine N_BadLine bs_BadLine [.ref C_BarError, .type "ValueError", .type "Exception", .type "BaseException", .type "object"] true sn_BadLine sb_BadLine ab_BadLine co_BadLine dd_BadLine u0_BadLine u1_BadLine u2_BadLine u3_BadLine u5_BadLine "ValueError.__new__")) (BadLine_sa : PySem.W.findIn K (.ref C_BadLine) "__setattr__" = some (some (.builtin "object.__setattr__"))) (BadLine_ga : PySem.W.findIn K (.ref C_BadLine) "__getattribute__" = some (some (.builtin "BaseException.__getattribute__"))) (BadLine_gg : PySem.W.findIn K (.ref C_BadLine) "__getattr__" = some none) (BadLine_ex : PySem.W.subIn K (.ref C_BadLine) (.type "BaseException") = some true) (BadLine_ty : PySem.W.typeIn K (.ref C_BadLine) = some (.type "type")) (BadLine_kp : PySem.W.keepIn K (.ref C_BadLine) = true) (BadLine_hd : PySem.W.hasDictIn K C_BadLine = true) (BadLine_ic : PySem.W.isClsIn K C_BadLine = true) (BadLine_w : PySem.W.findIn K (.ref C_BadLine) "word" = some none) (BadLine_p : PySem.W.findIn K (.ref C_BadLine) "place" = some none) (BadLine_cl : PySem.W.findIn K (.ref C_BadLine) "__class__" = some (some (.builtin "object.__class__"))) (BadLine_ob : PySem.W.mroIn K C_BadLine (.type "object") = some true) (BadLine_ii : PySem.W.findIn K (.ref C_BadLine) "__init__" = some (some (.ref fi_BadLine))) (BadLine_ti : PySem.W.typeIn K (.ref fi_BadLine) = some (.type "function")) (BadLine_li : K.lookup fi_BadLine = some ⟨oci_BadLine, odi_BadLine, .func (PySem.W.fnOf "__init__" "BadLine.__init__" (defArgs (cl_st 4)) (defBody (cl_st 4)) (defScope (cl_st 4)) (.ref T_BadLine) kVi_BadLine dci_BadLine pmi_BadLine ani_BadLine cdi_BadLine cti_BadLine), sli_BadLine⟩) (BadLine_lt : K.lookup T_BadLine = some ⟨oct_BadLine, odt_BadLine, .seq #[Value.none] nt_BadLine, slt_BadLine⟩) (BadLine_cc : PySem.W.codeIn K cdi_BadLine "BadLine.__init__" = true) (BadLine_kf : PySem.W.keepIn K (.ref fi_BadLine) = true) (BadLine_ve : PySem.W.subIn K (.ref C_BadLine) (.type "ValueError") = some true) (BadLine_s_BarError : PySem.W.subIn K (.ref C_BadLine) (.ref C_BarError) = some true) (BadLine_s_BadShape : PySem.W.subIn K (.ref C_BadLine) (.ref C_BadShape) = some false) (BadLine_s_BadBar : PySem.W.subIn K (.ref C_BadLine) (.ref C_BadBar) = some false) (BadLine_s_BadLine : PySem.W.subIn K (.ref C_BadLine) (.ref C_BadLine) = some true)
    (z_ValueError : PySem.W.nsIn K mainGlobals "ValueError" = some none)
    (z_all : PySem.W.nsIn K mainGlobals "all" = some none)
    (z_bool : PySem.W.nsIn K mainGlobals "bool" = some none)
    (z_enumerate : PySem.W.nsIn K mainGlobals "enumerate" = some none)
    (z_int : PySem.W.nsIn K mainGlobals "int" = some none)
    (z_isinstance : PySem.W.nsIn K mainGlobals "isinstance" = some none)
    (z_len : PySem.W.nsIn K mainGlobals "len" = some none)
    (z_list : PySem.W.nsIn K mainGlobals "list" = some none)
    (z_max : PySem.W.nsIn K mainGlobals "max" = some none)
    (z_min : PySem.W.nsIn K mainGlobals "min" = some none)
    (z_range : PySem.W.nsIn K mainGlobals "range" = some none)
    (z_repr : PySem.W.nsIn K mainGlobals "repr" = some none)
    (z_str : PySem.W.nsIn K mainGlobals "str" = some none)
    (z_tuple : PySem.W.nsIn K mainGlobals "tuple" = some none)
    {t_HEIGHT_MOST : Tok} (z_HEIGHT_MOST : PySem.W.nsIn K mainGlobals "HEIGHT_MOST" = some (some (.int (1000) t_HEIGHT_MOST)))
    {t_DIMENSION_MOST : Tok} (z_DIMENSION_MOST : PySem.W.nsIn K mainGlobals "DIMENSION_MOST" = some (some (.int (2) t_DIMENSION_MOST)))
    {t_DIGITS : Tok} (z_DIGITS : PySem.W.nsIn K mainGlobals "DIGITS" = some (some (.str "0123456789" t_DIGITS)))
    {t_DIGITS_MOST : Tok} (z_DIGITS_MOST : PySem.W.nsIn K mainGlobals "DIGITS_MOST" = some (some (.int (6) t_DIGITS_MOST)))
    {t_NO_END : Tok} (z_NO_END : PySem.W.nsIn K mainGlobals "NO_END" = some (some (.str "-" t_NO_END)))
    : ∃ fd : FuncData, (∀ (s : Shared) (v : Value), BindsTo s fd ⟨[v], []⟩ [("script", v)]) ∧ ∀ base : Heap, K.In base → base.Ns mainGlobals mg → FnG l.prog w K mg base 8 fa fd ["script"] (spD K mg (rD K) 1 F_law) := by
  have e := hfa.symm.trans (PySem.W.mg_of X Gm a21)
  cases e
  have z : Zs mg := ⟨PySem.W.mg_none_of X Gm z_ValueError, PySem.W.mg_none_of X Gm z_all, PySem.W.mg_none_of X Gm z_bool, PySem.W.mg_none_of X Gm z_enumerate, PySem.W.mg_none_of X Gm z_int, PySem.W.mg_none_of X Gm z_isinstance, PySem.W.mg_none_of X Gm z_len, PySem.W.mg_none_of X Gm z_list, PySem.W.mg_none_of X Gm z_max, PySem.W.mg_none_of X Gm z_min, PySem.W.mg_none_of X Gm z_range, PySem.W.mg_none_of X Gm z_repr, PySem.W.mg_none_of X Gm z_str, PySem.W.mg_none_of X Gm z_tuple, ⟨t_HEIGHT_MOST, PySem.W.mg_of X Gm z_HEIGHT_MOST⟩, ⟨t_DIMENSION_MOST, PySem.W.mg_of X Gm z_DIMENSION_MOST⟩, ⟨t_DIGITS, PySem.W.mg_of X Gm z_DIGITS⟩, ⟨t_DIGITS_MOST, PySem.W.mg_of X Gm z_DIGITS_MOST⟩, ⟨t_NO_END, PySem.W.mg_of X Gm z_NO_END⟩⟩
  have m_BarError := PySem.W.mg_of X Gm BarError_ns
  have k_BarError : Xk K "BarError" C_BarError := ⟨BarError_ns, BarError_ga, BarError_gg, BarError_ex, BarError_ty, BarError_hd, BarError_ic, BarError_w, BarError_p, BarError_cl, e_gs, e_tk, BarError_ob⟩
  have o_BarError : XcC K C_BarError := ⟨⟨⟨_, _, _, _, _, _, _, _, _, _, _, _, _, _, _, BarError_lk, by rfl⟩, BarError_sa, BarError_ex, BarError_ty, BarError_kp⟩, BarError_w, BarError_p⟩
  have f_BarError : FunI K "BarError.__init__" (cl_st 1) fi_BarError _ := ⟨⟨_, _, _, _, _, _, _, _, _, _, rfl, BarError_li, BarError_cc, .inr ⟨by simp, T_BarError, _, [Value.none], _, rfl, BarError_lt, rfl, .cons rfl .nil⟩, .inl rfl⟩, BarError_kf⟩
  have m_BadShape := PySem.W.mg_of X Gm BadShape_ns
  have k_BadShape : Xk K "BadShape" C_BadShape := ⟨BadShape_ns, BadShape_ga, BadShape_gg, BadShape_ex, BadShape_ty, BadShape_hd, BadShape_ic, BadShape_w, BadShape_p, BadShape_cl, e_gs, e_tk, BadShape_ob⟩
  have o_BadShape : XcC K C_BadShape := ⟨⟨⟨_, _, _, _, _, _, _, _, _, _, _, _, _, _, _, BadShape_lk, by rfl⟩, BadShape_sa, BadShape_ex, BadShape_ty, BadShape_kp⟩, BadShape_w, BadShape_p⟩
  have f_BadShape : FunI K "BadShape.__init__" (cl_st 2) fi_BadShape _ := ⟨⟨_, _, _, _, _, _, _, _, _, _, rfl, BadShape_li, BadShape_cc, .inr ⟨by simp, T_BadShape, _, [Value.none], _, rfl, BadShape_lt, rfl, .cons rfl .nil⟩, .inl rfl⟩, BadShape_kf⟩
  have m_BadBar := PySem.W.mg_of X Gm BadBar_ns
  have k_BadBar : Xk K "BadBar" C_BadBar := ⟨BadBar_ns, BadBar_ga, BadBar_gg, BadBar_ex, BadBar_ty, BadBar_hd, BadBar_ic, BadBar_w, BadBar_p, BadBar_cl, e_gs, e_tk, BadBar_ob⟩
  have o_BadBar : XcC K C_BadBar := ⟨⟨⟨_, _, _, _, _, _, _, _, _, _, _, _, _, _, _, BadBar_lk, by rfl⟩, BadBar_sa, BadBar_ex, BadBar_ty, BadBar_kp⟩, BadBar_w, BadBar_p⟩
  have f_BadBar : FunI K "BadBar.__init__" (cl_st 3) fi_BadBar _ := ⟨⟨_, _, _, _, _, _, _, _, _, _, rfl, BadBar_li, BadBar_cc, .inr ⟨by simp, T_BadBar, _, [Value.none], _, rfl, BadBar_lt, rfl, .cons rfl .nil⟩, .inl rfl⟩, BadBar_kf⟩
  have m_BadLine := PySem.W.mg_of X Gm BadLine_ns
  have k_BadLine : Xk K "BadLine" C_BadLine := ⟨BadLine_ns, BadLine_ga, BadLine_gg, BadLine_ex, BadLine_ty, BadLine_hd, BadLine_ic, BadLine_w, BadLine_p, BadLine_cl, e_gs, e_tk, BadLine_ob⟩
  have o_BadLine : XcC K C_BadLine := ⟨⟨⟨_, _, _, _, _, _, _, _, _, _, _, _, _, _, _, BadLine_lk, by rfl⟩, BadLine_sa, BadLine_ex, BadLine_ty, BadLine_kp⟩, BadLine_w, BadLine_p⟩
  have f_BadLine : FunI K "BadLine.__init__" (cl_st 4) fi_BadLine _ := ⟨⟨_, _, _, _, _, _, _, _, _, _, rfl, BadLine_li, BadLine_cc, .inr ⟨by simp, T_BadLine, _, [Value.none], _, rfl, BadLine_lt, rfl, .cons rfl .nil⟩, .inl rfl⟩, BadLine_kf⟩
  have ze : Ze K mg := ⟨isa_cons k_BarError m_BarError BarError_ve (isa_cons k_BadShape m_BadShape BadShape_ve (isa_cons k_BadBar m_BadBar BadBar_ve (isa_cons k_BadLine m_BadLine BadLine_ve (isa_nil)))), ⟨C_BarError, k_BarError, m_BarError, BarError_s_BarError, isa_cons k_BarError m_BarError BarError_s_BarError (isa_cons k_BadShape m_BadShape BadShape_s_BarError (isa_cons k_BadBar m_BadBar BadBar_s_BarError (isa_cons k_BadLine m_BadLine BadLine_s_BarError (isa_nil))))⟩, ⟨C_BadShape, k_BadShape, m_BadShape, BadShape_s_BadShape, isa_cons k_BarError m_BarError BarError_s_BadShape (isa_cons k_BadShape m_BadShape BadShape_s_BadShape (isa_cons k_BadBar m_BadBar BadBar_s_BadShape (isa_cons k_BadLine m_BadLine BadLine_s_BadShape (isa_nil))))⟩, ⟨C_BadBar, k_BadBar, m_BadBar, BadBar_s_BadBar, isa_cons k_BarError m_BarError BarError_s_BadBar (isa_cons k_BadShape m_BadShape BadShape_s_BadBar (isa_cons k_BadBar m_BadBar BadBar_s_BadBar (isa_cons k_BadLine m_BadLine BadLine_s_BadBar (isa_nil))))⟩, ⟨C_BadLine, k_BadLine, m_BadLine, BadLine_s_BadLine, isa_cons k_BarError m_BarError BarError_s_BadLine (isa_cons k_BadShape m_BadShape BadShape_s_BadLine (isa_cons k_BadBar m_BadBar BadBar_s_BadLine (isa_cons k_BadLine m_BadLine BadLine_s_BadLine (isa_nil))))⟩⟩
  refine ⟨PySem.W.fnOf "law" "law" (defArgs s_law) (defBody s_law) (defScope s_law) .none kV21 dc21 pm21 an21 cd21 ct21, fun s v => .of_eq rfl, fun base _ _ => ?_⟩
  have x_BadShape : Xc l.prog w K mg base 2 "BadShape" "BadShape" := ⟨C_BadShape, fi_BadShape, _, o_BadShape, BadShape_ii, BadShape_ti, in_BadShape f_BadShape m_BarError ⟨e_rd, e_ta⟩ ⟨e_fc, rfl⟩ BarError_kf (in_BarError f_BarError z e_vV) (bi_BarError f_BarError), bi_BadShape f_BadShape, b0_BadShape f_BadShape, m_BadShape⟩
  have x_BadBar : Xc l.prog w K mg base 2 "BadBar" "BadBar" := ⟨C_BadBar, fi_BadBar, _, o_BadBar, BadBar_ii, BadBar_ti, in_BadBar f_BadBar m_BarError ⟨e_rd, e_ta⟩ ⟨e_fc, rfl⟩ BarError_kf (in_BarError f_BarError z e_vV) (bi_BarError f_BarError), bi_BadBar f_BadBar, b0_BadBar f_BadBar, m_BadBar⟩
  have x_BadLine : Xc l.prog w K mg base 2 "BadLine" "BadLine" := ⟨C_BadLine, fi_BadLine, _, o_BadLine, BadLine_ii, BadLine_ti, in_BadLine f_BadLine m_BarError ⟨e_rd, e_ta⟩ ⟨e_fc, rfl⟩ BarError_kf (in_BarError f_BarError z e_vV) (bi_BarError f_BarError), bi_BadLine f_BadLine, b0_BadLine f_BadLine, m_BadLine⟩
  have d_is_whole := ok_is_whole (P := l.prog) (w := w) (base := base) (fun_mk (st := s_is_whole) l1 c1 k1) z  (PySem.W.mg_of X Gm a1)
  have d_is_height := ok_is_height (P := l.prog) (w := w) (base := base) (fun_mk (st := s_is_height) l2 c2 k2) z d_is_whole (PySem.W.mg_of X Gm a2)
  have d_is_bar := ok_is_bar (P := l.prog) (w := w) (base := base) (fun_mk (st := s_is_bar) l3 c3 k3) z d_is_height d_is_whole (PySem.W.mg_of X Gm a3)
  have d_check_bars := ok_check_bars (P := l.prog) (w := w) (base := base) (fun_mk (st := s_check_bars) l4 c4 k4) z d_is_bar x_BadBar (PySem.W.mg_of X Gm a4)
  have d__bar_line := ok__bar_line (P := l.prog) (w := w) (base := base) (fun_mk (st := s__bar_line) l5 c5 k5) z  (PySem.W.mg_of X Gm a5)
  have d_format_bars := ok_format_bars (P := l.prog) (w := w) (base := base) (fun_mk (st := s_format_bars) l6 c6 k6) z d__bar_line (PySem.W.mg_of X Gm a6)
  have d__is_number := ok__is_number (P := l.prog) (w := w) (base := base) (fun_mk (st := s__is_number) l7 c7 k7) z  (PySem.W.mg_of X Gm a7)
  have d__number_of := ok__number_of (P := l.prog) (w := w) (base := base) (fun_mk (st := s__number_of) l8 c8 k8) z d__is_number x_BadLine (PySem.W.mg_of X Gm a8)
  have d__bar_of := ok__bar_of (P := l.prog) (w := w) (base := base) (fun_mk (st := s__bar_of) l9 c9 k9) z d__number_of x_BadLine (PySem.W.mg_of X Gm a9)
  have d__words_by_line := ok__words_by_line (P := l.prog) (w := w) (base := base) (fun_mk (st := s__words_by_line) l10 c10 k10) z  (PySem.W.mg_of X Gm a10)
  have d_parse_bars := ok_parse_bars (P := l.prog) (w := w) (base := base) (fun_mk (st := s_parse_bars) l11 c11 k11) z d__bar_of d__words_by_line d_check_bars (PySem.W.mg_of X Gm a11)
  have d__law_cell := ok__law_cell (P := l.prog) (w := w) (base := base) (fun_mk (st := s__law_cell) l12 c12 k12) z  (PySem.W.mg_of X Gm a12)
  have d__law_row := ok__law_row (P := l.prog) (w := w) (base := base) (fun_mk (st := s__law_row) l13 c13 k13) z  (PySem.W.mg_of X Gm a13)
  have d__law_number := ok__law_number (P := l.prog) (w := w) (base := base) (fun_mk (st := s__law_number) l14 c14 k14) z  (PySem.W.mg_of X Gm a14)
  have d__law_word_of := ok__law_word_of (P := l.prog) (w := w) (base := base) (fun_mk (st := s__law_word_of) l15 c15 k15) z  (PySem.W.mg_of X Gm a15)
  have d__law_changed := ok__law_changed (P := l.prog) (w := w) (base := base) (fun_mk (st := s__law_changed) l16 c16 k16) z d__law_row d__law_word_of (PySem.W.mg_of X Gm a16)
  have d__law_bar := ok__law_bar (P := l.prog) (w := w) (base := base) (fun_mk (st := s__law_bar) l17 c17 k17) z d__law_row (PySem.W.mg_of X Gm a17)
  have d__law_words := ok__law_words (P := l.prog) (w := w) (base := base) (fun_mk (st := s__law_words) l18 c18 k18) z  (PySem.W.mg_of X Gm a18)
  have d__law_read := ok__law_read (P := l.prog) (w := w) (base := base) (fun_mk (st := s__law_read) l19 c19 k19) z d__law_number (PySem.W.mg_of X Gm a19)
  have d__law_outcome := ok__law_outcome (P := l.prog) (w := w) (base := base) (fun_mk (st := s__law_outcome) l20 c20 k20) z d_check_bars d_parse_bars ze (PySem.W.mg_of X Gm a20)
  exact ok_law (P := l.prog) (w := w) (base := base) (fun_mk (st := s_law) l21 c21 k21) z d__law_bar d__law_cell d__law_changed d__law_outcome d__law_read d__law_words d_format_bars
end Bd
open PySem PySem.W
set_option maxRecDepth 100000 in
set_option maxHeartbeats 0 in
theorem PySem.Challenge.cw_barstay_k10_bars_written_holds : PySem.Challenge.rw_barstay_k10_bars_written.Holds := by
  w_on; o_law; k_head; (case hw => w_witness2)
  k_fill
  refine Bd.walk_end (l := PySem.Challenge.rw_barstay_k10_bars_written) (n := 63) (k := 8) (x := "script") (Fn := Bd.F_law) rfl (by decide) rfl ⟨rfl, by decide, by decide⟩ (fun w h Y => PySem.W.kIn_of Y) ?F (fun ns hl => Bd.law_true ns hl)
  case F =>
    intro w mg fa h KX G hmg
    refine' Bd.all_mk KX G hmg ?a1 ?l1 ?c1 ?k1 ?a2 ?l2 ?c2 ?k2 ?a3 ?l3 ?c3 ?k3 ?a4 ?l4 ?c4 ?k4 ?a5 ?l5 ?c5 ?k5 ?a6 ?l6 ?c6 ?k6 ?a7 ?l7 ?c7 ?k7 ?a8 ?l8 ?c8 ?k8 ?a9 ?l9 ?c9 ?k9 ?a10 ?l10 ?c10 ?k10 ?a11 ?l11 ?c11 ?k11 ?a12 ?l12 ?c12 ?k12 ?a13 ?l13 ?c13 ?k13 ?a14 ?l14 ?c14 ?k14 ?a15 ?l15 ?c15 ?k15 ?a16 ?l16 ?c16 ?k16 ?a17 ?l17 ?c17 ?k17 ?a18 ?l18 ?c18 ?k18 ?a19 ?l19 ?c19 ?k19 ?a20 ?l20 ?c20 ?k20 ?a21 ?l21 ?c21 ?k21 ?e_gs ?e_tk ?e_vV ?e_rd ?e_ta ?e_fc ?BarError_ns ?BarError_lk ?BarError_sa ?BarError_ga ?BarError_gg ?BarError_ex ?BarError_ty ?BarError_kp ?BarError_hd ?BarError_ic ?BarError_w ?BarError_p ?BarError_cl ?BarError_ob ?BarError_ii ?BarError_ti ?BarError_li ?BarError_lt ?BarError_cc ?BarError_kf ?BarError_ve ?BarError_s_BarError ?BarError_s_BadShape ?BarError_s_BadBar ?BarError_s_BadLine ?BadShape_ns ?BadShape_lk ?BadShape_sa ?BadShape_ga ?BadShape_gg ?BadShape_ex ?BadShape_ty ?BadShape_kp ?BadShape_hd ?BadShape_ic ?BadShape_w ?BadShape_p ?BadShape_cl ?BadShape_ob ?BadShape_ii ?BadShape_ti ?BadShape_li ?BadShape_lt ?BadShape_cc ?BadShape_kf ?BadShape_ve ?BadShape_s_BarError ?BadShape_s_BadShape ?BadShape_s_BadBar ?BadShape_s_BadLine ?BadBar_ns ?BadBar_lk ?BadBar_sa ?BadBar_ga ?BadBar_gg ?BadBar_ex ?BadBar_ty ?BadBar_kp ?BadBar_hd ?BadBar_ic ?BadBar_w ?BadBar_p ?BadBar_cl ?BadBar_ob ?BadBar_ii ?BadBar_ti ?BadBar_li ?BadBar_lt ?BadBar_cc ?BadBar_kf ?BadBar_ve ?BadBar_s_BarError ?BadBar_s_BadShape ?BadBar_s_BadBar ?BadBar_s_BadLine ?BadLine_ns ?BadLine_lk ?BadLine_sa ?BadLine_ga ?BadLine_gg ?BadLine_ex ?BadLine_ty ?BadLine_kp ?BadLine_hd ?BadLine_ic ?BadLine_w ?BadLine_p ?BadLine_cl ?BadLine_ob ?BadLine_ii ?BadLine_ti ?BadLine_li ?BadLine_lt ?BadLine_cc ?BadLine_kf ?BadLine_ve ?BadLine_s_BarError ?BadLine_s_BadShape ?BadLine_s_BadBar ?BadLine_s_BadLine ?z_ValueError ?z_all ?z_bool ?z_enumerate ?z_int ?z_isinstance ?z_len ?z_list ?z_max ?z_min ?z_range ?z_repr ?z_str ?z_tuple ?z_HEIGHT_MOST ?z_DIMENSION_MOST ?z_DIGITS ?z_DIGITS_MOST ?z_NO_END
    (case BarError_ns => k_is)
    (case BadShape_ns => k_is)
    (case BadBar_ns => k_is)
    (case BadLine_ns => k_is)
    (case BarError_lk => k_is)
    (case BadShape_lk => k_is)
    (case BadBar_lk => k_is)
    (case BadLine_lk => k_is)
    (case BarError_ii => k_is)
    (case BadShape_ii => k_is)
    (case BadBar_ii => k_is)
    (case BadLine_ii => k_is)
    (case BarError_li => k_is)
    (case BadShape_li => k_is)
    (case BadBar_li => k_is)
    (case BadLine_li => k_is)
    (case BarError_lt => k_is)
    (case BadShape_lt => k_is)
    (case BadBar_lt => k_is)
    (case BadLine_lt => k_is)
    (case a1 => k_is)
    (case l1 => k_is)
    (case c1 => k_is)
    (case k1 => k_is)
    (case a2 => k_is)
    (case l2 => k_is)
    (case c2 => k_is)
    (case k2 => k_is)
    (case a3 => k_is)
    (case l3 => k_is)
    (case c3 => k_is)
    (case k3 => k_is)
    (case a4 => k_is)
    (case l4 => k_is)
    (case c4 => k_is)
    (case k4 => k_is)
    (case a5 => k_is)
    (case l5 => k_is)
    (case c5 => k_is)
    (case k5 => k_is)
    (case a6 => k_is)
    (case l6 => k_is)
    (case c6 => k_is)
    (case k6 => k_is)
    (case a7 => k_is)
    (case l7 => k_is)
    (case c7 => k_is)
    (case k7 => k_is)
    (case a8 => k_is)
    (case l8 => k_is)
    (case c8 => k_is)
    (case k8 => k_is)
    (case a9 => k_is)
    (case l9 => k_is)
    (case c9 => k_is)
    (case k9 => k_is)
    (case a10 => k_is)
    (case l10 => k_is)
    (case c10 => k_is)
    (case k10 => k_is)
    (case a11 => k_is)
    (case l11 => k_is)
    (case c11 => k_is)
    (case k11 => k_is)
    (case a12 => k_is)
    (case l12 => k_is)
    (case c12 => k_is)
    (case k12 => k_is)
    (case a13 => k_is)
    (case l13 => k_is)
    (case c13 => k_is)
    (case k13 => k_is)
    (case a14 => k_is)
    (case l14 => k_is)
    (case c14 => k_is)
    (case k14 => k_is)
    (case a15 => k_is)
    (case l15 => k_is)
    (case c15 => k_is)
    (case k15 => k_is)
    (case a16 => k_is)
    (case l16 => k_is)
    (case c16 => k_is)
    (case k16 => k_is)
    (case a17 => k_is)
    (case l17 => k_is)
    (case c17 => k_is)
    (case k17 => k_is)
    (case a18 => k_is)
    (case l18 => k_is)
    (case c18 => k_is)
    (case k18 => k_is)
    (case a19 => k_is)
    (case l19 => k_is)
    (case c19 => k_is)
    (case k19 => k_is)
    (case a20 => k_is)
    (case l20 => k_is)
    (case c20 => k_is)
    (case k20 => k_is)
    (case a21 => k_is)
    (case l21 => k_is)
    (case c21 => k_is)
    (case k21 => k_is)
    (case z_ValueError => k_is)
    (case z_all => k_is)
    (case z_bool => k_is)
    (case z_enumerate => k_is)
    (case z_int => k_is)
    (case z_isinstance => k_is)
    (case z_len => k_is)
    (case z_list => k_is)
    (case z_max => k_is)
    (case z_min => k_is)
    (case z_range => k_is)
    (case z_repr => k_is)
    (case z_str => k_is)
    (case z_tuple => k_is)
    (case z_HEIGHT_MOST => k_is)
    (case z_DIMENSION_MOST => k_is)
    (case z_DIGITS => k_is)
    (case z_DIGITS_MOST => k_is)
    (case z_NO_END => k_is)
    (case e_gs => k_is)
    (case e_tk => k_is)
    (case e_vV => k_is)
    (case e_rd => k_is)
    (case e_ta => k_is)
    (case e_fc => k_is)
    (case BarError_sa => k_is)
    (case BarError_ga => k_is)
    (case BarError_gg => k_is)
    (case BarError_ex => k_is)
    (case BarError_ty => k_is)
    (case BarError_kp => k_is)
    (case BarError_hd => k_is)
    (case BarError_ic => k_is)
    (case BarError_w => k_is)
    (case BarError_p => k_is)
    (case BarError_cl => k_is)
    (case BarError_ob => k_is)
    (case BarError_ti => k_is)
    (case BarError_cc => k_is)
    (case BarError_kf => k_is)
    (case BarError_ve => k_is)
    (case BarError_s_BarError => k_is)
    (case BarError_s_BadShape => k_is)
    (case BarError_s_BadBar => k_is)
    (case BarError_s_BadLine => k_is)
    (case BadShape_sa => k_is)
    (case BadShape_ga => k_is)
    (case BadShape_gg => k_is)
    (case BadShape_ex => k_is)
    (case BadShape_ty => k_is)
    (case BadShape_kp => k_is)
    (case BadShape_hd => k_is)
    (case BadShape_ic => k_is)
    (case BadShape_w => k_is)
    (case BadShape_p => k_is)
    (case BadShape_cl => k_is)
    (case BadShape_ob => k_is)
    (case BadShape_ti => k_is)
    (case BadShape_cc => k_is)
    (case BadShape_kf => k_is)
    (case BadShape_ve => k_is)
    (case BadShape_s_BarError => k_is)
    (case BadShape_s_BadShape => k_is)
    (case BadShape_s_BadBar => k_is)
    (case BadShape_s_BadLine => k_is)
    (case BadBar_sa => k_is)
    (case BadBar_ga => k_is)
    (case BadBar_gg => k_is)
    (case BadBar_ex => k_is)
    (case BadBar_ty => k_is)
    (case BadBar_kp => k_is)
    (case BadBar_hd => k_is)
    (case BadBar_ic => k_is)
    (case BadBar_w => k_is)
    (case BadBar_p => k_is)
    (case BadBar_cl => k_is)
    (case BadBar_ob => k_is)
    (case BadBar_ti => k_is)
    (case BadBar_cc => k_is)
    (case BadBar_kf => k_is)
    (case BadBar_ve => k_is)
    (case BadBar_s_BarError => k_is)
    (case BadBar_s_BadShape => k_is)
    (case BadBar_s_BadBar => k_is)
    (case BadBar_s_BadLine => k_is)
    (case BadLine_sa => k_is)
    (case BadLine_ga => k_is)
    (case BadLine_gg => k_is)
    (case BadLine_ex => k_is)
    (case BadLine_ty => k_is)
    (case BadLine_kp => k_is)
    (case BadLine_hd => k_is)
    (case BadLine_ic => k_is)
    (case BadLine_w => k_is)
    (case BadLine_p => k_is)
    (case BadLine_cl => k_is)
    (case BadLine_ob => k_is)
    (case BadLine_ti => k_is)
    (case BadLine_cc => k_is)
    (case BadLine_kf => k_is)
    (case BadLine_ve => k_is)
    (case BadLine_s_BarError => k_is)
    (case BadLine_s_BadShape => k_is)
    (case BadLine_s_BadBar => k_is)
    (case BadLine_s_BadLine => k_is)
