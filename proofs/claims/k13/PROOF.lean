import PyProof.Rows.All
import Wide.All
import OpenK.AllK
import Wide.FinOn
import HandS.ForMost
import HandS.Deep
import HandS.TupAny
import HandS.IsInst
import HandS.Flow
import HandS.Zip
import HandS.Rev
import HandS.RevRange
import HandS.SortInts
import HandS.Style
import HandS.Exc
import PyProof.ReprRoads
import HandS.ExcOwn
import HandS.More
import HandS.SetFor
import KE.SortData
import KE.DataCmp
import HandS.Conv
import PyProof.ReprLen
import HandS.SetBool
import HandS.Strs
import HandS.DictComp
import PyProof.IsRules
import PySem.Challenge.RW_barstay_k13_boundaries
set_option Elab.async false
set_option maxRecDepth 100000
set_option linter.all false
/-! D0: a layer of plain data over the hand layer: what an expression, a statement, a def does is a Lean function of data (PyData), the heap is dealt with once. -/
namespace Bd
open PySem L2

abbrev D := PyData
/-- an answer: a value; an exception (its class, its word, its place); or nothing is told -/
inductive R (α : Type) where
  | ok (a : α)
  | ex (c w : Str) (p : D)
  | no
def R.bind {α β : Type} : R α → (α → R β) → R β
  | .ok a, f => f a
  | .ex c w p, _ => .ex c w p
  | .no, _ => .no
instance : Monad R where
  pure := R.ok
  bind := R.bind
@[simp] theorem R.ok_bind {α β : Type} (a : α) (f : α → R β) : (R.ok a).bind f = f a := Eq.trans rfl rfl
@[simp] theorem R.no_bind {α β : Type} (f : α → R β) : (R.no : R α).bind f = R.no := Eq.trans rfl rfl
@[simp] theorem R.ex_bind {α β : Type} (c w : Str) (p : D) (f : α → R β) : (R.ex c w p : R α).bind f = R.ex c w p := Eq.trans rfl rfl

/-! ### data in the heap -/
/-- the heap without the cells at A -/
def hid (A : List Addr) (H : Hp) : Hp := fun b => if b ∈ A then none else H b
theorem hid_out {A : List Addr} {H : Hp} {b : Addr} (h : b ∉ A) : hid A H b = H b := if_neg h
theorem hid_in {A : List Addr} {H : Hp} {b : Addr} (h : b ∈ A) : hid A H b = none := if_pos h
theorem hid_some {A : List Addr} {H : Hp} {b : Addr} {o : HO} (h : hid A H b = some o) : b ∉ A ∧ H b = some o := by
  by_cases q : b ∈ A
  · rw [hid_in q] at h
    cases h
  · rw [hid_out q] at h
    exact ⟨q, h⟩
theorem hid_le (A : List Addr) (H : Hp) : Same (hid A H) H := fun _ _ e => (hid_some e).2
theorem hid_mono {A B : List Addr} {H : Hp} (h : ∀ b ∈ B, b ∈ A) : Same (hid A H) (hid B H) := fun b o e => by
  obtain ⟨n, e⟩ := hid_some e
  rw [hid_out fun q => n (h b q)]
  exact e
theorem hid_same {A : List Addr} {H H' : Hp} (s : Same H H') : Same (hid A H) (hid A H') := fun b o e => by
  obtain ⟨n, e⟩ := hid_some e
  rw [hid_out n]
  exact s b o e
/-- a cell that was free is hidden too -/
theorem hid_new {A : List Addr} {H H' : Hp} {p : Addr} (s : Same H H') (hp : H p = none) : Same (hid A H) (hid (p :: A) H') := fun b o e => by
  obtain ⟨n, e⟩ := hid_some e
  rw [hid_out fun q => (List.mem_cons.mp q).elim (fun z => by subst z; rw [hp] at e; cases e) n]
  exact s b o e
theorem hid_upd {A : List Addr} {H : Hp} {a : Addr} {o : HO} (h : a ∈ A) : hid A (upd H a o) = hid A H := by
  funext b
  by_cases q : b ∈ A
  · rw [hid_in q, hid_in q]
  · rw [hid_out q, hid_out q, upd_ne fun z => q (by rw [z]; exact h)]
theorem same_new {H : Hp} {p : Addr} {o : HO} (h : H p = none) : Same H (upd H p o) := fun b x e => by
  rw [upd_ne (ne_of_none e h)]
  exact e

section
variable {K : PySem.W.Frag} {H H' : Hp}
theorem sqT_same {a : Addr} {xs : List V} (s : Same H H') (h : SqT K H a xs) : SqT K H' a xs := by
  rcases h with (h | ⟨o, h⟩) | h
  · exact .inl (.inl (s _ _ h))
  · exact .inl (.inr ⟨o, s _ _ h⟩)
  · exact .inr h
mutual
theorem dp_same (s : Same H H') : ∀ (d : D) (v : V), Dp K H v d → Dp K H' v d
  | .none, _, h => by cases h; exact .non
  | .bool b, _, h => by cases h; exact .bl b
  | .int i, _, h => by cases h; exact .int i
  | .str x, _, h => by cases h; exact .str x
  | .list ds, _, h => by
    cases h with
    | lst h1 h2 => exact .lst (s.seq h1) (dpAll_same s ds _ h2)
  | .tuple ds, _, h => by
    cases h with
    | tup h1 h2 => exact .tup (sqT_same s h1) (dpAll_same s ds _ h2)
  | .dict _, _, h => by cases h
theorem dpAll_same (s : Same H H') : ∀ (ds : List D) (vs : List V), DpAll K H vs ds → DpAll K H' vs ds
  | [], _, h => by cases h; exact .nil
  | d :: ds, _, h => by
    cases h with
    | cons h1 h2 => exact .cons (dp_same s d _ h1) (dpAll_same s ds _ h2)
end
theorem Dp_mono {v : V} {d : D} (h : Dp K H v d) (s : Same H H') : Dp K H' v d := dp_same s d v h
theorem DpAll_mono {vs : List V} {ds : List D} (h : DpAll K H vs ds) (s : Same H H') : DpAll K H' vs ds := dpAll_same s ds vs h
theorem DpAll_length : ∀ {vs : List V} {ds : List D}, DpAll K H vs ds → vs.length = ds.length
  | _, _, .nil => rfl
  | _, _, .cons _ t => by rw [List.length_cons, List.length_cons, DpAll_length t]
theorem DpAll_get : ∀ {vs : List V} {ds : List D} {i : Nat} {d : D}, DpAll K H vs ds → ds[i]? = some d → ∃ v, vs[i]? = some v ∧ Dp K H v d
  | _, _, _, _, .nil, e => by simp at e
  | _, _, 0, _, .cons h _, e => by simp at e; subst e; exact ⟨_, rfl, h⟩
  | _, _, i + 1, d, .cons _ t, e => by
    obtain ⟨v, h1, h2⟩ := DpAll_get (i := i) (d := d) t (by simpa using e)
    exact ⟨v, by simpa using h1, h2⟩
theorem DpAll_getV : ∀ {vs : List V} {ds : List D} {i : Nat} {v : V}, DpAll K H vs ds → vs[i]? = some v → ∃ d, ds[i]? = some d ∧ Dp K H v d
  | _, _, _, _, .nil, e => by simp at e
  | _, _, 0, _, .cons h _, e => by simp at e; subst e; exact ⟨_, rfl, h⟩
  | _, _, i + 1, d, .cons _ t, e => by
    obtain ⟨v, h1, h2⟩ := DpAll_getV (i := i) (v := d) t (by simpa using e)
    exact ⟨v, by simpa using h1, h2⟩
theorem DpAll_append : ∀ {vs ws : List V} {ds es : List D}, DpAll K H vs ds → DpAll K H ws es → DpAll K H (vs ++ ws) (ds ++ es)
  | _, _, _, _, .nil, s => s
  | _, _, _, _, .cons h t, s => .cons h (DpAll_append t s)
theorem DpAll_take : ∀ {vs : List V} {ds : List D} (n : Nat), DpAll K H vs ds → DpAll K H (vs.take n) (ds.take n)
  | _, _, 0, _ => .nil
  | _, _, _ + 1, .nil => .nil
  | _, _, n + 1, .cons h t => .cons h (DpAll_take n t)
theorem DpAll_drop : ∀ {vs : List V} {ds : List D} (n : Nat), DpAll K H vs ds → DpAll K H (vs.drop n) (ds.drop n)
  | _, _, 0, h => h
  | _, _, _ + 1, .nil => .nil
  | _, _, n + 1, .cons _ t => DpAll_drop n t
theorem DpAll_rev : ∀ {vs : List V} {ds : List D}, DpAll K H vs ds → DpAll K H vs.reverse ds.reverse
  | _, _, .nil => .nil
  | _, _, .cons h t => by
    rw [List.reverse_cons, List.reverse_cons]
    exact DpAll_append (DpAll_rev t) (.cons h .nil)
theorem DpAll_ints : ∀ (ns : List Int), DpAll K H (ns.map V.int) (ns.map PyData.int)
  | [] => .nil
  | n :: ns => .cons (.int n) (DpAll_ints ns)
end

/-! ### the def's names -/
/-- a name: nothing is told; data; a list of its own that stands nowhere else -/
structure OL where
  b : Bool
  l : List D
/-- a dict whose keys are tuples of ints: key, where its tuple lies, what stands there -/
abbrev Zr := List Int × Addr × V
def entZ (x : List Int × Addr × Value) : DictEntry := ⟨reduceHash (Builtin.Tuple.tupleHashOf (x.1.map hashInt)), .ref x.2.1, x.2.2⟩
def DcP (a : Addr) (zs : List Zr) (h : Heap) : Prop :=
  ∃ xs : List (List Int × Addr × Value), Paired (fun (z : Zr) (x : List Int × Addr × Value) => z.1 = x.1 ∧ z.2.1 = x.2.1 ∧ RelV z.2.2 x.2.2) zs xs ∧
    ∃ o es ep, h.get? a = some o ∧ o.ExactDict ∧ o.data = .dict es ep ∧ es.toList = xs.map entZ ∧ (xs.map (·.1)).Nodup
def dco (a : Addr) (zs : List Zr) : HO := .ext (DcP a zs)
def ZD (K : PySem.W.Frag) (T : Hp) (z : Zr) (k : D × D) : Prop := k.1 = PyData.tuple (z.1.map PyData.int) ∧ SqT K T z.2.1 (z.1.map V.int) ∧ Dp K T z.2.2 k.2
/-- the dict ks stands at a, read only -/
def DcR (K : PySem.W.Frag) (T : Hp) (a : Addr) (ks : List (D × D)) : Prop := (a == sysModules) = false ∧ ks.length ≤ sizeLine ∧ ∃ zs, T a = some (dco a zs) ∧ Paired (ZD K T) zs ks
theorem DcR.same {K : PySem.W.Frag} {T T' : Hp} {a : Addr} {ks : List (D × D)} (h : DcR K T a ks) (s : Same T T') : DcR K T' a ks := by
  obtain ⟨h1, h2, zs, h3, h4⟩ := h
  exact ⟨h1, h2, zs, s _ _ h3, Paired.mapP h4 fun z k ⟨e1, e2, e3⟩ => ⟨e1, sqT_same s e2, Dp_mono e3 s⟩⟩
inductive Sl where
  | no
  | d (x : D)
  | own (xs : OL)
  | m (x : List (D × D))
abbrev Nv := List Sl
def SlotR (K : PySem.W.Frag) (H : Hp) (A : List Addr) : Option V → Sl → Prop
  | _, .no => True
  | some v, .d x => Dp K (hid A H) v x
  | some (.ref a), .own xs => a ∈ A ∧ ∃ vs, H a = some (.lst vs) ∧ DpAll K (hid A H) vs xs.l
  | some (.ref a), .m x => DcR K (hid A H) a x
  | _, _ => False
theorem SlotR.m' {K : PySem.W.Frag} {H H' : Hp} {A A' : List Addr} {o : Option V} {x : List (D × D)} (h : SlotR K H A o (.m x)) (s : Same (hid A H) (hid A' H')) : SlotR K H' A' o (.m x) := by
  match o, h with
  | some (.ref a), h => exact DcR.same (show DcR K (hid A H) a x from h) s
structure EnvD (K : PySem.W.Frag) (H : Hp) (A : List Addr) (σ : St) (η : Nv) : Prop where
  len : σ.length = η.length
  at_ : ∀ (i : Nat) (s : Sl), η[i]? = some s → ∃ o, σ[i]? = some o ∧ SlotR K H A o s
  ap : ∀ (i j : Nat) (a : Addr) (xs ys : OL), η[i]? = some (.own xs) → η[j]? = some (.own ys) → σ[i]? = some (some (.ref a)) → σ[j]? = some (some (.ref a)) → i = j
  tr : ∀ a ∈ A, H a ≠ none
section
variable {K : PySem.W.Frag} {H H' : Hp} {A A' : List Addr} {σ : St} {η : Nv}
theorem SlotR.keep {o : Option V} {s : Sl} (h : SlotR K H A o s) (k : Same (hid A H) (hid A' H')) (hA : ∀ a ∈ A, a ∈ A') (hl : ∀ a vs, a ∈ A → H a = some (.lst vs) → H' a = some (.lst vs)) : SlotR K H' A' o s := by
  cases s with
  | no => cases o <;> trivial
  | d x =>
    cases o with
    | none => exact h
    | some v => exact Dp_mono (show Dp K (hid A H) v x from h) k
  | own xs =>
    match o, h with
    | some (.ref a), ⟨m, vs, e, q⟩ => exact ⟨hA a m, vs, hl a vs m e, DpAll_mono q k⟩
  | m x => exact h.m' k
theorem EnvD.same (h : EnvD K H A σ η) (s : Same H H') : EnvD K H' A σ η where
  len := h.len
  at_ := fun i x e => by
    obtain ⟨o, e1, q⟩ := h.at_ i x e
    exact ⟨o, e1, q.keep (hid_same s) (fun _ m => m) fun a vs _ z => s _ _ z⟩
  ap := h.ap
  tr := fun a m z => by
    cases q : H a with
    | none => exact h.tr a m q
    | some o =>
      rw [s a o q] at z
      cases z
/-- a cell that was free is hidden -/
theorem EnvD.new {p : Addr} (h : EnvD K H A σ η) (s : Same H H') (hp : H p = none) (hp' : H' p ≠ none) : EnvD K H' (p :: A) σ η where
  len := h.len
  at_ := fun i x e => by
    obtain ⟨o, e1, q⟩ := h.at_ i x e
    exact ⟨o, e1, q.keep (hid_new s hp) (fun _ m => List.mem_cons_of_mem _ m) fun a vs _ z => s _ _ z⟩
  ap := h.ap
  tr := fun a m => by
    rcases List.mem_cons.mp m with rfl | m
    · exact hp'
    · exact (h.same s).tr a m
theorem EnvD.fresh {p : Addr} (h : EnvD K H A σ η) (hp : H p = none) : p ∉ A := fun m => h.tr p m hp
end

/-! ### readings of expressions -/
/-- how a value lies: the heap ahead, behind, what is hidden, the value, its data -/
abbrev Rl := Hp → Hp → List Addr → V → D → Prop
/-- data -/
def rD (K : PySem.W.Frag) : Rl := fun _ H' A v d => Dp K (hid A H') v d
/-- data, or a list of the def's own -/
def rO (K : PySem.W.Frag) : Rl := fun _ H' A v d => Dp K (hid A H') v d ∨ ∃ a vs ds, v = .ref a ∧ d = .list ds ∧ H' a = some (.lst vs) ∧ DpAll K (hid A H') vs ds
/-- a new list -/
def rF (K : PySem.W.Frag) : Rl := fun H H' A v d => ∃ p vs ds, v = .ref p ∧ d = .list ds ∧ H p = none ∧ H' p = some (.lst vs) ∧ DpAll K (hid (p :: A) H') vs ds
/-- an exception of the program: its class, word, place -/
def ExR (K : PySem.W.Frag) (mg : Str → Option Value) (H : Hp) (cls : Value) (dd : Option Addr) (c w : Str) (p : D) : Prop :=
  mg c = some cls ∧ ∃ dx v, dd = some dx ∧ H dx = some (.xd [("place", v), ("word", .str w)]) ∧ Dp K H v p
/-- what an answer asks -/
def Post (K : PySem.W.Frag) (mg : Str → Option Value) (W : WX) (rl : Rl) (σ : St) (A : List Addr) (H : Hp) (r : R D) (Q : VK) : Prop :=
  match r with
  | .ok d => ∀ v H', Same H H' → rl H H' A v d → Q v H'
  | .ex c w p => ∀ cls dd H', Same H H' → ExR K mg (hid A H') cls dd c w p → W cls dd σ H'
  | .no => False
def tR (K : PySem.W.Frag) (mg : Str → Option Value) (W : WX) (rl : Rl) (F : Nv → R D) : TE := fun σ H Q => ∃ η A, EnvD K H A σ η ∧ Post K mg W rl σ A H (F η) Q
theorem peW {X : Cx} {e : Expr} {t t' : TE} (h : PE X e t) (k : ∀ σ H Q, t' σ H Q → t σ H Q) : PE X e t' := ⟨fun pins s σ H Q I q => h.run pins s σ H Q I (k _ _ _ q)⟩
/-- the heap ahead may be an earlier one -/
def Back (rl : Rl) : Prop := ∀ H H1 H' A v d, Same H H1 → rl H1 H' A v d → rl H H' A v d
theorem back_D {K : PySem.W.Frag} : Back (rD K) := fun _ _ _ _ _ _ _ h => h
theorem back_O {K : PySem.W.Frag} : Back (rO K) := fun _ _ _ _ _ _ _ h => h
theorem back_F {K : PySem.W.Frag} : Back (rF K) := fun _ _ _ _ _ _ s ⟨p, vs, ds, a, b, c, r⟩ => ⟨p, vs, ds, a, b, s.free c, r⟩
section
variable {K : PySem.W.Frag} {mg : Str → Option Value} {W : WX} {rl : Rl} {σ : St} {A : List Addr} {H H1 : Hp} {Q : VK}
theorem Post.same {r : R D} (b : Back rl) (s : Same H H1) (h : Post K mg W rl σ A H r Q) : Post K mg W rl σ A H1 r Q := by
  cases r with
  | ok d => exact fun v H' s' q => h v H' (s.trans s') (b _ _ _ _ _ _ s q)
  | ex c w p => exact fun cls dd H' s' q => h cls dd H' (s.trans s') q
  | no => exact h
/-- THE STEP: a part's answer, then the rest's -/
theorem bindR {rl' : Rl} {F : Nv → R D} {g : Nv → D → R D} (b : Back rl) (h : tR K mg W rl (fun η => (F η).bind (g η)) σ H Q) :
    tR K mg W rl' F σ H fun v H1 => ∃ η A d, Same H H1 ∧ EnvD K H1 A σ η ∧ rl' H H1 A v d ∧ F η = .ok d ∧ Post K mg W rl σ A H1 (g η d) Q := by
  obtain ⟨η, A, E, p0⟩ := h
  refine ⟨η, A, E, ?_⟩
  have p : Post K mg W rl σ A H ((F η).bind (g η)) Q := p0
  cases e : F η with
  | ok d =>
    rw [e] at p
    exact fun v H' s q => ⟨η, A, d, s, E.same s, q, e, Post.same b s p⟩
  | ex c w p' =>
    rw [e] at p
    exact p
  | no =>
    rw [e] at p
    exact p
end

/-- an expression: data; an operand; a new list -/
def TD (X : Cx) (W : WX) (e : Expr) (F : Nv → R D) : Prop := PE X e (tR X.K X.mg W (rD X.K) F)
def TO (X : Cx) (W : WX) (e : Expr) (F : Nv → R D) : Prop := PE X e (tR X.K X.mg W (rO X.K) F)
def TF (X : Cx) (W : WX) (e : Expr) (F : Nv → R D) : Prop := PE X e (tR X.K X.mg W (rF X.K) F)
section
variable {X : Cx} {W : WX} {e : Expr} {F : Nv → R D}
theorem tR_imp {K : PySem.W.Frag} {mg : Str → Option Value} {rl rl' : Rl} {σ : St} {H : Hp} {Q : VK} (k : ∀ (η : Nv) (A : List Addr) (H' : Hp) (v : V) (d : D), EnvD K H A σ η → Same H H' → rl H H' A v d → rl' H H' A v d) (h : tR K mg W rl' F σ H Q) : tR K mg W rl F σ H Q := by
  obtain ⟨η, A, E, p⟩ := h
  refine ⟨η, A, E, ?_⟩
  cases e : F η with
  | ok d =>
    rw [e] at p
    exact fun v H' s q => p v H' s (k η A H' v d E s q)
  | ex c w p' =>
    rw [e] at p
    exact p
  | no =>
    rw [e] at p
    exact p
theorem rF_D {K : PySem.W.Frag} {H H' : Hp} {A : List Addr} {v : V} {d : D} (hA : ∀ p, H p = none → p ∉ A) (h : rF K H H' A v d) : rD K H H' A v d := by
  obtain ⟨p, vs, ds, rfl, rfl, hp, hp', q⟩ := h
  exact .lst (SqL.of (by rw [hid_out (hA p hp)]; exact hp')) (DpAll_mono q (hid_mono fun b m => List.mem_cons_of_mem _ m))
theorem TD.o (h : TD X W e F) : TO X W e F := peW h fun _ _ _ => tR_imp fun _ _ _ _ _ _ _ q => .inl q
theorem TF.d (h : TF X W e F) : TD X W e F := peW h fun _ _ _ => tR_imp fun _ _ _ _ _ E _ q => rF_D (fun _ hp => E.fresh hp) q
theorem TF.o (h : TF X W e F) : TO X W e F := h.d.o
end
end Bd
/-! D1: operators, comparisons, truth, calls of built-ins, over data. -/
namespace Bd
open PySem L2

section
variable {K : PySem.W.Frag} {H H' : Hp} {A : List Addr} {v : V} {d : D}
theorem rO_same (s : Same H H') {Ha Hb : Hp} (h : rO K Ha H A v d) : rO K Hb H' A v d := by
  rcases h with h | ⟨a, vs, ds, rfl, rfl, e, q⟩
  · exact .inl (Dp_mono h (hid_same s))
  · exact .inr ⟨a, vs, ds, rfl, rfl, s _ _ e, DpAll_mono q (hid_same s)⟩
theorem rO_dp {Ha : Hp} (h : rO K Ha H A v d) : Dp K H v d := by
  rcases h with h | ⟨a, vs, ds, rfl, rfl, e, q⟩
  · exact Dp_mono h (hid_le A H)
  · exact .lst (SqL.of e) (DpAll_mono q (hid_le A H))
theorem rO_list {Ha : Hp} {ds : List D} (h : rO K Ha H A v (.list ds)) : ∃ a vs, v = .ref a ∧ SqL K H a vs ∧ DpAll K (hid A H) vs ds := by
  rcases h with h | ⟨a, vs, ds', rfl, e1, e, q⟩
  · cases h with
    | lst h1 h2 => exact ⟨_, _, rfl, (hid_le A H).seq h1, h2⟩
  · cases e1
    exact ⟨a, vs, rfl, SqL.of e, q⟩
theorem rO_tup {Ha : Hp} {ds : List D} (h : rO K Ha H A v (.tuple ds)) : ∃ a vs, v = .ref a ∧ SqT K H a vs ∧ SqT K (hid A H) a vs ∧ DpAll K (hid A H) vs ds := by
  rcases h with h | ⟨a, vs, ds', rfl, e1, e, q⟩
  · cases h with
    | tup h1 h2 => exact ⟨_, _, rfl, sqT_same (hid_le A H) h1, h1, h2⟩
  · cases e1
theorem rO_int {Ha : Hp} {i : Int} (h : rO K Ha H A v (.int i)) : v = .int i := by
  rcases h with h | ⟨a, vs, ds', rfl, e1, e, q⟩
  · cases h; rfl
  · cases e1
theorem rO_bool {Ha : Hp} {i : Bool} (h : rO K Ha H A v (.bool i)) : v = .bl i := by
  rcases h with h | ⟨a, vs, ds', rfl, e1, e, q⟩
  · cases h; rfl
  · cases e1
theorem rO_str {Ha : Hp} {i : Str} (h : rO K Ha H A v (.str i)) : v = .str i := by
  rcases h with h | ⟨a, vs, ds', rfl, e1, e, q⟩
  · cases h; rfl
  · cases e1
theorem rO_none {Ha : Hp} (h : rO K Ha H A v .none) : v = .non := by
  rcases h with h | ⟨a, vs, ds', rfl, e1, e, q⟩
  · cases h; rfl
  · cases e1
end

/-- the answer of a built-in operation -/
def R.of : Option D → R D
  | some d => .ok d
  | none => .no
/-- a two-place operation on operands gives the data f tells, lying as rl says -/
def Op2 (X : Cx) (rl : Rl) (r : R2) (f : D → D → Option D) : Prop :=
  ∀ (H : Hp) (A : List Addr) (x y : V) (a b d : D) (Q : VK), (∀ p ∈ A, H p ≠ none) → rO X.K H H A x a → rO X.K H H A y b → f a b = some d → (∀ v H', Same H H' → rl H H' A v d → Q v H') → r x y H Q
def Op1 (X : Cx) (rl : Rl) (r : V → Hp → VK → Prop) (f : D → Option D) : Prop :=
  ∀ (H : Hp) (A : List Addr) (x : V) (a d : D) (Q : VK), (∀ p ∈ A, H p ≠ none) → rO X.K H H A x a → f a = some d → (∀ v H', Same H H' → rl H H' A v d → Q v H') → r x H Q
section
variable {X : Cx} {W : WX} {rl : Rl} {a b : Expr} {Fa Fb : Nv → R D} {f : D → D → Option D} {g : D → Option D} {r : R2}
def e2 (f : D → D → Option D) (Fa Fb : Nv → R D) : Nv → R D := fun η => (Fa η).bind fun x => (Fb η).bind fun y => .of (f x y)
def e1 (g : D → Option D) (Fa : Nv → R D) : Nv → R D := fun η => (Fa η).bind fun x => .of (g x)
theorem op2_t (hb : Back rl) (ho : Op2 X rl r f) {σ : L2.St} {H : Hp} {Q : VK} (h : tR X.K X.mg W rl (e2 f Fa Fb) σ H Q) : tOp r (tR X.K X.mg W (rO X.K) Fa) (tR X.K X.mg W (rO X.K) Fb) σ H Q := by
  have h1 := bindR (rl' := rO X.K) (F := Fa) (g := fun η x => (Fb η).bind fun y => .of (f x y)) hb h
  refine (show tR X.K X.mg W (rO X.K) Fa σ H _ from ?_)
  obtain ⟨η, A, E, p⟩ := h1
  refine ⟨η, A, E, ?_⟩
  cases e : Fa η with
  | ex c w q => rw [e] at p; exact p
  | no => rw [e] at p; exact p
  | ok d1 =>
    rw [e] at p
    intro v1 H1 s1 q1
    obtain ⟨η1, A1, dd, sm, E1, qd, _, P1⟩ := p v1 H1 s1 q1
    have h2 : tR X.K X.mg W rl (fun η => (Fb η).bind fun y => .of (f dd y)) σ H1 Q := ⟨η1, A1, E1, P1⟩
    have h3 := bindR (rl' := rO X.K) (F := Fb) (g := fun η y => .of (f dd y)) hb h2
    -- the second operand at the same names
    refine ⟨η1, A1, E1, ?_⟩
    cases e2 : Fb η1 with
    | ex c w q =>
      have P1' : Post X.K X.mg W rl σ A1 H1 ((Fb η1).bind fun y => .of (f dd y)) Q := P1
      rw [e2] at P1'
      exact P1'
    | no =>
      have P1' : Post X.K X.mg W rl σ A1 H1 ((Fb η1).bind fun y => .of (f dd y)) Q := P1
      rw [e2] at P1'
      exact P1'
    | ok d2 =>
      have P1' : Post X.K X.mg W rl σ A1 H1 ((Fb η1).bind fun y => .of (f dd y)) Q := P1
      rw [e2] at P1'
      have P2 : Post X.K X.mg W rl σ A1 H1 (.of (f dd d2)) Q := P1'
      intro v2 H2 s2 q2
      cases e3 : f dd d2 with
      | none => rw [e3] at P2; exact False.elim P2
      | some d =>
        rw [e3] at P2
        exact ho H2 A1 v1 v2 dd d2 d Q (E1.same s2).tr (rO_same s2 qd) (rO_same (Same.refl _) q2) e3 fun v H' s q => P2 v H' (s2.trans s) (hb _ _ _ _ _ _ s2 q)
theorem op1_t (hb : Back rl) {r : V → Hp → VK → Prop} (ho : Op1 X rl r g) {σ : L2.St} {H : Hp} {Q : VK} (h : tR X.K X.mg W rl (e1 g Fa) σ H Q) : tUn r (tR X.K X.mg W (rO X.K) Fa) σ H Q := by
  obtain ⟨η, A, E, p0⟩ := h
  have p : Post X.K X.mg W rl σ A H ((Fa η).bind fun x => .of (g x)) Q := p0
  refine ⟨η, A, E, ?_⟩
  cases e : Fa η with
  | ex c w q => rw [e] at p; exact p
  | no => rw [e] at p; exact p
  | ok d1 =>
    rw [e] at p
    have P2 : Post X.K X.mg W rl σ A H (.of (g d1)) Q := p
    intro v1 H1 s1 q1
    cases e3 : g d1 with
    | none => rw [e3] at P2; exact False.elim P2
    | some d =>
      rw [e3] at P2
      exact ho H1 A v1 d1 d Q (E.same s1).tr (rO_same (Same.refl _) q1) e3 fun v H' s q => P2 v H' (s1.trans s) (hb _ _ _ _ _ _ s1 q)
/-- a op b -/
theorem t_op {op : Operator} {pos : Pos} (hb : Back rl) (hop : OpR X (binaryOp op) r) (ho : Op2 X rl r f) (ha : TO X W a Fa) (hc : TO X W b Fb) : PE X (.BinOp a op b pos) (tR X.K X.mg W rl (e2 f Fa Fb)) :=
  peW (pe_op hop ha hc) fun _ _ _ => op2_t hb ho
theorem t_cmp {op : CmpOp} {pos : Pos} (hop : OpR X (compareOp op) r) (ho : Op2 X (rD X.K) r f) (ha : TO X W a Fa) (hc : TO X W b Fb) (h1 : behindInMarks op b = false) : TD X W (.Compare a [op] [b] pos) (e2 f Fa Fb) :=
  peW (pe_cmpR hop ha hc h1) fun _ _ _ => op2_t back_D ho

/-! ### ints and sequences: +, -, *, //, % -/
@[irreducible] def lineN : Nat := 16777216
theorem lineN_eq : lineN = 16777216 := by unfold lineN; rfl
theorem line_eq : sizeLine = lineN := by rw [lineN_eq]; exact sizeLine_eq
def addV : D → D → Option D
  | .int i, .int j => some (.int (i + j))
  | .list xs, .list ys => if xs.length + ys.length ≤ lineN then some (.list (xs ++ ys)) else none
  | .tuple xs, .tuple ys => if xs.length + ys.length ≤ lineN then some (.tuple (xs ++ ys)) else none
  | .str x, .str y => if x.length + y.length ≤ lineN then some (.str (x ++ y)) else none
  | _, _ => none
def rCatS (K : PySem.W.Frag) : R2 := fun x y H Q => ∃ l b xs zs, x = .ref l ∧ y = .ref b ∧ SqL K H l xs ∧ SqL K H b zs ∧ xs.length + zs.length ≤ sizeLine ∧ ∀ p, H p = none → Q (.ref p) (upd H p (.lst (xs ++ zs)))
theorem op_catS : OpR X (binaryOp .Add) (rCatS X.K) := by
  intro pins s σ H x y v u Q I rx ry h
  obtain ⟨l, b, xs, zs, rfl, rfl, h1, h2, hz, q⟩ := h
  cases rx
  cases ry
  obtain ⟨its, r, hl, e⟩ := I.list h1
  obtain ⟨its2, r2, hl2, e2⟩ := I.list h2
  obtain ⟨⟨cls, dd, data, sl⟩, ho, hc, n, hd⟩ := hl.isList
  obtain ⟨⟨cls2, dd2, data2, sl2⟩, ho2, hc2, n2, hd2⟩ := hl2.isList
  simp only at hc hd hc2 hd2
  subst hc hd hc2 hd2
  have ea : its.toArray ++ its2.toArray = (its ++ its2).toArray := by simp
  have hz2 : its.toArray.size + its2.toArray.size ≤ sizeLine := by
    rw [List.size_toArray, List.size_toArray, ← r.length, ← r2.length]
    exact hz
  refine concat_meets ⟨_, ho, rfl⟩ ⟨_, ho2, rfl⟩ noFill_list_add seq_list_add PySem.F.slot_list_add PySem.F.entry_list_add (PySem.F.args_list_add_2 _ _) (PyProof.Rows.list_addW l b its.toArray its2.toArray n n2 dd dd2 sl sl2 hz2) ⟨ho, ho2, ?_⟩
  rw [ea]
  exact ⟨.ref _, _, I.lnew (t' := s.toks) (r.append r2) (by rw [List.length_append]; omega), rfl, q _ I.fresh⟩
def rAddA (K : PySem.W.Frag) : R2 := fun x y H Q => rI0 (fun i j => .int (i + j)) x y H Q ∨ rCatS K x y H Q ∨ rCatA K x y H Q ∨ ∃ i j, x = .str i ∧ y = .str j ∧ i.length + j.length ≤ sizeLine ∧ Q (.str (i ++ j)) H
theorem op_addA : OpR X (binaryOp .Add) (rAddA X.K) := by
  intro pins s σ H x y v u Q I rx ry h
  rcases h with h | h | h | h
  · exact op_add pins s σ H x y v u Q I rx ry h
  · exact op_catS pins s σ H x y v u Q I rx ry h
  · exact op_catA pins s σ H x y v u Q I rx ry h
  · exact op_add_str pins s σ H x y v u Q I rx ry h
theorem dp_new_list {K : PySem.W.Frag} {H : Hp} {A : List Addr} {p : Addr} {vs : List V} {ds : List D} (hA : ∀ a ∈ A, H a ≠ none) (hp : H p = none) (h : DpAll K (hid A H) vs ds) : rF K H (upd H p (.lst vs)) A (.ref p) (.list ds) :=
  ⟨p, vs, ds, rfl, rfl, hp, upd_same, DpAll_mono h (hid_new (same_new hp) hp)⟩
theorem dp_new_tup {K : PySem.W.Frag} {H : Hp} {A : List Addr} {p : Addr} {vs : List V} {ds : List D} (hA : ∀ a ∈ A, H a ≠ none) (hp : H p = none) (h : DpAll K (hid A H) vs ds) : Dp K (hid A (upd H p (.tup vs))) (.ref p) (.tuple ds) :=
  .tup (SqT.of (by rw [hid_out fun m => hA p m hp, upd_same])) (DpAll_mono h (hid_same (same_new hp)))
theorem nofree {H : Hp} {A : List Addr} (hA : ∀ a ∈ A, H a ≠ none) : ∀ p, H p = none → p ∉ A := fun p hp m => hA p m hp
theorem o_add : Op2 X (rD X.K) (rAddA X.K) addV := by
  intro H A x y a b d Q hA ha hb e k
  unfold addV at e
  split at e
  · have e := Option.some.inj e
    subst e
    exact .inl ⟨_, _, rO_int ha, rO_int hb, k _ H (Same.refl _) (.int _)⟩
  · rename_i xs ys
    split at e
    · rename_i hz
      have e := Option.some.inj e
      subst e
      obtain ⟨l, vs, rfl, h1, q1⟩ := rO_list ha
      obtain ⟨l2, vs2, rfl, h2, q2⟩ := rO_list hb
      refine .inr (.inl ⟨l, l2, vs, vs2, rfl, rfl, h1, h2, ?_, fun p hp => k _ _ (same_new hp) (rF_D (nofree hA) (dp_new_list hA hp (DpAll_append q1 q2)))⟩)
      rw [DpAll_length q1, DpAll_length q2, line_eq]
      exact hz
    · cases e
  · rename_i xs ys
    split at e
    · rename_i hz
      have e := Option.some.inj e
      subst e
      obtain ⟨l, vs, rfl, h1, h1', q1⟩ := rO_tup ha
      obtain ⟨l2, vs2, rfl, h2, h2', q2⟩ := rO_tup hb
      refine .inr (.inr (.inl ⟨l, l2, vs, vs2, rfl, rfl, h1, h2, ?_, fun z => ?_, fun _ z => ?_, fun _ _ p hp => k _ _ (same_new hp) (dp_new_tup hA hp (DpAll_append q1 q2))⟩))
      · rw [DpAll_length q1, DpAll_length q2, line_eq]
        exact hz
      · subst z
        cases q1
        exact k _ H (Same.refl _) (.tup h2' q2)
      · subst z
        cases q2
        rw [List.append_nil] at k
        exact k _ H (Same.refl _) (.tup h1' q1)
    · cases e
  · split at e
    · rename_i hz
      have e := Option.some.inj e
      subst e
      exact .inr (.inr (.inr ⟨_, _, rO_str ha, rO_str hb, by rw [line_eq]; exact hz, k _ H (Same.refl _) (.str _)⟩))
    · cases e
  · cases e
/-- list + list: a new list -/
def catV : D → D → Option D
  | .list xs, .list ys => if xs.length + ys.length ≤ lineN then some (.list (xs ++ ys)) else none
  | _, _ => none
theorem o_cat : Op2 X (rF X.K) (rCatS X.K) catV := by
  intro H A x y a b d Q hA ha hb e k
  unfold catV at e
  split at e
  · rename_i xs ys
    split at e
    · rename_i hz
      have e := Option.some.inj e
      subst e
      obtain ⟨l, vs, rfl, h1, q1⟩ := rO_list ha
      obtain ⟨l2, vs2, rfl, h2, q2⟩ := rO_list hb
      refine ⟨l, l2, vs, vs2, rfl, rfl, h1, h2, ?_, fun p hp => k _ _ (same_new hp) (dp_new_list hA hp (DpAll_append q1 q2))⟩
      rw [DpAll_length q1, DpAll_length q2, line_eq]
      exact hz
    · cases e
  · cases e
def subV : D → D → Option D
  | .int i, .int j => some (.int (i - j))
  | _, _ => none
def mulV : D → D → Option D
  | .int i, .int j => if (-(2 ^ 64) < i ∧ i < 2 ^ 64) ∨ (-(2 ^ 64) < j ∧ j < 2 ^ 64) then some (.int (i * j)) else none
  | _, _ => none
def fdivV : D → D → Option D
  | .int i, .int j => if 0 < j ∧ j < 1073741824 then some (.int (i / j)) else none
  | _, _ => none
def modV : D → D → Option D
  | .int i, .int j => if 0 < j then some (.int (i % j)) else none
  | _, _ => none
def powV : D → D → Option D
  | .int i, .int j => if 0 ≤ j ∧ j ≤ 1000000 ∧ i.natAbs < 2 ^ 64 then some (.int (i ^ j.toNat)) else none
  | _, _ => none
theorem o_sub : Op2 X (rD X.K) (rI0 fun i j => .int (i - j)) subV := by
  intro H A x y a b d Q hA ha hb e k
  unfold subV at e
  split at e
  · have e := Option.some.inj e
    subst e
    exact ⟨_, _, rO_int ha, rO_int hb, k _ H (Same.refl _) (.int _)⟩
  · cases e
theorem o_ifI {C : Int → Int → Prop} [∀ i j, Decidable (C i j)] {g : Int → Int → Int} {f : D → D → Option D} (hf : ∀ a b d, f a b = some d → ∃ i j, a = .int i ∧ b = .int j ∧ C i j ∧ d = .int (g i j)) : Op2 X (rD X.K) (rI C fun i j => .int (g i j)) f := by
  intro H A x y a b d Q hA ha hb e k
  obtain ⟨i, j, rfl, rfl, hc, rfl⟩ := hf a b d e
  exact ⟨i, j, rO_int ha, rO_int hb, hc, k _ H (Same.refl _) (.int _)⟩
instance : ∀ i j, Decidable (CMul i j) := fun i j => by unfold CMul; infer_instance
instance : ∀ i j, Decidable (CDiv i j) := fun i j => by unfold CDiv; infer_instance
instance : ∀ i j, Decidable (CPow i j) := fun i j => by unfold CPow; infer_instance
theorem o_mul : Op2 X (rD X.K) (rI CMul fun i j => .int (i * j)) mulV := o_ifI fun a b d e => by
  unfold mulV at e
  split at e
  · split at e
    · rename_i h
      exact ⟨_, _, rfl, rfl, h, (Option.some.inj e).symm⟩
    · cases e
  · cases e
theorem o_fdiv : Op2 X (rD X.K) (rI CDiv fun i j => .int (i / j)) fdivV := o_ifI fun a b d e => by
  unfold fdivV at e
  split at e
  · split at e
    · rename_i h
      exact ⟨_, _, rfl, rfl, h, (Option.some.inj e).symm⟩
    · cases e
  · cases e
theorem o_mod : Op2 X (rD X.K) (rI (fun _ j => 0 < j) fun i j => .int (i % j)) modV := o_ifI (C := fun _ j => 0 < j) fun a b d e => by
  unfold modV at e
  split at e
  · split at e
    · rename_i h
      exact ⟨_, _, rfl, rfl, h, (Option.some.inj e).symm⟩
    · cases e
  · cases e
theorem o_pow : Op2 X (rD X.K) (rI CPow fun i j => .int (i ^ j.toNat)) powV := o_ifI fun a b d e => by
  unfold powV at e
  split at e
  · split at e
    · rename_i h
      exact ⟨_, _, rfl, rfl, h, (Option.some.inj e).symm⟩
    · cases e
  · cases e
end
end Bd
/-! D2: names, constants, comparisons, truth, built-ins by data. -/
namespace Bd
open PySem L2

section
variable {X : Cx} {W : WX} {rl : Rl} {a b c e : Expr} {Fa Fb Fc F : Nv → R D} {pos : Pos}
/-! ### names and constants -/
def gv (i : Nat) : Nv → R D := fun η => match η[i]? with
  | some (.d x) => .ok x
  | _ => .no
/-- a name's data -/
theorem t_var (i : Nat) {x : Str} (hN : X.N[i]? = some x := by rfl) (hv : Vis X.env.scope x := by first | exact Or.inl rfl | exact Or.inr (Or.inl rfl) | exact Or.inr (Or.inr rfl)) (hd : (x == ("__debug__" : Str)) = false := by decide)
    (hcd : (x == ("__classdict__" : Str)) = false := by decide) : TD X W (.Name x pos) (gv i) := by
  refine peW (pe_var hN hv hd hcd) fun σ H Q h => ?_
  obtain ⟨η, A, E, p0⟩ := h
  have p : Post X.K X.mg W (rD X.K) σ A H (gv i η) Q := p0
  unfold gv at p
  split at p
  · rename_i x e
    obtain ⟨o, e1, q⟩ := E.at_ i _ e
    cases o with
    | none => exact False.elim q
    | some v => exact ⟨v, e1, p v H (Same.refl _) q⟩
  · exact False.elim p
/-- a list of the def's own, read -/
def go (i : Nat) : Nv → R D := fun η => match η[i]? with
  | some (.own xs) => .ok (.list xs.l)
  | some (.d x) => .ok x
  | _ => .no
theorem t_own (i : Nat) {x : Str} (hN : X.N[i]? = some x := by rfl) (hv : Vis X.env.scope x := by first | exact Or.inl rfl | exact Or.inr (Or.inl rfl) | exact Or.inr (Or.inr rfl)) (hd : (x == ("__debug__" : Str)) = false := by decide)
    (hcd : (x == ("__classdict__" : Str)) = false := by decide) : TO X W (.Name x pos) (go i) := by
  refine peW (pe_var hN hv hd hcd) fun σ H Q h => ?_
  obtain ⟨η, A, E, p0⟩ := h
  have p : Post X.K X.mg W (rO X.K) σ A H (go i η) Q := p0
  unfold go at p
  split at p
  · rename_i x e
    obtain ⟨o, e1, q⟩ := E.at_ i _ e
    match o, q with
    | some (.ref a), ⟨m, vs, e2, q⟩ => exact ⟨_, e1, p _ H (Same.refl _) (.inr ⟨a, vs, _, rfl, rfl, e2, q⟩)⟩
  · rename_i x e
    obtain ⟨o, e1, q⟩ := E.at_ i _ e
    cases o with
    | none => exact False.elim q
    | some v => exact ⟨v, e1, p v H (Same.refl _) (.inl q)⟩
  · exact False.elim p
def k0 (d : D) : Nv → R D := fun _ => .ok d
theorem t_const {v : V} {d : D} (h : PE X e (tC v)) (hd : ∀ H, Dp X.K H v d) : TD X W e (k0 d) := peW h fun σ H Q ⟨η, A, E, p⟩ => p v H (Same.refl _) (hd _)
theorem t_int {i : Int} {j : Nat} : TD X W (.Constant (.int i) j pos) (k0 (.int i)) := t_const pe_int fun _ => .int i
theorem t_bool {i : Bool} {j : Nat} : TD X W (.Constant (.bool i) j pos) (k0 (.bool i)) := t_const pe_bl fun _ => .bl i
theorem t_none {j : Nat} : TD X W (.Constant .none j pos) (k0 .none) := t_const pe_non fun _ => .non
theorem t_str {i : Str} {j : Nat} : TD X W (.Constant (.str i) j pos) (k0 (.str i)) := t_const pe_str fun _ => .str i
theorem t_globI {x : Str} {i : Int} (hm : ∃ t, X.mg x = some (.int i t)) (hg : Gl X x := by rfl) (hd : (x == ("__debug__" : Str)) = false := by decide) : TD X W (.Name x pos) (k0 (.int i)) := by
  obtain ⟨t, hm⟩ := hm
  exact t_const (pe_glob (v := .int i) hg hm ⟨t, rfl⟩ hd) fun _ => .int i
/-- -a -/
def negV : D → Option D
  | .int i => some (.int (-i))
  | _ => none
theorem t_neg (ha : TO X W a Fa) : TD X W (.UnaryOp .USub a pos) (e1 negV Fa) := peW (pe_un un_neg ha) fun _ _ _ => op1_t back_D fun H A x a d Q hA hx e k => by
  unfold negV at e
  split at e
  · have e := Option.some.inj e
    subst e
    exact ⟨_, rO_int hx, k _ H (Same.refl _) (.int _)⟩
  · cases e

/-! ### comparisons -/
/-- a truth value -/
def rB : Rl := fun _ _ _ v d => ∃ k, d = .bool k ∧ v = .bl k
theorem rB_D {K : PySem.W.Frag} {H H' : Hp} {A : List Addr} {v : V} {d : D} (h : rB H H' A v d) : rD K H H' A v d := by
  obtain ⟨k, rfl, rfl⟩ := h
  exact .bl k
theorem t_cmpB {op : CmpOp} {r : R2} {f : D → D → Option D} (hop : OpR X (compareOp op) r) (ho : Op2 X rB r f) (ha : TO X W a Fa) (hc : TO X W b Fb) (h1 : behindInMarks op b = false) : TD X W (.Compare a [op] [b] pos) (e2 f Fa Fb) :=
  peW (pe_cmpR hop ha hc h1) fun _ _ _ => op2_t back_D fun H A x y a b d Q hA h1 h2 e k => ho H A x y a b d Q hA h1 h2 e fun v H' s q => k v H' s (rB_D q)
/-- of two ints -/
def cmpI (p : Int → Int → Bool) : D → D → Option D
  | .int i, .int j => some (.bool (p i j))
  | _, _ => none
theorem o_cmpI {p : Int → Int → Bool} : Op2 X rB (rI0 fun i j => .bl (p i j)) (cmpI p) := by
  intro H A x y a b d Q hA ha hb e k
  unfold cmpI at e
  split at e
  · have e := Option.some.inj e
    subst e
    exact ⟨_, _, rO_int ha, rO_int hb, k _ H (Same.refl _) ⟨_, rfl, rfl⟩⟩
  · cases e
def ltV := cmpI fun i j => decide (i < j)
def leV := cmpI fun i j => decide (i ≤ j)
def gtV := cmpI fun i j => decide (j < i)
def geV := cmpI fun i j => decide (j ≤ i)
theorem t_lt (ha : TO X W a Fa) (hb : TO X W b Fb) : TD X W (.Compare a [.Lt] [b] pos) (e2 ltV Fa Fb) := t_cmpB op_lt o_cmpI ha hb (nomark _)
theorem t_le (ha : TO X W a Fa) (hb : TO X W b Fb) : TD X W (.Compare a [.LtE] [b] pos) (e2 leV Fa Fb) := t_cmpB op_le o_cmpI ha hb (nomark _)
theorem t_gt (ha : TO X W a Fa) (hb : TO X W b Fb) : TD X W (.Compare a [.Gt] [b] pos) (e2 gtV Fa Fb) := t_cmpB op_gt o_cmpI ha hb (nomark _)
theorem t_ge (ha : TO X W a Fa) (hb : TO X W b Fb) : TD X W (.Compare a [.GtE] [b] pos) (e2 geV Fa Fb) := t_cmpB op_ge o_cmpI ha hb (nomark _)
/-- == of data -/
def eqV' : D → D → Option D
  | .str a, .str b => some (.bool (decide (a = b)))
  | x, y => if SeqAt.shaped x = true ∧ SeqAt.shaped y = true then some (.bool (PyData.eqv x y)) else none
def neV' : D → D → Option D
  | .str a, .str b => some (.bool (!decide (a = b)))
  | x, y => if SeqAt.shaped x = true ∧ SeqAt.shaped y = true then some (.bool (!PyData.eqv x y)) else none
def rEqA (K : PySem.W.Frag) : R2 := fun x y H Q => rEq x y H Q ∨ rEqD K x y H Q
def rNeA (K : PySem.W.Frag) : R2 := fun x y H Q => rNe x y H Q ∨ rNeD K x y H Q
theorem op_eqA (hu : X.A.units + 64 < cLine) : OpR X (compareOp .Eq) (rEqA X.K) := fun pins s σ H x y v u Q I rx ry h => h.elim (op_eq pins s σ H x y v u Q I rx ry) (op_eqD hu pins s σ H x y v u Q I rx ry)
theorem op_neA (hu : X.A.units + 64 < cLine) : OpR X (compareOp .NotEq) (rNeA X.K) := fun pins s σ H x y v u Q I rx ry h => h.elim (op_ne pins s σ H x y v u Q I rx ry) (op_neD hu pins s σ H x y v u Q I rx ry)
theorem dec_V {a b : Str} : decide (V.str a = V.str b) = decide (a = b) := by
  by_cases e : a = b
  · rw [decide_eq_true e, e]
    exact decide_eq_true rfl
  · rw [decide_eq_false e]
    exact decide_eq_false fun z => e (V.str.inj z)
theorem o_eq : Op2 X rB (rEqA X.K) eqV' := fun H A x y a b d Q hA ha hb e k => by
  unfold eqV' at e
  split at e
  · have e := Option.some.inj e
    subst e
    refine .inl ?_
    rw [rO_str ha, rO_str hb]
    exact ⟨rfl, by rw [dec_V]; exact k _ H (Same.refl _) ⟨_, rfl, rfl⟩⟩
  · split at e
    · rename_i h
      have e := Option.some.inj e
      subst e
      exact .inr ⟨_, _, rO_dp ha, rO_dp hb, h.1, h.2, k _ H (Same.refl _) ⟨_, rfl, rfl⟩⟩
    · cases e
theorem o_ne : Op2 X rB (rNeA X.K) neV' := fun H A x y a b d Q hA ha hb e k => by
  unfold neV' at e
  split at e
  · have e := Option.some.inj e
    subst e
    refine .inl ?_
    rw [rO_str ha, rO_str hb]
    exact ⟨rfl, by rw [dec_V]; exact k _ H (Same.refl _) ⟨_, rfl, rfl⟩⟩
  · split at e
    · rename_i h
      have e := Option.some.inj e
      subst e
      exact .inr ⟨_, _, rO_dp ha, rO_dp hb, h.1, h.2, k _ H (Same.refl _) ⟨_, rfl, rfl⟩⟩
    · cases e
theorem t_eq (hu : X.A.units + 64 < cLine) (ha : TO X W a Fa) (hb : TO X W b Fb) : TD X W (.Compare a [.Eq] [b] pos) (e2 eqV' Fa Fb) := t_cmpB (op_eqA hu) o_eq ha hb (nomark _)
theorem t_ne (hu : X.A.units + 64 < cLine) (ha : TO X W a Fa) (hb : TO X W b Fb) : TD X W (.Compare a [.NotEq] [b] pos) (e2 neV' Fa Fb) := t_cmpB (op_neA hu) o_ne ha hb (nomark _)
/-- is None -/
def isNone : D → Bool
  | .none => true
  | _ => false
theorem isNone_of {K : PySem.W.Frag} {H : Hp} {v : V} {d : D} (h : Dp K H v d) : decide (v = .non) = isNone d := by
  cases h <;> first | rfl | (exact decide_eq_false fun z => by cases z)
def isV (x y : D) : Option D := match y with
  | .none => some (.bool (isNone x))
  | _ => none
def isnotV (x y : D) : Option D := match y with
  | .none => some (.bool (!isNone x))
  | _ => none
theorem o_is : Op2 X rB (fun x y H Q => y = .non ∧ Q (.bl (decide (x = .non))) H) isV := fun H A x y a b d Q hA ha hb e k => by
  unfold isV at e
  split at e
  · have e := Option.some.inj e
    subst e
    exact ⟨rO_none hb, by rw [isNone_of (rO_dp ha)]; exact k _ H (Same.refl _) ⟨_, rfl, rfl⟩⟩
  · cases e
theorem t_is (ha : TO X W a Fa) (hb : TO X W b Fb) : TD X W (.Compare a [.Is] [b] pos) (e2 isV Fa Fb) := t_cmpB op_isN o_is ha hb (nomark _)
theorem o_isnot : Op2 X rB (fun x y H Q => y = .non ∧ Q (.bl (!decide (x = .non))) H) isnotV := fun H A x y a b d Q hA ha hb e k => by
  unfold isnotV at e
  split at e
  · have e := Option.some.inj e
    subst e
    exact ⟨rO_none hb, by rw [isNone_of (rO_dp ha)]; exact k _ H (Same.refl _) ⟨_, rfl, rfl⟩⟩
  · cases e
theorem t_isnot (ha : TO X W a Fa) (hb : TO X W b Fb) : TD X W (.Compare a [.IsNot] [b] pos) (e2 isnotV Fa Fb) := t_cmpB op_notN o_isnot ha hb (nomark _)
/-! in, not in -/
def flatD : D → Bool
  | .none => true
  | .bool _ => true
  | .int _ => true
  | .str _ => true
  | _ => false
theorem flat_of {K : PySem.W.Frag} {H : Hp} {v : V} {d : D} (h : Dp K H v d) : flatV v = flatD d := by
  cases h <;> rfl
theorem eqV_of {K : PySem.W.Frag} {H : Hp} {v w : V} {d e : D} (h : Dp K H v d) (h' : Dp K H w e) (f : flatD d = true) (f' : flatD e = true) : eqV v w = PyData.eqv d e := by
  cases h with
  | lst _ _ => exact absurd f Bool.false_ne_true
  | tup _ _ => exact absurd f Bool.false_ne_true
  | _ => cases h' with
    | lst _ _ => exact absurd f' Bool.false_ne_true
    | tup _ _ => exact absurd f' Bool.false_ne_true
    | _ => first | rfl | (unfold PyData.eqv; rfl) | (simp [eqV, PyData.eqv])
theorem flats_of {K : PySem.W.Frag} {H : Hp} : ∀ {vs : List V} {ds : List D}, DpAll K H vs ds → vs.all flatV = ds.all flatD
  | _, _, .nil => rfl
  | _, _, .cons h t => by rw [List.all_cons, List.all_cons, flat_of h, flats_of t]
theorem inV_of {K : PySem.W.Frag} {H : Hp} {w : V} {e : D} (h' : Dp K H w e) (f' : flatD e = true) : ∀ {vs : List V} {ds : List D}, DpAll K H vs ds → ds.all flatD = true → inV w vs = ds.any fun z => PyData.eqv z e
  | _, _, .nil, _ => rfl
  | _, _, .cons (ds := ds) h t, f => by
    rw [List.all_cons, Bool.and_eq_true] at f
    have q := inV_of h' f' t f.2
    unfold inV at q ⊢
    rw [List.any_cons, List.any_cons, eqV_of h h' f.1 f', q]
def inD (x c : D) : Option Bool := match c with
  | .list ds => if SeqAt.shaped x = true ∧ SeqAt.shaped (.list ds) = true then some (ds.any fun z => PyData.eqv z x) else none
  | .tuple ds => if flatD x = true ∧ ds.all flatD = true then some (ds.any fun z => PyData.eqv z x) else none
  | _ => none
def inV' (x c : D) : Option D := (inD x c).map .bool
def ninV' (x c : D) : Option D := (inD x c).map fun b => .bool (!b)
def rInA (K : PySem.W.Frag) : R2 := fun x y H Q => rInD K x y H Q ∨ rIn K false x y H Q
def rNotInA (K : PySem.W.Frag) : R2 := fun x y H Q => rNotInD K x y H Q ∨ rIn K true x y H Q
theorem op_inA (hu : X.A.units + 65 < cLine) : OpR X (compareOp .In) (rInA X.K) := by
  intro pins s σ H x y v u Q I rx ry h
  rcases h with h | h
  · exact op_inD hu pins s σ H x y v u Q I rx ry h
  · exact op_in_seq pins s σ H x y v u Q I rx ry h
theorem op_notInA (hu : X.A.units + 65 < cLine) : OpR X (compareOp .NotIn) (rNotInA X.K) := by
  intro pins s σ H x y v u Q I rx ry h
  rcases h with h | h
  · exact op_notInD hu pins s σ H x y v u Q I rx ry h
  · exact op_notIn_seq pins s σ H x y v u Q I rx ry h
theorem o_in : Op2 X rB (rInA X.K) inV' := fun H A x y a b d Q hA ha hb e k => by
  unfold inV' inD at e
  split at e
  · rename_i ds
    split at e
    · rename_i h
      have e := Option.some.inj e
      subst e
      exact .inl ⟨_, _, rO_dp ha, rO_dp hb, h.1, h.2, k _ H (Same.refl _) ⟨_, rfl, rfl⟩⟩
    · cases e
  · rename_i ds
    split at e
    · rename_i h
      have e := Option.some.inj e
      subst e
      obtain ⟨l, vs, rfl, h1, h2, q⟩ := rO_tup hb
      have q := DpAll_mono q (hid_le A H)
      refine .inr ⟨l, vs, rfl, .inr h1, by rw [flat_of (rO_dp ha)]; exact h.1, by rw [flats_of q]; exact h.2, ?_⟩
      rw [inV_of (rO_dp ha) h.1 q h.2]
      exact k _ H (Same.refl _) ⟨_, rfl, rfl⟩
    · cases e
  · cases e
theorem t_in (hu : X.A.units + 65 < cLine) (ha : TO X W a Fa) (hb : TO X W b Fb) (h1 : behindInMarks .In b = false := by with_unfolding_all rfl) : TD X W (.Compare a [.In] [b] pos) (e2 inV' Fa Fb) := t_cmpB (op_inA hu) o_in ha hb h1
theorem o_notin : Op2 X rB (rNotInA X.K) ninV' := fun H A x y a b d Q hA ha hb e k => by
  unfold ninV' inD at e
  split at e
  · rename_i ds
    split at e
    · rename_i h
      have e := Option.some.inj e
      subst e
      exact .inl ⟨_, _, rO_dp ha, rO_dp hb, h.1, h.2, k _ H (Same.refl _) ⟨_, rfl, rfl⟩⟩
    · cases e
  · rename_i ds
    split at e
    · rename_i h
      have e := Option.some.inj e
      subst e
      obtain ⟨l, vs, rfl, h1, h2, q⟩ := rO_tup hb
      have q := DpAll_mono q (hid_le A H)
      refine .inr ⟨l, vs, rfl, .inr h1, by rw [flat_of (rO_dp ha)]; exact h.1, by rw [flats_of q]; exact h.2, ?_⟩
      rw [inV_of (rO_dp ha) h.1 q h.2]
      exact k _ H (Same.refl _) ⟨_, rfl, rfl⟩
    · cases e
  · cases e
theorem t_notin (hu : X.A.units + 65 < cLine) (ha : TO X W a Fa) (hb : TO X W b Fb) (h1 : behindInMarks .NotIn b = false := by with_unfolding_all rfl) : TD X W (.Compare a [.NotIn] [b] pos) (e2 ninV' Fa Fb) := t_cmpB (op_notInA hu) o_notin ha hb h1

/-! ### truth and tests -/
def tru : D → R Bool
  | .none => .ok false
  | .bool b => .ok b
  | .int i => .ok (i != 0)
  | .str y => if y.length ≤ lineN then .ok ((y.length : Int) != 0) else .no
  | .list xs => .ok !xs.isEmpty
  | .tuple xs => .ok !xs.isEmpty
  | .dict _ => .no
/-- what a test's answer asks -/
def PostB (K : PySem.W.Frag) (mg : Str → Option Value) (W : WX) (σ : L2.St) (A : List Addr) (H : Hp) (r : R Bool) (Q : Bool → Hp → Prop) : Prop :=
  match r with
  | .ok b => ∀ H', Same H H' → Q b H'
  | .ex c w p => ∀ cls dd H', Same H H' → ExR K mg (hid A H') cls dd c w p → W cls dd σ H'
  | .no => False
def tT (K : PySem.W.Frag) (mg : Str → Option Value) (W : WX) (G : Nv → R Bool) : TT := fun σ H Q => ∃ η A, EnvD K H A σ η ∧ PostB K mg W σ A H (G η) Q
def TB (X : Cx) (W : WX) (e : Expr) (G : Nv → R Bool) : Prop := PT X e (tT X.K X.mg W G)
theorem ptW {t t' : TT} (h : PT X e t) (k : ∀ σ H Q, t' σ H Q → t σ H Q) : PT X e t' := ⟨fun pins s σ H Q I q => h.run pins s σ H Q I (k _ _ _ q)⟩
theorem PostB.same {K : PySem.W.Frag} {mg : Str → Option Value} {σ : L2.St} {A : List Addr} {H H1 : Hp} {r : R Bool} {Q : Bool → Hp → Prop} (s : Same H H1) (h : PostB K mg W σ A H r Q) : PostB K mg W σ A H1 r Q := by
  cases r with
  | ok d => exact fun H' s' => h H' (s.trans s')
  | ex c w p => exact fun cls dd H' s' q => h cls dd H' (s.trans s') q
  | no => exact h
def tb (F : Nv → R D) : Nv → R Bool := fun η => (F η).bind tru
theorem tru_of {K : PySem.W.Frag} {H : Hp} {v : V} {d : D} {k : Bool} (h : Dp K H v d) (e : tru d = .ok k) : TruV K v H k := by
  cases h with
  | non => unfold tru at e; cases e; rfl
  | bl b => unfold tru at e; cases e; rfl
  | int i => unfold tru at e; cases e; rfl
  | str y =>
    have e : (if y.length ≤ lineN then R.ok ((y.length : Int) != 0) else R.no) = .ok k := e
    by_cases hz : y.length ≤ lineN
    · rw [if_pos hz] at e
      cases e
      exact ⟨by rw [line_eq]; exact hz, rfl⟩
    · rw [if_neg hz] at e
      cases e
  | @lst a xs ds h1 h2 =>
    unfold tru at e
    cases e
    refine .inl ⟨xs, h1, ?_⟩
    cases h2 <;> rfl
  | @tup a xs ds h1 h2 =>
    unfold tru at e
    cases e
    refine .inr (.inl ⟨xs, h1, ?_⟩)
    cases h2 <;> rfl
/-- from a value's answer to a test's -/
theorem tT_of {t : TE} {rl : Rl} {K : PySem.W.Frag} {mg : Str → Option Value} {σ : L2.St} {H : Hp} {Q : Bool → Hp → Prop} {R1 : V → Hp → Prop} (h : tT K mg W (tb F) σ H Q)
    (k : ∀ (A : List Addr) (H1 : Hp) (v : V) (d : D) (b : Bool), rl H H1 A v d → tru d = .ok b → Q b H1 → R1 v H1) : tR K mg W rl F σ H R1 := by
  obtain ⟨η, A, E, p0⟩ := h
  have p : PostB K mg W σ A H ((F η).bind tru) Q := p0
  refine ⟨η, A, E, ?_⟩
  cases e : F η with
  | ex c w q => rw [e] at p; exact p
  | no => rw [e] at p; exact p
  | ok d =>
    rw [e] at p
    have p : PostB K mg W σ A H (tru d) Q := p
    intro v H1 s q
    cases e2 : tru d with
    | ex c w q =>
      exfalso
      unfold tru at e2
      split at e2 <;> first | cases e2 | (split at e2 <;> cases e2)
    | no => rw [e2] at p; exact False.elim p
    | ok b =>
      rw [e2] at p
      exact k A H1 v d b q e2 (p H1 s)
theorem b_val (ha : TO X W a Fa) (he : ∀ whole, isTrue a X.env whole = (do let v ← whole; standAt a.pos; holding [v] (truthy v)) := by intro _; rfl) : TB X W a (tb Fa) :=
  ptW (pt_truth ha he) fun σ H Q h => tT_of (t := fun _ _ _ => True) h fun A H1 v d b q e r => ⟨b, tru_of (rO_dp q) e, r⟩
/-- a comparison as a test -/
theorem b_cmp {op : CmpOp} {r : R2} {f : D → D → Option D} (hop : OpR X (compareOp op) r) (ho : Op2 X rB r f) (ha : TO X W a Fa) (hb : TO X W b Fb) (h1 : behindInMarks op b = false) : TB X W (.Compare a [op] [b] pos) (tb (e2 f Fa Fb)) :=
  ptW (pt_cmpR hop ha hb h1) fun σ H Q h => op2_t (fun _ _ _ _ _ _ _ q => q) ho (tT_of (t := fun _ _ _ => True) (rl := rB) h fun A H1 v d b q e r => by
    obtain ⟨k, rfl, rfl⟩ := q
    cases e
    exact ⟨_, rfl, r⟩)
theorem b_lt (ha : TO X W a Fa) (hb : TO X W b Fb) : TB X W (.Compare a [.Lt] [b] pos) (tb (e2 ltV Fa Fb)) := b_cmp op_lt o_cmpI ha hb (nomark _)
theorem b_le (ha : TO X W a Fa) (hb : TO X W b Fb) : TB X W (.Compare a [.LtE] [b] pos) (tb (e2 leV Fa Fb)) := b_cmp op_le o_cmpI ha hb (nomark _)
theorem b_gt (ha : TO X W a Fa) (hb : TO X W b Fb) : TB X W (.Compare a [.Gt] [b] pos) (tb (e2 gtV Fa Fb)) := b_cmp op_gt o_cmpI ha hb (nomark _)
theorem b_ge (ha : TO X W a Fa) (hb : TO X W b Fb) : TB X W (.Compare a [.GtE] [b] pos) (tb (e2 geV Fa Fb)) := b_cmp op_ge o_cmpI ha hb (nomark _)
theorem b_eq (hu : X.A.units + 64 < cLine) (ha : TO X W a Fa) (hb : TO X W b Fb) : TB X W (.Compare a [.Eq] [b] pos) (tb (e2 eqV' Fa Fb)) := b_cmp (op_eqA hu) o_eq ha hb (nomark _)
theorem b_ne (hu : X.A.units + 64 < cLine) (ha : TO X W a Fa) (hb : TO X W b Fb) : TB X W (.Compare a [.NotEq] [b] pos) (tb (e2 neV' Fa Fb)) := b_cmp (op_neA hu) o_ne ha hb (nomark _)
theorem b_is (ha : TO X W a Fa) (hb : TO X W b Fb) : TB X W (.Compare a [.Is] [b] pos) (tb (e2 isV Fa Fb)) := b_cmp op_isN o_is ha hb (nomark _)
theorem b_isnot (ha : TO X W a Fa) (hb : TO X W b Fb) : TB X W (.Compare a [.IsNot] [b] pos) (tb (e2 isnotV Fa Fb)) := b_cmp op_notN o_isnot ha hb (nomark _)
theorem b_in (hu : X.A.units + 65 < cLine) (ha : TO X W a Fa) (hb : TO X W b Fb) (h1 : behindInMarks .In b = false := by with_unfolding_all rfl) : TB X W (.Compare a [.In] [b] pos) (tb (e2 inV' Fa Fb)) := b_cmp (op_inA hu) o_in ha hb h1
theorem b_notin (hu : X.A.units + 65 < cLine) (ha : TO X W a Fa) (hb : TO X W b Fb) (h1 : behindInMarks .NotIn b = false := by with_unfolding_all rfl) : TB X W (.Compare a [.NotIn] [b] pos) (tb (e2 ninV' Fa Fb)) := b_cmp (op_notInA hu) o_notin ha hb h1
end
end Bd
/-! D3: and, or, not, if-else, chains; arguments; built-ins and own defs called; displays, subscripts, slices. -/
namespace Bd
open PySem L2

section
variable {X : Cx} {W : WX} {rl : Rl} {a b c e : Expr} {rest : List Expr} {Fa Fb Fc F : Nv → R D} {Ga Gb G : Nv → R Bool} {pos : Pos}
/-! ### tests joined -/
def TW (X : Cx) (W : WX) (e : Expr) (G : Nv → R Bool) : Prop := PW X e (tT X.K X.mg W G)
theorem pwW {t t' : TT} (h : PW X e t) (k : ∀ σ H Q, t' σ H Q → t σ H Q) : PW X e t' := ⟨fun w pins s σ H Q I q => h.run w pins s σ H Q I (k _ _ _ q)⟩
def andB (Ga Gb : Nv → R Bool) : Nv → R Bool := fun η => (Ga η).bind fun k => if k then Gb η else .ok false
def orB (Ga Gb : Nv → R Bool) : Nv → R Bool := fun η => (Ga η).bind fun k => if k then .ok true else Gb η
def notB (Ga : Nv → R Bool) : Nv → R Bool := fun η => (Ga η).bind fun k => .ok !k
theorem tT_bind {K : PySem.W.Frag} {mg : Str → Option Value} {g : Nv → Bool → R Bool} {σ : L2.St} {H : Hp} {Q : Bool → Hp → Prop} {R1 : Bool → Hp → Prop} (h : tT K mg W (fun η => (Ga η).bind (g η)) σ H Q)
    (k : ∀ (η : Nv) (A : List Addr) (H1 : Hp) (b : Bool), EnvD K H1 A σ η → PostB K mg W σ A H1 (g η b) Q → R1 b H1) : tT K mg W Ga σ H R1 := by
  obtain ⟨η, A, E, p0⟩ := h
  have p : PostB K mg W σ A H ((Ga η).bind (g η)) Q := p0
  refine ⟨η, A, E, ?_⟩
  cases e : Ga η with
  | ex c w q => rw [e] at p; exact p
  | no => rw [e] at p; exact p
  | ok d =>
    rw [e] at p
    have p : PostB K mg W σ A H (g η d) Q := p
    exact fun H1 s => k η A H1 d (E.same s) (p.same s)
theorem w_and1 (ha : TB X W a Ga) : TW X W (.BoolOp .And [a] pos) Ga := pw_and1 ha
theorem w_or1 (ha : TB X W a Ga) : TW X W (.BoolOp .Or [a] pos) Ga := pw_or1 ha
theorem w_and (ha : TB X W a Ga) (hb : TW X W (.BoolOp .And (b :: rest) pos) Gb) : TW X W (.BoolOp .And (a :: b :: rest) pos) (andB Ga Gb) := pwW (pw_and ha hb) fun σ H Q h => tT_bind h fun η A H1 b E p => by
  cases b with
  | true => exact iteT ⟨η, A, E, p⟩
  | false => exact iteF (p H1 (Same.refl _))
theorem w_or (ha : TB X W a Ga) (hb : TW X W (.BoolOp .Or (b :: rest) pos) Gb) : TW X W (.BoolOp .Or (a :: b :: rest) pos) (orB Ga Gb) := pwW (pw_or ha hb) fun σ H Q h => tT_bind h fun η A H1 b E p => by
  cases b with
  | true => exact iteT (p H1 (Same.refl _))
  | false => exact iteF ⟨η, A, E, p⟩
theorem b_w (h : TW X W e G) : TB X W e G := PW.pt h
theorem b_not (ha : TB X W a Ga) : TB X W (.UnaryOp .Not a pos) (notB Ga) := ptW (pt_not ha) fun σ H Q h => tT_bind h fun η A H1 b E p => p H1 (Same.refl _)
/-! as values -/
def andV (Fa Fb : Nv → R D) : Nv → R D := fun η => (Fa η).bind fun x => (tru x).bind fun k => if k then Fb η else .ok x
def orV (Fa Fb : Nv → R D) : Nv → R D := fun η => (Fa η).bind fun x => (tru x).bind fun k => if k then .ok x else Fb η
def notV (Fa : Nv → R D) : Nv → R D := fun η => (Fa η).bind fun x => (tru x).bind fun k => .ok (.bool !k)
theorem tru_noex {d : D} {c w : Str} {p : D} : tru d ≠ .ex c w p := by
  intro e
  cases d <;> first | (cases e; done) | skip
  rename_i y
  have e : (if y.length ≤ lineN then R.ok ((y.length : Int) != 0) else R.no) = .ex c w p := e
  split at e <;> cases e
theorem bindT {g : Nv → D → Bool → R D} {σ : L2.St} {H : Hp} {Q : VK} {R1 : V → Hp → Prop} {rl' : Rl} (hb : Back rl) (h : tR X.K X.mg W rl (fun η => (F η).bind fun x => (tru x).bind fun k => g η x k) σ H Q)
    (k : ∀ (η : Nv) (A : List Addr) (H0 H1 : Hp) (v : V) (d : D) (b : Bool), EnvD X.K H1 A σ η → rl' H0 H1 A v d → tru d = .ok b → Post X.K X.mg W rl σ A H1 (g η d b) Q → R1 v H1) : tR X.K X.mg W rl' F σ H R1 := by
  obtain ⟨η, A, E, p⟩ := bindR (rl' := rl') hb h
  refine ⟨η, A, E, ?_⟩
  cases e : F η with
  | ex c w q => rw [e] at p; exact p
  | no => rw [e] at p; exact p
  | ok d =>
    rw [e] at p
    intro v1 H1 s1 q1
    obtain ⟨η1, A1, d1, s2, E1, q2, _, P⟩ := p v1 H1 s1 q1
    have P : Post X.K X.mg W rl σ A1 H1 ((tru d1).bind fun k => g η1 d1 k) Q := P
    cases e2 : tru d1 with
    | ex c w q => exact absurd e2 tru_noex
    | no => rw [e2] at P; exact False.elim P
    | ok b =>
      rw [e2] at P
      exact k η1 A1 H H1 v1 d1 b E1 q2 e2 P
theorem t_one {op : BoolOp} (h : TD X W a Fa) : TD X W (.BoolOp op [a] pos) Fa := pe_one h
theorem t_and (ha : TD X W a Fa) (hb : TD X W (.BoolOp .And (b :: rest) pos) Fb) : TD X W (.BoolOp .And (a :: b :: rest) pos) (andV Fa Fb) := peW (pe_andT ha hb) fun σ H Q h => bindT (rl' := rD X.K) back_D h fun η A H0 H1 v d k E q e p => by
  refine ⟨k, tru_of (Dp_mono q (hid_le A H1)) e, ?_⟩
  cases k with
  | true => exact iteT ⟨η, A, E, p⟩
  | false => exact iteF (p v H1 (Same.refl _) q)
theorem t_or (ha : TD X W a Fa) (hb : TD X W (.BoolOp .Or (b :: rest) pos) Fb) : TD X W (.BoolOp .Or (a :: b :: rest) pos) (orV Fa Fb) := peW (pe_orT ha hb) fun σ H Q h => bindT (rl' := rD X.K) back_D h fun η A H0 H1 v d k E q e p => by
  refine ⟨k, tru_of (Dp_mono q (hid_le A H1)) e, ?_⟩
  cases k with
  | true => exact iteT (p v H1 (Same.refl _) q)
  | false => exact iteF ⟨η, A, E, p⟩
theorem t_not (ha : TO X W a Fa) : TD X W (.UnaryOp .Not a pos) (notV Fa) := peW (pe_notT ha) fun σ H Q h => bindT (rl' := rO X.K) back_D h fun η A H0 H1 v d k E q e p =>
  ⟨k, tru_of (rO_dp q) e, p _ H1 (Same.refl _) (.bl _)⟩
/-! ### a if t else b -/
def ifV (G : Nv → R Bool) (Fa Fb : Nv → R D) : Nv → R D := fun η => (G η).bind fun k => if k then Fa η else Fb η
theorem tT_bindR {K : PySem.W.Frag} {mg : Str → Option Value} {g : Nv → Bool → R D} {σ : L2.St} {H : Hp} {Q : VK} {R1 : Bool → Hp → Prop} (hb : Back rl) (h : tR K mg W rl (fun η => (Ga η).bind (g η)) σ H Q)
    (k : ∀ (η : Nv) (A : List Addr) (H1 : Hp) (b : Bool), EnvD K H1 A σ η → Post K mg W rl σ A H1 (g η b) Q → R1 b H1) : tT K mg W Ga σ H R1 := by
  obtain ⟨η, A, E, p0⟩ := h
  have p : Post K mg W rl σ A H ((Ga η).bind (g η)) Q := p0
  refine ⟨η, A, E, ?_⟩
  cases e : Ga η with
  | ex c w q => rw [e] at p; exact p
  | no => rw [e] at p; exact p
  | ok d =>
    rw [e] at p
    have p : Post K mg W rl σ A H (g η d) Q := p
    exact fun H1 s => k η A H1 d (E.same s) (Post.same hb s p)
theorem t_if (hc : TB X W c G) (ha : TD X W a Fa) (hb : TD X W b Fb) : TD X W (.IfExp c a b pos) (ifV G Fa Fb) := peW (pe_ifExp hc ha hb) fun σ H Q h => tT_bindR back_D h fun η A H1 k E p => by
  cases k with
  | true => exact iteT ⟨η, A, E, p⟩
  | false => exact iteF ⟨η, A, E, p⟩
/-! ### a op b op' c -/
def chainV (f g : D → D → Option D) (Fa Fb Fc : Nv → R D) : Nv → R D := fun η => (Fa η).bind fun x => (Fb η).bind fun y => (R.of (f x y)).bind fun z => (tru z).bind fun k => if k then (Fc η).bind fun w => .of (g y w) else .ok (.bool false)
theorem chain_t {r r' : R2} {f g : D → D → Option D} (ho : Op2 X rB r f) (ho' : Op2 X rB r' g) {σ : L2.St} {H : Hp} {Q : VK} (h : tR X.K X.mg W rB (chainV f g Fa Fb Fc) σ H Q) :
    tChain r r' (tR X.K X.mg W (rO X.K) Fa) (tR X.K X.mg W (rO X.K) Fb) (tR X.K X.mg W (rO X.K) Fc) σ H Q := by
  have bk : Back rB := fun _ _ _ _ _ _ _ q => q
  obtain ⟨η, A, E, p0⟩ := h
  have p : Post X.K X.mg W rB σ A H ((Fa η).bind fun x => (Fb η).bind fun y => (R.of (f x y)).bind fun z => (tru z).bind fun k => if k then (Fc η).bind fun w => .of (g y w) else .ok (.bool false)) Q := p0
  refine ⟨η, A, E, ?_⟩
  cases e1 : Fa η with
  | ex c w q => rw [e1] at p; exact p
  | no => rw [e1] at p; exact p
  | ok x =>
    rw [e1] at p
    have p : Post X.K X.mg W rB σ A H ((Fb η).bind fun y => (R.of (f x y)).bind fun z => (tru z).bind fun k => if k then (Fc η).bind fun w => .of (g y w) else .ok (.bool false)) Q := p
    intro v1 H1 s1 q1
    refine ⟨η, A, E.same s1, ?_⟩
    cases e2 : Fb η with
    | ex c w q => rw [e2] at p; exact Post.same bk s1 (rl := rB) (r := .ex c w q) p
    | no => rw [e2] at p; exact p
    | ok y =>
      rw [e2] at p
      have p : Post X.K X.mg W rB σ A H ((R.of (f x y)).bind fun z => (tru z).bind fun k => if k then (Fc η).bind fun w => .of (g y w) else .ok (.bool false)) Q := p
      intro v2 H2 s2 q2
      cases e3 : f x y with
      | none => rw [e3] at p; exact False.elim p
      | some z =>
        rw [e3] at p
        have p : Post X.K X.mg W rB σ A H ((tru z).bind fun k => if k then (Fc η).bind fun w => .of (g y w) else .ok (.bool false)) Q := p
        refine ho H2 A v1 v2 x y z _ ((E.same s1).same s2).tr (rO_same s2 q1) (rO_same (Same.refl _) q2) e3 fun v3 H3 s3 q3 => ?_
        obtain ⟨k, rfl, rfl⟩ := q3
        have s13 := (s1.trans s2).trans s3
        refine ⟨k, rfl, ?_⟩
        cases k with
        | false => exact iteF (p (.bl false) H3 s13 ⟨_, rfl, rfl⟩)
        | true =>
          have p : Post X.K X.mg W rB σ A H ((Fc η).bind fun w => .of (g y w)) Q := p
          refine iteT ⟨η, A, E.same s13, ?_⟩
          cases e4 : Fc η with
          | ex c w q => rw [e4] at p; exact Post.same bk s13 (rl := rB) (r := .ex c w q) p
          | no => rw [e4] at p; exact p
          | ok u =>
            rw [e4] at p
            have p : Post X.K X.mg W rB σ A H (.of (g y u)) Q := p
            intro v4 H4 s4 q4
            cases e5 : g y u with
            | none => rw [e5] at p; exact False.elim p
            | some z' =>
              rw [e5] at p
              have s24 := s3.trans s4
              exact ho' H4 A v2 v4 y u z' Q (E.same (s13.trans s4)).tr (rO_same s24 q2) (rO_same (Same.refl _) q4) e5 fun v5 H5 s5 q5 => p v5 H5 ((s13.trans s4).trans s5) q5
theorem t_chain {op op' : CmpOp} {r r' : R2} {f g : D → D → Option D} (hop : OpR X (compareOp op) r) (hop' : OpR X (compareOp op') r') (ho : Op2 X rB r f) (ho' : Op2 X rB r' g) (ha : TO X W a Fa) (hb : TO X W b Fb) (hc : TO X W c Fc)
    (hm : lastMarks [op, op'] [b, c] = false := by with_unfolding_all rfl) : TD X W (.Compare a [op, op'] [b, c] pos) (chainV f g Fa Fb Fc) :=
  peW (pe_chain hop hop' ha hb hc hm) fun σ H Q h => chain_t ho ho' (tR_imp (fun _ _ _ _ _ _ _ q => rB_D q) h)
theorem b_chain {op op' : CmpOp} {r r' : R2} {f g : D → D → Option D} (hop : OpR X (compareOp op) r) (hop' : OpR X (compareOp op') r') (ho : Op2 X rB r f) (ho' : Op2 X rB r' g) (ha : TO X W a Fa) (hb : TO X W b Fb) (hc : TO X W c Fc)
    (hm : lastMarks [op, op'] [b, c] = false := by with_unfolding_all rfl) : TB X W (.Compare a [op, op'] [b, c] pos) (tb (chainV f g Fa Fb Fc)) :=
  ptW (pt_chain hop hop' ha hb hc hm) fun σ H Q h => chain_t ho ho' (tT_of (t := fun _ _ _ => True) (rl := rB) h fun A H1 v d b q e r => by
    obtain ⟨k, rfl, rfl⟩ := q
    cases e
    exact ⟨_, rfl, r⟩)

/-! ### arguments -/
/-- how a value lies, without a heap ahead -/
abbrev Rv := Hp → List Addr → V → D → Prop
def vO (K : PySem.W.Frag) : Rv := fun H A v d => rO K H H A v d
def vD (K : PySem.W.Frag) : Rv := fun H A v d => Dp K (hid A H) v d
def Keeps (rv : Rv) : Prop := ∀ H H' A v d, Same H H' → rv H A v d → rv H' A v d
theorem keeps_O {K : PySem.W.Frag} : Keeps (vO K) := fun _ _ _ _ _ s h => rO_same s h
theorem keeps_D {K : PySem.W.Frag} : Keeps (vD K) := fun _ _ _ _ _ s h => Dp_mono h (hid_same s)
def AllV (rv : Rv) (H : Hp) (A : List Addr) : List V → List D → Prop
  | [], [] => True
  | v :: vs, d :: ds => rv H A v d ∧ AllV rv H A vs ds
  | _, _ => False
theorem AllV.dp {K : PySem.W.Frag} {H : Hp} {A : List Addr} : ∀ {vs : List V} {ds : List D}, AllV (vD K) H A vs ds → DpAll K (hid A H) vs ds
  | [], [], _ => .nil
  | _ :: _, _ :: _, h => .cons h.1 (AllV.dp h.2)
  | [], _ :: _, h => h.elim
  | _ :: _, [], h => h.elim
theorem AllV.len {rv : Rv} {H : Hp} {A : List Addr} : ∀ {vs : List V} {ds : List D}, AllV rv H A vs ds → vs.length = ds.length
  | [], [], _ => rfl
  | _ :: _, _ :: _, h => by rw [List.length_cons, List.length_cons, AllV.len h.2]
  | [], _ :: _, h => h.elim
  | _ :: _, [], h => h.elim
def PostA (K : PySem.W.Frag) (mg : Str → Option Value) (W : WX) (rv : Rv) (σ : L2.St) (A : List Addr) (H : Hp) (r : R (List D)) (Q : List V → Hp → Prop) : Prop :=
  match r with
  | .ok ds => ∀ vs H', Same H H' → AllV rv H' A vs ds → Q vs H'
  | .ex c w p => ∀ cls dd H', Same H H' → ExR K mg (hid A H') cls dd c w p → W cls dd σ H'
  | .no => False
def tA (K : PySem.W.Frag) (mg : Str → Option Value) (W : WX) (rv : Rv) (Fs : Nv → R (List D)) : TA := fun σ H Q => ∃ η A, EnvD K H A σ η ∧ PostA K mg W rv σ A H (Fs η) Q
def TAs (X : Cx) (W : WX) (rv : Rv) (es : List Expr) (Fs : Nv → R (List D)) : Prop := PA X es (tA X.K X.mg W rv Fs)
def TV (X : Cx) (W : WX) (rv : Rv) (e : Expr) (F : Nv → R D) : Prop := PE X e (tR X.K X.mg W (fun _ H' A v d => rv H' A v d) F)
theorem TD.v (h : TD X W e F) : TV X W (vD X.K) e F := h
theorem TO.v (h : TO X W e F) : TV X W (vO X.K) e F := peW h fun _ _ _ => tR_imp fun _ _ _ _ _ _ _ q => rO_same (Same.refl _) q
def a0 : Nv → R (List D) := fun _ => .ok []
def aC (Fa : Nv → R D) (Fs : Nv → R (List D)) : Nv → R (List D) := fun η => (Fa η).bind fun x => (Fs η).bind fun xs => .ok (x :: xs)
theorem paW {es : List Expr} {t t' : TA} (h : PA X es t) (k : ∀ σ H Q, t' σ H Q → t σ H Q) : PA X es t' := ⟨fun pos pins s σ H Q I q => h.run pos pins s σ H Q I (k _ _ _ q)⟩
theorem as_nil {rv : Rv} : TAs X W rv [] a0 := paW pa_nil fun σ H Q ⟨η, A, E, p⟩ => p [] H (Same.refl _) trivial
theorem as_cons {rv : Rv} {es : List Expr} {Fs : Nv → R (List D)} (hk : Keeps rv) (ha : TV X W rv a Fa) (hs : TAs X W rv es Fs) (h1 : starEach (a :: es) X.env = (false, eval a X.env) :: starEach es X.env := by rfl) : TAs X W rv (a :: es) (aC Fa Fs) :=
  paW (pa_cons ha hs h1) fun σ H Q h => by
    obtain ⟨η, A, E, p0⟩ := h
    have p : PostA X.K X.mg W rv σ A H ((Fa η).bind fun x => (Fs η).bind fun xs => .ok (x :: xs)) Q := p0
    refine (show tR X.K X.mg W (fun _ H' A v d => rv H' A v d) Fa σ H _ from ⟨η, A, E, ?_⟩)
    cases e1 : Fa η with
    | ex c w q => rw [e1] at p; exact p
    | no => rw [e1] at p; exact p
    | ok x =>
      rw [e1] at p
      have p : PostA X.K X.mg W rv σ A H ((Fs η).bind fun xs => .ok (x :: xs)) Q := p
      intro v H1 s1 q1
      refine (show tA X.K X.mg W rv Fs σ H1 _ from ⟨η, A, E.same s1, ?_⟩)
      cases e2 : Fs η with
      | ex c w q =>
        rw [e2] at p
        exact fun cls dd H' s q' => p cls dd H' (s1.trans s) q'
      | no => rw [e2] at p; exact p
      | ok xs =>
        rw [e2] at p
        exact fun vs H2 s2 q2 => p (v :: vs) H2 (s1.trans s2) ⟨hk _ _ _ _ _ s2 q1, q2⟩
/-- a built-in function's answer by data -/
def OpN (X : Cx) (rl : Rl) (r : List V → Hp → VK → Prop) (f : List D → Option D) : Prop :=
  ∀ (H : Hp) (A : List Addr) (vs : List V) (ds : List D) (d : D) (Q : VK), (∀ p ∈ A, H p ≠ none) → AllV (vO X.K) H A vs ds → f ds = some d → (∀ v H', Same H H' → rl H H' A v d → Q v H') → r vs H Q
def eN (f : List D → Option D) (Fs : Nv → R (List D)) : Nv → R D := fun η => (Fs η).bind fun ds => .of (f ds)
theorem opN_t {r : List V → Hp → VK → Prop} {f : List D → Option D} {Fs : Nv → R (List D)} (hb : Back rl) (ho : OpN X rl r f) {σ : L2.St} {H : Hp} {Q : VK} (h : tR X.K X.mg W rl (eN f Fs) σ H Q) : tCB r (tA X.K X.mg W (vO X.K) Fs) σ H Q := by
  obtain ⟨η, A, E, p0⟩ := h
  have p : Post X.K X.mg W rl σ A H ((Fs η).bind fun ds => .of (f ds)) Q := p0
  refine (show tA X.K X.mg W (vO X.K) Fs σ H _ from ⟨η, A, E, ?_⟩)
  cases e1 : Fs η with
  | ex c w q => rw [e1] at p; exact p
  | no => rw [e1] at p; exact p
  | ok ds =>
    rw [e1] at p
    have p : Post X.K X.mg W rl σ A H (.of (f ds)) Q := p
    intro vs H1 s1 q1
    cases e2 : f ds with
    | none => rw [e2] at p; exact False.elim p
    | some d =>
      rw [e2] at p
      exact ho H1 A vs ds d Q (E.same s1).tr q1 e2 fun v H' s q => p v H' (s1.trans s) (hb _ _ _ _ _ _ s1 q)
theorem t_callB {id : String} {x : Str} {p : Pos} {es : List Expr} {r : List V → Hp → VK → Prop} {f : List D → Option D} {Fs : Nv → R (List D)} (hb : Back rl) (hc : CallR X (.builtin id) r) (ho : OpN X rl r f) (hg : Gl X x) (hm : X.mg x = none) (hv : bootBuiltins x = some (.builtin id))
    (ha : TAs X W (vO X.K) (e :: es) Fs) (hn : x ≠ "__name__" := by decide) (hdb : (x == ("__debug__" : Str)) = false := by decide) (he : starEach (e :: es) X.env = (false, eval e X.env) :: starEach es X.env := by rfl)
    (hpl : (backTo pos (starEach es X.env)).any (·.1) = false := by rfl) : PE X (.Call (.Name x p) (e :: es) [] pos) (tR X.K X.mg W rl (eN f Fs)) :=
  peW (pe_callB hc hg hm hv ha hn hdb he hpl) fun _ _ _ => opN_t hb ho
theorem t_callTy {T : String} {x : Str} {p : Pos} {es : List Expr} {r : List V → Hp → VK → Prop} {f : List D → Option D} {Fs : Nv → R (List D)} (hb : Back rl) (hc : CallR X (.type T) r) (ho : OpN X rl r f) (hg : Gl X x) (hm : X.mg x = none) (hv : bootBuiltins x = some (.type T))
    (ha : TAs X W (vO X.K) (e :: es) Fs) (hn : x ≠ "__name__" := by decide) (hdb : (x == ("__debug__" : Str)) = false := by decide) (he : starEach (e :: es) X.env = (false, eval e X.env) :: starEach es X.env := by rfl)
    (hpl : (backTo pos (starEach es X.env)).any (·.1) = false := by rfl) : PE X (.Call (.Name x p) (e :: es) [] pos) (tR X.K X.mg W rl (eN f Fs)) :=
  peW (pe_callTy hc hg hm hv ha hn hdb he hpl) fun _ _ _ => opN_t hb ho
/-! ### displays -/
def tupV (Fs : Nv → R (List D)) : Nv → R D := eN (fun ds => if ds.length ≤ lineN then some (.tuple ds) else none) Fs
def lstV (Fs : Nv → R (List D)) : Nv → R D := eN (fun ds => if ds.length ≤ lineN then some (.list ds) else none) Fs
theorem t_tup {es : List Expr} {x1 : Nat} {Fs : Nv → R (List D)} (h : TAs X W (vD X.K) es Fs) : TD X W (.Tuple es x1 pos) (tupV Fs) := peW (pe_tup h) fun σ H Q hq => by
  obtain ⟨η, A, E, p0⟩ := hq
  have p : Post X.K X.mg W (rD X.K) σ A H ((Fs η).bind fun ds => .of (if ds.length ≤ lineN then some (.tuple ds) else none)) Q := p0
  refine (show tA X.K X.mg W (vD X.K) Fs σ H _ from ⟨η, A, E, ?_⟩)
  cases e1 : Fs η with
  | ex c w q => rw [e1] at p; exact p
  | no => rw [e1] at p; exact p
  | ok ds =>
    rw [e1] at p
    have p : Post X.K X.mg W (rD X.K) σ A H (.of (if ds.length ≤ lineN then some (.tuple ds) else none)) Q := p
    intro vs H1 s1 q1
    split at p
    · rename_i hz
      exact ⟨by rw [q1.len, line_eq]; exact hz, fun q hq => p _ _ (s1.trans (same_new hq)) (dp_new_tup (E.same s1).tr hq q1.dp)⟩
    · exact False.elim p
theorem t_lst {es : List Expr} {Fs : Nv → R (List D)} (h : TAs X W (vD X.K) es Fs) : TF X W (.List es pos) (lstV Fs) := peW (pe_lst h) fun σ H Q hq => by
  obtain ⟨η, A, E, p0⟩ := hq
  have p : Post X.K X.mg W (rF X.K) σ A H ((Fs η).bind fun ds => .of (if ds.length ≤ lineN then some (.list ds) else none)) Q := p0
  refine (show tA X.K X.mg W (vD X.K) Fs σ H _ from ⟨η, A, E, ?_⟩)
  cases e1 : Fs η with
  | ex c w q => rw [e1] at p; exact p
  | no => rw [e1] at p; exact p
  | ok ds =>
    rw [e1] at p
    have p : Post X.K X.mg W (rF X.K) σ A H (.of (if ds.length ≤ lineN then some (.list ds) else none)) Q := p
    intro vs H1 s1 q1
    split at p
    · rename_i hz
      exact ⟨by rw [q1.len, line_eq]; exact hz, fun q hq => p _ _ (s1.trans (same_new hq)) (back_F _ _ _ _ _ _ s1 (dp_new_list (E.same s1).tr hq q1.dp))⟩
    · exact False.elim p
/-! ### subscripts and slices -/
def atD (xs : List D) (i : Int) : Option D := (ixN xs.length i).bind fun j => xs[j]?
def ixV : D → D → Option D
  | .list xs, .int i => atD xs i
  | .tuple xs, .int i => atD xs i
  | _, _ => none
theorem atI_of {K : PySem.W.Frag} {H : Hp} {vs : List V} {ds : List D} {i : Int} {d : D} (h : DpAll K H vs ds) (e : atD ds i = some d) : ∃ v, atI vs i = some v ∧ Dp K H v d := by
  unfold atD at e
  unfold atI
  rw [DpAll_length h]
  cases q : ixN ds.length i with
  | none => rw [q] at e; cases e
  | some j =>
    rw [q] at e
    exact DpAll_get h e
theorem o_ix : Op2 X (rD X.K) (rIx X.K) ixV := by
  intro H A x y a b d Q hA ha hb e k
  unfold ixV at e
  split at e
  · obtain ⟨l, vs, rfl, h1, q⟩ := rO_list ha
    obtain ⟨v, e1, q1⟩ := atI_of q e
    exact .inl ⟨l, vs, _, v, rfl, rO_int hb, h1, e1, k v H (Same.refl _) q1⟩
  · obtain ⟨l, vs, rfl, h1, _, q⟩ := rO_tup ha
    obtain ⟨v, e1, q1⟩ := atI_of q e
    exact .inr (.inl ⟨l, vs, _, v, rfl, rO_int hb, h1, e1, k v H (Same.refl _) q1⟩)
  · cases e
theorem t_ix (ha : TO X W a Fa) (hb : TO X W b Fb) (hs : PlainIx b := by exact fun _ _ => rfl) : TD X W (.Subscript a b pos) (e2 ixV Fa Fb) := peW (pe_ix ix_seq ha hb hs) fun _ _ _ => op2_t back_D o_ix
def cutD (xs : List D) (lo hi : Option Int) : List D := (xs.drop (HT.sIx xs.length 0 lo)).take (HT.sIx xs.length xs.length hi - HT.sIx xs.length 0 lo)
theorem cut_of {K : PySem.W.Frag} {H : Hp} {vs : List V} {ds : List D} {lo hi : Option Int} (h : DpAll K H vs ds) : DpAll K H (cutV vs lo hi) (cutD ds lo hi) := by
  unfold cutV cutD
  rw [DpAll_length h]
  exact DpAll_take _ (DpAll_drop _ h)
def slV (lo hi : Option Int) : D → Option D
  | .list xs => some (.list (cutD xs lo hi))
  | .tuple xs => some (.tuple (cutD xs lo hi))
  | _ => none
def slL (lo hi : Option Int) : D → Option D
  | .list xs => some (.list (cutD xs lo hi))
  | _ => none
/-- a slice's part: left out, or an int -/
def TPt (X : Cx) (W : WX) (e : Option Expr) (F : Nv → R (Option Int)) : Prop :=
  ∃ t : L2.TO, PO X e t ∧ ∀ σ H (Q : Option Int → Hp → Prop), (∃ η A, EnvD X.K H A σ η ∧ match F η with
    | .ok o => ∀ H', Same H H' → Q o H'
    | .ex c w p => ∀ cls dd H', Same H H' → ExR X.K X.mg (hid A H') cls dd c w p → W cls dd σ H'
    | .no => False) → t σ H Q
def p0 : Nv → R (Option Int) := fun _ => .ok none
def asInt : D → R (Option Int)
  | .int i => .ok (some i)
  | _ => .no
def p1 (F : Nv → R D) : Nv → R (Option Int) := fun η => (F η).bind asInt
theorem pt_0 : TPt X W none p0 := ⟨_, po_none, fun σ H Q ⟨η, A, E, p⟩ => p H (Same.refl _)⟩
theorem pt_1 (h : TO X W e F) : TPt X W (some e) (p1 F) := ⟨_, po_some h, fun σ H Q ⟨η, A, E, p⟩ => by
  refine (show tR X.K X.mg W (rO X.K) F σ H _ from ⟨η, A, E, ?_⟩)
  unfold p1 at p
  cases e1 : F η with
  | ex c w q => rw [e1] at p; exact p
  | no => rw [e1] at p; exact p
  | ok d =>
    rw [e1] at p
    intro v H1 s1 q1
    cases d with
    | int i => exact ⟨i, rO_int q1, p H1 s1⟩
    | _ => exact False.elim p⟩
def slE (sl : Option Int → Option Int → D → Option D) (F : Nv → R D) (Lo Hi : Nv → R (Option Int)) : Nv → R D := fun η => (F η).bind fun x => (Lo η).bind fun l => (Hi η).bind fun h => .of (sl l h x)
theorem slice_t {r : V → Option Int → Option Int → Hp → VK → Prop} {sl : Option Int → Option Int → D → Option D} {lo hi : Option Expr} {Lo Hi : Nv → R (Option Int)} {p2 : Pos} (hb : Back rl) (hr : SlR X r)
    (ho : ∀ (H : Hp) (A : List Addr) (x : V) (a d : D) (l h : Option Int) (Q : VK), (∀ p ∈ A, H p ≠ none) → rO X.K H H A x a → sl l h a = some d → (∀ v H', Same H H' → rl H H' A v d → Q v H') → r x l h H Q)
    (ha : TO X W a Fa) (hl : TPt X W lo Lo) (hh : TPt X W hi Hi) : PE X (.Subscript a (.Slice lo hi none p2) pos) (tR X.K X.mg W rl (slE sl Fa Lo Hi)) := by
  obtain ⟨tl, pl, kl⟩ := hl
  obtain ⟨th, ph, kh⟩ := hh
  refine peW (pe_slice hr ha pl ph) fun σ H Q h => ?_
  obtain ⟨η, A, E, q0⟩ := h
  have p : Post X.K X.mg W rl σ A H ((Fa η).bind fun x => (Lo η).bind fun l => (Hi η).bind fun h => .of (sl l h x)) Q := q0
  refine (show tR X.K X.mg W (rO X.K) Fa σ H _ from ⟨η, A, E, ?_⟩)
  cases e1 : Fa η with
  | ex c w q => rw [e1] at p; exact p
  | no => rw [e1] at p; exact p
  | ok x =>
    rw [e1] at p
    have p : Post X.K X.mg W rl σ A H ((Lo η).bind fun l => (Hi η).bind fun h => .of (sl l h x)) Q := p
    intro v H1 s1 q1
    refine kl σ H1 _ ⟨η, A, E.same s1, ?_⟩
    cases e2 : Lo η with
    | ex c w q => rw [e2] at p; exact fun cls dd H' s q' => p cls dd H' (s1.trans s) q'
    | no => rw [e2] at p; exact p
    | ok l =>
      rw [e2] at p
      have p : Post X.K X.mg W rl σ A H ((Hi η).bind fun h => .of (sl l h x)) Q := p
      intro H2 s2
      have s12 := s1.trans s2
      refine kh σ H2 _ ⟨η, A, E.same s12, ?_⟩
      cases e3 : Hi η with
      | ex c w q => rw [e3] at p; exact fun cls dd H' s q' => p cls dd H' (s12.trans s) q'
      | no => rw [e3] at p; exact p
      | ok h =>
        rw [e3] at p
        have p : Post X.K X.mg W rl σ A H (.of (sl l h x)) Q := p
        intro H3 s3
        have s13 := s12.trans s3
        cases e4 : sl l h x with
        | none => rw [e4] at p; exact False.elim p
        | some d =>
          rw [e4] at p
          exact ho H3 A v x d l h Q (E.same s13).tr (rO_same (s2.trans s3) q1) e4 fun v' H' s q => p v' H' (s13.trans s) (hb _ _ _ _ _ _ s13 q)
theorem cut_whole {xs : List D} {lo hi : Option Int} (h : HT.sIx xs.length 0 lo = 0 ∧ HT.sIx xs.length xs.length hi = xs.length) : cutD xs lo hi = xs := by
  unfold cutD
  rw [h.1, h.2]
  simp
theorem t_slice {lo hi : Option Expr} {Lo Hi : Nv → R (Option Int)} {p2 : Pos} (ha : TO X W a Fa) (hl : TPt X W lo Lo) (hh : TPt X W hi Hi) : TD X W (.Subscript a (.Slice lo hi none p2) pos) (slE slV Fa Lo Hi) :=
  slice_t back_D (SlR.or sl_list sl_tupA) (fun H A x a d l h Q hA ha e k => by
    unfold slV at e
    split at e
    · have e := Option.some.inj e
      subst e
      obtain ⟨p, vs, rfl, h1, q⟩ := rO_list ha
      exact .inl ⟨p, vs, rfl, h1, fun z hz => k _ _ (same_new hz) (rF_D (nofree hA) (dp_new_list hA hz (cut_of q)))⟩
    · have e := Option.some.inj e
      subst e
      obtain ⟨p, vs, rfl, h1, h1', q⟩ := rO_tup ha
      refine .inr ⟨p, vs, rfl, h1, fun w => ?_, fun _ z hz => k _ _ (same_new hz) (dp_new_tup hA hz (cut_of q))⟩
      rw [DpAll_length q] at w
      refine k _ H (Same.refl _) ?_
      rw [cut_whole w]
      exact .tup h1' q
    · cases e) ha hl hh
/-- of a list: a new list -/
theorem t_sliceL {lo hi : Option Expr} {Lo Hi : Nv → R (Option Int)} {p2 : Pos} (ha : TO X W a Fa) (hl : TPt X W lo Lo) (hh : TPt X W hi Hi) : TF X W (.Subscript a (.Slice lo hi none p2) pos) (slE slL Fa Lo Hi) :=
  slice_t back_F sl_list (fun H A x a d l h Q hA ha e k => by
    unfold slL at e
    split at e
    · have e := Option.some.inj e
      subst e
      obtain ⟨p, vs, rfl, h1, q⟩ := rO_list ha
      exact ⟨p, vs, rfl, h1, fun z hz => k _ _ (same_new hz) (dp_new_list hA hz (cut_of q))⟩
    · cases e) ha hl hh
end
end Bd
/-! D4: targets, what is walked, comprehensions, statements. -/
namespace Bd
open PySem L2

section
variable {X : Cx} {W : WX} {rl : Rl} {a b c e tg iter : Expr} {Fa Fb Fc F : Nv → R D} {Ga Gb G : Nv → R Bool} {pos : Pos}
/-! ### targets -/
abbrev Tgt := D → Nv → Option Nv
abbrev Tgts := List D → Nv → Option Nv
structure Stored (σ σ' : L2.St) (η η' : Nv) (js : List Nat) : Prop where
  len : σ'.length = σ.length
  rest : ∀ j, j ∉ js → σ'[j]? = σ[j]?
  own : ∀ i xs, η'[i]? = some (.own xs) → i ∉ js ∧ η[i]? = some (.own xs)
theorem Stored.trans {σ σ1 σ2 : L2.St} {η η1 η2 : Nv} {js ks : List Nat} (h : Stored σ σ1 η η1 js) (k : Stored σ1 σ2 η1 η2 ks) : Stored σ σ2 η η2 (js ++ ks) where
  len := k.len.trans h.len
  rest := fun j n => by
    rw [List.mem_append, not_or] at n
    rw [k.rest j n.2, h.rest j n.1]
  own := fun i xs e => by
    obtain ⟨n1, e1⟩ := k.own i xs e
    obtain ⟨n2, e2⟩ := h.own i xs e1
    exact ⟨by rw [List.mem_append, not_or]; exact ⟨n2, n1⟩, e2⟩
def gD (K : PySem.W.Frag) (T : Tgt) (js : List Nat) : TG := fun v σ H Q => ∃ η A x η', EnvD K H A σ η ∧ Dp K (hid A H) v x ∧ T x η = some η' ∧ ∀ σ', EnvD K H A σ' η' → Stored σ σ' η η' js → Q σ' H
def gsD (K : PySem.W.Frag) (T : Tgts) (js : List Nat) : TGs := fun vs σ H Q => ∃ η A xs η', EnvD K H A σ η ∧ DpAll K (hid A H) vs xs ∧ T xs η = some η' ∧ ∀ σ', EnvD K H A σ' η' → Stored σ σ' η η' js → Q σ' H
def TT' (X : Cx) (tg : Expr) (T : Tgt) (js : List Nat) : Prop := PG X tg (gD X.K T js)
def TTs (X : Cx) (tgs : List Expr) (T : Tgts) (js : List Nat) : Prop := PGs X tgs (gsD X.K T js)
theorem pgW {t t' : TG} (h : PG X e t) (k : ∀ v σ H Q, t' v σ H Q → t v σ H Q) : PG X e t' := ⟨fun pins s σ H v u Q r I q => h.run pins s σ H v u Q r I (k _ _ _ _ q)⟩
theorem pgsW {es : List Expr} {t t' : TGs} (h : PGs X es t) (k : ∀ v σ H Q, t' v σ H Q → t v σ H Q) : PGs X es t' := ⟨fun pins s σ H v u Q r I q => h.run pins s σ H v u Q r I (k _ _ _ _ q)⟩
def gN (i : Nat) : Tgt := fun x η => some (η.set i (.d x))
theorem EnvD.set {K : PySem.W.Frag} {H : Hp} {A : List Addr} {σ : L2.St} {η : Nv} {i : Nat} {v : V} {x : D} (E : EnvD K H A σ η) (q : Dp K (hid A H) v x) : EnvD K H A (σ.set i (some v)) (η.set i (.d x)) where
  len := by rw [List.length_set, List.length_set, E.len]
  at_ := fun j s e => by
    by_cases hj : i = j
    · subst hj
      have hl : i < η.length := by
        have := (List.getElem?_eq_some_iff.mp e).1
        rwa [List.length_set] at this
      rw [List.getElem?_set_self hl] at e
      cases e
      exact ⟨some v, by rw [List.getElem?_set_self (by rw [E.len]; exact hl)], q⟩
    · rw [List.getElem?_set_ne hj] at e ⊢
      exact E.at_ j s e
  ap := fun j k a xs ys e1 e2 e3 e4 => by
    by_cases hj : i = j
    · subst hj
      by_cases hl : i < η.length
      · rw [List.getElem?_set_self hl] at e1
        cases e1
      · rw [List.getElem?_eq_none (by rw [List.length_set]; omega)] at e1
        cases e1
    · by_cases hk : i = k
      · subst hk
        by_cases hl : i < η.length
        · rw [List.getElem?_set_self hl] at e2
          cases e2
        · rw [List.getElem?_eq_none (by rw [List.length_set]; omega)] at e2
          cases e2
      · rw [List.getElem?_set_ne hj] at e1 e3
        rw [List.getElem?_set_ne hk] at e2 e4
        exact E.ap j k a xs ys e1 e2 e3 e4
  tr := E.tr
theorem own_set {η : Nv} {i j : Nat} {x : D} {xs : OL} (h : (η.set i (.d x))[j]? = some (.own xs)) : j ≠ i ∧ η[j]? = some (.own xs) := by
  by_cases hj : i = j
  · subst hj
    by_cases hl : i < η.length
    · rw [List.getElem?_set_self hl] at h
      cases h
    · rw [List.getElem?_eq_none (by rw [List.length_set]; omega)] at h
      cases h
  · rw [List.getElem?_set_ne hj] at h
    exact ⟨fun z => hj z.symm, h⟩
theorem g_name (i : Nat) {x : Str} (hN : X.N.Nodup) (hi : X.N[i]? = some x := by rfl) (hx : Loc X.env.scope x := by first | exact Or.inl rfl | exact Or.inr rfl) (hf : X.fn x = true ∨ X.env.scope.names.lookup x = some .local := by first | exact .inl rfl | exact .inr rfl) : TT' X (.Name x pos) (gN i) [i] :=
  pgW (pg_name hN hi hx hf) fun v σ H Q ⟨η, A, x, η', E, q, e, k⟩ => by
    cases e
    refine k _ (E.set q) ⟨List.length_set, fun j n => ?_, fun j xs e => ?_⟩
    · rw [List.getElem?_set_ne fun z => n (by rw [z]; exact List.mem_cons_self)]
    · obtain ⟨n, e⟩ := own_set e
      exact ⟨by simpa using n, e⟩
def gs0 : Tgts := fun xs η => match xs with
  | [] => some η
  | _ => none
def gsC (T : Tgt) (U : Tgts) : Tgts := fun xs η => match xs with
  | x :: r => (T x η).bind (U r)
  | _ => none
theorem g_nil : TTs X [] gs0 [] := pgsW pgs_nil fun v σ H Q ⟨η, A, xs, η', E, q, e, k⟩ => by
  unfold gs0 at e
  split at e
  · cases e
    cases q
    exact ⟨rfl, k σ E ⟨rfl, fun _ _ => rfl, fun i xs e => ⟨by simp, e⟩⟩⟩
  · cases e
theorem g_cons {es : List Expr} {T : Tgt} {U : Tgts} {js ks : List Nat} (h1 : TT' X e T js) (h2 : TTs X es U ks) (hs : (assignEach (e :: es) X.env).map (·.2) = assign e X.env :: (assignEach es X.env).map (·.2) := by rfl) : TTs X (e :: es) (gsC T U) (js ++ ks) := pgsW (pgs_cons h1 h2 hs) fun v σ H Q ⟨η, A, xs, η', E, q, e, k⟩ => by
  unfold gsC at e
  split at e
  · rename_i x r
    cases q with
    | cons q1 q2 =>
      cases e1 : T x η with
      | none => rw [e1] at e; cases e
      | some η1 =>
        rw [e1] at e
        exact ⟨_, _, rfl, η, A, x, η1, E, q1, e1, fun σ1 E1 S1 => ⟨η1, A, r, η', E1, q2, e, fun σ2 E2 S2 => k σ2 E2 (S1.trans S2)⟩⟩
  · cases e
def gT (n : Nat) (U : Tgts) : Tgt := fun x η => match x with
  | .tuple xs => if xs.length = n then U xs η else none
  | _ => none
theorem g_tup {es : List Expr} {k : Nat} {U : Tgts} {js : List Nat} {n : Nat} (hc : X.calm = true) (h : TTs X es U js) (hn : (assignEach es X.env).length = n := by rfl) (hst : (assignEach es X.env).findIdx? (·.1) = none := by rfl) : TT' X (.Tuple es k pos) (gT n U) js := by
  refine pgW (pg_tup hc h hn hst) fun v σ H Q ⟨η, A, x, η', E, q, e, k⟩ => ?_
  unfold gT at e
  split at e
  · split at e
    · rename_i hl
      cases q with
      | tup h1 h2 => exact ⟨_, _, rfl, sqT_same (hid_le A H) h1, by rw [DpAll_length h2]; exact hl, η, A, _, η', E, h2, e, k⟩
    · cases e
  · cases e

/-! ### what is walked -/
structure Walks (K : PySem.W.Frag) (J : It) (H1 : Hp) (A : List Addr) (ds : List D) : Prop where
  step : ∀ (i : Nat) (x : D), ds[i]? = some x → ∀ (A' : List Addr) (H2 : Hp), Same (hid A H1) (hid A' H2) → (∀ p ∈ A', H2 p ≠ none) → J.go i H2 ∧ ∀ v H3, J.yld i H2 v H3 → Same H2 H3 ∧ Dp K (hid A' H3) v x
  stop : ∀ (A' : List Addr) (H2 : Hp), Same (hid A H1) (hid A' H2) → J.stop ds.length H2
def PostI (K : PySem.W.Frag) (mg : Str → Option Value) (W : WX) (σ : L2.St) (A : List Addr) (H : Hp) (r : R (List D)) (Q : It → Hp → Prop) : Prop :=
  match r with
  | .ok ds => ∀ J H', Same H H' → Walks K J H' A ds → Q J H'
  | .ex c w p => ∀ cls dd H', Same H H' → ExR K mg (hid A H') cls dd c w p → W cls dd σ H'
  | .no => False
def tI (K : PySem.W.Frag) (mg : Str → Option Value) (W : WX) (F : Nv → R (List D)) : TI := fun σ H Q => ∃ η A, EnvD K H A σ η ∧ PostI K mg W σ A H (F η) Q
def TI' (X : Cx) (W : WX) (tg iter : Expr) (F : Nv → R (List D)) : Prop := PI X tg iter (tI X.K X.mg W F)
theorem piW {t t' : TI} (h : PI X tg iter t) (k : ∀ σ H Q, t' σ H Q → t σ H Q) : PI X tg iter t' := ⟨fun pins s σ H Q I q => h.run pins s σ H Q I (k _ _ _ q)⟩
theorem walks_list {K : PySem.W.Frag} {H1 : Hp} {A : List Addr} {a : Addr} {vs : List V} {ds : List D} (h1 : SqL K (hid A H1) a vs) (q : DpAll K (hid A H1) vs ds) : Walks K (Itl K a) H1 A ds where
  step := fun i x e A' H2 s _ => by
    obtain ⟨v, e1, q1⟩ := DpAll_get q e
    have h2 : SqL K H2 a vs := (hid_le A' H2).seq (s.seq h1)
    refine ⟨⟨vs, v, h2, e1⟩, fun u H3 y => ?_⟩
    obtain ⟨rfl, y⟩ := y
    have z := y vs h2
    rw [e1] at z
    cases z
    exact ⟨Same.refl _, Dp_mono q1 s⟩
  stop := fun A' H2 s => ⟨vs, (hid_le A' H2).seq (s.seq h1), Nat.le_of_eq (DpAll_length q)⟩
theorem walks_tup {K : PySem.W.Frag} {H1 : Hp} {A : List Addr} {a : Addr} {vs : List V} {ds : List D} (h1 : SqT K (hid A H1) a vs) (q : DpAll K (hid A H1) vs ds) : Walks K (Itt K a) H1 A ds where
  step := fun i x e A' H2 s _ => by
    obtain ⟨v, e1, q1⟩ := DpAll_get q e
    have h2 : SqT K H2 a vs := sqT_same (hid_le A' H2) (sqT_same s h1)
    refine ⟨⟨vs, v, h2, e1⟩, fun u H3 y => ?_⟩
    obtain ⟨rfl, y⟩ := y
    have z := y vs h2
    rw [e1] at z
    cases z
    exact ⟨Same.refl _, Dp_mono q1 s⟩
  stop := fun A' H2 s => ⟨vs, sqT_same (hid_le A' H2) (sqT_same s h1), Nat.le_of_eq (DpAll_length q)⟩
def asL : D → R (List D)
  | .list xs => .ok xs
  | _ => .no
def asT : D → R (List D)
  | .tuple xs => .ok xs
  | _ => .no
def iL (F : Nv → R D) : Nv → R (List D) := fun η => (F η).bind asL
def iT (F : Nv → R D) : Nv → R (List D) := fun η => (F η).bind asT
theorem i_list (h : TD X W iter F) : TI' X W tg iter (iL F) := piW (pi_list h) fun σ H Q ⟨η, A, E, p0⟩ => by
  have p : PostI X.K X.mg W σ A H ((F η).bind asL) Q := p0
  refine (show tR X.K X.mg W (rD X.K) F σ H _ from ⟨η, A, E, ?_⟩)
  cases e1 : F η with
  | ex c w q => rw [e1] at p; exact p
  | no => rw [e1] at p; exact p
  | ok d =>
    rw [e1] at p
    intro v H1 s1 q1
    cases d with
    | list xs =>
      cases q1 with
      | lst h1 h2 => exact ⟨_, rfl, ⟨_, (hid_le A H1).seq h1⟩, p _ H1 s1 (walks_list h1 h2)⟩
    | _ => exact False.elim p
theorem i_tup (h : TD X W iter F) : TI' X W tg iter (iT F) := piW (pi_tup h) fun σ H Q ⟨η, A, E, p0⟩ => by
  have p : PostI X.K X.mg W σ A H ((F η).bind asT) Q := p0
  refine (show tR X.K X.mg W (rD X.K) F σ H _ from ⟨η, A, E, ?_⟩)
  cases e1 : F η with
  | ex c w q => rw [e1] at p; exact p
  | no => rw [e1] at p; exact p
  | ok d =>
    rw [e1] at p
    intro v H1 s1 q1
    cases d with
    | tuple xs =>
      cases q1 with
      | tup h1 h2 => exact ⟨_, rfl, ⟨_, sqT_same (hid_le A H1) h1⟩, p _ H1 s1 (walks_tup h1 h2)⟩
    | _ => exact False.elim p
def rangeD (lo : Int) (n : Nat) : List D := (List.range n).map fun i => PyData.int (lo + (i : Nat))
theorem walks_range {K : PySem.W.Frag} {H1 : Hp} {A : List Addr} {lo : Int} {n : Nat} : Walks K (Itr lo n) H1 A (rangeD lo n) where
  step := fun i x e A' H2 s _ => by
    unfold rangeD at e
    rw [List.getElem?_map] at e
    by_cases hi : i < n
    · rw [List.getElem?_range hi] at e
      cases e
      refine ⟨hi, fun u H3 y => ?_⟩
      obtain ⟨rfl, rfl⟩ := y
      exact ⟨Same.refl _, .int _⟩
    · rw [List.getElem?_eq_none (by simp; omega)] at e
      cases e
  stop := fun A' H2 s => by
    unfold rangeD
    rw [List.length_map, List.length_range]
    exact Nat.le_refl _
def rng1 (ds : List D) : R (List D) := match ds with
  | [.int j] => if -(2 ^ 62) ≤ j ∧ j < 2 ^ 62 then .ok (rangeD 0 j.toNat) else .no
  | _ => .no
def rng2 (ds : List D) : R (List D) := match ds with
  | [.int i, .int j] => if -(2 ^ 62) ≤ i ∧ i < 2 ^ 62 ∧ -(2 ^ 62) ≤ j ∧ j < 2 ^ 62 then .ok (rangeD i (j - i).toNat) else .no
  | _ => .no
def iR1 (Fs : Nv → R (List D)) : Nv → R (List D) := fun η => (Fs η).bind rng1
def iR2 (Fs : Nv → R (List D)) : Nv → R (List D) := fun η => (Fs η).bind rng2
theorem vO_int {K : PySem.W.Frag} {H : Hp} {A : List Addr} {v : V} {i : Int} (h : vO K H A v (.int i)) : v = .int i := rO_int h
theorem allI1 {K : PySem.W.Frag} {H : Hp} {A : List Addr} : ∀ {vs : List V} {i : Int}, AllV (vO K) H A vs [.int i] → vs = [.int i]
  | [v], i, h => by rw [vO_int h.1]
  | [], _, h => h.elim
  | _ :: _ :: _, _, h => h.2.elim
theorem allI2 {K : PySem.W.Frag} {H : Hp} {A : List Addr} : ∀ {vs : List V} {i j : Int}, AllV (vO K) H A vs [.int i, .int j] → vs = [.int i, .int j]
  | [v, w], i, j, h => by rw [vO_int h.1, vO_int h.2.1]
  | [], _, _, h => h.elim
  | [_], _, _, h => h.2.elim
  | _ :: _ :: _ :: _, _, _, h => h.2.2.elim
theorem i_range1 {Fs : Nv → R (List D)} {p : Pos} (hg : Gl X "range") (hm : X.mg "range" = none) (ha : TAs X W (vO X.K) [a] Fs) (hs : starEach [a] X.env = [(false, eval a X.env)] := by rfl) : TI' X W tg (.Call (.Name "range" p) [a] [] pos) (iR1 Fs) := piW (pi_range1 hg hm ha hs) fun σ H Q ⟨η, A, E, p0⟩ => by
  have p : PostI X.K X.mg W σ A H ((Fs η).bind rng1) Q := p0
  refine (show tA X.K X.mg W (vO X.K) Fs σ H _ from ⟨η, A, E, ?_⟩)
  cases e1 : Fs η with
  | ex c w q => rw [e1] at p; exact p
  | no => rw [e1] at p; exact p
  | ok ds =>
    rw [e1] at p
    have p : PostI X.K X.mg W σ A H (rng1 ds) Q := p
    intro vs H1 s1 q1
    unfold rng1 at p
    split at p
    · split at p
      · rename_i h
        exact ⟨_, allI1 q1, h.1, h.2, p _ H1 s1 walks_range⟩
      · exact False.elim p
    · exact False.elim p
theorem i_range2 {Fs : Nv → R (List D)} {p : Pos} (hg : Gl X "range") (hm : X.mg "range" = none) (ha : TAs X W (vO X.K) [a, b] Fs) (hs : starEach [a, b] X.env = [(false, eval a X.env), (false, eval b X.env)] := by rfl) (hs2 : starEach [b] X.env = [(false, eval b X.env)] := by rfl) :
    TI' X W tg (.Call (.Name "range" p) [a, b] [] pos) (iR2 Fs) := piW (pi_range2 hg hm ha hs hs2) fun σ H Q ⟨η, A, E, p0⟩ => by
  have p : PostI X.K X.mg W σ A H ((Fs η).bind rng2) Q := p0
  refine (show tA X.K X.mg W (vO X.K) Fs σ H _ from ⟨η, A, E, ?_⟩)
  cases e1 : Fs η with
  | ex c w q => rw [e1] at p; exact p
  | no => rw [e1] at p; exact p
  | ok ds =>
    rw [e1] at p
    have p : PostI X.K X.mg W σ A H (rng2 ds) Q := p
    intro vs H1 s1 q1
    unfold rng2 at p
    split at p
    · split at p
      · rename_i h
        exact ⟨_, _, allI2 q1, ⟨h.1, h.2.1, h.2.2.1, h.2.2.2⟩, p _ H1 s1 walks_range⟩
      · exact False.elim p
    · exact False.elim p

/-! ### comprehensions -/
def wipeE (η : Nv) : List Nat → Nv
  | [] => η
  | v :: vs => (wipeE η vs).set v .no
theorem wipe_get (σ : L2.St) : ∀ (vs : List Nat) (j : Nat), (wipe σ vs)[j]? = if j ∈ vs then (σ[j]?).map fun _ => none else σ[j]?
  | [], j => by simp [wipe]
  | v :: vs, j => by
    unfold wipe
    have ih := wipe_get σ vs j
    by_cases hj : v = j
    · subst hj
      rw [if_pos List.mem_cons_self]
      by_cases hl : v < (wipe σ vs).length
      · rw [List.getElem?_set_self hl]
        rw [wipe_length] at hl
        rw [List.getElem?_eq_getElem hl]
        rfl
      · rw [List.getElem?_eq_none (by rw [List.length_set]; omega)]
        rw [wipe_length] at hl
        rw [List.getElem?_eq_none (by omega)]
        rfl
    · rw [List.getElem?_set_ne hj, ih]
      have : (j ∈ v :: vs) ↔ j ∈ vs := ⟨fun m => (List.mem_cons.mp m).elim (fun z => absurd z.symm hj) id, List.mem_cons_of_mem _⟩
      simp only [this]
theorem wipeE_get (η : Nv) : ∀ (vs : List Nat) (j : Nat), (wipeE η vs)[j]? = if j ∈ vs then (η[j]?).map fun _ => Sl.no else η[j]?
  | [], j => by simp [wipeE]
  | v :: vs, j => by
    unfold wipeE
    have ih := wipeE_get η vs j
    have hlen : (wipeE η vs).length = η.length := by
      clear ih
      induction vs with
      | nil => rfl
      | cons w ws ih => unfold wipeE; rw [List.length_set, ih]
    by_cases hj : v = j
    · subst hj
      rw [if_pos List.mem_cons_self]
      by_cases hl : v < (wipeE η vs).length
      · rw [List.getElem?_set_self hl]
        rw [hlen] at hl
        rw [List.getElem?_eq_getElem hl]
        rfl
      · rw [List.getElem?_eq_none (by rw [List.length_set]; omega)]
        rw [hlen] at hl
        rw [List.getElem?_eq_none (by omega)]
        rfl
    · rw [List.getElem?_set_ne hj, ih]
      have : (j ∈ v :: vs) ↔ j ∈ vs := ⟨fun m => (List.mem_cons.mp m).elim (fun z => absurd z.symm hj) id, List.mem_cons_of_mem _⟩
      simp only [this]
theorem wipeE_length (η : Nv) : ∀ vs : List Nat, (wipeE η vs).length = η.length
  | [] => rfl
  | v :: vs => by unfold wipeE; rw [List.length_set, wipeE_length η vs]
theorem EnvD.wipe {K : PySem.W.Frag} {H : Hp} {A : List Addr} {σ : L2.St} {η : Nv} (E : EnvD K H A σ η) (vs : List Nat) : EnvD K H A (wipe σ vs) (wipeE η vs) where
  len := by rw [wipe_length, wipeE_length, E.len]
  at_ := fun j s e => by
    rw [wipeE_get] at e
    rw [wipe_get]
    split at e
    · rename_i hj
      cases q : η[j]? with
      | none => rw [q] at e; cases e
      | some s0 =>
        rw [q] at e
        cases e
        obtain ⟨o, e1, _⟩ := E.at_ j s0 q
        exact ⟨none, by rw [if_pos hj, e1]; rfl, trivial⟩
    · rename_i hj
      rw [if_neg hj]
      exact E.at_ j s e
  ap := fun j k a xs ys e1 e2 e3 e4 => by
    rw [wipeE_get] at e1 e2
    rw [wipe_get] at e3 e4
    split at e1
    · cases q : η[j]? <;> (rw [q] at e1; cases e1)
    · rename_i hj
      rw [if_neg hj] at e3
      split at e2
      · cases q : η[k]? <;> (rw [q] at e2; cases e2)
      · rename_i hk
        rw [if_neg hk] at e4
        exact E.ap j k a xs ys e1 e2 e3 e4
  tr := E.tr
/-- .. where nothing is raised -/
def R.bindN {α β : Type} : R α → (α → R β) → R β
  | .ok a, f => f a
  | _, _ => .no
@[simp] theorem R.ok_bindN {α β : Type} (a : α) (f : α → R β) : (R.ok a).bindN f = f a := Eq.trans rfl rfl
theorem R.bindN_ok {α β : Type} {r : R α} {f : α → R β} {y : β} (h : r.bindN f = .ok y) : ∃ x, r = .ok x ∧ f x = .ok y := by
  cases r with
  | ok a => exact ⟨a, rfl, h⟩
  | ex c w p => cases h
  | no => cases h
def compD (T : Tgt) (C : Nv → R Bool) (El : Nv → R D) (η : Nv) : List D → R (List D)
  | [] => .ok []
  | x :: xs => match T x η with
    | none => .no
    | some η1 => (C η1).bindN fun b => if b then (El η1).bindN fun y => (compD T C El η xs).bindN fun ys => .ok (y :: ys) else compD T C El η xs
def compE (Fi : Nv → R (List D)) (T : Tgt) (C : Nv → R Bool) (El : Nv → R D) (vs : List Nat) : Nv → R D := fun η => (Fi η).bind fun xs => (compD T C El (wipeE η vs) xs).bindN fun ys => if ys.length ≤ lineN then .ok (.list ys) else .no
def W0 : WX := fun _ _ _ _ => False
theorem stored_wipe {σ σ' : L2.St} {η η' : Nv} {js vs : List Nat} (S : Stored (wipe σ vs) σ' η η' js) (h : ∀ j ∈ js, j ∈ vs) (hl : σ'.length = σ.length) : wipe σ' vs = wipe σ vs := by
  apply List.ext_getElem?
  intro j
  rw [wipe_get, wipe_get]
  by_cases hj : j ∈ vs
  · rw [if_pos hj, if_pos hj]
    by_cases hb : j < σ.length
    · rw [List.getElem?_eq_getElem hb, List.getElem?_eq_getElem (by rw [hl]; exact hb)]
      rfl
    · rw [List.getElem?_eq_none (by omega), List.getElem?_eq_none (by omega)]
  · rw [if_neg hj, if_neg hj, S.rest j fun m => hj (h j m), wipe_get, if_neg hj]
theorem lc_t {Fi : Nv → R (List D)} {T : Tgt} {js vs : List Nat} {C : Nv → R Bool} {El : Nv → R D} (hj : ∀ j ∈ js, j ∈ vs) {σ : L2.St} {H : Hp} {Q : VK} (h : tR X.K X.mg W (rF X.K) (compE Fi T C El vs) σ H Q) :
    tLc (tI X.K X.mg W Fi) (gD X.K T js) (tT X.K X.mg W0 C) (tR X.K X.mg W0 (rD X.K) El) vs σ H Q := by
  obtain ⟨η, A, E, p0⟩ := h
  have p : Post X.K X.mg W (rF X.K) σ A H ((Fi η).bind fun xs => (compD T C El (wipeE η vs) xs).bindN fun ys => if ys.length ≤ lineN then .ok (.list ys) else .no) Q := p0
  refine (show tI X.K X.mg W Fi σ H _ from ⟨η, A, E, ?_⟩)
  cases e1 : Fi η with
  | ex c w q => rw [e1] at p; exact p
  | no => rw [e1] at p; exact p
  | ok ds =>
    rw [e1] at p
    have p : Post X.K X.mg W (rF X.K) σ A H ((compD T C El (wipeE η vs) ds).bindN fun ys => if ys.length ≤ lineN then .ok (.list ys) else .no) Q := p
    cases e2 : compD T C El (wipeE η vs) ds with
    | ex c w q => rw [e2] at p; exact False.elim p
    | no => rw [e2] at p; exact False.elim p
    | ok ys =>
      rw [e2] at p
      have p : Post X.K X.mg W (rF X.K) σ A H (if ys.length ≤ lineN then .ok (.list ys) else .no) Q := p
      split at p
      · rename_i hz
        intro J H1 s1 wk M nM
        have E1 := E.same s1
        refine ⟨fun i m H2 => m + i = ds.length ∧ Same H1 H2 ∧ ∃ done rest acc, ys = done ++ rest ∧ compD T C El (wipeE η vs) (ds.drop i) = .ok rest ∧ H2 M = some (.lst acc) ∧ DpAll X.K (hid (M :: A) H2) acc done,
          ⟨ds.length, rfl, same_new nM, [], ys, [], rfl, e2, upd_same, .nil⟩, fun i m H2 hw => ?_⟩
        obtain ⟨em, s2, done, rest, acc, ey, er, hM, hd⟩ := hw
        have sh : Same (hid A H1) (hid (M :: A) H2) := hid_new s2 nM
        have E2 : EnvD X.K H2 (M :: A) σ η := E1.new s2 nM (by rw [hM]; exact fun z => nomatch z)
        cases hx : ds[i]? with
        | none =>
          have hi : ds.length ≤ i := List.getElem?_eq_none_iff.mp hx
          have ei : i = ds.length := by omega
          subst ei
          rw [List.drop_length] at er
          have er : R.ok ([] : List D) = .ok rest := er
          cases er
          rw [List.append_nil] at ey
          subst ey
          exact .inl ⟨wk.stop _ _ sh, p _ H2 (s1.trans s2) ⟨M, acc, _, rfl, rfl, s1.free nM, hM, hd⟩⟩
        | some x =>
          have hi : i < ds.length := (List.getElem?_eq_some_iff.mp hx).1
          have ed : ds.drop i = x :: ds.drop (i + 1) := by
            rw [List.drop_eq_getElem_cons hi]
            congr 1
            exact (List.getElem?_eq_some_iff.mp hx).2
          obtain ⟨g1, g2⟩ := wk.step i x hx _ _ sh E2.tr
          refine .inr ⟨g1, fun H' => ∃ m', m' < m ∧ (m' + (i + 1) = ds.length ∧ Same H1 H' ∧ ∃ done rest acc, ys = done ++ rest ∧ compD T C El (wipeE η vs) (ds.drop (i + 1)) = .ok rest ∧ H' M = some (.lst acc) ∧ DpAll X.K (hid (M :: A) H') acc done), fun H' hN => hN, fun v H3 y => ?_⟩
          obtain ⟨s3, qv⟩ := g2 v H3 y
          rw [ed] at er
          unfold compD at er
          cases et : T x (wipeE η vs) with
          | none => rw [et] at er; cases er
          | some η1 =>
            rw [et] at er
            obtain ⟨bk, ec, er⟩ := R.bindN_ok er
            refine ⟨wipeE η vs, M :: A, x, η1, (E2.same s3).wipe vs, qv, et, fun σ2 E3 S => ⟨stored_wipe S hj (S.len.trans (wipe_length σ vs)), ?_⟩⟩
            · refine (show tT X.K X.mg W0 C σ2 H3 _ from ⟨η1, M :: A, E3, ?_⟩)
              rw [ec]
              intro H4 s4
              cases bk with
              | false =>
                refine iteF ⟨m - 1, by omega, by omega, (s2.trans s3).trans s4, done, rest, acc, ey, er, s4 _ _ (s3 _ _ hM), DpAll_mono hd (hid_same (s3.trans s4))⟩
              | true =>
                obtain ⟨y, ee, er⟩ := R.bindN_ok er
                obtain ⟨rest', er', e3⟩ := R.bindN_ok er
                cases e3
                refine iteT (show tR X.K X.mg W0 (rD X.K) El σ2 H4 _ from ⟨η1, M :: A, E3.same s4, ?_⟩)
                rw [ee]
                intro w H5 s5 qw
                have sM : H5 M = some (.lst acc) := s5 _ _ (s4 _ _ (s3 _ _ hM))
                have hidM : hid (M :: A) (upd H5 M (.lst (acc ++ [w]))) = hid (M :: A) H5 := hid_upd List.mem_cons_self
                have hl : acc.length = done.length := DpAll_length hd
                refine ⟨acc, sM, ?_, m - 1, by omega, by omega, ?_, done ++ [y], rest', acc ++ [w], by rw [ey, List.append_assoc]; rfl, er', upd_same, ?_⟩
                · rw [line_eq, hl]
                  have : ys.length = done.length + (rest'.length + 1) := by rw [ey, List.length_append, List.length_cons]
                  omega
                · intro b o eb
                  rw [upd_ne fun z => by subst z; rw [nM] at eb; cases eb]
                  exact s5 _ _ (s4 _ _ (s3 _ _ (s2 _ _ eb)))
                · rw [hidM]
                  exact DpAll_append (DpAll_mono hd (hid_same ((s3.trans s4).trans s5))) (.cons qw .nil)
      · exact False.elim p
end
end Bd
/-! D5: comprehensions as values; statements; defs and their calls. -/
namespace Bd
open PySem L2

section
variable {X : Cx} {W : WX} {rl : Rl} {a b c e tg iter elt : Expr} {Fa Fb Fc F : Nv → R D} {Ga Gb G : Nv → R Bool} {pos : Pos}
theorem cs_nil {X : Cx} : PTs X [] (tT X.K X.mg W0 fun _ => .ok true) := ⟨fun pins s σ H Q I q => pts_nil.run pins s σ H Q I (by obtain ⟨η, A, E, p⟩ := q; exact p H (Same.refl _))⟩
theorem cs_one {X : Cx} {c : Expr} {G : Nv → R Bool} (h : TB X W0 c G) : PTs X [c] (tT X.K X.mg W0 G) := pts_one h
section
variable {ifs : List Expr} {scope : Scope} {own : List (Str × Nat)} {Fi : Nv → R (List D)} {T : Tgt} {js : List Nat} {C : Nv → R Bool} {El : Nv → R D}
theorem t_lc (hc : X.calm = true) (hN : X.N.Nodup) (hi : TI' X W tg iter Fi) (ok : BlkOk X.N X.env.scope scope own)
    (hg : ∀ (s : Shared) (H : Hp) (C : Addr) (cl : List (Str × Addr)) (fp : List Addr), TT' (X.blk s H scope (compEnvC scope cl C X.env) fp) tg T js)
    (ht : ∀ (s : Shared) (H : Hp) (D : Addr) (cl : List (Str × Addr)) (fp : List Addr), PTs (X.blk s H scope (compEnvC scope cl D X.env) fp) ifs (tT X.K X.mg W0 C))
    (he : ∀ (s : Shared) (H : Hp) (D : Addr) (cl : List (Str × Addr)) (fp : List Addr), TD (X.blk s H scope (compEnvC scope cl D X.env) fp) W0 elt El)
    {vs : List Nat} (hv : own.map (·.2) = vs := by rfl) (hj : ∀ j ∈ js, j ∈ own.map (·.2) := by decide) (hs : ∀ x, foldedSetIterable iter X.env x = pure x := by intro _; rfl) : TF X W (.ListComp elt [⟨tg, iter, ifs, 0⟩] scope pos) (compE Fi T C El vs) := by
  subst hv
  exact peW (pe_lc hc hN hi ok (fun s H C cl fp => show PG _ tg (gD X.K T js) from hg s H C cl fp) ht (fun s H C cl fp => show PE _ elt (tR X.K X.mg W0 (rD X.K) El) from he s H C cl fp) hs) fun σ H Q h => lc_t hj h
end

/-! ### statements -/
structure EnvS (K : PySem.W.Frag) (M : List Addr) (H0 : Hp) (A0 : List Addr) (H : Hp) (B : List Addr) (σ : L2.St) (η : Nv) : Prop where
  env : EnvD K H (B ++ A0) σ η
  same : Same (hid M H0) (hid M H)
  mA : (∀ p ∈ M, p ∈ A0) ∧ ∀ p ∈ A0, H0 p ≠ none
  new : ∀ p ∈ B, H0 p = none
  own : ∀ (i : Nat) (a : Addr) (xs : OL), η[i]? = some (.own xs) → σ[i]? = some (some (.ref a)) → if xs.b then a ∈ B else a ∈ M
inductive Rs where
  | nx (η : Nv) | rt (d : D) (η : Nv) | bk (η : Nv) | ct (η : Nv) | ex (c w : Str) (p : D) | no
/-- where a statement leads -/
def Goes (K : PySem.W.Frag) (M : List Addr) (H0 : Hp) (A0 : List Addr) (H : Hp) (B : List Addr) (η : Nv) (P : L2.St → Hp → Prop) : Prop :=
  ∀ σ' H' B', EnvS K M H0 A0 H' B' σ' η → Same (hid (B ++ A0) H) (hid (B' ++ A0) H') → P σ' H'
def PostS (K : PySem.W.Frag) (mg : Str → Option Value) (W : WX) (rl : Rl) (M : List Addr) (H0 : Hp) (A0 : List Addr) (H : Hp) (B : List Addr) (r : Rs) (E : Ends) : Prop :=
  match r with
  | .nx η => Goes K M H0 A0 H B η E.nx
  | .bk η => Goes K M H0 A0 H B η E.bk
  | .ct η => Goes K M H0 A0 H B η E.ct
  | .rt d η => ∀ v σ' H' B', EnvS K M H0 A0 H' B' σ' η → rl H0 H' A0 v d → E.rt v H'
  | .ex c w p => ∀ cls dd σ' H', Same (hid M H0) (hid M H') → ExR K mg (hid A0 H') cls dd c w p → W cls dd σ' H'
  | .no => False
theorem PostS.keep {K : PySem.W.Frag} {mg : Str → Option Value} {M : List Addr} {H0 : Hp} {A0 : List Addr} {H H1 : Hp} {B B1 : List Addr} {r : Rs} {E : Ends} (s : Same (hid (B ++ A0) H) (hid (B1 ++ A0) H1)) (h : PostS K mg W rl M H0 A0 H B r E) : PostS K mg W rl M H0 A0 H1 B1 r E := by
  cases r with
  | nx η => exact fun σ' H' B' e q => h σ' H' B' e (s.trans q)
  | bk η => exact fun σ' H' B' e q => h σ' H' B' e (s.trans q)
  | ct η => exact fun σ' H' B' e q => h σ' H' B' e (s.trans q)
  | rt d η => exact h
  | ex c w p => exact h
  | no => exact h
def tS (K : PySem.W.Frag) (mg : Str → Option Value) (W : WX) (rl : Rl) (M : List Addr) (H0 : Hp) (A0 : List Addr) (G : Nv → Rs) : TS := fun E σ H => ∃ η B, EnvS K M H0 A0 H B σ η ∧ PostS K mg W rl M H0 A0 H B (G η) E
/-- what is the same in a whole def: the wish, how its answer lies, the heap at its entry -/
structure Fx where
  W : WX
  rl : Rl
  M : List Addr
  H0 : Hp
  A0 : List Addr
def TS' (X : Cx) (f : Fx) (st : Stmt) (G : Nv → Rs) : Prop := PS X st (tS X.K X.mg f.W f.rl f.M f.H0 f.A0 G)
def TSs (X : Cx) (f : Fx) (st : List Stmt) (G : Nv → Rs) : Prop := PSs X st (tS X.K X.mg f.W f.rl f.M f.H0 f.A0 G)
variable {f : Fx} {st : Stmt} {sts : List Stmt} {Gs Gt : Nv → Rs}
theorem psW {t t' : TS} (h : PS X st t) (k : ∀ E σ H, t' E σ H → t E σ H) : PS X st t' := ⟨fun pins s σ H E I q => h.run pins s σ H E I (k _ _ _ q)⟩
theorem pssW {t t' : TS} (h : PSs X sts t) (k : ∀ E σ H, t' E σ H → t E σ H) : PSs X sts t' := ⟨fun pins s σ H E I q => h.run pins s σ H E I (k _ _ _ q)⟩
def Rs.bind : Rs → (Nv → Rs) → Rs
  | .nx η, f => f η
  | r, _ => r
def seqS (Gs Gt : Nv → Rs) : Nv → Rs := fun η => (Gs η).bind Gt
theorem ss_nil : TSs X f [] .nx := pssW pss_nil fun E σ H ⟨η, B, e, p⟩ => p σ H B e (Same.refl _)
theorem ss_cons (h1 : TS' X f st Gs) (h2 : TSs X f sts Gt) : TSs X f (st :: sts) (seqS Gs Gt) := pssW (pss_cons h1 h2) fun E σ H ⟨η, B, e, p0⟩ => by
  have p : PostS X.K X.mg f.W f.rl f.M f.H0 f.A0 H B ((Gs η).bind Gt) E := p0
  refine ⟨η, B, e, ?_⟩
  cases e1 : Gs η with
  | nx η1 =>
    rw [e1] at p
    exact fun σ' H' B' e' s => ⟨η1, B', e', PostS.keep s p⟩
  | _ => rw [e1] at p; exact p
theorem s_pass : TS' X f (.Pass pos) .nx := psW ps_pass fun E σ H ⟨η, B, e, p⟩ => p σ H B e (Same.refl _)
theorem s_break : TS' X f (.Break pos) .bk := psW ps_break fun E σ H ⟨η, B, e, p⟩ => p σ H B e (Same.refl _)
theorem s_continue : TS' X f (.Continue pos) .ct := psW ps_continue fun E σ H ⟨η, B, e, p⟩ => p σ H B e (Same.refl _)
theorem EnvS.step {K : PySem.W.Frag} {M : List Addr} {H0 : Hp} {A0 : List Addr} {H H1 : Hp} {B : List Addr} {σ : L2.St} {η : Nv} (e : EnvS K M H0 A0 H B σ η) (s : Same H H1) : EnvS K M H0 A0 H1 B σ η := ⟨e.env.same s, e.same.trans (hid_same s), e.mA, e.new, e.own⟩
theorem EnvS.free {K : PySem.W.Frag} {M : List Addr} {H0 : Hp} {A0 : List Addr} {H : Hp} {B : List Addr} {σ : L2.St} {η : Nv} {p : Addr} (e : EnvS K M H0 A0 H B σ η) (h : H p = none) : H0 p = none := by
  have n : p ∉ M := fun m => e.env.tr p (List.mem_append_right _ (e.mA.1 p m)) h
  have f := e.same.free (l := p) (by rw [hid_out n]; exact h)
  rwa [hid_out n] at f
/-- an expression's answer, then the statement's -/
def R.toS {α : Type} : R α → (α → Rs) → Rs
  | .ok a, f => f a
  | .ex c w p, _ => .ex c w p
  | .no, _ => .no
theorem hid_app {B A : List Addr} {H : Hp} : Same (hid (B ++ A) H) (hid A H) := hid_mono fun _ m => List.mem_append_right _ m
theorem exS {K : PySem.W.Frag} {mg : Str → Option Value} {H : Hp} {A B : List Addr} {cls : Value} {dd : Option Addr} {c w : Str} {p : D} (h : ExR K mg (hid (B ++ A) H) cls dd c w p) : ExR K mg (hid A H) cls dd c w p := by
  obtain ⟨m, dx, v, rfl, e, q⟩ := h
  exact ⟨m, dx, v, rfl, hid_app _ _ e, Dp_mono q hid_app⟩
theorem toS_R {g : Nv → D → Rs} {E : Ends} {σ : L2.St} {H : Hp} (h : tS X.K X.mg f.W f.rl f.M f.H0 f.A0 (fun η => (F η).toS (g η)) E σ H) {R1 : V → Hp → Prop}
    (k : ∀ (η : Nv) (B : List Addr) (H1 : Hp) (v : V) (d : D), EnvS X.K f.M f.H0 f.A0 H B σ η → EnvS X.K f.M f.H0 f.A0 H1 B σ η → Same H H1 → rl H H1 (B ++ f.A0) v d → PostS X.K X.mg f.W f.rl f.M f.H0 f.A0 H B (g η d) E → R1 v H1) : tR X.K X.mg f.W rl F σ H R1 := by
  obtain ⟨η, B, e, p0⟩ := h
  have p : PostS X.K X.mg f.W f.rl f.M f.H0 f.A0 H B ((F η).toS (g η)) E := p0
  refine ⟨η, B ++ f.A0, e.env, ?_⟩
  cases e1 : F η with
  | ok d =>
    rw [e1] at p
    have p : PostS X.K X.mg f.W f.rl f.M f.H0 f.A0 H B (g η d) E := p
    exact fun v H1 s q => k η B H1 v d e (e.step s) s q p
  | ex c w q =>
    rw [e1] at p
    exact fun cls dd H' s x => p cls dd σ H' (e.same.trans (hid_same s)) (exS x)
  | no => rw [e1] at p; exact p
/-- name = e -/
def setS (i : Nat) (F : Nv → R D) : Nv → Rs := fun η => (F η).toS fun x => .nx (η.set i (.d x))
theorem EnvS.set {K : PySem.W.Frag} {M : List Addr} {H0 : Hp} {A0 : List Addr} {H : Hp} {B : List Addr} {σ : L2.St} {η : Nv} {i : Nat} {v : V} {x : D} (e : EnvS K M H0 A0 H B σ η) (q : Dp K (hid (B ++ A0) H) v x) : EnvS K M H0 A0 H B (σ.set i (some v)) (η.set i (.d x)) where
  env := e.env.set q
  same := e.same
  mA := e.mA
  new := e.new
  own := fun j a xs h1 h2 => by
    obtain ⟨n, h1⟩ := own_set h1
    rw [List.getElem?_set_ne fun z => n z.symm] at h2
    exact e.own j a xs h1 h2
theorem s_set (i : Nat) {x : Str} {pos' : Pos} (hN : X.N.Nodup) (he : TD X f.W e F) (hi : X.N[i]? = some x := by rfl) (hx : Loc X.env.scope x := by first | exact Or.inl rfl | exact Or.inr rfl) (hs : swapsWith e (some (.Name x pos')) pos.line X.env = pure false := by rfl)
    (hf : X.fn x = true ∨ X.env.scope.names.lookup x = some .local := by first | exact .inl rfl | exact .inr rfl) : TS' X f (.Assign [.Name x pos'] e pos) (setS i F) :=
  psW (ps_set hN hi hx he hs hf) fun E σ H h => toS_R h fun η B H1 v d e0 e s q p => p _ H1 B (e.set q) (hid_same s)
/-- target = e -/
def asgS (T : Tgt) (F : Nv → R D) : Nv → Rs := fun η => (F η).toS fun x => match T x η with
  | some η' => .nx η'
  | none => .no
theorem s_asg {T : Tgt} {js : List Nat} (he : TD X f.W e F) (hg : TT' X tg T js) (hs : swapsWithSole [tg] e pos.line X.env = pure false := by rfl) (hw : swappedStores [tg] e X.env = pure none := by rfl) (h1 : (assignEach [tg] X.env).map (·.2) = [assign tg X.env] := by rfl) :
    TS' X f (.Assign [tg] e pos) (asgS T F) :=
  psW (ps_asg he hg hs hw h1) fun E σ H h => toS_R h fun η B H1 v d e0 e s q p => by
    cases et : T d η with
    | none => rw [et] at p; exact False.elim p
    | some η' =>
      rw [et] at p
      refine ⟨η, B ++ f.A0, d, η', e.env, q, et, fun σ' E' S => p σ' H1 B ⟨E', e.same, e.mA, e.new, fun j a xs h1 h2 => ?_⟩ (hid_same s)⟩
      obtain ⟨n, h1⟩ := S.own j xs h1
      rw [S.rest j n] at h2
      exact e.own j a xs h1 h2
/-- name = a new list, the def's own -/
def ownS (i : Nat) (F : Nv → R D) : Nv → Rs := fun η => (F η).toS fun x => match x with
  | .list xs => .nx (η.set i (.own ⟨true, xs⟩))
  | _ => .no
theorem EnvS.setOwn {K : PySem.W.Frag} {M : List Addr} {H0 : Hp} {A0 : List Addr} {H H1 : Hp} {B : List Addr} {σ : L2.St} {η : Nv} {i : Nat} {p : Addr} {vs : List V} {xs : List D} (e : EnvS K M H0 A0 H B σ η) (s : Same H H1) (hp : H p = none) (hp1 : H1 p = some (.lst vs)) (q : DpAll K (hid (p :: (B ++ A0)) H1) vs xs) :
    EnvS K M H0 A0 H1 (p :: B) (σ.set i (some (.ref p))) (η.set i (.own ⟨true, xs⟩)) := by
  have E1 : EnvD K H1 (p :: (B ++ A0)) σ η := e.env.new s hp (by rw [hp1]; exact fun z => nomatch z)
  have gt : ∀ (j : Nat) (sl : Sl), (η.set i (.own ⟨true, xs⟩))[j]? = some sl → (j = i ∧ i < η.length ∧ sl = .own ⟨true, xs⟩) ∨ (j ≠ i ∧ η[j]? = some sl) := fun j sl h => by
    by_cases hj : i = j
    · subst hj
      by_cases hl : i < η.length
      · rw [List.getElem?_set_self hl] at h
        cases h
        exact .inl ⟨rfl, hl, rfl⟩
      · rw [List.getElem?_eq_none (by rw [List.length_set]; omega)] at h
        cases h
    · rw [List.getElem?_set_ne hj] at h
      exact .inr ⟨fun z => hj z.symm, h⟩
  have ot : ∀ j, j ≠ i → (σ.set i (some (.ref p)))[j]? = σ[j]? := fun j n => List.getElem?_set_ne fun z => n z.symm
  have oi : i < η.length → (σ.set i (some (.ref p)))[i]? = some (some (.ref p)) := fun hl => List.getElem?_set_self (by rw [e.env.len]; exact hl)
  have fr : ∀ (j : Nat) (ys : OL), η[j]? = some (.own ys) → σ[j]? ≠ some (some (.ref p)) := fun j ys h z => by
    obtain ⟨o, e1, q1⟩ := e.env.at_ j _ h
    rw [z] at e1
    cases e1
    obtain ⟨_, ws, e2, _⟩ := q1
    rw [hp] at e2
    cases e2
  refine ⟨⟨by rw [List.length_set, List.length_set, e.env.len], fun j sl h => ?_, fun j k a ys zs h1 h2 h3 h4 => ?_, E1.tr⟩, e.same.trans (hid_same s), e.mA, fun b m => ?_, fun j a ys h1 h2 => ?_⟩
  · rcases gt j sl h with ⟨rfl, hl, rfl⟩ | ⟨n, h⟩
    · exact ⟨_, oi hl, List.mem_cons_self, vs, hp1, q⟩
    · rw [ot j n]
      exact E1.at_ j sl h
  · rcases gt j _ h1 with ⟨ej, hl, _⟩ | ⟨n, g1⟩
    · rcases gt k _ h2 with ⟨ek, _, _⟩ | ⟨n2, g2⟩
      · rw [ej, ek]
      · rw [ej, oi hl] at h3
        cases h3
        rw [ot k n2] at h4
        exact absurd h4 (fr k zs g2)
    · rcases gt k _ h2 with ⟨ek, hl, _⟩ | ⟨n2, g2⟩
      · rw [ek, oi hl] at h4
        cases h4
        rw [ot j n] at h3
        exact absurd h3 (fr j ys g1)
      · rw [ot j n] at h3
        rw [ot k n2] at h4
        exact E1.ap j k a ys zs g1 g2 h3 h4
  · rcases List.mem_cons.mp m with rfl | m
    · exact e.free hp
    · exact e.new b m
  · rcases gt j _ h1 with ⟨rfl, hl, _⟩ | ⟨n, h1⟩
    · rw [oi hl] at h2
      cases h2
      rename_i q0
      cases q0
      exact List.mem_cons_self
    · rw [ot j n] at h2
      have z := e.own j a ys h1 h2
      cases hb : ys.b with
      | true => rw [hb, if_pos rfl] at z; rw [if_pos rfl]; exact List.mem_cons_of_mem _ z
      | false => rw [hb, if_neg Bool.false_ne_true] at z; rw [if_neg Bool.false_ne_true]; exact z
theorem s_own (i : Nat) {x : Str} {pos' : Pos} (hN : X.N.Nodup) (he : TF X f.W e F) (hi : X.N[i]? = some x := by rfl) (hx : Loc X.env.scope x := by first | exact Or.inl rfl | exact Or.inr rfl) (hs : swapsWith e (some (.Name x pos')) pos.line X.env = pure false := by rfl)
    (hf : X.fn x = true ∨ X.env.scope.names.lookup x = some .local := by first | exact .inl rfl | exact .inr rfl) : TS' X f (.Assign [.Name x pos'] e pos) (ownS i F) :=
  psW (ps_set hN hi hx he hs hf) fun E σ H h => toS_R h fun η B H1 v d e0 e s q p => by
    obtain ⟨l, vs, ds, rfl, rfl, hp, hp1, qs⟩ := q
    exact p _ H1 (l :: B) (e0.setOwn s hp hp1 qs) (hid_new s hp)
/-- name = [.. for ..] -/
theorem s_setLc (i : Nat) {y : Str} {py spos : Pos} {ifs : List Expr} {scope : Scope} {own : List (Str × Nat)} {Fi : Nv → R (List D)} {T : Tgt} {js : List Nat} {C : Nv → R Bool} {El : Nv → R D} (hc : X.calm = true) (hN : X.N.Nodup)
    (hsw : swapsWith (.ListComp elt [⟨tg, iter, ifs, 0⟩] scope pos) (some (.Name y py)) spos.line X.env = pure true) (hi : TI' X f.W tg iter Fi) (ok : BlkOk X.N X.env.scope scope own)
    (hg : ∀ (s : Shared) (H : Hp) (C : Addr) (cl : List (Str × Addr)) (fp : List Addr), TT' (X.blk s H scope (compEnvC scope cl C X.env) fp) tg T js)
    (ht : ∀ (s : Shared) (H : Hp) (D : Addr) (cl : List (Str × Addr)) (fp : List Addr), PTs (X.blk s H scope (compEnvC scope cl D X.env) fp) ifs (tT X.K X.mg W0 C))
    (he : ∀ (s : Shared) (H : Hp) (D : Addr) (cl : List (Str × Addr)) (fp : List Addr), TD (X.blk s H scope (compEnvC scope cl D X.env) fp) W0 elt El)
    (hy : X.N[i]? = some y := by rfl) (hyl : X.env.scope.names.lookup y = some .local := by rfl) {vs : List Nat} (hv : own.map (·.2) = vs := by rfl) (hj : ∀ j ∈ js, j ∈ own.map (·.2) := by decide) (hs : ∀ x, foldedSetIterable iter X.env x = pure x := by intro _; rfl) :
    TS' X f (.Assign [.Name y py] (.ListComp elt [⟨tg, iter, ifs, 0⟩] scope pos) spos) (setS i (compE Fi T C El vs)) := by
  subst hv
  exact psW (ps_setLc hc hN hy hyl hsw hi ok (fun s H C cl fp => show PG _ tg (gD X.K T js) from hg s H C cl fp) ht (fun s H C cl fp => show PE _ elt (tR X.K X.mg W0 (rD X.K) El) from he s H C cl fp) hs) fun E σ H h =>
    lc_t hj (toS_R h fun η B H1 v d e0 e s q p => p _ H1 B (e.set (rF_D (fun _ hp => e0.env.fresh hp) q)) (hid_same s))
theorem s_ownLc (i : Nat) {y : Str} {py spos : Pos} {ifs : List Expr} {scope : Scope} {own : List (Str × Nat)} {Fi : Nv → R (List D)} {T : Tgt} {js : List Nat} {C : Nv → R Bool} {El : Nv → R D} (hc : X.calm = true) (hN : X.N.Nodup)
    (hsw : swapsWith (.ListComp elt [⟨tg, iter, ifs, 0⟩] scope pos) (some (.Name y py)) spos.line X.env = pure true) (hi : TI' X f.W tg iter Fi) (ok : BlkOk X.N X.env.scope scope own)
    (hg : ∀ (s : Shared) (H : Hp) (C : Addr) (cl : List (Str × Addr)) (fp : List Addr), TT' (X.blk s H scope (compEnvC scope cl C X.env) fp) tg T js)
    (ht : ∀ (s : Shared) (H : Hp) (D : Addr) (cl : List (Str × Addr)) (fp : List Addr), PTs (X.blk s H scope (compEnvC scope cl D X.env) fp) ifs (tT X.K X.mg W0 C))
    (he : ∀ (s : Shared) (H : Hp) (D : Addr) (cl : List (Str × Addr)) (fp : List Addr), TD (X.blk s H scope (compEnvC scope cl D X.env) fp) W0 elt El)
    (hy : X.N[i]? = some y := by rfl) (hyl : X.env.scope.names.lookup y = some .local := by rfl) {vs : List Nat} (hv : own.map (·.2) = vs := by rfl) (hj : ∀ j ∈ js, j ∈ own.map (·.2) := by decide) (hs : ∀ x, foldedSetIterable iter X.env x = pure x := by intro _; rfl) :
    TS' X f (.Assign [.Name y py] (.ListComp elt [⟨tg, iter, ifs, 0⟩] scope pos) spos) (ownS i (compE Fi T C El vs)) := by
  subst hv
  exact psW (ps_setLc hc hN hy hyl hsw hi ok (fun s H C cl fp => show PG _ tg (gD X.K T js) from hg s H C cl fp) ht (fun s H C cl fp => show PE _ elt (tR X.K X.mg W0 (rD X.K) El) from he s H C cl fp) hs) fun E σ H h =>
    lc_t hj (toS_R h fun η B H1 v d e0 e s q p => by
      obtain ⟨l, vs, ds, rfl, rfl, hp, hp1, qs⟩ := q
      exact p _ H1 (l :: B) (e0.setOwn s hp hp1 qs) (hid_new s hp))
/-- an expression alone -/
def exprS (F : Nv → R D) : Nv → Rs := fun η => (F η).toS fun _ => .nx η
theorem s_expr (he : TD X f.W e F) (hs : swapsWith e none pos.line X.env = pure false := by rfl) : TS' X f (.Expr e pos) (exprS F) :=
  psW (ps_expr he hs) fun E σ H h => toS_R h fun η B H1 v d e0 e s q p => p σ H1 B e (hid_same s)
/-- name.append(e), the list the def's own -/
def appS (i : Nat) (F : Nv → R D) : Nv → Rs := fun η => match η[i]? with
  | some (.own xs) => (F η).toS fun y => if xs.l.length < lineN then .nx (η.set i (.own ⟨xs.b, xs.l ++ [y]⟩)) else .no
  | _ => .no
theorem EnvS.app {K : PySem.W.Frag} {M : List Addr} {H0 : Hp} {A0 : List Addr} {H : Hp} {B : List Addr} {σ : L2.St} {η : Nv} {i : Nat} {a : Addr} {vs : List V} {w : V} {xs : OL} {y : D} (e : EnvS K M H0 A0 H B σ η) (hi : η[i]? = some (.own xs)) (ho : σ[i]? = some (some (.ref a))) (ha : H a = some (.lst vs)) (qa : DpAll K (hid (B ++ A0) H) vs xs.l)
    (qw : Dp K (hid (B ++ A0) H) w y) : EnvS K M H0 A0 (upd H a (.lst (vs ++ [w]))) B σ (η.set i (.own ⟨xs.b, xs.l ++ [y]⟩)) := by
  have hB := e.own i a xs hi ho
  have hA : a ∈ B ++ A0 := by
    cases hb : xs.b with
    | true => rw [hb, if_pos rfl] at hB; exact List.mem_append_left _ hB
    | false => rw [hb, if_neg Bool.false_ne_true] at hB; exact List.mem_append_right _ (e.mA.1 a hB)
  have eh : hid (B ++ A0) (upd H a (.lst (vs ++ [w]))) = hid (B ++ A0) H := hid_upd hA
  have hl : i < η.length := (List.getElem?_eq_some_iff.mp hi).1
  have gt : ∀ (j : Nat) (sl : Sl), (η.set i (.own ⟨xs.b, xs.l ++ [y]⟩))[j]? = some sl → (j = i ∧ sl = .own ⟨xs.b, xs.l ++ [y]⟩) ∨ (j ≠ i ∧ η[j]? = some sl) := fun j sl h => by
    by_cases hj : i = j
    · subst hj
      rw [List.getElem?_set_self hl] at h
      cases h
      exact .inl ⟨rfl, rfl⟩
    · rw [List.getElem?_set_ne hj] at h
      exact .inr ⟨fun z => hj z.symm, h⟩
  refine ⟨⟨by rw [List.length_set, e.env.len], fun j sl h => ?_, fun j k b ys zs h1 h2 h3 h4 => ?_, fun b m => ?_⟩, ?_, e.mA, e.new, fun j b ys h1 h2 => ?_⟩
  · rcases gt j sl h with ⟨rfl, rfl⟩ | ⟨n, h⟩
    · exact ⟨_, ho, hA, vs ++ [w], upd_same, by rw [eh]; exact DpAll_append qa (.cons qw .nil)⟩
    · obtain ⟨o, e1, q⟩ := e.env.at_ j sl h
      refine ⟨o, e1, ?_⟩
      cases sl with
      | no => cases o <;> trivial
      | d x =>
        cases o with
        | none => exact q
        | some v =>
          show Dp K (hid (B ++ A0) (upd H a _)) v x
          rw [eh]
          exact q
      | own zs =>
        match o, q, e1 with
        | some (.ref b), ⟨m, ws, e2, q⟩, e1 =>
          have nb : b ≠ a := fun z => by
            subst z
            exact n (e.env.ap j i b zs xs h hi e1 ho)
          refine ⟨m, ws, by rw [upd_ne nb]; exact e2, ?_⟩
          rw [eh]
          exact q
      | m x => exact q.m' (eh ▸ Same.refl _)
  · rcases gt j _ h1 with ⟨ej, _⟩ | ⟨n, g1⟩
    · rcases gt k _ h2 with ⟨ek, _⟩ | ⟨n2, g2⟩
      · rw [ej, ek]
      · rw [ej] at h3 ⊢
        exact e.env.ap i k b xs zs hi g2 h3 h4
    · rcases gt k _ h2 with ⟨ek, _⟩ | ⟨n2, g2⟩
      · rw [ek] at h4 ⊢
        exact e.env.ap j i b ys xs g1 hi h3 h4
      · exact e.env.ap j k b ys zs g1 g2 h3 h4
  · by_cases hb : b = a
    · rw [hb, upd_same]
      exact fun z => nomatch z
    · rw [upd_ne hb]
      exact e.env.tr b m
  · cases hb : xs.b with
    | false =>
      rw [hb, if_neg Bool.false_ne_true] at hB
      rw [hid_upd hB]
      exact e.same
    | true =>
      rw [hb, if_pos rfl] at hB
      intro b o z
      have z' := e.same b o z
      obtain ⟨n0, z0⟩ := hid_some z
      obtain ⟨n1, z1⟩ := hid_some z'
      have nb : b ≠ a := fun q => by
        rw [q, e.new a hB] at z0
        cases z0
      rw [hid_out n1, upd_ne nb]
      exact z1
  · rcases gt j _ h1 with ⟨ej, ey⟩ | ⟨n, g1⟩
    · rw [ej] at h2
      cases ey
      exact e.own i b xs hi h2
    · exact e.own j b ys g1 h2
theorem s_app (i : Nat) {x : Str} {p apos cpos epos : Pos} (he : TD X f.W e F) (hi : X.N[i]? = some x := by rfl) (hv : Vis X.env.scope x := by first | exact Or.inl rfl | exact Or.inr (Or.inl rfl)) (h1 : starEach [e] X.env = (false, eval e X.env) :: starEach [] X.env := by rfl)
    (hd : (x == ("__debug__" : Str)) = false := by decide) (hcd : (x == ("__classdict__" : Str)) = false := by decide)
    (hbase : attributeBase (.Name x p) "append" X.env (eval (.Name x p) X.env) = eval (.Name x p) X.env := by rfl)
    (hfew : ((backTo cpos (starEach [e] X.env)).all (fun x => !x.1) && (backToKw cpos (keywordEach [] X.env)).all (fun x => x.1.isSome) && decide ([e].length + ([] : List Keyword).length + (if ([] : List Keyword).isEmpty then 0 else 1) < 30)) = true := by rfl)
    (hline : (apos.endLine == cpos.line) = true := by rfl) (hplain : (backTo cpos (starEach [] X.env)).any (·.1) = false := by rfl) (hs : swapsWith (.Call (.Attribute (.Name x p) "append" apos) [e] [] cpos) none epos.line X.env = pure false := by rfl) :
    TS' X f (.Expr (.Call (.Attribute (.Name x p) "append" apos) [e] [] cpos) epos) (appS i F) :=
  psW (ps_expr (pe_bm PySem.F.plainAttrs_list PySem.F.slot_list_append PySem.F.type_list_append mt_append (pe_var hi hv hd hcd) (pa_cons he pa_nil h1) hbase hfew hline h1 hplain) hs) fun E σ H h => by
    obtain ⟨η, B, e0, p0⟩ := h
    have p : PostS X.K X.mg f.W f.rl f.M f.H0 f.A0 H B (appS i F η) E := p0
    unfold appS at p
    split at p
    · rename_i xs hx
      obtain ⟨o, e1, q⟩ := e0.env.at_ i _ hx
      match o, q, e1 with
      | some (.ref a), ⟨m, vs, e2, q⟩, e1 =>
        refine ⟨.ref a, e1, .inl ⟨rfl, vs, SqL.of e2⟩, ?_⟩
        refine (show tR X.K X.mg f.W (rD X.K) F σ H _ from ⟨η, B ++ f.A0, e0.env, ?_⟩)
        cases ef : F η with
        | ex c w z =>
          rw [ef] at p
          exact fun cls dd H' s x => p cls dd σ H' (e0.same.trans (hid_same s)) (exS x)
        | no => rw [ef] at p; exact p
        | ok y =>
          rw [ef] at p
          have p : PostS X.K X.mg f.W f.rl f.M f.H0 f.A0 H B (if xs.l.length < lineN then .nx (η.set i (.own ⟨xs.b, xs.l ++ [y]⟩)) else .no) E := p
          split at p
          · rename_i hz
            intro w H1 s1 qw
            have q1 := DpAll_mono q (hid_same (A := B ++ f.A0) s1)
            refine ⟨a, vs, w, rfl, rfl, s1 _ _ e2, by rw [DpAll_length q, line_eq]; exact hz, ?_⟩
            refine p σ _ B ((e0.step s1).app hx e1 (s1 _ _ e2) q1 qw) ?_
            rw [hid_upd m]
            exact hid_same s1
          · exact False.elim p
    · exact False.elim p
/-! ### return -/
def retS (F : Nv → R D) : Nv → Rs := fun η => (F η).toS fun x => .rt x η
theorem s_ret (he : TD X f.W e F) (hr : f.rl = rD X.K) : TS' X f (.Return (some e) pos) (retS F) :=
  psW (ps_ret he) fun E σ H h => toS_R h fun η B H1 v d e0 e s q p => p v _ H1 B e (by rw [hr]; exact Dp_mono q hid_app)
theorem s_retF (he : TF X f.W e F) (hr : f.rl = rF X.K) : TS' X f (.Return (some e) pos) (retS F) :=
  psW (ps_ret he) fun E σ H h => toS_R h fun η B H1 v d e0 e s q p => p v _ H1 B e (by
    rw [hr]
    obtain ⟨l, vs, ds, rfl, rfl, hp, hp1, qs⟩ := q
    exact ⟨l, vs, ds, rfl, rfl, e0.free hp, hp1, DpAll_mono qs (hid_mono fun b m => (List.mem_cons.mp m).elim (fun z => by rw [z]; exact List.mem_cons_self) fun z => List.mem_cons_of_mem _ (List.mem_append_right _ z))⟩)
/-- a list of the def's own -/
def retO (i : Nat) : Nv → Rs := fun η => match η[i]? with
  | some (.own xs) => if xs.b then .rt (.list xs.l) η else .no
  | _ => .no
theorem s_retO (i : Nat) {x : Str} {p : Pos} (hr : f.rl = rF X.K) (hi : X.N[i]? = some x := by rfl) (hv : Vis X.env.scope x := by first | exact Or.inl rfl | exact Or.inr (Or.inl rfl)) (hd : (x == ("__debug__" : Str)) = false := by decide) (hcd : (x == ("__classdict__" : Str)) = false := by decide) :
    TS' X f (.Return (some (.Name x p)) pos) (retO i) := psW (ps_ret (pe_var hi hv hd hcd)) fun E σ H h => by
  obtain ⟨η, B, e0, p0⟩ := h
  have p : PostS X.K X.mg f.W f.rl f.M f.H0 f.A0 H B (retO i η) E := p0
  unfold retO at p
  split at p
  · rename_i xs hx
    obtain ⟨o, e1, q⟩ := e0.env.at_ i _ hx
    match o, q, e1 with
    | some (.ref a), ⟨m, vs, e2, q⟩, e1 =>
      have hB := e0.own i a xs hx e1
      split at p
      case isFalse => exact False.elim p
      rename_i hb
      rw [if_pos hb] at hB
      refine ⟨_, e1, p _ σ H B e0 ?_⟩
      rw [hr]
      exact ⟨a, vs, _, rfl, rfl, e0.new a hB, e2, DpAll_mono q (hid_mono fun b m => (List.mem_cons.mp m).elim (fun z => by rw [z]; exact List.mem_append_left _ hB) fun z => List.mem_append_right _ z)⟩
  · exact False.elim p
theorem s_retN (hr : f.rl = rD X.K) : TS' X f (.Return none pos) fun η => .rt .none η := psW ps_retN fun E σ H ⟨η, B, e, p⟩ => p _ σ H B e (by rw [hr]; exact .non)
/-! ### if, for -/
def ifS (G : Nv → R Bool) (Gs Gt : Nv → Rs) : Nv → Rs := fun η => (G η).toS fun k => if k then Gs η else Gt η
theorem s_if {as bs : List Stmt} (hc : TB X f.W c G) (ha : TSs X f as Gs) (hb : TSs X f bs Gt) : TS' X f (.If c as bs pos) (ifS G Gs Gt) := psW (ps_if hc ha hb) fun E σ H h => by
  obtain ⟨η, B, e, p0⟩ := h
  have p : PostS X.K X.mg f.W f.rl f.M f.H0 f.A0 H B ((G η).toS fun k => if k then Gs η else Gt η) E := p0
  refine (show tT X.K X.mg f.W G σ H _ from ⟨η, B ++ f.A0, e.env, ?_⟩)
  cases e1 : G η with
  | ex c w q =>
    rw [e1] at p
    exact fun cls dd H' s x => p cls dd σ H' (e.same.trans (hid_same s)) (exS x)
  | no => rw [e1] at p; exact p
  | ok k =>
    rw [e1] at p
    intro H1 s1
    have p : PostS X.K X.mg f.W f.rl f.M f.H0 f.A0 H B (if k then Gs η else Gt η) E := p
    cases k with
    | true => exact iteT ⟨η, B, e.step s1, PostS.keep (hid_same s1) p⟩
    | false => exact iteF ⟨η, B, e.step s1, PostS.keep (hid_same s1) p⟩
def loopG (T : Tgt) (Gb : Nv → Rs) : List D → Nv → Rs
  | [], η => .nx η
  | x :: xs, η => match T x η with
    | none => .no
    | some η1 => match Gb η1 with
      | .nx η2 => loopG T Gb xs η2
      | .ct η2 => loopG T Gb xs η2
      | .bk η2 => .nx η2
      | .rt d η => .rt d η
      | .ex c w p => .ex c w p
      | .no => .no
def forS (Fi : Nv → R (List D)) (T : Tgt) (Gb : Nv → Rs) : Nv → Rs := fun η => (Fi η).toS fun xs => loopG T Gb xs η
theorem for_core {T : Tgt} {js : List Nat} {Gb : Nv → Rs} {E : Ends} {σ : L2.St} {H1 : Hp} {η : Nv} {B : List Addr} {J : It} {ds : List D} (e : EnvS X.K f.M f.H0 f.A0 H1 B σ η) (wk : Walks X.K J H1 (B ++ f.A0) ds) (p : PostS X.K X.mg f.W f.rl f.M f.H0 f.A0 H1 B (loopG T Gb ds η) E) :
    ∃ V : Nat → Nat → L2.St → Hp → Prop, (∃ m, V 0 m σ H1) ∧ ∀ i m σ H, V i m σ H → (J.stop i H ∧ E.nx σ H) ∨ (J.go i H ∧ ∃ N : L2.St → Hp → Prop, (∀ σ' H', N σ' H' → ∃ m', m' < m ∧ V (i + 1) m' σ' H') ∧ ∀ x H', J.yld i H x H' → gD X.K T js x σ H' fun σ2 H2 => tS X.K X.mg f.W f.rl f.M f.H0 f.A0 Gb { E with nx := N, ct := N, bk := E.nx } σ2 H2) := by
  refine ⟨fun i m σ' H' => m + i = ds.length ∧ ∃ η' B', EnvS X.K f.M f.H0 f.A0 H' B' σ' η' ∧ Same (hid (B ++ f.A0) H1) (hid (B' ++ f.A0) H') ∧ PostS X.K X.mg f.W f.rl f.M f.H0 f.A0 H' B' (loopG T Gb (ds.drop i) η') E,
    ⟨ds.length, rfl, η, B, e, Same.refl _, p⟩, fun i m σ' H' hw => ?_⟩
  obtain ⟨em, η', B', e', sh, p⟩ := hw
  cases hx : ds[i]? with
  | none =>
    have hl : ds.length ≤ i := List.getElem?_eq_none_iff.mp hx
    have ei : i = ds.length := by omega
    subst ei
    rw [List.drop_length] at p
    exact .inl ⟨wk.stop _ _ sh, p σ' H' B' e' (Same.refl _)⟩
  | some x =>
    have hl : i < ds.length := (List.getElem?_eq_some_iff.mp hx).1
    have ed : ds.drop i = x :: ds.drop (i + 1) := by
      rw [List.drop_eq_getElem_cons hl]
      congr 1
      exact (List.getElem?_eq_some_iff.mp hx).2
    obtain ⟨g1, g2⟩ := wk.step i x hx _ _ sh e'.env.tr
    rw [ed] at p
    unfold loopG at p
    cases et : T x η' with
    | none => rw [et] at p; exact False.elim p
    | some η1 =>
      rw [et] at p
      have p : PostS X.K X.mg f.W f.rl f.M f.H0 f.A0 H' B' (match Gb η1 with
        | .nx η2 => loopG T Gb (ds.drop (i + 1)) η2
        | .ct η2 => loopG T Gb (ds.drop (i + 1)) η2
        | .bk η2 => .nx η2
        | .rt d η => .rt d η
        | .ex c w p => .ex c w p
        | .no => .no) E := p
      refine .inr ⟨g1, fun σ2 H2 => ∃ m', m' < m ∧ (m' + (i + 1) = ds.length ∧ ∃ η' B', EnvS X.K f.M f.H0 f.A0 H2 B' σ2 η' ∧ Same (hid (B ++ f.A0) H1) (hid (B' ++ f.A0) H2) ∧ PostS X.K X.mg f.W f.rl f.M f.H0 f.A0 H2 B' (loopG T Gb (ds.drop (i + 1)) η') E), fun σ2 H2 hN => hN, fun v H3 y => ?_⟩
      obtain ⟨s3, qv⟩ := g2 v H3 y
      refine ⟨η', B' ++ f.A0, x, η1, e'.env.same s3, qv, et, fun σ2 E2 S => ?_⟩
      have e2 : EnvS X.K f.M f.H0 f.A0 H3 B' σ2 η1 := ⟨E2, e'.same.trans (hid_same s3), e'.mA, e'.new, fun j a xs h1 h2 => by
        obtain ⟨n, h1⟩ := S.own j xs h1
        rw [S.rest j n] at h2
        exact e'.own j a xs h1 h2⟩
      have sh3 : Same (hid (B' ++ f.A0) H') (hid (B' ++ f.A0) H3) := hid_same s3
      refine (show tS X.K X.mg f.W f.rl f.M f.H0 f.A0 Gb _ σ2 H3 from ⟨η1, B', e2, ?_⟩)
      have on : ∀ η2 : Nv, PostS X.K X.mg f.W f.rl f.M f.H0 f.A0 H' B' (loopG T Gb (ds.drop (i + 1)) η2) E → Goes X.K f.M f.H0 f.A0 H3 B' η2 fun σ2 H2 => ∃ m', m' < m ∧ (m' + (i + 1) = ds.length ∧ ∃ η' B', EnvS X.K f.M f.H0 f.A0 H2 B' σ2 η' ∧ Same (hid (B ++ f.A0) H1) (hid (B' ++ f.A0) H2) ∧ PostS X.K X.mg f.W f.rl f.M f.H0 f.A0 H2 B' (loopG T Gb (ds.drop (i + 1)) η') E) :=
        fun η2 pp σ4 H4 B4 e4 s4 => ⟨m - 1, by omega, by omega, η2, B4, e4, (sh.trans sh3).trans s4, PostS.keep (sh3.trans s4) pp⟩
      cases eb : Gb η1 with
      | nx η2 => rw [eb] at p; exact on η2 p
      | ct η2 => rw [eb] at p; exact on η2 p
      | bk η2 =>
        rw [eb] at p
        exact fun σ4 H4 B4 e4 s4 => p σ4 H4 B4 e4 (sh3.trans s4)
      | rt d η2 => rw [eb] at p; exact p
      | ex c w q => rw [eb] at p; exact p
      | no => rw [eb] at p; exact p
theorem s_for {body : List Stmt} {Fi : Nv → R (List D)} {T : Tgt} {js : List Nat} {Gb : Nv → Rs} (hp : PassesOwn (model X.prog X.w) X.A X.env X.xe) (hc : X.calm = true) (hi : TI' X f.W tg iter Fi) (hg : TT' X tg T js) (hb : TSs X f body Gb) (hs : ∀ x, foldedSetIterable iter X.env x = pure x := by intro _; rfl) :
    TS' X f (.For tg iter body [] pos) (forS Fi T Gb) := psW (ps_for hp hc hi hg hb (hs := hs)) fun E σ H h => by
  obtain ⟨η, B, e, p0⟩ := h
  have p : PostS X.K X.mg f.W f.rl f.M f.H0 f.A0 H B ((Fi η).toS fun xs => loopG T Gb xs η) E := p0
  refine (show tI X.K X.mg f.W Fi σ H _ from ⟨η, B ++ f.A0, e.env, ?_⟩)
  cases e1 : Fi η with
  | ex c w q =>
    rw [e1] at p
    exact fun cls dd H' s x => p cls dd σ H' (e.same.trans (hid_same s)) (exS x)
  | no => rw [e1] at p; exact p
  | ok ds =>
    rw [e1] at p
    have p : PostS X.K X.mg f.W f.rl f.M f.H0 f.A0 H B (loopG T Gb ds η) E := p
    intro J H1 s1 wk
    exact for_core (e.step s1) wk (PostS.keep (hid_same s1) p)
end
end Bd
/-! D6: defs and their calls by data; built-ins. -/
namespace Bd
open PySem L2

/-! ### a def's promise, where no repr is going on -/
structure FnG (P : Program) (w : World) (K : PySem.W.Frag) (mg : Str → Option Value) (base : Heap) (k : Nat) (f : Addr) (fd : FuncData) (ps : List Str) (sp : Sp) : Prop where
  len : ∀ vs H Q E, sp vs H Q E → vs.length = ps.length
  run : ∀ (A : Around) (outer : List Env) (s : Shared) (H : Hp) (args : Args) (us : List Value) (vs : List V) (Q : VK) (E : XK), Room k A → A.guards = some [] → Env0 P w K mg base A outer s H → BindsTo s fd args (ps.zip us) → Vals vs us →
    sp vs H Q E → codeAny (model P w) A (.call (.ref f) args) (CR (L2.CX P w) outer P w H s Q E) s
theorem FnG.mono {P : Program} {w : World} {K : PySem.W.Frag} {mg : Str → Option Value} {base : Heap} {j k : Nat} {f : Addr} {fd : FuncData} {ps : List Str} {sp : Sp} (F : FnG P w K mg base j f fd ps sp) (h : j ≤ k) : FnG P w K mg base k f fd ps sp :=
  ⟨F.len, fun A o s H as us vs Q E hr => F.run A o s H as us vs Q E (hr.mono h)⟩
section
variable {P : Program} {w : World} {K : PySem.W.Frag} {mg : Str → Option Value} {base : Heap}
theorem okG {x qual : Str} {st : Stmt} {f : Addr} {fd : FuncData} {N ps : List Str} {k : Nat} {sp : Sp} (F : Fun K x qual st f fd) (S : FnScope N ps (defScope st)) (len : ∀ vs H Q E, sp vs H Q E → vs.length = ps.length)
    (hbody : ∀ (cdv : Value) (A : Around) (outer : List Env) (s : Shared) (H : Hp) (vs : List V) (Q : VK) (E : XK), Room k (A.deeper (PyProof.Rows.envOfC qual (defScope st) s.heap.objs.size f cdv)) → A.guards = some [] → sp vs H Q E →
      ∃ t, PSs (cxOf (L2.CX P w) P w K mg base N qual (defScope st) f cdv A outer s H E) (defBody st) t ∧ t { nx := fun _ H' => Q .non H', rt := Q } (L2.start N vs) H) : FnG P w K mg base (k + 1) f fd ps sp := by
  obtain ⟨oc, od, kV, doc, pm, an, cdv, ct, osl, rfl, lk, hcd⟩ := F.ex
  refine ⟨len, fun A outer s H args us vs Q E room gds env bnd rel prm => ?_⟩
  have lenV := len vs H Q E prm
  have Kin : K.In s.heap := env.mod.kin.keeps fun b o e => (env.bs b o e).1
  have nolim : s.heap.NoLimit := env.mod.nolimit.keeps fun b o e => (env.bs b o e).1
  have kinds : ∀ y ∈ ps.zip us, (defScope st).names.lookup y.1 = some .local ∨ ((defScope st).names.lookup y.1 = some .cell ∧ ((cellsFrom (s.heap.objs.size + 1) (defScope st).names []).lookup y.1).isSome = true) := by
    rintro ⟨n, v⟩ hy
    rcases S.par n (List.of_mem_zip hy).1 with h | h
    · exact .inl h
    · exact .inr ⟨h, PySem.W.cellsFrom_some _ _ _ (.inl h)⟩
  refine codeAny_call_function room.depth (Kin _ _ lk) rfl S.co S.gen rfl (PySem.W.codeRec_of Kin hcd) (bnd _ _ _ _ ?_)
  refine wpAny_newFunctionEnv_cells S.kind kinds fun e1 he s1 inc => ?_
  subst he
  refine ⟨nolim.keeps inc.toInCall.keep, codeAny_func ?_⟩
  obtain ⟨t, ht, hq⟩ := hbody cdv A outer s H vs Q E (room.deeper _) gds prm
  have I0 : Inv (cxOf (L2.CX P w) P w K mg base N qual (defScope st) f cdv A outer s H E) [] (L2.start N vs) H s1 := inv_start S room.hd env lenV rel inc
  refine wpAny_mono (ht.run [] s1 _ H _ I0 hq) (fun fl s2 out => ?_) fun _ _ out => out
  cases fl with
  | ret u =>
    obtain ⟨v, σ2, H2, J, rv, z⟩ := out
    exact ⟨v, H2, J.os, J.bare, J.base, J.hok, rv, z⟩
  | next =>
    obtain ⟨σ2, H2, J, z⟩ := out
    exact ⟨V.non, H2, J.os, J.bare, J.base, J.hok, rfl, z⟩
  | brk => exact out.elim fun _ z => z.elim fun _ z => z.2.elim
  | cont => exact out.elim fun _ z => z.elim fun _ z => z.2.elim
/-- what a def does to data -/
def spD (K : PySem.W.Frag) (mg : Str → Option Value) (rl : Rl) (n : Nat) (F : List D → R D) : Sp := fun vs H Q E => ∃ ds A, ds.length = n ∧ (∀ p ∈ A, H p ≠ none) ∧ DpAll K (hid A H) vs ds ∧ match F ds with
  | .ok d => ∀ v H', Same H H' → rl H H' A v d → Q v H'
  | .ex c w p => ∀ cls dd H', Same H H' → ExR K mg (hid A H') cls dd c w p → E cls dd H'
  | .no => False
def initD (m : Nat) (ds : List D) : Nv := ds.map Sl.d ++ List.replicate (m - ds.length) Sl.no
def runD (m : Nat) (fall : R D) (G : Nv → Rs) : List D → R D := fun ds => match G (initD m ds) with
  | .rt d _ => .ok d
  | .nx _ => fall
  | .ex c w p => .ex c w p
  | _ => .no
theorem hid_nil {H : Hp} : hid [] H = H := funext fun b => if_neg List.not_mem_nil
theorem same_nil {H H' : Hp} (s : Same (hid [] H) (hid [] H')) : Same H H' := by
  rw [hid_nil, hid_nil] at s
  exact s
theorem EnvS.same0 {H0 : Hp} {A0 : List Addr} {H : Hp} {B : List Addr} {σ : L2.St} {η : Nv} (e : EnvS K [] H0 A0 H B σ η) : Same H0 H := same_nil e.same
theorem env_start {H : Hp} {A : List Addr} {N : List Str} {vs : List V} {ds : List D} (hA : ∀ p ∈ A, H p ≠ none) (q : DpAll K (hid A H) vs ds) : EnvD K H A (L2.start N vs) (initD N.length ds) where
  len := by
    unfold L2.start initD
    rw [List.length_append, List.length_append, List.length_map, List.length_map, List.length_replicate, List.length_replicate, DpAll_length q]
  at_ := fun i s e => by
    have hl := DpAll_length q
    unfold initD at e
    unfold L2.start
    by_cases hi : i < ds.length
    · rw [List.getElem?_append_left (by rw [List.length_map]; exact hi), List.getElem?_map] at e
      rw [List.getElem?_append_left (by rw [List.length_map, hl]; exact hi), List.getElem?_map]
      cases hd : ds[i]? with
      | none => rw [hd] at e; cases e
      | some d =>
        rw [hd] at e
        cases e
        obtain ⟨v, hv, q1⟩ := DpAll_get q hd
        exact ⟨some v, by rw [hv]; rfl, q1⟩
    · rw [List.getElem?_append_right (by rw [List.length_map]; omega), List.length_map, List.getElem?_replicate] at e
      rw [List.getElem?_append_right (by rw [List.length_map]; omega), List.length_map, List.getElem?_replicate]
      split at e
      · rename_i h
        cases e
        exact ⟨none, by rw [if_pos (by rw [hl]; exact h)], trivial⟩
      · cases e
  ap := fun i j a xs ys e _ _ _ => by
    unfold initD at e
    by_cases hi : i < ds.length
    · rw [List.getElem?_append_left (by rw [List.length_map]; exact hi), List.getElem?_map] at e
      cases hd : ds[i]? <;> (rw [hd] at e; cases e)
    · rw [List.getElem?_append_right (by rw [List.length_map]; omega), List.getElem?_replicate] at e
      split at e <;> cases e
  tr := hA
theorem no_own {m i : Nat} {ds : List D} {xs : OL} : (initD m ds)[i]? ≠ some (.own xs) := fun e => by
  unfold initD at e
  by_cases hi : i < ds.length
  · rw [List.getElem?_append_left (by rw [List.length_map]; exact hi), List.getElem?_map] at e
    cases hd : ds[i]? <;> (rw [hd] at e; cases e)
  · rw [List.getElem?_append_right (by rw [List.length_map]; omega), List.getElem?_replicate] at e
    split at e <;> cases e
/-- THE RULE: a def by the data that its body tells -/
theorem fn_rule {x qual : Str} {st : Stmt} {f : Addr} {fd : FuncData} {N ps : List Str} {k : Nat} {rl : Rl} {fall : R D} {G : Nv → Rs} (F : Fun K x qual st f fd) (S : FnScope N ps (defScope st)) (hf : (fall = .ok .none ∧ rl = rD K) ∨ fall = .no)
    (hbody : ∀ (cdv : Value) (A : Around) (outer : List PySem.Env) (s : Shared) (H : Hp) (E : XK) (A0 : List Addr), Room k (A.deeper (PyProof.Rows.envOfC qual (defScope st) s.heap.objs.size f cdv)) → A.guards = some [] →
      TSs (cxOf (L2.CX P w) P w K mg base N qual (defScope st) f cdv A outer s H E) ⟨fun cls d _ H => E cls d H, rl, [], H, A0⟩ (defBody st) G) : FnG P w K mg base (k + 1) f fd ps (spD K mg rl ps.length (runD N.length fall G)) := by
  refine okG F S (fun vs H Q E h => ?_) fun cdv A outer s H vs Q E room gds prm => ?_
  · obtain ⟨ds, A, h1, _, h2, _⟩ := h
    rw [DpAll_length h2, h1]
  · obtain ⟨ds, A0, hl, hA, qd, hm⟩ := prm
    refine ⟨_, hbody cdv A outer s H E A0 room gds, ?_⟩
    refine ⟨initD N.length ds, [], ⟨env_start hA qd, Same.refl _, ⟨(fun p z => (List.not_mem_nil z).elim), hA⟩, (fun p z => (List.not_mem_nil z).elim), fun i a xs e => absurd e no_own⟩, ?_⟩
    unfold runD at hm
    cases eg : G (initD N.length ds) with
    | rt d η => rw [eg] at hm; exact fun v σ' H' B' e' q => hm v H' e'.same0 q
    | nx η =>
      rw [eg] at hm
      rcases hf with ⟨rfl, rfl⟩ | rfl
      · exact fun σ' H' B' e' _ => hm .non H' e'.same0 .non
      · exact False.elim hm
    | ex c w p => rw [eg] at hm; exact fun cls dd σ' H' s1 q => hm cls dd H' (same_nil s1) q
    | bk η => rw [eg] at hm; exact False.elim hm
    | ct η => rw [eg] at hm; exact False.elim hm
    | no => rw [eg] at hm; exact hm
end

/-! ### calls of own defs -/
section
variable {X : Cx} {W : WX} {rl : Rl} {e : Expr} {es : List Expr} {x : Str} {p pos : Pos} {f : Addr} {fd : FuncData} {ps : List Str} {k n : Nat} {Fn : List D → R D} {Fs : Nv → R (List D)}
theorem run_g {pins : List (Addr × Obj)} {σ : L2.St} {H : Hp} {s : Shared} {Q : VK} {us : List Value} {vs : List V} {sp : Sp} {E : XK} (F : FnG X.prog X.w X.K X.mg X.base k f fd ps sp) (hr : Room k X.A) (hgd : X.A.guards = some []) (hb : Binds X.K fd ps [])
    (hx : PassesAt (L2.CX X.prog X.w) X σ E) (I : Inv X pins σ H s) (r : Vals vs us) (h : sp vs H Q E) : wpAny (model X.prog X.w) X.A (call (.ref f) us) (EP X pins σ Q) X.xe s := by
  have hl : (us ++ []).length = ps.length := by
    rw [List.append_nil, ← r.length]
    exact F.len _ _ _ _ h
  have bt := hb s us I.kIn hl
  rw [List.append_nil] at bt
  refine wpAny_call (codeAny_mono (F.run X.A X.stack s H ⟨us, []⟩ us vs Q E hr hgd I.env0 bt r h) fun res s2 out => ?_)
  match res, out with
  | .error e, out => exact hx pins H s e s2 I out
  | .ok (.ret u), out => exact I.after out
  | .ok .next, out => exact out.elim
  | .ok .brk, out => exact out.elim
  | .ok .cont, out => exact out.elim
def noex : R D → R D
  | .ok d => .ok d
  | _ => .no
/-- a def that raises nothing here -/
def callV (Fn : List D → R D) (Fs : Nv → R (List D)) : Nv → R D := fun η => (Fs η).bind fun ds => noex (Fn ds)
/-- a def that may raise -/
def callX (Fn : List D → R D) (Fs : Nv → R (List D)) : Nv → R D := fun η => (Fs η).bind Fn
theorem AllV.of_len {rv : Rv} {H : Hp} {A : List Addr} {vs : List V} {ds : List D} (h : AllV rv H A vs ds) : vs.length = ds.length := h.len
theorem call_core {g : R D → R D} (hgx : ∀ r d, g r = .ok d → r = .ok d) {Pd : Prop} (hb' : Back rl) (F : FnG X.prog X.w X.K X.mg X.base k f fd ps (spD X.K X.mg rl n Fn)) (hr : Room k X.A) (hgd : X.A.guards = some []) (hg : Gl X x) (hm : X.mg x = some (.ref f)) (hk : PySem.W.keepIn X.K (.ref f) = true) (hb : Binds X.K fd ps [])
    (hE : ∀ σ : L2.St, ∃ E : XK, PassesAt (L2.CX X.prog X.w) X σ E ∧ ∀ (A : List Addr) (H : Hp) (r : R D) (Q : VK), Post X.K X.mg W rl σ A H (g r) Q → match r with
      | .ok d => ∀ v H', Same H H' → rl H H' A v d → Q v H'
      | .ex c w p => ∀ cls dd H', Same H H' → ExR X.K X.mg (hid A H') cls dd c w p → E cls dd H'
      | .no => False)
    (ha : TAs X W (vD X.K) (e :: es) Fs) (hn : es.length + 1 = n) (hfs : ∀ η ds, Fs η = .ok ds → ds.length = n) (hdb : (x == ("__debug__" : Str)) = false) (he : starEach (e :: es) X.env = (false, eval e X.env) :: starEach es X.env) (hpl : (backTo pos (starEach es X.env)).any (·.1) = false) :
    PE X (.Call (.Name x p) (e :: es) [] pos) (tR X.K X.mg W rl fun η => (Fs η).bind fun ds => g (Fn ds)) := by
  refine ⟨fun pins s σ H Q I h => wpAny_Call_Name_kw (ld_glob I hg hm ?_ hdb)⟩
  obtain ⟨η, A, E, q0⟩ := h
  have q : Post X.K X.mg W rl σ A H ((Fs η).bind fun ds => g (Fn ds)) Q := q0
  obtain ⟨Ex, hx, hEx⟩ := hE σ
  refine PySem.W.callWith_K (h₀ := X.base) I.ok.mod.kin hk (thn (ha.run pos pins s σ H (fun vs H1 => spD X.K X.mg rl n Fn vs H1 Q Ex) I ⟨η, A, E, ?_⟩) fun us s1 ⟨vs, H1, I1, r1, q1⟩ => ⟨I1.kIn, run_g F hr hgd hb hx I1 r1 q1⟩) he hpl
  cases e1 : Fs η with
  | ex c w z => rw [e1] at q; exact q
  | no => rw [e1] at q; exact q
  | ok ds =>
    rw [e1] at q
    intro vs H1 s1 qv
    exact ⟨ds, A, hfs η ds e1, (E.same s1).tr, qv.dp, hEx A H1 (Fn ds) Q (Post.same hb' s1 q)⟩
theorem aC_len {Fa : Nv → R D} {m : Nat} (h : ∀ η ds, Fs η = .ok ds → ds.length = m) : ∀ η ds, aC Fa Fs η = .ok ds → ds.length = m + 1 := fun η ds e => by
  unfold aC at e
  cases e1 : Fa η with
  | ex c w z => rw [e1] at e; cases e
  | no => rw [e1] at e; cases e
  | ok y =>
    rw [e1] at e
    have e : ((Fs η).bind fun xs => R.ok (y :: xs)) = .ok ds := e
    cases e2 : Fs η with
    | ex c w z => rw [e2] at e; cases e
    | no => rw [e2] at e; cases e
    | ok ys =>
      rw [e2] at e
      cases e
      rw [List.length_cons, h η ys e2]
theorem a0_len : ∀ η ds, a0 η = .ok ds → ds.length = 0 := fun η ds e => by
  cases e
  rfl
theorem t_call (hb' : Back rl) (F : FnG X.prog X.w X.K X.mg X.base k f fd ps (spD X.K X.mg rl n Fn)) (hr : Room k X.A) (hgd : X.A.guards = some []) (hg : Gl X x) (hm : X.mg x = some (.ref f)) (hk : PySem.W.keepIn X.K (.ref f) = true) (hb : Binds X.K fd ps []) (ha : TAs X W (vD X.K) (e :: es) Fs) (hfs : ∀ η ds, Fs η = .ok ds → ds.length = n)
    (hn : es.length + 1 = n := by rfl) (hdb : (x == ("__debug__" : Str)) = false := by decide) (he : starEach (e :: es) X.env = (false, eval e X.env) :: starEach es X.env := by rfl) (hpl : (backTo pos (starEach es X.env)).any (·.1) = false := by rfl) :
    PE X (.Call (.Name x p) (e :: es) [] pos) (tR X.K X.mg W rl (callV Fn Fs)) :=
  call_core (g := noex) (Pd := True) (fun r d h => by cases r <;> first | exact h | cases h) hb' F hr hgd hg hm hk hb (fun σ => ⟨fun _ _ _ => False, fun pins H s e s' I c => by
      obtain ⟨_, _, _, _, _, _, _, _, _, _, _, _, z⟩ := c
      exact z.elim, fun A H r Q q => by
      cases r with
      | ok d => exact q
      | ex c w z => exact False.elim q
      | no => exact q⟩) ha hn hfs hdb he hpl
theorem t_callX (tk : Takes X W) (hb' : Back rl) (F : FnG X.prog X.w X.K X.mg X.base k f fd ps (spD X.K X.mg rl n Fn)) (hr : Room k X.A) (hgd : X.A.guards = some []) (hg : Gl X x) (hm : X.mg x = some (.ref f)) (hk : PySem.W.keepIn X.K (.ref f) = true) (hb : Binds X.K fd ps []) (ha : TAs X W (vD X.K) (e :: es) Fs) (hfs : ∀ η ds, Fs η = .ok ds → ds.length = n)
    (hn : es.length + 1 = n := by rfl) (hdb : (x == ("__debug__" : Str)) = false := by decide) (he : starEach (e :: es) X.env = (false, eval e X.env) :: starEach es X.env := by rfl) (hpl : (backTo pos (starEach es X.env)).any (·.1) = false := by rfl) :
    PE X (.Call (.Name x p) (e :: es) [] pos) (tR X.K X.mg W rl (callX Fn Fs)) :=
  call_core (g := id) (Pd := True) (fun r d h => h) hb' F hr hgd hg hm hk hb (fun σ => ⟨WE W σ, passAt tk σ, fun A H r Q q => by
      cases r with
      | ok d => exact q
      | ex c w z => exact q
      | no => exact q⟩) ha hn hfs hdb he hpl
/-- a def of the module, as its callers want it -/
def Df (P : Program) (w : World) (K : PySem.W.Frag) (mg : Str → Option Value) (base : Heap) (k : Nat) (x : Str) (n : Nat) (rl : Rl) (Fn : List D → R D) : Prop :=
  ∃ f fd ps, FnG P w K mg base k f fd ps (spD K mg rl n Fn) ∧ Binds K fd ps [] ∧ mg x = some (.ref f) ∧ PySem.W.keepIn K (.ref f) = true
theorem t_callD {j : Nat} (d : Df X.prog X.w X.K X.mg X.base j x n rl Fn) (hr : Room k X.A) (hgd : X.A.guards = some []) (ha : TAs X W (vD X.K) (e :: es) Fs) (hfs : ∀ η ds, Fs η = .ok ds → ds.length = n) (hb' : Back rl) (hj : j ≤ k := by decide) (hg : Gl X x := by rfl)
    (hn : es.length + 1 = n := by rfl) (hdb : (x == ("__debug__" : Str)) = false := by decide) (he : starEach (e :: es) X.env = (false, eval e X.env) :: starEach es X.env := by rfl) (hpl : (backTo pos (starEach es X.env)).any (·.1) = false := by rfl) :
    PE X (.Call (.Name x p) (e :: es) [] pos) (tR X.K X.mg W rl (callV Fn Fs)) := by
  obtain ⟨f, fd, ps, F, b, m, kp⟩ := d
  exact t_call hb' F (hr.mono hj) hgd hg m kp b ha hfs hn hdb he hpl
theorem t_callDX {j : Nat} (tk : Takes X W) (d : Df X.prog X.w X.K X.mg X.base j x n rl Fn) (hr : Room k X.A) (hgd : X.A.guards = some []) (ha : TAs X W (vD X.K) (e :: es) Fs) (hfs : ∀ η ds, Fs η = .ok ds → ds.length = n) (hb' : Back rl) (hj : j ≤ k := by decide) (hg : Gl X x := by rfl)
    (hn : es.length + 1 = n := by rfl) (hdb : (x == ("__debug__" : Str)) = false := by decide) (he : starEach (e :: es) X.env = (false, eval e X.env) :: starEach es X.env := by rfl) (hpl : (backTo pos (starEach es X.env)).any (·.1) = false := by rfl) :
    PE X (.Call (.Name x p) (e :: es) [] pos) (tR X.K X.mg W rl (callX Fn Fs)) := by
  obtain ⟨f, fd, ps, F, b, m, kp⟩ := d
  exact t_callX tk hb' F (hr.mono hj) hgd hg m kp b ha hfs hn hdb he hpl
end
end Bd
/-! D7: built-ins by data. -/
namespace Bd
open PySem L2

section
variable {X : Cx} {W : WX} {rl : Rl} {a b c e : Expr} {Fa Fb F : Nv → R D} {Fs : Nv → R (List D)} {pos p : Pos} {es : List Expr}
theorem all1 {rv : Rv} {H : Hp} {A : List Addr} {d : D} : ∀ {vs : List V}, AllV rv H A vs [d] → ∃ v, vs = [v] ∧ rv H A v d
  | [v], h => ⟨v, rfl, h.1⟩
  | [], h => h.elim
  | _ :: _ :: _, h => h.2.elim
theorem all2 {rv : Rv} {H : Hp} {A : List Addr} {d e : D} : ∀ {vs : List V}, AllV rv H A vs [d, e] → ∃ v w, vs = [v, w] ∧ rv H A v d ∧ rv H A w e
  | [v, w], h => ⟨v, w, rfl, h.1, h.2.1⟩
  | [], h => h.elim
  | [_], h => h.2.elim
  | _ :: _ :: _ :: _, h => h.2.2.elim
/-! len -/
def lenV : List D → Option D
  | [.list xs] => some (.int xs.length)
  | [.tuple xs] => some (.int xs.length)
  | [.str x] => if x.length ≤ lineN then some (.int x.length) else none
  | _ => none
def rLen (K : PySem.W.Frag) : List V → Hp → VK → Prop := fun xs H Q => (∃ p ys, xs = [.ref p] ∧ (SqL K H p ys ∨ SqT K H p ys) ∧ Q (.int ys.length) H) ∨ ∃ z, xs = [.str z] ∧ z.length ≤ sizeLine ∧ Q (.int z.length) H
theorem call_lenA : CallR X (.builtin "len") (rLen X.K) := by
  intro pins s σ H xs us Q I r h
  rcases h with h | h
  · exact call_len_seq pins s σ H xs us Q I r h
  · exact call_len_str pins s σ H xs us Q I r h
theorem o_len : OpN X (rD X.K) (rLen X.K) lenV := by
  intro H A vs ds d Q hA h e k
  unfold lenV at e
  split at e
  · have e := Option.some.inj e
    subst e
    obtain ⟨v, rfl, q⟩ := all1 h
    obtain ⟨l, ws, rfl, h1, q1⟩ := rO_list q
    refine .inl ⟨l, ws, rfl, .inl h1, ?_⟩
    rw [DpAll_length q1]
    exact k _ H (Same.refl _) (.int _)
  · have e := Option.some.inj e
    subst e
    obtain ⟨v, rfl, q⟩ := all1 h
    obtain ⟨l, ws, rfl, h1, _, q1⟩ := rO_tup q
    refine .inl ⟨l, ws, rfl, .inr h1, ?_⟩
    rw [DpAll_length q1]
    exact k _ H (Same.refl _) (.int _)
  · split at e
    · rename_i hz
      have e := Option.some.inj e
      subst e
      obtain ⟨v, rfl, q⟩ := all1 h
      exact .inr ⟨_, by rw [rO_str q], by rw [line_eq]; exact hz, k _ H (Same.refl _) (.int _)⟩
    · cases e
  · cases e
theorem t_len (hm : X.mg "len" = none) (ha : TAs X W (vO X.K) [e] Fs) (hg : Gl X "len" := by rfl) (he : starEach [e] X.env = (false, eval e X.env) :: starEach [] X.env := by rfl) (hpl : (backTo pos (starEach [] X.env)).any (·.1) = false := by rfl) : TD X W (.Call (.Name "len" p) [e] [] pos) (eN lenV Fs) :=
  t_callB back_D call_lenA o_len hg hm PySem.boot_len ha (he := he) (hpl := hpl)
/-! repr -/
def reprV : List D → Option D
  | [d] => if d.showable = true ∧ d.hasDict = false ∧ d.depth ≤ 64 ∧ d.shown.length ≤ lineN then some (.str d.shown) else none
  | _ => none
def rRepr (K : PySem.W.Frag) : List V → Hp → VK → Prop := fun xs H Q => ∃ v d, xs = [v] ∧ Dp K H v d ∧ d.showable = true ∧ d.hasDict = false ∧ d.depth ≤ 64 ∧ d.shown.length ≤ sizeLine ∧ Q (.str d.shown) H
theorem call_reprA (hg : X.A.guards = some []) (hu : X.A.units + 66 < cLine) : CallR X (.builtin "repr") (rRepr X.K) := by
  intro pins s σ H xs us Q I r h
  obtain ⟨v, d, rfl, q, h1, h2, h3, h4, k⟩ := h
  obtain ⟨u, rfl, ru⟩ := vals1 r
  have fin : ∀ t, EP X pins σ Q (.str d.shown t) { s with toks := s.toks + 1 } := fun t => ⟨.str d.shown, H, I.tok _, ⟨_, rfl⟩, k⟩
  have deep : ∀ a, v = .ref a → wpAny (model X.prog X.w) X.A (call (.builtin "repr") [.ref a]) (EP X pins σ Q) X.xe s := fun a ea => by
    subst ea
    cases ru
    obtain ⟨as, rd⟩ := Dp.reads I d _ _ q rfl
    refine repr_of_reads' rd h1 (fun z => by rw [h2] at z; cases z) hg (by omega) (fun _ _ z => z) (fun h' u tk kp => ?_) h4
    exact ⟨.str d.shown, H, I.kept (t' := tk) kp, ⟨_, rfl⟩, k⟩
  cases q with
  | non =>
    cases ru
    exact PySem.P.repr_of_none (fin _)
  | bl b =>
    cases ru
    exact PySem.P.repr_of_bool (fin _)
  | int i =>
    obtain ⟨t, rfl⟩ := ru
    exact PySem.P.repr_of_int (of_decide_eq_true h1) (fin _)
  | str x =>
    obtain ⟨t, rfl⟩ := ru
    exact PySem.P.repr_of_str (fin _) h4
  | lst _ _ =>
    cases ru
    exact deep _ rfl
  | tup _ _ =>
    cases ru
    exact deep _ rfl
theorem o_repr : OpN X (rD X.K) (rRepr X.K) reprV := by
  intro H A vs ds d Q hA h e k
  unfold reprV at e
  split at e
  · split at e
    · rename_i d' hd
      have e := Option.some.inj e
      subst e
      obtain ⟨v, rfl, q⟩ := all1 h
      exact ⟨v, d', rfl, rO_dp q, hd.1, hd.2.1, hd.2.2.1, by rw [line_eq]; exact hd.2.2.2, k _ H (Same.refl _) (.str _)⟩
    · cases e
  · cases e
theorem t_repr (hg : X.A.guards = some []) (hu : X.A.units + 66 < cLine) (hm : X.mg "repr" = none) (ha : TAs X W (vO X.K) [e] Fs) (hgl : Gl X "repr" := by rfl) (he : starEach [e] X.env = (false, eval e X.env) :: starEach [] X.env := by rfl) (hpl : (backTo pos (starEach [] X.env)).any (·.1) = false := by rfl) :
    TD X W (.Call (.Name "repr" p) [e] [] pos) (eN reprV Fs) := t_callB back_D (call_reprA hg hu) o_repr hgl hm (by decide +kernel) ha (he := he) (hpl := hpl)
/-! int -/
def intV : List D → Option D
  | [.int i] => some (.int i)
  | [.bool b] => some (.int (if b then 1 else 0))
  | _ => none
theorem t_intc (hm : X.mg "int" = none) (ha : TAs X W (vO X.K) [e] Fs) (hgl : Gl X "int" := by rfl) (he : starEach [e] X.env = (false, eval e X.env) :: starEach [] X.env := by rfl) (hpl : (backTo pos (starEach [] X.env)).any (·.1) = false := by rfl) :
    TD X W (.Call (.Name "int" p) [e] [] pos) (eN intV Fs) := t_callTy back_D call_int1 (fun H A vs ds d Q hA h e k => by
  unfold intV at e
  split at e
  · have e := Option.some.inj e
    subst e
    obtain ⟨v, rfl, q⟩ := all1 h
    exact .inl ⟨_, by rw [rO_int q], k _ H (Same.refl _) (.int _)⟩
  · have e := Option.some.inj e
    subst e
    obtain ⟨v, rfl, q⟩ := all1 h
    exact .inr ⟨_, by rw [rO_bool q], k _ H (Same.refl _) (.int _)⟩
  · cases e) hgl hm (by decide +kernel) ha (he := he) (hpl := hpl)
/-! tuple, list -/
def tupleV : List D → Option D
  | [.list xs] => some (.tuple xs)
  | [.tuple xs] => some (.tuple xs)
  | _ => none
theorem t_tuplec (hm : X.mg "tuple" = none) (ha : TAs X W (vO X.K) [e] Fs) (hgl : Gl X "tuple" := by rfl) (he : starEach [e] X.env = (false, eval e X.env) :: starEach [] X.env := by rfl) (hpl : (backTo pos (starEach [] X.env)).any (·.1) = false := by rfl) :
    TD X W (.Call (.Name "tuple" p) [e] [] pos) (eN tupleV Fs) := t_callTy back_D call_tuple_of (fun H A vs ds d Q hA h e k => by
  unfold tupleV at e
  split at e
  · have e := Option.some.inj e
    subst e
    obtain ⟨v, rfl, q⟩ := all1 h
    obtain ⟨l, ws, rfl, h1, q1⟩ := rO_list q
    exact ⟨l, ws, rfl, .inl ⟨h1, fun t ht => k _ _ (same_new ht) (dp_new_tup hA ht q1)⟩⟩
  · have e := Option.some.inj e
    subst e
    obtain ⟨v, rfl, q⟩ := all1 h
    obtain ⟨l, ws, rfl, h1, h2, q1⟩ := rO_tup q
    exact ⟨l, ws, rfl, .inr ⟨h1, k _ H (Same.refl _) (.tup h2 q1)⟩⟩
  · cases e) hgl hm (by decide +kernel) ha (he := he) (hpl := hpl)
def listV : List D → Option D
  | [.list xs] => some (.list xs)
  | [.tuple xs] => some (.list xs)
  | _ => none
theorem t_listc (hm : X.mg "list" = none) (ha : TAs X W (vO X.K) [e] Fs) (hgl : Gl X "list" := by rfl) (he : starEach [e] X.env = (false, eval e X.env) :: starEach [] X.env := by rfl) (hpl : (backTo pos (starEach [] X.env)).any (·.1) = false := by rfl) :
    TF X W (.Call (.Name "list" p) [e] [] pos) (eN listV Fs) := t_callTy back_F call_list_of (fun H A vs ds d Q hA h e k => by
  unfold listV at e
  split at e
  · have e := Option.some.inj e
    subst e
    obtain ⟨v, rfl, q⟩ := all1 h
    obtain ⟨l, ws, rfl, h1, q1⟩ := rO_list q
    exact ⟨l, ws, rfl, .inl h1, fun t ht => k _ _ (same_new ht) (dp_new_list hA ht q1)⟩
  · have e := Option.some.inj e
    subst e
    obtain ⟨v, rfl, q⟩ := all1 h
    obtain ⟨l, ws, rfl, h1, h2, q1⟩ := rO_tup q
    exact ⟨l, ws, rfl, .inr h1, fun t ht => k _ _ (same_new ht) (dp_new_list hA ht q1)⟩
  · cases e) hgl hm (by decide +kernel) ha (he := he) (hpl := hpl)
/-! ints and bools in a list -/
def ints? : List D → Option (List Int)
  | [] => some []
  | .int i :: r => (ints? r).map (i :: ·)
  | _ => none
def bools? : List D → Option (List Bool)
  | [] => some []
  | .bool i :: r => (bools? r).map (i :: ·)
  | _ => none
theorem ints_of {K : PySem.W.Frag} {H : Hp} : ∀ {ds : List D} {vs : List V} {ns : List Int}, DpAll K H vs ds → ints? ds = some ns → vs = ns.map V.int ∧ ds = ns.map PyData.int
  | [], _, ns, h, e => by
    cases h
    cases e
    exact ⟨rfl, rfl⟩
  | d :: r, _, ns, h, e => by
    cases h with
    | cons h1 h2 =>
      cases d with
      | int i =>
        have e : (ints? r).map (i :: ·) = some ns := e
        cases e2 : ints? r with
        | none => rw [e2] at e; cases e
        | some ms =>
          rw [e2] at e
          cases e
          obtain ⟨q1, q2⟩ := ints_of h2 e2
          cases h1
          exact ⟨by rw [q1]; rfl, by rw [q2]; rfl⟩
      | _ => cases e
theorem bools_of {K : PySem.W.Frag} {H : Hp} : ∀ {ds : List D} {vs : List V} {ns : List Bool}, DpAll K H vs ds → bools? ds = some ns → vs = ns.map V.bl
  | [], _, ns, h, e => by
    cases h
    cases e
    rfl
  | d :: r, _, ns, h, e => by
    cases h with
    | cons h1 h2 =>
      cases d with
      | bool i =>
        have e : (bools? r).map (i :: ·) = some ns := e
        cases e2 : bools? r with
        | none => rw [e2] at e; cases e
        | some ms =>
          rw [e2] at e
          cases e
          have q1 := bools_of h2 e2
          cases h1
          rw [q1]
          rfl
      | _ => cases e
/-! all, any -/
def allV : List D → Option D
  | [.list xs] => (bools? xs).map fun bs => .bool (bs.all id)
  | _ => none
def anyV : List D → Option D
  | [.list xs] => (bools? xs).map fun bs => .bool (bs.any id)
  | _ => none
theorem t_all (hc : X.calm = true) (hm : X.mg "all" = none) (ha : TAs X W (vO X.K) [e] Fs) (hgl : Gl X "all" := by rfl) (he : starEach [e] X.env = (false, eval e X.env) :: starEach [] X.env := by rfl) (hpl : (backTo pos (starEach [] X.env)).any (·.1) = false := by rfl) :
    TD X W (.Call (.Name "all" p) [e] [] pos) (eN allV Fs) := t_callB back_D (cr_all hc) (fun H A vs ds d Q hA h e k => by
  unfold allV at e
  split at e
  · rename_i xs
    cases e2 : bools? xs with
    | none => rw [e2] at e; cases e
    | some bs =>
      rw [e2] at e
      cases e
      obtain ⟨v, rfl, q⟩ := all1 h
      obtain ⟨l, ws, rfl, h1, q1⟩ := rO_list q
      rw [bools_of q1 e2] at h1
      exact ⟨l, bs, rfl, h1, k _ H (Same.refl _) (.bl _)⟩
  · cases e) hgl hm (by decide +kernel) ha (he := he) (hpl := hpl)
theorem t_any (hc : X.calm = true) (hm : X.mg "any" = none) (ha : TAs X W (vO X.K) [e] Fs) (hgl : Gl X "any" := by rfl) (he : starEach [e] X.env = (false, eval e X.env) :: starEach [] X.env := by rfl) (hpl : (backTo pos (starEach [] X.env)).any (·.1) = false := by rfl) :
    TD X W (.Call (.Name "any" p) [e] [] pos) (eN anyV Fs) := t_callB back_D (cr_any hc) (fun H A vs ds d Q hA h e k => by
  unfold anyV at e
  split at e
  · rename_i xs
    cases e2 : bools? xs with
    | none => rw [e2] at e; cases e
    | some bs =>
      rw [e2] at e
      cases e
      obtain ⟨v, rfl, q⟩ := all1 h
      obtain ⟨l, ws, rfl, h1, q1⟩ := rO_list q
      rw [bools_of q1 e2] at h1
      exact ⟨l, bs, rfl, h1, k _ H (Same.refl _) (.bl _)⟩
  · cases e) hgl hm (by decide +kernel) ha (he := he) (hpl := hpl)
/-! sorted of ints -/
def ins1 (x : Int) : List Int → List Int
  | [] => [x]
  | y :: r => if x ≤ y then x :: y :: r else y :: ins1 x r
def isort : List Int → List Int
  | [] => []
  | x :: r => ins1 x (isort r)
theorem ins1_perm (x : Int) : ∀ l, (ins1 x l).Perm (x :: l)
  | [] => .refl _
  | y :: r => by
    unfold ins1
    split
    · exact .refl _
    · exact (List.Perm.cons y (ins1_perm x r)).trans (List.Perm.swap x y r)
theorem isort_perm : ∀ l, (isort l).Perm l
  | [] => .refl _
  | x :: r => (ins1_perm x (isort r)).trans (List.Perm.cons x (isort_perm r))
theorem ins1_sorted (x : Int) : ∀ l : List Int, l.Pairwise (· ≤ ·) → (ins1 x l).Pairwise (· ≤ ·)
  | [], _ => by unfold ins1; exact List.pairwise_singleton _ _
  | y :: r, h => by
    rw [List.pairwise_cons] at h
    unfold ins1
    split
    · rename_i hxy
      refine List.pairwise_cons.mpr ⟨fun z m => ?_, List.pairwise_cons.mpr h⟩
      rcases List.mem_cons.mp m with rfl | m
      · exact hxy
      · exact Int.le_trans hxy (h.1 z m)
    · rename_i hxy
      refine List.pairwise_cons.mpr ⟨fun z m => ?_, ins1_sorted x r h.2⟩
      rcases List.mem_cons.mp ((ins1_perm x r).mem_iff.mp m) with rfl | m
      · omega
      · exact h.1 z m
theorem isort_sorted : ∀ l, (isort l).Pairwise (· ≤ ·)
  | [] => List.Pairwise.nil
  | x :: r => ins1_sorted x _ (isort_sorted r)
theorem sorted_unique : ∀ {l m : List Int}, l.Perm m → l.Pairwise (· ≤ ·) → m.Pairwise (· ≤ ·) → l = m
  | [], m, p, _, _ => (List.Perm.nil_eq p)
  | x :: l, [], p, _, _ => (List.Perm.eq_nil p)
  | x :: l, y :: m, p, h1, h2 => by
    rw [List.pairwise_cons] at h1 h2
    have e : x = y := by
      have m1 : x ∈ y :: m := p.mem_iff.mp List.mem_cons_self
      have m2 : y ∈ x :: l := p.mem_iff.mpr List.mem_cons_self
      rcases List.mem_cons.mp m1 with e | m1
      · exact e
      · rcases List.mem_cons.mp m2 with e | m2
        · exact e.symm
        · have := h1.1 y m2
          have := h2.1 x m1
          omega
    subst e
    rw [sorted_unique (List.Perm.cons_inv p) h1.2 h2.2]
def sortIV : List D → Option D
  | [.list xs] => (ints? xs).map fun ns => .list ((isort ns).map PyData.int)
  | _ => none
theorem t_sortI (hm : X.mg "sorted" = none) (ha : TAs X W (vO X.K) [e] Fs) (hgl : Gl X "sorted" := by rfl) (he : starEach [e] X.env = (false, eval e X.env) :: starEach [] X.env := by rfl) (hpl : (backTo pos (starEach [] X.env)).any (·.1) = false := by rfl) :
    TF X W (.Call (.Name "sorted" p) [e] [] pos) (eN sortIV Fs) := t_callB back_F cr_sortedI (fun H A vs ds d Q hA h e k => by
  unfold sortIV at e
  split at e
  · rename_i xs
    cases e2 : ints? xs with
    | none => rw [e2] at e; cases e
    | some bs =>
      rw [e2] at e
      cases e
      obtain ⟨v, rfl, q⟩ := all1 h
      obtain ⟨l, ws, rfl, h1, q1⟩ := rO_list q
      rw [(ints_of q1 e2).1] at h1
      refine ⟨l, bs, rfl, h1, fun ns' t pm so ht => ?_⟩
      have en : ns' = isort bs := sorted_unique (pm.trans (isort_perm bs).symm) so (isort_sorted bs)
      subst en
      exact k _ _ (same_new ht) (dp_new_list hA ht (DpAll_ints _))
  · cases e) hgl hm (by decide +kernel) ha (he := he) (hpl := hpl)
/-! max, min, sum, abs -/
def maxI : List Int → Int
  | [] => 0
  | [x] => x
  | x :: r => if maxI r < x then x else maxI r
def minI : List Int → Int
  | [] => 0
  | [x] => x
  | x :: r => if x < minI r then x else minI r
theorem maxI_is : ∀ (l : List Int) (m : Int), m ∈ l → (∀ y ∈ l, y ≤ m) → m = maxI l
  | [], m, h, _ => by simp at h
  | [x], m, h, _ => by simpa [maxI] using h
  | x :: y :: r, m, h, hm => by
    have mx : maxI (y :: r) ∈ y :: r ∧ ∀ z ∈ y :: r, z ≤ maxI (y :: r) := by
      have key : ∀ l : List Int, l ≠ [] → maxI l ∈ l ∧ ∀ z ∈ l, z ≤ maxI l := by
        intro l
        induction l with
        | nil => exact fun q => absurd rfl q
        | cons a t ih =>
          intro _
          cases t with
          | nil => simp [maxI]
          | cons b t =>
            obtain ⟨i1, i2⟩ := ih (by simp)
            show (if maxI (b :: t) < a then a else maxI (b :: t)) ∈ _ ∧ ∀ z ∈ _, z ≤ (if maxI (b :: t) < a then a else maxI (b :: t))
            split
            · refine ⟨List.mem_cons_self, fun z hz => ?_⟩
              rcases List.mem_cons.mp hz with rfl | hz
              · exact Int.le_refl _
              · have := i2 z hz; omega
            · refine ⟨List.mem_cons_of_mem _ i1, fun z hz => ?_⟩
              rcases List.mem_cons.mp hz with rfl | hz
              · omega
              · exact i2 z hz
      exact key _ (by simp)
    show m = if maxI (y :: r) < x then x else maxI (y :: r)
    have q1 := hm x List.mem_cons_self
    have q2 := hm _ (List.mem_cons_of_mem _ mx.1)
    split
    · rcases List.mem_cons.mp h with rfl | h
      · rfl
      · have := mx.2 m h; omega
    · rcases List.mem_cons.mp h with rfl | h
      · omega
      · have := mx.2 m h; omega
theorem minI_is : ∀ (l : List Int) (m : Int), m ∈ l → (∀ y ∈ l, m ≤ y) → m = minI l
  | [], m, h, _ => by simp at h
  | [x], m, h, _ => by simpa [minI] using h
  | x :: y :: r, m, h, hm => by
    have mx : minI (y :: r) ∈ y :: r ∧ ∀ z ∈ y :: r, minI (y :: r) ≤ z := by
      have key : ∀ l : List Int, l ≠ [] → minI l ∈ l ∧ ∀ z ∈ l, minI l ≤ z := by
        intro l
        induction l with
        | nil => exact fun q => absurd rfl q
        | cons a t ih =>
          intro _
          cases t with
          | nil => simp [minI]
          | cons b t =>
            obtain ⟨i1, i2⟩ := ih (by simp)
            show (if a < minI (b :: t) then a else minI (b :: t)) ∈ _ ∧ ∀ z ∈ _, (if a < minI (b :: t) then a else minI (b :: t)) ≤ z
            split
            · refine ⟨List.mem_cons_self, fun z hz => ?_⟩
              rcases List.mem_cons.mp hz with rfl | hz
              · exact Int.le_refl _
              · have := i2 z hz; omega
            · refine ⟨List.mem_cons_of_mem _ i1, fun z hz => ?_⟩
              rcases List.mem_cons.mp hz with rfl | hz
              · omega
              · exact i2 z hz
      exact key _ (by simp)
    show m = if x < minI (y :: r) then x else minI (y :: r)
    have q1 := hm x List.mem_cons_self
    have q2 := hm _ (List.mem_cons_of_mem _ mx.1)
    split
    · rcases List.mem_cons.mp h with rfl | h
      · rfl
      · have := mx.2 m h; omega
    · rcases List.mem_cons.mp h with rfl | h
      · omega
      · have := mx.2 m h; omega
def maxV : List D → Option D
  | [.int i, .int j] => some (.int (if j > i then j else i))
  | [.list xs] => (ints? xs).bind fun ns => if 0 < ns.length then some (.int (maxI ns)) else none
  | _ => none
def minV : List D → Option D
  | [.int i, .int j] => some (.int (if j < i then j else i))
  | [.list xs] => (ints? xs).bind fun ns => if 0 < ns.length then some (.int (minI ns)) else none
  | _ => none
def rMaxA (K : PySem.W.Frag) : List V → Hp → VK → Prop := fun xs H Q => (∃ i j, xs = [.int i, .int j] ∧ Q (.int (if j > i then j else i)) H) ∨ rMax K xs H Q
def rMinA (K : PySem.W.Frag) : List V → Hp → VK → Prop := fun xs H Q => (∃ i j, xs = [.int i, .int j] ∧ Q (.int (if j < i then j else i)) H) ∨ rMin K xs H Q
theorem t_max {es : List Expr} (hc : X.calm = true) (hm : X.mg "max" = none) (ha : TAs X W (vO X.K) (e :: es) Fs) (hgl : Gl X "max" := by rfl) (he : starEach (e :: es) X.env = (false, eval e X.env) :: starEach es X.env := by rfl) (hpl : (backTo pos (starEach es X.env)).any (·.1) = false := by rfl) :
    TD X W (.Call (.Name "max" p) (e :: es) [] pos) (eN maxV Fs) := t_callB (r := rMaxA X.K) back_D (fun pins s σ H xs us Q I r h => h.elim (call_max2 hc pins s σ H xs us Q I r) (cr_max hc pins s σ H xs us Q I r)) (fun H A vs ds d Q hA h e k => by
  unfold maxV at e
  split at e
  · have e := Option.some.inj e
    subst e
    obtain ⟨v, w, rfl, q1, q2⟩ := all2 h
    exact .inl ⟨_, _, by rw [rO_int q1, rO_int q2], k _ H (Same.refl _) (.int _)⟩
  · rename_i xs
    cases e2 : ints? xs with
    | none => rw [e2] at e; cases e
    | some ns =>
      rw [e2] at e
      have e : (if 0 < ns.length then some (PyData.int (maxI ns)) else none) = some d := e
      split at e
      · rename_i hl
        cases e
        obtain ⟨v, rfl, q⟩ := all1 h
        obtain ⟨l, ws, rfl, h1, q1⟩ := rO_list q
        rw [(ints_of q1 e2).1] at h1
        refine .inr ⟨l, ns, rfl, h1, hl, fun m h3 h4 => ?_⟩
        rw [maxI_is ns m h3 h4]
        exact k _ H (Same.refl _) (.int _)
      · cases e
  · cases e) hgl hm (by decide +kernel) ha (he := he) (hpl := hpl)
theorem t_min {es : List Expr} (hc : X.calm = true) (hm : X.mg "min" = none) (ha : TAs X W (vO X.K) (e :: es) Fs) (hgl : Gl X "min" := by rfl) (he : starEach (e :: es) X.env = (false, eval e X.env) :: starEach es X.env := by rfl) (hpl : (backTo pos (starEach es X.env)).any (·.1) = false := by rfl) :
    TD X W (.Call (.Name "min" p) (e :: es) [] pos) (eN minV Fs) := t_callB (r := rMinA X.K) back_D (fun pins s σ H xs us Q I r h => h.elim (call_min2 hc pins s σ H xs us Q I r) (cr_min hc pins s σ H xs us Q I r)) (fun H A vs ds d Q hA h e k => by
  unfold minV at e
  split at e
  · have e := Option.some.inj e
    subst e
    obtain ⟨v, w, rfl, q1, q2⟩ := all2 h
    exact .inl ⟨_, _, by rw [rO_int q1, rO_int q2], k _ H (Same.refl _) (.int _)⟩
  · rename_i xs
    cases e2 : ints? xs with
    | none => rw [e2] at e; cases e
    | some ns =>
      rw [e2] at e
      have e : (if 0 < ns.length then some (PyData.int (minI ns)) else none) = some d := e
      split at e
      · rename_i hl
        cases e
        obtain ⟨v, rfl, q⟩ := all1 h
        obtain ⟨l, ws, rfl, h1, q1⟩ := rO_list q
        rw [(ints_of q1 e2).1] at h1
        refine .inr ⟨l, ns, rfl, h1, hl, fun m h3 h4 => ?_⟩
        rw [minI_is ns m h3 h4]
        exact k _ H (Same.refl _) (.int _)
      · cases e
  · cases e) hgl hm (by decide +kernel) ha (he := he) (hpl := hpl)
def absV' : List D → Option D
  | [.int i] => some (.int (if i < 0 then -i else i))
  | _ => none
theorem t_abs (hm : X.mg "abs" = none) (ha : TAs X W (vO X.K) [e] Fs) (hgl : Gl X "abs" := by rfl) (he : starEach [e] X.env = (false, eval e X.env) :: starEach [] X.env := by rfl) (hpl : (backTo pos (starEach [] X.env)).any (·.1) = false := by rfl) :
    TD X W (.Call (.Name "abs" p) [e] [] pos) (eN absV' Fs) := t_callB back_D call_abs (fun H A vs ds d Q hA h e k => by
  unfold absV' at e
  split at e
  · have e := Option.some.inj e
    subst e
    obtain ⟨v, rfl, q⟩ := all1 h
    exact ⟨_, by rw [rO_int q], k _ H (Same.refl _) (.int _)⟩
  · cases e) hgl hm (by decide +kernel) ha (he := he) (hpl := hpl)
/-! isinstance of data by a built-in class -/
def tyN : D → String
  | .none => "NoneType"
  | .bool _ => "bool"
  | .int _ => "int"
  | .str _ => "str"
  | .list _ => "list"
  | .tuple _ => "tuple"
  | .dict _ => "dict"
theorem tyX_of {K : PySem.W.Frag} {H : Hp} {v : V} {d : D} (h : Dp K H v d) : TyX K H v (.type (tyN d)) := by
  cases h with
  | non => exact .base .non
  | bl b => exact .base (.bl b)
  | int i => exact .base (.int i)
  | str x => exact .base (.str x)
  | lst h1 _ =>
    rcases h1 with (h1 | ⟨o, h1⟩) | ⟨o, its, n, h1, h2, _⟩
    · exact .base (.lst h1)
    · exact .base (.frz h1)
    · exact .kList h1 h2
  | tup h1 _ =>
    rcases h1 with (h1 | ⟨o, h1⟩) | ⟨o, its, n, h1, h2, _⟩
    · exact .base (.tup h1)
    · exact .fTuple h1
    · exact .kTuple h1 h2
def isiV (T : String) (d : D) : Option D := (kitB (tyN d) T).map .bool
theorem t_isi {T : String} {x : Str} {p2 : Pos} (hm : X.mg "isinstance" = none) (hmT : X.mg x = none) (hv : bootBuiltins x = some (.type T)) (ha : TO X W a Fa) (hgl : Gl X "isinstance" := by rfl) (hgT : Gl X x := by rfl) (hnT : x ≠ "__name__" := by decide) (hdT : (x == ("__debug__" : Str)) = false := by decide)
    (he : starEach [a, .Name x p2] X.env = (false, eval a X.env) :: starEach [.Name x p2] X.env := by rfl) (hpl : (backTo pos (starEach [.Name x p2] X.env)).any (·.1) = false := by rfl) : TD X W (.Call (.Name "isinstance" p) [a, .Name x p2] [] pos) (e1 (isiV T) Fa) :=
  peW (pe_callB call_isi hgl hm (by decide +kernel) (pa_cons ha (pa_cons (pe_bltn (v := .ty T) hgT hmT hv rfl hnT hdT) pa_nil) he) (he := he) (hpl := hpl)) fun σ H Q h => by
    have h2 := op1_t (r := fun x H Q => ∃ t b, TyX X.K H x t ∧ PySem.W.kitOne X.K t (.type T) = some b ∧ Q (.bl b) H) (g := isiV T) back_D (fun H A x a d Q hA q e k => by
      unfold isiV at e
      cases e2 : kitB (tyN a) T with
      | none => rw [e2] at e; cases e
      | some b =>
        rw [e2] at e
        cases e
        exact ⟨_, b, tyX_of (rO_dp q), kit_ty e2, k _ H (Same.refl _) (.bl _)⟩) h
    obtain ⟨η, A, E, q⟩ := h2
    refine (show tR X.K X.mg W (rO X.K) Fa σ H _ from ⟨η, A, E, ?_⟩)
    cases ef : Fa η with
    | ex c w z => rw [ef] at q; exact q
    | no => rw [ef] at q; exact q
    | ok d =>
      rw [ef] at q
      intro v H1 s1 qv
      obtain ⟨t, b, h1, h2, h3⟩ := q v H1 s1 qv
      exact ⟨v, .ty T, t, .type T, b, rfl, .ty T, h1, h2, h3⟩
end
end Bd
/-! D8: more that is walked; the law's own end. -/
namespace Bd
open PySem L2

section
variable {X : Cx} {W : WX} {rl : Rl} {a b c e tg iter : Expr} {Fa Fb F : Nv → R D} {Fs : Nv → R (List D)} {pos p : Pos} {es : List Expr}
def asSeq : D → R (List D)
  | .list xs => .ok xs
  | .tuple xs => .ok xs
  | _ => .no
def iA (F : Nv → R D) : Nv → R (List D) := fun η => (F η).bind asSeq
/-- a list or a tuple -/
theorem i_any (h : TD X W iter F) : TI' X W tg iter (iA F) := ⟨fun pins s σ H R I q => by
  obtain ⟨η, A, E, p0⟩ := q
  have p : PostI X.K X.mg W σ A H ((F η).bind asSeq) R := p0
  cases e1 : F η with
  | ex c w q =>
    rw [e1] at p
    exact (i_list (tg := tg) h).run pins s σ H R I ⟨η, A, E, by unfold iL; rw [e1]; exact p⟩
  | no => rw [e1] at p; exact False.elim p
  | ok d =>
    rw [e1] at p
    cases d with
    | list xs => exact (i_list (tg := tg) h).run pins s σ H R I ⟨η, A, E, by unfold iL; rw [e1]; exact p⟩
    | tuple xs => exact (i_tup (tg := tg) h).run pins s σ H R I ⟨η, A, E, by unfold iT; rw [e1]; exact p⟩
    | _ => exact False.elim p⟩
/-! zip of two lists, of two tuples -/
def zipD : List D → List D → List D
  | x :: xs, y :: ys => .tuple [x, y] :: zipD xs ys
  | _, _ => []
theorem zipD_get : ∀ (xs ys : List D) (i : Nat) (z : D), (zipD xs ys)[i]? = some z → ∃ x y, xs[i]? = some x ∧ ys[i]? = some y ∧ z = .tuple [x, y]
  | [], _, _, _, h => by simp [zipD] at h
  | _ :: _, [], _, _, h => by simp [zipD] at h
  | x :: xs, y :: ys, 0, z, h => by
    simp [zipD] at h
    exact ⟨x, y, rfl, rfl, h.symm⟩
  | x :: xs, y :: ys, i + 1, z, h => by
    obtain ⟨a, b, h1, h2, h3⟩ := zipD_get xs ys i z (by simpa [zipD] using h)
    exact ⟨a, b, by simpa using h1, by simpa using h2, h3⟩
theorem zipD_len : ∀ (xs ys : List D), (zipD xs ys).length = min xs.length ys.length
  | [], _ => by simp [zipD]
  | _ :: _, [] => by simp [zipD]
  | x :: xs, y :: ys => by
    show (zipD xs ys).length + 1 = _
    rw [zipD_len xs ys, List.length_cons, List.length_cons]
    omega
def zip2 : List D → R (List D)
  | [.list xs, .list ys] => .ok (zipD xs ys)
  | [.tuple xs, .tuple ys] => .ok (zipD xs ys)
  | _ => .no
def iZ (Fs : Nv → R (List D)) : Nv → R (List D) := fun η => (Fs η).bind zip2
theorem i_zip {elts : List Expr} {kk : Nat} {tpos : Pos} (hm : X.mg "zip" = none) (ha : TAs X W (vD X.K) [a, b] Fs) (hg : Gl X "zip" := by rfl) (hs : starEach [a, b] X.env = (false, eval a X.env) :: starEach [b] X.env := by rfl) (hpl : (backTo pos (starEach [b] X.env)).any (·.1) = false := by rfl) :
    TI' X W (.Tuple elts kk tpos) (.Call (.Name "zip" p) [a, b] [] pos) (iZ Fs) := piW (RZ.pi_zipA hg hm ha hs hpl) fun σ H Q ⟨η, A, E, p0⟩ => by
  have p : PostI X.K X.mg W σ A H ((Fs η).bind zip2) Q := p0
  refine (show tA X.K X.mg W (vD X.K) Fs σ H _ from ⟨η, A, E, ?_⟩)
  cases e1 : Fs η with
  | ex c w q => rw [e1] at p; exact p
  | no => rw [e1] at p; exact p
  | ok ds =>
    rw [e1] at p
    have p : PostI X.K X.mg W σ A H (zip2 ds) Q := p
    intro vs H1 s1 q1
    unfold zip2 at p
    split at p
    · rename_i xs ys
      obtain ⟨v, w, rfl, h1, h2⟩ := all2 q1
      cases h1 with
      | @lst l us _ l1 r1 =>
        cases h2 with
        | @lst l' ws _ l2 r2 =>
          refine ⟨l, l', us, ws, rfl, .inl ⟨(hid_le A H1).seq l1, (hid_le A H1).seq l2, p _ H1 s1 ⟨fun i x e A' H2 sh hA' => ?_, fun A' H2 sh => ?_⟩⟩⟩
          · obtain ⟨y, z, e1, e2, rfl⟩ := zipD_get _ _ i x e
            obtain ⟨u, f1, k1⟩ := DpAll_get r1 e1
            obtain ⟨t, f2, k2⟩ := DpAll_get r2 e2
            have m1 : SqL X.K H2 l us := (hid_le A' H2).seq (sh.seq l1)
            have m2 : SqL X.K H2 l' ws := (hid_le A' H2).seq (sh.seq l2)
            refine ⟨⟨us, ws, u, t, m1, m2, f1, f2⟩, fun v H3 yd => ?_⟩
            obtain ⟨T, u', t', rfl, nT, rfl, g1, g2⟩ := yd
            have c1 := g1 _ m1
            have c2 := g2 _ m2
            rw [f1] at c1
            rw [f2] at c2
            cases c1
            cases c2
            exact ⟨same_new nT, dp_new_tup hA' nT (.cons (Dp_mono k1 sh) (.cons (Dp_mono k2 sh) .nil))⟩
          · refine ⟨us, ws, (hid_le A' H2).seq (sh.seq l1), (hid_le A' H2).seq (sh.seq l2), ?_⟩
            rw [DpAll_length r1, DpAll_length r2, zipD_len]
            omega
    · rename_i xs ys
      obtain ⟨v, w, rfl, h1, h2⟩ := all2 q1
      cases h1 with
      | @tup l us _ l1 r1 =>
        cases h2 with
        | @tup l' ws _ l2 r2 =>
          refine ⟨l, l', us, ws, rfl, .inr ⟨sqT_same (hid_le A H1) l1, sqT_same (hid_le A H1) l2, p _ H1 s1 ⟨fun i x e A' H2 sh hA' => ?_, fun A' H2 sh => ?_⟩⟩⟩
          · obtain ⟨y, z, e1, e2, rfl⟩ := zipD_get _ _ i x e
            obtain ⟨u, f1, k1⟩ := DpAll_get r1 e1
            obtain ⟨t, f2, k2⟩ := DpAll_get r2 e2
            have m1 : SqT X.K H2 l us := sqT_same (hid_le A' H2) (sqT_same sh l1)
            have m2 : SqT X.K H2 l' ws := sqT_same (hid_le A' H2) (sqT_same sh l2)
            refine ⟨⟨us, ws, u, t, m1, m2, f1, f2⟩, fun v H3 yd => ?_⟩
            obtain ⟨T, u', t', rfl, nT, rfl, g1, g2⟩ := yd
            have c1 := g1 _ m1
            have c2 := g2 _ m2
            rw [f1] at c1
            rw [f2] at c2
            cases c1
            cases c2
            exact ⟨same_new nT, dp_new_tup hA' nT (.cons (Dp_mono k1 sh) (.cons (Dp_mono k2 sh) .nil))⟩
          · refine ⟨us, ws, sqT_same (hid_le A' H2) (sqT_same sh l1), sqT_same (hid_le A' H2) (sqT_same sh l2), ?_⟩
            rw [DpAll_length r1, DpAll_length r2, zipD_len]
            omega
    · exact False.elim p
/-! enumerate of a list -/
def enumD (k : Nat) : List D → List D
  | [] => []
  | x :: xs => .tuple [.int (k : Nat), x] :: enumD (k + 1) xs
theorem enumD_get : ∀ (k : Nat) (xs : List D) (i : Nat) (z : D), (enumD k xs)[i]? = some z → ∃ x, xs[i]? = some x ∧ z = .tuple [.int ((k + i : Nat) : Int), x]
  | _, [], _, _, h => by simp [enumD] at h
  | k, x :: xs, 0, z, h => by
    simp [enumD] at h
    exact ⟨x, rfl, h.symm⟩
  | k, x :: xs, i + 1, z, h => by
    obtain ⟨y, h1, h2⟩ := enumD_get (k + 1) xs i z (by simpa [enumD] using h)
    exact ⟨y, by simpa using h1, by rw [h2, show k + 1 + i = k + (i + 1) by omega]⟩
theorem enumD_len : ∀ (k : Nat) (xs : List D), (enumD k xs).length = xs.length
  | _, [] => rfl
  | k, x :: xs => by
    show (enumD (k + 1) xs).length + 1 = _
    rw [enumD_len (k + 1) xs]
    rfl
def enum1 : List D → R (List D)
  | [.list xs] => .ok (enumD 0 xs)
  | _ => .no
def iEn (Fs : Nv → R (List D)) : Nv → R (List D) := fun η => (Fs η).bind enum1
theorem i_enum {elts : List Expr} {kk : Nat} {tpos : Pos} (hm : X.mg "enumerate" = none) (ha : TAs X W (vD X.K) [e] Fs) (hg : Gl X "enumerate" := by rfl) (hs : starEach [e] X.env = [(false, eval e X.env)] := by rfl) :
    TI' X W (.Tuple elts kk tpos) (.Call (.Name "enumerate" p) [e] [] pos) (iEn Fs) := piW (pi_enum hg hm ha hs) fun σ H Q ⟨η, A, E, p0⟩ => by
  have p : PostI X.K X.mg W σ A H ((Fs η).bind enum1) Q := p0
  refine (show tA X.K X.mg W (vD X.K) Fs σ H _ from ⟨η, A, E, ?_⟩)
  cases e1 : Fs η with
  | ex c w q => rw [e1] at p; exact p
  | no => rw [e1] at p; exact p
  | ok ds =>
    rw [e1] at p
    have p : PostI X.K X.mg W σ A H (enum1 ds) Q := p
    intro vs H1 s1 q1
    unfold enum1 at p
    split at p
    · rename_i xs
      obtain ⟨v, rfl, h1⟩ := all1 q1
      cases h1 with
      | @lst l us _ l1 r1 =>
        refine ⟨l, us, rfl, (hid_le A H1).seq l1, p _ H1 s1 ⟨fun i x e A' H2 sh hA' => ?_, fun A' H2 sh => ?_⟩⟩
        · obtain ⟨y, e1, rfl⟩ := enumD_get 0 _ i x e
          obtain ⟨u, f1, k1⟩ := DpAll_get r1 e1
          have m1 : SqL X.K H2 l us := (hid_le A' H2).seq (sh.seq l1)
          refine ⟨⟨us, u, m1, f1⟩, fun v H3 yd => ?_⟩
          obtain ⟨T, u', rfl, nT, rfl, g1⟩ := yd
          have c1 := g1 _ m1
          rw [f1] at c1
          cases c1
          rw [Nat.zero_add]
          exact ⟨same_new nT, dp_new_tup hA' nT (.cons (.int _) (.cons (Dp_mono k1 sh) .nil))⟩
        · exact ⟨us, (hid_le A' H2).seq (sh.seq l1), by rw [DpAll_length r1, enumD_len]; exact Nat.le_refl _⟩
    · exact False.elim p
end

/-! ### the law's own end -/
theorem dp_script {K : PySem.W.Frag} {H : Hp} {a : Addr} {ns : List Int} (h : SqL K H a (ns.map V.int)) : DpAll K (hid [] H) [.ref a] [.list (ns.map PyData.int)] :=
  .cons (.lst (by
    have e : hid [] H = H := by
      funext b
      exact hid_out (List.not_mem_nil)
    rw [e]
    exact h) (DpAll_ints ns)) .nil
theorem law_end {P : Program} {w : World} {K : PySem.W.Frag} {mg mb : Str → Option Value} {k : Nat} {fa a : Addr} {fd : FuncData} {x : Str} {Fn : List D → R D} {s1 : Shared} {vs : List Value} {ns : List Int}
    (KX : K.In s1.heap) (hns : s1.heap.Ns mainGlobals mg) (hb : s1.heap.Ns builtinsNs mb) (hbb : ∀ x : Str, x ≠ "__name__" → mb x = bootBuiltins x) (hlim : s1.heap.NoLimit) (hg : s1.gens = #[])
    (ha : s1.heap.get? a = some { cls := .type "list", data := .seq vs.toArray }) (hi : PyProof.Rows.IntsAre vs ns) (hl : ns.length ≤ sizeLine) (hr : Room k callerA)
    (F : ∀ base : Heap, K.In base → base.Ns mainGlobals mg → FnG P w K mg base k fa fd [x] (spD K mg (rD K) 1 Fn)) (hbind : ∀ (s : Shared) (u : Value), BindsTo s fd ⟨[u], []⟩ [(x, u)]) (ht : Fn [.list (ns.map PyData.int)] = .ok (.bool true)) :
    codeAny (model P w) callerA (.call (.ref fa) ⟨[.ref a], []⟩) (fun r s' => r = .ok (.ret (.bool true)) ∧ OldK s1.heap s'.heap ∧ s'.os = s1.os ∧ PyProof.Rows.AllBare s'.gens) s1 := by
  have rel := vals_ints hi
  have lenV := hi.length
  -- the abstract heap: the script, locked, unless the module itself holds it
  have main : ∀ T : Hp, (∀ b, T b = none ∨ (b = a ∧ K.lookup a = none ∧ T b = some (.frz { cls := .type "list", data := .seq vs.toArray } (.lst (ns.map V.int))))) → SqL K T a (ns.map V.int) →
      codeAny (model P w) callerA (.call (.ref fa) ⟨[.ref a], []⟩) (fun r s' => r = .ok (.ret (.bool true)) ∧ OldK s1.heap s'.heap ∧ s'.os = s1.os ∧ PyProof.Rows.AllBare s'.gens) s1 := by
    intro T hT hS
    have free : ∀ {b : Addr} {o : Obj}, K.lookup b = some o → T b = none := fun {b o} e => by
      rcases hT b with z | ⟨rfl, z, _⟩
      · exact z
      · rw [z] at e; cases e
    have nsfree : ∀ {b : Addr} {m : Str → Option Value}, s1.heap.Ns b m → (hidT s1.heap T).Ns b m := fun {b m} ⟨o, es, ep, e, d, r⟩ => by
      refine ⟨o, es, ep, hidT_get e ?_, d, r⟩
      rcases hT b with z | ⟨rfl, _, z⟩
      · exact z
      · rw [ha] at e
        cases e
        exact nomatch (show Data.seq vs.toArray _ = Data.dict es ep from d)
    have kin : K.In (hidT s1.heap T) := fun b o e => hidT_get (KX b o e) (free e)
    have hM : Mod K mg (hidT s1.heap T) := ⟨kin, nsfree hns, ⟨mb, nsfree hb, hbb⟩, hlim.elim fun m z => ⟨m, nsfree z.1, z.2⟩⟩
    have hok : HOk P w T s1.heap := fun b o z => by
      rcases hT b with q | ⟨rfl, _, q⟩
      · rw [q] at z; cases z
      · rw [q] at z
        cases z
        exact ⟨ha, by rw [List.length_map]; exact hl, vs, _, rel, ha⟩
    have e0 : Env0 P w K mg (hidT s1.heap T) callerA [] s1 T := ⟨rfl, hM, fun b o e => of_hidT e, Nat.le_of_eq (hidT_size _ _), trivial, fun b z => absurd (show b ∈ ([] : List Addr) from z) List.not_mem_nil, hok, .of_eq hg⟩
    refine codeAny_mono ((F _ kin (nsfree hns)).run callerA [] s1 T ⟨[.ref a], []⟩ [.ref a] [.ref a] (fun v _ => v = .bl true) (fun _ _ _ => False) hr rfl e0 (hbind s1 (.ref a)) (.cons rfl .nil) ?_) fun r s2 out => ?_
    · exact ⟨_, [], rfl, fun p z => (List.not_mem_nil z).elim, dp_script hS, by
        rw [ht]
        exact fun v H' _ q => by
          cases (show Dp K (hid [] H') v (.bool true) from q)
          rfl⟩
    · match r, out with
      | .error e, out =>
        obtain ⟨_, _, _, _, _, _, _, _, _, _, _, _, z⟩ := out
        exact z.elim
      | .ok .next, out => exact out.elim
      | .ok .brk, out => exact out.elim
      | .ok .cont, out => exact out.elim
      | .ok (.ret u), out =>
        obtain ⟨v, T2, os, bare, un, hok2, rv, q⟩ := out
        have q : v = .bl true := q
        subst q
        cases (show u = Value.bool true from rv)
        refine ⟨rfl, OldK.of_keep fun b o e => ?_, os, bare⟩
        rcases hT b with z | ⟨rfl, _, z⟩
        · exact un.keep b o e z (fun m => absurd (show b ∈ ([] : List Addr) from m) List.not_mem_nil) List.not_mem_nil
        · have z2 := un.frzs b _ _ z
          obtain ⟨f2, _⟩ := hok2 b _ z2
          obtain ⟨f1, _⟩ := hok b _ z
          rw [e] at f1
          cases f1
          exact f2
  cases hk : K.lookup a with
  | some o =>
    have e := KX a o hk
    rw [ha] at e
    cases e
    exact main (fun _ => none) (fun _ => .inl rfl) (.inr ⟨_, vs.toArray, _, hk, rfl, rfl, rfl, by rw [List.size_toArray, lenV]; exact hl, by simpa using rel⟩)
  | none =>
    refine main (fun b => if b = a then some (.frz { cls := .type "list", data := .seq vs.toArray } (.lst (ns.map V.int))) else none) (fun b => ?_) (.inl (.inr ⟨_, if_pos rfl⟩))
    by_cases hba : b = a
    · exact .inr ⟨hba, hk, if_pos hba⟩
    · exact .inl (if_neg hba)
/-- what k_head leaves, from the law's promise by data -/
theorem walk_end {l : PySem.W.OpenLaw} {n k : Nat} {q : Program} {loose : List Str} {XP : (Str → Option Value) → Heap → Prop} {YP : World → Heap → Prop} {d : DefRec} {K : Params → PySem.W.Frag} {x : Str} {Fn : List D → R D}
    (hn : l.most = some n) (hn2 : n ≤ sizeLine) (hdf : d.params.defaults = []) (hr : Room k callerA) (hY : ∀ (w : World) (h : Heap), YP w h → (K w.params).In h)
    (F : ∀ (w : World) (mg : Str → Option Value) (fa : Addr) (h : Heap), (K w.params).In h → h.Ns mainGlobals mg → mg d.name = some (.ref fa) → ∃ fd : FuncData, (∀ (s : Shared) (u : Value), BindsTo s fd ⟨[u], []⟩ [(x, u)]) ∧
      ∀ base : Heap, (K w.params).In base → base.Ns mainGlobals mg → FnG l.prog w (K w.params) mg base k fa fd [x] (spD (K w.params) mg (rD (K w.params)) 1 Fn))
    (ht : ∀ ns : List Int, ns.length ≤ n → Fn [.list (ns.map PyData.int)] = .ok (.bool true)) : PySem.W.WalkO q loose XP YP l.row.toRowW d [] (fun f vs => PySem.call f vs) := by
  refine Att.attach_call hn hdf fun w s0 s1 mg mb fa o pm cd doc a vs ns G Y ho hd hcd hmg hobj hints hlen hg => ?_
  obtain ⟨fd, hb, hF⟩ := F w mg fa _ (hY w _ Y) G.T.g hmg
  exact law_end (hY w _ Y) G.T.g G.T.b G.T.builtins G.T.nolimit hg hobj hints (Nat.le_trans hlen hn2) hr hF hb (ht ns hlen)
end Bd
/-! D9: reversed ranges; slices with a step. -/
namespace Bd
open PySem L2

section
variable {X : Cx} {W : WX} {rl : Rl} {a b c e tg iter : Expr} {Fa Fb F : Nv → R D} {Fs : Nv → R (List D)} {pos p p2 : Pos} {es : List Expr}
/-! for k in reversed(range(n)) -/
def rrD (n : Nat) : List D := (List.range n).map fun i => PyData.int ((n : Int) - 1 - (i : Nat))
def rr1 : D → R (List D)
  | .int n => if -(2 ^ 62) ≤ n ∧ n < 2 ^ 62 then .ok (rrD n.toNat) else .no
  | _ => .no
def iRR (F : Nv → R D) : Nv → R (List D) := fun η => (F η).bind rr1
theorem walks_rr {K : PySem.W.Frag} {H1 : Hp} {A : List Addr} {lo : Int} {n : Nat} (h : lo = (n : Int) - 1) : Walks K (Itc lo (-1) n) H1 A (rrD n) where
  step := fun i x e A' H2 s _ => by
    unfold rrD at e
    rw [List.getElem?_map] at e
    by_cases hi : i < n
    · rw [List.getElem?_range hi] at e
      cases e
      refine ⟨hi, fun u H3 y => ?_⟩
      obtain ⟨rfl, rfl⟩ := y
      refine ⟨Same.refl _, ?_⟩
      have e2 : lo + (i : Nat) * (-1) = (n : Int) - 1 - (i : Nat) := by rw [h]; omega
      rw [e2]
      exact .int _
    · rw [List.getElem?_eq_none (by simp; omega)] at e
      cases e
  stop := fun A' H2 s => by
    unfold rrD
    rw [List.length_map, List.length_range]
    exact Nat.le_refl _
theorem i_revR (hm : X.mg "reversed" = none) (hm2 : X.mg "range" = none) (ha : TO X W a Fa) (hg : Gl X "reversed" := by rfl) (hg2 : Gl X "range" := by rfl) (na : starEach [a] X.env = (false, eval a X.env) :: starEach [] X.env := by rfl)
    (hs : starEach [.Call (.Name "range" p2) [a] [] pos] X.env = (false, eval (.Call (.Name "range" p2) [a] [] pos) X.env) :: starEach [] X.env := by rfl) {q : Pos} {q2 : Pos} : TI' X W tg (.Call (.Name "reversed" q) [.Call (.Name "range" p2) [a] [] pos] [] q2) (iRR Fa) :=
  piW (pi_revR hg hm (prg_1 hg2 hm2 ha na) hs) fun σ H Q ⟨η, A, E, p0⟩ => by
    have p : PostI X.K X.mg W σ A H ((Fa η).bind rr1) Q := p0
    refine (show tR X.K X.mg W (rO X.K) Fa σ H _ from ⟨η, A, E, ?_⟩)
    cases e1 : Fa η with
    | ex c w q => rw [e1] at p; exact p
    | no => rw [e1] at p; exact p
    | ok d =>
      rw [e1] at p
      intro v H1 s1 q1
      cases d with
      | int n =>
        have p : PostI X.K X.mg W σ A H (if -(2 ^ 62) ≤ n ∧ n < 2 ^ 62 then .ok (rrD n.toNat) else .no) Q := p
        split at p
        · rename_i hb
          have e0 : n - 0 = n := by omega
          refine ⟨n, rO_int q1, by decide, by decide, hb.1, hb.2, ?_⟩
          rw [e0]
          exact p _ H1 s1 (walks_rr (by omega))
        · exact False.elim p
      | _ => exact False.elim p
/-! [::-1] -/
section
variable {prog : Program} {w : World} {A : Around} {E : Value → Shared → Prop} {s : Shared}
theorem part_back {v : Value} {t : Tok} {Q : Option Int → Shared → Prop} (e : v = .int (-1) t) (h : Q (some (-1)) s) : wpAny (model prog w) A (Builtin.Slice.slicePartIndex v) Q E s := by
  subst e
  exact HT.slicePart_ (.int (-1) t) h
theorem back_adjust (n : Nat) : Builtin.Slice.sliceAdjust none none (-1) (n : Int) = ((n : Int) - 1, -1) := by
  unfold Builtin.Slice.sliceAdjust
  rfl
theorem back_places (n : Nat) : Builtin.Slice.slicePlaces ((n : Int) - 1) (-1) (-1) = n := by
  unfold Builtin.Slice.slicePlaces
  have h1 : ¬ ((-1 : Int) > 0) := by omega
  simp only [h1, if_false, Int.neg_neg, Int.ediv_one]
  split <;> omega
theorem back_pick (xs : Array Value) : ((List.range xs.size).filterMap fun (m : Nat) => xs[((xs.size : Int) - 1 + (m : Int) * (-1)).toNat]?) = xs.toList.reverse := by
  have e : ∀ l : List Nat, (l.filterMap fun (m : Nat) => xs[((xs.size : Int) - 1 + (m : Int) * (-1)).toNat]?) = (l.map fun k => xs.size - 1 - k).filterMap (xs[·]?) := by
    intro l
    induction l with
    | nil => rfl
    | cons m r ih =>
      have : ((xs.size : Int) - 1 + (m : Int) * (-1)).toNat = xs.size - 1 - m := by omega
      rw [List.map_cons, List.filterMap_cons, List.filterMap_cons, ih, this]
  rw [e, PySem.W.krv_range, List.filterMap_reverse, PySem.W.krv_all]
theorem tuple_back {t sl : Addr} {items : Array Value} {u : Tok} {Q : Value → Shared → Prop} (ht : PyProof.Rows.IsTup s.heap t items) (hs : s.heap.IsSliceOf sl .none .none (.int (-1) u))
    (h : Q (.ref s.heap.objs.size) { s with heap := s.heap.push { cls := .type "tuple", data := .seq items.toList.reverse.toArray } }) (hsz : items.size ≤ sizeLine) : wpAny (model prog w) A (getItem (.ref t) (.ref sl)) Q E s := by
  have fits : sizeOk (.seq items.toList.reverse.toArray) := by
    show items.toList.reverse.toArray.size ≤ sizeLine
    simpa using hsz
  obtain ⟨os, hos, hcs, hds⟩ := id hs
  have tyS : s.TypeIs (.ref sl) "slice" := ⟨os, hos, hcs⟩
  unfold getItem
  try with_reducible refine wpAny_holding ?_
  first | refine wpAny_bind (wpAny_pure ?_) | skip
  refine wpAny_bind (wpAny_sequenceKey ht.typeIs (by decide) ?_)
  refine wpAny_bind (wpAny_callSpecial?_slot (name := Str.ofString "__getitem__") ht.typeIs PyProof.Rows.slot_tuple_getitem (wpAny_call_entry PyProof.Rows.slot_tuple_getitem ht.typeIs PyProof.Rows.entry_tuple_getitem ?_ (PyProof.Rows.args_tuple_getitem _ _)))
  refine wpAny_bind (m := Builtin.Tuple.tupleItemsOf (.ref t)) (PyProof.Rows.tupleItemsOf_ ht ?_)
  refine wpAny_bind (wpAny_typeOf tyS ?_)
  rw [if_pos (by decide)]
  have app : ∀ {R1 : Int × Int × Nat → Shared → Prop}, R1 ((items.size : Int) - 1, -1, items.size) s → wpAny (model prog w) A.in1 (Builtin.Slice.sliceApplied (.ref sl) (pure (items.size : Int))) R1 (fun _ _ => False) s := fun {R1} r => by
    unfold Builtin.Slice.sliceApplied Builtin.Slice.sliceFields
    refine wpAny_bind (wpAny_bind (wpAny_field hos hds (x := Value.none) rfl (wpAny_bind (wpAny_field hos hds (x := Value.none) rfl (wpAny_bind (wpAny_field hos hds (x := .int (-1) u) rfl (wpAny_pure ?_)))))))
    refine wpAny_bind (part_back rfl ?_)
    show wpAny _ _ (if ((-1 : Int) == 0) = true then _ else _) _ _ s
    rw [if_neg (show ¬ (((-1 : Int) == 0) = true) by decide)]
    refine wpAny_bind (HT.slicePart_ .none (wpAny_bind (HT.slicePart_ .none (wpAny_bind (wpAny_pure ?_)))))
    show wpAny _ _ (match Builtin.Slice.sliceAdjust none none (-1) (items.size : Int) with | (lo, hi) => pure (lo, (-1 : Int), Builtin.Slice.slicePlaces lo hi (-1))) _ _ s
    rw [back_adjust items.size]
    show wpAny _ _ (pure ((items.size : Int) - 1, (-1 : Int), Builtin.Slice.slicePlaces ((items.size : Int) - 1) (-1) (-1))) _ _ s
    rw [back_places]
    exact wpAny_pure r
  refine wpAny_bind (wpAny_mono (app (R1 := fun x s2 => x = ((items.size : Int) - 1, -1, items.size) ∧ s2 = s) ⟨rfl, rfl⟩) (fun x s2 z => ?_) fun _ _ z => z.elim)
  obtain ⟨rfl, rfl⟩ := z
  have no : ¬ (((items.size : Int) - 1 == 0 && (-1 : Int) == 1 && items.size == items.size) = true) := by
    have q : ((-1 : Int) == 1) = false := by decide
    rw [q, Bool.and_false, Bool.false_and]
    exact Bool.false_ne_true
  show wpAny _ _ (if (((items.size : Int) - 1 == 0 && (-1 : Int) == 1 && items.size == items.size) = true) then _ else _) _ _ s2
  rw [if_neg no, back_pick]
  first
    | exact wpAny_bind (m := Builtin.Tuple.tupleExact _) (wpAny_newObj_type (wpAny_pure ⟨_, rfl, wpAny_pure h⟩) fits)
    | exact wpAny_bind (m := Builtin.Tuple.tupleExact _) (wpAny_newObj_type (wpAny_bind (wpAny_pure (wpAny_pure ⟨_, rfl, wpAny_pure h⟩))) fits)
    | exact wpAny_bind (wpAny_bind (m := Builtin.Tuple.tupleExact _) (wpAny_newObj_type (wpAny_pure (wpAny_pure ⟨_, rfl, wpAny_pure h⟩)) fits))
end
/-- a list or a tuple, from its end -/
def revV : D → Option D
  | .list xs => some (.list xs.reverse)
  | .tuple xs => some (.tuple xs.reverse)
  | _ => none
def tRevT (K : PySem.W.Frag) (te : TE) : TE := fun σ H Q => te σ H fun x H1 => ∃ a xs, x = .ref a ∧ SqT K H1 a xs ∧ ∀ q, H1 q = none → Q (.ref q) (upd H1 q (.tup xs.reverse))
theorem pe_revT {te : TE} {k : Nat} {q1 q2 q3 : Pos} (he : PE X e te) : PE X (.Subscript e (.Slice none none (some (.UnaryOp .USub (.Constant (.int 1) k q1) q2)) q3) pos) (tRevT X.K te) := by
  refine ⟨fun pins s σ H Q I h => PyProof.Rows.Subscript_ (thn (he.run pins s σ H _ I h) fun v s1 z => ?_)⟩
  obtain ⟨x, H1, I1, r1, a, xs, rfl, hx, q⟩ := z
  cases r1
  have st : PO X (some (.UnaryOp .USub (.Constant (.int 1) k q1) q2)) (tPart (tUn (rU fun i => .int (-i)) (tC (.int 1)))) := po_some (pe_un un_neg pe_int)
  have none0 : ∀ {s2 : Shared} {H2 : Hp}, Inv X pins σ H2 s2 → wpAny (model X.prog X.w) X.A (evalPart none X.env) (fun u s3 => ∃ o H3, Inv X pins σ H3 s3 ∧ IsPart u o ∧ o = none ∧ H3 = H2) X.xe s2 := fun {s2 H2} I2 => po_none.run pins s2 σ H2 (fun o H3 => o = none ∧ H3 = H2) I2 ⟨rfl, rfl⟩
  refine wpAny_Slice (thn (none0 I1) fun vl s2 y => ?_)
  obtain ⟨l, H2, I2, pl, el, eh⟩ := y
  subst el eh
  refine thn (none0 I2) fun vu s3 y => ?_
  obtain ⟨u, H3, I3, pu, eu, eh⟩ := y
  subst eu eh
  refine thn (st.run pins s3 σ H3 (fun o H4 => o = some (-1) ∧ H4 = H3) I3 ⟨1, rfl, -1, rfl, rfl, rfl⟩) fun vs s4 y => ?_
  obtain ⟨o, H4, I4, ps, eo, eh⟩ := y
  subst eo eh
  cases pl
  cases pu
  obtain ⟨t, et⟩ : ∃ t, vs = .int (-1) t := by
    cases ps with
    | int i t => exact ⟨t, rfl⟩
  subst et
  have I5 : Inv X pins σ H4 { s4 with heap := s4.heap.push { cls := .type "slice", data := .fields #[.none, .none, .int (-1) t] } } := I4.kept (t' := s4.toks) fun b ob z => Heap.get?_push_of_some _ z
  obtain ⟨its, rv, tt, hz⟩ := I5.tuple hx
  have hlen := rv.length
  show wpAny (model X.prog X.w) X.A (PyProof.Rows.subscriptTail e (.Slice none none (some (.UnaryOp .USub (.Constant (.int 1) k q1) q2)) q3) (.ref a) (.ref s4.heap.objs.size)) (EP X pins σ Q) X.xe { s4 with heap := s4.heap.push { cls := .type "slice", data := .fields #[.none, .none, .int (-1) t] } }
  refine PyProof.Rows.tail_any (ops := [.ref a, .ref s4.heap.objs.size]) tt.typeIs (PyProof.Rows.slot_tuple_getitem.lookup) ?_ (by with_unfolding_all rfl)
  refine tuple_back tt (Heap.IsSliceOf.new _ .none .none (.int (-1) t)) ?_ (by rw [List.size_toArray]; omega)
  refine ⟨.ref _, _, I5.laid (t' := s4.toks) (o := .tup xs.reverse) (fun b ob z => Heap.get?_push_of_some _ z) (Nat.le_refl _) ?_, rfl, q _ (I5.hok.fresh (Nat.le_refl _))⟩
  exact ⟨by rw [List.length_reverse]; exact hz, _, rv.reverse, PyProof.Rows.IsTup.new _ _⟩
theorem t_rev {k : Nat} {q1 q2 q3 : Pos} (ha : TO X W a Fa) : TD X W (.Subscript a (.Slice none none (some (.UnaryOp .USub (.Constant (.int 1) k q1) q2)) q3) pos) (e1 revV Fa) := ⟨fun pins s σ H Q I q => by
  obtain ⟨η, A, E, p0⟩ := id q
  have p : Post X.K X.mg W (rD X.K) σ A H ((Fa η).bind fun x => .of (revV x)) Q := p0
  have viaL : tRevL X.K (tR X.K X.mg W (rO X.K) Fa) σ H Q → wpAny (model X.prog X.w) X.A (eval (.Subscript a (.Slice none none (some (.UnaryOp .USub (.Constant (.int 1) k q1) q2)) q3) pos) X.env) (EP X pins σ Q) X.xe s := fun z => (pe_revL ha).run pins s σ H Q I z
  have viaT : tRevT X.K (tR X.K X.mg W (rO X.K) Fa) σ H Q → wpAny (model X.prog X.w) X.A (eval (.Subscript a (.Slice none none (some (.UnaryOp .USub (.Constant (.int 1) k q1) q2)) q3) pos) X.env) (EP X pins σ Q) X.xe s := fun z => (pe_revT ha).run pins s σ H Q I z
  cases e1 : Fa η with
  | ex c w z =>
    rw [e1] at p
    exact viaL (show tR X.K X.mg W (rO X.K) Fa σ H _ from ⟨η, A, E, by rw [e1]; exact p⟩)
  | no => rw [e1] at p; exact False.elim p
  | ok d =>
    rw [e1] at p
    cases d with
    | list xs =>
      refine viaL (show tR X.K X.mg W (rO X.K) Fa σ H _ from ⟨η, A, E, ?_⟩)
      rw [e1]
      intro v H1 s1 q1
      obtain ⟨l, vs, rfl, h1, q2⟩ := rO_list q1
      exact ⟨l, vs, rfl, h1, fun z hz => p _ _ (s1.trans (same_new hz)) (rF_D (nofree E.tr) (back_F _ _ _ _ _ _ s1 (dp_new_list (E.same s1).tr hz (DpAll_rev q2))))⟩
    | tuple xs =>
      refine viaT (show tR X.K X.mg W (rO X.K) Fa σ H _ from ⟨η, A, E, ?_⟩)
      rw [e1]
      intro v H1 s1 q1
      obtain ⟨l, vs, rfl, h1, _, q2⟩ := rO_tup q1
      exact ⟨l, vs, rfl, h1, fun z hz => p _ _ (s1.trans (same_new hz)) (dp_new_tup (E.same s1).tr hz (DpAll_rev q2))⟩
    | _ => exact False.elim p⟩
end
end Bd
/-! D10: expressions that change lists that the def owns or is handed: an answer and the names behind it. -/
namespace Bd
open PySem L2

/-! ### what may change -/
/-- the contents of lists of the def's own may differ -/
def Kin (η η' : Nv) : Prop := η'.length = η.length ∧ ∀ (i : Nat) (xs' : OL), η'[i]? = some (.own xs') → ∃ xs : OL, η[i]? = some (.own xs) ∧ xs.b = xs'.b
theorem Kin.refl (η : Nv) : Kin η η := ⟨rfl, fun _ xs e => ⟨xs, e, rfl⟩⟩
theorem Kin.trans {a b c : Nv} (h : Kin a b) (k : Kin b c) : Kin a c := ⟨k.1.trans h.1, fun i xs e => by
  obtain ⟨ys, e1, q1⟩ := k.2 i xs e
  obtain ⟨zs, e2, q2⟩ := h.2 i ys e1
  exact ⟨zs, e2, q2.trans q1⟩⟩
/-- all but those lists stays -/
def Mv (σ : L2.St) (η : Nv) (H H' : Hp) : Prop := ∀ (a : Addr) (o : HO), H a = some o → (∀ (i : Nat) (xs : OL), η[i]? = some (.own xs) → σ[i]? ≠ some (some (.ref a))) → H' a = some o
theorem Mv.of {σ : L2.St} {η : Nv} {H H' : Hp} (s : Same H H') : Mv σ η H H' := fun a o e _ => s a o e
theorem Mv.trans {σ : L2.St} {η η1 : Nv} {H H1 H2 : Hp} (k : Kin η η1) (h : Mv σ η H H1) (h2 : Mv σ η1 H1 H2) : Mv σ η H H2 := fun a o e n => h2 a o (h a o e n) fun i xs e1 => by
  obtain ⟨ys, q, _⟩ := k.2 i xs e1
  exact n i ys q
section
variable {K : PySem.W.Frag} {H H' H1 H2 : Hp} {A : List Addr} {σ : L2.St} {η η' η1 : Nv}
theorem own_in (E : EnvD K H A σ η) {i : Nat} {xs : OL} {a : Addr} (e : η[i]? = some (.own xs)) (e2 : σ[i]? = some (some (.ref a))) : a ∈ A ∧ ∃ vs, H a = some (.lst vs) ∧ DpAll K (hid A H) vs xs.l := by
  obtain ⟨o, e3, q⟩ := E.at_ i _ e
  rw [e2] at e3
  cases e3
  exact q
theorem own_ref (E : EnvD K H A σ η) {i : Nat} {xs : OL} (e : η[i]? = some (.own xs)) : ∃ a, σ[i]? = some (some (.ref a)) ∧ a ∈ A ∧ ∃ vs, H a = some (.lst vs) ∧ DpAll K (hid A H) vs xs.l := by
  obtain ⟨o, e3, q⟩ := E.at_ i _ e
  match o, q, e3 with
  | some (.ref a), q, e3 => exact ⟨a, e3, q⟩
theorem Mv.hid (E : EnvD K H A σ η) (m : Mv σ η H H') : Same (hid A H) (hid A H') := fun b o e => by
  obtain ⟨n, e⟩ := hid_some e
  rw [hid_out n]
  exact m b o e fun i xs e1 e2 => n (own_in E e1 e2).1
theorem Mv.there (E : EnvD K H A σ η) (E' : EnvD K H' A σ η') (m : Mv σ η H H') {a : Addr} (h : H a ≠ none) : H' a ≠ none := by
  by_cases hA : a ∈ A
  · exact E'.tr a hA
  · cases e : H a with
    | none => exact absurd e h
    | some o =>
      rw [m a o e fun i xs e1 e2 => hA (own_in E e1 e2).1]
      exact fun z => nomatch z
end
/-- the heap ahead may be an earlier one, however lists were changed -/
def Back2 (rl : Rl) : Prop := ∀ H H1 H' A v d, (∀ a, H a ≠ none → H1 a ≠ none) → rl H1 H' A v d → rl H H' A v d
theorem back2_D {K : PySem.W.Frag} : Back2 (rD K) := fun _ _ _ _ _ _ _ h => h
theorem back2_F {K : PySem.W.Frag} : Back2 (rF K) := fun H H1 _ _ _ _ s ⟨p, vs, ds, a, b, c, r⟩ => ⟨p, vs, ds, a, b, by
  cases e : H p with
  | none => rfl
  | some o => exact absurd c (s p (by rw [e]; exact fun z => nomatch z)), r⟩
def PostX (K : PySem.W.Frag) (rl : Rl) (σ : L2.St) (A : List Addr) (H : Hp) (η : Nv) (r : R (D × Nv)) (Q : VK) : Prop :=
  match r with
  | .ok p => ∀ v H', EnvD K H' A σ p.2 → Kin η p.2 → Mv σ η H H' → rl H H' A v p.1 → Q v H'
  | _ => False
def tX (K : PySem.W.Frag) (rl : Rl) (F : Nv → R (D × Nv)) : TE := fun σ H Q => ∃ η A, EnvD K H A σ η ∧ PostX K rl σ A H η (F η) Q
def TX (X : Cx) (rl : Rl) (e : Expr) (F : Nv → R (D × Nv)) : Prop := PE X e (tX X.K rl F)
def PostXA (K : PySem.W.Frag) (σ : L2.St) (A : List Addr) (H : Hp) (η : Nv) (r : R (List D × Nv)) (Q : List V → Hp → Prop) : Prop :=
  match r with
  | .ok p => ∀ vs H', EnvD K H' A σ p.2 → Kin η p.2 → Mv σ η H H' → DpAll K (hid A H') vs p.1 → Q vs H'
  | _ => False
def tXA (K : PySem.W.Frag) (Fs : Nv → R (List D × Nv)) : TA := fun σ H Q => ∃ η A, EnvD K H A σ η ∧ PostXA K σ A H η (Fs η) Q
def TXA (X : Cx) (es : List Expr) (Fs : Nv → R (List D × Nv)) : Prop := PA X es (tXA X.K Fs)
def PostXB (K : PySem.W.Frag) (σ : L2.St) (A : List Addr) (H : Hp) (η : Nv) (r : R (Bool × Nv)) (Q : Bool → Hp → Prop) : Prop :=
  match r with
  | .ok p => ∀ H', EnvD K H' A σ p.2 → Kin η p.2 → Mv σ η H H' → Q p.1 H'
  | _ => False
def tXB (K : PySem.W.Frag) (G : Nv → R (Bool × Nv)) : TT := fun σ H Q => ∃ η A, EnvD K H A σ η ∧ PostXB K σ A H η (G η) Q
def TXB (X : Cx) (e : Expr) (G : Nv → R (Bool × Nv)) : Prop := PT X e (tXB X.K G)
def TXW (X : Cx) (e : Expr) (G : Nv → R (Bool × Nv)) : Prop := PW X e (tXB X.K G)
section
variable {K : PySem.W.Frag} {rl : Rl} {H H1 : Hp} {A : List Addr} {σ : L2.St} {η η1 : Nv} {Q : VK}
theorem PostX.step {r : R (D × Nv)} (b : Back2 rl) (E : EnvD K H A σ η) (E1 : EnvD K H1 A σ η1) (k : Kin η η1) (m : Mv σ η H H1) (h : PostX K rl σ A H η r Q) : PostX K rl σ A H1 η1 r Q := by
  cases r with
  | ok p => exact fun v H' E' k' m' q => h v H' E' (k.trans k') (Mv.trans k m m') (b _ _ _ _ _ _ (fun a z => Mv.there E E1 m z) q)
  | ex c w p => exact h
  | no => exact h
theorem PostXA.step {r : R (List D × Nv)} {Q : List V → Hp → Prop} (k : Kin η η1) (m : Mv σ η H H1) (h : PostXA K σ A H η r Q) : PostXA K σ A H1 η1 r Q := by
  cases r with
  | ok p => exact fun v H' E' k' m' q => h v H' E' (k.trans k') (Mv.trans k m m') q
  | ex c w p => exact h
  | no => exact h
theorem PostXB.step {r : R (Bool × Nv)} {Q : Bool → Hp → Prop} (k : Kin η η1) (m : Mv σ η H H1) (h : PostXB K σ A H η r Q) : PostXB K σ A H1 η1 r Q := by
  cases r with
  | ok p => exact fun H' E' k' m' => h H' E' (k.trans k') (Mv.trans k m m')
  | ex c w p => exact h
  | no => exact h
/-- an answer, then what it leads to: the step of all rules below -/
theorem stepX {α : Type} {F : Nv → R (D × Nv)} {g : D × Nv → R α} {rl' : Rl} {Pn : Nv → R α → Prop} {R1 : V → Hp → Prop} (E : EnvD K H A σ η) (p : Pn η ((F η).bind g)) (hx : ∀ c w z, ¬ Pn η (.ex c w z)) (hn : ¬ Pn η .no)
    (k : ∀ (d : D) (η1 : Nv) (v : V) (H1 : Hp), F η = .ok (d, η1) → EnvD K H1 A σ η1 → Kin η η1 → Mv σ η H H1 → rl' H H1 A v d → Pn η (g (d, η1)) → R1 v H1) : tX K rl' F σ H R1 := by
  refine ⟨η, A, E, ?_⟩
  cases e : F η with
  | ex c w q => rw [e] at p; exact absurd p (hx c w q)
  | no => rw [e] at p; exact absurd p hn
  | ok d =>
    rw [e] at p
    obtain ⟨d, η1⟩ := d
    exact fun v H1 E1 k1 m1 q => k d η1 v H1 e E1 k1 m1 q p
end
section
variable {X : Cx} {W : WX} {rl : Rl} {a b c e : Expr} {es rest : List Expr} {Fa Fb F : Nv → R (D × Nv)} {Fs : Nv → R (List D × Nv)} {Ga Gb G : Nv → R (Bool × Nv)} {pos : Pos} {f : D → D → Option D}
/-- what changes nothing -/
def up (F : Nv → R D) : Nv → R (D × Nv) := fun η => match F η with
  | .ok d => .ok (d, η)
  | _ => .no
theorem x_up {F : Nv → R D} (h : PE X e (tR X.K X.mg W rl F)) : TX X rl e (up F) := peW h fun σ H Q ⟨η, A, E, p⟩ => ⟨η, A, E, by
  unfold up at p
  cases e : F η with
  | ok d =>
    rw [e] at p
    exact fun v H' s q => p v H' (E.same s) (Kin.refl η) (Mv.of s) q
  | ex c w z => rw [e] at p; exact False.elim p
  | no => rw [e] at p; exact False.elim p⟩
theorem xF_D (h : TX X (rF X.K) e F) : TX X (rD X.K) e F := peW h fun σ H Q ⟨η, A, E, p⟩ => ⟨η, A, E, by
  cases e : F η with
  | ok d =>
    rw [e] at p
    exact fun v H' E' k m q => p v H' E' k m (rF_D (fun _ hp => E.fresh hp) q)
  | ex c w z => rw [e] at p; exact False.elim p
  | no => rw [e] at p; exact False.elim p⟩
/-! a new list -/
def PostXF (K : PySem.W.Frag) (σ : L2.St) (A : List Addr) (H : Hp) (η : Nv) (r : R (D × Nv)) (Q : VK) : Prop :=
  match r with
  | .ok p => ∀ l vs ds H', p.1 = .list ds → EnvD K H' (l :: A) σ p.2 → Kin η p.2 → Mv σ η H H' → H l = none → H' l = some (.lst vs) → DpAll K (hid (l :: A) H') vs ds → Q (.ref l) H'
  | _ => False
def tXF (K : PySem.W.Frag) (F : Nv → R (D × Nv)) : TE := fun σ H Q => ∃ η A, EnvD K H A σ η ∧ PostXF K σ A H η (F η) Q
def TXF (X : Cx) (e : Expr) (F : Nv → R (D × Nv)) : Prop := PE X e (tXF X.K F)
theorem EnvD.shrink {K : PySem.W.Frag} {H H' : Hp} {A : List Addr} {σ : L2.St} {η η' : Nv} {l : Addr} (E' : EnvD K H' (l :: A) σ η') (E : EnvD K H A σ η) (k : Kin η η') : EnvD K H' A σ η' where
  len := E'.len
  at_ := fun j sl e => by
    obtain ⟨o, e1, q⟩ := E'.at_ j sl e
    refine ⟨o, e1, ?_⟩
    cases sl with
    | no => cases o <;> trivial
    | d x =>
      cases o with
      | none => exact q
      | some v => exact Dp_mono (show Dp K (hid (l :: A) H') v x from q) (hid_mono fun _ m => List.mem_cons_of_mem _ m)
    | own zs =>
      match o, q, e1 with
      | some (.ref b), ⟨m, ws, e2, q⟩, e1 =>
        obtain ⟨ys, e3, _⟩ := k.2 j zs e
        exact ⟨(own_in E e3 e1).1, ws, e2, DpAll_mono q (hid_mono fun _ m => List.mem_cons_of_mem _ m)⟩
    | m x => exact q.m' (hid_mono fun _ m => List.mem_cons_of_mem _ m)
  ap := E'.ap
  tr := fun a m => E'.tr a (List.mem_cons_of_mem _ m)
theorem xF_d (h : TXF X e F) : TX X (rD X.K) e F := peW h fun σ H Q ⟨η, A, E, p⟩ => ⟨η, A, E, by
  cases e : F η with
  | ok d =>
    rw [e] at p
    exact fun l vs ds H' ed E' k m hl hl' q => p (.ref l) H' (E'.shrink E k) k m (by
      rw [ed]
      exact .lst (SqL.of (by rw [hid_out fun z => E.tr l z hl]; exact hl')) (DpAll_mono q (hid_mono fun _ m => List.mem_cons_of_mem _ m)))
  | ex c w z => rw [e] at p; exact False.elim p
  | no => rw [e] at p; exact False.elim p⟩
theorem xF_up {F : Nv → R D} (h : TF X W e F) : TXF X e (up F) := peW h fun σ H Q ⟨η, A, E, p⟩ => ⟨η, A, E, by
  unfold up at p
  cases e : F η with
  | ok d =>
    rw [e] at p
    intro v H' s q
    obtain ⟨l, vs, ds, rfl, rfl, hp, hp', q⟩ := q
    exact p l vs ds H' rfl (E.new s hp (by rw [hp']; exact fun z => nomatch z)) (Kin.refl η) (Mv.of s) hp hp' q
  | ex c w z => rw [e] at p; exact False.elim p
  | no => rw [e] at p; exact False.elim p⟩
/-! arguments -/
def x0 : Nv → R (List D × Nv) := fun η => .ok ([], η)
def xC (Fa : Nv → R (D × Nv)) (Fs : Nv → R (List D × Nv)) : Nv → R (List D × Nv) := fun η => (Fa η).bind fun p => (Fs p.2).bind fun q => .ok (p.1 :: q.1, q.2)
theorem xa_nil : TXA X [] x0 := paW pa_nil fun σ H Q ⟨η, A, E, p⟩ => p [] H E (Kin.refl η) (Mv.of (Same.refl _)) .nil
theorem xa_cons (ha : TX X (rD X.K) a Fa) (hs : TXA X es Fs) (h1 : starEach (a :: es) X.env = (false, eval a X.env) :: starEach es X.env := by rfl) : TXA X (a :: es) (xC Fa Fs) :=
  paW (pa_cons ha hs h1) fun σ H Q ⟨η, A, E, p⟩ => stepX (Pn := fun η r => PostXA X.K σ A H η r Q) E p (fun _ _ _ z => z) (fun z => z) fun d η1 v H1 e E1 k1 m1 q p => by
    refine (show tXA X.K Fs σ H1 _ from ⟨η1, A, E1, ?_⟩)
    have p : PostXA X.K σ A H η ((Fs η1).bind fun q => .ok (d :: q.1, q.2)) Q := p
    cases e2 : Fs η1 with
    | ex c w z => rw [e2] at p; exact p
    | no => rw [e2] at p; exact p
    | ok ds =>
      rw [e2] at p
      exact fun vs H2 E2 k2 m2 qs => p (v :: vs) H2 E2 (k1.trans k2) (Mv.trans k1 m1 m2) (.cons (Dp_mono q (Mv.hid E1 m2)) qs)
theorem dpAll_V {K : PySem.W.Frag} {H : Hp} {A : List Addr} : ∀ {vs : List V} {ds : List D}, DpAll K (hid A H) vs ds → AllV (vO K) H A vs ds
  | _, _, .nil => trivial
  | _, _, .cons h t => ⟨.inl h, dpAll_V t⟩
/-! built-ins, displays -/
def xN (f : List D → Option D) (Fs : Nv → R (List D × Nv)) : Nv → R (D × Nv) := fun η => (Fs η).bind fun p => (R.of (f p.1)).bind fun d => .ok (d, p.2)
theorem stepXA {α : Type} {K : PySem.W.Frag} {H : Hp} {A : List Addr} {σ : L2.St} {η : Nv} {g : List D × Nv → R α} {Pn : Nv → R α → Prop} {R1 : List V → Hp → Prop} (E : EnvD K H A σ η) (p : Pn η ((Fs η).bind g)) (hx : ∀ c w z, ¬ Pn η (.ex c w z)) (hn : ¬ Pn η .no)
    (k : ∀ (ds : List D) (η1 : Nv) (vs : List V) (H1 : Hp), EnvD K H1 A σ η1 → Kin η η1 → Mv σ η H H1 → DpAll K (hid A H1) vs ds → Pn η (g (ds, η1)) → R1 vs H1) : tXA K Fs σ H R1 := by
  refine ⟨η, A, E, ?_⟩
  cases e : Fs η with
  | ex c w q => rw [e] at p; exact absurd p (hx c w q)
  | no => rw [e] at p; exact absurd p hn
  | ok d =>
    rw [e] at p
    obtain ⟨d, η1⟩ := d
    exact fun v H1 E1 k1 m1 q => k d η1 v H1 E1 k1 m1 q p
theorem opN_x {r : List V → Hp → VK → Prop} {f : List D → Option D} (hb : Back2 rl) (ho : OpN X rl r f) {σ : L2.St} {H : Hp} {Q : VK} (h : tX X.K rl (xN f Fs) σ H Q) : tCB r (tXA X.K Fs) σ H Q := by
  obtain ⟨η, A, E, p⟩ := h
  refine (show tXA X.K Fs σ H _ from stepXA (Pn := fun η r => PostX X.K rl σ A H η r Q) E p (fun _ _ _ z => z) (fun z => z) fun ds η1 vs H1 E1 k1 m1 q p => ?_)
  have p : PostX X.K rl σ A H η ((R.of (f ds)).bind fun d => .ok (d, η1)) Q := p
  cases e2 : f ds with
  | none => rw [e2] at p; exact False.elim p
  | some d =>
    rw [e2] at p
    exact ho H1 A vs ds d Q E1.tr (dpAll_V q) e2 fun v H' s q' => p v H' (E1.same s) k1 (Mv.trans k1 m1 (Mv.of s)) (hb _ _ _ _ _ _ (fun a z => Mv.there E E1 m1 z) q')
theorem x_callB {id : String} {x : Str} {p : Pos} {r : List V → Hp → VK → Prop} {f : List D → Option D} (hb : Back2 rl) (hc : CallR X (.builtin id) r) (ho : OpN X rl r f) (hg : Gl X x) (hm : X.mg x = none) (hv : bootBuiltins x = some (.builtin id))
    (ha : TXA X (e :: es) Fs) (hn : x ≠ "__name__" := by decide) (hdb : (x == ("__debug__" : Str)) = false := by decide) (he : starEach (e :: es) X.env = (false, eval e X.env) :: starEach es X.env := by rfl)
    (hpl : (backTo pos (starEach es X.env)).any (·.1) = false := by rfl) : TX X rl (.Call (.Name x p) (e :: es) [] pos) (xN f Fs) :=
  peW (pe_callB hc hg hm hv ha hn hdb he hpl) fun _ _ _ => opN_x hb ho
theorem x_callTy {T : String} {x : Str} {p : Pos} {r : List V → Hp → VK → Prop} {f : List D → Option D} (hb : Back2 rl) (hc : CallR X (.type T) r) (ho : OpN X rl r f) (hg : Gl X x) (hm : X.mg x = none) (hv : bootBuiltins x = some (.type T))
    (ha : TXA X (e :: es) Fs) (hn : x ≠ "__name__" := by decide) (hdb : (x == ("__debug__" : Str)) = false := by decide) (he : starEach (e :: es) X.env = (false, eval e X.env) :: starEach es X.env := by rfl)
    (hpl : (backTo pos (starEach es X.env)).any (·.1) = false := by rfl) : TX X rl (.Call (.Name x p) (e :: es) [] pos) (xN f Fs) :=
  peW (pe_callTy hc hg hm hv ha hn hdb he hpl) fun _ _ _ => opN_x hb ho
theorem x_tup {x1 : Nat} (h : TXA X es Fs) : TX X (rD X.K) (.Tuple es x1 pos) (xN (fun ds => if ds.length ≤ lineN then some (.tuple ds) else none) Fs) := peW (pe_tup h) fun σ H Q ⟨η, A, E, p⟩ =>
  stepXA (Pn := fun η r => PostX X.K (rD X.K) σ A H η r Q) E p (fun _ _ _ z => z) (fun z => z) fun ds η1 vs H1 E1 k1 m1 q p => by
    have p : PostX X.K (rD X.K) σ A H η ((R.of (if ds.length ≤ lineN then some (.tuple ds) else none)).bind fun d => .ok (d, η1)) Q := p
    split at p
    · rename_i hz
      exact ⟨by rw [DpAll_length q, line_eq]; exact hz, fun r hr => p _ _ (E1.same (same_new hr)) k1 (Mv.trans k1 m1 (Mv.of (same_new hr))) (dp_new_tup E1.tr hr q)⟩
    · exact False.elim p
theorem x_lst (h : TXA X es Fs) : TXF X (.List es pos) (xN (fun ds => if ds.length ≤ lineN then some (.list ds) else none) Fs) := peW (pe_lst h) fun σ H Q ⟨η, A, E, p⟩ =>
  stepXA (Pn := fun η r => PostXF X.K σ A H η r Q) E p (fun _ _ _ z => z) (fun z => z) fun ds η1 vs H1 E1 k1 m1 q p => by
    have p : PostXF X.K σ A H η ((R.of (if ds.length ≤ lineN then some (.list ds) else none)).bind fun d => .ok (d, η1)) Q := p
    split at p
    · rename_i hz
      refine ⟨by rw [DpAll_length q, line_eq]; exact hz, fun r hr => p r vs ds _ rfl (E1.new (same_new hr) hr (by rw [upd_same]; exact fun z => nomatch z)) k1 (Mv.trans k1 m1 (Mv.of (same_new hr))) ?_ upd_same (DpAll_mono q (hid_new (same_new hr) hr))⟩
      cases hM0 : H r with
      | none => rfl
      | some o => exact absurd hr (Mv.there E E1 m1 (by rw [hM0]; exact fun z => nomatch z))
    · exact False.elim p
/-! operators -/
def x2 (f : D → D → Option D) (Fa Fb : Nv → R (D × Nv)) : Nv → R (D × Nv) := fun η => (Fa η).bind fun p => (Fb p.2).bind fun q => (R.of (f p.1 q.1)).bind fun d => .ok (d, q.2)
theorem op2_x {r : R2} (hb : Back2 rl) (ho : Op2 X rl r f) {σ : L2.St} {H : Hp} {Q : VK} (h : tX X.K rl (x2 f Fa Fb) σ H Q) : tOp r (tX X.K (rD X.K) Fa) (tX X.K (rD X.K) Fb) σ H Q := by
  obtain ⟨η, A, E, p⟩ := h
  refine (show tX X.K (rD X.K) Fa σ H _ from stepX (Pn := fun η r => PostX X.K rl σ A H η r Q) E p (fun _ _ _ z => z) (fun z => z) fun x η1 v H1 e E1 k1 m1 q p => ?_)
  refine (show tX X.K (rD X.K) Fb σ H1 _ from stepX (Pn := fun _ r => PostX X.K rl σ A H η r Q) E1 p (fun _ _ _ z => z) (fun z => z) fun y η2 w H2 e' E2 k2 m2 q' p => ?_)
  have p : PostX X.K rl σ A H η ((R.of (f x y)).bind fun d => .ok (d, η2)) Q := p
  cases e2 : f x y with
  | none => rw [e2] at p; exact False.elim p
  | some d =>
    rw [e2] at p
    have M := Mv.trans k1 m1 m2
    exact ho H2 A v w x y d Q E2.tr (.inl (Dp_mono q (Mv.hid E1 m2))) (.inl q') e2 fun u H' s z => p u H' (E2.same s) (k1.trans k2) (Mv.trans (k1.trans k2) M (Mv.of s)) (hb _ _ _ _ _ _ (fun a z => Mv.there E E2 M z) z)
theorem x_op {op : Operator} {r : R2} (hb : Back2 rl) (hop : OpR X (binaryOp op) r) (ho : Op2 X rl r f) (ha : TX X (rD X.K) a Fa) (hc : TX X (rD X.K) b Fb) : TX X rl (.BinOp a op b pos) (x2 f Fa Fb) :=
  peW (pe_op hop ha hc) fun _ _ _ => op2_x hb ho
theorem x_ix (ha : TX X (rD X.K) a Fa) (hb : TX X (rD X.K) b Fb) (hs : PlainIx b := by exact fun _ _ => rfl) : TX X (rD X.K) (.Subscript a b pos) (x2 ixV Fa Fb) := peW (pe_ix ix_seq ha hb hs) fun _ _ _ => op2_x back2_D o_ix
end
end Bd
/-! D11: tests that change lists; calls; defs that are handed a list and change it. -/
namespace Bd
open PySem L2

section
variable {X : Cx} {W : WX} {rl : Rl} {a b c e : Expr} {es rest : List Expr} {Fa Fb F : Nv → R (D × Nv)} {Fs : Nv → R (List D × Nv)} {Ga Gb G : Nv → R (Bool × Nv)} {pos : Pos} {f : D → D → Option D}
theorem back2_B : Back2 rB := fun _ _ _ _ _ _ _ h => h
theorem x_cmp {op : CmpOp} {r : R2} (hop : OpR X (compareOp op) r) (ho : Op2 X rB r f) (ha : TX X (rD X.K) a Fa) (hc : TX X (rD X.K) b Fb) (h1 : behindInMarks op b = false) : TX X (rD X.K) (.Compare a [op] [b] pos) (x2 f Fa Fb) :=
  peW (pe_cmpR hop ha hc h1) fun _ _ _ => op2_x back2_D fun H A x y a b d Q hA h1 h2 e k => ho H A x y a b d Q hA h1 h2 e fun v H' s q => k v H' s (rB_D q)
def xb (F : Nv → R (D × Nv)) : Nv → R (Bool × Nv) := fun η => (F η).bind fun p => (tru p.1).bind fun k => .ok (k, p.2)
theorem xB_of {K : PySem.W.Frag} {σ : L2.St} {A : List Addr} {H : Hp} {η : Nv} {Q : Bool → Hp → Prop} {d : D} {η1 : Nv} (p : PostXB K σ A H η ((tru d).bind fun k => .ok (k, η1)) Q) : ∃ k, tru d = .ok k ∧ ∀ H', EnvD K H' A σ η1 → Kin η η1 → Mv σ η H H' → Q k H' := by
  cases e : tru d with
  | ex c w z => rw [e] at p; exact False.elim p
  | no => rw [e] at p; exact False.elim p
  | ok k => rw [e] at p; exact ⟨k, rfl, p⟩
theorem xb_val (ha : TX X (rD X.K) a Fa) (he : ∀ whole, isTrue a X.env whole = (do let v ← whole; standAt a.pos; holding [v] (truthy v)) := by intro _; rfl) : TXB X a (xb Fa) :=
  ptW (pt_truth ha he) fun σ H Q ⟨η, A, E, p⟩ => stepX (Pn := fun η r => PostXB X.K σ A H η r Q) E p (fun _ _ _ z => z) (fun z => z) fun d η1 v H1 e E1 k1 m1 q p => by
    obtain ⟨k, ek, r⟩ := xB_of p
    exact ⟨k, tru_of (Dp_mono q (hid_le A H1)) ek, r H1 E1 k1 m1⟩
theorem xb_cmp {op : CmpOp} {r : R2} (hop : OpR X (compareOp op) r) (ho : Op2 X rB r f) (ha : TX X (rD X.K) a Fa) (hb : TX X (rD X.K) b Fb) (h1 : behindInMarks op b = false) : TXB X (.Compare a [op] [b] pos) (xb (x2 f Fa Fb)) :=
  ptW (pt_cmpR hop ha hb h1) fun σ H Q ⟨η, A, E, p⟩ => op2_x back2_B ho (stepX (rl' := rB) (Pn := fun η r => PostXB X.K σ A H η r Q) E p (fun _ _ _ z => z) (fun z => z) fun d η1 v H1 e E1 k1 m1 q p => by
    obtain ⟨k, ek, r⟩ := xB_of p
    obtain ⟨k', rfl, rfl⟩ := q
    cases ek
    exact ⟨_, rfl, r H1 E1 k1 m1⟩)
def upB (G : Nv → R Bool) : Nv → R (Bool × Nv) := fun η => match G η with
  | .ok k => .ok (k, η)
  | _ => .no
theorem xb_up {G : Nv → R Bool} (h : TB X W e G) : TXB X e (upB G) := ptW h fun σ H Q ⟨η, A, E, p⟩ => ⟨η, A, E, by
  unfold upB at p
  cases e : G η with
  | ok d =>
    rw [e] at p
    exact fun H' s => p H' (E.same s) (Kin.refl η) (Mv.of s)
  | ex c w z => rw [e] at p; exact False.elim p
  | no => rw [e] at p; exact False.elim p⟩
/-! and, or, not -/
theorem stepXB {α : Type} {K : PySem.W.Frag} {H : Hp} {A : List Addr} {σ : L2.St} {η : Nv} {g : Bool × Nv → R α} {Pn : Nv → R α → Prop} {R1 : Bool → Hp → Prop} (E : EnvD K H A σ η) (p : Pn η ((G η).bind g)) (hx : ∀ c w z, ¬ Pn η (.ex c w z)) (hn : ¬ Pn η .no)
    (k : ∀ (b : Bool) (η1 : Nv) (H1 : Hp), EnvD K H1 A σ η1 → Kin η η1 → Mv σ η H H1 → Pn η (g (b, η1)) → R1 b H1) : tXB K G σ H R1 := by
  refine ⟨η, A, E, ?_⟩
  cases e : G η with
  | ex c w q => rw [e] at p; exact absurd p (hx c w q)
  | no => rw [e] at p; exact absurd p hn
  | ok d =>
    rw [e] at p
    obtain ⟨d, η1⟩ := d
    exact fun H1 E1 k1 m1 => k d η1 H1 E1 k1 m1 p
def xAnd (Ga Gb : Nv → R (Bool × Nv)) : Nv → R (Bool × Nv) := fun η => (Ga η).bind fun p => if p.1 then Gb p.2 else .ok (false, p.2)
def xOr (Ga Gb : Nv → R (Bool × Nv)) : Nv → R (Bool × Nv) := fun η => (Ga η).bind fun p => if p.1 then .ok (true, p.2) else Gb p.2
def xNot (Ga : Nv → R (Bool × Nv)) : Nv → R (Bool × Nv) := fun η => (Ga η).bind fun p => .ok (!p.1, p.2)
theorem xw_and1 (ha : TXB X a Ga) : TXW X (.BoolOp .And [a] pos) Ga := pw_and1 ha
theorem xw_or1 (ha : TXB X a Ga) : TXW X (.BoolOp .Or [a] pos) Ga := pw_or1 ha
theorem xw_and (ha : TXB X a Ga) (hb : TXW X (.BoolOp .And (b :: rest) pos) Gb) : TXW X (.BoolOp .And (a :: b :: rest) pos) (xAnd Ga Gb) := pwW (pw_and ha hb) fun σ H Q ⟨η, A, E, p⟩ => stepXB (Pn := fun η r => PostXB X.K σ A H η r Q) E p (fun _ _ _ z => z) (fun z => z) fun k η1 H1 E1 k1 m1 p => by
  cases k with
  | true => exact iteT ⟨η1, A, E1, PostXB.step k1 m1 p⟩
  | false => exact iteF (p H1 E1 k1 m1)
theorem xw_or (ha : TXB X a Ga) (hb : TXW X (.BoolOp .Or (b :: rest) pos) Gb) : TXW X (.BoolOp .Or (a :: b :: rest) pos) (xOr Ga Gb) := pwW (pw_or ha hb) fun σ H Q ⟨η, A, E, p⟩ => stepXB (Pn := fun η r => PostXB X.K σ A H η r Q) E p (fun _ _ _ z => z) (fun z => z) fun k η1 H1 E1 k1 m1 p => by
  cases k with
  | true => exact iteT (p H1 E1 k1 m1)
  | false => exact iteF ⟨η1, A, E1, PostXB.step k1 m1 p⟩
theorem xb_w (h : TXW X e G) : TXB X e G := PW.pt h
theorem xb_not (ha : TXB X a Ga) : TXB X (.UnaryOp .Not a pos) (xNot Ga) := ptW (pt_not ha) fun σ H Q ⟨η, A, E, p⟩ => stepXB (Pn := fun η r => PostXB X.K σ A H η r Q) E p (fun _ _ _ z => z) (fun z => z) fun k η1 H1 E1 k1 m1 p => p H1 E1 k1 m1
/-! a if c else b -/
def xIf (G : Nv → R (Bool × Nv)) (Fa Fb : Nv → R (D × Nv)) : Nv → R (D × Nv) := fun η => (G η).bind fun p => if p.1 then Fa p.2 else Fb p.2
theorem x_if (hb' : Back2 rl) (hc : TXB X c G) (ha : TX X rl a Fa) (hb : TX X rl b Fb) : TX X rl (.IfExp c a b pos) (xIf G Fa Fb) := peW (pe_ifExp hc ha hb) fun σ H Q ⟨η, A, E, p⟩ => stepXB (Pn := fun η r => PostX X.K rl σ A H η r Q) E p (fun _ _ _ z => z) (fun z => z) fun k η1 H1 E1 k1 m1 p => by
  cases k with
  | true => exact iteT ⟨η1, A, E1, PostX.step hb' E E1 k1 m1 p⟩
  | false => exact iteF ⟨η1, A, E1, PostX.step hb' E E1 k1 m1 p⟩
/-! ### calls of defs -/
def xCall (Fn : List D → R D) (Fs : Nv → R (List D × Nv)) : Nv → R (D × Nv) := fun η => (Fs η).bind fun p => (noex (Fn p.1)).bind fun d => .ok (d, p.2)
theorem x_call {x : Str} {p : Pos} {fa : Addr} {fd : FuncData} {ps : List Str} {k n : Nat} {Fn : List D → R D} (hb' : Back2 rl) (F : FnG X.prog X.w X.K X.mg X.base k fa fd ps (spD X.K X.mg rl n Fn)) (hr : Room k X.A) (hgd : X.A.guards = some []) (hg : Gl X x) (hm : X.mg x = some (.ref fa)) (hk : PySem.W.keepIn X.K (.ref fa) = true) (hb : Binds X.K fd ps []) (ha : TXA X (e :: es) Fs) (hfs : ∀ η ds, Fs η = .ok ds → ds.1.length = n)
    (hdb : (x == ("__debug__" : Str)) = false := by decide) (he : starEach (e :: es) X.env = (false, eval e X.env) :: starEach es X.env := by rfl) (hpl : (backTo pos (starEach es X.env)).any (·.1) = false := by rfl) :
    TX X rl (.Call (.Name x p) (e :: es) [] pos) (xCall Fn Fs) := by
  refine ⟨fun pins s σ H Q I h => wpAny_Call_Name_kw (ld_glob I hg hm ?_ hdb)⟩
  obtain ⟨η, A, E, q0⟩ := h
  have q : PostX X.K rl σ A H η ((Fs η).bind fun p => (noex (Fn p.1)).bind fun d => .ok (d, p.2)) Q := q0
  have hx : PassesAt (L2.CX X.prog X.w) X σ (fun _ _ _ => False) := fun pins H s e s' I c => by
    obtain ⟨_, _, _, _, _, _, _, _, _, _, _, _, z⟩ := c
    exact z.elim
  refine PySem.W.callWith_K (h₀ := X.base) I.ok.mod.kin hk (thn (ha.run pos pins s σ H (fun vs H1 => spD X.K X.mg rl n Fn vs H1 Q (fun _ _ _ => False)) I ⟨η, A, E, ?_⟩) fun us s1 ⟨vs, H1, I1, r1, q1⟩ => ⟨I1.kIn, run_g F hr hgd hb hx I1 r1 q1⟩) he hpl
  cases e1 : Fs η with
  | ex c w z => rw [e1] at q; exact q
  | no => rw [e1] at q; exact q
  | ok ds =>
    rw [e1] at q
    have q : PostX X.K rl σ A H η ((noex (Fn ds.1)).bind fun d => .ok (d, ds.2)) Q := q
    intro vs H1 E1 k1 m1 qv
    refine ⟨ds.1, A, hfs η ds e1, E1.tr, qv, ?_⟩
    cases e2 : Fn ds.1 with
    | ex c w z => rw [e2] at q; exact False.elim q
    | no => rw [e2] at q; exact False.elim q
    | ok d =>
      rw [e2] at q
      exact fun v H' s z => q v H' (E1.same s) k1 (Mv.trans k1 m1 (Mv.of s)) (hb' _ _ _ _ _ _ (fun a z => Mv.there E E1 m1 z) z)
end
/-! ### a def that is handed a list and changes it -/
def spK (K : PySem.W.Frag) (rl : Rl) (n : Nat) (Fk : List D → List D → R (D × List D)) : Sp := fun vs H Q _ => ∃ a ws xs kx ds A, vs = .ref a :: ws ∧ a ∈ A ∧ H a = some (.lst xs) ∧ DpAll K (hid A H) xs kx ∧ ds.length = n ∧ DpAll K (hid A H) ws ds ∧ (∀ p ∈ A, H p ≠ none) ∧ match Fk kx ds with
  | .ok r => ∀ v H', (∀ b o, b ≠ a → H b = some o → H' b = some o) → (∀ p ∈ A, H' p ≠ none) → (∃ xs', H' a = some (.lst xs') ∧ DpAll K (hid A H') xs' r.2) → rl H H' A v r.1 → Q v H'
  | _ => False
theorem EnvD.put {K : PySem.W.Frag} {H H' : Hp} {A : List Addr} {σ : L2.St} {η : Nv} {i : Nat} {xs : OL} {a : Addr} {ws : List V} {ys : List D} (E : EnvD K H A σ η) (hi : η[i]? = some (.own xs)) (ho : σ[i]? = some (some (.ref a))) (kp : ∀ b o, b ≠ a → H b = some o → H' b = some o) (tr : ∀ p ∈ A, H' p ≠ none)
    (ha : H' a = some (.lst ws)) (q : DpAll K (hid A H') ws ys) : EnvD K H' A σ (η.set i (.own ⟨xs.b, ys⟩)) := by
  have hA : a ∈ A := (own_in E hi ho).1
  have hl : i < η.length := (List.getElem?_eq_some_iff.mp hi).1
  have sh : Same (hid A H) (hid A H') := fun b o e => by
    obtain ⟨n, e⟩ := hid_some e
    rw [hid_out n]
    exact kp b o (fun z => n (by rw [z]; exact hA)) e
  have gt : ∀ (j : Nat) (sl : Sl), (η.set i (.own ⟨xs.b, ys⟩))[j]? = some sl → (j = i ∧ sl = .own ⟨xs.b, ys⟩) ∨ (j ≠ i ∧ η[j]? = some sl) := fun j sl h => by
    by_cases hj : i = j
    · subst hj
      rw [List.getElem?_set_self hl] at h
      cases h
      exact .inl ⟨rfl, rfl⟩
    · rw [List.getElem?_set_ne hj] at h
      exact .inr ⟨fun z => hj z.symm, h⟩
  refine ⟨by rw [List.length_set, E.len], fun j sl h => ?_, fun j k b us zs h1 h2 h3 h4 => ?_, tr⟩
  · rcases gt j sl h with ⟨rfl, rfl⟩ | ⟨n, h⟩
    · exact ⟨_, ho, hA, ws, ha, q⟩
    · obtain ⟨o, e1, q1⟩ := E.at_ j sl h
      refine ⟨o, e1, ?_⟩
      cases sl with
      | no => cases o <;> trivial
      | d x =>
        cases o with
        | none => exact q1
        | some v => exact Dp_mono (show Dp K (hid A H) v x from q1) sh
      | own zs =>
        match o, q1, e1 with
        | some (.ref b), ⟨m, us, e2, q1⟩, e1 =>
          have nb : b ≠ a := fun z => by
            subst z
            exact n (E.ap j i b zs xs h hi e1 ho)
          exact ⟨m, us, kp _ _ nb e2, DpAll_mono q1 sh⟩
      | m x => exact q1.m' sh
  · rcases gt j _ h1 with ⟨ej, _⟩ | ⟨n, g1⟩
    · rcases gt k _ h2 with ⟨ek, _⟩ | ⟨n2, g2⟩
      · rw [ej, ek]
      · rw [ej] at h3 ⊢
        exact E.ap i k b xs zs hi g2 h3 h4
    · rcases gt k _ h2 with ⟨ek, _⟩ | ⟨n2, g2⟩
      · rw [ek] at h4 ⊢
        exact E.ap j i b us xs g1 hi h3 h4
      · exact E.ap j k b us zs g1 g2 h3 h4
theorem Kin.put {η : Nv} {i : Nat} {xs : OL} {ys : List D} (hi : η[i]? = some (.own xs)) : Kin η (η.set i (.own ⟨xs.b, ys⟩)) := ⟨List.length_set .., fun j zs e => by
  by_cases hj : i = j
  · subst hj
    rw [List.getElem?_set_self (List.getElem?_eq_some_iff.mp hi).1] at e
    cases e
    exact ⟨xs, hi, rfl⟩
  · rw [List.getElem?_set_ne hj] at e
    exact ⟨zs, e, rfl⟩⟩
section
variable {X : Cx} {rl : Rl} {e : Expr} {es : List Expr} {Fs : Nv → R (List D × Nv)} {pos : Pos}
def xPut (i : Nat) (Fk : List D → List D → R (D × List D)) (p : List D × Nv) : R (D × Nv) := match p.2[i]? with
  | some (.own xs) => (Fk xs.l p.1).bind fun r => .ok (r.1, p.2.set i (.own ⟨xs.b, r.2⟩))
  | _ => .no
/-- f(name, ..): the list at name is changed -/
def xCallK (i : Nat) (Fk : List D → List D → R (D × List D)) (Fs : Nv → R (List D × Nv)) : Nv → R (D × Nv) := fun η => match η[i]? with
  | some (.own _) => (Fs η).bind (xPut i Fk)
  | _ => .no
theorem x_callK {x dn : Str} {p pd : Pos} {fa : Addr} {fd : FuncData} {ps : List Str} {k n : Nat} {Fk : List D → List D → R (D × List D)} (i : Nat) (hb' : Back2 rl) (F : FnG X.prog X.w X.K X.mg X.base k fa fd ps (spK X.K rl n Fk)) (hr : Room k X.A) (hgd : X.A.guards = some []) (hg : Gl X x) (hm : X.mg x = some (.ref fa)) (hk : PySem.W.keepIn X.K (.ref fa) = true) (hb : Binds X.K fd ps [])
    (ha : TXA X es Fs) (hfs : ∀ η ds, Fs η = .ok ds → ds.1.length = n) (hi : X.N[i]? = some dn := by rfl) (hv : Vis X.env.scope dn := by first | exact Or.inl rfl | exact Or.inr (Or.inl rfl) | exact Or.inr (Or.inr rfl)) (hd : (dn == ("__debug__" : Str)) = false := by decide) (hcd : (dn == ("__classdict__" : Str)) = false := by decide)
    (hdb : (x == ("__debug__" : Str)) = false := by decide) (he : starEach (.Name dn pd :: es) X.env = (false, eval (.Name dn pd) X.env) :: starEach es X.env := by rfl) (hpl : (backTo pos (starEach es X.env)).any (·.1) = false := by rfl) :
    TX X rl (.Call (.Name x p) (.Name dn pd :: es) [] pos) (xCallK i Fk Fs) := by
  refine ⟨fun pins s σ H Q I h => wpAny_Call_Name_kw (ld_glob I hg hm ?_ hdb)⟩
  obtain ⟨η, A, E, q0⟩ := h
  have q : PostX X.K rl σ A H η (xCallK i Fk Fs η) Q := q0
  unfold xCallK at q
  split at q
  case h_2 => exact False.elim q
  rename_i ys hy
  have hx : PassesAt (L2.CX X.prog X.w) X σ (fun _ _ _ => False) := fun pins H s e s' I c => by
    obtain ⟨_, _, _, _, _, _, _, _, _, _, _, _, z⟩ := c
    exact z.elim
  refine PySem.W.callWith_K (h₀ := X.base) I.ok.mod.kin hk (thn ((pa_cons (pe_var hi hv hd hcd) ha he).run pos pins s σ H (fun vs H1 => spK X.K rl n Fk vs H1 Q (fun _ _ _ => False)) I ?_) fun us s1 ⟨vs, H1, I1, r1, q1⟩ => ⟨I1.kIn, run_g F hr hgd hb hx I1 r1 q1⟩) he hpl
  cases e1 : Fs η with
  | ex c w z => rw [e1] at q; exact False.elim q
  | no => rw [e1] at q; exact False.elim q
  | ok ds =>
    rw [e1] at q
    have q : PostX X.K rl σ A H η (xPut i Fk ds) Q := q
    unfold xPut at q
    split at q
    case h_2 => exact False.elim q
    rename_i xs hx1
    cases e2 : Fk xs.l ds.1 with
    | ex c w z => rw [e2] at q; exact False.elim q
    | no => rw [e2] at q; exact False.elim q
    | ok r =>
      rw [e2] at q
      have q : PostX X.K rl σ A H η (.ok (r.1, ds.2.set i (.own ⟨xs.b, r.2⟩))) Q := q
      obtain ⟨a, ea, _⟩ := own_ref E hy
      refine ⟨.ref a, ea, ?_⟩
      refine (show tXA X.K Fs σ H _ from ⟨η, A, E, ?_⟩)
      rw [e1]
      intro vs H1 E1 k1 m1 qv
      obtain ⟨mA, us, eu, qu⟩ := own_in E1 hx1 ea
      refine ⟨a, vs, us, xs.l, ds.1, A, rfl, mA, eu, qu, hfs η ds e1, qv, E1.tr, ?_⟩
      rw [e2]
      intro v H' kp tr ⟨us', eu', qu'⟩ rr
      have Ep := E1.put hx1 ea kp tr eu' qu'
      have m2 : Mv σ ds.2 H1 H' := fun b o eb n => kp b o (fun z => n i xs hx1 (by rw [z]; exact ea)) eb
      exact q v H' Ep (k1.trans (Kin.put hx1)) (Mv.trans k1 m1 m2) (hb' _ _ _ _ _ _ (fun a z => Mv.there E E1 m1 z) rr)
end
end Bd
/-! D12: statements with such expressions; the rule of a def that is handed a list. -/
namespace Bd
open PySem L2

section
variable {X : Cx} {f : Fx} {rl : Rl} {e c : Expr} {es : List Expr} {F : Nv → R (D × Nv)} {G : Nv → R (Bool × Nv)} {Gs Gt : Nv → Rs} {pos : Pos}
theorem EnvS.mv {K : PySem.W.Frag} {M : List Addr} {H0 : Hp} {A0 : List Addr} {H H' : Hp} {B : List Addr} {σ : L2.St} {η η' : Nv} (e : EnvS K M H0 A0 H B σ η) (E' : EnvD K H' (B ++ A0) σ η') (k : Kin η η') (m : Mv σ η H H') : EnvS K M H0 A0 H' B σ η' where
  env := E'
  same := fun b o z => by
    obtain ⟨n, z'⟩ := hid_some (e.same b o z)
    obtain ⟨_, z0⟩ := hid_some z
    rw [hid_out n]
    refine m b o z' fun i xs e1 e2 => ?_
    have q := e.own i b xs e1 e2
    split at q
    · rw [e.new b q] at z0
      cases z0
    · exact n q
  mA := e.mA
  new := e.new
  own := fun i a xs e1 e2 => by
    obtain ⟨ys, e3, q⟩ := k.2 i xs e1
    have z := e.own i a ys e3 e2
    rw [q] at z
    exact z
/-- an expression's answer, then the statement's -/
theorem toS_X {g : D × Nv → Rs} {E : Ends} {σ : L2.St} {H : Hp} (h : tS X.K X.mg f.W f.rl f.M f.H0 f.A0 (fun η => (F η).toS g) E σ H) {R1 : V → Hp → Prop}
    (k : ∀ (η η1 : Nv) (B : List Addr) (H1 : Hp) (v : V) (d : D), EnvS X.K f.M f.H0 f.A0 H B σ η → EnvS X.K f.M f.H0 f.A0 H1 B σ η1 → Kin η η1 → Mv σ η H H1 → Same (hid (B ++ f.A0) H) (hid (B ++ f.A0) H1) → rl H H1 (B ++ f.A0) v d → PostS X.K X.mg f.W f.rl f.M f.H0 f.A0 H B (g (d, η1)) E → R1 v H1)
    (nx : ∀ η c w q, F η ≠ .ex c w q) : tX X.K rl F σ H R1 := by
  obtain ⟨η, B, e, p0⟩ := h
  have p : PostS X.K X.mg f.W f.rl f.M f.H0 f.A0 H B ((F η).toS g) E := p0
  refine ⟨η, B ++ f.A0, e.env, ?_⟩
  cases e1 : F η with
  | ok d =>
    rw [e1] at p
    obtain ⟨d, η1⟩ := d
    exact fun v H1 E1 k1 m1 q => k η η1 B H1 v d e (e.mv E1 k1 m1) k1 m1 (m1.hid e.env) q p
  | ex c w q => exact absurd e1 (nx η c w q)
  | no => rw [e1] at p; exact p
/-- an answer, never an exception -/
def only {α : Type} : R α → R α
  | .ok a => .ok a
  | _ => .no
theorem only_nx {α : Type} (r : R α) (c w : Str) (p : D) : only r ≠ .ex c w p := fun e => by cases r <;> cases e
theorem x_only (h : TX X rl e F) : TX X rl e (fun η => only (F η)) := peW h fun σ H Q ⟨η, A, E, p⟩ => ⟨η, A, E, by
  have p : PostX X.K rl σ A H η (only (F η)) Q := p
  cases e : F η with
  | ok d =>
    rw [e] at p
    exact p
  | ex c w z => rw [e] at p; exact False.elim p
  | no => rw [e] at p; exact False.elim p⟩
def xSet (i : Nat) (F : Nv → R (D × Nv)) : Nv → Rs := fun η => (only (F η)).toS fun p => .nx (p.2.set i (.d p.1))
theorem xs_set (i : Nat) {x : Str} {pos' : Pos} (hN : X.N.Nodup) (he : TX X (rD X.K) e F) (hi : X.N[i]? = some x := by rfl) (hx : Loc X.env.scope x := by first | exact Or.inl rfl | exact Or.inr rfl) (hs : swapsWith e (some (.Name x pos')) pos.line X.env = pure false := by rfl)
    (hf : X.fn x = true ∨ X.env.scope.names.lookup x = some .local := by first | exact .inl rfl | exact .inr rfl) : TS' X f (.Assign [.Name x pos'] e pos) (xSet i F) :=
  psW (ps_set hN hi hx (x_only he) hs hf) fun E σ H h => toS_X h (fun η η1 B H1 v d e0 e k m s q p => p _ H1 B (e.set q) s) fun η => only_nx _
def xOwn (i : Nat) (F : Nv → R (D × Nv)) : Nv → Rs := fun η => (only (F η)).toS fun p => match p.1 with
  | .list xs => .nx (p.2.set i (.own ⟨true, xs⟩))
  | _ => .no
def xAsg (T : Tgt) (F : Nv → R (D × Nv)) : Nv → Rs := fun η => (only (F η)).toS fun p => match T p.1 p.2 with
  | some η' => .nx η'
  | none => .no
theorem xs_asg {T : Tgt} {js : List Nat} {tg : Expr} (he : TX X (rD X.K) e F) (hg : TT' X tg T js) (hs : swapsWithSole [tg] e pos.line X.env = pure false := by rfl) (hw : swappedStores [tg] e X.env = pure none := by rfl) (h1 : (assignEach [tg] X.env).map (·.2) = [assign tg X.env] := by rfl) :
    TS' X f (.Assign [tg] e pos) (xAsg T F) := psW (ps_asg (x_only he) hg hs hw h1) fun E σ H h => toS_X h (fun η η1 B H1 v d e0 e k m s q p => by
    have p : PostS X.K X.mg f.W f.rl f.M f.H0 f.A0 H B (match T d η1 with
      | some η' => .nx η'
      | none => .no) E := p
    split at p
    · rename_i η' et
      refine ⟨η1, B ++ f.A0, d, η', e.env, q, et, fun σ' E' S => p σ' H1 B ⟨E', e.same, e.mA, e.new, fun j a xs h1 h2 => ?_⟩ s⟩
      obtain ⟨n, h1⟩ := S.own j xs h1
      rw [S.rest j n] at h2
      exact e.own j a xs h1 h2
    · exact False.elim p) fun η => only_nx _
def xExpr (F : Nv → R (D × Nv)) : Nv → Rs := fun η => (only (F η)).toS fun p => .nx p.2
theorem xs_expr (he : TX X (rD X.K) e F) (hs : swapsWith e none pos.line X.env = pure false := by rfl) : TS' X f (.Expr e pos) (xExpr F) :=
  psW (ps_expr (x_only he) hs) fun E σ H h => toS_X h (fun η η1 B H1 v d e0 e k m s q p => p σ H1 B e s) fun η => only_nx _
def xRet (F : Nv → R (D × Nv)) : Nv → Rs := fun η => (only (F η)).toS fun p => .rt p.1 p.2
theorem xs_ret (he : TX X (rD X.K) e F) (hr : f.rl = rD X.K) : TS' X f (.Return (some e) pos) (xRet F) :=
  psW (ps_ret (x_only he)) fun E σ H h => toS_X h (fun η η1 B H1 v d e0 e k m s q p => p v _ H1 B e (by rw [hr]; exact Dp_mono q hid_app)) fun η => only_nx _
theorem xs_retF (he : TX X (rF X.K) e F) (hr : f.rl = rF X.K) : TS' X f (.Return (some e) pos) (xRet F) :=
  psW (ps_ret (x_only he)) fun E σ H h => toS_X h (fun η η1 B H1 v d e0 e k m s q p => p v _ H1 B e (by
    rw [hr]
    obtain ⟨l, vs, ds, rfl, rfl, hp, hp1, qs⟩ := q
    exact ⟨l, vs, ds, rfl, rfl, e0.free hp, hp1, DpAll_mono qs (hid_mono fun b m => (List.mem_cons.mp m).elim (fun z => by rw [z]; exact List.mem_cons_self) fun z => List.mem_cons_of_mem _ (List.mem_append_right _ z))⟩)) fun η => only_nx _
/-- a test's answer, then the statement's -/
def xIfS (G : Nv → R (Bool × Nv)) (Gs Gt : Nv → Rs) : Nv → Rs := fun η => (only (G η)).toS fun p => if p.1 then Gs p.2 else Gt p.2
theorem xb_only (h : TXB X c G) : TXB X c (fun η => only (G η)) := ptW h fun σ H Q ⟨η, A, E, p⟩ => ⟨η, A, E, by
  have p : PostXB X.K σ A H η (only (G η)) Q := p
  cases e : G η with
  | ok d => rw [e] at p; exact p
  | ex c w z => rw [e] at p; exact False.elim p
  | no => rw [e] at p; exact False.elim p⟩
theorem xs_if {as bs : List Stmt} (hc : TXB X c G) (ha : TSs X f as Gs) (hb : TSs X f bs Gt) : TS' X f (.If c as bs pos) (xIfS G Gs Gt) := psW (ps_if hc ha hb) fun E σ H h => by
  obtain ⟨η, B, e, p0⟩ := h
  have p : PostS X.K X.mg f.W f.rl f.M f.H0 f.A0 H B ((only (G η)).toS fun p => if p.1 then Gs p.2 else Gt p.2) E := p0
  refine (show tXB X.K G σ H _ from ⟨η, B ++ f.A0, e.env, ?_⟩)
  cases e1 : G η with
  | ex c w q => rw [e1] at p; exact False.elim p
  | no => rw [e1] at p; exact False.elim p
  | ok d =>
    rw [e1] at p
    obtain ⟨k, η1⟩ := d
    intro H1 E1 k1 m1
    have e' := e.mv E1 k1 m1
    have s := m1.hid e.env
    cases k with
    | true => exact iteT ⟨η1, B, e', PostS.keep s p⟩
    | false => exact iteF ⟨η1, B, e', PostS.keep s p⟩
end
/-! ### the def's rule -/
def initK (m : Nat) (kx : List D) (ds : List D) : Nv := .own ⟨false, kx⟩ :: initD (m - 1) ds
def outK (d : D) (η : Nv) : R (D × List D) := match η[(0 : Nat)]? with
  | some (.own xs) => if xs.b then .no else .ok (d, xs.l)
  | _ => .no
def runK (m : Nat) (G : Nv → Rs) (kx : List D) (ds : List D) : R (D × List D) := match G (initK m kx ds) with
  | .rt d η => outK d η
  | _ => .no
section
variable {P : Program} {w : World} {K : PySem.W.Frag} {mg : Str → Option Value} {base : Heap}
theorem envK_start {H : Hp} {A : List Addr} {y : Str} {N : List Str} {a : Addr} {ws : List V} {xs : List V} {kx ds : List D} (hA : ∀ p ∈ A, H p ≠ none) (ma : a ∈ A) (ha : H a = some (.lst xs)) (qk : DpAll K (hid A H) xs kx) (q : DpAll K (hid A H) ws ds) : EnvD K H A (L2.start (y :: N) (.ref a :: ws)) (initK (y :: N).length kx ds) := by
  have e0 := env_start (N := N) hA q
  have es : L2.start (y :: N) (.ref a :: ws) = some (.ref a) :: L2.start N ws := by
    unfold L2.start
    simp
  have ei : initK (y :: N).length kx ds = .own ⟨false, kx⟩ :: initD N.length ds := by
    unfold initK
    simp
  rw [es, ei]
  refine ⟨by rw [List.length_cons, List.length_cons, e0.len], fun i s e => ?_, fun i j b us zs h1 h2 _ _ => ?_, hA⟩
  · cases i with
    | zero =>
      rw [List.getElem?_cons_zero] at e
      cases e
      exact ⟨_, rfl, ma, xs, ha, qk⟩
    | succ i =>
      rw [List.getElem?_cons_succ] at e
      obtain ⟨o, e1, q1⟩ := e0.at_ i s e
      exact ⟨o, by rw [List.getElem?_cons_succ]; exact e1, q1⟩
  · cases i with
    | succ i => exact absurd (by rwa [List.getElem?_cons_succ] at h1) no_own
    | zero =>
      cases j with
      | zero => rfl
      | succ j => exact absurd (by rwa [List.getElem?_cons_succ] at h2) no_own
/-- THE RULE: a def whose first name is handed a list that it may change -/
theorem fn_ruleK {x qual : Str} {st : Stmt} {f : Addr} {fd : FuncData} {y : Str} {N ps : List Str} {k : Nat} {rl : Rl} {G : Nv → Rs} (F : Fun K x qual st f fd) (S : FnScope (y :: N) (y :: ps) (defScope st))
    (hbody : ∀ (cdv : Value) (A : Around) (outer : List PySem.Env) (s : Shared) (H : Hp) (E : XK) (A0 : List Addr) (a : Addr), Room k (A.deeper (PyProof.Rows.envOfC qual (defScope st) s.heap.objs.size f cdv)) → A.guards = some [] →
      TSs (cxOf (L2.CX P w) P w K mg base (y :: N) qual (defScope st) f cdv A outer s H E) ⟨fun cls d _ H => E cls d H, rl, [a], H, A0⟩ (defBody st) G) : FnG P w K mg base (k + 1) f fd (y :: ps) (spK K rl ps.length (runK (y :: N).length G)) := by
  refine okG F S (fun vs H Q E h => ?_) fun cdv A outer s H vs Q E room gds prm => ?_
  · obtain ⟨a, ws, xs, kx, ds, A, rfl, _, _, _, hl, q, _⟩ := h
    rw [List.length_cons, DpAll_length q, hl, List.length_cons]
  · obtain ⟨a, ws, xs, kx, ds, A0, rfl, ma, ha, qk, hl, q, hA, hm⟩ := prm
    refine ⟨_, hbody cdv A outer s H E A0 a room gds, ?_⟩
    have E0 := envK_start (y := y) (N := N) hA ma ha qk q
    refine ⟨initK (y :: N).length kx ds, [], ⟨E0, Same.refl _, ⟨(fun p z => by rw [List.mem_singleton.mp z]; exact ma), hA⟩, (fun p z => (List.not_mem_nil z).elim), fun i b us h1 h2 => ?_⟩, ?_⟩
    · have e0 : i = 0 := by
        cases i with
        | zero => rfl
        | succ i =>
          unfold initK at h1
          exact absurd (by rwa [List.getElem?_cons_succ] at h1) no_own
      subst e0
      unfold initK at h1
      cases h1
      have es : (L2.start (y :: N) (.ref a :: ws))[0]? = some (some (.ref a)) := by
        unfold L2.start
        simp
      rw [es] at h2
      cases h2
      exact List.mem_singleton.mpr rfl
    · unfold runK at hm
      cases eg : G (initK (y :: N).length kx ds) with
      | rt d η =>
        rw [eg] at hm
        intro v σ' H' B' e' q'
        have hm : match outK d η with
          | .ok r => ∀ v H', (∀ b o, b ≠ a → H b = some o → H' b = some o) → (∀ p ∈ A0, H' p ≠ none) → (∃ xs', H' a = some (.lst xs') ∧ DpAll K (hid A0 H') xs' r.2) → rl H H' A0 v r.1 → Q v H'
          | _ => False := hm
        unfold outK at hm
        split at hm
        case h_2 => exact hm.elim
        rename_i r er
        split at er
        case h_2 => cases er
        rename_i us eu
        split at er
        case isTrue => cases er
        rename_i hb
        cases er
        obtain ⟨b, eb, _, vs, ev, qv⟩ := own_ref e'.env eu
        have mb := e'.own 0 b us eu eb
        rw [if_neg hb] at mb
        have ba : b = a := List.mem_singleton.mp mb
        subst ba
        refine hm v H' (fun c o n z => ?_) (fun p m => e'.env.tr p (List.mem_append_right _ m)) ⟨vs, ev, DpAll_mono qv hid_app⟩ q'
        obtain ⟨_, z'⟩ := hid_some (e'.same c o (by rw [hid_out fun w => n (List.mem_singleton.mp w)]; exact z))
        exact z'
      | nx η => rw [eg] at hm; exact hm.elim
      | ex c w p => rw [eg] at hm; exact hm.elim
      | bk η => rw [eg] at hm; exact hm.elim
      | ct η => rw [eg] at hm; exact hm.elim
      | no => rw [eg] at hm; exact hm.elim
end
end Bd
/-! D13: walks and comprehensions that change lists; name[k] = e. -/
namespace Bd
open PySem L2

def PostXI (K : PySem.W.Frag) (σ : L2.St) (A : List Addr) (H : Hp) (η : Nv) (r : R (List D × Nv)) (Q : It → Hp → Prop) : Prop :=
  match r with
  | .ok p => ∀ J H', EnvD K H' A σ p.2 → Kin η p.2 → Mv σ η H H' → Walks K J H' A p.1 → Q J H'
  | _ => False
def tXI (K : PySem.W.Frag) (F : Nv → R (List D × Nv)) : TI := fun σ H Q => ∃ η A, EnvD K H A σ η ∧ PostXI K σ A H η (F η) Q
def TXI (X : Cx) (tg iter : Expr) (F : Nv → R (List D × Nv)) : Prop := PI X tg iter (tXI X.K F)
def upI (F : Nv → R (List D)) : Nv → R (List D × Nv) := fun η => match F η with
  | .ok d => .ok (d, η)
  | _ => .no
section
variable {X : Cx} {W : WX} {a b e tg iter elt : Expr} {Fs : Nv → R (List D × Nv)} {pos : Pos}
theorem xi_up {F : Nv → R (List D)} (h : TI' X W tg iter F) : TXI X tg iter (upI F) := piW h fun σ H Q ⟨η, A, E, p⟩ => ⟨η, A, E, by
  unfold upI at p
  cases e : F η with
  | ok d =>
    rw [e] at p
    exact fun v H' s q => p v H' (E.same s) (Kin.refl η) (Mv.of s) q
  | ex c w z => rw [e] at p; exact False.elim p
  | no => rw [e] at p; exact False.elim p⟩
def xR1 (Fs : Nv → R (List D × Nv)) : Nv → R (List D × Nv) := fun η => (Fs η).bind fun p => (rng1 p.1).bind fun d => .ok (d, p.2)
def xR2 (Fs : Nv → R (List D × Nv)) : Nv → R (List D × Nv) := fun η => (Fs η).bind fun p => (rng2 p.1).bind fun d => .ok (d, p.2)
theorem xi_range1 {p : Pos} (hg : Gl X "range") (hm : X.mg "range" = none) (ha : TXA X [a] Fs) (hs : starEach [a] X.env = [(false, eval a X.env)] := by rfl) : TXI X tg (.Call (.Name "range" p) [a] [] pos) (xR1 Fs) := piW (pi_range1 hg hm ha hs) fun σ H Q ⟨η, A, E, p⟩ =>
  stepXA (Pn := fun η r => PostXI X.K σ A H η r Q) E p (fun _ _ _ z => z) (fun z => z) fun ds η1 vs H1 E1 k1 m1 q p => by
    have p : PostXI X.K σ A H η ((rng1 ds).bind fun d => .ok (d, η1)) Q := p
    unfold rng1 at p
    split at p
    · split at p
      · rename_i h
        exact ⟨_, allI1 (dpAll_V q), h.1, h.2, p _ H1 E1 k1 m1 walks_range⟩
      · exact False.elim p
    · exact False.elim p
theorem xi_range2 {p : Pos} (hg : Gl X "range") (hm : X.mg "range" = none) (ha : TXA X [a, b] Fs) (hs : starEach [a, b] X.env = [(false, eval a X.env), (false, eval b X.env)] := by rfl) (hs2 : starEach [b] X.env = [(false, eval b X.env)] := by rfl) :
    TXI X tg (.Call (.Name "range" p) [a, b] [] pos) (xR2 Fs) := piW (pi_range2 hg hm ha hs hs2) fun σ H Q ⟨η, A, E, p⟩ =>
  stepXA (Pn := fun η r => PostXI X.K σ A H η r Q) E p (fun _ _ _ z => z) (fun z => z) fun ds η1 vs H1 E1 k1 m1 q p => by
    have p : PostXI X.K σ A H η ((rng2 ds).bind fun d => .ok (d, η1)) Q := p
    unfold rng2 at p
    split at p
    · split at p
      · rename_i h
        exact ⟨_, _, allI2 (dpAll_V q), ⟨h.1, h.2.1, h.2.2.1, h.2.2.2⟩, p _ H1 E1 k1 m1 walks_range⟩
      · exact False.elim p
    · exact False.elim p
end
/-! ### comprehensions -/
def compX (T : Tgt) (C : Nv → R (Bool × Nv)) (El : Nv → R (D × Nv)) (vs : List Nat) : List D → Nv → R (List D × Nv)
  | [], η => .ok ([], η)
  | x :: xs, η => match T x η with
    | none => .no
    | some η1 => (C η1).bindN fun b => if b.1 then (El b.2).bindN fun y => (compX T C El vs xs (wipeE y.2 vs)).bindN fun q => .ok (y.1 :: q.1, q.2) else compX T C El vs xs (wipeE b.2 vs)
def xComp (Fi : Nv → R (List D × Nv)) (T : Tgt) (C : Nv → R (Bool × Nv)) (El : Nv → R (D × Nv)) (vs : List Nat) : Nv → R (D × Nv) := fun η => (Fi η).bindN fun p => (compX T C El vs p.1 (wipeE p.2 vs)).bindN fun q => if q.1.length ≤ lineN then .ok (.list q.1, q.2) else .no
/-- the lists of one's own here are those of there -/
def Sub (vs : List Nat) (σ : L2.St) (ηf : Nv) (σ' : L2.St) (η' : Nv) : Prop := ∀ (j : Nat) (xs' : OL), η'[j]? = some (.own xs') → ∃ xs : OL, ηf[j]? = some (.own xs) ∧ xs.b = xs'.b ∧ σ'[j]? = σ[j]? ∧ j ∉ vs
section
variable {K : PySem.W.Frag} {H H' H1 H2 : Hp} {A : List Addr} {σ σ' : L2.St} {η η' ηf ηp : Nv} {vs : List Nat} {M : Addr}
theorem Sub.kin (s : Sub vs σ ηf σ' η') (k : Kin η' η) : Sub vs σ ηf σ' η := fun j xs e => by
  obtain ⟨ys, e1, b1⟩ := k.2 j xs e
  obtain ⟨zs, e2, b2, r⟩ := s j ys e1
  exact ⟨zs, e2, b2.trans b1, r⟩
theorem Sub.stored {js : List Nat} (s : Sub vs σ ηf σ' η') {σ2 : L2.St} (S : Stored σ' σ2 η' η js) : Sub vs σ ηf σ2 η := fun j xs e => by
  obtain ⟨n, e1⟩ := S.own j xs e
  obtain ⟨zs, e2, b2, e3, r⟩ := s j xs e1
  exact ⟨zs, e2, b2, (S.rest j n).trans e3, r⟩
theorem Sub.wp (s : Sub vs σ ηf σ' η') (hw : L2.wipe σ' vs = L2.wipe σ vs) : Sub vs σ ηf (L2.wipe σ vs) (wipeE η' vs) := fun j xs e => by
  rw [wipeE_get] at e
  split at e
  · cases q : η'[j]? <;> (rw [q] at e; cases e)
  · rename_i hj
    obtain ⟨zs, e2, b2, e3, _⟩ := s j xs e
    exact ⟨zs, e2, b2, by rw [wipe_get, if_neg hj], hj⟩
theorem Sub.start : Sub vs σ ηf (L2.wipe σ vs) (wipeE ηf vs) := fun j xs e => by
  rw [wipeE_get] at e
  split at e
  · cases q : ηf[j]? <;> (rw [q] at e; cases e)
  · rename_i hj
    exact ⟨xs, e, rfl, by rw [wipe_get, if_neg hj], hj⟩
theorem Sub.mv (s : Sub vs σ ηf σ' η') (m : Mv σ' η' H H') : Mv σ ηf H H' := fun a o e n => m a o e fun i xs e1 e2 => by
  obtain ⟨ys, e3, _, e4, _⟩ := s i xs e1
  exact n i ys e3 (e4.symm.trans e2)
theorem Sub.notM (s : Sub vs σ ηf σ' η') (E1 : EnvD K H1 A σ ηf) (nM : H1 M = none) : ∀ (j : Nat) (xs : OL), η'[j]? = some (.own xs) → σ'[j]? ≠ some (some (.ref M)) := fun j xs e z => by
  obtain ⟨ys, e3, _, e4, _⟩ := s j xs e
  exact E1.tr M (own_in E1 e3 (e4.symm.trans z)).1 nM
theorem mv_self (E : EnvD K H A σ ηf) {M : List Addr} : True := trivial
theorem mv_refl : Mv σ ηf H H := Mv.of (Same.refl _)
theorem Mv.thru (h : Mv σ ηf H H1) (h2 : Mv σ ηf H1 H2) : Mv σ ηf H H2 := Mv.trans (Kin.refl _) h h2
theorem EnvD.updM {o : HO} (E : EnvD K H (M :: A) σ η) (nm : ∀ (j : Nat) (xs : OL), η[j]? = some (.own xs) → σ[j]? ≠ some (some (.ref M))) : EnvD K (upd H M o) (M :: A) σ η where
  len := E.len
  at_ := fun j s e => by
    obtain ⟨v, e1, q⟩ := E.at_ j s e
    refine ⟨v, e1, ?_⟩
    have eh : hid (M :: A) (upd H M o) = hid (M :: A) H := hid_upd List.mem_cons_self
    cases s with
    | no => cases v <;> trivial
    | d x =>
      cases v with
      | none => exact q
      | some v =>
        show Dp K (hid (M :: A) (upd H M o)) v x
        rw [eh]
        exact q
    | own zs =>
      match v, q, e1 with
      | some (.ref b), ⟨m, ws, e2, q⟩, e1 =>
        refine ⟨m, ws, by rw [upd_ne fun z => nm j zs e (by rw [e1, z])]; exact e2, ?_⟩
        rw [eh]
        exact q
    | m x => exact q.m' (eh ▸ Same.refl _)
  ap := E.ap
  tr := fun a m => by
    by_cases h : a = M
    · rw [h, upd_same]
      exact fun z => nomatch z
    · rw [upd_ne h]
      exact E.tr a m
theorem EnvD.back {A2 : List Addr} (E2 : EnvD K H2 A2 (L2.wipe σ vs) (wipeE ηp vs)) (s : Sub vs σ ηf (L2.wipe σ vs) (wipeE ηp vs)) : EnvD K H2 A2 σ (wipeE ηp vs) where
  len := by rw [← E2.len, wipe_length]
  at_ := fun j sl e => by
    obtain ⟨o, e1, q⟩ := E2.at_ j sl e
    rw [wipe_get] at e1
    by_cases hj : j ∈ vs
    · rw [if_pos hj] at e1
      rw [wipeE_get, if_pos hj] at e
      cases qe : ηp[j]? with
      | none => rw [qe] at e; cases e
      | some s0 =>
        rw [qe] at e
        cases e
        cases qs : σ[j]? with
        | none => rw [qs] at e1; cases e1
        | some o1 => exact ⟨o1, rfl, by cases o1 <;> trivial⟩
    · rw [if_neg hj] at e1
      exact ⟨o, e1, q⟩
  ap := fun i j a xs ys h1 h2 h3 h4 => by
    obtain ⟨_, _, _, e1, _⟩ := s i xs h1
    obtain ⟨_, _, _, e2, _⟩ := s j ys h2
    exact E2.ap i j a xs ys h1 h2 (e1.trans h3) (e2.trans h4)
  tr := E2.tr
theorem mv_new (E1 : EnvD K H1 A σ ηf) (nM : H1 M = none) (m : Mv σ ηf H1 H2) : Same (hid A H1) (hid (M :: A) H2) := fun b o e => by
  obtain ⟨n, e⟩ := hid_some e
  have nb : b ≠ M := fun z => by
    rw [z, nM] at e
    cases e
  rw [hid_out fun z => (List.mem_cons.mp z).elim nb n]
  exact m b o e fun i xs e1 e2 => n (own_in E1 e1 e2).1
theorem Sub.kinf (s : Sub vs σ ηf (L2.wipe σ vs) (wipeE ηp vs)) (hl : (wipeE ηp vs).length = ηf.length) : Kin ηf (wipeE ηp vs) := ⟨hl, fun j xs e => by
  obtain ⟨ys, e3, b, _⟩ := s j xs e
  exact ⟨ys, e3, b⟩⟩
end
section
variable {X : Cx} {e tg iter elt : Expr} {pos : Pos}
theorem lc_x {Fi : Nv → R (List D × Nv)} {T : Tgt} {js vs : List Nat} {C : Nv → R (Bool × Nv)} {El : Nv → R (D × Nv)} (hj : ∀ j ∈ js, j ∈ vs) {σ : L2.St} {H : Hp} {Q : VK} (h : tXF X.K (xComp Fi T C El vs) σ H Q) :
    tLc (tXI X.K Fi) (gD X.K T js) (tXB X.K C) (tX X.K (rD X.K) El) vs σ H Q := by
  obtain ⟨η, A, E, p0⟩ := h
  have p : PostXF X.K σ A H η (xComp Fi T C El vs η) Q := p0
  unfold xComp at p
  refine (show tXI X.K Fi σ H _ from ⟨η, A, E, ?_⟩)
  cases e1 : Fi η with
  | ex c w q => rw [e1] at p; exact False.elim p
  | no => rw [e1] at p; exact False.elim p
  | ok df =>
    rw [e1] at p
    obtain ⟨ds, ηf⟩ := df
    have p : PostXF X.K σ A H η ((compX T C El vs ds (wipeE ηf vs)).bindN fun q => if q.1.length ≤ lineN then .ok (.list q.1, q.2) else .no) Q := p
    cases e2 : compX T C El vs ds (wipeE ηf vs) with
    | ex c w q => rw [e2] at p; exact False.elim p
    | no => rw [e2] at p; exact False.elim p
    | ok yq =>
      rw [e2] at p
      obtain ⟨ys, ηz⟩ := yq
      have p : PostXF X.K σ A H η (if ys.length ≤ lineN then .ok (.list ys, ηz) else .no) Q := p
      split at p
      · rename_i hz
        intro J H1 E1 k1 m1 wk M nM
        have E1 : EnvD X.K H1 A σ ηf := E1
        have Ew : EnvD X.K (upd H1 M (.lst [])) (M :: A) (L2.wipe σ vs) (wipeE ηf vs) := (E1.new (same_new nM) nM (by rw [upd_same]; exact fun z => nomatch z)).wipe vs
        refine ⟨fun i m H2 => m + i = ds.length ∧ ∃ ηp done rest acc, ys = done ++ rest ∧ compX T C El vs (ds.drop i) (wipeE ηp vs) = .ok (rest, ηz) ∧ EnvD X.K H2 (M :: A) (L2.wipe σ vs) (wipeE ηp vs) ∧ ηp.length = ηf.length ∧ Sub vs σ ηf (L2.wipe σ vs) (wipeE ηp vs) ∧ Mv σ ηf H1 H2 ∧ H2 M = some (.lst acc) ∧ DpAll X.K (hid (M :: A) H2) acc done,
          ⟨ds.length, rfl, ηf, [], ys, [], rfl, e2, Ew, rfl, Sub.start, Mv.of (same_new nM), upd_same, .nil⟩, fun i m H2 hw => ?_⟩
        obtain ⟨em, ηp, done, rest, acc, ey, er, E2, ln, sb, mv, hM, hd⟩ := hw
        have sh : Same (hid A H1) (hid (M :: A) H2) := mv_new E1 nM mv
        cases hx : ds[i]? with
        | none =>
          have hi : ds.length ≤ i := List.getElem?_eq_none_iff.mp hx
          have ei : i = ds.length := by omega
          subst ei
          rw [List.drop_length] at er
          have er : R.ok (([] : List D), wipeE ηp vs) = .ok (rest, ηz) := er
          cases er
          rw [List.append_nil] at ey
          subst ey
          have kf : Kin ηf (wipeE ηp vs) := sb.kinf (by rw [wipeE_length, ln])
          refine .inl ⟨wk.stop _ _ sh, p M acc _ H2 rfl (E2.back sb) (k1.trans kf) (Mv.trans k1 m1 mv) ?_ hM hd⟩
          cases hM0 : H M with
          | none => rfl
          | some o => exact absurd nM (Mv.there E E1 m1 (by rw [hM0]; exact fun z => nomatch z))
        | some x =>
          have hi : i < ds.length := (List.getElem?_eq_some_iff.mp hx).1
          have ed : ds.drop i = x :: ds.drop (i + 1) := by
            rw [List.drop_eq_getElem_cons hi]
            congr 1
            exact (List.getElem?_eq_some_iff.mp hx).2
          obtain ⟨g1, g2⟩ := wk.step i x hx _ _ sh E2.tr
          refine .inr ⟨g1, fun H' => ∃ m', m' < m ∧ (m' + (i + 1) = ds.length ∧ ∃ ηp done rest acc, ys = done ++ rest ∧ compX T C El vs (ds.drop (i + 1)) (wipeE ηp vs) = .ok (rest, ηz) ∧ EnvD X.K H' (M :: A) (L2.wipe σ vs) (wipeE ηp vs) ∧ ηp.length = ηf.length ∧ Sub vs σ ηf (L2.wipe σ vs) (wipeE ηp vs) ∧ Mv σ ηf H1 H' ∧ H' M = some (.lst acc) ∧ DpAll X.K (hid (M :: A) H') acc done), fun H' hN => hN, fun v H3 y => ?_⟩
          obtain ⟨s3, qv⟩ := g2 v H3 y
          rw [ed] at er
          unfold compX at er
          cases et : T x (wipeE ηp vs) with
          | none => rw [et] at er; cases er
          | some η1 =>
            rw [et] at er
            obtain ⟨⟨bk, ηb⟩, ec, er⟩ := R.bindN_ok er
            refine ⟨wipeE ηp vs, M :: A, x, η1, E2.same s3, qv, et, fun σ2 E3 S => ?_⟩
            have hw : L2.wipe σ2 vs = L2.wipe σ vs := stored_wipe S hj (S.len.trans (wipe_length σ vs))
            have sb1 : Sub vs σ ηf σ2 η1 := sb.stored S
            have ln1 : η1.length = ηf.length := by rw [← E3.len, S.len, wipe_length, E1.len]
            refine ⟨hw, ?_⟩
            refine (show tXB X.K C σ2 H3 _ from ⟨η1, M :: A, E3, ?_⟩)
            rw [ec]
            intro H4 E4 k4 m4
            have E4 : EnvD X.K H4 (M :: A) σ2 ηb := E4
            have k4 : Kin η1 ηb := k4
            have sb4 : Sub vs σ ηf σ2 ηb := sb1.kin k4
            have mv4 : Mv σ ηf H1 H4 := (mv.thru (Mv.of s3)).thru (sb1.mv m4)
            have M4 : H4 M = some (.lst acc) := m4 M _ (s3 _ _ hM) (sb1.notM E1 nM)
            have hd4 : DpAll X.K (hid (M :: A) H4) acc done := DpAll_mono hd ((hid_same s3).trans (m4.hid E3))
            cases bk with
            | false =>
              refine iteF ⟨m - 1, by omega, by omega, ηb, done, rest, acc, ey, er, ?_, k4.1.trans ln1, sb4.wp hw, mv4, M4, hd4⟩
              have := E4.wipe vs
              rw [hw] at this
              exact this
            | true =>
              obtain ⟨⟨y, ηe⟩, ee, er⟩ := R.bindN_ok er
              obtain ⟨⟨rest', ηz'⟩, er', e3⟩ := R.bindN_ok er
              cases e3
              refine iteT (show tX X.K (rD X.K) El σ2 H4 _ from ⟨ηb, M :: A, E4, ?_⟩)
              rw [ee]
              intro w H5 E5 k5 m5 qw
              have E5 : EnvD X.K H5 (M :: A) σ2 ηe := E5
              have k5 : Kin ηb ηe := k5
              have sb5 : Sub vs σ ηf σ2 ηe := sb4.kin k5
              have M5 : H5 M = some (.lst acc) := m5 M _ M4 (sb4.notM E1 nM)
              have hd5 : DpAll X.K (hid (M :: A) H5) acc done := DpAll_mono hd4 (m5.hid E4)
              have hidM : hid (M :: A) (upd H5 M (.lst (acc ++ [w]))) = hid (M :: A) H5 := hid_upd List.mem_cons_self
              have hl : acc.length = done.length := DpAll_length hd
              refine ⟨acc, M5, ?_, m - 1, by omega, by omega, ηe, done ++ [y], rest', acc ++ [w], by rw [ey, List.append_assoc]; rfl, er', ?_, (k4.trans k5).1.trans ln1, sb5.wp hw, ?_, upd_same, ?_⟩
              · rw [line_eq, hl]
                have : ys.length = done.length + (rest'.length + 1) := by rw [ey, List.length_append, List.length_cons]
                omega
              · have z := (E5.updM (o := .lst (acc ++ [w])) (sb5.notM E1 nM)).wipe vs
                rw [hw] at z
                exact z
              · intro b o eb n
                rw [upd_ne fun z => by subst z; rw [nM] at eb; cases eb]
                exact (mv4.thru (sb4.mv m5)) b o eb n
              · rw [hidM]
                exact DpAll_append hd5 (.cons qw .nil)
      · exact False.elim p
theorem xcs_nil {X : Cx} : PTs X [] (tXB X.K fun η => .ok (true, η)) := ⟨fun pins s σ H Q I q => pts_nil.run pins s σ H Q I (by obtain ⟨η, A, E, p⟩ := q; exact p H E (Kin.refl η) mv_refl)⟩
theorem xcs_one {X : Cx} {c : Expr} {G : Nv → R (Bool × Nv)} (h : TXB X c G) : PTs X [c] (tXB X.K G) := pts_one h
variable {ifs : List Expr} {scope : Scope} {own : List (Str × Nat)} {Fi : Nv → R (List D × Nv)} {T : Tgt} {js : List Nat} {C : Nv → R (Bool × Nv)} {El : Nv → R (D × Nv)}
theorem x_lc (hc : X.calm = true) (hN : X.N.Nodup) (hi : TXI X tg iter Fi) (ok : BlkOk X.N X.env.scope scope own)
    (hg : ∀ (s : Shared) (H : Hp) (C : Addr) (cl : List (Str × Addr)) (fp : List Addr), TT' (X.blk s H scope (compEnvC scope cl C X.env) fp) tg T js)
    (ht : ∀ (s : Shared) (H : Hp) (D : Addr) (cl : List (Str × Addr)) (fp : List Addr), PTs (X.blk s H scope (compEnvC scope cl D X.env) fp) ifs (tXB X.K C))
    (he : ∀ (s : Shared) (H : Hp) (D : Addr) (cl : List (Str × Addr)) (fp : List Addr), TX (X.blk s H scope (compEnvC scope cl D X.env) fp) (rD X.K) elt El)
    {vs : List Nat} (hv : own.map (·.2) = vs := by rfl) (hj : ∀ j ∈ js, j ∈ own.map (·.2) := by decide) (hs : ∀ x, foldedSetIterable iter X.env x = pure x := by intro _; rfl) : TXF X (.ListComp elt [⟨tg, iter, ifs, 0⟩] scope pos) (xComp Fi T C El vs) := by
  subst hv
  exact peW (pe_lc hc hN hi ok (fun s H C cl fp => show PG _ tg (gD X.K T js) from hg s H C cl fp) ht (fun s H C cl fp => show PE _ elt (tX X.K (rD X.K) El) from he s H C cl fp) hs) fun σ H Q h => lc_x hj h
end
end Bd
/-! D14: more statements that change lists. -/
namespace Bd
open PySem L2

section
variable {K : PySem.W.Frag} {M : List Addr} {H0 : Hp} {A0 : List Addr} {H H1 : Hp} {B : List Addr} {σ : L2.St} {η η1 : Nv} {i : Nat} {l : Addr} {vs : List V} {xs : List D}
theorem EnvS.more (e : EnvS K M H0 A0 H B σ η) (E1 : EnvD K H1 (l :: (B ++ A0)) σ η1) (k : Kin η η1) (m : Mv σ η H H1) (hl : H l = none) : EnvS K M H0 A0 H1 (l :: B) σ η1 := by
  have z := e.mv (E1.shrink e.env k) k m
  refine ⟨E1, z.same, z.mA, fun b mb => ?_, fun j a ys h1 h2 => ?_⟩
  · rcases List.mem_cons.mp mb with rfl | mb
    · exact e.free hl
    · exact e.new b mb
  · have q := z.own j a ys h1 h2
    cases hb : ys.b with
    | true =>
      rw [hb] at q
      exact List.mem_cons_of_mem _ q
    | false =>
      rw [hb] at q
      exact q
theorem EnvS.hold (e : EnvS K M H0 A0 H1 (l :: B) σ η1) (fr : ∀ (j : Nat) (ys : OL), η1[j]? = some (.own ys) → σ[j]? ≠ some (some (.ref l))) (h1 : H1 l = some (.lst vs)) (q : DpAll K (hid (l :: B ++ A0) H1) vs xs) : EnvS K M H0 A0 H1 (l :: B) (σ.set i (some (.ref l))) (η1.set i (.own ⟨true, xs⟩)) := by
  have what : ∀ (j : Nat) (sl : Sl), (η1.set i (.own ⟨true, xs⟩))[j]? = some sl → (j = i ∧ i < η1.length ∧ sl = .own ⟨true, xs⟩) ∨ (j ≠ i ∧ η1[j]? = some sl) := fun j sl h => by
    by_cases hj : j = i
    · subst hj
      by_cases hl : j < η1.length
      · rw [List.getElem?_set_self hl] at h
        exact .inl ⟨rfl, hl, (Option.some.inj h).symm⟩
      · rw [List.getElem?_eq_none (by rw [List.length_set]; omega)] at h
        cases h
    · rw [List.getElem?_set_ne fun z => hj z.symm] at h
      exact .inr ⟨hj, h⟩
  have off : ∀ j, j ≠ i → (σ.set i (some (.ref l)))[j]? = σ[j]? := fun j n => List.getElem?_set_ne fun z => n z.symm
  have on : i < η1.length → (σ.set i (some (.ref l)))[i]? = some (some (.ref l)) := fun hl => List.getElem?_set_self (by rw [e.env.len]; exact hl)
  refine ⟨⟨by rw [List.length_set, List.length_set, e.env.len], fun j sl h => ?_, fun j k a ys zs g1 g2 g3 g4 => ?_, e.env.tr⟩, e.same, e.mA, e.new, fun j a ys g1 g2 => ?_⟩
  · rcases what j sl h with ⟨ej, hl, es⟩ | ⟨n, h⟩
    · subst ej es
      exact ⟨_, on hl, List.mem_append_left _ List.mem_cons_self, vs, h1, q⟩
    · rw [off j n]
      exact e.env.at_ j sl h
  · rcases what j _ g1 with ⟨ej, hl, _⟩ | ⟨n, f1⟩
    · rcases what k _ g2 with ⟨ek, _, _⟩ | ⟨n2, f2⟩
      · rw [ej, ek]
      · rw [ej, on hl] at g3
        cases g3
        rw [off k n2] at g4
        exact absurd g4 (fr k zs f2)
    · rcases what k _ g2 with ⟨ek, hl, _⟩ | ⟨n2, f2⟩
      · rw [ek, on hl] at g4
        cases g4
        rw [off j n] at g3
        exact absurd g3 (fr j ys f1)
      · rw [off j n] at g3
        rw [off k n2] at g4
        exact e.env.ap j k a ys zs f1 f2 g3 g4
  · rcases what j _ g1 with ⟨ej, hl, es⟩ | ⟨n, f1⟩
    · rw [ej, on hl] at g2
      cases g2
      cases es
      exact List.mem_cons_self
    · rw [off j n] at g2
      exact e.own j a ys f1 g2
theorem mv_more (E : EnvD K H (B ++ A0) σ η) (m : Mv σ η H H1) (hl : H l = none) : Same (hid (B ++ A0) H) (hid (l :: B ++ A0) H1) := mv_new E hl m
end
section
variable {X : Cx} {f : Fx} {rl : Rl} {e c tg iter elt : Expr} {es : List Expr} {F : Nv → R (D × Nv)} {G : Nv → R (Bool × Nv)} {Gs Gt : Nv → Rs} {pos : Pos}
theorem xF_only (h : TXF X e F) : TXF X e (fun η => only (F η)) := peW h fun σ H Q ⟨η, A, E, p⟩ => ⟨η, A, E, by
  have p : PostXF X.K σ A H η (only (F η)) Q := p
  cases e : F η with
  | ok d =>
    rw [e] at p
    exact p
  | ex c w z => rw [e] at p; exact False.elim p
  | no => rw [e] at p; exact False.elim p⟩
theorem toS_XF {g : D × Nv → Rs} {E : Ends} {σ : L2.St} {H : Hp} (h : tS X.K X.mg f.W f.rl f.M f.H0 f.A0 (fun η => (only (F η)).toS g) E σ H) {R1 : V → Hp → Prop}
    (k : ∀ (η η1 : Nv) (B : List Addr) (H1 : Hp) (l : Addr) (vs : List V) (ds : List D), EnvS X.K f.M f.H0 f.A0 H B σ η → EnvD X.K H1 (l :: (B ++ f.A0)) σ η1 → Kin η η1 → Mv σ η H H1 → H l = none → H1 l = some (.lst vs) → DpAll X.K (hid (l :: (B ++ f.A0)) H1) vs ds → PostS X.K X.mg f.W f.rl f.M f.H0 f.A0 H B (g (.list ds, η1)) E → R1 (.ref l) H1) : tXF X.K F σ H R1 := by
  obtain ⟨η, B, e, p0⟩ := h
  have p : PostS X.K X.mg f.W f.rl f.M f.H0 f.A0 H B ((only (F η)).toS g) E := p0
  refine ⟨η, B ++ f.A0, e.env, ?_⟩
  cases e1 : F η with
  | ok d =>
    rw [e1] at p
    obtain ⟨d, η1⟩ := d
    intro l vs ds H1 ed E1 k1 m1 hl hl1 q
    have ed : d = .list ds := ed
    subst ed
    exact k η η1 B H1 l vs ds e E1 k1 m1 hl hl1 q p
  | ex c w q => rw [e1] at p; exact False.elim p
  | no => rw [e1] at p; exact False.elim p
theorem own_end {E : Ends} {σ : L2.St} {η η1 : Nv} {B : List Addr} {H H1 : Hp} {l : Addr} {vs : List V} {ds : List D} (i : Nat) (e : EnvS X.K f.M f.H0 f.A0 H B σ η) (E1 : EnvD X.K H1 (l :: (B ++ f.A0)) σ η1) (k : Kin η η1) (m : Mv σ η H H1) (hl : H l = none) (hl1 : H1 l = some (.lst vs)) (q : DpAll X.K (hid (l :: (B ++ f.A0)) H1) vs ds)
    (p : PostS X.K X.mg f.W f.rl f.M f.H0 f.A0 H B (.nx (η1.set i (.own ⟨true, ds⟩))) E) : E.nx (σ.set i (some (.ref l))) H1 :=
  p _ H1 (l :: B) ((e.more E1 k m hl).hold (fun j ys h1 h2 => by
    obtain ⟨zs, e3, _⟩ := k.2 j ys h1
    exact e.env.tr l (own_in e.env e3 h2).1 hl) hl1 q) (mv_more e.env m hl)
theorem xs_own (i : Nat) {x : Str} {pos' : Pos} (hN : X.N.Nodup) (he : TXF X e F) (hi : X.N[i]? = some x := by rfl) (hx : Loc X.env.scope x := by first | exact Or.inl rfl | exact Or.inr rfl) (hs : swapsWith e (some (.Name x pos')) pos.line X.env = pure false := by rfl)
    (hf : X.fn x = true ∨ X.env.scope.names.lookup x = some .local := by first | exact .inl rfl | exact .inr rfl) : TS' X f (.Assign [.Name x pos'] e pos) (xOwn i F) :=
  psW (ps_set hN hi hx he hs hf) fun E σ H h => toS_XF h fun η η1 B H1 l vs ds e0 E1 k m hl hl1 q p => own_end i e0 E1 k m hl hl1 q p
variable {ifs : List Expr} {scope : Scope} {own : List (Str × Nat)} {Fi : Nv → R (List D × Nv)} {T : Tgt} {js : List Nat} {C : Nv → R (Bool × Nv)} {El : Nv → R (D × Nv)}
/-- name = [.. for ..] where the walk's line folds the two -/
theorem xs_ownLc (i : Nat) {y : Str} {py spos : Pos} (hc : X.calm = true) (hN : X.N.Nodup)
    (hsw : swapsWith (.ListComp elt [⟨tg, iter, ifs, 0⟩] scope pos) (some (.Name y py)) spos.line X.env = pure true) (hi : TXI X tg iter Fi) (ok : BlkOk X.N X.env.scope scope own)
    (hg : ∀ (s : Shared) (H : Hp) (C : Addr) (cl : List (Str × Addr)) (fp : List Addr), TT' (X.blk s H scope (compEnvC scope cl C X.env) fp) tg T js)
    (ht : ∀ (s : Shared) (H : Hp) (D : Addr) (cl : List (Str × Addr)) (fp : List Addr), PTs (X.blk s H scope (compEnvC scope cl D X.env) fp) ifs (tXB X.K C))
    (he : ∀ (s : Shared) (H : Hp) (D : Addr) (cl : List (Str × Addr)) (fp : List Addr), TX (X.blk s H scope (compEnvC scope cl D X.env) fp) (rD X.K) elt El)
    (hy : X.N[i]? = some y := by rfl) (hyl : X.env.scope.names.lookup y = some .local := by rfl) {vs : List Nat} (hv : own.map (·.2) = vs := by rfl) (hj : ∀ j ∈ js, j ∈ own.map (·.2) := by decide) (hs : ∀ x, foldedSetIterable iter X.env x = pure x := by intro _; rfl) :
    TS' X f (.Assign [.Name y py] (.ListComp elt [⟨tg, iter, ifs, 0⟩] scope pos) spos) (xOwn i (xComp Fi T C El vs)) := by
  subst hv
  exact psW (ps_setLc hc hN hy hyl hsw hi ok (fun s H C cl fp => show PG _ tg (gD X.K T js) from hg s H C cl fp) ht (fun s H C cl fp => show PE _ elt (tX X.K (rD X.K) El) from he s H C cl fp) hs) fun E σ H h =>
    lc_x hj (toS_XF h fun η η1 B H1 l vs ds e0 E1 k m hl hl1 q p => own_end i e0 E1 k m hl hl1 q p)
theorem xs_setLc (i : Nat) {y : Str} {py spos : Pos} (hc : X.calm = true) (hN : X.N.Nodup)
    (hsw : swapsWith (.ListComp elt [⟨tg, iter, ifs, 0⟩] scope pos) (some (.Name y py)) spos.line X.env = pure true) (hi : TXI X tg iter Fi) (ok : BlkOk X.N X.env.scope scope own)
    (hg : ∀ (s : Shared) (H : Hp) (C : Addr) (cl : List (Str × Addr)) (fp : List Addr), TT' (X.blk s H scope (compEnvC scope cl C X.env) fp) tg T js)
    (ht : ∀ (s : Shared) (H : Hp) (D : Addr) (cl : List (Str × Addr)) (fp : List Addr), PTs (X.blk s H scope (compEnvC scope cl D X.env) fp) ifs (tXB X.K C))
    (he : ∀ (s : Shared) (H : Hp) (D : Addr) (cl : List (Str × Addr)) (fp : List Addr), TX (X.blk s H scope (compEnvC scope cl D X.env) fp) (rD X.K) elt El)
    (hy : X.N[i]? = some y := by rfl) (hyl : X.env.scope.names.lookup y = some .local := by rfl) {vs : List Nat} (hv : own.map (·.2) = vs := by rfl) (hj : ∀ j ∈ js, j ∈ own.map (·.2) := by decide) (hs : ∀ x, foldedSetIterable iter X.env x = pure x := by intro _; rfl) :
    TS' X f (.Assign [.Name y py] (.ListComp elt [⟨tg, iter, ifs, 0⟩] scope pos) spos) (xSet i (xComp Fi T C El vs)) := by
  subst hv
  exact psW (ps_setLc hc hN hy hyl hsw hi ok (fun s H C cl fp => show PG _ tg (gD X.K T js) from hg s H C cl fp) ht (fun s H C cl fp => show PE _ elt (tX X.K (rD X.K) El) from he s H C cl fp) hs) fun E σ H h =>
    lc_x hj (toS_XF h fun η η1 B H1 l vs ds e0 E1 k m hl hl1 q p => by
      have e1 : EnvS X.K f.M f.H0 f.A0 H1 B σ η1 := e0.mv (E1.shrink e0.env k) k m
      exact p _ H1 B (e1.set (.lst (SqL.of (by rw [hid_out fun z => e0.env.tr l z hl]; exact hl1)) (DpAll_mono q (hid_mono fun _ m => List.mem_cons_of_mem _ m)))) (m.hid e0.env))
/-- a list of the def's own, handed over as data -/
theorem s_retOD (i : Nat) {x : Str} {p : Pos} (hr : f.rl = rD X.K) (hi : X.N[i]? = some x := by rfl) (hv : Vis X.env.scope x := by first | exact Or.inl rfl | exact Or.inr (Or.inl rfl)) (hd : (x == ("__debug__" : Str)) = false := by decide) (hcd : (x == ("__classdict__" : Str)) = false := by decide) :
    TS' X f (.Return (some (.Name x p)) pos) (retO i) := psW (ps_ret (pe_var hi hv hd hcd)) fun E σ H h => by
  obtain ⟨η, B, e0, p0⟩ := h
  have p : PostS X.K X.mg f.W f.rl f.M f.H0 f.A0 H B (retO i η) E := p0
  unfold retO at p
  split at p
  case h_2 => exact False.elim p
  rename_i xs hx
  obtain ⟨a, e1, m, vs, e2, q⟩ := own_ref e0.env hx
  have hB := e0.own i a xs hx e1
  split at p
  case isFalse => exact False.elim p
  rename_i hb
  rw [if_pos hb] at hB
  refine ⟨_, e1, ?_⟩
  have nA : a ∉ f.A0 := fun z => e0.mA.2 a z (e0.new a hB)
  refine p _ σ H B e0 ?_
  rw [hr]
  exact .lst (SqL.of (by rw [hid_out nA]; exact e2)) (DpAll_mono q hid_app)
/-- name.append(e) -/
def appX (i : Nat) (p : D × Nv) : Rs := match p.2[i]? with
  | some (.own xs) => if xs.l.length < lineN then .nx (p.2.set i (.own ⟨xs.b, xs.l ++ [p.1]⟩)) else .no
  | _ => .no
def xApp (i : Nat) (F : Nv → R (D × Nv)) : Nv → Rs := fun η => match η[i]? with
  | some (.own _) => (only (F η)).toS (appX i)
  | _ => .no
theorem xs_app (i : Nat) {x : Str} {p apos cpos epos : Pos} (he : TX X (rD X.K) e F) (hi : X.N[i]? = some x := by rfl) (hv : Vis X.env.scope x := by first | exact Or.inl rfl | exact Or.inr (Or.inl rfl)) (h1 : starEach [e] X.env = (false, eval e X.env) :: starEach [] X.env := by rfl)
    (hd : (x == ("__debug__" : Str)) = false := by decide) (hcd : (x == ("__classdict__" : Str)) = false := by decide)
    (hbase : attributeBase (.Name x p) "append" X.env (eval (.Name x p) X.env) = eval (.Name x p) X.env := by rfl)
    (hfew : ((backTo cpos (starEach [e] X.env)).all (fun x => !x.1) && (backToKw cpos (keywordEach [] X.env)).all (fun x => x.1.isSome) && decide ([e].length + ([] : List Keyword).length + (if ([] : List Keyword).isEmpty then 0 else 1) < 30)) = true := by rfl)
    (hline : (apos.endLine == cpos.line) = true := by rfl) (hplain : (backTo cpos (starEach [] X.env)).any (·.1) = false := by rfl) (hs : swapsWith (.Call (.Attribute (.Name x p) "append" apos) [e] [] cpos) none epos.line X.env = pure false := by rfl) :
    TS' X f (.Expr (.Call (.Attribute (.Name x p) "append" apos) [e] [] cpos) epos) (xApp i F) :=
  psW (ps_expr (pe_bm PySem.F.plainAttrs_list PySem.F.slot_list_append PySem.F.type_list_append mt_append (pe_var hi hv hd hcd) (pa_cons he pa_nil h1) hbase hfew hline h1 hplain) hs) fun E σ H h => by
    obtain ⟨η, B, e0, p0⟩ := h
    have p : PostS X.K X.mg f.W f.rl f.M f.H0 f.A0 H B (xApp i F η) E := p0
    unfold xApp at p
    split at p
    case h_2 => exact False.elim p
    rename_i xs hx
    obtain ⟨a, ea, m, vs, e2, q⟩ := own_ref e0.env hx
    refine ⟨.ref a, ea, .inl ⟨rfl, vs, SqL.of e2⟩, ?_⟩
    refine (show tX X.K (rD X.K) F σ H _ from ⟨η, B ++ f.A0, e0.env, ?_⟩)
    cases ef : F η with
    | ex c w z => rw [ef] at p; exact False.elim p
    | no => rw [ef] at p; exact False.elim p
    | ok yy =>
      rw [ef] at p
      obtain ⟨y, η1⟩ := yy
      have p : PostS X.K X.mg f.W f.rl f.M f.H0 f.A0 H B (appX i (y, η1)) E := p
      unfold appX at p
      split at p
      case h_2 => exact False.elim p
      rename_i zs hz1
      split at p
      case isFalse => exact False.elim p
      rename_i hz
      intro w H1 E1 k1 m1 qw
      obtain ⟨mA, us, eu, qu⟩ := own_in E1 hz1 ea
      refine ⟨a, us, w, rfl, rfl, eu, by rw [DpAll_length qu, line_eq]; exact hz, ?_⟩
      refine p σ _ B ((e0.mv E1 k1 m1).app hz1 ea eu qu qw) ?_
      rw [hid_upd mA]
      exact m1.hid e0.env
/-- name[k] = e -/
def putAt (i : Nat) (y : D) (η : Nv) (k : D) : Rs := match η[i]?, k with
  | some (.own xs), .int j => match ixN xs.l.length j with
    | some m => .nx (η.set i (.own ⟨xs.b, xs.l.set m y⟩))
    | none => .no
  | _, _ => .no
def xPutS (i : Nat) (F : Nv → R (D × Nv)) (Fi : Nv → R D) : Nv → Rs := fun η => (only (F η)).toS fun p => match p.2[i]? with
  | some (.own _) => (only (Fi p.2)).toS (putAt i p.1 p.2)
  | _ => .no
theorem DpAll_set {K : PySem.W.Frag} {H : Hp} {v : V} {d : D} : ∀ {vs : List V} {ds : List D} (n : Nat), DpAll K H vs ds → Dp K H v d → DpAll K H (vs.set n v) (ds.set n d)
  | _, _, _, .nil, _ => .nil
  | _, _, 0, .cons _ t, h => .cons h t
  | _, _, n + 1, .cons h0 t, h => .cons h0 (DpAll_set n t h)
theorem xs_put (i : Nat) {W : WX} {x : Str} {px p' : Pos} {ix : Expr} {Fi : Nv → R D} (he : TX X (rD X.K) e F) (hix : TD X W ix Fi) (hi : X.N[i]? = some x := by rfl) (hv : Vis X.env.scope x := by first | exact Or.inl rfl | exact Or.inr (Or.inl rfl) | exact Or.inr (Or.inr rfl)) (hd : (x == ("__debug__" : Str)) = false := by decide) (hcd : (x == ("__classdict__" : Str)) = false := by decide)
    (ha : ∀ v, assign (.Subscript (.Name x px) ix p') X.env v = (do
      let ov ← holding [v] (eval (.Name x px) X.env)
      let iv ← holding [v, ov] (eval ix X.env)
      standAt p'
      holding [v, ov, iv] (setItem ov iv v)
      release [v, ov, iv] []) := by intro _; rfl)
    (hs : swapsWithSole [.Subscript (.Name x px) ix p'] e pos.line X.env = pure false := by rfl) (hw : swappedStores [.Subscript (.Name x px) ix p'] e X.env = pure none := by rfl) (h1 : (assignEach [.Subscript (.Name x px) ix p'] X.env).map (·.2) = [assign (.Subscript (.Name x px) ix p') X.env] := by rfl) :
    TS' X f (.Assign [.Subscript (.Name x px) ix p'] e pos) (xPutS i F Fi) := psW (ps_asg (x_only he) (pg_sub (pe_var hi hv hd hcd) (x_up hix) set_list ha) hs hw h1) fun E σ H h => toS_X h (fun η η1 B H1 v d e0 e1 k m s q p => by
    have p : PostS X.K X.mg f.W f.rl f.M f.H0 f.A0 H B (match η1[i]? with
      | some (.own _) => (only (Fi η1)).toS (putAt i d η1)
      | _ => .no) E := p
    split at p
    case h_2 => exact False.elim p
    rename_i xs hx
    obtain ⟨a, ea, mA, us, eu, qu⟩ := own_ref e1.env hx
    refine ⟨.ref a, ea, ?_⟩
    refine (show tX X.K (rD X.K) (up Fi) σ H1 _ from ⟨η1, B ++ f.A0, e1.env, ?_⟩)
    unfold up
    cases ef : Fi η1 with
    | ex c w z => rw [ef] at p; exact False.elim p
    | no => rw [ef] at p; exact False.elim p
    | ok kk =>
      rw [ef] at p
      replace p : PostS X.K X.mg f.W f.rl f.M f.H0 f.A0 H B (putAt i d η1 kk) E := p
      intro kv H2 E2 k2 m2 qk
      have E2 : EnvD X.K H2 (B ++ f.A0) σ η1 := E2
      replace qk : Dp X.K (hid (B ++ f.A0) H2) kv kk := qk
      unfold putAt at p
      rw [hx] at p
      cases kk <;> first | exact False.elim p | skip
      rename_i j
      have p : PostS X.K X.mg f.W f.rl f.M f.H0 f.A0 H B (match ixN xs.l.length j with
        | some m => .nx (η1.set i (.own ⟨xs.b, xs.l.set m d⟩))
        | none => .no) E := p
      split at p
      case h_2 => exact False.elim p
      rename_i n hn
      obtain ⟨mA2, us2, eu2, qu2⟩ := own_in E2 hx ea
      cases qk
      have e2 : EnvS X.K f.M f.H0 f.A0 H2 B σ η1 := e1.mv E2 k2 m2
      refine ⟨a, us2, j, n, rfl, rfl, eu2, by rw [DpAll_length qu2]; exact hn, ?_⟩
      have sh : Same (hid (B ++ f.A0) H1) (hid (B ++ f.A0) H2) := m2.hid e1.env
      have qv : Dp X.K (hid (B ++ f.A0) H2) v d := Dp_mono q sh
      have kp : ∀ b o, b ≠ a → H2 b = some o → upd H2 a (.lst (us2.set n v)) b = some o := fun b o nb z => by rw [upd_ne nb]; exact z
      have tr : ∀ b ∈ B ++ f.A0, upd H2 a (.lst (us2.set n v)) b ≠ none := fun b mb => by
        by_cases hb : b = a
        · rw [hb, upd_same]
          exact fun z => nomatch z
        · rw [upd_ne hb]
          exact E2.tr b mb
      have eh : hid (B ++ f.A0) (upd H2 a (.lst (us2.set n v))) = hid (B ++ f.A0) H2 := hid_upd mA2
      have E3 := E2.put hx ea kp tr upd_same (by rw [eh]; exact DpAll_set n qu2 qv)
      have m3 : Mv σ η1 H2 (upd H2 a (.lst (us2.set n v))) := fun b o z nn => kp b o (fun w => nn i xs hx (by rw [w]; exact ea)) z
      refine p σ _ B (e2.mv E3 (Kin.put hx) m3) ?_
      rw [eh]
      exact s.trans sh) fun η => only_nx _
/-- for .. in a walk that changes lists ahead -/
def xFor (Fi : Nv → R (List D × Nv)) (T : Tgt) (Gb : Nv → Rs) : Nv → Rs := fun η => (only (Fi η)).toS fun p => loopG T Gb p.1 p.2
theorem xs_for {body : List Stmt} {Gb : Nv → Rs} (hp : PassesOwn (model X.prog X.w) X.A X.env X.xe) (hc : X.calm = true) (hi : TXI X tg iter Fi) (hg : TT' X tg T js) (hb : TSs X f body Gb) (hs : ∀ x, foldedSetIterable iter X.env x = pure x := by intro _; rfl) :
    TS' X f (.For tg iter body [] pos) (xFor Fi T Gb) := psW (ps_for hp hc hi hg hb (hs := hs)) fun E σ H h => by
  obtain ⟨η, B, e, p0⟩ := h
  have p : PostS X.K X.mg f.W f.rl f.M f.H0 f.A0 H B ((only (Fi η)).toS fun p => loopG T Gb p.1 p.2) E := p0
  refine (show tXI X.K Fi σ H _ from ⟨η, B ++ f.A0, e.env, ?_⟩)
  cases e1 : Fi η with
  | ex c w q => rw [e1] at p; exact False.elim p
  | no => rw [e1] at p; exact False.elim p
  | ok ds =>
    rw [e1] at p
    obtain ⟨ds, η1⟩ := ds
    have p : PostS X.K X.mg f.W f.rl f.M f.H0 f.A0 H B (loopG T Gb ds η1) E := p
    intro J H1 E1 k1 m1 wk
    exact for_core (e.mv E1 k1 m1) wk (PostS.keep (m1.hid e.env) p)
end
end Bd
/-! D15: built-ins and defs called with what changes lists; a list given up to data. -/
namespace Bd
open PySem L2

theorem dp_lst {K : PySem.W.Frag} {H : Hp} {A : List Addr} {p : Addr} {vs : List V} {ds : List D} (hA : ∀ a ∈ A, H a ≠ none) (hp : H p = none) (h : DpAll K (hid A H) vs ds) : rD K H (upd H p (.lst vs)) A (.ref p) (.list ds) :=
  rF_D (fun q hq m => hA q m hq) (dp_new_list hA hp h)
section
variable {X : Cx} {e : Expr} {es : List Expr} {Fs : Nv → R (List D × Nv)} {p pos : Pos}
theorem x_intc (hm : X.mg "int" = none) (ha : TXA X [e] Fs) (hgl : Gl X "int" := by rfl) (he : starEach [e] X.env = (false, eval e X.env) :: starEach [] X.env := by rfl) (hpl : (backTo pos (starEach [] X.env)).any (·.1) = false := by rfl) :
    TX X (rD X.K) (.Call (.Name "int" p) [e] [] pos) (xN intV Fs) := x_callTy back2_D call_int1 (fun H A vs ds d Q hA h e k => by
  unfold intV at e
  split at e
  · have e := Option.some.inj e
    subst e
    obtain ⟨v, rfl, q⟩ := all1 h
    exact .inl ⟨_, by rw [rO_int q], k _ H (Same.refl _) (.int _)⟩
  · have e := Option.some.inj e
    subst e
    obtain ⟨v, rfl, q⟩ := all1 h
    exact .inr ⟨_, by rw [rO_bool q], k _ H (Same.refl _) (.int _)⟩
  · cases e) hgl hm (by decide +kernel) ha (he := he) (hpl := hpl)
theorem x_tuplec (hm : X.mg "tuple" = none) (ha : TXA X [e] Fs) (hgl : Gl X "tuple" := by rfl) (he : starEach [e] X.env = (false, eval e X.env) :: starEach [] X.env := by rfl) (hpl : (backTo pos (starEach [] X.env)).any (·.1) = false := by rfl) :
    TX X (rD X.K) (.Call (.Name "tuple" p) [e] [] pos) (xN tupleV Fs) := x_callTy back2_D call_tuple_of (fun H A vs ds d Q hA h e k => by
  unfold tupleV at e
  split at e
  · have e := Option.some.inj e
    subst e
    obtain ⟨v, rfl, q⟩ := all1 h
    obtain ⟨l, ws, rfl, h1, q1⟩ := rO_list q
    exact ⟨l, ws, rfl, .inl ⟨h1, fun t ht => k _ _ (same_new ht) (dp_new_tup hA ht q1)⟩⟩
  · have e := Option.some.inj e
    subst e
    obtain ⟨v, rfl, q⟩ := all1 h
    obtain ⟨l, ws, rfl, h1, h2, q1⟩ := rO_tup q
    exact ⟨l, ws, rfl, .inr ⟨h1, k _ H (Same.refl _) (.tup h2 q1)⟩⟩
  · cases e) hgl hm (by decide +kernel) ha (he := he) (hpl := hpl)
theorem x_abs (hm : X.mg "abs" = none) (ha : TXA X [e] Fs) (hgl : Gl X "abs" := by rfl) (he : starEach [e] X.env = (false, eval e X.env) :: starEach [] X.env := by rfl) (hpl : (backTo pos (starEach [] X.env)).any (·.1) = false := by rfl) :
    TX X (rD X.K) (.Call (.Name "abs" p) [e] [] pos) (xN absV' Fs) := x_callB back2_D call_abs (fun H A vs ds d Q hA h e k => by
  unfold absV' at e
  split at e
  · have e := Option.some.inj e
    subst e
    obtain ⟨v, rfl, q⟩ := all1 h
    exact ⟨_, by rw [rO_int q], k _ H (Same.refl _) (.int _)⟩
  · cases e) hgl hm (by decide +kernel) ha (he := he) (hpl := hpl)
theorem x_listc (hm : X.mg "list" = none) (ha : TXA X [e] Fs) (hgl : Gl X "list" := by rfl) (he : starEach [e] X.env = (false, eval e X.env) :: starEach [] X.env := by rfl) (hpl : (backTo pos (starEach [] X.env)).any (·.1) = false := by rfl) :
    TX X (rD X.K) (.Call (.Name "list" p) [e] [] pos) (xN listV Fs) := x_callTy back2_D call_list_of (fun H A vs ds d Q hA h e k => by
  unfold listV at e
  split at e
  · have e := Option.some.inj e
    subst e
    obtain ⟨v, rfl, q⟩ := all1 h
    obtain ⟨l, ws, rfl, h1, q1⟩ := rO_list q
    exact ⟨l, ws, rfl, .inl h1, fun t ht => k _ _ (same_new ht) (dp_lst hA ht q1)⟩
  · have e := Option.some.inj e
    subst e
    obtain ⟨v, rfl, q⟩ := all1 h
    obtain ⟨l, ws, rfl, h1, h2, q1⟩ := rO_tup q
    exact ⟨l, ws, rfl, .inr h1, fun t ht => k _ _ (same_new ht) (dp_lst hA ht q1)⟩
  · cases e) hgl hm (by decide +kernel) ha (he := he) (hpl := hpl)
theorem x_sortI (hm : X.mg "sorted" = none) (ha : TXA X [e] Fs) (hgl : Gl X "sorted" := by rfl) (he : starEach [e] X.env = (false, eval e X.env) :: starEach [] X.env := by rfl) (hpl : (backTo pos (starEach [] X.env)).any (·.1) = false := by rfl) :
    TX X (rD X.K) (.Call (.Name "sorted" p) [e] [] pos) (xN sortIV Fs) := x_callB back2_D cr_sortedI (fun H A vs ds d Q hA h e k => by
  unfold sortIV at e
  split at e
  · rename_i xs
    cases e2 : ints? xs with
    | none => rw [e2] at e; cases e
    | some bs =>
      rw [e2] at e
      cases e
      obtain ⟨v, rfl, q⟩ := all1 h
      obtain ⟨l, ws, rfl, h1, q1⟩ := rO_list q
      rw [(ints_of q1 e2).1] at h1
      refine ⟨l, bs, rfl, h1, fun ns' t pm so ht => ?_⟩
      have en : ns' = isort bs := sorted_unique (pm.trans (isort_perm bs).symm) so (isort_sorted bs)
      subst en
      exact k _ _ (same_new ht) (dp_lst hA ht (DpAll_ints _))
  · cases e) hgl hm (by decide +kernel) ha (he := he) (hpl := hpl)
theorem x_len (hm : X.mg "len" = none) (ha : TXA X [e] Fs) (hgl : Gl X "len" := by rfl) (he : starEach [e] X.env = (false, eval e X.env) :: starEach [] X.env := by rfl) (hpl : (backTo pos (starEach [] X.env)).any (·.1) = false := by rfl) : TX X (rD X.K) (.Call (.Name "len" p) [e] [] pos) (xN lenV Fs) := x_callB back2_D call_lenA o_len hgl hm PySem.boot_len ha (he := he) (hpl := hpl)
/-! defs -/
def DfK (P : Program) (w : World) (K : PySem.W.Frag) (mg : Str → Option Value) (base : Heap) (k : Nat) (x : Str) (n : Nat) (Fk : List D → List D → R (D × List D)) : Prop :=
  ∃ f fd ps, FnG P w K mg base k f fd ps (spK K (rD K) n Fk) ∧ Binds K fd ps [] ∧ mg x = some (.ref f) ∧ PySem.W.keepIn K (.ref f) = true
theorem x_callDK {x dn : Str} {pd : Pos} {j k n : Nat} {Fk : List D → List D → R (D × List D)} (i : Nat) (d : DfK X.prog X.w X.K X.mg X.base j x n Fk) (hr : Room k X.A) (hgd : X.A.guards = some []) (ha : TXA X es Fs) (hfs : ∀ η ds, Fs η = .ok ds → ds.1.length = n) (hj : j ≤ k := by decide) (hg : Gl X x := by rfl)
    (hi : X.N[i]? = some dn := by rfl) (hv : Vis X.env.scope dn := by first | exact Or.inl rfl | exact Or.inr (Or.inl rfl) | exact Or.inr (Or.inr rfl)) (hd : (dn == ("__debug__" : Str)) = false := by decide) (hcd : (dn == ("__classdict__" : Str)) = false := by decide)
    (hdb : (x == ("__debug__" : Str)) = false := by decide) (he : starEach (.Name dn pd :: es) X.env = (false, eval (.Name dn pd) X.env) :: starEach es X.env := by rfl) (hpl : (backTo pos (starEach es X.env)).any (·.1) = false := by rfl) :
    TX X (rD X.K) (.Call (.Name x p) (.Name dn pd :: es) [] pos) (xCallK i Fk Fs) := by
  obtain ⟨f, fd, ps, F, b, m, kp⟩ := d
  exact x_callK i back2_D F (hr.mono hj) hgd hg m kp b ha hfs hi hv hd hcd hdb he hpl
theorem x_callD {x : Str} {j k n : Nat} {Fn : List D → R D} (d : Df X.prog X.w X.K X.mg X.base j x n (rD X.K) Fn) (hr : Room k X.A) (hgd : X.A.guards = some []) (ha : TXA X (e :: es) Fs) (hfs : ∀ η ds, Fs η = .ok ds → ds.1.length = n) (hj : j ≤ k := by decide) (hg : Gl X x := by rfl)
    (hdb : (x == ("__debug__" : Str)) = false := by decide) (he : starEach (e :: es) X.env = (false, eval e X.env) :: starEach es X.env := by rfl) (hpl : (backTo pos (starEach es X.env)).any (·.1) = false := by rfl) :
    TX X (rD X.K) (.Call (.Name x p) (e :: es) [] pos) (xCall Fn Fs) := by
  obtain ⟨f, fd, ps, F, b, m, kp⟩ := d
  exact x_call back2_D F (hr.mono hj) hgd hg m kp b ha hfs hdb he hpl
theorem xC_len {Fa : Nv → R (D × Nv)} {m : Nat} (h : ∀ η ds, Fs η = .ok ds → ds.1.length = m) : ∀ η ds, xC Fa Fs η = .ok ds → ds.1.length = m + 1 := fun η ds e => by
  unfold xC at e
  cases e1 : Fa η with
  | ex c w z => rw [e1] at e; cases e
  | no => rw [e1] at e; cases e
  | ok y =>
    rw [e1] at e
    have e : ((Fs y.2).bind fun q => R.ok (y.1 :: q.1, q.2)) = .ok ds := e
    cases e2 : Fs y.2 with
    | ex c w z => rw [e2] at e; cases e
    | no => rw [e2] at e; cases e
    | ok ys =>
      rw [e2] at e
      cases e
      show (y.1 :: ys.1).length = _
      rw [List.length_cons, h y.2 ys e2]
theorem x0_len : ∀ η ds, x0 η = .ok ds → ds.1.length = 0 := fun η ds e => by
  cases e
  rfl
end
/-! ### a list of one's own, from now on data -/
def frzS (i : Nat) : Nv → Rs := fun η => match η[i]? with
  | some (.own xs) => if xs.b then .nx (η.set i (.d (.list xs.l))) else .no
  | _ => .no
section
variable {X : Cx} {f : Fx} {sts : List Stmt} {Gt : Nv → Rs}
theorem EnvS.frz {K : PySem.W.Frag} {M : List Addr} {H0 : Hp} {A0 : List Addr} {H : Hp} {B : List Addr} {σ : L2.St} {η : Nv} {i : Nat} {xs : OL} {a : Addr} (e : EnvS K M H0 A0 H B σ η) (hi : η[i]? = some (.own xs)) (ho : σ[i]? = some (some (.ref a))) (hb : xs.b = true) :
    EnvS K M H0 A0 H (B.filter (· ≠ a)) σ (η.set i (.d (.list xs.l))) ∧ Same (hid (B ++ A0) H) (hid (B.filter (· ≠ a) ++ A0) H) := by
  have hB := e.own i a xs hi ho
  rw [if_pos hb] at hB
  have sub : ∀ b ∈ B.filter (· ≠ a) ++ A0, b ∈ B ++ A0 := fun b m => by
    rcases List.mem_append.mp m with m | m
    · exact List.mem_append_left _ (List.mem_filter.mp m).1
    · exact List.mem_append_right _ m
  have sh : Same (hid (B ++ A0) H) (hid (B.filter (· ≠ a) ++ A0) H) := hid_mono sub
  have nA : a ∉ B.filter (· ≠ a) ++ A0 := fun m => by
    rcases List.mem_append.mp m with m | m
    · have := (List.mem_filter.mp m).2
      simp at this
    · exact e.mA.2 a m (e.new a hB)
  have hl : i < η.length := (List.getElem?_eq_some_iff.mp hi).1
  have what : ∀ (j : Nat) (sl : Sl), (η.set i (.d (.list xs.l)))[j]? = some sl → (j = i ∧ sl = .d (.list xs.l)) ∨ (j ≠ i ∧ η[j]? = some sl) := fun j sl h => by
    by_cases hj : j = i
    · subst hj
      rw [List.getElem?_set_self hl] at h
      exact .inl ⟨rfl, (Option.some.inj h).symm⟩
    · rw [List.getElem?_set_ne fun z => hj z.symm] at h
      exact .inr ⟨hj, h⟩
  obtain ⟨_, vs, ev, qv⟩ := own_in e.env hi ho
  have keep : ∀ (j : Nat) (b : Addr) (ys : OL), j ≠ i → η[j]? = some (.own ys) → σ[j]? = some (some (.ref b)) → b ≠ a := fun j b ys n h1 h2 z => n (e.env.ap j i a ys xs h1 hi (by rw [← z]; exact h2) ho)
  refine ⟨⟨⟨by rw [List.length_set, e.env.len], fun j sl h => ?_, fun j k b ys zs h1 h2 h3 h4 => ?_, fun b m => e.env.tr b (sub b m)⟩, e.same, e.mA, fun b m => e.new b (List.mem_filter.mp m).1, fun j b ys h1 h2 => ?_⟩, sh⟩
  · rcases what j sl h with ⟨ej, es⟩ | ⟨n, h⟩
    · subst ej es
      exact ⟨_, ho, .lst (SqL.of (by rw [hid_out nA]; exact ev)) (DpAll_mono qv sh)⟩
    · obtain ⟨o, e1, q⟩ := e.env.at_ j sl h
      refine ⟨o, e1, ?_⟩
      cases sl with
      | no => cases o <;> trivial
      | d x =>
        cases o with
        | none => exact q
        | some v => exact Dp_mono (show Dp K (hid (B ++ A0) H) v x from q) sh
      | own zs =>
        match o, q, e1 with
        | some (.ref b), ⟨m, ws, e2, q⟩, e1 =>
          have nb := keep j b zs n h e1
          refine ⟨?_, ws, e2, DpAll_mono q sh⟩
          rcases List.mem_append.mp m with m | m
          · exact List.mem_append_left _ (List.mem_filter.mpr ⟨m, by simp [nb]⟩)
          · exact List.mem_append_right _ m
      | m x => exact q.m' sh
  · rcases what j _ h1 with ⟨_, z⟩ | ⟨n, g1⟩
    · cases z
    · rcases what k _ h2 with ⟨_, z⟩ | ⟨n2, g2⟩
      · cases z
      · exact e.env.ap j k b ys zs g1 g2 h3 h4
  · rcases what j _ h1 with ⟨_, z⟩ | ⟨n, g1⟩
    · cases z
    · have q := e.own j b ys g1 h2
      cases hy : ys.b with
      | true =>
        rw [hy, if_pos rfl] at q
        rw [if_pos rfl]
        exact List.mem_filter.mpr ⟨q, by simp [keep j b ys n g1 h2]⟩
      | false =>
        rw [hy] at q
        exact q
theorem ss_frz (i : Nat) (h : TSs X f sts Gt) : TSs X f sts (seqS (frzS i) Gt) := pssW h fun E σ H ⟨η, B, e, p0⟩ => by
  have p : PostS X.K X.mg f.W f.rl f.M f.H0 f.A0 H B ((frzS i η).bind Gt) E := p0
  unfold frzS at p
  split at p
  case h_2 => exact False.elim p
  rename_i xs hx
  split at p
  case isFalse => exact False.elim p
  rename_i hb
  obtain ⟨a, ea, _⟩ := own_ref e.env hx
  obtain ⟨e2, sh⟩ := e.frz hx ea hb
  exact ⟨_, _, e2, PostS.keep sh p⟩
end
end Bd
/-! D16: methods of lists: index, count; pop and insert on a list that is changed; sum; a new list as data. -/
namespace Bd
open PySem L2

section
variable {X : Cx} {W : WX} {o e : Expr} {Fo Fe : Nv → R D} {apos cpos pos p : Pos}
def m2 (f : List D → D → Option D) (Fo Fe : Nv → R D) : Nv → R D := fun η => (Fo η).bind fun a => match a with
  | .list ds => (Fe η).bind fun y => .of (f ds y)
  | _ => .no
/-- a list's method of one argument that changes nothing -/
theorem t_meth {id name : String} {r : V → List V → Hp → VK → Prop} {f : List D → D → Option D} (slot : Slot "list" name id) (hty : typeOf (.builtin id) = pure (.type "method_descriptor")) (hm : MtR X id r)
    (hr : ∀ (H : Hp) (A : List Addr) (l : Addr) (vs : List V) (ds : List D) (y : V) (b d : D) (Q : VK), (∀ q ∈ A, H q ≠ none) → SqL X.K H l vs → DpAll X.K (hid A H) vs ds → rO X.K H H A y b → f ds b = some d → (∀ v H', Same H H' → rD X.K H H' A v d → Q v H') → r (.ref l) [y] H Q)
    (ho : TO X W o Fo) (he : TO X W e Fe)
    (hbase : attributeBase o name X.env (eval o X.env) = eval o X.env := by rfl)
    (hfew : ((backTo cpos (starEach [e] X.env)).all (fun x => !x.1) && (backToKw cpos (keywordEach [] X.env)).all (fun x => x.1.isSome) && decide ([e].length + ([] : List Keyword).length + (if ([] : List Keyword).isEmpty then 0 else 1) < 30)) = true := by rfl)
    (hline : (apos.endLine == cpos.line) = true := by rfl) (hs : starEach [e] X.env = (false, eval e X.env) :: starEach [] X.env := by rfl) (hplain : (backTo cpos (starEach [] X.env)).any (·.1) = false := by rfl) :
    TD X W (.Call (.Attribute o name apos) [e] [] cpos) (m2 f Fo Fe) := peW (pe_bm PySem.F.plainAttrs_list slot hty hm ho (pa_cons he pa_nil hs) hbase hfew hline hs hplain) fun σ H Q ⟨η, A, E, p0⟩ => by
  have p : Post X.K X.mg W (rD X.K) σ A H (m2 f Fo Fe η) Q := p0
  unfold m2 at p
  refine (show tR X.K X.mg W (rO X.K) Fo σ H _ from ⟨η, A, E, ?_⟩)
  cases e1 : Fo η with
  | ex c w q => rw [e1] at p; exact p
  | no => rw [e1] at p; exact p
  | ok a =>
    rw [e1] at p
    cases a <;> first | exact False.elim p | skip
    rename_i ds
    have p : Post X.K X.mg W (rD X.K) σ A H ((Fe η).bind fun y => .of (f ds y)) Q := p
    intro x H1 s1 q1
    obtain ⟨l, vs, rfl, h1, qv⟩ := rO_list q1
    refine ⟨.inl ⟨rfl, vs, h1⟩, ?_⟩
    refine (show tR X.K X.mg W (rO X.K) Fe σ H1 _ from ⟨η, A, E.same s1, ?_⟩)
    cases e2 : Fe η with
    | ex c w q =>
      rw [e2] at p
      exact fun cls dd H' s q' => p cls dd H' (s1.trans s) q'
    | no => rw [e2] at p; exact p
    | ok y =>
      rw [e2] at p
      have p : Post X.K X.mg W (rD X.K) σ A H (.of (f ds y)) Q := p
      intro w H2 s2 q2
      cases e3 : f ds y with
      | none => rw [e3] at p; exact False.elim p
      | some d =>
        rw [e3] at p
        exact hr H2 A l vs ds w y d Q (E.same (s1.trans s2)).tr (s2.seq h1) (DpAll_mono qv (hid_same s2)) (rO_same (Same.refl _) q2) e3 fun v H' s q => p v H' ((s1.trans s2).trans s) q
/-! index, count -/
def idxN (d : D) : List D → Option Nat
  | [] => none
  | x :: r => if PyData.eqv x d then some 0 else (idxN d r).map (· + 1)
theorem idxN_spec {d : D} : ∀ {ds : List D} {j : Nat}, idxN d ds = some j → (∃ z, ds[j]? = some z ∧ PyData.eqv z d = true) ∧ ∀ (m : Nat) (z : D), m < j → ds[m]? = some z → PyData.eqv z d = false
  | [], j, e => by cases e
  | x :: r, j, e => by
    unfold idxN at e
    by_cases h : PyData.eqv x d = true
    · rw [if_pos h] at e
      cases e
      exact ⟨⟨x, rfl, h⟩, fun m z hm => absurd hm (Nat.not_lt_zero m)⟩
    · rw [if_neg h] at e
      cases e2 : idxN d r with
      | none => rw [e2] at e; cases e
      | some k =>
        rw [e2] at e
        cases e
        obtain ⟨⟨z, h1, h2⟩, h3⟩ := idxN_spec e2
        refine ⟨⟨z, h1, h2⟩, fun m z hm hz => ?_⟩
        cases m with
        | zero =>
          cases hz
          exact Bool.eq_false_iff.mpr h
        | succ m => exact h3 m z (Nat.lt_of_succ_lt_succ hm) hz
def indexV (ds : List D) (d : D) : Option D := if SeqAt.shaped (.list ds) = true ∧ SeqAt.shaped d = true then (idxN d ds).map fun j => .int (j : Nat) else none
theorem t_index (hu : X.A.units + 65 < cLine) (ho : TO X W o Fo) (he : TO X W e Fe)
    (hbase : attributeBase o "index" X.env (eval o X.env) = eval o X.env := by rfl)
    (hfew : ((backTo cpos (starEach [e] X.env)).all (fun x => !x.1) && (backToKw cpos (keywordEach [] X.env)).all (fun x => x.1.isSome) && decide ([e].length + ([] : List Keyword).length + (if ([] : List Keyword).isEmpty then 0 else 1) < 30)) = true := by rfl)
    (hline : (apos.endLine == cpos.line) = true := by rfl) (hs : starEach [e] X.env = (false, eval e X.env) :: starEach [] X.env := by rfl) (hplain : (backTo cpos (starEach [] X.env)).any (·.1) = false := by rfl) :
    TD X W (.Call (.Attribute o "index" apos) [e] [] cpos) (m2 indexV Fo Fe) :=
  t_meth PySem.F.slot_list_index PySem.F.type_list_index (mt_indexD hu) (fun H A l vs ds y b d Q hA h1 qv qb hf k => by
    unfold indexV at hf
    split at hf
    · rename_i hsh
      cases e2 : idxN b ds with
      | none => rw [e2] at hf; cases hf
      | some j =>
        rw [e2] at hf
        cases hf
        obtain ⟨⟨z, z1, z2⟩, z3⟩ := idxN_spec e2
        exact ⟨l, y, b, ds, j, z, rfl, rfl, .lst h1 (DpAll_mono qv (hid_le A H)), rO_dp qb, hsh.1, hsh.2, z1, z2, z3, k _ H (Same.refl _) (.int _)⟩
    · cases hf) ho he hbase hfew hline hs hplain
def countV (ds : List D) (d : D) : Option D := match ints? ds, d with
  | some ns, .int k => some (.int (ns.count k : Nat))
  | _, _ => none
theorem t_count (ho : TO X W o Fo) (he : TO X W e Fe)
    (hbase : attributeBase o "count" X.env (eval o X.env) = eval o X.env := by rfl)
    (hfew : ((backTo cpos (starEach [e] X.env)).all (fun x => !x.1) && (backToKw cpos (keywordEach [] X.env)).all (fun x => x.1.isSome) && decide ([e].length + ([] : List Keyword).length + (if ([] : List Keyword).isEmpty then 0 else 1) < 30)) = true := by rfl)
    (hline : (apos.endLine == cpos.line) = true := by rfl) (hs : starEach [e] X.env = (false, eval e X.env) :: starEach [] X.env := by rfl) (hplain : (backTo cpos (starEach [] X.env)).any (·.1) = false := by rfl) :
    TD X W (.Call (.Attribute o "count" apos) [e] [] cpos) (m2 countV Fo Fe) :=
  t_meth PySem.F.slot_list_count PySem.F.type_list_count mt_lcount (fun H A l vs ds y b d Q hA h1 qv qb hf k => by
    unfold countV at hf
    split at hf
    · rename_i ns k0 e2
      cases hf
      refine ⟨l, ns, k0, rfl, by rw [rO_int qb], ?_, k _ H (Same.refl _) (.int _)⟩
      rw [← (ints_of qv e2).1]
      exact h1
    · cases hf) ho he hbase hfew hline hs hplain
/-! sum -/
def sumV : List D → Option D
  | [.list xs] => (ints? xs).map fun ns => .int ns.sum
  | _ => none
theorem t_sum {Fs : Nv → R (List D)} (hc : X.calm = true) (hm : X.mg "sum" = none) (ha : TAs X W (vO X.K) [e] Fs) (hgl : Gl X "sum" := by rfl) (he : starEach [e] X.env = (false, eval e X.env) :: starEach [] X.env := by rfl) (hpl : (backTo pos (starEach [] X.env)).any (·.1) = false := by rfl) :
    TD X W (.Call (.Name "sum" p) [e] [] pos) (eN sumV Fs) := t_callB back_D (cr_sum hc) (fun H A vs ds d Q hA h e k => by
  unfold sumV at e
  split at e
  · rename_i xs
    cases e2 : ints? xs with
    | none => rw [e2] at e; cases e
    | some ns =>
      rw [e2] at e
      cases e
      obtain ⟨v, rfl, q⟩ := all1 h
      obtain ⟨l, ws, rfl, h1, q1⟩ := rO_list q
      rw [(ints_of q1 e2).1] at h1
      exact ⟨l, ns, rfl, h1, k _ H (Same.refl _) (.int _)⟩
  · cases e) hgl hm (by decide +kernel) ha (he := he) (hpl := hpl)
end
/-! ### a def's new list, taken as data -/
theorem FnG.asD {P : Program} {w : World} {K : PySem.W.Frag} {mg : Str → Option Value} {base : Heap} {k : Nat} {f : Addr} {fd : FuncData} {ps : List Str} {n : Nat} {Fn : List D → R D} (F : FnG P w K mg base k f fd ps (spD K mg (rF K) n Fn)) : FnG P w K mg base k f fd ps (spD K mg (rD K) n Fn) := by
  have imp : ∀ vs H Q E, spD K mg (rD K) n Fn vs H Q E → spD K mg (rF K) n Fn vs H Q E := fun vs H Q E ⟨ds, A, h1, h2, h3, h4⟩ => ⟨ds, A, h1, h2, h3, by
    cases e : Fn ds with
    | ok d => rw [e] at h4; exact fun v H' s q => h4 v H' s (rF_D (fun p hp m => h2 p m hp) q)
    | ex c w p => rw [e] at h4; exact h4
    | no => rw [e] at h4; exact h4⟩
  exact ⟨fun vs H Q E h => F.len vs H Q E (imp _ _ _ _ h), fun A o s H as us vs Q E hr hg env b v h => F.run A o s H as us vs Q E hr hg env b v (imp _ _ _ _ h)⟩
theorem Df.asD {P : Program} {w : World} {K : PySem.W.Frag} {mg : Str → Option Value} {base : Heap} {k : Nat} {x : Str} {n : Nat} {Fn : List D → R D} (d : Df P w K mg base k x n (rF K) Fn) : Df P w K mg base k x n (rD K) Fn := by
  obtain ⟨f, fd, ps, F, r⟩ := d
  exact ⟨f, fd, ps, F.asD, r⟩
/-! ### pop and insert on a list that is changed -/
section
variable {X : Cx} {f : Fx} {e a b : Expr} {F Fa Fb : Nv → R (D × Nv)} {apos cpos epos px : Pos}
def popAt (i : Nat) (p : D × Nv) : R (D × Nv) := match p.2[i]?, p.1 with
  | some (.own xs), .int j => if -(2 ^ 63) ≤ j ∧ j < 2 ^ 63 then (match seqIndex? j xs.l.length with
    | some m => (match xs.l[m]? with
      | some y => .ok (y, p.2.set i (.own ⟨xs.b, xs.l.eraseIdx m⟩))
      | none => .no)
    | none => .no) else .no
  | _, _ => .no
def xPop (i : Nat) (F : Nv → R (D × Nv)) : Nv → R (D × Nv) := fun η => match η[i]? with
  | some (.own _) => (F η).bind (popAt i)
  | _ => .no
theorem DpAll_erase {K : PySem.W.Frag} {H : Hp} : ∀ {vs : List V} {ds : List D} (n : Nat), DpAll K H vs ds → DpAll K H (vs.eraseIdx n) (ds.eraseIdx n)
  | _, _, _, .nil => .nil
  | _, _, 0, .cons _ t => t
  | _, _, n + 1, .cons h t => .cons h (DpAll_erase n t)
theorem put_keep {K : PySem.W.Frag} {H : Hp} {A : List Addr} {σ : L2.St} {η : Nv} {i : Nat} {xs : OL} {c : Addr} {ws : List V} {ys : List D} (E : EnvD K H A σ η) (hi : η[i]? = some (.own xs)) (ho : σ[i]? = some (some (.ref c))) (q : DpAll K (hid A H) ws ys) :
    EnvD K (upd H c (.lst ws)) A σ (η.set i (.own ⟨xs.b, ys⟩)) ∧ Mv σ η H (upd H c (.lst ws)) ∧ hid A (upd H c (.lst ws)) = hid A H := by
  have mA := (own_in E hi ho).1
  have eh : hid A (upd H c (.lst ws)) = hid A H := hid_upd mA
  have kp : ∀ z o, z ≠ c → H z = some o → upd H c (.lst ws) z = some o := fun z o nz w => by rw [upd_ne nz]; exact w
  refine ⟨E.put hi ho kp (fun z mz => ?_) upd_same (by rw [eh]; exact q), fun z o w nn => kp z o (fun y => nn i xs hi (by rw [y]; exact ho)) w, eh⟩
  by_cases hz : z = c
  · rw [hz, upd_same]
    exact fun w => nomatch w
  · rw [upd_ne hz]
    exact E.tr z mz
theorem x_pop (i : Nat) {x : Str} (he : TX X (rD X.K) e F) (hi : X.N[i]? = some x := by rfl) (hv : Vis X.env.scope x := by first | exact Or.inl rfl | exact Or.inr (Or.inl rfl) | exact Or.inr (Or.inr rfl)) (hd : (x == ("__debug__" : Str)) = false := by decide) (hcd : (x == ("__classdict__" : Str)) = false := by decide)
    (hbase : attributeBase (.Name x px) "pop" X.env (eval (.Name x px) X.env) = eval (.Name x px) X.env := by rfl)
    (hfew : ((backTo cpos (starEach [e] X.env)).all (fun x => !x.1) && (backToKw cpos (keywordEach [] X.env)).all (fun x => x.1.isSome) && decide ([e].length + ([] : List Keyword).length + (if ([] : List Keyword).isEmpty then 0 else 1) < 30)) = true := by rfl)
    (hline : (apos.endLine == cpos.line) = true := by rfl) (hs : starEach [e] X.env = (false, eval e X.env) :: starEach [] X.env := by rfl) (hplain : (backTo cpos (starEach [] X.env)).any (·.1) = false := by rfl) :
    TX X (rD X.K) (.Call (.Attribute (.Name x px) "pop" apos) [e] [] cpos) (xPop i F) := peW (pe_bm PySem.F.plainAttrs_list PySem.F.slot_list_pop PySem.F.type_list_pop mt_popAt (pe_var hi hv hd hcd) (pa_cons he pa_nil hs) hbase hfew hline hs hplain) fun σ H Q ⟨η, A, E, p0⟩ => by
  have p : PostX X.K (rD X.K) σ A H η (xPop i F η) Q := p0
  unfold xPop at p
  split at p
  case h_2 => exact False.elim p
  rename_i x0 hx0
  obtain ⟨c, ec, _, vs0, ev0, _⟩ := own_ref E hx0
  refine ⟨.ref c, ec, .inl ⟨rfl, vs0, SqL.of ev0⟩, ?_⟩
  refine (show tX X.K (rD X.K) F σ H _ from stepX (Pn := fun η r => PostX X.K (rD X.K) σ A H η r Q) E p (fun _ _ _ z => z) (fun z => z) fun k η1 v H1 e1 E1 k1 m1 q p => ?_)
  unfold popAt at p
  split at p
  case h_2 => exact False.elim p
  rename_i xs j hx hk
  have hk : k = .int j := hk
  subst hk
  split at p
  case isFalse => exact False.elim p
  rename_i hj
  split at p
  case h_2 => exact False.elim p
  rename_i m hm
  split at p
  case h_2 => exact False.elim p
  rename_i y hy
  have hx : η1[i]? = some (.own xs) := hx
  obtain ⟨mA, us, eu, qu⟩ := own_in E1 hx ec
  cases q
  obtain ⟨w, hw, qw⟩ := DpAll_get qu hy
  obtain ⟨Ep, mp, eh⟩ := put_keep E1 hx ec (DpAll_erase m qu)
  refine ⟨c, us, j, m, w, rfl, rfl, eu, hj.1, hj.2, by rw [DpAll_length qu]; exact hm, hw, ?_⟩
  exact p w _ Ep (k1.trans (Kin.put hx)) (Mv.trans k1 m1 mp) (by
    show Dp X.K (hid A (upd H1 c _)) w y
    rw [eh]
    exact qw)
end
end Bd
/-! D17: data sorted; data compared. -/
namespace Bd
open PySem L2

section
variable {X : Cx}
/-- sorted of alike data -/
def rSortD (K : PySem.W.Frag) : List V → Hp → VK → Prop := fun vs H Q => ∃ (a : Addr) (zs : List (V × D)), vs = [.ref a] ∧ SqL K H a (zs.map (·.1)) ∧ (∀ z ∈ zs, Dp K H z.1 z.2) ∧ PySem.W.AllAlike (zs.map (·.2)) ∧ PySem.W.Sortable (zs.map (·.2)) ∧ (∀ z ∈ zs, z.2.depth ≤ 60) ∧
  ∀ p, H p = none → Q (.ref p) (upd H p (.lst ((zs.mergeSort (PySem.W.dataLe false fun z : V × D => z.2)).map (·.1))))
theorem each_of {zs0 : List (V × D)} {R : Value → V × D → Prop} (h : ∀ (u : Value) (z : V × D), RelV z.1 u → z ∈ zs0 → R u z) : ∀ (zs : List (V × D)) (us : List Value), (∀ z ∈ zs, z ∈ zs0) → Vals (zs.map (·.1)) us → PySem.W.EachIs R us zs
  | [], us, _, r => by
    cases r
    exact .nil
  | z :: zs, us, hz, r => by
    cases r with
    | cons a t => exact .cons (h _ z a (hz z List.mem_cons_self)) (each_of h zs _ (fun y m => hz y (List.mem_cons_of_mem _ m)) t)
theorem vals_each {R : Value → V × D → Prop} (h : ∀ u z, R u z → RelV z.1 u) : ∀ {us : List Value} {zs : List (V × D)}, PySem.W.EachIs R us zs → Vals (zs.map (·.1)) us
  | _, _, .nil => .nil
  | _, _, .cons a t => .cons (h _ _ a) (vals_each h t)
theorem cr_sortD (hu : X.A.units + 64 < cLine) : CallR X (.builtin "sorted") (rSortD X.K) := by
  intro pins s σ H vs us Q I r h
  obtain ⟨a, zs, rfl, hs, hd, hal, hso, hdp, q⟩ := h
  obtain ⟨its, rv, hl, hz⟩ := I.list hs
  obtain ⟨u, rfl, ru⟩ := vals1 r
  obtain rfl : u = Value.ref a := ru
  have e0 := each_of (zs0 := zs) (R := fun u z => RelV z.1 u ∧ ∃ as, Reads s.heap u z.2 as) (fun u z rz m => ⟨rz, Dp.reads I z.2 z.1 u (hd z m) rz⟩) zs its (fun z m => m) rv
  refine PySem.W.sorted_data (enc := fun z : V × D => z.2) (R := fun u z => RelV z.1 u) hl.isList (e0.mono fun _ _ h => h.1) (e0.mono fun _ _ h => h.2) hal hso (by
      have := rv.length
      rw [List.length_map] at this
      rw [List.length_map] at hz
      exact hz) (fun z m => by
      have := hdp z m
      omega) fun out hlen ho => ?_
  obtain ⟨c, hc⟩ := PyProof.Rows.sortedAll_at s.heap its out.toArray
  have kp : ∀ b o, s.heap.get? b = some o → (PyProof.Rows.sortedAll s.heap its out.toArray).get? b = some o := fun b o => PyProof.Rows.sortedAll_old
  have hd' : s.heap.objs.size ≤ s.heap.objs.size + 1 := Nat.le_succ _
  have vo := vals_each (fun _ _ h => h) ho
  refine ⟨.ref (s.heap.objs.size + 1), upd H (s.heap.objs.size + 1) (.lst ((zs.mergeSort (PySem.W.dataLe false fun z : V × D => z.2)).map (·.1))), I.laid (t' := s.toks) kp hd' ⟨?_, out, c, vo, hc⟩, rfl, q _ (I.hok.fresh hd')⟩
  have := vo.length
  rw [List.length_map] at hz ⊢
  rw [List.length_mergeSort]
  exact hz
/-- data that a sort takes -/
def alikeB (ds : List D) : Bool := ds.all fun d => ds.all fun e => PySem.W.alike d e
def tupB : D → Bool
  | .tuple (_ :: _) => true
  | _ => false
def othB : D → Bool
  | .none => false
  | .tuple _ => false
  | _ => true
def sortB (ds : List D) : Bool := alikeB ds && (ds.all tupB || ds.all othB) && ds.all fun d => decide (d.depth ≤ 60)
theorem sortB_alike {ds : List D} (h : sortB ds = true) : PySem.W.AllAlike ds := fun d hd e he => by
  unfold sortB alikeB at h
  simp only [Bool.and_eq_true, List.all_eq_true] at h
  exact h.1.1 d hd e he
theorem sortB_able {ds : List D} (h : sortB ds = true) : PySem.W.Sortable ds := by
  unfold sortB at h
  simp only [Bool.and_eq_true, Bool.or_eq_true, List.all_eq_true] at h
  rcases h.1.2 with h | h
  · refine .inl fun d hd => ?_
    have := h d hd
    unfold tupB at this
    split at this
    · exact ⟨_, _, rfl⟩
    · cases this
  · refine .inr fun d hd => ?_
    have := h d hd
    unfold othB at this
    split at this
    · cases this
    · cases this
    · rename_i n1 n2
      exact ⟨fun z => n1 z, fun xs z => n2 xs z⟩
theorem sortB_dp {ds : List D} (h : sortB ds = true) : ∀ d ∈ ds, d.depth ≤ 60 := fun d hd => by
  unfold sortB at h
  simp only [Bool.and_eq_true, List.all_eq_true, decide_eq_true_eq] at h
  exact h.2 d hd
def sortD (ds : List D) : List D := ds.mergeSort (PySem.W.dataLe false id)
def sortDV : List D → Option D
  | [.list xs] => if sortB xs then some (.list (sortD xs)) else none
  | _ => none
theorem zip_fst : ∀ {vs : List V} {ds : List D} {K : PySem.W.Frag} {H : Hp}, DpAll K H vs ds → (vs.zip ds).map (·.1) = vs ∧ (vs.zip ds).map (·.2) = ds ∧ ∀ z ∈ vs.zip ds, Dp K H z.1 z.2
  | _, _, _, _, .nil => ⟨rfl, rfl, fun z m => absurd m List.not_mem_nil⟩
  | _, _, _, _, .cons h t => by
    obtain ⟨h1, h2, h3⟩ := zip_fst t
    refine ⟨by rw [List.zip_cons_cons, List.map_cons, h1], by rw [List.zip_cons_cons, List.map_cons, h2], fun z m => ?_⟩
    rcases List.mem_cons.mp m with rfl | m
    · exact h
    · exact h3 z m
theorem dpAll_zip {K : PySem.W.Frag} {H : Hp} : ∀ {zs : List (V × D)}, (∀ z ∈ zs, Dp K H z.1 z.2) → DpAll K H (zs.map (·.1)) (zs.map (·.2))
  | [], _ => .nil
  | z :: zs, h => .cons (h z List.mem_cons_self) (dpAll_zip fun y m => h y (List.mem_cons_of_mem _ m))
theorem sort_snd (zs : List (V × D)) : (zs.mergeSort (PySem.W.dataLe false fun z : V × D => z.2)).map (·.2) = sortD (zs.map (·.2)) := by
  unfold sortD
  exact List.map_mergeSort fun a _ b _ => rfl
theorem o_sortD : OpN X (rF X.K) (rSortD X.K) sortDV := fun H A vs ds d Q hA h e k => by
  unfold sortDV at e
  split at e
  · split at e
    · rename_i xs hb
      have e := Option.some.inj e
      subst e
      obtain ⟨v, rfl, q⟩ := all1 h
      obtain ⟨l, ws, rfl, h1, q1⟩ := rO_list q
      obtain ⟨z1, z2, z3⟩ := zip_fst q1
      refine ⟨l, ws.zip xs, rfl, by rw [z1]; exact h1, fun z m => Dp_mono (z3 z m) (hid_le A H), by rw [z2]; exact sortB_alike hb, by rw [z2]; exact sortB_able hb, fun z m => sortB_dp hb z.2 (by rw [← z2]; exact List.mem_map.mpr ⟨z, m, rfl⟩), fun p hp => ?_⟩
      refine k _ _ (same_new hp) (dp_new_list hA hp ?_)
      have y := dpAll_zip (K := X.K) (H := hid A H) (zs := (ws.zip xs).mergeSort (PySem.W.dataLe false fun z : V × D => z.2)) fun z m => z3 z (List.mem_mergeSort.mp m)
      rw [sort_snd, z2] at y
      exact y
    · cases e
  · cases e
theorem t_sortD {W : WX} {e : Expr} {p pos : Pos} {Fs : Nv → R (List D)} (hu : X.A.units + 64 < cLine) (hm : X.mg "sorted" = none) (ha : TAs X W (vO X.K) [e] Fs) (hgl : Gl X "sorted" := by rfl) (he : starEach [e] X.env = (false, eval e X.env) :: starEach [] X.env := by rfl) (hpl : (backTo pos (starEach [] X.env)).any (·.1) = false := by rfl) :
    TF X W (.Call (.Name "sorted" p) [e] [] pos) (eN sortDV Fs) := t_callB back_F (cr_sortD hu) o_sortD hgl hm (by decide +kernel) ha (he := he) (hpl := hpl)
/-! comparisons of alike data -/
def rCmpD (K : PySem.W.Frag) (f : D → D → Bool) : R2 := fun x y H Q => ∃ a b, Dp K H x a ∧ Dp K H y b ∧ PySem.W.alike a b = true ∧ a ≠ .none ∧ a.depth ≤ 60 ∧ Q (.bl (f a b)) H
def ltD (a b : D) : Bool := PySem.W.dataLt a b
def gtD (a b : D) : Bool := PySem.W.dataLt b a
def leD (a b : D) : Bool := !PySem.W.dataLt b a
def geD (a b : D) : Bool := !PySem.W.dataLt a b
theorem op_ltD (hu : X.A.units + 64 < cLine) : OpR X (compareOp .Lt) (rCmpD X.K ltD) := fun pins s σ H x y v u Q I rx ry ⟨a, b, ha, hb, al, nn, dp, q⟩ => by
  obtain ⟨as, r1⟩ := Dp.reads I a x v ha rx
  obtain ⟨bs, r2⟩ := Dp.reads I b y u hb ry
  exact PySem.W.lt_data r1 r2 al nn (by have := Nat.min_le_left a.depth b.depth; omega) ⟨.bl _, H, I, rfl, q⟩
theorem op_gtD (hu : X.A.units + 64 < cLine) : OpR X (compareOp .Gt) (rCmpD X.K gtD) := fun pins s σ H x y v u Q I rx ry ⟨a, b, ha, hb, al, nn, dp, q⟩ => by
  obtain ⟨as, r1⟩ := Dp.reads I a x v ha rx
  obtain ⟨bs, r2⟩ := Dp.reads I b y u hb ry
  exact PySem.W.gt_data r1 r2 al nn (by have := Nat.min_le_left a.depth b.depth; omega) ⟨.bl _, H, I, rfl, q⟩
theorem op_leD (hu : X.A.units + 64 < cLine) : OpR X (compareOp .LtE) (rCmpD X.K leD) := fun pins s σ H x y v u Q I rx ry ⟨a, b, ha, hb, al, nn, dp, q⟩ => by
  obtain ⟨as, r1⟩ := Dp.reads I a x v ha rx
  obtain ⟨bs, r2⟩ := Dp.reads I b y u hb ry
  exact PySem.W.le_data r1 r2 al nn (by have := Nat.min_le_left a.depth b.depth; omega) ⟨.bl _, H, I, rfl, q⟩
theorem op_geD (hu : X.A.units + 64 < cLine) : OpR X (compareOp .GtE) (rCmpD X.K geD) := fun pins s σ H x y v u Q I rx ry ⟨a, b, ha, hb, al, nn, dp, q⟩ => by
  obtain ⟨as, r1⟩ := Dp.reads I a x v ha rx
  obtain ⟨bs, r2⟩ := Dp.reads I b y u hb ry
  exact PySem.W.ge_data r1 r2 al nn (by have := Nat.min_le_left a.depth b.depth; omega) ⟨.bl _, H, I, rfl, q⟩
def someB : D → Bool
  | .none => false
  | _ => true
theorem someB_ne {a : D} (h : someB a = true) : a ≠ .none := fun e => by
  subst e
  cases h
def cmpV (f : D → D → Bool) (a b : D) : Option D := if PySem.W.alike a b = true ∧ someB a = true ∧ a.depth ≤ 60 then some (.bool (f a b)) else none
theorem o_cmpD {f : D → D → Bool} : Op2 X rB (rCmpD X.K f) (cmpV f) := fun H A x y a b d Q hA ha hb e k => by
  unfold cmpV at e
  split at e
  · rename_i h
    have e := Option.some.inj e
    subst e
    exact ⟨a, b, rO_dp ha, rO_dp hb, h.1, someB_ne h.2.1, h.2.2, k _ H (Same.refl _) ⟨_, rfl, rfl⟩⟩
  · cases e
/-! ints first, else data -/
def rOr2 (r r' : R2) : R2 := fun x y H Q => r x y H Q ∨ r' x y H Q
theorem op_or {c : CmpOp} {r r' : R2} (h : OpR X (compareOp c) r) (h' : OpR X (compareOp c) r') : OpR X (compareOp c) (rOr2 r r') := fun pins s σ H x y v u Q I rx ry z => z.elim (h pins s σ H x y v u Q I rx ry) (h' pins s σ H x y v u Q I rx ry)
def orV2 (f g : D → D → Option D) (a b : D) : Option D := match f a b with
  | some d => some d
  | none => g a b
theorem o_or {r r' : R2} {f g : D → D → Option D} (h : Op2 X rB r f) (h' : Op2 X rB r' g) : Op2 X rB (rOr2 r r') (orV2 f g) := fun H A x y a b d Q hA ha hb e k => by
  unfold orV2 at e
  split at e
  · rename_i d0 e0
    have e := Option.some.inj e
    subst e
    exact .inl (h H A x y a b _ Q hA ha hb e0 k)
  · exact .inr (h' H A x y a b d Q hA ha hb e k)
def ltA := orV2 ltV (cmpV ltD)
def leA := orV2 leV (cmpV leD)
def gtA := orV2 gtV (cmpV gtD)
def geA := orV2 geV (cmpV geD)
variable {W : WX} {a b e : Expr} {Fa Fb : Nv → R D} {pos p : Pos}
theorem op_ltA (hu : X.A.units + 64 < cLine) : OpR X (compareOp .Lt) (rOr2 (rI0 fun i j => .bl (decide (i < j))) (rCmpD X.K ltD)) := op_or op_lt (op_ltD hu)
theorem op_leA (hu : X.A.units + 64 < cLine) : OpR X (compareOp .LtE) (rOr2 (rI0 fun i j => .bl (decide (i ≤ j))) (rCmpD X.K leD)) := op_or op_le (op_leD hu)
theorem op_gtA (hu : X.A.units + 64 < cLine) : OpR X (compareOp .Gt) (rOr2 (rI0 fun i j => .bl (decide (j < i))) (rCmpD X.K gtD)) := op_or op_gt (op_gtD hu)
theorem op_geA (hu : X.A.units + 64 < cLine) : OpR X (compareOp .GtE) (rOr2 (rI0 fun i j => .bl (decide (j ≤ i))) (rCmpD X.K geD)) := op_or op_ge (op_geD hu)
theorem o_ltA : Op2 X rB (rOr2 (rI0 fun i j => .bl (decide (i < j))) (rCmpD X.K ltD)) ltA := o_or o_cmpI o_cmpD
theorem o_leA : Op2 X rB (rOr2 (rI0 fun i j => .bl (decide (i ≤ j))) (rCmpD X.K leD)) leA := o_or o_cmpI o_cmpD
theorem o_gtA : Op2 X rB (rOr2 (rI0 fun i j => .bl (decide (j < i))) (rCmpD X.K gtD)) gtA := o_or o_cmpI o_cmpD
theorem o_geA : Op2 X rB (rOr2 (rI0 fun i j => .bl (decide (j ≤ i))) (rCmpD X.K geD)) geA := o_or o_cmpI o_cmpD
theorem t_ltA (hu : X.A.units + 64 < cLine) (ha : TO X W a Fa) (hb : TO X W b Fb) : TD X W (.Compare a [.Lt] [b] pos) (e2 ltA Fa Fb) := t_cmpB (op_ltA hu) o_ltA ha hb (nomark _)
theorem t_leA (hu : X.A.units + 64 < cLine) (ha : TO X W a Fa) (hb : TO X W b Fb) : TD X W (.Compare a [.LtE] [b] pos) (e2 leA Fa Fb) := t_cmpB (op_leA hu) o_leA ha hb (nomark _)
theorem t_gtA (hu : X.A.units + 64 < cLine) (ha : TO X W a Fa) (hb : TO X W b Fb) : TD X W (.Compare a [.Gt] [b] pos) (e2 gtA Fa Fb) := t_cmpB (op_gtA hu) o_gtA ha hb (nomark _)
theorem t_geA (hu : X.A.units + 64 < cLine) (ha : TO X W a Fa) (hb : TO X W b Fb) : TD X W (.Compare a [.GtE] [b] pos) (e2 geA Fa Fb) := t_cmpB (op_geA hu) o_geA ha hb (nomark _)
theorem b_ltA (hu : X.A.units + 64 < cLine) (ha : TO X W a Fa) (hb : TO X W b Fb) : TB X W (.Compare a [.Lt] [b] pos) (tb (e2 ltA Fa Fb)) := b_cmp (op_ltA hu) o_ltA ha hb (nomark _)
theorem b_leA (hu : X.A.units + 64 < cLine) (ha : TO X W a Fa) (hb : TO X W b Fb) : TB X W (.Compare a [.LtE] [b] pos) (tb (e2 leA Fa Fb)) := b_cmp (op_leA hu) o_leA ha hb (nomark _)
theorem b_gtA (hu : X.A.units + 64 < cLine) (ha : TO X W a Fa) (hb : TO X W b Fb) : TB X W (.Compare a [.Gt] [b] pos) (tb (e2 gtA Fa Fb)) := b_cmp (op_gtA hu) o_gtA ha hb (nomark _)
theorem b_geA (hu : X.A.units + 64 < cLine) (ha : TO X W a Fa) (hb : TO X W b Fb) : TB X W (.Compare a [.GtE] [b] pos) (tb (e2 geA Fa Fb)) := b_cmp (op_geA hu) o_geA ha hb (nomark _)
theorem ltA_int (i j : Int) : ltA (.int i) (.int j) = some (.bool (decide (i < j))) := rfl
theorem leA_int (i j : Int) : leA (.int i) (.int j) = some (.bool (decide (i ≤ j))) := rfl
theorem gtA_int (i j : Int) : gtA (.int i) (.int j) = some (.bool (decide (j < i))) := rfl
theorem geA_int (i j : Int) : geA (.int i) (.int j) = some (.bool (decide (j ≤ i))) := rfl
/-! sorted: ints first, else data -/
def sortAV (ds : List D) : Option D := match sortIV ds with
  | some d => some d
  | none => sortDV ds
def rSortA (K : PySem.W.Frag) : List V → Hp → VK → Prop := fun vs H Q => rSortedI K vs H Q ∨ rSortD K vs H Q
theorem cr_sortA (hu : X.A.units + 64 < cLine) : CallR X (.builtin "sorted") (rSortA X.K) := fun pins s σ H vs us Q I r h => h.elim (cr_sortedI pins s σ H vs us Q I r) (cr_sortD hu pins s σ H vs us Q I r)
theorem o_sortI : OpN X (rF X.K) (rSortedI X.K) sortIV := fun H A vs ds d Q hA h e k => by
  unfold sortIV at e
  split at e
  · rename_i xs
    cases e2 : ints? xs with
    | none => rw [e2] at e; cases e
    | some bs =>
      rw [e2] at e
      cases e
      obtain ⟨v, rfl, q⟩ := all1 h
      obtain ⟨l, ws, rfl, h1, q1⟩ := rO_list q
      rw [(ints_of q1 e2).1] at h1
      refine ⟨l, bs, rfl, h1, fun ns' t pm so ht => ?_⟩
      have en : ns' = isort bs := sorted_unique (pm.trans (isort_perm bs).symm) so (isort_sorted bs)
      subst en
      exact k _ _ (same_new ht) (dp_new_list hA ht (DpAll_ints _))
  · cases e
theorem o_sortA : OpN X (rF X.K) (rSortA X.K) sortAV := fun H A vs ds d Q hA h e k => by
  unfold sortAV at e
  split at e
  · rename_i d0 e0
    have e := Option.some.inj e
    subst e
    exact .inl (o_sortI H A vs ds _ Q hA h e0 k)
  · exact .inr (o_sortD H A vs ds d Q hA h e k)
theorem t_sortA {Fs : Nv → R (List D)} (hu : X.A.units + 64 < cLine) (hm : X.mg "sorted" = none) (ha : TAs X W (vO X.K) [e] Fs) (hgl : Gl X "sorted" := by rfl) (he : starEach [e] X.env = (false, eval e X.env) :: starEach [] X.env := by rfl) (hpl : (backTo pos (starEach [] X.env)).any (·.1) = false := by rfl) :
    TF X W (.Call (.Name "sorted" p) [e] [] pos) (eN sortAV Fs) := t_callB back_F (cr_sortA hu) o_sortA hgl hm (by decide +kernel) ha (he := he) (hpl := hpl)
theorem x_sortA {Fs : Nv → R (List D × Nv)} (hu : X.A.units + 64 < cLine) (hm : X.mg "sorted" = none) (ha : TXA X [e] Fs) (hgl : Gl X "sorted" := by rfl) (he : starEach [e] X.env = (false, eval e X.env) :: starEach [] X.env := by rfl) (hpl : (backTo pos (starEach [] X.env)).any (·.1) = false := by rfl) :
    TX X (rD X.K) (.Call (.Name "sorted" p) [e] [] pos) (xN sortAV Fs) := x_callB back2_D (cr_sortA hu) (fun H A vs ds d Q hA h e k => o_sortA H A vs ds d Q hA h e fun v H' s q => k v H' s (rF_D (fun z hz m => hA z m hz) q)) hgl hm (by decide +kernel) ha (he := he) (hpl := hpl)
theorem sortAV_ints (l : List Int) : sortAV [.list (l.map PyData.int)] = some (.list ((isort l).map PyData.int)) := by
  have h : ∀ r : List Int, ints? (r.map PyData.int) = some r := fun r => by
    induction r with
    | nil => rfl
    | cons x r ih =>
      show (ints? (r.map PyData.int)).map (x :: ·) = _
      rw [ih]
      rfl
  unfold sortAV sortIV
  show (match (ints? (l.map PyData.int)).map fun ns => PyData.list ((isort ns).map PyData.int) with
    | some d => some d
    | none => _) = _
  rw [h]
  rfl
end
end Bd
/-! D18: list and tuple of a range; insert; max and min with changes. -/
namespace Bd
open PySem L2

section
variable {X : Cx} {W : WX} {e a : Expr} {Fa : Nv → R D} {p p2 pos pos2 : Pos}
theorem dp_rg {K : PySem.W.Frag} {H : Hp} {n : Nat} : DpAll K H (rgV 0 (n : Int)) (rangeD 0 n) := by
  unfold rgV rangeD
  rw [Int.sub_zero, Int.toNat_natCast]
  have key : ∀ l : List Nat, DpAll K H (l.map fun i => V.int (0 + (i : Nat))) (l.map fun i => PyData.int (0 + (i : Nat))) := fun l => by
    induction l with
    | nil => exact .nil
    | cons x r ih => exact .cons (.int _) ih
  exact key _
def rgL (d : D) : R (List D) := match d with
  | .int n => if 0 ≤ n ∧ n ≤ 16777216 then .ok (rangeD 0 n.toNat) else .no
  | _ => .no
def lrgV (F : Nv → R D) : Nv → R D := fun η => (F η).bind fun d => (rgL d).bind fun xs => .ok (.list xs)
def trgV (F : Nv → R D) : Nv → R D := fun η => (F η).bind fun d => (rgL d).bind fun xs => .ok (.tuple xs)
theorem rg_core {rl : Rl} {mk : List D → D} {lay : List V → HO} {σ : L2.St} {H : Hp} {Q : VK} (hb : Back rl) (hm : ∀ (H1 : Hp) (A : List Addr) (vs : List V) (ds : List D) (q : Addr), (∀ b ∈ A, H1 b ≠ none) → H1 q = none → DpAll X.K (hid A H1) vs ds → rl H1 (upd H1 q (lay vs)) A (.ref q) (mk ds))
    (h : tR X.K X.mg W rl (fun η => (Fa η).bind fun d => (rgL d).bind fun xs => .ok (mk xs)) σ H Q) : tRg1 (tR X.K X.mg W (rO X.K) Fa) σ H fun i j H1 => RgOk i j ∧ ∀ q, H1 q = none → Q (.ref q) (upd H1 q (lay (rgV i j))) := by
  obtain ⟨η, A, E, p0⟩ := h
  have p : Post X.K X.mg W rl σ A H ((Fa η).bind fun d => (rgL d).bind fun xs => .ok (mk xs)) Q := p0
  refine (show tR X.K X.mg W (rO X.K) Fa σ H _ from ⟨η, A, E, ?_⟩)
  cases e1 : Fa η with
  | ex c w q => rw [e1] at p; exact p
  | no => rw [e1] at p; exact p
  | ok d =>
    rw [e1] at p
    replace p : Post X.K X.mg W rl σ A H ((rgL d).bind fun xs => .ok (mk xs)) Q := p
    clear e1
    cases d <;> first | exact False.elim p | skip
    rename_i n
    intro v H1 s1 q1
    replace p : Post X.K X.mg W rl σ A H ((if 0 ≤ n ∧ n ≤ 16777216 then R.ok (rangeD 0 n.toNat) else .no).bind fun xs => .ok (mk xs)) Q := p
    by_cases hn : 0 ≤ n ∧ n ≤ 16777216
    case neg => rw [if_neg hn] at p; exact False.elim p
    rw [if_pos hn] at p
    have en : n = ((n.toNat : Nat) : Int) := by omega
    refine ⟨n, rO_int q1, RgOk.of_le (by decide) hn.2 (by decide) hn.1, fun q hq => p _ _ (s1.trans (same_new hq)) (hb _ _ _ _ _ _ s1 ?_)⟩
    have hd : DpAll X.K (hid A H1) (rgV 0 n) (rangeD 0 n.toNat) := by
      rw [en]
      rw [show ((n.toNat : Int)).toNat = n.toNat from Int.toNat_natCast _]
      exact dp_rg
    exact hm H1 A _ _ q (E.same s1).tr hq hd
theorem t_listRg (hc : X.calm = true) (hm : X.mg "list" = none) (hm2 : X.mg "range" = none) (ha : TO X W a Fa) (hg : Gl X "list" := by rfl) (hg2 : Gl X "range" := by rfl) (na : starEach [a] X.env = (false, eval a X.env) :: starEach [] X.env := by rfl) (nb : starEach [.Call (.Name "range" p2) [a] [] pos2] X.env = (false, eval (.Call (.Name "range" p2) [a] [] pos2) X.env) :: starEach [] X.env := by rfl) :
    TF X W (.Call (.Name "list" p) [.Call (.Name "range" p2) [a] [] pos2] [] pos) (lrgV Fa) := peW (pe_listRg hc hg hm (prg_1 hg2 hm2 ha na) nb) fun σ H Q h =>
  rg_core (mk := .list) (lay := .lst) back_F (fun H1 A vs ds q hA hq hd => dp_new_list hA hq hd) h
theorem t_tupRg (hc : X.calm = true) (hm : X.mg "tuple" = none) (hm2 : X.mg "range" = none) (ha : TO X W a Fa) (hg : Gl X "tuple" := by rfl) (hg2 : Gl X "range" := by rfl) (na : starEach [a] X.env = (false, eval a X.env) :: starEach [] X.env := by rfl) (nb : starEach [.Call (.Name "range" p2) [a] [] pos2] X.env = (false, eval (.Call (.Name "range" p2) [a] [] pos2) X.env) :: starEach [] X.env := by rfl) :
    TD X W (.Call (.Name "tuple" p) [.Call (.Name "range" p2) [a] [] pos2] [] pos) (trgV Fa) := peW (pe_tupRg hc hg hm (prg_1 hg2 hm2 ha na) nb) fun σ H Q h =>
  rg_core (mk := .tuple) (lay := .tup) back_D (fun H1 A vs ds q hA hq hd => dp_new_tup hA hq hd) h
/-! max, min -/
theorem x_max {Fs : Nv → R (List D × Nv)} {es : List Expr} (hc : X.calm = true) (hm : X.mg "max" = none) (ha : TXA X (e :: es) Fs) (hgl : Gl X "max" := by rfl) (he : starEach (e :: es) X.env = (false, eval e X.env) :: starEach es X.env := by rfl) (hpl : (backTo pos (starEach es X.env)).any (·.1) = false := by rfl) :
    TX X (rD X.K) (.Call (.Name "max" p) (e :: es) [] pos) (xN maxV Fs) := x_callB (r := rMaxA X.K) back2_D (fun pins s σ H xs us Q I r h => h.elim (call_max2 hc pins s σ H xs us Q I r) (cr_max hc pins s σ H xs us Q I r)) (fun H A vs ds d Q hA h e k => by
  unfold maxV at e
  split at e
  · have e := Option.some.inj e
    subst e
    obtain ⟨v, w, rfl, q1, q2⟩ := all2 h
    exact .inl ⟨_, _, by rw [rO_int q1, rO_int q2], k _ H (Same.refl _) (.int _)⟩
  · rename_i xs
    cases e2 : ints? xs with
    | none => rw [e2] at e; cases e
    | some ns =>
      rw [e2] at e
      have e : (if 0 < ns.length then some (PyData.int (maxI ns)) else none) = some d := e
      split at e
      · rename_i hl
        cases e
        obtain ⟨v, rfl, q⟩ := all1 h
        obtain ⟨l, ws, rfl, h1, q1⟩ := rO_list q
        rw [(ints_of q1 e2).1] at h1
        refine .inr ⟨l, ns, rfl, h1, hl, fun m h3 h4 => ?_⟩
        rw [maxI_is ns m h3 h4]
        exact k _ H (Same.refl _) (.int _)
      · cases e
  · cases e) hgl hm (by decide +kernel) ha (he := he) (hpl := hpl)
theorem x_min {Fs : Nv → R (List D × Nv)} {es : List Expr} (hc : X.calm = true) (hm : X.mg "min" = none) (ha : TXA X (e :: es) Fs) (hgl : Gl X "min" := by rfl) (he : starEach (e :: es) X.env = (false, eval e X.env) :: starEach es X.env := by rfl) (hpl : (backTo pos (starEach es X.env)).any (·.1) = false := by rfl) :
    TX X (rD X.K) (.Call (.Name "min" p) (e :: es) [] pos) (xN minV Fs) := x_callB (r := rMinA X.K) back2_D (fun pins s σ H xs us Q I r h => h.elim (call_min2 hc pins s σ H xs us Q I r) (cr_min hc pins s σ H xs us Q I r)) (fun H A vs ds d Q hA h e k => by
  unfold minV at e
  split at e
  · have e := Option.some.inj e
    subst e
    obtain ⟨v, w, rfl, q1, q2⟩ := all2 h
    exact .inl ⟨_, _, by rw [rO_int q1, rO_int q2], k _ H (Same.refl _) (.int _)⟩
  · rename_i xs
    cases e2 : ints? xs with
    | none => rw [e2] at e; cases e
    | some ns =>
      rw [e2] at e
      have e : (if 0 < ns.length then some (PyData.int (minI ns)) else none) = some d := e
      split at e
      · rename_i hl
        cases e
        obtain ⟨v, rfl, q⟩ := all1 h
        obtain ⟨l, ws, rfl, h1, q1⟩ := rO_list q
        rw [(ints_of q1 e2).1] at h1
        refine .inr ⟨l, ns, rfl, h1, hl, fun m h3 h4 => ?_⟩
        rw [minI_is ns m h3 h4]
        exact k _ H (Same.refl _) (.int _)
      · cases e
  · cases e) hgl hm (by decide +kernel) ha (he := he) (hpl := hpl)
end
/-! insert -/
section
variable {X : Cx} {f : Fx} {a b : Expr} {Fa Fb : Nv → R (D × Nv)} {apos cpos epos px : Pos}
def insAt (i : Nat) (p : List D × Nv) : Rs := match p.2[i]?, p.1 with
  | some (.own xs), [.int j, y] => if 0 ≤ j ∧ j < 2 ^ 63 ∧ xs.l.length < lineN then .nx (p.2.set i (.own ⟨xs.b, xs.l.take j.toNat ++ [y] ++ xs.l.drop j.toNat⟩)) else .no
  | _, _ => .no
def xIns (i : Nat) (Fs : Nv → R (List D × Nv)) : Nv → Rs := fun η => match η[i]? with
  | some (.own _) => (only (Fs η)).toS (insAt i)
  | _ => .no
theorem xs_ins (i : Nat) {x : Str} {Fs : Nv → R (List D × Nv)} (he : TXA X [a, b] Fs) (hi : X.N[i]? = some x := by rfl) (hv : Vis X.env.scope x := by first | exact Or.inl rfl | exact Or.inr (Or.inl rfl)) (hd : (x == ("__debug__" : Str)) = false := by decide) (hcd : (x == ("__classdict__" : Str)) = false := by decide)
    (hbase : attributeBase (.Name x px) "insert" X.env (eval (.Name x px) X.env) = eval (.Name x px) X.env := by rfl)
    (hfew : ((backTo cpos (starEach [a, b] X.env)).all (fun x => !x.1) && (backToKw cpos (keywordEach [] X.env)).all (fun x => x.1.isSome) && decide ([a, b].length + ([] : List Keyword).length + (if ([] : List Keyword).isEmpty then 0 else 1) < 30)) = true := by rfl)
    (hline : (apos.endLine == cpos.line) = true := by rfl) (hs1 : starEach [a, b] X.env = (false, eval a X.env) :: starEach [b] X.env := by rfl) (hplain : (backTo cpos (starEach [b] X.env)).any (·.1) = false := by rfl) (hs : swapsWith (.Call (.Attribute (.Name x px) "insert" apos) [a, b] [] cpos) none epos.line X.env = pure false := by rfl) :
    TS' X f (.Expr (.Call (.Attribute (.Name x px) "insert" apos) [a, b] [] cpos) epos) (xIns i Fs) :=
  psW (ps_expr (pe_bm PySem.F.plainAttrs_list PySem.F.slot_list_insert PySem.F.type_list_insert mt_insert (pe_var hi hv hd hcd) he hbase hfew hline hs1 hplain) hs) fun E σ H h => by
    obtain ⟨η, B, e0, p0⟩ := h
    have p : PostS X.K X.mg f.W f.rl f.M f.H0 f.A0 H B (xIns i Fs η) E := p0
    unfold xIns at p
    split at p
    case h_2 => exact False.elim p
    rename_i x0 hx0
    obtain ⟨c, ec, _, vs0, ev0, _⟩ := own_ref e0.env hx0
    refine ⟨.ref c, ec, .inl ⟨rfl, vs0, SqL.of ev0⟩, ?_⟩
    refine (show tXA X.K Fs σ H _ from ⟨η, B ++ f.A0, e0.env, ?_⟩)
    cases ef : Fs η with
    | ex c w z => rw [ef] at p; exact False.elim p
    | no => rw [ef] at p; exact False.elim p
    | ok dd =>
      rw [ef] at p
      obtain ⟨ds, η1⟩ := dd
      have p : PostS X.K X.mg f.W f.rl f.M f.H0 f.A0 H B (insAt i (ds, η1)) E := p
      intro vs H1 E1 k1 m1 qv
      replace E1 : EnvD X.K H1 (B ++ f.A0) σ η1 := E1
      unfold insAt at p
      split at p
      case h_2 => exact False.elim p
      rename_i xs j y hx hds
      have hx : η1[i]? = some (.own xs) := hx
      have hds : ds = [.int j, y] := hds
      subst hds
      split at p
      case isFalse => exact False.elim p
      rename_i hj
      obtain ⟨mA, us, eu, qu⟩ := own_in E1 hx ec
      cases qv with
      | cons h1 t =>
        cases t with
        | cons h2 t =>
          cases t
          cases h1
          rename_i w
          have hl : us.length = xs.l.length := DpAll_length qu
          obtain ⟨Ep, mp, eh⟩ := put_keep E1 hx ec (ws := us.take j.toNat ++ [w] ++ us.drop j.toNat) (DpAll_append (DpAll_append (DpAll_take _ qu) (.cons h2 .nil)) (DpAll_drop _ qu))
          refine ⟨c, us, j, w, rfl, rfl, eu, by rw [hl, line_eq]; exact hj.2.2, hj.1, hj.2.1, ?_⟩
          refine p σ _ B ((e0.mv E1 k1 m1).mv Ep (Kin.put hx) mp) ?_
          rw [eh]
          exact m1.hid e0.env
end
end Bd
/-! D19: walks over what changes lists. -/
namespace Bd
open PySem L2

section
variable {X : Cx} {tg iter : Expr} {F : Nv → R (D × Nv)}
def xiL (F : Nv → R (D × Nv)) : Nv → R (List D × Nv) := fun η => (F η).bind fun p => match p.1 with
  | .list xs => .ok (xs, p.2)
  | _ => .no
def xiT (F : Nv → R (D × Nv)) : Nv → R (List D × Nv) := fun η => (F η).bind fun p => match p.1 with
  | .tuple xs => .ok (xs, p.2)
  | _ => .no
def xiA (F : Nv → R (D × Nv)) : Nv → R (List D × Nv) := fun η => (F η).bind fun p => match p.1 with
  | .list xs => .ok (xs, p.2)
  | .tuple xs => .ok (xs, p.2)
  | _ => .no
theorem xi_list (h : TX X (rD X.K) iter F) : TXI X tg iter (xiL F) := piW (pi_list h) fun σ H Q ⟨η, A, E, p⟩ =>
  stepX (Pn := fun η r => PostXI X.K σ A H η r Q) E p (fun _ _ _ z => z) (fun z => z) fun d η1 v H1 e E1 k1 m1 q p => by
    clear e
    cases d with
    | list xs =>
      cases q with
      | lst h1 h2 => exact ⟨_, rfl, ⟨_, (hid_le A H1).seq h1⟩, p _ H1 E1 k1 m1 (walks_list h1 h2)⟩
    | _ => exact False.elim p
theorem xi_tup (h : TX X (rD X.K) iter F) : TXI X tg iter (xiT F) := piW (pi_tup h) fun σ H Q ⟨η, A, E, p⟩ =>
  stepX (Pn := fun η r => PostXI X.K σ A H η r Q) E p (fun _ _ _ z => z) (fun z => z) fun d η1 v H1 e E1 k1 m1 q p => by
    clear e
    cases d with
    | tuple xs =>
      cases q with
      | tup h1 h2 => exact ⟨_, rfl, ⟨_, sqT_same (hid_le A H1) h1⟩, p _ H1 E1 k1 m1 (walks_tup h1 h2)⟩
    | _ => exact False.elim p
/-- a list or a tuple -/
theorem xi_any (h : TX X (rD X.K) iter F) : TXI X tg iter (xiA F) := ⟨fun pins s σ H R I q => by
  obtain ⟨η, A, E, p0⟩ := q
  have p : PostXI X.K σ A H η (xiA F η) R := p0
  unfold xiA at p
  cases e1 : F η with
  | ex c w q => rw [e1] at p; exact False.elim p
  | no => rw [e1] at p; exact False.elim p
  | ok d =>
    rw [e1] at p
    obtain ⟨d, η1⟩ := d
    cases d with
    | list xs => exact (xi_list (tg := tg) h).run pins s σ H R I ⟨η, A, E, by unfold xiL; rw [e1]; exact p⟩
    | tuple xs => exact (xi_tup (tg := tg) h).run pins s σ H R I ⟨η, A, E, by unfold xiT; rw [e1]; exact p⟩
    | _ => exact False.elim p⟩
end
end Bd
/-! D20: a comprehension over a list of one's own that stays as it is meanwhile. -/
namespace Bd
open PySem L2

section
variable {X : Cx} {e tg iter elt : Expr} {pos : Pos}
theorem lc_core {T : Tgt} {js vs : List Nat} {C : Nv → R (Bool × Nv)} {El : Nv → R (D × Nv)} {σ : L2.St} {H H1 : Hp} {A : List Addr} {η ηf ηz : Nv} {ds ys : List D} {J : It} {Q : VK} {Pn : Nv → Prop} (hj : ∀ j ∈ js, j ∈ vs)
    (hPT : ∀ x z z1, Pn z → T x z = some z1 → Pn z1) (hPC : ∀ z p, Pn z → C z = .ok p → Pn p.2) (hPE : ∀ z p, Pn z → El z = .ok p → Pn p.2) (hPw : ∀ z, Pn z → Pn (wipeE z vs))
    (E : EnvD X.K H A σ η) (E1 : EnvD X.K H1 A σ ηf) (k1 : Kin η ηf) (m1 : Mv σ η H H1) (hP : Pn (wipeE ηf vs)) (e2 : compX T C El vs ds (wipeE ηf vs) = .ok (ys, ηz)) (hz : ys.length ≤ lineN) (p : PostXF X.K σ A H η (.ok (.list ys, ηz)) Q)
    (wkT : ∀ (i : Nat) (x : D), ds[i]? = some x → ∀ (A' : List Addr) (H2 : Hp) (z : Nv), EnvD X.K H2 A' (L2.wipe σ vs) z → Pn z → Same (hid A H1) (hid A' H2) → J.go i H2 ∧ ∀ v H3, J.yld i H2 v H3 → Same H2 H3 ∧ Dp X.K (hid A' H3) v x)
    (wkS : ∀ (A' : List Addr) (H2 : Hp) (z : Nv), EnvD X.K H2 A' (L2.wipe σ vs) z → Pn z → Same (hid A H1) (hid A' H2) → J.stop ds.length H2) (M : Addr) (nM : H1 M = none) :
    ∃ U : Nat → Nat → Hp → Prop, (∃ m, U 0 m (upd H1 M (.lst []))) ∧ ∀ i m H2, U i m H2 → (J.stop i H2 ∧ Q (.ref M) H2) ∨ (J.go i H2 ∧ ∃ Nx : Hp → Prop, (∀ H', Nx H' → ∃ m', m' < m ∧ U (i + 1) m' H') ∧ ∀ x H', J.yld i H2 x H' → gD X.K T js x (L2.wipe σ vs) H' fun σ2 H3 => L2.wipe σ2 vs = L2.wipe σ vs ∧ tXB X.K C σ2 H3 fun b H4 => if b = true then tX X.K (rD X.K) El σ2 H4 fun y H5 => ∃ acc, H5 M = some (.lst acc) ∧ acc.length < sizeLine ∧ Nx (upd H5 M (.lst (acc ++ [y]))) else Nx H4) := by
  have Ew : EnvD X.K (upd H1 M (.lst [])) (M :: A) (L2.wipe σ vs) (wipeE ηf vs) := (E1.new (same_new nM) nM (by rw [upd_same]; exact fun z => nomatch z)).wipe vs
  refine ⟨fun i m H2 => m + i = ds.length ∧ ∃ ηp done rest acc, ys = done ++ rest ∧ compX T C El vs (ds.drop i) (wipeE ηp vs) = .ok (rest, ηz) ∧ EnvD X.K H2 (M :: A) (L2.wipe σ vs) (wipeE ηp vs) ∧ ηp.length = ηf.length ∧ Sub vs σ ηf (L2.wipe σ vs) (wipeE ηp vs) ∧ Mv σ ηf H1 H2 ∧ H2 M = some (.lst acc) ∧ DpAll X.K (hid (M :: A) H2) acc done ∧ Pn (wipeE ηp vs),
    ⟨ds.length, rfl, ηf, [], ys, [], rfl, e2, Ew, rfl, Sub.start, Mv.of (same_new nM), upd_same, .nil, hP⟩, fun i m H2 hw => ?_⟩
  obtain ⟨em, ηp, done, rest, acc, ey, er, E2, ln, sb, mv, hM, hd, pp⟩ := hw
  have sh : Same (hid A H1) (hid (M :: A) H2) := mv_new E1 nM mv
  cases hx : ds[i]? with
  | none =>
    have hi : ds.length ≤ i := List.getElem?_eq_none_iff.mp hx
    have ei : i = ds.length := by omega
    subst ei
    rw [List.drop_length] at er
    have er : R.ok (([] : List D), wipeE ηp vs) = .ok (rest, ηz) := er
    cases er
    rw [List.append_nil] at ey
    subst ey
    have kf : Kin ηf (wipeE ηp vs) := sb.kinf (by rw [wipeE_length, ln])
    refine .inl ⟨wkS _ _ _ E2 pp sh, p M acc _ H2 rfl (E2.back sb) (k1.trans kf) (Mv.trans k1 m1 mv) ?_ hM hd⟩
    cases hM0 : H M with
    | none => rfl
    | some o => exact absurd nM (Mv.there E E1 m1 (by rw [hM0]; exact fun z => nomatch z))
  | some x =>
    have hi : i < ds.length := (List.getElem?_eq_some_iff.mp hx).1
    have ed : ds.drop i = x :: ds.drop (i + 1) := by
      rw [List.drop_eq_getElem_cons hi]
      congr 1
      exact (List.getElem?_eq_some_iff.mp hx).2
    obtain ⟨g1, g2⟩ := wkT i x hx _ _ _ E2 pp sh
    refine .inr ⟨g1, fun H' => ∃ m', m' < m ∧ (m' + (i + 1) = ds.length ∧ ∃ ηp done rest acc, ys = done ++ rest ∧ compX T C El vs (ds.drop (i + 1)) (wipeE ηp vs) = .ok (rest, ηz) ∧ EnvD X.K H' (M :: A) (L2.wipe σ vs) (wipeE ηp vs) ∧ ηp.length = ηf.length ∧ Sub vs σ ηf (L2.wipe σ vs) (wipeE ηp vs) ∧ Mv σ ηf H1 H' ∧ H' M = some (.lst acc) ∧ DpAll X.K (hid (M :: A) H') acc done ∧ Pn (wipeE ηp vs)), fun H' hN => hN, fun v H3 y => ?_⟩
    obtain ⟨s3, qv⟩ := g2 v H3 y
    rw [ed] at er
    unfold compX at er
    cases et : T x (wipeE ηp vs) with
    | none => rw [et] at er; cases er
    | some η1 =>
      rw [et] at er
      obtain ⟨⟨bk, ηb⟩, ec, er⟩ := R.bindN_ok er
      refine ⟨wipeE ηp vs, M :: A, x, η1, E2.same s3, qv, et, fun σ2 E3 S => ?_⟩
      have hw : L2.wipe σ2 vs = L2.wipe σ vs := stored_wipe S hj (S.len.trans (wipe_length σ vs))
      have sb1 : Sub vs σ ηf σ2 η1 := sb.stored S
      have ln1 : η1.length = ηf.length := by rw [← E3.len, S.len, wipe_length, E1.len]
      refine ⟨hw, ?_⟩
      refine (show tXB X.K C σ2 H3 _ from ⟨η1, M :: A, E3, ?_⟩)
      rw [ec]
      intro H4 E4 k4 m4
      have E4 : EnvD X.K H4 (M :: A) σ2 ηb := E4
      have k4 : Kin η1 ηb := k4
      have sb4 : Sub vs σ ηf σ2 ηb := sb1.kin k4
      have mv4 : Mv σ ηf H1 H4 := (mv.thru (Mv.of s3)).thru (sb1.mv m4)
      have M4 : H4 M = some (.lst acc) := m4 M _ (s3 _ _ hM) (sb1.notM E1 nM)
      have hd4 : DpAll X.K (hid (M :: A) H4) acc done := DpAll_mono hd ((hid_same s3).trans (m4.hid E3))
      cases bk with
      | false =>
        refine iteF ⟨m - 1, by omega, by omega, ηb, done, rest, acc, ey, er, ?_, k4.1.trans ln1, sb4.wp hw, mv4, M4, hd4, hPw _ (hPC _ _ (hPT _ _ _ pp et) ec)⟩
        have := E4.wipe vs
        rw [hw] at this
        exact this
      | true =>
        obtain ⟨⟨y, ηe⟩, ee, er⟩ := R.bindN_ok er
        obtain ⟨⟨rest', ηz'⟩, er', e3⟩ := R.bindN_ok er
        cases e3
        refine iteT (show tX X.K (rD X.K) El σ2 H4 _ from ⟨ηb, M :: A, E4, ?_⟩)
        rw [ee]
        intro w H5 E5 k5 m5 qw
        have E5 : EnvD X.K H5 (M :: A) σ2 ηe := E5
        have k5 : Kin ηb ηe := k5
        have sb5 : Sub vs σ ηf σ2 ηe := sb4.kin k5
        have M5 : H5 M = some (.lst acc) := m5 M _ M4 (sb4.notM E1 nM)
        have hd5 : DpAll X.K (hid (M :: A) H5) acc done := DpAll_mono hd4 (m5.hid E4)
        have hidM : hid (M :: A) (upd H5 M (.lst (acc ++ [w]))) = hid (M :: A) H5 := hid_upd List.mem_cons_self
        have hl : acc.length = done.length := DpAll_length hd
        refine ⟨acc, M5, ?_, m - 1, by omega, by omega, ηe, done ++ [y], rest', acc ++ [w], by rw [ey, List.append_assoc]; rfl, er', ?_, (k4.trans k5).1.trans ln1, sb5.wp hw, ?_, upd_same, ?_, hPw _ (hPE _ _ (hPC _ _ (hPT _ _ _ pp et) ec) ee)⟩
        · rw [line_eq, hl]
          have : ys.length = done.length + (rest'.length + 1) := by rw [ey, List.length_append, List.length_cons]
          omega
        · have z := (E5.updM (o := .lst (acc ++ [w])) (sb5.notM E1 nM)).wipe vs
          rw [hw] at z
          exact z
        · intro b o eb n
          rw [upd_ne fun z => by subst z; rw [nM] at eb; cases eb]
          exact (mv4.thru (sb4.mv m5)) b o eb n
        · rw [hidM]
          exact DpAll_append hd5 (.cons qw .nil)
end
/-! what leaves the list at i as it is -/
def Stays {α : Type} (i : Nat) (F : Nv → R (α × Nv)) : Prop := ∀ z p, F z = .ok p → p.2[i]? = z[i]?
section
variable {i j : Nat} {Fa Fb F : Nv → R (D × Nv)} {Fs : Nv → R (List D × Nv)} {G : Nv → R (Bool × Nv)}
theorem bind_inv {α β : Type} {r : R α} {f : α → R β} {y : β} (h : r.bind f = .ok y) : ∃ x, r = .ok x ∧ f x = .ok y := by
  cases r with
  | ok a => exact ⟨a, rfl, h⟩
  | ex c w p => cases h
  | no => cases h
theorem st_up {F : Nv → R D} : Stays i (up F) := fun z p e => by
  unfold up at e
  split at e
  · cases e
    rfl
  · cases e
theorem st_true : Stays i (fun η : Nv => R.ok (true, η)) := fun z p e => by
  cases e
  rfl
theorem st_x0 : Stays i x0 := fun z p e => by
  cases e
  rfl
theorem st_xC (ha : Stays i Fa) (hs : Stays i Fs) : Stays i (xC Fa Fs) := fun z p e => by
  obtain ⟨a, e1, e⟩ := bind_inv e
  obtain ⟨b, e2, e⟩ := bind_inv e
  cases e
  exact (hs _ _ e2).trans (ha _ _ e1)
theorem st_x2 {f : D → D → Option D} (ha : Stays i Fa) (hb : Stays i Fb) : Stays i (x2 f Fa Fb) := fun z p e => by
  obtain ⟨a, e1, e⟩ := bind_inv e
  obtain ⟨b, e2, e⟩ := bind_inv e
  obtain ⟨d, e3, e⟩ := bind_inv e
  cases e
  exact (hb _ _ e2).trans (ha _ _ e1)
theorem st_xN {f : List D → Option D} (hs : Stays i Fs) : Stays i (xN f Fs) := fun z p e => by
  obtain ⟨a, e1, e⟩ := bind_inv e
  obtain ⟨d, e3, e⟩ := bind_inv e
  cases e
  exact hs _ _ e1
theorem st_xb (ha : Stays i F) : Stays i (xb F) := fun z p e => by
  obtain ⟨a, e1, e⟩ := bind_inv e
  obtain ⟨d, e3, e⟩ := bind_inv e
  cases e
  exact ha _ _ e1
theorem st_upB {G : Nv → R Bool} : Stays i (upB G) := fun z p e => by
  unfold upB at e
  split at e
  · cases e
    rfl
  · cases e
theorem st_xCall {Fn : List D → R D} (hs : Stays i Fs) : Stays i (xCall Fn Fs) := fun z p e => by
  obtain ⟨a, e1, e⟩ := bind_inv e
  obtain ⟨d, e3, e⟩ := bind_inv e
  cases e
  exact hs _ _ e1
theorem st_xCallK {Fk : List D → List D → R (D × List D)} (n : j ≠ i) (hs : Stays i Fs) : Stays i (xCallK j Fk Fs) := fun z p e => by
  unfold xCallK at e
  split at e
  case h_2 => cases e
  obtain ⟨a, e1, e⟩ := bind_inv e
  unfold xPut at e
  split at e
  case h_2 => cases e
  obtain ⟨d, e3, e⟩ := bind_inv e
  cases e
  show (a.2.set j _)[i]? = _
  rw [List.getElem?_set_ne n]
  exact hs _ _ e1
theorem st_gN {x : D} {z z1 : Nv} (n : j ≠ i) (e : gN j x z = some z1) : z1[i]? = z[i]? := by
  cases e
  exact List.getElem?_set_ne n
end
section
variable {X : Cx} {tg elt : Expr} {pos px : Pos} {ifs : List Expr} {scope : Scope} {own : List (Str × Nat)} {T : Tgt} {js : List Nat} {C : Nv → R (Bool × Nv)} {El : Nv → R (D × Nv)}
def xCompO (i : Nat) (T : Tgt) (C : Nv → R (Bool × Nv)) (El : Nv → R (D × Nv)) (vs : List Nat) : Nv → R (D × Nv) := fun η => match η[i]? with
  | some (.own xs) => (compX T C El vs xs.l (wipeE η vs)).bindN fun q => if q.1.length ≤ lineN then .ok (.list q.1, q.2) else .no
  | _ => .no
/-- [.. for .. in name ..], name a list of one's own -/
theorem x_lcO (i : Nat) {x : Str} (hc : X.calm = true) (hN : X.N.Nodup) (ok : BlkOk X.N X.env.scope scope own)
    (hg : ∀ (s : Shared) (H : Hp) (C : Addr) (cl : List (Str × Addr)) (fp : List Addr), TT' (X.blk s H scope (compEnvC scope cl C X.env) fp) tg T js)
    (ht : ∀ (s : Shared) (H : Hp) (D : Addr) (cl : List (Str × Addr)) (fp : List Addr), PTs (X.blk s H scope (compEnvC scope cl D X.env) fp) ifs (tXB X.K C))
    (he : ∀ (s : Shared) (H : Hp) (D : Addr) (cl : List (Str × Addr)) (fp : List Addr), TX (X.blk s H scope (compEnvC scope cl D X.env) fp) (rD X.K) elt El)
    (hT : ∀ x z z1, T x z = some z1 → z1[i]? = z[i]?) (hC : Stays i C) (hE : Stays i El)
    (hi : X.N[i]? = some x := by rfl) (hv : Vis X.env.scope x := by first | exact Or.inl rfl | exact Or.inr (Or.inl rfl) | exact Or.inr (Or.inr rfl)) (hd : (x == ("__debug__" : Str)) = false := by decide) (hcd : (x == ("__classdict__" : Str)) = false := by decide)
    {vs : List Nat} (hv2 : own.map (·.2) = vs := by rfl) (hj : ∀ j ∈ js, j ∈ own.map (·.2) := by decide) (hn : i ∉ own.map (·.2) := by decide) (hs : ∀ y, foldedSetIterable (.Name x px) X.env y = pure y := by intro _; rfl) : TXF X (.ListComp elt [⟨tg, .Name x px, ifs, 0⟩] scope pos) (xCompO i T C El vs) := by
  subst hv2
  exact peW (pe_lc hc hN (pi_list (pe_var hi hv hd hcd)) ok (fun s H C cl fp => show PG _ tg (gD X.K T js) from hg s H C cl fp) ht (fun s H C cl fp => show PE _ elt (tX X.K (rD X.K) El) from he s H C cl fp) hs) fun σ H Q ⟨η, A, E, p0⟩ => by
    have p : PostXF X.K σ A H η (xCompO i T C El (own.map (·.2)) η) Q := p0
    unfold xCompO at p
    split at p
    case h_2 => exact False.elim p
    rename_i xs hx
    obtain ⟨c, ec, mA, vs0, ev0, q0⟩ := own_ref E hx
    cases e2 : compX T C El (own.map (·.2)) xs.l (wipeE η (own.map (·.2))) with
    | ex c w q => rw [e2] at p; exact False.elim p
    | no => rw [e2] at p; exact False.elim p
    | ok yq =>
      rw [e2] at p
      obtain ⟨ys, ηz⟩ := yq
      have p : PostXF X.K σ A H η (if ys.length ≤ lineN then .ok (.list ys, ηz) else .no) Q := p
      split at p
      case isFalse => exact False.elim p
      rename_i hz
      refine ⟨.ref c, ec, c, rfl, ⟨vs0, SqL.of ev0⟩, ?_⟩
      have cell : ∀ (A' : List Addr) (H2 : Hp) (z : Nv), EnvD X.K H2 A' (L2.wipe σ (own.map (·.2))) z → z[i]? = some (.own xs) → ∃ us, H2 c = some (.lst us) ∧ DpAll X.K (hid A' H2) us xs.l := fun A' H2 z Ez hz1 => by
        obtain ⟨_, us, h1, h2⟩ := own_in Ez hz1 (show (L2.wipe σ (own.map (·.2)))[i]? = some (some (.ref c)) by rw [wipe_get, if_neg hn]; exact ec)
        exact ⟨us, h1, h2⟩
      exact fun M nM => lc_core (J := Itl X.K c) (Pn := fun z => z[i]? = some (.own xs)) hj (fun x z z1 h e => (hT x z z1 e).trans h) (fun z p h e => (hC z p e).trans h) (fun z p h e => (hE z p e).trans h) (fun z h => by rw [wipeE_get, if_neg hn]; exact h)
        E E (Kin.refl η) mv_refl (by rw [wipeE_get, if_neg hn]; exact hx) e2 hz p
        (fun k y ey A' H2 z Ez hz1 sh => by
          obtain ⟨us, h1, h2⟩ := cell A' H2 z Ez hz1
          obtain ⟨v, e1, q1⟩ := DpAll_get h2 ey
          have h3 : SqL X.K H2 c us := SqL.of h1
          refine ⟨⟨us, v, h3, e1⟩, fun u H3 y => ?_⟩
          obtain ⟨rfl, y⟩ := y
          have w := y us h3
          rw [e1] at w
          cases w
          exact ⟨Same.refl _, q1⟩)
        (fun A' H2 z Ez hz1 sh => by
          obtain ⟨us, h1, h2⟩ := cell A' H2 z Ez hz1
          exact ⟨us, SqL.of h1, Nat.le_of_eq (DpAll_length h2)⟩) M nM
end
end Bd
/-! M0: how the mirrors are reckoned. -/
namespace Bd
open PySem L2

/-! ### names -/
@[simp] theorem gv_zero (x : D) (η : Nv) : gv 0 (.d x :: η) = .ok x := Eq.trans rfl rfl
@[simp] theorem gv_succ (i : Nat) (s : Sl) (η : Nv) : gv (i + 1) (s :: η) = gv i η := Eq.trans rfl rfl
@[simp] theorem go_own (x : OL) (η : Nv) : go 0 (.own x :: η) = .ok (.list x.l) := Eq.trans rfl rfl
@[simp] theorem go_dat (x : D) (η : Nv) : go 0 (.d x :: η) = .ok x := Eq.trans rfl rfl
@[simp] theorem go_succ (i : Nat) (s : Sl) (η : Nv) : go (i + 1) (s :: η) = go i η := Eq.trans rfl rfl
@[simp] theorem k0_def (d : D) (η : Nv) : k0 d η = .ok d := Eq.trans rfl rfl
@[simp] theorem of_some (d : D) : R.of (some d) = .ok d := Eq.trans rfl rfl
@[simp] theorem of_none : R.of none = .no := Eq.trans rfl rfl
@[simp] theorem e2_def (f : D → D → Option D) (Fa Fb : Nv → R D) (η : Nv) : e2 f Fa Fb η = (Fa η).bind fun x => (Fb η).bind fun y => .of (f x y) := Eq.trans rfl rfl
@[simp] theorem e1_def (f : D → Option D) (Fa : Nv → R D) (η : Nv) : e1 f Fa η = (Fa η).bind fun x => .of (f x) := Eq.trans rfl rfl
@[simp] theorem eN_def (f : List D → Option D) (Fs : Nv → R (List D)) (η : Nv) : eN f Fs η = (Fs η).bind fun ds => .of (f ds) := Eq.trans rfl rfl
@[simp] theorem a0_def (η : Nv) : a0 η = .ok [] := Eq.trans rfl rfl
@[simp] theorem aC_def (Fa : Nv → R D) (Fs : Nv → R (List D)) (η : Nv) : aC Fa Fs η = (Fa η).bind fun x => (Fs η).bind fun xs => .ok (x :: xs) := Eq.trans rfl rfl
@[simp] theorem callV_def (Fn : List D → R D) (Fs : Nv → R (List D)) (η : Nv) : callV Fn Fs η = (Fs η).bind fun ds => noex (Fn ds) := Eq.trans rfl rfl
@[simp] theorem noex_ok (d : D) : noex (.ok d) = .ok d := Eq.trans rfl rfl
@[simp] theorem tb_def (F : Nv → R D) (η : Nv) : tb F η = (F η).bind tru := Eq.trans rfl rfl
@[simp] theorem tru_bool (b : Bool) : tru (.bool b) = .ok b := Eq.trans rfl rfl
@[simp] theorem tru_none : tru .none = .ok false := Eq.trans rfl rfl
@[simp] theorem tru_int (i : Int) : tru (.int i) = .ok (i != 0) := Eq.trans rfl rfl
@[simp] theorem tru_list (xs : List D) : tru (.list xs) = .ok !xs.isEmpty := Eq.trans rfl rfl
@[simp] theorem andB_def (Ga Gb : Nv → R Bool) (η : Nv) : andB Ga Gb η = (Ga η).bind fun k => if k then Gb η else .ok false := Eq.trans rfl rfl
@[simp] theorem orB_def (Ga Gb : Nv → R Bool) (η : Nv) : orB Ga Gb η = (Ga η).bind fun k => if k then .ok true else Gb η := Eq.trans rfl rfl
@[simp] theorem notB_def (Ga : Nv → R Bool) (η : Nv) : notB Ga η = (Ga η).bind fun k => .ok !k := Eq.trans rfl rfl
@[simp] theorem andV_def (Fa Fb : Nv → R D) (η : Nv) : andV Fa Fb η = (Fa η).bind fun x => (tru x).bind fun k => if k then Fb η else .ok x := Eq.trans rfl rfl
@[simp] theorem orV_def (Fa Fb : Nv → R D) (η : Nv) : orV Fa Fb η = (Fa η).bind fun x => (tru x).bind fun k => if k then .ok x else Fb η := Eq.trans rfl rfl
@[simp] theorem notV_def (Fa : Nv → R D) (η : Nv) : notV Fa η = (Fa η).bind fun x => (tru x).bind fun k => .ok (.bool !k) := Eq.trans rfl rfl
@[simp] theorem ifV_def (G : Nv → R Bool) (Fa Fb : Nv → R D) (η : Nv) : ifV G Fa Fb η = (G η).bind fun k => if k then Fa η else Fb η := Eq.trans rfl rfl
@[simp] theorem chainV_def (f g : D → D → Option D) (Fa Fb Fc : Nv → R D) (η : Nv) : chainV f g Fa Fb Fc η = (Fa η).bind fun x => (Fb η).bind fun y => (R.of (f x y)).bind fun z => (tru z).bind fun k => if k then (Fc η).bind fun w => .of (g y w) else .ok (.bool false) := Eq.trans rfl rfl
@[simp] theorem tupV_def (Fs : Nv → R (List D)) (η : Nv) : tupV Fs η = (Fs η).bind fun ds => .of (if ds.length ≤ lineN then some (.tuple ds) else none) := Eq.trans rfl rfl
@[simp] theorem lstV_def (Fs : Nv → R (List D)) (η : Nv) : lstV Fs η = (Fs η).bind fun ds => .of (if ds.length ≤ lineN then some (.list ds) else none) := Eq.trans rfl rfl
@[simp] theorem slE_def (sl : Option Int → Option Int → D → Option D) (F : Nv → R D) (Lo Hi : Nv → R (Option Int)) (η : Nv) : slE sl F Lo Hi η = (F η).bind fun x => (Lo η).bind fun l => (Hi η).bind fun h => .of (sl l h x) := Eq.trans rfl rfl
@[simp] theorem p0_def (η : Nv) : p0 η = .ok none := Eq.trans rfl rfl
@[simp] theorem p1_def (F : Nv → R D) (η : Nv) : p1 F η = (F η).bind asInt := Eq.trans rfl rfl
@[simp] theorem asInt_int (i : Int) : asInt (.int i) = .ok (some i) := Eq.trans rfl rfl
/-! statements -/
@[simp] theorem toS_ok {α : Type} (a : α) (f : α → Rs) : (R.ok a).toS f = f a := Eq.trans rfl rfl
@[simp] theorem toS_no {α : Type} (f : α → Rs) : (R.no : R α).toS f = .no := Eq.trans rfl rfl
@[simp] theorem seqS_def (Gs Gt : Nv → Rs) (η : Nv) : seqS Gs Gt η = (Gs η).bind Gt := Eq.trans rfl rfl
@[simp] theorem bind_nx (η : Nv) (f : Nv → Rs) : (Rs.nx η).bind f = f η := Eq.trans rfl rfl
@[simp] theorem bind_rt (d : D) (η : Nv) (f : Nv → Rs) : (Rs.rt d η).bind f = .rt d η := Eq.trans rfl rfl
@[simp] theorem bind_ct (η : Nv) (f : Nv → Rs) : (Rs.ct η).bind f = .ct η := Eq.trans rfl rfl
@[simp] theorem bind_bk (η : Nv) (f : Nv → Rs) : (Rs.bk η).bind f = .bk η := Eq.trans rfl rfl
@[simp] theorem bind_ex (c w : Str) (p : D) (f : Nv → Rs) : (Rs.ex c w p).bind f = .ex c w p := Eq.trans rfl rfl
@[simp] theorem setS_def (i : Nat) (F : Nv → R D) (η : Nv) : setS i F η = (F η).toS fun x => .nx (η.set i (.d x)) := Eq.trans rfl rfl
@[simp] theorem retS_def (F : Nv → R D) (η : Nv) : retS F η = (F η).toS fun x => .rt x η := Eq.trans rfl rfl
@[simp] theorem exprS_def (F : Nv → R D) (η : Nv) : exprS F η = (F η).toS fun _ => .nx η := Eq.trans rfl rfl
@[simp] theorem ifS_def (G : Nv → R Bool) (Gs Gt : Nv → Rs) (η : Nv) : ifS G Gs Gt η = (G η).toS fun k => if k then Gs η else Gt η := Eq.trans rfl rfl
@[simp] theorem forS_def (Fi : Nv → R (List D)) (T : Tgt) (Gb : Nv → Rs) (η : Nv) : forS Fi T Gb η = (Fi η).toS fun xs => loopG T Gb xs η := Eq.trans rfl rfl
theorem ownS_list (i : Nat) (F : Nv → R D) (η : Nv) (xs : List D) (h : F η = .ok (.list xs)) : ownS i F η = .nx (η.set i (.own ⟨true, xs⟩)) := by
  unfold ownS
  rw [h]
  rfl
theorem appS_own (i : Nat) (F : Nv → R D) (η : Nv) (xs : OL) (y : D) (h1 : η[i]? = some (.own xs)) (h2 : F η = .ok y) (h3 : xs.l.length < lineN) : appS i F η = .nx (η.set i (.own ⟨xs.b, xs.l ++ [y]⟩)) := by
  unfold appS
  rw [h1]
  show (F η).toS _ = _
  rw [h2]
  show (if xs.l.length < lineN then _ else _) = _
  rw [if_pos h3]
theorem retO_own (i : Nat) (η : Nv) (xs : List D) (h : η[i]? = some (.own ⟨true, xs⟩)) : retO i η = .rt (.list xs) η := by
  unfold retO
  rw [h]
  rfl
@[simp] theorem gN_def (i : Nat) (x : D) (η : Nv) : gN i x η = some (η.set i (.d x)) := Eq.trans rfl rfl
@[simp] theorem iA_def (F : Nv → R D) (η : Nv) : iA F η = (F η).bind asSeq := Eq.trans rfl rfl
@[simp] theorem asSeq_list (xs : List D) : asSeq (.list xs) = .ok xs := Eq.trans rfl rfl
@[simp] theorem asSeq_tup (xs : List D) : asSeq (.tuple xs) = .ok xs := Eq.trans rfl rfl
@[simp] theorem iR1_def (Fs : Nv → R (List D)) (η : Nv) : iR1 Fs η = (Fs η).bind rng1 := Eq.trans rfl rfl
@[simp] theorem iR2_def (Fs : Nv → R (List D)) (η : Nv) : iR2 Fs η = (Fs η).bind rng2 := Eq.trans rfl rfl
@[simp] theorem iZ_def (Fs : Nv → R (List D)) (η : Nv) : iZ Fs η = (Fs η).bind zip2 := Eq.trans rfl rfl
@[simp] theorem iRR_def (F : Nv → R D) (η : Nv) : iRR F η = (F η).bind rr1 := Eq.trans rfl rfl
theorem rng1_ok {n : Int} (h0 : 0 ≤ n) (h : n < 1000000) : rng1 [.int n] = .ok (rangeD 0 n.toNat) := by
  show (if -(2 ^ 62) ≤ n ∧ n < 2 ^ 62 then _ else _) = _
  rw [if_pos ⟨by omega, by omega⟩]
/-! values -/
@[simp] theorem addV_int (i j : Int) : addV (.int i) (.int j) = some (.int (i + j)) := Eq.trans rfl rfl
@[simp] theorem subV_int (i j : Int) : subV (.int i) (.int j) = some (.int (i - j)) := Eq.trans rfl rfl
theorem mulV_int {i j : Int} (h : (-(2 ^ 64) < i ∧ i < 2 ^ 64) ∨ (-(2 ^ 64) < j ∧ j < 2 ^ 64)) : mulV (.int i) (.int j) = some (.int (i * j)) := if_pos h
theorem fdivV_int {i j : Int} (h : 0 < j ∧ j < 1073741824) : fdivV (.int i) (.int j) = some (.int (i / j)) := if_pos h
theorem modV_int {i j : Int} (h : 0 < j) : modV (.int i) (.int j) = some (.int (i % j)) := if_pos h
theorem powV_int {i j : Int} (h : 0 ≤ j ∧ j ≤ 1000000 ∧ i.natAbs < 2 ^ 64) : powV (.int i) (.int j) = some (.int (i ^ j.toNat)) := if_pos h
@[simp] theorem ltV_int (i j : Int) : ltV (.int i) (.int j) = some (.bool (decide (i < j))) := Eq.trans rfl rfl
@[simp] theorem leV_int (i j : Int) : leV (.int i) (.int j) = some (.bool (decide (i ≤ j))) := Eq.trans rfl rfl
@[simp] theorem gtV_int (i j : Int) : gtV (.int i) (.int j) = some (.bool (decide (j < i))) := Eq.trans rfl rfl
@[simp] theorem geV_int (i j : Int) : geV (.int i) (.int j) = some (.bool (decide (j ≤ i))) := Eq.trans rfl rfl
@[simp] theorem ltA_i (i j : Int) : ltA (.int i) (.int j) = some (.bool (decide (i < j))) := Eq.trans rfl rfl
@[simp] theorem leA_i (i j : Int) : leA (.int i) (.int j) = some (.bool (decide (i ≤ j))) := Eq.trans rfl rfl
@[simp] theorem gtA_i (i j : Int) : gtA (.int i) (.int j) = some (.bool (decide (j < i))) := Eq.trans rfl rfl
@[simp] theorem geA_i (i j : Int) : geA (.int i) (.int j) = some (.bool (decide (j ≤ i))) := Eq.trans rfl rfl
@[simp] theorem negV_int (i : Int) : negV (.int i) = some (.int (-i)) := Eq.trans rfl rfl
@[simp] theorem intV_int (i : Int) : intV [.int i] = some (.int i) := Eq.trans rfl rfl
@[simp] theorem lenV_list (xs : List D) : lenV [.list xs] = some (.int xs.length) := Eq.trans rfl rfl
@[simp] theorem lenV_tup (xs : List D) : lenV [.tuple xs] = some (.int xs.length) := Eq.trans rfl rfl
@[simp] theorem ixV_list (xs : List D) (i : Int) : ixV (.list xs) (.int i) = atD xs i := Eq.trans rfl rfl
@[simp] theorem ixV_tup (xs : List D) (i : Int) : ixV (.tuple xs) (.int i) = atD xs i := Eq.trans rfl rfl
theorem atD_nat {xs : List D} {i : Int} {d : D} (h0 : 0 ≤ i) (h : xs[i.toNat]? = some d) : atD xs i = some d := by
  have hl : i.toNat < xs.length := (List.getElem?_eq_some_iff.mp h).1
  unfold atD ixN
  rw [if_pos h0, if_pos (by omega)]
  exact h
/-! ### loops and comprehensions -/
@[simp] theorem loopG_nil (T : Tgt) (Gb : Nv → Rs) (η : Nv) : loopG T Gb [] η = .nx η := Eq.trans rfl rfl
theorem loopG_cons (T : Tgt) (Gb : Nv → Rs) (x : D) (xs : List D) (η η1 : Nv) (h : T x η = some η1) : loopG T Gb (x :: xs) η = match Gb η1 with
    | .nx η2 => loopG T Gb xs η2
    | .ct η2 => loopG T Gb xs η2
    | .bk η2 => .nx η2
    | .rt d η2 => .rt d η2
    | .ex c w p => .ex c w p
    | .no => .no := by
  show (match T x η with | none => _ | some η1 => _) = _
  rw [h]
  try rfl
theorem compD_map {T : Tgt} {C : Nv → R Bool} {El : Nv → R D} {η : Nv} {g : D → D} : ∀ (xs : List D), (∀ x ∈ xs, ∃ η1, T x η = some η1 ∧ C η1 = .ok true ∧ El η1 = .ok (g x)) → compD T C El η xs = .ok (xs.map g)
  | [], _ => rfl
  | x :: xs, h => by
    obtain ⟨η1, h1, h2, h3⟩ := h x List.mem_cons_self
    show (match T x η with | none => _ | some η1 => _) = _
    rw [h1]
    show (C η1).bindN _ = _
    rw [h2]
    show (El η1).bindN _ = _
    rw [h3]
    show (compD T C El η xs).bindN _ = _
    rw [compD_map xs fun y m => h y (List.mem_cons_of_mem _ m)]
    rfl
theorem compD_filter {T : Tgt} {C : Nv → R Bool} {El : Nv → R D} {η : Nv} {g : D → D} {c : D → Bool} : ∀ (xs : List D), (∀ x ∈ xs, ∃ η1, T x η = some η1 ∧ C η1 = .ok (c x) ∧ (c x = true → El η1 = .ok (g x))) → compD T C El η xs = .ok ((xs.filter c).map g)
  | [], _ => rfl
  | x :: xs, h => by
    obtain ⟨η1, h1, h2, h3⟩ := h x List.mem_cons_self
    show (match T x η with | none => _ | some η1 => _) = _
    rw [h1]
    show (C η1).bindN _ = _
    rw [h2]
    have ih := compD_filter xs fun y m => h y (List.mem_cons_of_mem _ m)
    cases hc : c x with
    | false =>
      show compD T C El η xs = _
      rw [ih, List.filter_cons_of_neg (by rw [hc]; exact Bool.false_ne_true)]
    | true =>
      show (El η1).bindN _ = _
      rw [h3 hc]
      show (compD T C El η xs).bindN _ = _
      rw [ih, List.filter_cons_of_pos hc]
      rfl
theorem compE_ok {Fi : Nv → R (List D)} {T : Tgt} {C : Nv → R Bool} {El : Nv → R D} {vs : List Nat} {η : Nv} {xs ys : List D} (h1 : Fi η = .ok xs) (h2 : compD T C El (wipeE η vs) xs = .ok ys) (h3 : ys.length ≤ lineN) : compE Fi T C El vs η = .ok (.list ys) := by
  unfold compE
  rw [h1]
  show (compD T C El (wipeE η vs) xs).bindN _ = _
  rw [h2]
  show (if ys.length ≤ lineN then _ else _) = _
  rw [if_pos h3]
theorem runD_rt {m : Nat} {fall : R D} {G : Nv → Rs} {ds : List D} {d : D} {η' : Nv} (η : Nv) (hi : initD m ds = η) (h : G η = .rt d η') : runD m fall G ds = .ok d := by
  subst hi
  unfold runD
  rw [h]
/-! ### the laws' own helpers -/
namespace Lw
def G_cell : Nv → Rs :=
    (seqS (ifS (tb (e2 ltA (gv 1) (eN lenV (aC (gv 0) a0)))) (seqS (retS (e2 ixV (gv 0) (gv 1)))
    .nx) .nx)
    (seqS (retS (k0 (.int 0)))
    .nx))
def F_cell : List D → R D := runD 2 (.ok .none) G_cell
def cell (ns : List Int) (k : Nat) : Int := ns.getD k 0
theorem cell_ok (ns : List Int) (k : Nat) : F_cell [.list (ns.map PyData.int), .int (k : Int)] = .ok (.int (cell ns k)) := by
  have i : initD 2 [.list (ns.map PyData.int), .int (k : Int)] = [.d (.list (ns.map PyData.int)), .d (.int (k : Int))] := rfl
  unfold F_cell runD
  rw [i]
  by_cases h : k < ns.length
  · have e : G_cell [.d (.list (ns.map PyData.int)), .d (.int (k : Int))] = .rt (.int (cell ns k)) [.d (.list (ns.map PyData.int)), .d (.int (k : Int))] := by
      have a : atD (ns.map PyData.int) (k : Int) = some (.int (cell ns k)) := atD_nat (by omega) (by
        rw [List.getElem?_map, Int.toNat_natCast, List.getElem?_eq_getElem h]
        unfold cell
        rw [List.getD_eq_getElem?_getD, List.getElem?_eq_getElem h]
        rfl)
      simp [G_cell, h, a]
    rw [e]
  · have e : G_cell [.d (.list (ns.map PyData.int)), .d (.int (k : Int))] = .rt (.int (cell ns k)) [.d (.list (ns.map PyData.int)), .d (.int (k : Int))] := by
      have c : cell ns k = 0 := by
        unfold cell
        rw [List.getD_eq_getElem?_getD, List.getElem?_eq_none (by omega)]
        rfl
      simp [G_cell, h, c]
    rw [e]
def B_row : Nv → Rs :=
    (seqS (ifS (tb (e2 geA (gv 0) (e2 powV (k0 (.int 10)) (k0 (.int 18))))) (seqS (appS 3 (e2 modV (eN intV (aC (gv 0) a0)) (gv 2)))
    (seqS (setS 0 (e2 fdivV (gv 0) (gv 2)))
    .nx)) (seqS (setS 5 (e2 modV (eN intV (aC (e2 addV (e2 addV (e2 mulV (gv 0) (k0 (.int 48271))) (e2 mulV (gv 4) (k0 (.int 69621)))) (k0 (.int 12345))) a0)) (k0 (.int 2147483647))))
    (seqS (setS 5 (e2 modV (eN intV (aC (e2 addV (e2 addV (e2 mulV (gv 5) (gv 5)) (e2 mulV (k0 (.int 16807)) (gv 4))) (k0 (.int 7))) a0)) (k0 (.int 998244353))))
    (seqS (setS 5 (e2 modV (eN intV (aC (e2 addV (e2 addV (e2 mulV (gv 5) (gv 5)) (e2 mulV (k0 (.int 48271)) (gv 4))) (gv 0)) a0)) (k0 (.int 2147483629))))
    (seqS (appS 3 (e2 modV (eN intV (aC (e2 fdivV (gv 5) (k0 (.int 13))) a0)) (gv 2)))
    .nx)))))
    .nx)
def G_row : Nv → Rs :=
    (seqS (ownS 3 (lstV a0))
    (seqS (forS (iR1 (aC (gv 1) a0)) (gN 4) B_row)
    (seqS (retO 3)
    .nx)))
def F_row : List D → R D := runD 6 .no G_row
/-- ints from 0 below b -/
def Below (b : Int) (xs : List D) : Prop := ∀ x ∈ xs, ∃ i : Int, x = .int i ∧ 0 ≤ i ∧ i < b
theorem row_turn {c n k b : Int} {rs : List D} {s4 s5 : Sl} (hb : 0 < b ∧ b < 1073741824) (hl : rs.length < lineN) : ∃ (c' i : Int) (s5' : Sl), 0 ≤ i ∧ i < b ∧
    B_row [.d (.int c), .d (.int n), .d (.int b), .own ⟨true, rs⟩, .d (.int k), s5] = .nx [.d (.int c'), .d (.int n), .d (.int b), .own ⟨true, rs ++ [.int i]⟩, .d (.int k), s5'] := by
  have hp : powV (.int 10) (.int 18) = some (.int (10 ^ 18)) := powV_int ⟨by decide, by decide, by decide⟩
  by_cases h : (1000000000000000000 : Int) ≤ c
  · refine ⟨c / b, c % b, s5, Int.emod_nonneg _ (by omega), Int.emod_lt_of_pos _ hb.1, ?_⟩
    have m : modV (.int c) (.int b) = some (.int (c % b)) := modV_int hb.1
    have q : fdivV (.int c) (.int b) = some (.int (c / b)) := fdivV_int hb
    have ap := appS_own 3 (e2 modV (eN intV (aC (gv 0) a0)) (gv 2)) [.d (.int c), .d (.int n), .d (.int b), .own ⟨true, rs⟩, .d (.int k), s5] ⟨true, rs⟩ (.int (c % b)) rfl (by simp [m]) hl
    simp [B_row, hp, h, ap, q]
  · generalize q1 : (c * 48271 + k * 69621 + 12345) % 2147483647 = x1
    generalize q2 : (x1 * x1 + 16807 * k + 7) % 998244353 = x2
    generalize q3 : (x2 * x2 + 48271 * k + c) % 2147483629 = x3
    have b1 : 0 ≤ x1 ∧ x1 < 2147483647 := by omega
    have b2 : 0 ≤ x2 ∧ x2 < 998244353 := by omega
    have b3 : 0 ≤ x3 ∧ x3 < 2147483629 := by omega
    refine ⟨c, x3 / 13 % b, .d (.int x3), Int.emod_nonneg _ (by omega), Int.emod_lt_of_pos _ hb.1, ?_⟩
    have t1 : mulV (.int c) (.int 48271) = some (.int (c * 48271)) := mulV_int (.inr (by decide))
    have t2 : mulV (.int k) (.int 69621) = some (.int (k * 69621)) := mulV_int (.inr (by decide))
    have t3 : mulV (.int x1) (.int x1) = some (.int (x1 * x1)) := mulV_int (.inl (by omega))
    have t4 : mulV (.int 16807) (.int k) = some (.int (16807 * k)) := mulV_int (.inl (by decide))
    have t5 : mulV (.int x2) (.int x2) = some (.int (x2 * x2)) := mulV_int (.inl (by omega))
    have t6 : mulV (.int 48271) (.int k) = some (.int (48271 * k)) := mulV_int (.inl (by decide))
    have m1 : ∀ z : Int, modV (.int z) (.int 2147483647) = some (.int (z % 2147483647)) := fun z => modV_int (by decide)
    have m2 : ∀ z : Int, modV (.int z) (.int 998244353) = some (.int (z % 998244353)) := fun z => modV_int (by decide)
    have m3 : ∀ z : Int, modV (.int z) (.int 2147483629) = some (.int (z % 2147483629)) := fun z => modV_int (by decide)
    have m4 : ∀ z : Int, modV (.int z) (.int b) = some (.int (z % b)) := fun z => modV_int hb.1
    have d1 : fdivV (.int x3) (.int 13) = some (.int (x3 / 13)) := fdivV_int (by decide)
    have ap := appS_own 3 (e2 modV (eN intV (aC (e2 fdivV (gv 5) (k0 (.int 13))) a0)) (gv 2)) [.d (.int c), .d (.int n), .d (.int b), .own ⟨true, rs⟩, .d (.int k), .d (.int x3)] ⟨true, rs⟩ (.int (x3 / 13 % b)) rfl (by simp [d1, m4]) hl
    simp [B_row, hp, h, t1, t2, m1, q1, t3, t4, m2, q2, t5, t6, m3, q3, ap]
theorem row_loop {n b : Int} (hb : 0 < b ∧ b < 1073741824) : ∀ (xs : List D) (c : Int) (rs : List D) (s4 s5 : Sl), (∀ x ∈ xs, ∃ i, x = .int i) → rs.length + xs.length ≤ lineN → ∃ (c' : Int) (ys : List D) (s4' s5' : Sl), ys.length = xs.length ∧ Below b ys ∧
    loopG (gN 4) B_row xs [.d (.int c), .d (.int n), .d (.int b), .own ⟨true, rs⟩, s4, s5] = .nx [.d (.int c'), .d (.int n), .d (.int b), .own ⟨true, rs ++ ys⟩, s4', s5']
  | [], c, rs, s4, s5, _, _ => ⟨c, [], s4, s5, rfl, fun x m => absurd m List.not_mem_nil, by rw [List.append_nil]; rfl⟩
  | x :: xs, c, rs, s4, s5, h, hl => by
    obtain ⟨k, rfl⟩ := h x List.mem_cons_self
    rw [List.length_cons] at hl
    obtain ⟨c1, i, s51, h1, h2, e⟩ := row_turn (c := c) (n := n) (k := k) (b := b) (rs := rs) (s4 := s4) (s5 := s5) hb (by omega)
    obtain ⟨c2, ys, s4', s5', h3, h4, e2⟩ := row_loop hb xs c1 (rs ++ [.int i]) (.d (.int k)) s51 (fun y m => h y (List.mem_cons_of_mem _ m)) (by rw [List.length_append]; simp; omega)
    refine ⟨c2, .int i :: ys, s4', s5', by rw [List.length_cons, h3, List.length_cons], fun y m => ?_, ?_⟩
    · rcases List.mem_cons.mp m with rfl | m
      · exact ⟨i, rfl, h1, h2⟩
      · exact h4 y m
    · rw [loopG_cons (η1 := [.d (.int c), .d (.int n), .d (.int b), .own ⟨true, rs⟩, .d (.int k), s5]) (h := rfl), e]
      show loopG (gN 4) B_row xs _ = _
      rw [e2, List.append_assoc]
      rfl
theorem row_ok {c b : Int} {n : Nat} (hb : 0 < b ∧ b < 1073741824) (hn : n < 1000000) : ∃ ys : List D, ys.length = n ∧ Below b ys ∧ F_row [.int c, .int (n : Int), .int b] = .ok (.list ys) := by
  obtain ⟨c', ys, s4, s5, h1, h2, e⟩ := row_loop (n := n) hb (rangeD 0 n) c [] .no .no (fun x m => by
    unfold rangeD at m
    obtain ⟨i, _, rfl⟩ := List.mem_map.mp m
    exact ⟨_, rfl⟩) (by
      have h : (rangeD 0 n).length = n := by unfold rangeD; rw [List.length_map, List.length_range]
      rw [h, List.length_nil]
      have := lineN_eq
      omega)
  have hlen : (rangeD 0 n).length = n := by unfold rangeD; rw [List.length_map, List.length_range]
  refine ⟨ys, h1.trans hlen, h2, ?_⟩
  have r : rng1 [.int (n : Int)] = .ok (rangeD 0 n) := by
    rw [rng1_ok (by omega) (by omega), Int.toNat_natCast]
  have o : ownS 3 (lstV a0) [.d (.int c), .d (.int (n : Int)), .d (.int b), .no, .no, .no] = .nx [.d (.int c), .d (.int (n : Int)), .d (.int b), .own ⟨true, []⟩, .no, .no] := by
    rw [ownS_list 3 _ _ [] (by simp)]
    rfl
  rw [List.nil_append] at e
  have g : G_row [.d (.int c), .d (.int (n : Int)), .d (.int b), .no, .no, .no] = .rt (.list ys) [.d (.int c'), .d (.int (n : Int)), .d (.int b), .own ⟨true, ys⟩, s4, s5] := by
    simp [G_row, o, r, e, retO_own 3 [.d (.int c'), .d (.int (n : Int)), .d (.int b), .own ⟨true, ys⟩, s4, s5] ys rfl]
  exact runD_rt _ rfl g
end Lw
end Bd
/-! M1: what may be shown and compared. -/
namespace Bd
open PySem L2

/-- small data without dicts: its depth, its weight -/
structure Fine (k n : Nat) (d : D) : Prop where
  sh : d.showable = true
  nd : d.hasDict = false
  dp : d.depth ≤ k
  ls : d.leavesShort 13 = true
  wt : d.weight ≤ n
  cl : d.canLay0 = true
theorem Fine.mono {k n k' n' : Nat} {d : D} (h : Fine k n d) (hk : k ≤ k') (hn : n ≤ n') : Fine k' n' d := ⟨h.sh, h.nd, Nat.le_trans h.dp hk, h.ls, Nat.le_trans h.wt hn, h.cl⟩
theorem fine_none : Fine 0 0 .none := ⟨by simp only [PyData.showable], by simp only [PyData.hasDict], by simp only [PyData.depth]; exact Nat.le_refl _, by simp only [PyData.leavesShort], by simp only [PyData.weight]; exact Nat.le_refl _, by simp only [PyData.canLay0]⟩
theorem fine_bool (b : Bool) : Fine 0 0 (.bool b) := ⟨by simp only [PyData.showable], by simp only [PyData.hasDict], by simp only [PyData.depth]; exact Nat.le_refl _, by simp only [PyData.leavesShort], by simp only [PyData.weight]; exact Nat.le_refl _, by simp only [PyData.canLay0]⟩
theorem log2_small {n k : Nat} (h : n < 2 ^ k) (hk : 0 < k) : n.log2 < k := by
  by_cases h0 : n = 0
  · subst h0
    exact hk
  · exact (Nat.log2_lt h0).mpr h
theorem fine_int {i : Int} (h1 : -1000000000000 < i) (h2 : i < 1000000000000) : Fine 0 41 (.int i) where
  sh := by
    simp only [PyData.showable, decide_eq_true_eq]
    have := log2_small (n := i.natAbs) (k := 41) (by omega) (by decide)
    omega
  nd := by simp only [PyData.hasDict]
  dp := by simp only [PyData.depth]; exact Nat.le_refl _
  ls := by
    simp only [PyData.leavesShort, decide_eq_true_eq]
    exact PyData.shown_int_le (by omega)
  wt := by
    simp only [PyData.weight]
    split
    · exact Nat.zero_le _
    · have := log2_small (n := i.natAbs) (k := 40) (by omega) (by decide)
      omega
  cl := by simp only [PyData.canLay0]
theorem fineAll {k n : Nat} : ∀ {xs : List D}, (∀ x ∈ xs, Fine k n x) → PyData.showableAll xs = true ∧ PyData.hasDictAll xs = false ∧ PyData.depthAll xs ≤ k ∧ PyData.leavesShortAll 13 xs = true ∧ PyData.weightAll xs ≤ xs.length * (n + 1) ∧ PyData.canLayAll0 xs = true
  | [], _ => ⟨by simp only [PyData.showableAll], by simp only [PyData.hasDictAll], by simp only [PyData.depthAll]; exact Nat.zero_le _, by simp only [PyData.leavesShortAll], by simp only [PyData.weightAll]; exact Nat.zero_le _, by simp only [PyData.canLayAll0]⟩
  | x :: xs, h => by
    obtain ⟨h1, h2, h3, h4, h5, h6⟩ := fineAll fun y m => h y (List.mem_cons_of_mem _ m)
    have f := h x List.mem_cons_self
    have w := f.wt
    have d := f.dp
    refine ⟨?_, ?_, ?_, ?_, ?_, ?_⟩
    · simp only [PyData.showableAll, f.sh, h1, Bool.and_self]
    · simp only [PyData.hasDictAll, f.nd, h2, Bool.or_self]
    · simp only [PyData.depthAll]; omega
    · simp only [PyData.leavesShortAll, f.ls, h4, Bool.and_self]
    · simp only [PyData.weightAll, List.length_cons, Nat.add_mul]
      omega
    · simp only [PyData.canLayAll0, f.cl, h6, Bool.and_self]
theorem fine_list {k n : Nat} {xs : List D} (h : ∀ x ∈ xs, Fine k n x) : Fine (k + 1) (xs.length * (n + 1)) (.list xs) := by
  obtain ⟨h1, h2, h3, h4, h5, h6⟩ := fineAll h
  exact ⟨by simp only [PyData.showable, h1], by simp only [PyData.hasDict, h2], by simp only [PyData.depth]; omega, by simp only [PyData.leavesShort, h4], by simp only [PyData.weight]; exact h5, by simp only [PyData.canLay0, h6]⟩
theorem fine_tuple {k n : Nat} {xs : List D} (h : ∀ x ∈ xs, Fine k n x) : Fine (k + 1) (xs.length * (n + 1)) (.tuple xs) := by
  obtain ⟨h1, h2, h3, h4, h5, h6⟩ := fineAll h
  exact ⟨by simp only [PyData.showable, h1], by simp only [PyData.hasDict, h2], by simp only [PyData.depth]; omega, by simp only [PyData.leavesShort, h4], by simp only [PyData.weight]; exact h5, by simp only [PyData.canLay0, h6]⟩
theorem Fine.repr {k n : Nat} {d : D} (h : Fine k n d) (hk : k ≤ 64) (hn : n ≤ 1048576) : reprV [d] = some (.str d.shown) := by
  show (if d.showable = true ∧ d.hasDict = false ∧ d.depth ≤ 64 ∧ d.shown.length ≤ lineN then some (PyData.str d.shown) else none) = _
  have w : d.shown.length ≤ sizeLine := PyData.shown_fits (B := 13) (by decide) (by decide) h.ls (by have := h.wt; omega)
  rw [line_eq] at w
  have := h.dp
  rw [if_pos ⟨h.sh, h.nd, by omega, w⟩]
theorem Fine.shaped {k n : Nat} {d : D} (h : Fine k n d) (hk : k ≤ 64) : SeqAt.shaped d = true := by
  unfold SeqAt.shaped
  have := h.dp
  rw [h.cl, Bool.true_and, decide_eq_true_eq]
  omega
@[simp] theorem eqV_str (a b : Str) : eqV' (.str a) (.str b) = some (.bool (decide (a = b))) := Eq.trans rfl rfl
@[simp] theorem neV_str (a b : Str) : neV' (.str a) (.str b) = some (.bool (!decide (a = b))) := Eq.trans rfl rfl
theorem eqV_int (i j : Int) : eqV' (.int i) (.int j) = some (.bool (i == j)) := by
  show (if SeqAt.shaped (.int i) = true ∧ SeqAt.shaped (.int j) = true then some (PyData.bool (PyData.eqv (.int i) (.int j))) else none) = _
  have s : ∀ k : Int, SeqAt.shaped (.int k) = true := fun k => by
    unfold SeqAt.shaped
    simp only [PyData.canLay0, PyData.depth]
    rfl
  rw [if_pos ⟨s i, s j⟩]
  unfold PyData.eqv
  rfl
end Bd
/-! M2: ints in lists, slices, isinstance; names picked once and sorted. -/
namespace Bd
open PySem L2

/-! ### slices -/
theorem cut_take (xs : List D) (k : Int) (h : 0 ≤ k) : cutD xs none (some k) = xs.take k.toNat := by
  unfold cutD
  have e1 : HT.sIx xs.length 0 none = 0 := rfl
  have e2 : HT.sIx xs.length xs.length (some k) = min k.toNat xs.length := by
    show (if k < 0 then (k + (xs.length : Int)).toNat else min k.toNat xs.length) = _
    rw [if_neg (by omega)]
  rw [e1, e2, List.drop_zero, Nat.sub_zero, ← List.take_eq_take_min]
theorem cut_drop (xs : List D) (k : Int) (h : 0 ≤ k) : cutD xs (some k) none = xs.drop k.toNat := by
  unfold cutD
  have e1 : HT.sIx xs.length xs.length none = xs.length := rfl
  have e2 : HT.sIx xs.length 0 (some k) = min k.toNat xs.length := by
    show (if k < 0 then (k + (xs.length : Int)).toNat else min k.toNat xs.length) = _
    rw [if_neg (by omega)]
  rw [e1, e2]
  by_cases hk : k.toNat ≤ xs.length
  · rw [Nat.min_eq_left hk]
    exact List.take_of_length_le (by rw [List.length_drop]; exact Nat.le_refl _)
  · rw [Nat.min_eq_right (by omega), List.drop_length, List.drop_eq_nil_of_le (by omega)]
    simp
@[simp] theorem slV_list (lo hi : Option Int) (xs : List D) : slV lo hi (.list xs) = some (.list (cutD xs lo hi)) := Eq.trans rfl rfl
@[simp] theorem slV_tup (lo hi : Option Int) (xs : List D) : slV lo hi (.tuple xs) = some (.tuple (cutD xs lo hi)) := Eq.trans rfl rfl
@[simp] theorem slL_list (lo hi : Option Int) (xs : List D) : slL lo hi (.list xs) = some (.list (cutD xs lo hi)) := Eq.trans rfl rfl
@[simp] theorem revV_tup (xs : List D) : revV (.tuple xs) = some (.tuple xs.reverse) := Eq.trans rfl rfl
@[simp] theorem revV_list (xs : List D) : revV (.list xs) = some (.list xs.reverse) := Eq.trans rfl rfl
@[simp] theorem tupleV_list (xs : List D) : tupleV [.list xs] = some (.tuple xs) := Eq.trans rfl rfl
@[simp] theorem listV_list (xs : List D) : listV [.list xs] = some (.list xs) := Eq.trans rfl rfl
@[simp] theorem listV_tup (xs : List D) : listV [.tuple xs] = some (.list xs) := Eq.trans rfl rfl
theorem addV_tup {xs ys : List D} (h : xs.length + ys.length ≤ 16777216) : addV (.tuple xs) (.tuple ys) = some (.tuple (xs ++ ys)) := if_pos (by rw [lineN_eq]; exact h)
theorem addV_list {xs ys : List D} (h : xs.length + ys.length ≤ 16777216) : addV (.list xs) (.list ys) = some (.list (xs ++ ys)) := if_pos (by rw [lineN_eq]; exact h)
/-! ### ints in lists -/
theorem shaped_int (i : Int) : SeqAt.shaped (.int i) = true := by
  unfold SeqAt.shaped
  simp only [PyData.canLay0, PyData.depth]
  rfl
theorem ints_lay : ∀ l : List Int, PyData.canLayAll0 (l.map PyData.int) = true ∧ PyData.depthAll (l.map PyData.int) = 0
  | [] => ⟨by simp only [List.map_nil, PyData.canLayAll0], by simp only [List.map_nil, PyData.depthAll]⟩
  | x :: r => by
    obtain ⟨h1, h2⟩ := ints_lay r
    exact ⟨by simp only [List.map_cons, PyData.canLayAll0, PyData.canLay0, h1, Bool.and_self], by simp only [List.map_cons, PyData.depthAll, PyData.depth, h2]; rfl⟩
theorem shaped_ints (l : List Int) : SeqAt.shaped (.list (l.map PyData.int)) = true := by
  unfold SeqAt.shaped
  obtain ⟨h1, h2⟩ := ints_lay l
  simp only [PyData.canLay0, PyData.depth, h1, h2]
  rfl
theorem any_ints (a : Int) : ∀ l : List Int, ((l.map PyData.int).any fun z => PyData.eqv z (.int a)) = l.any (· == a)
  | [] => rfl
  | x :: r => by
    rw [List.map_cons, List.any_cons, List.any_cons, any_ints a r]
    unfold PyData.eqv
    rfl
theorem in_ints (a : Int) (l : List Int) : inV' (.int a) (.list (l.map PyData.int)) = some (.bool (l.any (· == a))) := by
  show (if SeqAt.shaped (.int a) = true ∧ SeqAt.shaped (.list (l.map PyData.int)) = true then some ((l.map PyData.int).any fun z => PyData.eqv z (.int a)) else none).map PyData.bool = _
  rw [if_pos ⟨shaped_int a, shaped_ints l⟩, any_ints]
  rfl
theorem notin_ints (a : Int) (l : List Int) : ninV' (.int a) (.list (l.map PyData.int)) = some (.bool (!l.any (· == a))) := by
  show (if SeqAt.shaped (.int a) = true ∧ SeqAt.shaped (.list (l.map PyData.int)) = true then some ((l.map PyData.int).any fun z => PyData.eqv z (.int a)) else none).map (fun b => PyData.bool !b) = _
  rw [if_pos ⟨shaped_int a, shaped_ints l⟩, any_ints]
  rfl
theorem ints?_map : ∀ l : List Int, ints? (l.map PyData.int) = some l
  | [] => rfl
  | x :: r => by
    show (ints? (r.map PyData.int)).map (x :: ·) = _
    rw [ints?_map r]
    rfl
theorem bools?_map : ∀ l : List Bool, bools? (l.map PyData.bool) = some l
  | [] => rfl
  | x :: r => by
    show (bools? (r.map PyData.bool)).map (x :: ·) = _
    rw [bools?_map r]
    rfl
theorem sort_ints (l : List Int) : sortIV [.list (l.map PyData.int)] = some (.list ((isort l).map PyData.int)) := by
  show (ints? (l.map PyData.int)).map _ = _
  rw [ints?_map]
  rfl
theorem all_bools (l : List Bool) : allV [.list (l.map PyData.bool)] = some (.bool (l.all id)) := by
  show (bools? (l.map PyData.bool)).map _ = _
  rw [bools?_map]
  rfl
theorem any_bools (l : List Bool) : anyV [.list (l.map PyData.bool)] = some (.bool (l.any id)) := by
  show (bools? (l.map PyData.bool)).map _ = _
  rw [bools?_map]
  rfl
/-! ### isinstance -/
def kInt : D → Bool
  | .int _ => true
  | .bool _ => true
  | _ => false
def kBool : D → Bool
  | .bool _ => true
  | _ => false
def kTup : D → Bool
  | .tuple _ => true
  | _ => false
theorem isi_int (d : D) : isiV "int" d = some (.bool (kInt d)) := by
  have h : ∀ s, kitB s "int" = some (s == "int" || s == "bool") → (kitB s "int").map PyData.bool = some (.bool (s == "int" || s == "bool")) := fun s e => by rw [e]; rfl
  cases d <;> (refine (h _ ?_).trans ?_ <;> first | rfl | decide +kernel)
theorem isi_bool (d : D) : isiV "bool" d = some (.bool (kBool d)) := by
  have h : ∀ s, kitB s "bool" = some (s == "bool") → (kitB s "bool").map PyData.bool = some (.bool (s == "bool")) := fun s e => by rw [e]; rfl
  cases d <;> (refine (h _ ?_).trans ?_ <;> first | rfl | decide +kernel)
theorem isi_tuple (d : D) : isiV "tuple" d = some (.bool (kTup d)) := by
  have h : ∀ s, kitB s "tuple" = some (s == "tuple") → (kitB s "tuple").map PyData.bool = some (.bool (s == "tuple")) := fun s e => by rw [e]; rfl
  cases d <;> (refine (h _ ?_).trans ?_ <;> first | rfl | decide +kernel)
/-! ### names picked once, sorted -/
def once (p : List Int) : List Int := ((List.range p.length).filter fun i => !(p.take i).any (· == p.getD i 0)).map fun i => p.getD i 0
theorem once_mem {p : List Int} {x : Int} : x ∈ once p → x ∈ p := fun h => by
  unfold once at h
  obtain ⟨i, hi, rfl⟩ := List.mem_map.mp h
  have hl : i < p.length := List.mem_range.mp (List.mem_filter.mp hi).1
  rw [List.getD_eq_getElem?_getD, List.getElem?_eq_getElem hl]
  exact List.getElem_mem hl
theorem once_nodup (p : List Int) : (once p).Nodup := by
  unfold once
  have hp : (List.range p.length).Pairwise (· < ·) := List.pairwise_lt_range
  rw [List.Nodup, List.pairwise_map]
  refine (hp.filter _).imp_of_mem ?_
  intro i j hi hj hij e
  have lj : j < p.length := List.mem_range.mp (List.mem_filter.mp hj).1
  have fj := (List.mem_filter.mp hj).2
  rw [Bool.not_eq_true', List.any_eq_false] at fj
  refine fj (p.getD i 0) ?_ (by rw [e]; exact beq_self_eq_true _)
  rw [List.getD_eq_getElem?_getD, List.getElem?_eq_getElem (by omega : i < p.length)]
  exact List.mem_take_iff_getElem.mpr ⟨i, by omega, rfl⟩
theorem once_ne {p : List Int} (h : 0 < p.length) : 0 < (once p).length := by
  unfold once
  rw [List.length_map]
  refine List.length_pos_of_mem (a := 0) (List.mem_filter.mpr ⟨List.mem_range.mpr h, rfl⟩)
theorem once_len (p : List Int) : (once p).length ≤ p.length := by
  unfold once
  rw [List.length_map]
  exact Nat.le_trans (List.length_filter_le _ _) (by rw [List.length_range]; exact Nat.le_refl _)
def pkC (p : List Int) : D → Bool
  | .int i => !(p.take i.toNat).any (· == p.getD i.toNat 0)
  | _ => false
def pkV (p : List Int) : D → D
  | .int i => .int (p.getD i.toNat 0)
  | _ => .none
/-- [p[k] for k in range(len(p)) if p[k] not in p[:k]]: sp, sk the slots of p and of k -/
theorem pick_comp {sp sk : Nat} {η : Nv} {p : List Int} (hl : p.length < 1000000) (h1 : gv sp η = .ok (.list (p.map PyData.int))) (h2 : ∀ x, gv sp ((wipeE η [sk]).set sk (.d x)) = .ok (.list (p.map PyData.int))) (h3 : ∀ x, gv sk ((wipeE η [sk]).set sk (.d x)) = .ok x) :
    compE (iR1 (aC (eN lenV (aC (gv sp) a0)) a0)) (gN sk) (tb (e2 ninV' (e2 ixV (gv sp) (gv sk)) (slE slV (gv sp) p0 (p1 (gv sk))))) (e2 ixV (gv sp) (gv sk)) [sk] η = .ok (.list ((once p).map PyData.int)) := by
  have ex : ((rangeD 0 p.length).filter (pkC p)).map (pkV p) = (once p).map PyData.int := by
    unfold rangeD once
    rw [List.filter_map, List.map_map, List.map_map]
    have f1 : (pkC p ∘ fun i : Nat => PyData.int (0 + (i : Nat))) = fun i : Nat => !(p.take i).any (· == p.getD i 0) := by
      funext i
      show (!(p.take (0 + (i : Int)).toNat).any (· == p.getD (0 + (i : Int)).toNat 0)) = _
      rw [show (0 + (i : Int)).toNat = i by omega]
    rw [f1]
    apply List.map_congr_left
    intro i _
    show PyData.int (p.getD (0 + (i : Int)).toNat 0) = _
    rw [show (0 + (i : Int)).toNat = i by omega]
    rfl
  rw [← ex]
  refine compE_ok (xs := rangeD 0 p.length) ?_ (compD_filter (c := pkC p) (g := pkV p) _ fun x m => ?_) ?_
  · have r : rng1 [.int ((p.length : Nat) : Int)] = .ok (rangeD 0 p.length) := by rw [rng1_ok (by omega) (by omega), Int.toNat_natCast]
    simp [h1, r]
  · unfold rangeD at m
    obtain ⟨i, hi, rfl⟩ := List.mem_map.mp m
    have hi : i < p.length := List.mem_range.mp hi
    have at1 : atD (p.map PyData.int) (0 + (i : Int)) = some (.int (p.getD i 0)) := atD_nat (by omega) (by
      rw [show (0 + (i : Int)).toNat = i by omega, List.getElem?_map, List.getElem?_eq_getElem hi, List.getD_eq_getElem?_getD, List.getElem?_eq_getElem hi]
      rfl)
    have cu : cutD (p.map PyData.int) none (some (0 + (i : Int))) = (p.take i).map PyData.int := by
      rw [cut_take _ _ (by omega), show (0 + (i : Int)).toNat = i by omega, List.map_take]
    have ti : (0 + (i : Int)).toNat = i := by omega
    refine ⟨_, rfl, ?_, fun _ => ?_⟩
    · show ((e2 ninV' (e2 ixV (gv sp) (gv sk)) (slE slV (gv sp) p0 (p1 (gv sk)))) _).bind tru = _
      simp only [e2_def, h2, h3, R.ok_bind, ixV_list, at1, of_some, slE_def, p0_def, p1_def, asInt_int, slV_list, cu, notin_ints, tru_bool]
      show _ = R.ok (!(p.take (0 + (i : Int)).toNat).any (· == p.getD (0 + (i : Int)).toNat 0))
      rw [ti]
    · simp only [e2_def, h2, h3, R.ok_bind, ixV_list, at1, of_some]
      show _ = R.ok (PyData.int (p.getD (0 + (i : Int)).toNat 0))
      rw [ti]
  · rw [List.length_map, lineN_eq]
    refine Nat.le_trans (List.length_filter_le _ _) ?_
    unfold rangeD
    rw [List.length_map, List.length_range]
    omega
theorem asc_sort {l : List Int} (h : l.Nodup) : (isort l).Pairwise (· < ·) := by
  have s := isort_sorted l
  have n : (isort l).Nodup := (isort_perm l).nodup_iff.mpr h
  exact (s.and n).imp fun z => by obtain ⟨z1, z2⟩ := z; omega
end Bd
/-! M3: the law's deck: a list of five that each draw changes. -/
namespace Bd
open PySem L2

/-! ### reckoning with lists that change -/
theorem up_ok {F : Nv → R D} {η : Nv} {d : D} (h : F η = .ok d) : up F η = .ok (d, η) := by
  unfold up
  rw [h]
theorem seq_nx {Gs Gt : Nv → Rs} {η η1 : Nv} (h : Gs η = .nx η1) : seqS Gs Gt η = Gt η1 := by
  rw [seqS_def, h]
  rfl
theorem ifS_t {G : Nv → R Bool} {Gs Gt : Nv → Rs} {η : Nv} (h : G η = .ok true) : ifS G Gs Gt η = Gs η := by
  rw [ifS_def, h]
  rfl
theorem ifS_f {G : Nv → R Bool} {Gs Gt : Nv → Rs} {η : Nv} (h : G η = .ok false) : ifS G Gs Gt η = Gt η := by
  rw [ifS_def, h]
  rfl
theorem xPutS_ok {i : Nat} {F : Nv → R (D × Nv)} {Fi : Nv → R D} {η η1 : Nv} {y : D} {xs : OL} {j : Int} {m : Nat} (h1 : F η = .ok (y, η1)) (h2 : η1[i]? = some (.own xs)) (h3 : Fi η1 = .ok (.int j)) (h4 : ixN xs.l.length j = some m) : xPutS i F Fi η = .nx (η1.set i (.own ⟨xs.b, xs.l.set m y⟩)) := by
  unfold xPutS
  rw [h1]
  show (match η1[i]? with
    | some (.own _) => (only (Fi η1)).toS (putAt i y η1)
    | _ => .no) = _
  rw [h2, h3]
  show putAt i y η1 (.int j) = _
  unfold putAt
  rw [h2]
  show (match ixN xs.l.length j with
    | some m => Rs.nx (η1.set i (.own ⟨xs.b, xs.l.set m y⟩))
    | none => .no) = _
  rw [h4]
theorem xSet_ok {i : Nat} {F : Nv → R (D × Nv)} {η η1 : Nv} {y : D} (h : F η = .ok (y, η1)) : xSet i F η = .nx (η1.set i (.d y)) := by
  unfold xSet
  rw [h]
  rfl
theorem xRet_ok {F : Nv → R (D × Nv)} {η η1 : Nv} {y : D} (h : F η = .ok (y, η1)) : xRet F η = .rt y η1 := by
  unfold xRet
  rw [h]
  rfl
theorem x2_ok {f : D → D → Option D} {Fa Fb : Nv → R (D × Nv)} {η η1 η2 : Nv} {a b d : D} (h1 : Fa η = .ok (a, η1)) (h2 : Fb η1 = .ok (b, η2)) (h3 : f a b = some d) : x2 f Fa Fb η = .ok (d, η2) := by
  unfold x2
  rw [h1]
  show ((Fb η1).bind fun q => (R.of (f a q.1)).bind fun d => R.ok (d, q.2)) = _
  rw [h2]
  show ((R.of (f a b)).bind fun d => R.ok (d, η2)) = _
  rw [h3]
  rfl
theorem xb_ok {F : Nv → R (D × Nv)} {η η1 : Nv} {d : D} {k : Bool} (h1 : F η = .ok (d, η1)) (h2 : tru d = .ok k) : xb F η = .ok (k, η1) := by
  unfold xb
  rw [h1]
  show ((tru d).bind fun k => R.ok (k, η1)) = _
  rw [h2]
  rfl
theorem xN_ok {f : List D → Option D} {Fs : Nv → R (List D × Nv)} {η η1 : Nv} {ds : List D} {d : D} (h1 : Fs η = .ok (ds, η1)) (h2 : f ds = some d) : xN f Fs η = .ok (d, η1) := by
  unfold xN
  rw [h1]
  show ((R.of (f ds)).bind fun d => R.ok (d, η1)) = _
  rw [h2]
  rfl
theorem xC_ok {Fa : Nv → R (D × Nv)} {Fs : Nv → R (List D × Nv)} {η η1 η2 : Nv} {a : D} {ds : List D} (h1 : Fa η = .ok (a, η1)) (h2 : Fs η1 = .ok (ds, η2)) : xC Fa Fs η = .ok (a :: ds, η2) := by
  unfold xC
  rw [h1]
  show ((Fs η1).bind fun q => R.ok (a :: q.1, q.2)) = _
  rw [h2]
  rfl
theorem xCallK_ok {i : Nat} {Fk : List D → List D → R (D × List D)} {Fs : Nv → R (List D × Nv)} {η η1 : Nv} {x0 xs : OL} {ds kx : List D} {d : D} (h0 : η[i]? = some (.own x0)) (h1 : Fs η = .ok (ds, η1)) (h2 : η1[i]? = some (.own xs)) (h3 : Fk xs.l ds = .ok (d, kx)) : xCallK i Fk Fs η = .ok (d, η1.set i (.own ⟨xs.b, kx⟩)) := by
  unfold xCallK
  rw [h0]
  show (Fs η).bind (xPut i Fk) = _
  rw [h1]
  show xPut i Fk (ds, η1) = _
  unfold xPut
  show (match η1[i]? with
    | some (.own xs) => (Fk xs.l ds).bind fun r => R.ok (r.1, η1.set i (.own ⟨xs.b, r.2⟩))
    | _ => .no) = _
  rw [h2]
  show ((Fk xs.l ds).bind fun r => R.ok (r.1, η1.set i (.own ⟨xs.b, r.2⟩))) = _
  rw [h3]
  rfl
theorem xAsg_ok {T : Tgt} {F : Nv → R (D × Nv)} {η η1 η2 : Nv} {d : D} (h1 : F η = .ok (d, η1)) (h2 : T d η1 = some η2) : xAsg T F η = .nx η2 := by
  unfold xAsg
  rw [h1]
  show (match T d η1 with
    | some η' => Rs.nx η'
    | none => .no) = _
  rw [h2]
theorem xOwn_ok {i : Nat} {F : Nv → R (D × Nv)} {η η1 : Nv} {xs : List D} (h : F η = .ok (.list xs, η1)) : xOwn i F η = .nx (η1.set i (.own ⟨true, xs⟩)) := by
  unfold xOwn
  rw [h]
  rfl
theorem frz_ok {i : Nat} {η : Nv} {xs : List D} (h : η[i]? = some (.own ⟨true, xs⟩)) : frzS i η = .nx (η.set i (.d (.list xs))) := by
  unfold frzS
  rw [h]
  rfl
theorem runK_rt {m : Nat} {G : Nv → Rs} {kx ds kx' : List D} {d : D} {η' : Nv} (η : Nv) (hi : initK m kx ds = η) (h : G η = .rt d η') (h0 : η'[(0 : Nat)]? = some (.own ⟨false, kx'⟩)) : runK m G kx ds = .ok (d, kx') := by
  subst hi
  unfold runK
  rw [h]
  show outK d η' = _
  unfold outK
  rw [h0]
  rfl
theorem runD_ex {m : Nat} {fall : R D} {G : Nv → Rs} {ds : List D} {d : D} (η : Nv) (hi : initD m ds = η) (h : ∃ η', G η = .rt d η') : runD m fall G ds = .ok d := by
  obtain ⟨η', h⟩ := h
  exact runD_rt η hi h
theorem compX_t {T : Tgt} {C : Nv → R (Bool × Nv)} {El : Nv → R (D × Nv)} {vs : List Nat} {x y : D} {xs ys : List D} {η η1 ηb ηe ηz : Nv} (h1 : T x η = some η1) (h2 : C η1 = .ok (true, ηb)) (h3 : El ηb = .ok (y, ηe)) (h4 : compX T C El vs xs (wipeE ηe vs) = .ok (ys, ηz)) : compX T C El vs (x :: xs) η = .ok (y :: ys, ηz) := by
  show (match T x η with
    | none => R.no
    | some η1 => (C η1).bindN fun b => if b.1 then (El b.2).bindN fun y => (compX T C El vs xs (wipeE y.2 vs)).bindN fun q => .ok (y.1 :: q.1, q.2) else compX T C El vs xs (wipeE b.2 vs)) = _
  rw [h1]
  show (C η1).bindN _ = _
  rw [h2]
  show (El ηb).bindN _ = _
  rw [h3]
  show (compX T C El vs xs (wipeE ηe vs)).bindN _ = _
  rw [h4]
  rfl
theorem compX_f {T : Tgt} {C : Nv → R (Bool × Nv)} {El : Nv → R (D × Nv)} {vs : List Nat} {x : D} {xs : List D} {η η1 ηb : Nv} {r : R (List D × Nv)} (h1 : T x η = some η1) (h2 : C η1 = .ok (false, ηb)) (h4 : compX T C El vs xs (wipeE ηb vs) = r) : compX T C El vs (x :: xs) η = r := by
  show (match T x η with
    | none => R.no
    | some η1 => (C η1).bindN fun b => if b.1 then (El b.2).bindN fun y => (compX T C El vs xs (wipeE y.2 vs)).bindN fun q => .ok (y.1 :: q.1, q.2) else compX T C El vs xs (wipeE b.2 vs)) = _
  rw [h1]
  show (C η1).bindN _ = _
  rw [h2]
  exact h4
theorem xComp_ok {Fi : Nv → R (List D × Nv)} {T : Tgt} {C : Nv → R (Bool × Nv)} {El : Nv → R (D × Nv)} {vs : List Nat} {η η1 ηz : Nv} {xs ys : List D} (h1 : Fi η = .ok (xs, η1)) (h2 : compX T C El vs xs (wipeE η1 vs) = .ok (ys, ηz)) (h3 : ys.length ≤ lineN) : xComp Fi T C El vs η = .ok (.list ys, ηz) := by
  unfold xComp
  rw [h1]
  show (compX T C El vs xs (wipeE η1 vs)).bindN _ = _
  rw [h2]
  show (if ys.length ≤ lineN then _ else _) = _
  rw [if_pos h3]
theorem upI_ok {F : Nv → R (List D)} {η : Nv} {d : List D} (h : F η = .ok d) : upI F η = .ok (d, η) := by
  unfold upI
  rw [h]
theorem upB_ok {F : Nv → R Bool} {η : Nv} {d : Bool} (h : F η = .ok d) : upB F η = .ok (d, η) := by
  unfold upB
  rw [h]
theorem xR1_ok {Fs : Nv → R (List D × Nv)} {η η1 : Nv} {ds xs : List D} (h1 : Fs η = .ok (ds, η1)) (h2 : rng1 ds = .ok xs) : xR1 Fs η = .ok (xs, η1) := by
  unfold xR1
  rw [h1]
  show ((rng1 ds).bind fun d => R.ok (d, η1)) = _
  rw [h2]
  rfl
/-! ### the deck -/
namespace Dk
def G_draw : Nv → Rs :=
    (seqS (ifS (andB (tb (e2 eqV' (e2 ixV (go 0) (k0 (.int 0))) (k0 (.int 0)))) (tb (e2 ltA (e2 ixV (go 0) (k0 (.int 1))) (eN lenV (aC (e2 ixV (go 0) (k0 (.int 3))) a0))))) (seqS (xPutS 0 (up (eN absV' (aC (e2 ixV (e2 ixV (go 0) (k0 (.int 3))) (e2 ixV (go 0) (k0 (.int 1)))) a0))) (k0 (.int 0)))
    (seqS (xPutS 0 (up (e2 addV (e2 ixV (go 0) (k0 (.int 1))) (k0 (.int 1)))) (k0 (.int 1)))
    .nx)) (seqS (ifS (tb (e2 eqV' (e2 ixV (go 0) (k0 (.int 0))) (k0 (.int 0)))) (seqS (xPutS 0 (up (e2 addV (e2 ixV (go 0) (k0 (.int 4))) (k0 (.int 1)))) (k0 (.int 4)))
    (seqS (setS 2 (e2 modV (eN intV (aC (e2 addV (e2 addV (e2 mulV (e2 ixV (go 0) (k0 (.int 2))) (k0 (.int 48271))) (e2 mulV (e2 ixV (go 0) (k0 (.int 4))) (k0 (.int 69621)))) (k0 (.int 12345))) a0)) (k0 (.int 2147483647))))
    (seqS (setS 2 (e2 modV (eN intV (aC (e2 addV (e2 addV (e2 mulV (gv 2) (gv 2)) (e2 mulV (k0 (.int 16807)) (e2 ixV (go 0) (k0 (.int 4))))) (k0 (.int 7))) a0)) (k0 (.int 998244353))))
    (seqS (setS 2 (e2 modV (eN intV (aC (e2 addV (e2 addV (e2 mulV (gv 2) (gv 2)) (e2 mulV (k0 (.int 48271)) (e2 ixV (go 0) (k0 (.int 4))))) (e2 ixV (go 0) (k0 (.int 2)))) a0)) (k0 (.int 2147483629))))
    (seqS (xPutS 0 (up (e2 fdivV (gv 2) (k0 (.int 13)))) (k0 (.int 0)))
    .nx))))) .nx)
    .nx))
    (seqS (setS 3 (e2 modV (eN intV (aC (e2 ixV (go 0) (k0 (.int 0))) a0)) (gv 1)))
    (seqS (xPutS 0 (up (e2 fdivV (e2 ixV (go 0) (k0 (.int 0))) (gv 1))) (k0 (.int 0)))
    (seqS (retS (gv 3))
    .nx))))
def F_draw : List D → List D → R (D × List D) := runK 4 G_draw
def G_deck : Nv → Rs :=
    (seqS (setS 1 (k0 (.int 7)))
    (seqS (forS (iA (gv 0)) (gN 2) (seqS (setS 1 (e2 modV (eN intV (aC (e2 addV (e2 mulV (gv 1) (k0 (.int 48271))) (gv 2)) a0)) (k0 (.int 2147483647))))
    .nx))
    (seqS (retS (lstV (aC (k0 (.int 0)) (aC (k0 (.int 0)) (aC (gv 1) (aC (eN listV (aC (gv 0) a0)) (aC (k0 (.int 0)) a0)))))))
    .nx)))
def F_deck : List D → R D := runD 3 .no G_deck
def mk (v p s : Int) (cells : List Int) (c : Int) : List D := [.int v, .int p, .int s, .list (cells.map PyData.int), .int c]
def Deck (kx : List D) : Prop := ∃ v p s cells c, kx = mk v p s cells c ∧ 0 ≤ v ∧ 0 ≤ p
theorem at0 (v p s : Int) (l : List Int) (c : Int) : atD (mk v p s l c) 0 = some (.int v) := rfl
theorem at1 (v p s : Int) (l : List Int) (c : Int) : atD (mk v p s l c) 1 = some (.int p) := rfl
theorem at2 (v p s : Int) (l : List Int) (c : Int) : atD (mk v p s l c) 2 = some (.int s) := rfl
theorem at3 (v p s : Int) (l : List Int) (c : Int) : atD (mk v p s l c) 3 = some (.list (l.map PyData.int)) := rfl
theorem at4 (v p s : Int) (l : List Int) (c : Int) : atD (mk v p s l c) 4 = some (.int c) := rfl
theorem put0 (v p s : Int) (l : List Int) (c y : Int) : (mk v p s l c).set 0 (.int y) = mk y p s l c := rfl
theorem put1 (v p s : Int) (l : List Int) (c y : Int) : (mk v p s l c).set 1 (.int y) = mk v y s l c := rfl
theorem put4 (v p s : Int) (l : List Int) (c y : Int) : (mk v p s l c).set 4 (.int y) = mk v p s l y := rfl
theorem abs_int (i : Int) : absV' [.int i] = some (.int (if i < 0 then -i else i)) := rfl
theorem tail_ok {v p s b c : Int} {l : List Int} {s2 s3 : Sl} (hv : 0 ≤ v) (hb : 0 < b ∧ b < 1073741824) : (seqS (setS 3 (e2 modV (eN intV (aC (e2 ixV (go 0) (k0 (.int 0))) a0)) (gv 1))) (seqS (xPutS 0 (up (e2 fdivV (e2 ixV (go 0) (k0 (.int 0))) (gv 1))) (k0 (.int 0))) (seqS (retS (gv 3)) .nx))) [.own ⟨false, mk v p s l c⟩, .d (.int b), s2, s3] = .rt (.int (v % b)) [.own ⟨false, mk (v / b) p s l c⟩, .d (.int b), s2, .d (.int (v % b))] := by
  have m : modV (.int v) (.int b) = some (.int (v % b)) := modV_int hb.1
  have q : fdivV (.int v) (.int b) = some (.int (v / b)) := fdivV_int hb
  rw [seq_nx (η1 := [.own ⟨false, mk v p s l c⟩, .d (.int b), s2, .d (.int (v % b))]) (by simp [at0, m])]
  rw [seq_nx (η1 := [.own ⟨false, mk (v / b) p s l c⟩, .d (.int b), s2, .d (.int (v % b))]) (by
    rw [xPutS_ok (xs := ⟨false, mk v p s l c⟩) (y := .int (v / b)) (j := 0) (m := 0) (up_ok (by simp [at0, q])) rfl rfl rfl]
    rfl)]
  simp
theorem draw_ok {kx : List D} {b : Int} (hk : Deck kx) (hb : 0 < b ∧ b < 1073741824) : ∃ (i : Int) (kx' : List D), Deck kx' ∧ 0 ≤ i ∧ i < b ∧ F_draw kx [.int b] = .ok (.int i, kx') := by
  obtain ⟨v, p, s, l, c, rfl, hv, hp⟩ := hk
  have key : ∀ (v' p' c' : Int) (s2 : Sl), 0 ≤ v' → 0 ≤ p' → ∀ G : Nv → Rs, (∀ η, G_draw η = seqS G (seqS (setS 3 (e2 modV (eN intV (aC (e2 ixV (go 0) (k0 (.int 0))) a0)) (gv 1))) (seqS (xPutS 0 (up (e2 fdivV (e2 ixV (go 0) (k0 (.int 0))) (gv 1))) (k0 (.int 0))) (seqS (retS (gv 3)) .nx))) η) →
      G [.own ⟨false, mk v p s l c⟩, .d (.int b), .no, .no] = .nx [.own ⟨false, mk v' p' s l c'⟩, .d (.int b), s2, .no] → ∃ (i : Int) (kx' : List D), Deck kx' ∧ 0 ≤ i ∧ i < b ∧ F_draw (mk v p s l c) [.int b] = .ok (.int i, kx') := by
    intro v' p' c' s2 h1 h2 G hG hh
    refine ⟨v' % b, mk (v' / b) p' s l c', ⟨_, _, _, _, _, rfl, Int.ediv_nonneg h1 (by omega), h2⟩, Int.emod_nonneg _ (by omega), Int.emod_lt_of_pos _ hb.1, ?_⟩
    refine runK_rt [.own ⟨false, mk v p s l c⟩, .d (.int b), .no, .no] rfl (by rw [hG, seq_nx hh, tail_ok h1 hb]) rfl
  by_cases h0 : v = 0
  · by_cases h1 : p < l.length
    · refine key (if l.getD p.toNat 0 < 0 then -l.getD p.toNat 0 else l.getD p.toNat 0) (p + 1) c .no (by split <;> omega) (by omega) _ (fun η => rfl) ?_
      subst h0
      have a : atD (l.map PyData.int) p = some (.int (l.getD p.toNat 0)) := atD_nat hp (by
        rw [List.getElem?_map, List.getElem?_eq_getElem (by omega), List.getD_eq_getElem?_getD, List.getElem?_eq_getElem (by omega)]
        rfl)
      have t : (andB (tb (e2 eqV' (e2 ixV (go 0) (k0 (.int 0))) (k0 (.int 0)))) (tb (e2 ltA (e2 ixV (go 0) (k0 (.int 1))) (eN lenV (aC (e2 ixV (go 0) (k0 (.int 3))) a0))))) [.own ⟨false, mk 0 p s l c⟩, .d (.int b), .no, .no] = .ok true := by
        simp [at0, at1, at3, eqV_int, h1]
      rw [ifS_t t]
      rw [seq_nx (η1 := [.own ⟨false, mk (if l.getD p.toNat 0 < 0 then -l.getD p.toNat 0 else l.getD p.toNat 0) p s l c⟩, .d (.int b), .no, .no]) (by
        rw [xPutS_ok (xs := ⟨false, mk 0 p s l c⟩) (y := .int (if l.getD p.toNat 0 < 0 then -l.getD p.toNat 0 else l.getD p.toNat 0)) (j := 0) (m := 0) (up_ok (by simp [at3, at1, a, abs_int, -List.getD_eq_getElem?_getD])) rfl rfl rfl]
        rfl)]
      generalize (if l.getD p.toNat 0 < 0 then -l.getD p.toNat 0 else l.getD p.toNat 0) = w
      rw [seq_nx (η1 := [.own ⟨false, mk w (p + 1) s l c⟩, .d (.int b), .no, .no]) (by
        rw [xPutS_ok (xs := ⟨false, mk w p s l c⟩) (y := .int (p + 1)) (j := 1) (m := 1) (up_ok (by simp [at1])) rfl rfl rfl]
        rfl)]
    · generalize q1 : (s * 48271 + (c + 1) * 69621 + 12345) % 2147483647 = x1
      generalize q2 : (x1 * x1 + 16807 * (c + 1) + 7) % 998244353 = x2
      generalize q3 : (x2 * x2 + 48271 * (c + 1) + s) % 2147483629 = x3
      have b1 : 0 ≤ x1 ∧ x1 < 2147483647 := by omega
      have b2 : 0 ≤ x2 ∧ x2 < 998244353 := by omega
      have b3 : 0 ≤ x3 ∧ x3 < 2147483629 := by omega
      refine key (x3 / 13) p (c + 1) (.d (.int x3)) (by omega) hp _ (fun η => rfl) ?_
      subst h0
      have t : (andB (tb (e2 eqV' (e2 ixV (go 0) (k0 (.int 0))) (k0 (.int 0)))) (tb (e2 ltA (e2 ixV (go 0) (k0 (.int 1))) (eN lenV (aC (e2 ixV (go 0) (k0 (.int 3))) a0))))) [.own ⟨false, mk 0 p s l c⟩, .d (.int b), .no, .no] = .ok false := by
        simp [at0, at1, at3, eqV_int]
        omega
      have t1 : mulV (.int s) (.int 48271) = some (.int (s * 48271)) := mulV_int (.inr (by decide))
      have t2 : mulV (.int (c + 1)) (.int 69621) = some (.int ((c + 1) * 69621)) := mulV_int (.inr (by decide))
      have t3 : mulV (.int x1) (.int x1) = some (.int (x1 * x1)) := mulV_int (.inl (by omega))
      have t4 : mulV (.int 16807) (.int (c + 1)) = some (.int (16807 * (c + 1))) := mulV_int (.inl (by decide))
      have t5 : mulV (.int x2) (.int x2) = some (.int (x2 * x2)) := mulV_int (.inl (by omega))
      have t6 : mulV (.int 48271) (.int (c + 1)) = some (.int (48271 * (c + 1))) := mulV_int (.inl (by decide))
      have m1 : ∀ z : Int, modV (.int z) (.int 2147483647) = some (.int (z % 2147483647)) := fun z => modV_int (by decide)
      have m2 : ∀ z : Int, modV (.int z) (.int 998244353) = some (.int (z % 998244353)) := fun z => modV_int (by decide)
      have m3 : ∀ z : Int, modV (.int z) (.int 2147483629) = some (.int (z % 2147483629)) := fun z => modV_int (by decide)
      have d1 : fdivV (.int x3) (.int 13) = some (.int (x3 / 13)) := fdivV_int (by decide)
      rw [ifS_f t]
      rw [seq_nx (η1 := [.own ⟨false, mk (x3 / 13) p s l (c + 1)⟩, .d (.int b), .d (.int x3), .no]) (by
        have t' : (tb (e2 eqV' (e2 ixV (go 0) (k0 (.int 0))) (k0 (.int 0)))) [.own ⟨false, mk 0 p s l c⟩, .d (.int b), .no, .no] = .ok true := by simp [at0, eqV_int]
        rw [ifS_t t']
        rw [seq_nx (η1 := [.own ⟨false, mk 0 p s l (c + 1)⟩, .d (.int b), .no, .no]) (by
          rw [xPutS_ok (xs := ⟨false, mk 0 p s l c⟩) (y := .int (c + 1)) (j := 4) (m := 4) (up_ok (by simp [at4])) rfl rfl rfl]
          rfl)]
        rw [seq_nx (η1 := [.own ⟨false, mk 0 p s l (c + 1)⟩, .d (.int b), .d (.int x1), .no]) (by simp [at2, at4, t1, t2, m1, q1]),
          seq_nx (η1 := [.own ⟨false, mk 0 p s l (c + 1)⟩, .d (.int b), .d (.int x2), .no]) (by simp [at2, at4, t3, t4, m2, q2]),
          seq_nx (η1 := [.own ⟨false, mk 0 p s l (c + 1)⟩, .d (.int b), .d (.int x3), .no]) (by simp [at2, at4, t5, t6, m3, q3])]
        rw [seq_nx (η1 := [.own ⟨false, mk (x3 / 13) p s l (c + 1)⟩, .d (.int b), .d (.int x3), .no]) (by
          rw [xPutS_ok (xs := ⟨false, mk 0 p s l (c + 1)⟩) (y := .int (x3 / 13)) (j := 0) (m := 0) (up_ok (by simp [d1])) rfl rfl rfl]
          rfl)])]
  · refine key v p c .no hv hp _ (fun η => rfl) ?_
    have t : (andB (tb (e2 eqV' (e2 ixV (go 0) (k0 (.int 0))) (k0 (.int 0)))) (tb (e2 ltA (e2 ixV (go 0) (k0 (.int 1))) (eN lenV (aC (e2 ixV (go 0) (k0 (.int 3))) a0))))) [.own ⟨false, mk v p s l c⟩, .d (.int b), .no, .no] = .ok false := by
      simp [at0, at1, at3, eqV_int, h0]
    have t' : (tb (e2 eqV' (e2 ixV (go 0) (k0 (.int 0))) (k0 (.int 0)))) [.own ⟨false, mk v p s l c⟩, .d (.int b), .no, .no] = .ok false := by simp [at0, eqV_int, h0]
    rw [ifS_f t, seqS_def, ifS_f t']
    rfl
def seedS : List Int → Int → Int
  | [], s => s
  | x :: r, s => seedS r ((s * 48271 + x) % 2147483647)
theorem deck_loop (S : D) : ∀ (ns : List Int) (s : Int) (s2 : Sl), ∃ s2', loopG (gN 2) (seqS (setS 1 (e2 modV (eN intV (aC (e2 addV (e2 mulV (gv 1) (k0 (.int 48271))) (gv 2)) a0)) (k0 (.int 2147483647)))) .nx) (ns.map PyData.int) [.d S, .d (.int s), s2] = .nx [.d S, .d (.int (seedS ns s)), s2']
  | [], s, s2 => ⟨s2, rfl⟩
  | x :: r, s, s2 => by
    obtain ⟨s2', e⟩ := deck_loop S r ((s * 48271 + x) % 2147483647) (.d (.int x))
    refine ⟨s2', ?_⟩
    have t1 : mulV (.int s) (.int 48271) = some (.int (s * 48271)) := mulV_int (.inr (by decide))
    have m1 : ∀ z : Int, modV (.int z) (.int 2147483647) = some (.int (z % 2147483647)) := fun z => modV_int (by decide)
    rw [List.map_cons, loopG_cons (η1 := [.d S, .d (.int s), .d (.int x)]) (h := rfl)]
    rw [seq_nx (η1 := [.d S, .d (.int ((s * 48271 + x) % 2147483647)), .d (.int x)]) (by simp [t1, m1])]
    exact e
theorem deck_ok (ns : List Int) : ∃ kx, Deck kx ∧ F_deck [.list (ns.map PyData.int)] = .ok (.list kx) := by
  obtain ⟨s2, e⟩ := deck_loop (.list (ns.map PyData.int)) ns 7 .no
  refine ⟨mk 0 0 (seedS ns 7) ns 0, ⟨_, _, _, _, _, rfl, by decide, by decide⟩, ?_⟩
  refine runD_ex [.d (.list (ns.map PyData.int)), .no, .no] rfl ⟨[.d (.list (ns.map PyData.int)), .d (.int (seedS ns 7)), s2], ?_⟩
  unfold G_deck
  rw [seq_nx (η1 := [.d (.list (ns.map PyData.int)), .d (.int 7), .no]) (by simp),
    seq_nx (η1 := [.d (.list (ns.map PyData.int)), .d (.int (seedS ns 7)), s2]) (by
      rw [forS_def, iA_def, gv_zero, R.ok_bind, asSeq_list, toS_ok]
      exact e)]
  simp [lineN_eq]
  rfl
end Dk
end Bd
/-! M4: sums of ascending lists of ints. -/
namespace Bd
open PySem L2

def Asc (l : List Int) : Prop := l.Pairwise (· < ·)
def notIn (b : List Int) (x : Int) : Bool := !b.any (· == x)
theorem notIn_iff {b : List Int} {x : Int} : notIn b x = true ↔ x ∉ b := by
  unfold notIn
  rw [Bool.not_eq_true', List.any_eq_false]
  exact ⟨fun h m => h x m (beq_self_eq_true x), fun h y m e => h (by rw [← eq_of_beq e]; exact m)⟩
def sumL (a b : List Int) : List Int := isort (a.filter (notIn b) ++ b.filter (notIn a))
theorem mem_sumL {a b : List Int} {x : Int} : x ∈ sumL a b ↔ (x ∈ a ∧ x ∉ b) ∨ (x ∈ b ∧ x ∉ a) := by
  unfold sumL
  rw [(isort_perm _).mem_iff, List.mem_append, List.mem_filter, List.mem_filter, notIn_iff, notIn_iff]
theorem Asc.nodup {l : List Int} (h : Asc l) : l.Nodup := h.imp fun z => by omega
theorem sumL_asc {a b : List Int} (ha : Asc a) (hb : Asc b) : Asc (sumL a b) := by
  refine asc_sort (List.nodup_append.mpr ⟨ha.nodup.filter _, hb.nodup.filter _, fun x hx y hy e => ?_⟩)
  have h1 := (List.mem_filter.mp hx).2
  have h2 := (List.mem_filter.mp hy).1
  subst e
  exact notIn_iff.mp h1 h2
theorem asc_ext : ∀ {a b : List Int}, Asc a → Asc b → (∀ x, x ∈ a ↔ x ∈ b) → a = b
  | [], [], _, _, _ => rfl
  | [], y :: b, _, _, h => absurd ((h y).mpr List.mem_cons_self) List.not_mem_nil
  | x :: a, [], _, _, h => absurd ((h x).mp List.mem_cons_self) List.not_mem_nil
  | x :: a, y :: b, ha, hb, h => by
    obtain ⟨ha1, ha2⟩ := List.pairwise_cons.mp ha
    obtain ⟨hb1, hb2⟩ := List.pairwise_cons.mp hb
    have e : x = y := by
      rcases List.mem_cons.mp ((h x).mp List.mem_cons_self) with e | m
      · exact e
      · rcases List.mem_cons.mp ((h y).mpr List.mem_cons_self) with e | m2
        · exact e.symm
        · have := hb1 x m
          have := ha1 y m2
          omega
    subst e
    rw [asc_ext ha2 hb2 fun z => ?_]
    have hz := h z
    rw [List.mem_cons, List.mem_cons] at hz
    constructor
    · intro m
      rcases hz.mp (.inr m) with e | m'
      · have := ha1 z m
        omega
      · exact m'
    · intro m
      rcases hz.mpr (.inr m) with e | m'
      · have := hb1 z m
        omega
      · exact m'
theorem sumL_comm {a b : List Int} (ha : Asc a) (hb : Asc b) : sumL a b = sumL b a := asc_ext (sumL_asc ha hb) (sumL_asc hb ha) fun x => by rw [mem_sumL, mem_sumL]; exact Or.comm
theorem sumL_assoc {a b c : List Int} (ha : Asc a) (hb : Asc b) (hc : Asc c) : sumL (sumL a b) c = sumL a (sumL b c) := asc_ext (sumL_asc (sumL_asc ha hb) hc) (sumL_asc ha (sumL_asc hb hc)) fun x => by
  simp only [mem_sumL]
  by_cases h1 : x ∈ a <;> by_cases h2 : x ∈ b <;> by_cases h3 : x ∈ c <;> simp [h1, h2, h3]
theorem sumL_nil {a : List Int} (ha : Asc a) : sumL [] a = a := asc_ext (sumL_asc .nil ha) ha fun x => by
  rw [mem_sumL]
  simp
theorem sumL_self {a : List Int} (ha : Asc a) : sumL a a = [] := asc_ext (sumL_asc ha ha) .nil fun x => by
  rw [mem_sumL]
  simp
theorem sumL_back {a b : List Int} (ha : Asc a) (hb : Asc b) : sumL (sumL a b) b = a := by
  rw [sumL_assoc ha hb hb, sumL_self hb, sumL_comm ha .nil, sumL_nil ha]
theorem fold_asc : ∀ {cs : List (List Int)} {a : List Int}, Asc a → (∀ c ∈ cs, Asc c) → Asc (cs.foldl sumL a)
  | [], _, ha, _ => ha
  | c :: cs, a, ha, h => by
    show Asc (cs.foldl sumL (sumL a c))
    exact fold_asc (sumL_asc ha (h c List.mem_cons_self)) fun d m => h d (List.mem_cons_of_mem _ m)
theorem fold_pull : ∀ {cs : List (List Int)} {a b : List Int}, Asc a → Asc b → (∀ c ∈ cs, Asc c) → cs.foldl sumL (sumL a b) = sumL a (cs.foldl sumL b)
  | [], _, _, _, _, _ => rfl
  | c :: cs, a, b, ha, hb, h => by
    have hc := h c List.mem_cons_self
    show cs.foldl sumL (sumL (sumL a b) c) = sumL a (cs.foldl sumL (sumL b c))
    rw [sumL_assoc ha hb hc, fold_pull ha (sumL_asc hb hc) fun d m => h d (List.mem_cons_of_mem _ m)]
theorem fold_rev : ∀ {cs : List (List Int)}, (∀ c ∈ cs, Asc c) → cs.reverse.foldl sumL [] = cs.foldl sumL []
  | [], _ => rfl
  | c :: cs, h => by
    have hc := h c List.mem_cons_self
    have hs : ∀ d ∈ cs, Asc d := fun d m => h d (List.mem_cons_of_mem _ m)
    rw [List.reverse_cons, List.foldl_append, fold_rev hs]
    show sumL (cs.foldl sumL []) c = cs.foldl sumL (sumL [] c)
    have e : sumL [] c = sumL c [] := sumL_comm .nil hc
    rw [e, fold_pull hc .nil hs, sumL_comm (fold_asc .nil hs) hc]
/-! ### as data -/
def tupI (l : List Int) : D := .tuple (l.map PyData.int)
theorem shaped_tup (l : List Int) : SeqAt.shaped (tupI l) = true := by
  unfold SeqAt.shaped tupI
  obtain ⟨h1, h2⟩ := ints_lay l
  simp only [PyData.canLay0, PyData.depth, h1, h2]
  rfl
theorem ints_flat : ∀ l : List Int, (l.map PyData.int).all flatD = true
  | [] => rfl
  | x :: r => by
    rw [List.map_cons, List.all_cons, ints_flat r]
    rfl
theorem notin_tup (a : Int) (l : List Int) : ninV' (.int a) (tupI l) = some (.bool (notIn l a)) := by
  show (if flatD (.int a) = true ∧ (l.map PyData.int).all flatD = true then some ((l.map PyData.int).any fun z => PyData.eqv z (.int a)) else none).map (fun b => PyData.bool !b) = _
  rw [if_pos ⟨rfl, ints_flat l⟩, any_ints]
  rfl
/-- [place for place in one if place not in other] -/
theorem pick_ok {so sp sk : Nat} {η : Nv} {a b : List Int} (h0 : gv so η = .ok (tupI a)) (h1 : ∀ x, gv sp ((wipeE η [sk]).set sk (.d x)) = .ok (tupI b)) (h2 : ∀ x, gv sk ((wipeE η [sk]).set sk (.d x)) = .ok x) (hl : a.length ≤ 16777216) :
    compE (iA (gv so)) (gN sk) (tb (e2 ninV' (gv sk) (gv sp))) (gv sk) [sk] η = .ok (.list ((a.filter (notIn b)).map PyData.int)) := by
  have ex : ((a.map PyData.int).filter fun d => match d with | .int i => notIn b i | _ => false).map id = (a.filter (notIn b)).map PyData.int := by
    rw [List.map_id, List.filter_map]
    rfl
  rw [← ex]
  refine compE_ok (xs := a.map PyData.int) (by rw [iA_def, h0]; rfl) (compD_filter (c := fun d => match d with | .int i => notIn b i | _ => false) (g := id) _ fun x m => ?_) ?_
  · obtain ⟨i, _, rfl⟩ := List.mem_map.mp m
    refine ⟨_, rfl, ?_, fun _ => ?_⟩
    · simp only [tb_def, e2_def, h1, h2, R.ok_bind, notin_tup, of_some, tru_bool]
    · simp only [h2]
      rfl
  · rw [List.length_map, lineN_eq]
    refine Nat.le_trans (List.length_filter_le _ _) ?_
    rw [List.length_map]
    exact hl
end Bd
/-! X0: the table of a set, laid anew: every slot is met, so each element finds room. -/
namespace Bd
open PySem L2

/-! ### the way through the slots -/
def lcg (m : Nat) : Nat → Nat → Nat
  | i, 0 => i
  | i, n + 1 => lcg m ((i * 5 + 1) % (m + 1)) n
def Msk (m : Nat) : Prop := m = 7 ∨ m = 15 ∨ m = 31 ∨ m = 63 ∨ m = 127 ∨ m = 255
theorem lcg_add (m : Nat) : ∀ (a b i : Nat), lcg m i (a + b) = lcg m (lcg m i a) b
  | 0, b, i => by rw [Nat.zero_add]; rfl
  | a + 1, b, i => by
    rw [Nat.add_right_comm]
    exact lcg_add m a b _
/-- the slots met, as bits -/
def orbF (m : Nat) : Nat → Nat → Nat → Nat
  | _, 0, acc => acc
  | i, n + 1, acc => orbF m ((i * 5 + 1) % (m + 1)) n (acc ||| 2 ^ i)
theorem orb_bits (m j : Nat) : ∀ (n i acc : Nat), (orbF m i n acc).testBit j = true → acc.testBit j = true ∨ ∃ k, k < n ∧ lcg m i k = j
  | 0, _, _, h => .inl h
  | n + 1, i, acc, h => by
    rcases orb_bits m j n _ _ h with h | ⟨k, hk, e⟩
    · rw [Nat.testBit_or, Bool.or_eq_true, Nat.testBit_two_pow, decide_eq_true_iff] at h
      rcases h with h | h
      · exact .inl h
      · exact .inr ⟨0, Nat.succ_pos n, h⟩
    · exact .inr ⟨k + 1, Nat.succ_lt_succ hk, e⟩
theorem orb_all {m : Nat} (h : Msk m) : orbF m 0 (m + 1) 0 = 2 ^ (m + 1) - 1 := by
  rcases h with rfl | rfl | rfl | rfl | rfl | rfl <;> decide +kernel
theorem orb_back {m : Nat} (h : Msk m) : lcg m 0 (m + 1) = 0 := by
  rcases h with rfl | rfl | rfl | rfl | rfl | rfl <;> decide +kernel
theorem orb_at {m j : Nat} (h : Msk m) (hj : j ≤ m) : ∃ n, n ≤ m ∧ lcg m 0 n = j := by
  have q := orb_bits m j (m + 1) 0 0 (by rw [orb_all h, Nat.testBit_two_pow_sub_one]; exact decide_eq_true (Nat.lt_succ_of_le hj))
  rw [Nat.zero_testBit] at q
  rcases q with q | ⟨k, hk, e⟩
  · cases q
  · exact ⟨k, Nat.le_of_lt_succ hk, e⟩
theorem lcg_meets {m i j : Nat} (h : Msk m) (hi : i ≤ m) (hj : j ≤ m) : ∃ n, n ≤ m ∧ lcg m i n = j := by
  obtain ⟨a, ha, ea⟩ := orb_at h hi
  obtain ⟨b, hb, eb⟩ := orb_at h hj
  by_cases q : a ≤ b
  · refine ⟨b - a, by omega, ?_⟩
    rw [← ea, ← lcg_add, Nat.add_sub_cancel' q, eb]
  · refine ⟨m + 1 + b - a, by omega, ?_⟩
    rw [← ea, ← lcg_add, show a + (m + 1 + b - a) = (m + 1) + b by omega, lcg_add, orb_back h, eb]
/-- the runs' first slots, with what is left of the hash -/
def lps (m : Nat) : Nat × Nat → Nat → Nat × Nat
  | s, 0 => s
  | s, n + 1 => lps m (SetTable.leap m s.1 s.2) n
theorem lps_add (m : Nat) : ∀ (a b : Nat) (s : Nat × Nat), lps m s (a + b) = lps m (lps m s a) b
  | 0, b, s => by rw [Nat.zero_add]; rfl
  | a + 1, b, s => by
    rw [Nat.add_right_comm]
    exact lps_add m a b _
theorem lps_two (m : Nat) : ∀ (n : Nat) (s : Nat × Nat), (lps m s n).2 = s.2 / 32 ^ n
  | 0, s => by rw [Nat.pow_zero, Nat.div_one]; rfl
  | n + 1, s => by
    refine (lps_two m n _).trans ?_
    show s.2 / 32 / 32 ^ n = _
    rw [Nat.div_div_eq_div_mul, Nat.pow_succ, Nat.mul_comm]
theorem lps_le (m : Nat) : ∀ (n : Nat) (s : Nat × Nat), s.1 ≤ m → (lps m s n).1 ≤ m
  | 0, s, h => h
  | n + 1, s, _ => lps_le m n _ (Nat.le_of_lt_succ (Nat.mod_lt _ (Nat.succ_pos m)))
theorem lps_zero (m : Nat) : ∀ (n i : Nat), (lps m (i, 0) n).1 = lcg m i n
  | 0, _ => rfl
  | n + 1, i => by
    have e : SetTable.leap m i 0 = ((i * 5 + 1) % (m + 1), 0) := by
      unfold SetTable.leap
      simp
    show (lps m (SetTable.leap m i 0) n).1 = lcg m ((i * 5 + 1) % (m + 1)) n
    rw [e]
    exact lps_zero m n _
theorem lps_meets {m i p j : Nat} (h : Msk m) (hi : i ≤ m) (hp : p < 2 ^ 64) (hj : j ≤ m) : ∃ n, n < SetTable.turns m ∧ (lps m (i, p) n).1 = j := by
  have z : (lps m (i, p) 13).2 = 0 := by
    rw [lps_two]
    exact Nat.div_eq_of_lt (Nat.lt_of_lt_of_le hp (by decide))
  obtain ⟨n, hn, e⟩ := lcg_meets h (lps_le m 13 (i, p) hi) hj
  refine ⟨13 + n, by unfold SetTable.turns; omega, ?_⟩
  have e2 : lps m (i, p) 13 = ((lps m (i, p) 13).1, 0) := Prod.ext rfl z
  rw [lps_add, e2, lps_zero]
  exact e

/-! ### a free slot is found -/
abbrev sitAt (owner : Array (Option Nat)) (j : Nat) : Option Nat := owner.getD j (some 0)
theorem run_ge (m i : Nat) : i ≤ SetTable.runEnd m i := by
  unfold SetTable.runEnd
  split <;> omega
theorem free_some (m : Nat) (owner : Array (Option Nat)) : ∀ (n fuel i p : Nat), n < fuel → sitAt owner (lps m (i, p) n).1 = none → ∃ j, SetTable.layClean.free m owner fuel i p = some j ∧ sitAt owner j = none
  | _, 0, _, _, h, _ => absurd h (Nat.not_lt_zero _)
  | n, fuel + 1, i, p, h, q => by
    have u : SetTable.layClean.free m owner (fuel + 1) i p = (match (List.range (SetTable.runEnd m i + 1 - i)).find? fun k => (sitAt owner (i + k)).isNone with
      | some k => some (i + k)
      | none => SetTable.layClean.free m owner fuel (SetTable.leap m i p).1 (SetTable.leap m i p).2) := rfl
    rw [u]
    cases c : (List.range (SetTable.runEnd m i + 1 - i)).find? fun k => (sitAt owner (i + k)).isNone with
    | some k =>
      refine ⟨i + k, rfl, ?_⟩
      have t := List.find?_some c
      exact Option.isNone_iff_eq_none.mp t
    | none =>
      cases n with
      | zero =>
        have t := List.find?_eq_none.mp c 0 (List.mem_range.mpr (by have := run_ge m i; omega))
        have q' : sitAt owner i = none := q
        rw [Nat.add_zero, q'] at t
        exact absurd rfl t
      | succ n => exact free_some m owner n fuel _ _ (Nat.lt_of_succ_lt_succ h) q

/-! ### the elements, one after another -/
structure Sits (m k : Nat) (owner : Array (Option Nat)) : Prop where
  sz : owner.size = m + 1
  pm : (owner.toList.filterMap id).Perm (List.range k)
theorem sits_0 (m : Nat) : Sits m 0 (Array.replicate (m + 1) none) := by
  refine ⟨by simp, ?_⟩
  have e : ((Array.replicate (m + 1) (none : Option Nat)).toList.filterMap id) = [] := by
    rw [Array.toList_replicate, List.filterMap_eq_nil_iff]
    intro a ha
    exact (List.eq_of_mem_replicate ha)
  rw [e]
  exact List.Perm.refl _
theorem fm_full : ∀ (l : List (Option Nat)), (∀ x ∈ l, x ≠ none) → (l.filterMap id).length = l.length
  | [], _ => rfl
  | none :: l, h => absurd rfl (h none List.mem_cons_self)
  | some k :: l, h => by
    show (l.filterMap id).length + 1 = l.length + 1
    rw [fm_full l fun x hx => h x (List.mem_cons_of_mem _ hx)]
theorem sits_room {m k : Nat} {owner : Array (Option Nat)} (W : Sits m k owner) (hk : k ≤ m) : ∃ j, j ≤ m ∧ sitAt owner j = none := by
  apply Classical.byContradiction
  intro no
  have full : ∀ x ∈ owner.toList, x ≠ none := fun x hx z => by
    obtain ⟨j, hj, e⟩ := List.mem_iff_getElem.mp hx
    have hj' : j < owner.size := hj
    refine no ⟨j, by rw [W.sz] at hj'; omega, ?_⟩
    show owner.getD j (some 0) = none
    rw [Array.getD_eq_getD_getElem?, Array.getElem?_eq_getElem hj']
    exact e.trans z
  have a := fm_full _ full
  rw [W.pm.length_eq, List.length_range, Array.length_toList, W.sz] at a
  omega
theorem fm_set : ∀ (l : List (Option Nat)) (j k : Nat), l[j]? = some none → ((l.set j (some k)).filterMap id).Perm (k :: l.filterMap id)
  | [], _, _, h => by cases h
  | x :: l, 0, k, h => by
    have e : x = none := Option.some.inj h
    subst e
    exact List.Perm.refl _
  | none :: l, j + 1, k, h => fm_set l j k h
  | some x :: l, j + 1, k, h => by
    show (x :: ((l.set j (some k)).filterMap id)).Perm (k :: x :: l.filterMap id)
    exact ((fm_set l j k h).cons x).trans (List.Perm.swap k x _)
theorem sits_put {m k j : Nat} {owner : Array (Option Nat)} (W : Sits m k owner) (h : sitAt owner j = none) : Sits m (k + 1) (owner.setIfInBounds j (some k)) := by
  refine ⟨by rw [Array.size_setIfInBounds]; exact W.sz, ?_⟩
  rw [Array.toList_setIfInBounds, List.range_succ]
  have e : owner.toList[j]? = some none := by
    have h' : owner.getD j (some 0) = none := h
    rw [Array.getD_eq_getD_getElem?] at h'
    rw [Array.getElem?_toList]
    cases c : owner[j]? with
    | none => rw [c] at h'; cases h'
    | some x =>
      rw [c] at h'
      exact congrArg some h'
  exact ((fm_set _ j k e).trans (W.pm.cons k)).trans (List.perm_append_singleton k _).symm
def layStep (m : Nat) (acc : Option (Array (Option Nat) × Nat)) (h : Int) : Option (Array (Option Nat) × Nat) :=
  acc.bind fun q => (SetTable.layClean.free m q.1 (SetTable.turns m) (SetTable.bits h % (m + 1)) (SetTable.bits h)).bind fun j => some (q.1.setIfInBounds j (some q.2), q.2 + 1)
theorem lay_fold (m : Nat) (hs : Array Int) : SetTable.layClean m hs = (hs.toList.foldl (layStep m) (some (Array.replicate (m + 1) none, 0))).map (·.1) := by
  unfold SetTable.layClean
  rw [← Array.foldl_toList]
  rfl
theorem bits_lt (h : Int) : SetTable.bits h < 2 ^ 64 := by
  unfold SetTable.bits
  omega
theorem lay_ok {m : Nat} (hm : Msk m) : ∀ (hs : List Int) (k : Nat) (owner : Array (Option Nat)), Sits m k owner → k + hs.length ≤ m →
    ∃ owner', hs.foldl (layStep m) (some (owner, k)) = some (owner', k + hs.length) ∧ Sits m (k + hs.length) owner'
  | [], k, owner, W, _ => ⟨owner, rfl, W⟩
  | h :: hs, k, owner, W, hl => by
    rw [List.length_cons] at hl ⊢
    obtain ⟨j0, a, b⟩ := sits_room W (by omega)
    obtain ⟨n, hn, e⟩ := lps_meets (i := SetTable.bits h % (m + 1)) hm (Nat.le_of_lt_succ (Nat.mod_lt _ (Nat.succ_pos m))) (bits_lt h) a
    obtain ⟨j, f, g⟩ := free_some m owner n (SetTable.turns m) (SetTable.bits h % (m + 1)) (SetTable.bits h) hn (by rw [e]; exact b)
    obtain ⟨o', r1, r2⟩ := lay_ok hm hs (k + 1) _ (sits_put W g) (by omega)
    refine ⟨o', ?_, by rw [show k + (hs.length + 1) = k + 1 + hs.length by omega]; exact r2⟩
    rw [List.foldl_cons]
    have s : layStep m (some (owner, k)) h = some (owner.setIfInBounds j (some k), k + 1) := by
      show (SetTable.layClean.free m owner (SetTable.turns m) (SetTable.bits h % (m + 1)) (SetTable.bits h)).bind _ = _
      rw [f]
      rfl
    rw [s, r1, show k + (hs.length + 1) = k + 1 + hs.length by omega]
theorem live_two (owner : Array (Option Nat)) : ∀ (l : List Nat), ((l.filterMap fun j => (owner.getD j none).map (j, ·)).map (·.2)) = (l.map fun j => owner.getD j none).filterMap id
  | [] => rfl
  | j :: l => by
    have ih := live_two owner l
    cases c : owner.getD j none with
    | none =>
      rw [List.filterMap_cons_none (by rw [c]; rfl), List.map_cons, List.filterMap_cons_none (by rw [c]; rfl)]
      exact ih
    | some k =>
      rw [List.filterMap_cons_some (b := (j, k)) (by rw [c]; rfl), List.map_cons, List.map_cons, List.filterMap_cons_some (b := k) (by rw [c]; rfl), ih]
theorem all_slots {owner : Array (Option Nat)} {m : Nat} (h : owner.size = m + 1) : ((List.range (m + 1)).map fun j => owner.getD j none) = owner.toList := by
  apply List.ext_getElem?
  intro i
  rw [List.getElem?_map, show owner.toList[i]? = owner[i]? from Array.getElem?_toList]
  by_cases q : i < m + 1
  · rw [List.getElem?_range q, Array.getElem?_eq_getElem (show i < owner.size by omega)]
    show some (owner.getD i none) = _
    rw [Array.getD_eq_getD_getElem?, Array.getElem?_eq_getElem (show i < owner.size by omega)]
    rfl
  · rw [List.getElem?_eq_none (show (List.range (m + 1)).length ≤ i by rw [List.length_range]; omega), Array.getElem?_eq_none (show owner.size ≤ i by omega)]
    rfl
/-- THE TABLE, laid anew, holds all -/
theorem laid_ok {m : Nat} (hm : Msk m) (fi mo : Nat) (le pl : Bool) (hs : Array Int) (hn : hs.size ≤ m) :
    ∃ t order, SetTable.laid m fi mo le pl hs = some (t, order) ∧ order.toList.Perm (List.range hs.size) ∧ Ris t.place.toList ∧ t.place.size = hs.size ∧ t.fill ≤ t.mask ∧ t.led = le := by
  obtain ⟨owner, f, W⟩ := lay_ok hm hs.toList 0 _ (sits_0 m) (by rw [Array.length_toList]; omega)
  rw [Nat.zero_add, Array.length_toList] at f W
  have lc : SetTable.layClean m hs = some owner := by rw [lay_fold, f]; rfl
  refine ⟨{ mask := m, place := (((List.range (m + 1)).filterMap fun j => (owner.getD j none).map (j, ·)).map (·.1)).toArray, dummies := #[], finger := fi, led := le, moves := mo, plain := pl }, (((List.range (m + 1)).filterMap fun j => (owner.getD j none).map (j, ·)).map (·.2)).toArray, ?_, ?_, ?_, ?_, ?_, rfl⟩
  · unfold SetTable.laid
    rw [lc]
    rfl
  · show (((List.range (m + 1)).filterMap fun j => (owner.getD j none).map (j, ·)).map (·.2)).Perm _
    rw [live_two, all_slots W.sz]
    exact W.pm
  · exact (ris_live (fun j => owner.getD j none) (List.range (m + 1)) List.pairwise_lt_range).1
  · rw [List.size_toArray, List.length_map, ← List.length_map (f := fun q : Nat × Nat => q.2), live_two, all_slots W.sz, W.pm.length_eq, List.length_range]
  · show (((List.range (m + 1)).filterMap fun j => (owner.getD j none).map (j, ·)).map (·.1)).toArray.size + 0 ≤ m
    rw [List.size_toArray, List.length_map, ← List.length_map (f := fun q : Nat × Nat => q.2), live_two, all_slots W.sz, W.pm.length_eq, List.length_range]
    omega
theorem pick_list {α : Type} : ∀ l : List α, (List.range l.length).filterMap (fun i => l[i]?) = l
  | [] => rfl
  | a :: l => by
    rw [List.length_cons, List.range_succ_eq_map]
    show a :: ((List.range l.length).map Nat.succ).filterMap (fun i => (a :: l)[i]?) = a :: l
    rw [List.filterMap_map]
    exact congrArg (a :: ·) (pick_list l)
theorem pick_all {α : Type} (es : Array α) (order : Array Nat) (h : order.toList.Perm (List.range es.size)) : ((order.filterMap (es[·]?)).toList).Perm es.toList := by
  rw [Array.toList_filterMap]
  refine (h.filterMap _).trans ?_
  have e : (fun i => es[i]?) = fun i => es.toList[i]? := funext fun i => (Array.getElem?_toList).symm
  rw [e, show es.size = es.toList.length from rfl, pick_list]
theorem sizeAbove_msk {n : Nat} (h : n < 256) : Msk (SetTable.sizeAbove n - 1) ∧ n < SetTable.sizeAbove n := by
  have k : ∀ n, n < 256 → (SetTable.sizeAbove n - 1 = 7 ∨ SetTable.sizeAbove n - 1 = 15 ∨ SetTable.sizeAbove n - 1 = 31 ∨ SetTable.sizeAbove n - 1 = 63 ∨ SetTable.sizeAbove n - 1 = 127 ∨ SetTable.sizeAbove n - 1 = 255) ∧ n < SetTable.sizeAbove n := by decide +kernel
  exact k n h
end Bd
/-! X1: s ^ t of two sets of ints. -/
namespace Bd
open PySem L2 PySem.Spec PyProof.Rows

/-- the set at a as it stands: its parts -/
structure SetS (w : World) (h : Heap) (a : Addr) (o : Obj) (es : Array (Int × Value)) (ep : Nat) (t : SetTable) : Prop where
  ob : h.get? a = some o
  ex : o.ExactSet
  da : o.data = .set es ep t
  gd : ∀ e ∈ es.toList, GoodE e
  nd : (es.toList.map keyOf).Nodup
  sb : es.size < scanBound
  ft : t.fits es.size = true
  ri : Ris t.place.toList
  ld : w.params.followText "set-order" = true ∨ t.led = true
/-- its members -/
def mem (es : Array (Int × Value)) (k : Int) : Bool := decide (k ∈ es.toList.map keyOf)
section
variable {P : Program} {w : World} {A : Around} {E : Value → Shared → Prop} {s : Shared} {a f : Addr} {o og : Obj} {es ef : Array (Int × Value)} {ep epf : Nat} {t tf : SetTable}
theorem SetS.r (R : SetS w s.heap a o es ep t) {S : Int → Bool} (hS : ∀ k, S k = mem es k) : SetR w s.heap a S es.size :=
  ⟨o, es, ep, t, R.ob, R.ex, R.da, R.gd, R.nd, fun k => by rw [hS]; exact decide_eq_true_iff, R.sb, R.ft, rfl, R.ri, R.ld⟩
theorem SetS.of {S : Int → Bool} {n : Nat} {h : Heap} (R : SetR w h a S n) : ∃ o es ep t, SetS w h a o es ep t ∧ es.size = n ∧ ∀ k, S k = mem es k := by
  obtain ⟨o, es, ep, t, h1, h2, h3, h4, h5, h6, h7, h8, h9, h10, h11⟩ := R
  refine ⟨o, es, ep, t, ⟨h1, h2, h3, h4, h5, h7, h8, h10, h11⟩, h9, fun k => ?_⟩
  rw [Bool.eq_iff_iff, h6 k]
  exact decide_eq_true_iff.symm
theorem SetS.at (R : SetS w s.heap a o es ep t) {h : Heap} (e : h.get? a = s.heap.get? a) : SetS w h a o es ep t := { R with ob := e.trans R.ob }
theorem SetS.lt (R : SetS w s.heap a o es ep t) : a < s.heap.objs.size := Heap.lt_size R.ob
theorem SetS.ty (R : SetS w s.heap a o es ep t) : s.TypeIs (.ref a) "set" := ⟨o, R.ob, R.ex.1⟩

/-! ### one taken out -/
theorem erase_list {α : Type} (xs : Array α) (p : Nat) : (SetTable.eraseAt xs p).toList = xs.toList.eraseIdx p := by
  unfold SetTable.eraseAt
  rw [Array.toList_append, Array.toList_extract, Array.toList_extract, List.eraseIdx_eq_take_drop_succ]
  simp
  rw [List.take_of_length_le]
  rw [List.length_drop, Array.length_toList]
  exact Nat.le_refl _
theorem insert_size {α : Type} (xs : Array α) (p : Nat) (x : α) : (SetTable.insertAt xs p x).size = xs.size + 1 := by
  unfold SetTable.insertAt
  simp
  omega
theorem ris_erase {l : List Nat} (r : Ris l) (p : Nat) : Ris (l.eraseIdx p) := List.Pairwise.sublist (List.eraseIdx_sublist l p) r
theorem fits_iff {t : SetTable} {n : Nat} : t.fits n = true ↔ t.place.size = n ∧ t.fill ≤ t.mask := by
  unfold SetTable.fits
  rw [Bool.and_eq_true, beq_iff_eq, decide_eq_true_iff]
theorem drop_facts {t : SetTable} {n i : Nat} (hf : t.fits n = true) (hi : i < n) : (t.drop i).fits (n - 1) = true ∧ (t.drop i).place.toList = t.place.toList.eraseIdx i ∧ (t.drop i).led = t.led := by
  obtain ⟨h1, h2⟩ := fits_iff.mp hf
  have hp : t.place[i]? = some t.place[i] := Array.getElem?_eq_getElem (by omega)
  unfold SetTable.drop
  rw [hp]
  refine ⟨fits_iff.mpr ⟨?_, ?_⟩, erase_list _ _, rfl⟩
  · show (SetTable.eraseAt t.place i).size = n - 1
    rw [← Array.length_toList, erase_list, List.length_eraseIdx, Array.length_toList, if_pos (by omega), h1]
  · show (SetTable.eraseAt t.place i).size + (SetTable.insertAt t.dummies _ _).size ≤ t.mask
    have h2' : t.place.size + t.dummies.size ≤ t.mask := h2
    rw [insert_size, ← Array.length_toList, erase_list, List.length_eraseIdx, Array.length_toList, if_pos (by omega)]
    omega
theorem key_uniq {l : List (Int × Value)} (nd : (l.map keyOf).Nodup) {i : Nat} {e : Int × Value} (h : l[i]? = some e) (k : Int) : k ∈ (l.eraseIdx i).map keyOf ↔ k ∈ l.map keyOf ∧ k ≠ keyOf e := by
  have p := erase_perm l i e h
  have q := (p.map keyOf).mem_iff (a := k)
  have nd2 : (keyOf e :: (l.eraseIdx i).map keyOf).Nodup := (p.map keyOf).nodup_iff.mpr nd
  have n3 := (List.nodup_cons.mp nd2).1
  rw [List.map_cons, List.mem_cons] at q
  constructor
  · intro z
    exact ⟨q.mp (.inr z), fun y => n3 (y ▸ z)⟩
  · rintro ⟨z, y⟩
    exact (q.mpr z).resolve_left y
theorem setS_discard {k : Int} {tk : Tok} {Q : Bool → Shared → Prop} (R : SetS w s.heap a o es ep t)
    (hQ : ∀ h' o' es' ep' t', Heap.SameBut a s.heap h' → SetS w h' a o' es' ep' t' → (∀ j, mem es' j = (mem es j && !decide (j = k))) → es'.size ≤ es.size → Q (mem es k) { s with heap := h' }) :
    wpAny (model P w) A (setDiscardHashed a (.int k tk) ((intKind P w).hash k)) Q E s := by
  have hel : ElemsOf (intKind P w) es.toList := good_elems R.gd
  have sc : (Value.int k tk).scannable = true := rfl
  unfold setDiscardHashed
  refine wpAny_bind ?_
  unfold setFind setFindIn
  refine wpAny_bind (wpAny_setState_of R.ob R.da R.ft ?_)
  dsimp only
  rw [byScan_of sc R.sb hel]
  simp only [↓reduceIte]
  refine wpAny_bind (wpAny_rule (wpAny_bind (wpAny_setScan_of (intKind_is P w k tk) R.ob R.da R.ft hel ?_)))
  cases c : List.findIdx? (fun e => (intKind P w).is k e.2) es.toList with
  | none =>
    have no : mem es k = false := by
      unfold mem
      refine decide_eq_false fun z => ?_
      obtain ⟨e, he, q⟩ := (good_mem (P := P) (w := w) R.gd k).1 z
      have := List.findIdx?_eq_none_iff.mp c e he
      rw [q] at this
      cases this
    dsimp only
    refine wpAny_pure (wpAny_pure ?_)
    have q := hQ s.heap o es ep t (Heap.SameBut.refl a s.heap) R (fun j => by
      by_cases z : j = k
      · subst z; rw [no]; rfl
      · rw [decide_eq_false z]; simp) (Nat.le_refl _)
    rw [no] at q
    exact q
  | some j =>
    obtain ⟨hj, pj, _⟩ := List.findIdx?_eq_some_iff_getElem.mp c
    have gj := R.gd _ (List.getElem_mem hj)
    have kj : keyOf es.toList[j] = k := (good_is (P := P) (w := w) gj k).1 pj
    have yes : mem es k = true := decide_eq_true (List.mem_map.mpr ⟨_, List.getElem_mem hj, kj⟩)
    have hj' : j < es.size := hj
    obtain ⟨f1, f2, f3⟩ := drop_facts R.ft hj'
    dsimp only
    rw [Nat.zero_add]
    refine wpAny_pure ?_
    dsimp only
    refine wpAny_bind (wpAny_setState_of R.ob R.da R.ft ?_)
    dsimp only
    have el := erase_list es j
    have sz : (SetTable.eraseAt es j).size = es.size - 1 := by
      rw [← Array.length_toList, el, List.length_eraseIdx, if_pos hj, Array.length_toList]
    have lt' : (SetTable.eraseAt es j).size < scanBound := by
      have := R.sb
      omega
    refine wpAny_bind (wpAny_storeSet_of R.ob R.da ?_ (fits_of_scanBound lt'))
    refine wpAny_bind (wpAny_point (wpAny_pure ?_))
    have q := hQ _ _ (SetTable.eraseAt es j) _ (t.drop j) (Heap.SameBut.update s.heap a (Obj.putSet (SetTable.eraseAt es j) (t.drop j)))
      ⟨store_at (es' := SetTable.eraseAt es j) (t' := t.drop j) R.ob R.da, R.ex, rfl, fun e he => R.gd e (List.mem_of_mem_eraseIdx (by rw [el] at he; exact he)),
        by rw [el]; exact List.Pairwise.sublist ((List.eraseIdx_sublist _ _).map keyOf) R.nd, lt', by rw [sz]; exact f1, by rw [f2]; exact ris_erase R.ri j, R.ld.imp id fun z => by rw [f3]; exact z⟩
      (fun i => by
        unfold mem
        rw [el, Bool.eq_iff_iff, decide_eq_true_iff, key_uniq R.nd (List.getElem?_eq_getElem hj) i, kj]
        simp) (by omega)
    rw [yes] at q
    exact q
theorem setS_add {k : Int} {tk : Tok} {Q : Bool → Shared → Prop} (R : SetS w s.heap a o es ep t) (room : es.size + 1 < scanBound)
    (hQ : ∀ b h' o' es' ep' t', Heap.SameBut a s.heap h' → SetS w h' a o' es' ep' t' → (∀ j, mem es' j = (mem es j || decide (j = k))) → es'.size ≤ es.size + 1 → Q b { s with heap := h' }) :
    wpAny (model P w) A (setAddHashed a (.int k tk) ((intKind P w).hash k)) Q E s := by
  refine setR_add_hashed (R.r (S := mem es) fun _ => rfl) room fun h' sb R' => ?_
  obtain ⟨o', es', ep', t', R2, z, m⟩ := SetS.of R'
  refine hQ _ h' o' es' ep' t' sb R2 (fun j => (m j).symm) ?_
  rw [z]
  split <;> omega

/-! ### the walk over one set while another one is filled -/
theorem wk_walk {Q : Array (Int × Value) → Shared → Prop} (R : SetS w s.heap a o es ep t)
    (hQ : ∀ out d, out.toList.Perm es.toList → Q out { s with drawn := d }) : wpAny (model P w) A (setWalk a) Q E s := by
  unfold setWalk
  refine wpAny_bind (wpAny_setState_of R.ob R.da R.ft ?_)
  dsimp only
  refine wpAny_bind (wpAny_byText ?_)
  by_cases bt : w.params.followText "set-order" = true
  · refine wp_if_pos bt ?_
    exact wpAny_bind (wpAny_askSetting (wpAny_pure (hQ _ s.drawn (pick_perm _ _))))
  · refine wp_if_neg bt ?_
    try refine wpAny_bind (wpAny_pure ?_)
    by_cases dr : (!t.plain && decide (es.size > 1)) = true
    · refine wp_if_pos dr ?_
      exact wpAny_bind (drawOrder_at _ _ _ _ (Nat.le_of_eq Array.length_toList) fun ys d p => wpAny_pure (hQ _ d p))
    · refine wp_if_neg dr ?_
      try refine wpAny_bind (wpAny_pure ?_)
      refine wpAny_bind (wpAny_of_eq (a := ()) ?_ (wpAny_pure (hQ _ s.drawn (List.Perm.refl _))))
      show (if (!t.led && decide (es.size > 1)) = true then unsupported "set:maker-not-led" else pure ()) = pure ()
      rw [R.ld.resolve_left bt]
      rfl
theorem quiet_ints {Q : Bool → Shared → Prop} (R : SetS w s.heap a o es ep t) (R2 : SetS w s.heap f og ef epf tf) (h : Q true s) : wpAny (model P w) A (setsQuiet [a, f]) Q E s := by
  have one : ∀ {b : Addr} {ob : Obj} {eb : Array (Int × Value)} {epb : Nat} {tb : SetTable} {Q' : Array (Int × Value) → Shared → Prop}, SetS w s.heap b ob eb epb tb → Q' eb s → wpAny (model P w) A (setEntries b) Q' E s := fun R q => by
    unfold setEntries
    exact wpAny_bind (wpAny_setState_of R.ob R.da R.ft (wpAny_pure q))
  unfold setsQuiet
  refine wpAny_bind (wpAny_forIn_list _ (fun l r s' => (l = [a, f] ∨ l = [f] ∨ l = []) ∧ s' = s ∧ r.1 = none) _ ?_ ?_ _ _ ⟨.inl rfl, rfl, rfl⟩)
  · rintro b rest r s' ⟨hl, rfl, hr⟩
    have k : ∃ ob eb epb tb, SetS w s'.heap b ob eb epb tb ∧ (rest = [f] ∨ rest = []) := by
      rcases hl with hl | hl | hl
      · obtain ⟨rfl, rfl⟩ := List.cons.inj hl
        exact ⟨_, _, _, _, R, .inl rfl⟩
      · obtain ⟨rfl, rfl⟩ := List.cons.inj hl
        exact ⟨_, _, _, _, R2, .inr rfl⟩
      · cases hl
    obtain ⟨ob, eb, epb, tb, Rb, hrest⟩ := k
    refine wpAny_bind (one Rb ?_)
    refine wpAny_bind (wpAny_forIn_array' _ (fun l r s'' => (∀ e ∈ l, GoodE e) ∧ s'' = s' ∧ r.1 = none) _ ?_ ?_ _ _ ⟨Rb.gd, rfl, rfl⟩)
    · rintro ⟨hh, x⟩ rest r s'' ⟨g, rfl, hr⟩
      obtain ⟨k, tk, h1, _⟩ := g _ List.mem_cons_self
      simp only at h1
      subst h1
      exact wpAny_pure ⟨fun e he => g e (List.mem_cons_of_mem _ he), rfl, rfl⟩
    · rintro ⟨r1, r2⟩ s'' ⟨_, rfl, hr⟩
      simp only at hr
      subst hr
      exact wpAny_pure ⟨.inr hrest, rfl, rfl⟩
  · rintro ⟨r1, r2⟩ s' ⟨_, rfl, hr⟩
    simp only at hr
    subst hr
    exact wpAny_pure h
theorem wk_unseen {Q : Array (Int × Value) → Shared → Prop} (R : SetS w s.heap a o es ep t) (R2 : SetS w s.heap f og ef epf tf) (hne : a ≠ f)
    (hQ : ∀ out d h' og' epf' tf', out.toList.Perm es.toList → Heap.SameBut f s.heap h' → SetS w h' f og' ef epf' tf' → Q out { s with heap := h', drawn := d }) :
    wpAny (model P w) A (setWalkUnseen a [f] (some f)) Q E s := by
  have straight : wpAny (model P w) A (setWalk a) Q E s := wk_walk R fun out d p => hQ out d s.heap og epf tf p (Heap.SameBut.refl f s.heap) R2
  unfold setWalkUnseen
  refine wpAny_bind (wpAny_setState_of R.ob R.da R.ft ?_)
  dsimp only
  refine wpAny_bind (wpAny_byText ?_)
  by_cases c : (w.params.followText "set-order" || (t.led && t.plain) || decide (es.size ≤ 1)) = true
  · exact wp_if_pos c straight
  · refine wp_if_neg c ?_
    try refine wpAny_bind (wpAny_pure ?_)
    refine wpAny_bind (quiet_ints R R2 ?_)
    refine wp_if_neg (by simp) ?_
    try refine wpAny_bind (wpAny_pure ?_)
    refine wpAny_bind (wpAny_rule ?_)
    refine wpAny_bind (m := setState f) (wpAny_setState_of R2.ob R2.da R2.ft ?_)
    dsimp only
    by_cases d : ((tf.led && !t.led) || (tf.plain && !t.plain)) = true
    · refine wp_if_pos d ?_
      refine wpAny_bind (wpAny_storeSet_of R2.ob R2.da ?_ (fits_of_scanBound R2.sb))
      refine wpAny_pure ?_
      refine hQ es s.drawn _ _ _ _ (List.Perm.refl _) (Heap.SameBut.update s.heap f _) ⟨store_at R2.ob R2.da, R2.ex, rfl, R2.gd, R2.nd, R2.sb, R2.ft, R2.ri, ?_⟩
      rcases R2.ld with z | z
      · exact .inl z
      · rcases R.ld with y | y
        · exact .inl y
        · exact .inr (by show (tf.led && t.led) = true; rw [z, y]; rfl)
    · refine wp_if_neg d ?_
      try refine wpAny_bind (wpAny_pure ?_)
      exact wpAny_pure (hQ es s.drawn s.heap _ _ _ (List.Perm.refl _) (Heap.SameBut.refl f s.heap) R2)
end
end Bd
/-! X2: s ^ t of two sets of ints: the copy of the one, the other's members turned. -/
namespace Bd
open PySem L2 PySem.Spec PyProof.Rows

section
variable {P : Program} {w : World} {A : Around} {E : Value → Shared → Prop} {s : Shared} {a f : Addr} {o og : Obj} {es ef : Array (Int × Value)} {ep epf : Nat} {t tf : SetTable}

theorem is_set {Q : Bool → Shared → Prop} (R : SetS w s.heap a o es ep t) (h : Q true s) : wpAny (model P w) A (Builtin.Frozenset.isAnySet (.ref a)) Q E s := by
  unfold Builtin.Frozenset.isAnySet orM
  refine wpAny_bind (wpAny_isInstance R.ty sub_set_self ?_)
  exact wpAny_pure h
theorem at_epoch {Q : Nat → Shared → Prop} (R : SetS w s.heap a o es ep t) (h : Q ep s) : wpAny (model P w) A (setEpoch a) Q E s := by
  unfold setEpoch
  exact wpAny_bind (wpAny_setState_of R.ob R.da R.ft (wpAny_pure h))
theorem no_change {id : String} {Q : Unit → Shared → Prop} (R : SetS w s.heap a o es ep t) (h : Q () s) : wpAny (model P w) A (Builtin.Frozenset.unchanged id a ep) Q E s := by
  unfold Builtin.Frozenset.unchanged
  refine wpAny_bind (at_epoch R ?_)
  refine wp_if_neg (by simp) ?_
  exact wpAny_pure h
/-- the elements in a new order -/
def reord (es : Array (Int × Value)) (laid : Option (SetTable × Array Nat)) : Sem (Array (Int × Value) × SetTable) := do
  let some (t, order) := laid | unsupported "internal:set-table-without-room"
  let es' := order.filterMap (es[·]?)
  if es'.size != es.size then unsupported "internal:set-table-lost-an-element"
  pure (es', t)
theorem reord_ok {m : Nat} (hm : Msk m) (fi mo : Nat) (le pl : Bool) (hn : es.size ≤ m) {Q : Array (Int × Value) × SetTable → Shared → Prop}
    (h : ∀ es' t', es'.toList.Perm es.toList → t'.fits es'.size = true → Ris t'.place.toList → t'.led = le → Q (es', t') s) :
    wpAny (model P w) A (reord es (SetTable.laid m fi mo le pl (es.map (·.1)))) Q E s := by
  obtain ⟨t', order, e, p, r, z, fl, l⟩ := laid_ok hm fi mo le pl (es.map (·.1)) (by rw [Array.size_map]; exact hn)
  rw [Array.size_map] at p z
  have q := pick_all es order p
  have sz : (order.filterMap (es[·]?)).size = es.size := by
    have := q.length_eq
    rw [Array.length_toList, Array.length_toList] at this
    exact this
  unfold reord
  rw [e]
  dsimp only
  refine wp_if_neg (by rw [sz]; simp) ?_
  try refine wpAny_bind (wpAny_pure ?_)
  exact wpAny_pure (h _ t' q (fits_iff.mpr ⟨by rw [z, sz], fl⟩) r l)
theorem perm_facts {es es' : Array (Int × Value)} (p : es'.toList.Perm es.toList) (R : SetS w s.heap a o es ep t) :
    (∀ e ∈ es'.toList, GoodE e) ∧ (es'.toList.map keyOf).Nodup ∧ es'.size < scanBound ∧ ∀ j, mem es' j = mem es j := by
  refine ⟨fun e he => R.gd e (p.mem_iff.mp he), (p.map keyOf).nodup_iff.mpr R.nd, ?_, fun j => ?_⟩
  · have := p.length_eq
    rw [Array.length_toList, Array.length_toList] at this
    rw [this]
    exact R.sb
  · unfold mem
    rw [Bool.eq_iff_iff, decide_eq_true_iff, decide_eq_true_iff, (p.map keyOf).mem_iff]

/-- room in an empty set -/
theorem room_0 {Q : Unit → Shared → Prop} {n : Nat} (hn : n < 128) {led : Bool} (R : SetS w s.heap f og #[] epf (.fresh 0 0 led))
    (hQ : ∀ h' og' epf' tf', Heap.SameBut f s.heap h' → SetS w h' f og' #[] epf' tf' → tf'.fill = 0 → Msk tf'.mask → n ≤ tf'.mask → tf'.led = led → Q () { s with heap := h' }) :
    wpAny (model P w) A (setRoomFor f n) Q E s := by
  unfold setRoomFor
  refine wpAny_bind (wpAny_setState_of R.ob R.da R.ft ?_)
  dsimp only
  by_cases c : (0 + n) * 5 ≥ 7 * 3
  · have e : (SetTable.fresh 0 0 led).roomFor n = some ((0 + n) * 2) := by
      unfold SetTable.roomFor
      exact if_pos c
    rw [e]
    dsimp only
    obtain ⟨m1, m2⟩ := sizeAbove_msk (n := (0 + n) * 2) (by omega)
    unfold setRelay
    refine wpAny_bind (wpAny_setState_of R.ob R.da R.ft ?_)
    dsimp only
    refine wp_if_neg ?_ ?_
    · have : SetTable.sizeAbove ((0 + n) * 2) ≤ 256 := by
        rcases m1 with m1 | m1 | m1 | m1 | m1 | m1 <;> omega
      rw [sizeLine_eq]
      omega
    try refine wpAny_bind (wpAny_pure ?_)
    refine wpAny_bind (m := reord #[] (SetTable.laid (SetTable.sizeAbove ((0 + n) * 2) - 1) 0 ((SetTable.fresh 0 0 led).movedTo (SetTable.sizeAbove ((0 + n) * 2) - 1)) led true ((#[] : Array (Int × Value)).map (·.1)))) ?_
    obtain ⟨t', order, e, p, r, z, fl, l⟩ := laid_ok m1 0 ((SetTable.fresh 0 0 led).movedTo (SetTable.sizeAbove ((0 + n) * 2) - 1)) led true ((#[] : Array (Int × Value)).map (·.1)) (by simp)
    have mk : t'.mask = SetTable.sizeAbove ((0 + n) * 2) - 1 ∧ t'.dummies = #[] := by
      unfold SetTable.laid at e
      cases q : SetTable.layClean (SetTable.sizeAbove ((0 + n) * 2) - 1) ((#[] : Array (Int × Value)).map (·.1)) with
      | none => rw [q] at e; cases e
      | some ow =>
        rw [q] at e
        have e' := (Prod.mk.inj (Option.some.inj e)).1
        rw [← e']
        exact ⟨rfl, rfl⟩
    have or0 : order = #[] := by
      have := p.length_eq
      rw [List.length_range, Array.size_map, Array.length_toList] at this
      exact Array.eq_empty_of_size_eq_zero this
    subst or0
    unfold reord
    rw [e]
    dsimp only
    refine wp_if_neg (by simp) ?_
    try refine wpAny_bind (wpAny_pure ?_)
    refine wpAny_pure ?_
    dsimp only
    have z0 : t'.place.size = 0 := by rw [z]; simp
    refine wpAny_storeSet_of R.ob R.da ?_ (by simp)
    refine hQ _ _ (epf + 1) t' (Heap.SameBut.update s.heap f _) ⟨store_at R.ob R.da, R.ex, by simp, (fun e he => by simp at he), (by simp), (by simp [scanBound]), ?_, r, R.ld.imp id fun z => by rw [l]; exact z⟩ ?_ ?_ ?_ l
    · refine fits_iff.mpr ⟨by rw [z0]; simp, fl⟩
    · show t'.place.size + t'.dummies.size = 0
      rw [z0, mk.2]
      rfl
    · rw [mk.1]
      exact m1
    · rw [mk.1]
      omega
  · have e : (SetTable.fresh 0 0 led).roomFor n = none := by
      unfold SetTable.roomFor
      exact if_neg c
    rw [e]
    exact wpAny_pure (hQ s.heap og epf _ (Heap.SameBut.refl f s.heap) R rfl (.inl rfl) (by show n ≤ 7; omega) rfl)
/-- all of a set into an empty one -/
theorem merge_0 {each : Sem Unit} {Q : Unit → Shared → Prop} (hne : f ≠ a) (R : SetS w s.heap a o es ep t) (h64 : es.size < 128) {led : Bool} (R2 : SetS w s.heap f og #[] epf (.fresh 0 0 led))
    (hQ : ∀ h' og' es' epf' tf', Heap.SameBut f s.heap h' → SetS w h' f og' es' epf' tf' → (∀ j, mem es' j = mem es j) → es'.size = es.size → Q () { s with heap := h' }) :
    wpAny (model P w) A (setMerge f a each) Q E s := by
  have sz {es' : Array (Int × Value)} (p : es'.toList.Perm es.toList) : es'.size = es.size := by
    have := p.length_eq
    rw [Array.length_toList, Array.length_toList] at this
    exact this
  unfold setMerge
  refine wp_if_neg (by simpa using hne) ?_
  try refine wpAny_bind (wpAny_pure ?_)
  refine wpAny_bind (wpAny_setState_of R.ob R.da R.ft ?_)
  dsimp only
  by_cases c : es.isEmpty = true
  · refine wp_if_pos c ?_
    have e0 : es = #[] := Array.isEmpty_iff.mp c
    exact wpAny_pure (hQ s.heap og #[] epf _ (Heap.SameBut.refl f s.heap) R2 (fun j => by rw [e0]) (by rw [e0]))
  · refine wp_if_neg c ?_
    try refine wpAny_bind (wpAny_pure ?_)
    refine wpAny_bind (room_0 h64 R2 fun h1 o1 ep1 t1 sb1 R3 f0 mk le ld => ?_)
    refine wpAny_bind (wpAny_setState_of (s := { s with heap := h1 }) R3.ob R3.da R3.ft ?_)
    dsimp only
    have both : w.params.followText "set-order" = true ∨ (t1.led && t.led) = true := by
      rcases R3.ld with z | z
      · exact .inl z
      · rcases R.ld with y | y
        · exact .inl y
        · exact .inr (by rw [z, y]; rfl)
    cases rd : t1.road t with
    | slotForSlot =>
      dsimp only
      refine wpAny_storeSet_of (s := { s with heap := h1 }) R3.ob R3.da ?_ (fits_of_scanBound R.sb)
      exact hQ _ _ es _ _ (sb1.trans (Heap.SameBut.update _ f _)) ⟨store_at R3.ob R3.da, R3.ex, rfl, R.gd, R.nd, R.sb, R.ft, R.ri, both⟩ (fun _ => rfl) rfl
    | clean =>
      dsimp only
      refine wpAny_bind (m := reord es (SetTable.laid t1.mask t1.finger t1.moves (led := t1.led && t.led) (plain := t1.plain && t.plain) (es.map (·.1)))) ?_
      refine reord_ok mk _ _ _ _ le fun es' t' p ft ri l => ?_
      dsimp only
      obtain ⟨g1, g2, g3, g4⟩ := perm_facts p R
      refine wpAny_storeSet_of (s := { s with heap := h1 }) R3.ob R3.da ?_ (fits_of_scanBound g3)
      exact hQ _ _ es' _ _ (sb1.trans (Heap.SameBut.update _ f _)) ⟨store_at R3.ob R3.da, R3.ex, rfl, g1, g2, g3, ft, ri, both.imp id fun z => by rw [l]; exact z⟩ g4 (sz p)
    | oneByOne =>
      unfold SetTable.road at rd
      rw [f0] at rd
      simp only [bne_self_eq_false, Bool.false_eq_true, if_false] at rd
      split at rd <;> cases rd
/-- the members of the other one, each turned -/
theorem turn_all {id : String} {Q : Unit → Shared → Prop} (hne : f ≠ a) (R : SetS w s.heap a o es ep t) (R2 : SetS w s.heap f og ef epf tf) (hsz : es.size + ef.size < scanBound)
    (hQ : ∀ h' d og' ef' epf' tf', Heap.SameBut f s.heap h' → SetS w h' f og' ef' epf' tf' → (∀ j, mem ef' j = (mem ef j != mem es j)) → ef'.size ≤ ef.size + es.size → Q () { s with heap := h', drawn := d }) :
    wpAny (model P w) A (Builtin.Frozenset.symmetricDifferenceUpdate id f (.ref a)) Q E s := by
  have ne : (Value.type "set" == Value.type "dict") = false := by decide
  have nr : (Value.ref a == Value.ref f) = false := by
    rw [beq_eq_false_iff_ne]
    exact fun z => hne (Value.ref.inj z).symm
  unfold Builtin.Frozenset.symmetricDifferenceUpdate
  refine wp_if_neg (by rw [nr]; simp) ?_
  try refine wpAny_bind (wpAny_pure ?_)
  refine wpAny_bind (wpAny_typeOf R.ty ?_)
  refine wp_if_neg (by rw [ne]; simp) ?_
  try refine wpAny_bind (wpAny_pure ?_)
  refine wpAny_bind (is_set R ?_)
  refine wp_if_pos rfl ?_
  refine wpAny_bind (wpAny_pure ?_)
  refine wpAny_bind (m := Builtin.Frozenset.addrOf (.ref a)) (wpAny_pure ?_)
  refine wpAny_bind (at_epoch R ?_)
  refine wpAny_holding ?_
  refine wpAny_bind (wk_unseen R R2 (fun z => hne z.symm) fun out d h1 o1 ep1 t1 p sb1 R3 => ?_)
  have gd : ∀ e ∈ out.toList, GoodE e := fun e he => R.gd e (p.mem_iff.mp he)
  have nd : (out.toList.map keyOf).Nodup := (p.map keyOf).nodup_iff.mpr R.nd
  refine wpAny_bind (wpAny_forIn_array' _ (fun l (r : PUnit) s' => ∃ h' o' e' ep' t', s' = { s with heap := h', drawn := d } ∧ Heap.SameBut f s.heap h' ∧ SetS w h' f o' e' ep' t' ∧ (∀ e ∈ l, GoodE e) ∧ (l.map keyOf).Nodup ∧
      (∀ j, mem e' j = if j ∈ l.map keyOf then mem ef j else (mem ef j != mem es j)) ∧ (∀ j ∈ l.map keyOf, mem es j = true) ∧ e'.size + l.length ≤ ef.size + es.size) _ ?_ ?_ _ _ ⟨h1, o1, ef, ep1, t1, rfl, sb1, R3, gd, nd, fun j => ?_, fun j hj => ?_, ?_⟩)
  · rintro ⟨hh, x⟩ rest r s' ⟨h2, o2, e2, ep2, t2, rfl, sb2, R4, g, n, m, inn, z⟩
    obtain ⟨k, tk, hx, hk⟩ := g _ List.mem_cons_self
    simp only at hx hk
    subst hx hk
    have kk : keyOf (hashInt k, Value.int k tk) = k := rfl
    rw [List.map_cons, kk] at n m inn
    rw [List.length_cons] at z
    obtain ⟨n1, n2⟩ := List.nodup_cons.mp n
    have Ra : SetS w h2 a o es ep t := R.at (sb2.2 a fun y => hne y.symm)
    have g' : ∀ e ∈ rest, GoodE e := fun e he => g e (List.mem_cons_of_mem _ he)
    have ink : mem es k = true := inn k List.mem_cons_self
    have mk0 : mem e2 k = mem ef k := by rw [m k, if_pos List.mem_cons_self]
    refine wpAny_bind (wpAny_holding (wpAny_bind (setS_discard (s := { s with heap := h2, drawn := d }) R4 fun h3 o3 e3 ep3 t3 sb3 R5 m3 z3 => ?_)))
    by_cases c : mem e2 k = true
    · rw [c]
      refine wp_if_neg (by simp) ?_
      refine wpAny_pure ?_
      refine wpAny_bind (no_change (s := { s with heap := h3, drawn := d }) (Ra.at (s := { s with heap := h2, drawn := d }) (sb3.2 a fun y => hne y.symm)) ?_)
      refine wpAny_pure ⟨h3, o3, e3, ep3, t3, rfl, sb2.trans sb3, R5, g', n2, fun j => ?_, fun j hj => inn j (List.mem_cons_of_mem _ hj), by omega⟩
      rw [m3 j, m j]
      by_cases y : j = k
      · subst y
        rw [if_neg n1, decide_eq_true rfl, ← mk0, c, ink]
        simp
      · rw [decide_eq_false y]
        simp only [List.mem_cons, y, false_or, Bool.not_false, Bool.and_true]
    · have c' : mem e2 k = false := by simpa using c
      rw [c']
      refine wp_if_pos (by simp) ?_
      refine wpAny_bind (setS_add (s := { s with heap := h3, drawn := d }) R5 (by omega) fun b h4 o4 e4 ep4 t4 sb4 R6 m4 z4 => ?_)
      refine wpAny_pure ?_
      refine wpAny_bind (no_change (s := { s with heap := h4, drawn := d }) (Ra.at (s := { s with heap := h2, drawn := d }) ((sb4.2 a fun y => hne y.symm).trans (sb3.2 a fun y => hne y.symm))) ?_)
      refine wpAny_pure ⟨h4, o4, e4, ep4, t4, rfl, (sb2.trans sb3).trans sb4, R6, g', n2, fun j => ?_, fun j hj => inn j (List.mem_cons_of_mem _ hj), by omega⟩
      rw [m4 j, m3 j, m j]
      by_cases y : j = k
      · subst y
        rw [if_neg n1, decide_eq_true rfl, ← mk0, c', ink]
        simp
      · rw [decide_eq_false y]
        simp only [List.mem_cons, y, false_or, Bool.not_false, Bool.and_true, Bool.or_false]
  · rintro r s' ⟨h2, o2, e2, ep2, t2, rfl, sb2, R4, _, _, m, _, z⟩
    exact wpAny_pure (hQ h2 d o2 e2 ep2 t2 sb2 R4 (fun j => by rw [m j]; simp) (by simpa using z))
  · have mj : j ∈ out.toList.map keyOf ↔ mem es j = true := by
      rw [(p.map keyOf).mem_iff]
      exact decide_eq_true_iff.symm
    by_cases c : mem es j = true
    · rw [if_pos (mj.mpr c)]
    · rw [if_neg fun y => c (mj.mp y)]
      have c' : mem es j = false := by simpa using c
      rw [c']
      simp
  · have mj : j ∈ out.toList.map keyOf ↔ mem es j = true := by
      rw [(p.map keyOf).mem_iff]
      exact decide_eq_true_iff.symm
    exact mj.mp hj
  · have := p.length_eq
    rw [Array.length_toList, Array.length_toList] at this
    rw [Array.length_toList, this]
    omega
end
end Bd
/-! X3: sets of ints over the hand layer: set(t), s ^ t. -/
namespace Bd
open PySem L2 PySem.Spec PyProof.Rows

/-- the different ones, ascending -/
def sins (k : Int) : List Int → List Int
  | [] => [k]
  | x :: l => if k < x then k :: x :: l else if k = x then x :: l else x :: sins k l
def sset : List Int → List Int
  | [] => []
  | k :: l => sins k (sset l)
theorem mem_sins {k y : Int} : ∀ {l : List Int}, y ∈ sins k l ↔ y = k ∨ y ∈ l
  | [] => by simp [sins]
  | x :: l => by
    unfold sins
    split
    · simp
    · split
      · rename_i h
        subst h
        simp
      · rw [List.mem_cons, mem_sins, List.mem_cons]
        constructor
        · rintro (h | h | h)
          · exact .inr (.inl h)
          · exact .inl h
          · exact .inr (.inr h)
        · rintro (h | h | h)
          · exact .inr (.inl h)
          · exact .inl h
          · exact .inr (.inr h)
theorem sins_asc {k : Int} : ∀ {l : List Int}, Asc l → Asc (sins k l)
  | [], _ => List.pairwise_singleton _ _
  | x :: l, h => by
    obtain ⟨h1, h2⟩ := List.pairwise_cons.mp h
    unfold sins
    split
    · rename_i c
      refine List.pairwise_cons.mpr ⟨fun y hy => ?_, h⟩
      rcases List.mem_cons.mp hy with e | m
      · omega
      · have := h1 y m
        omega
    · split
      · exact h
      · rename_i c d
        refine List.pairwise_cons.mpr ⟨fun y hy => ?_, sins_asc h2⟩
        rcases mem_sins.mp hy with e | m
        · omega
        · exact h1 y m
theorem sset_asc : ∀ l : List Int, Asc (sset l)
  | [] => .nil
  | _ :: l => sins_asc (sset_asc l)
theorem mem_sset {x : Int} : ∀ {l : List Int}, x ∈ sset l ↔ x ∈ l
  | [] => Iff.rfl
  | k :: l => by
    unfold sset
    rw [mem_sins, mem_sset, List.mem_cons]
theorem sset_of {l : List Int} (h : Asc l) : sset l = l := asc_ext (sset_asc l) h fun _ => mem_sset
theorem sins_len {k : Int} : ∀ {l : List Int}, (sins k l).length ≤ l.length + 1
  | [] => Nat.le_refl _
  | x :: l => by
    unfold sins
    split
    · exact Nat.le_refl _
    · split
      · exact Nat.le_succ _
      · rw [List.length_cons, List.length_cons]
        exact Nat.succ_le_succ sins_len
theorem sset_len : ∀ l : List Int, (sset l).length ≤ l.length
  | [] => Nat.le_refl _
  | k :: l => Nat.le_trans sins_len (Nat.succ_le_succ (sset_len l))
/-- as many as the set has -/
theorem size_of {w : World} {h : Heap} {a : Addr} {S : Int → Bool} {n : Nat} {l : List Int} (R : SetR w h a S n) (hl : Asc l) (m : ∀ k, S k = true ↔ k ∈ l) : n = l.length := by
  obtain ⟨o, es, ep, t, R2, z, m2⟩ := SetS.of R
  have p : (es.toList.map keyOf).Perm l := (List.perm_ext_iff_of_nodup R2.nd hl.nodup).mpr fun k => by
    rw [← m k, m2 k]
    exact decide_eq_true_iff.symm
  rw [← z, ← p.length_eq, List.length_map, Array.length_toList]
/-- the set of the members l, at a -/
def SetL (w : World) (a : Addr) (l : List Int) : HO := SetO w a (fun k => decide (k ∈ l)) l.length
theorem setL_of {w : World} {h : Heap} {a : Addr} {S : Int → Bool} {n : Nat} {l : List Int} (R : SetR w h a S n) (hl : Asc l) (m : ∀ k, S k = true ↔ k ∈ l) : SetR w h a (fun k => decide (k ∈ l)) l.length := by
  have e := size_of R hl m
  subst e
  exact R.congr fun k => by rw [Bool.eq_iff_iff, decide_eq_true_iff, m k]
section
variable {X : Cx}
/-- set(t), t a tuple of ints -/
def rSetI (K : PySem.W.Frag) (w : World) : List V → Hp → VK → Prop := fun vs H Q => ∃ (a : Addr) (ns : List Int), vs = [.ref a] ∧ SqT K H a (ns.map V.int) ∧ ns.length < 4000 ∧ ∀ p, H p = none → Q (.ref p) (upd H p (SetL w p (sset ns)))
theorem cr_setI (hc : X.calm = true) : CallR X (.type "set") (rSetI X.K X.w) := by
  intro pins s σ H vs us Q I r h
  obtain ⟨a, ns, rfl, hq, hz, q⟩ := h
  rw [Vals.ref1 r]
  obtain ⟨its, rr, hl, _⟩ := I.tuple hq
  refine call_set_tupI ns (I.ok.hd hc) hl (by simpa using RZ.intsAre_vals rr) (by unfold scanBound; omega) fun h' tk c R hk kp => ?_
  have R2 := setL_of R (sset_asc ns) fun k => by rw [decide_eq_true_iff, mem_sset]
  exact ⟨.ref _, upd H s.heap.objs.size (SetL X.w s.heap.objs.size (sset ns)), I.laid (t' := tk) kp (Nat.le_refl _) (setO_new R2), rfl, q _ (I.hok.fresh (Nat.le_refl _))⟩
end
end Bd
/-! X4: s ^ t of two sets of ints over the hand layer. -/
namespace Bd
open PySem L2 PySem.Spec PyProof.Rows

theorem entry_sxor : entryFor table "set.__xor__" = some Builtin.«frozenset.__xor__» :=
  entryFor_alias (id' := "frozenset.__xor__") (by kernel_rfl) rfl (by decide +kernel) (by kernel_rfl)
def symOf (id : String) (l : Addr) (r : Value) : Sem Value := do
  let result ← Builtin.Frozenset.newFrom id (← Builtin.Frozenset.baseOf l) r
  holding [result] (Builtin.Frozenset.symmetricDifferenceUpdate id (← Builtin.Frozenset.addrOf result) (.ref l))
  return result
def xorOf (args : Args) : Sem PySem.Fin := do
  let (self, other) ← Builtin.Frozenset.slot1 "__xor__" args
  let (l, r) := if false then (other, self) else (self, other)
  if !(← Builtin.Frozenset.isAnySet l <&&> Builtin.Frozenset.isAnySet r) then
    rule s!"frozenset.{"__xor__"}.declined"
    return ← ret .notImplemented
  ret (← symOf s!"frozenset.{"__xor__"}" (← Builtin.Frozenset.addrOf l) r)
theorem xor_text : Builtin.«frozenset.__xor__» = xorOf := rfl
section
variable {P : Program} {w : World} {A : Around} {E : Value → Shared → Prop} {s : Shared} {a b : Addr} {o og : Obj} {es ef : Array (Int × Value)} {ep epf : Nat} {t tf : SetTable}
theorem fresh_set {h : Heap} : SetS w (h.push { cls := .type "set", dict := none, data := .set #[] 0 (.fresh 0 0 (!w.params.followText "set-order")) }) h.objs.size { cls := .type "set", dict := none, data := .set #[] 0 (.fresh 0 0 (!w.params.followText "set-order")) } #[] 0 (.fresh 0 0 (!w.params.followText "set-order")) where
  ob := Heap.get?_push_size _ rfl
  ex := ⟨rfl, rfl, rfl⟩
  da := rfl
  gd := fun e he => by simp at he
  nd := by simp
  sb := by decide
  ft := rfl
  ri := List.Pairwise.nil
  ld := by
    show _ ∨ (!w.params.followText "set-order") = true
    cases w.params.followText "set-order"
    · exact .inr rfl
    · exact .inl rfl
theorem new_set {Q : Value → Shared → Prop} (h : Q (.ref s.heap.objs.size) { s with heap := s.heap.push { cls := .type "set", dict := none, data := .set #[] 0 (.fresh 0 0 (!w.params.followText "set-order")) } }) :
    wpAny (model P w) A (newSet (.type "set")) Q E s := by
  unfold newSet
  refine wpAny_bind (wpAny_byText ?_)
  simp only [newObj]
  exact wpAny_bind (wpAny_alloc (wpAny_pure h))
theorem sym_ok {id : String} {Q : Value → Shared → Prop} (R : SetS w s.heap a o es ep t) (R2 : SetS w s.heap b og ef epf tf) (h64 : ef.size < 128) (hsz : es.size + ef.size < scanBound)
    (hQ : ∀ h' d o' e' ep' t', (∀ c u, s.heap.get? c = some u → h'.get? c = some u) → SetS w h' s.heap.objs.size o' e' ep' t' → (∀ j, mem e' j = (mem ef j != mem es j)) → Q (.ref s.heap.objs.size) { s with heap := h', drawn := d }) :
    wpAny (model P w) A (symOf id a (.ref b)) Q E s := by
  have na : s.heap.objs.size ≠ a := Nat.ne_of_gt R.lt
  have nb : s.heap.objs.size ≠ b := Nat.ne_of_gt R2.lt
  unfold symOf
  refine wpAny_bind ?_
  unfold Builtin.Frozenset.baseOf
  refine wpAny_bind (wpAny_isInstance R.ty sub_set_self ?_)
  refine wpAny_pure ?_
  refine wpAny_bind ?_
  simp only [if_true]
  unfold Builtin.Frozenset.newFrom
  refine wpAny_bind (new_set ?_)
  have R0 := fresh_set (w := w) (h := s.heap)
  have Rb : SetS w (s.heap.push { cls := .type "set", dict := none, data := .set #[] 0 (.fresh 0 0 (!w.params.followText "set-order")) }) b og ef epf tf := { R2 with ob := Heap.get?_push_of_some _ R2.ob }
  have Ra : SetS w (s.heap.push { cls := .type "set", dict := none, data := .set #[] 0 (.fresh 0 0 (!w.params.followText "set-order")) }) a o es ep t := { R with ob := Heap.get?_push_of_some _ R.ob }
  refine wpAny_bind (m := Builtin.Frozenset.addrOf _) (wpAny_pure ?_)
  refine wpAny_bind (wpAny_holding ?_)
  unfold Builtin.Frozenset.updateFrom
  refine wpAny_bind (is_set (s := { s with heap := _ }) Rb ?_)
  refine wp_if_pos rfl ?_
  refine wpAny_bind (m := Builtin.Frozenset.addrOf _) (wpAny_pure ?_)
  unfold Builtin.Frozenset.merge
  refine wpAny_bind (at_epoch (s := { s with heap := _ }) Rb ?_)
  refine merge_0 (s := { s with heap := _ }) nb Rb h64 R0 fun h1 o1 e1 ep1 t1 sb1 R1 m1 z1 => ?_
  refine wpAny_pure ?_
  refine wpAny_bind (m := Builtin.Frozenset.addrOf _) (wpAny_pure ?_)
  refine wpAny_bind (wpAny_holding ?_)
  have Ra1 : SetS w h1 a o es ep t := { Ra with ob := (sb1.2 a fun z => na z.symm).trans Ra.ob }
  refine turn_all (s := { s with heap := h1 }) na Ra1 R1 (by rw [z1]; exact hsz) fun h2 d o2 e2 ep2 t2 sb2 R3 m2 _ => ?_
  refine wpAny_pure (hQ h2 d o2 e2 ep2 t2 (fun c u e => ?_) R3 fun j => by rw [m2, m1])
  have lt : c ≠ s.heap.objs.size := Nat.ne_of_lt (Heap.lt_size e)
  exact (sb2.2 c lt).trans ((sb1.2 c lt).trans (Heap.get?_push_of_some _ e))
theorem xor_ok {Q : Value → Shared → Prop} (R : SetS w s.heap a o es ep t) (R2 : SetS w s.heap b og ef epf tf) (h64 : ef.size < 128) (hsz : es.size + ef.size < scanBound)
    (hQ : ∀ h' d o' e' ep' t', (∀ c u, s.heap.get? c = some u → h'.get? c = some u) → SetS w h' s.heap.objs.size o' e' ep' t' → (∀ j, mem e' j = (mem ef j != mem es j)) → Q (.ref s.heap.objs.size) { s with heap := h', drawn := d }) :
    wpAny (model P w) A (binaryOp .BitXor (.ref a) (.ref b)) Q E s := by
  refine wpAny_binaryOp_same (op := .BitXor) (T := "set") R.ty R2.ty PySem.F.fills_set_xor PySem.F.slot_set_xor ?_
  refine wpAny_call_entry PySem.F.slot_set_xor R.ty entry_sxor ?_ (PySem.F.args_set_xor_2 _ _)
  rw [xor_text]
  unfold xorOf Builtin.Frozenset.slot1 slotArgs
  refine wpAny_bind (m := pure (Value.ref a, Value.ref b)) (wpAny_pure ?_)
  dsimp only
  refine wpAny_bind (m := andM (Builtin.Frozenset.isAnySet (.ref a)) (Builtin.Frozenset.isAnySet (.ref b))) ?_
  unfold andM
  refine wpAny_bind (is_set R ?_)
  refine is_set R2 ?_
  refine wp_if_neg (by simp) ?_
  try refine wpAny_bind (wpAny_pure ?_)
  refine wpAny_bind (sym_ok R R2 h64 hsz fun h' d o' e' ep' t' k R3 m => ?_)
  exact wpAny_pure ⟨_, rfl, by simp, hQ h' d o' e' ep' t' k R3 m⟩
end
section
variable {X : Cx}
def rSXor (w : World) : R2 := fun x y H Q => ∃ p q a b, x = .ref p ∧ y = .ref q ∧ H p = some (SetL w p a) ∧ H q = some (SetL w q b) ∧ Asc a ∧ Asc b ∧ a.length + b.length < 4000 ∧ b.length < 128 ∧ ∀ z, H z = none → Q (.ref z) (upd H z (SetL w z (sumL a b)))
theorem op_sxor : OpR X (binaryOp .BitXor) (rSXor X.w) := by
  intro pins s σ H x y v u Q I rx ry h
  obtain ⟨p, q, a, b, rfl, rfl, hp, hq, ha, hb, hz, h64, k⟩ := h
  cases rx
  cases ry
  have Rp := setO_get I hp
  have Rq := setO_get I hq
  obtain ⟨o, es, ep, t, R, z1, m1⟩ := SetS.of Rp
  obtain ⟨og, ef, epf, tf, R2, z2, m2⟩ := SetS.of Rq
  refine xor_ok R R2 (by omega) (by unfold scanBound; omega) fun h' d o' e' ep' t' kp R3 m3 => ?_
  have hn : H s.heap.objs.size = none := I.hok.fresh (Nat.le_refl _)
  have mm : ∀ k, mem e' k = true ↔ k ∈ sumL a b := fun k => by
    rw [m3 k, ← m1 k, ← m2 k, mem_sumL]
    by_cases c1 : k ∈ a <;> by_cases c2 : k ∈ b <;> simp [c1, c2]
  have R4 := setL_of (R3.r (s := { s with heap := h' }) (S := mem e') fun _ => rfl) (sumL_asc ha hb) mm
  have J : Inv X pins σ (upd H s.heap.objs.size (SetL X.w s.heap.objs.size (sumL a b))) { s with heap := h', gens := s.gens, drawn := d, toks := s.toks } :=
    I.call (ch := []) (Un.laid kp (Nat.le_refl _) hn) (I.hok.laid kp (Nat.le_refl _) (setO_new R4)) I.bare (fun _ z => nomatch z)
  exact ⟨.ref _, _, J, rfl, k _ hn⟩
end
section
variable {P : Program} {w : World} {A : Around} {E : Value → Shared → Prop} {s : Shared} {a : Addr} {o : Obj} {es : Array (Int × Value)} {ep : Nat} {t : SetTable}
theorem raw_ints : ∀ (l : List Value), (∀ v ∈ l, ∃ k tk, v = Value.int k tk) → IntsAre l (l.map L2.vInt)
  | [], _ => .nil
  | v :: l, h => by
    obtain ⟨k, tk, e⟩ := h v List.mem_cons_self
    subst e
    exact .cons k tk (raw_ints l fun u hu => h u (List.mem_cons_of_mem _ hu))
theorem srt_set {Q : Value → Shared → Prop} (R : SetS w s.heap a o es ep t) (hh : A.handled = none)
    (hQ : ∀ (s' : Shared) (p : Addr) (out : Array Value) (c : Nat) (ns : List Int), (∀ b u, s.heap.get? b = some u → s'.heap.get? b = some u) → s'.gens = s.gens → s'.os = s.os → s.heap.objs.size ≤ p →
      s'.heap.get? p = some (seqObj "list" out c) → IntsAre out.toList ns → ns.Pairwise (· ≤ ·) → ns.Perm (es.toList.map keyOf) → Q (.ref p) s') :
    wpAny (model P w) A (call (.builtin "sorted") [.ref a]) Q E s := by
  refine Calls.call_function_entry kind_sorted plain_sorted entry_sorted (args_sorted1 _) ?_
  unfold Builtin.«sorted»
  refine wpAny_bind (m := checkCount "sorted" 1 1 _) (wpAny_pure (wpAny_bind (collect_set (A := A.in1) hh ⟨o, R.ob, R.ex.1, R.da⟩ R.ft R.sb R.ri R.ld fun s1 vs k1 hz g1 o1 pm => ?_)))
  have hints : IntsAre vs (vs.map L2.vInt) := raw_ints vs fun v hv => by
    obtain ⟨e, he, q⟩ := List.mem_map.mp (pm.mem_iff.mp hv)
    obtain ⟨k, tk, h1, _⟩ := R.gd e he
    exact ⟨k, tk, q.symm.trans h1⟩
  have pk : (vs.map L2.vInt).Perm (es.toList.map keyOf) := by
    have q := pm.map L2.vInt
    rw [List.map_map, show (L2.vInt ∘ fun x : Int × Value => x.2) = keyOf from funext fun e => (key_vInt e).symm] at q
    exact q
  have len : vs.length ≤ sizeLine := by
    rw [pm.length_eq, List.length_map, Array.length_toList]
    exact fits_of_scanBound R.sb
  refine wpAny_bind (wpAny_newList ?_ len)
  have at0 : (s1.heap.push (seqObj "list" vs.toArray 0)).get? s1.heap.objs.size = some (seqObj "list" vs.toArray 0) := Heap.get?_push_size _ rfl
  refine wpAny_bind (wpAny_holding (wpAny_call_entry slot_list_sort ⟨_, at0, rfl⟩ entry_list_sort (SrtO.list_sort_ord SrtO.swo_int at0 len (fun h2 => SrtO.ints_sortable hints h2) fun out h1 h2 => ⟨_, rfl, ?_⟩) (args_list_sort _)))
  obtain ⟨k2, k3, k4⟩ := SrtO.ints_out hints h1 h2
  obtain ⟨c, hc⟩ := sortedHeap_at (vs := vs) (out := out.toArray) at0
  refine wpAny_pure ⟨_, rfl, hQ _ s1.heap.objs.size out.toArray c (out.map SrtO.iv) (fun b u e => ?_) g1 o1 hz hc k2 k4 (k3.trans pk)⟩
  have old := k1 b u e
  have lt := Heap.lt_size old
  show (sortedHeap (s1.heap.push (seqObj "list" vs.toArray 0)) s1.heap.objs.size vs out.toArray).get? b = some u
  rw [sortedHeap_old (Nat.ne_of_lt lt) (by rw [size_push']; exact Nat.lt_succ_of_lt lt), Heap.get?_push_of_some _ old]
end
section
variable {X : Cx}
/-- sorted(set) -/
def rSortL (w : World) : List V → Hp → VK → Prop := fun vs H Q => ∃ p a, vs = [V.ref p] ∧ H p = some (SetL w p a) ∧ Asc a ∧ a.length ≤ 4000 ∧ ∀ z, H z = none → Q (.ref z) (upd H z (.lst (a.map V.int)))
theorem cr_sortL (hc : X.calm = true) : CallR X (.builtin "sorted") (rSortL X.w) := by
  intro pins s σ H vs us Q I r h
  obtain ⟨p, a, rfl, hp, ha, hz, k⟩ := h
  have Rp := setO_get I hp
  obtain ⟨o, es, ep, t, R, z1, m1⟩ := SetS.of Rp
  rw [Vals.ref1 r]
  refine srt_set R (I.ok.hd hc) fun s' z out c ns kp g os lz hg hi le pm => ?_
  have e : ns = a := by
    have nd : ns.Nodup := pm.nodup_iff.mpr R.nd
    refine asc_ext ((le.and nd).imp fun h => by omega) ha fun x => ?_
    rw [pm.mem_iff, ← decide_eq_true_iff (p := x ∈ a), m1 x]
    exact decide_eq_true_iff.symm
  subst e
  have hn : H z = none := I.hok.fresh lz
  have hlen : (ns.map V.int).length ≤ sizeLine := by rw [List.length_map, sizeLine_eq]; omega
  exact ⟨.ref z, upd H z (.lst (ns.map V.int)), I.call' (ch := []) os (Un.laid kp lz hn) (I.hok.laid kp lz ⟨hlen, out.toList, c, vals_of_ints hi, hg⟩) (by rw [g]; exact I.bare) (fun _ z => nomatch z), rfl, k z hn⟩
end
end Bd
/-! D21: sorted(set(a) ^ set(b)), sorted(set(a)), by data. -/
namespace Bd
open PySem L2

section
variable {X : Cx} {W : WX} {a b : Expr} {Fa Fb : Nv → R D} {pos q1 q2 q3 p p1 p2 : Pos}
/-- a set: its members, ascending -/
def rSs (w : World) : Rl := fun H H' A v d => ∃ z l, v = .ref z ∧ d = .list (l.map PyData.int) ∧ Asc l ∧ H z = none ∧ H' z = some (SetL w z l)
theorem back_Ss {w : World} : Back (rSs w) := fun _ _ _ _ _ _ s ⟨z, l, h1, h2, h3, h4, h5⟩ => ⟨z, l, h1, h2, h3, s.free h4, h5⟩
theorem ints?_eq : ∀ {ds : List D} {l : List Int}, ints? ds = some l → ds = l.map PyData.int
  | [], l, h => by
    cases (show some [] = some l from h)
    rfl
  | d :: ds, l, h => by
    cases d with
    | int i =>
      have h' : (ints? ds).map (i :: ·) = some l := h
      cases c : ints? ds with
      | none => rw [c] at h'; cases h'
      | some r =>
        rw [c] at h'
        cases h'
        rw [ints?_eq c]
        rfl
    | _ => cases (show none = some l from h)
theorem vals_ints {K : PySem.W.Frag} {H : Hp} : ∀ {vs : List V} {l : List Int}, DpAll K H vs (l.map PyData.int) → vs = l.map V.int
  | [], [], _ => rfl
  | _ :: _, [], h => by cases h
  | [], _ :: _, h => by cases h
  | v :: vs, k :: l, h => by
    cases h with
    | cons h1 h2 =>
      cases h1
      rw [vals_ints h2]
      rfl
def setV : List D → Option D
  | [.tuple ds] => (ints? ds).bind fun l => if l.length < 4000 then some (.list ((sset l).map PyData.int)) else none
  | _ => none
theorem o_setI : OpN X (rSs X.w) (rSetI X.K X.w) setV := fun H A vs ds d Q hA h e k => by
  unfold setV at e
  split at e
  · rename_i xs
    cases c : ints? xs with
    | none => rw [c] at e; cases e
    | some l =>
      rw [c] at e
      have e : (if l.length < 4000 then some (PyData.list ((sset l).map PyData.int)) else none) = some d := e
      split at e
      · rename_i hz
        have e := Option.some.inj e
        subst e
        match vs, h with
        | [v], ⟨hv, _⟩ =>
          obtain ⟨t, us, rfl, h1, _, h2⟩ := rO_tup hv
          rw [ints?_eq c] at h2
          rw [vals_ints h2] at h1
          exact ⟨t, l, rfl, h1, hz, fun z hn => k _ _ (same_new hn) ⟨z, sset l, rfl, rfl, sset_asc l, hn, upd_same⟩⟩
      · cases e
  · cases e
theorem t_set (hm : X.mg "set" = none) {Fs : Nv → R (List D)} (ha : TAs X W (vO X.K) [a] Fs) (hc : X.calm = true := by rfl) (hg : Gl X "set" := by rfl) (he : starEach [a] X.env = (false, eval a X.env) :: starEach [] X.env := by rfl) (hpl : (backTo pos (starEach [] X.env)).any (·.1) = false := by rfl) :
    PE X (.Call (.Name "set" p) [a] [] pos) (tR X.K X.mg W (rSs X.w) (eN setV Fs)) := t_callTy back_Ss (cr_setI hc) o_setI hg hm (by decide +kernel) ha (he := he) (hpl := hpl)
def ascB : List Int → Bool
  | x :: y :: l => decide (x < y) && ascB (y :: l)
  | _ => true
theorem ascB_of : ∀ {l : List Int}, Asc l → ascB l = true
  | [], _ => rfl
  | [_], _ => rfl
  | x :: y :: l, h => by
    obtain ⟨h1, h2⟩ := List.pairwise_cons.mp h
    unfold ascB
    rw [decide_eq_true (h1 y List.mem_cons_self), ascB_of h2]
    rfl
/-- of two sets' members -/
def symV : D → D → Option D
  | .list xs, .list ys => (ints? xs).bind fun a => (ints? ys).bind fun b => if a.length + b.length < 4000 ∧ b.length < 128 then some (.list ((sumL a b).map PyData.int)) else none
  | _, _ => none
theorem same_upd {H : Hp} {z : Addr} {o : HO} (h : H z = none) : Same H (upd H z o) := same_new h
theorem t_sxor {e f : Expr} {Fe Ff : Nv → R D} (he : PE X e (tR X.K X.mg W (rSs X.w) Fe)) (hf : PE X f (tR X.K X.mg W (rSs X.w) Ff)) :
    PE X (.BinOp e .BitXor f pos) (tR X.K X.mg W (rSs X.w) (e2 symV Fe Ff)) := peW (pe_op op_sxor he hf) fun σ H Q h => by
  obtain ⟨η, A, E, p0⟩ := h
  have p : Post X.K X.mg W (rSs X.w) σ A H ((Fe η).bind fun x => (Ff η).bind fun y => .of (symV x y)) Q := p0
  refine ⟨η, A, E, ?_⟩
  cases e1 : Fe η with
  | ex c w q => rw [e1] at p; exact p
  | no => rw [e1] at p; exact p
  | ok d1 =>
    rw [e1] at p
    rintro v1 H1 s1 ⟨z1, l1, rfl, rfl, a1, n1, g1⟩
    refine ⟨η, A, E.same s1, ?_⟩
    have p : Post X.K X.mg W (rSs X.w) σ A H ((Ff η).bind fun y => .of (symV (.list (l1.map PyData.int)) y)) Q := p
    cases e2 : Ff η with
    | ex c w q => rw [e2] at p; exact fun cls dd H' s q' => p cls dd H' (s1.trans s) q'
    | no => rw [e2] at p; exact p
    | ok d2 =>
      rw [e2] at p
      rintro v2 H2 s2 ⟨z2, l2, rfl, rfl, a2, n2, g2⟩
      have p : Post X.K X.mg W (rSs X.w) σ A H (.of (symV (.list (l1.map PyData.int)) (.list (l2.map PyData.int)))) Q := p
      have u : symV (.list (l1.map PyData.int)) (.list (l2.map PyData.int)) = if l1.length + l2.length < 4000 ∧ l2.length < 128 then some (.list ((sumL l1 l2).map PyData.int)) else none := by
        show (ints? (l1.map PyData.int)).bind (fun a => (ints? (l2.map PyData.int)).bind fun b => _) = _
        rw [ints?_map]
        show (ints? (l2.map PyData.int)).bind _ = _
        rw [ints?_map]
        rfl
      rw [u] at p
      split at p
      · rename_i hz
        exact ⟨z1, z2, l1, l2, rfl, rfl, s2 _ _ g1, g2, a1, a2, hz.1, hz.2, fun z hn => p _ _ ((s1.trans s2).trans (same_new hn)) ⟨z, _, rfl, rfl, sumL_asc a1 a2, (s1.trans s2).free hn, upd_same⟩⟩
      · exact False.elim p
def sortSV : D → Option D
  | .list xs => if xs.length ≤ 4000 then some (.list xs) else none
  | _ => none
theorem t_sortS {e : Expr} {Fe : Nv → R D} (hm : X.mg "sorted" = none) (he : PE X e (tR X.K X.mg W (rSs X.w) Fe)) (hc : X.calm = true := by rfl) (hg : Gl X "sorted" := by rfl) (hs : starEach [e] X.env = (false, eval e X.env) :: starEach [] X.env := by rfl) (hpl : (backTo pos (starEach [] X.env)).any (·.1) = false := by rfl) :
    TF X W (.Call (.Name "sorted" p) [e] [] pos) (e1 sortSV Fe) := peW (pe_callB (cr_sortL hc) hg hm (by decide +kernel) (pa_cons he pa_nil hs) (he := hs) (hpl := hpl)) fun σ H Q h => by
  obtain ⟨η, A, E, p0⟩ := h
  have p : Post X.K X.mg W (rF X.K) σ A H ((Fe η).bind fun x => .of (sortSV x)) Q := p0
  refine ⟨η, A, E, ?_⟩
  cases e1 : Fe η with
  | ex c w q => rw [e1] at p; exact p
  | no => rw [e1] at p; exact p
  | ok d1 =>
    rw [e1] at p
    rintro v1 H1 s1 ⟨z1, l1, rfl, rfl, a1, n1, g1⟩
    have p : Post X.K X.mg W (rF X.K) σ A H (.of (if (l1.map PyData.int).length ≤ 4000 then some (PyData.list (l1.map PyData.int)) else none)) Q := p
    split at p
    · rename_i hz
      rw [List.length_map] at hz
      refine ⟨z1, l1, rfl, g1, a1, hz, fun z hn => p _ _ (s1.trans (same_new hn)) ?_⟩
      exact back_F _ _ _ _ _ _ s1 (dp_new_list (E.same s1).tr hn (dpI l1))
    · exact False.elim p
where dpI {K : PySem.W.Frag} {H : Hp} : ∀ l : List Int, DpAll K H (l.map V.int) (l.map PyData.int)
  | [] => .nil
  | n :: ns => .cons (.int n) (dpI ns)
/-! ### reckoned -/
theorem setV_tup {l : List Int} (h : l.length < 4000) : setV [tupI l] = some (.list ((sset l).map PyData.int)) := by
  show (ints? (l.map PyData.int)).bind _ = _
  rw [ints?_map]
  exact if_pos h
theorem symV_ints {a b : List Int} (h : a.length + b.length < 4000 ∧ b.length < 128) : symV (.list (a.map PyData.int)) (.list (b.map PyData.int)) = some (.list ((sumL a b).map PyData.int)) := by
  show (ints? (a.map PyData.int)).bind _ = _
  rw [ints?_map]
  show (ints? (b.map PyData.int)).bind _ = _
  rw [ints?_map]
  exact if_pos h
theorem sortSV_ints {a : List Int} (h : a.length ≤ 4000) : sortSV (.list (a.map PyData.int)) = some (.list (a.map PyData.int)) := if_pos (by rw [List.length_map]; exact h)
end
end Bd
/-! D22: a def called with a list of the caller's own: what it answers holds no list, so it can't be that one. -/
namespace Bd
open PySem L2

mutual
/-- no list within -/
def flatT : D → Bool
  | .none => true
  | .bool _ => true
  | .int _ => true
  | .str _ => true
  | .list _ => false
  | .tuple ds => flatTs ds
  | .dict _ => false
def flatTs : List D → Bool
  | [] => true
  | d :: ds => flatT d && flatTs ds
end
section
variable {K : PySem.W.Frag} {H : Hp} {A B : List Addr}
theorem rd_hide {a : Addr} {xs : List V} (hl : ∀ b ∈ A, b ∉ B → ∃ ys, H b = some (.lst ys)) (h : SqT K (hid B H) a xs) : SqT K (hid A H) a xs := by
  have key : ∀ o, (∀ ys, o ≠ HO.lst ys) → hid B H a = some o → hid A H a = some o := fun o no e => by
    obtain ⟨n, e⟩ := hid_some e
    rw [hid_out fun m => ?_]
    · exact e
    · obtain ⟨ys, z⟩ := hl a m n
      rw [e] at z
      exact no ys (Option.some.inj z)
  rcases h with (h | ⟨o, h⟩) | h
  · exact .inl (.inl (key _ (fun ys z => nomatch z) h))
  · exact .inl (.inr ⟨o, key _ (fun ys z => nomatch z) h⟩)
  · exact .inr h
mutual
theorem dp_hide (hl : ∀ b ∈ A, b ∉ B → ∃ ys, H b = some (.lst ys)) : ∀ (d : D) (v : V), flatT d = true → Dp K (hid B H) v d → Dp K (hid A H) v d
  | .none, _, _, h => by cases h; exact .non
  | .bool b, _, _, h => by cases h; exact .bl b
  | .int i, _, _, h => by cases h; exact .int i
  | .str x, _, _, h => by cases h; exact .str x
  | .list ds, _, f, _ => by simp [flatT] at f
  | .tuple ds, _, f, h => by
    cases h with
    | tup h1 h2 => exact .tup (rd_hide hl h1) (dps_hide hl ds _ (by simpa [flatT] using f) h2)
  | .dict _, _, f, _ => by simp [flatT] at f
theorem dps_hide (hl : ∀ b ∈ A, b ∉ B → ∃ ys, H b = some (.lst ys)) : ∀ (ds : List D) (vs : List V), flatTs ds = true → DpAll K (hid B H) vs ds → DpAll K (hid A H) vs ds
  | [], _, _, h => by cases h; exact .nil
  | d :: ds, _, f, h => by
    cases h with
    | cons h1 h2 =>
      rw [flatTs, Bool.and_eq_true] at f
      exact .cons (dp_hide hl d _ f.1 h1) (dps_hide hl ds _ f.2 h2)
end
end
/-- the answer holds no list -/
def flatR : R D → R D
  | .ok d => if flatT d = true then .ok d else .no
  | _ => .no
/-- the answer is a list that holds none -/
def flatL : R D → R D
  | .ok (.list ds) => if flatTs ds = true then .ok (.list ds) else .no
  | _ => .no
def callO (Fn : List D → R D) (Fs : Nv → R (List D)) : Nv → R D := fun η => (Fs η).bind fun ds => flatR (Fn ds)
def callL (Fn : List D → R D) (Fs : Nv → R (List D)) : Nv → R D := fun η => (Fs η).bind fun ds => flatL (Fn ds)
section
variable {X : Cx} {W : WX} {rl : Rl} {e : Expr} {es : List Expr} {x : Str} {p pos : Pos} {f : Addr} {fd : FuncData} {ps : List Str} {k n : Nat} {Fn : List D → R D} {Fs : Nv → R (List D)}
def lstB : Option HO → Bool
  | some (.lst _) => true
  | _ => false
theorem lstB_of {o : Option HO} (h : lstB o = true) : ∃ ys, o = some (.lst ys) := by
  unfold lstB at h
  split at h
  · exact ⟨_, rfl⟩
  · cases h
/-- what is hidden and no list -/
def hard (A : List Addr) (H : Hp) : List Addr := A.filter fun a => !lstB (H a)
theorem hard_sub {A : List Addr} {H : Hp} : ∀ b ∈ hard A H, b ∈ A := fun b h => (List.mem_filter.mp h).1
theorem hard_out {A : List Addr} {H : Hp} : ∀ b ∈ A, b ∉ hard A H → ∃ ys, H b = some (.lst ys) := fun b h n => by
  cases c : lstB (H b) with
  | true => exact lstB_of c
  | false => exact absurd (List.mem_filter.mpr ⟨h, by rw [c]; rfl⟩) n
theorem vO_hard {K : PySem.W.Frag} {H : Hp} {A : List Addr} : ∀ {vs : List V} {ds : List D}, AllV (vO K) H A vs ds → DpAll K (hid (hard A H) H) vs ds
  | [], [], _ => .nil
  | v :: vs, d :: ds, h => by
    refine .cons ?_ (vO_hard h.2)
    rcases h.1 with h | ⟨a, us, ys, rfl, rfl, e, q⟩
    · exact Dp_mono h (hid_mono hard_sub)
    · refine .lst (SqL.of ?_) (DpAll_mono q (hid_mono hard_sub))
      rw [hid_out]
      · exact e
      · intro m
        have z := (List.mem_filter.mp m).2
        rw [e] at z
        cases z
  | [], _ :: _, h => h.elim
  | _ :: _, [], h => h.elim
theorem callO_core {g : R D → R D} (F : FnG X.prog X.w X.K X.mg X.base k f fd ps (spD X.K X.mg rl n Fn)) (hr : Room k X.A) (hgd : X.A.guards = some []) (hg : Gl X x) (hm : X.mg x = some (.ref f)) (hk : PySem.W.keepIn X.K (.ref f) = true) (hb : Binds X.K fd ps [])
    (hG : ∀ (σ : L2.St) (A B : List Addr) (H : Hp) (r : R D) (Q : VK), (∀ b ∈ A, b ∉ B → ∃ ys, H b = some (.lst ys)) → (∀ b ∈ B, b ∈ A) → Post X.K X.mg W rl σ A H (g r) Q → ∃ d, r = .ok d ∧ ∀ v H', Same H H' → rl H H' B v d → Q v H')
    (hb' : Back rl) (ha : TAs X W (vO X.K) (e :: es) Fs) (hn : es.length + 1 = n) (hfs : ∀ η ds, Fs η = .ok ds → ds.length = n) (hdb : (x == ("__debug__" : Str)) = false) (he : starEach (e :: es) X.env = (false, eval e X.env) :: starEach es X.env) (hpl : (backTo pos (starEach es X.env)).any (·.1) = false) :
    PE X (.Call (.Name x p) (e :: es) [] pos) (tR X.K X.mg W rl fun η => (Fs η).bind fun ds => g (Fn ds)) := by
  refine ⟨fun pins s σ H Q I h => wpAny_Call_Name_kw (ld_glob I hg hm ?_ hdb)⟩
  obtain ⟨η, A, E, q0⟩ := h
  have q : Post X.K X.mg W rl σ A H ((Fs η).bind fun ds => g (Fn ds)) Q := q0
  refine PySem.W.callWith_K (h₀ := X.base) I.ok.mod.kin hk (thn (ha.run pos pins s σ H (fun vs H1 => spD X.K X.mg rl n Fn vs H1 Q fun _ _ _ => False) I ⟨η, A, E, ?_⟩) fun us s1 ⟨vs, H1, I1, r1, q1⟩ => ⟨I1.kIn, run_g F hr hgd hb (fun pins H s e s' I c => by
      obtain ⟨_, _, _, _, _, _, _, _, _, _, _, _, z⟩ := c
      exact z.elim) I1 r1 q1⟩) he hpl
  cases e1 : Fs η with
  | ex c w z => rw [e1] at q; exact q
  | no => rw [e1] at q; exact q
  | ok ds =>
    rw [e1] at q
    intro vs H1 s1 qv
    obtain ⟨d, ed, kk⟩ := hG σ A (hard A H1) H1 (Fn ds) Q hard_out hard_sub (Post.same hb' s1 q)
    refine ⟨ds, hard A H1, hfs η ds e1, fun b m => (E.same s1).tr b (hard_sub b m), vO_hard qv, ?_⟩
    rw [ed]
    exact kk
theorem t_callO {j : Nat} (d : Df X.prog X.w X.K X.mg X.base j x n (rD X.K) Fn) (hr : Room k X.A) (hgd : X.A.guards = some []) (ha : TAs X W (vO X.K) (e :: es) Fs) (hfs : ∀ η ds, Fs η = .ok ds → ds.length = n) (hj : j ≤ k := by decide) (hg : Gl X x := by rfl)
    (hn : es.length + 1 = n := by rfl) (hdb : (x == ("__debug__" : Str)) = false := by decide) (he : starEach (e :: es) X.env = (false, eval e X.env) :: starEach es X.env := by rfl) (hpl : (backTo pos (starEach es X.env)).any (·.1) = false := by rfl) :
    TD X W (.Call (.Name x p) (e :: es) [] pos) (callO Fn Fs) := by
  obtain ⟨f, fd, ps, F, b, m, kp⟩ := d
  refine callO_core (g := flatR) F (hr.mono hj) hgd hg m kp b (fun σ A B H r Q hl hs q => ?_) back_D ha hn hfs hdb he hpl
  cases r with
  | ex c w z => exact False.elim q
  | no => exact False.elim q
  | ok d =>
    have q : Post X.K X.mg W (rD X.K) σ A H (if flatT d = true then .ok d else .no) Q := q
    split at q
    · rename_i hf
      refine ⟨d, rfl, fun v H' s z => q v H' s (dp_hide (fun b m n => ?_) d v hf z)⟩
      obtain ⟨ys, y⟩ := hl b m n
      exact ⟨ys, s _ _ y⟩
    · exact False.elim q
theorem t_callL {j : Nat} (d : Df X.prog X.w X.K X.mg X.base j x n (rF X.K) Fn) (hr : Room k X.A) (hgd : X.A.guards = some []) (ha : TAs X W (vO X.K) (e :: es) Fs) (hfs : ∀ η ds, Fs η = .ok ds → ds.length = n) (hj : j ≤ k := by decide) (hg : Gl X x := by rfl)
    (hn : es.length + 1 = n := by rfl) (hdb : (x == ("__debug__" : Str)) = false := by decide) (he : starEach (e :: es) X.env = (false, eval e X.env) :: starEach es X.env := by rfl) (hpl : (backTo pos (starEach es X.env)).any (·.1) = false := by rfl) :
    TF X W (.Call (.Name x p) (e :: es) [] pos) (callL Fn Fs) := by
  obtain ⟨f, fd, ps, F, b, m, kp⟩ := d
  refine callO_core (g := flatL) F (hr.mono hj) hgd hg m kp b (fun σ A B H r Q hl hs q => ?_) back_F ha hn hfs hdb he hpl
  cases r with
  | ex c w z => exact False.elim q
  | no => exact False.elim q
  | ok d =>
    cases d with
    | list ds =>
      have q : Post X.K X.mg W (rF X.K) σ A H (if flatTs ds = true then .ok (.list ds) else .no) Q := q
      split at q
      · rename_i hf
        refine ⟨_, rfl, ?_⟩
        rintro v H' s ⟨pp, vs, es2, rfl, h2, h3, h4, h5⟩
        cases h2
        refine q _ H' s ⟨pp, vs, ds, rfl, rfl, h3, h4, dps_hide (fun b m n => ?_) ds vs hf h5⟩
        rcases List.mem_cons.mp m with rfl | m
        · exact ⟨vs, h4⟩
        · obtain ⟨ys, y⟩ := hl b m fun z => n (List.mem_cons_of_mem _ z)
          exact ⟨ys, s _ _ y⟩
      · exact False.elim q
    | _ => exact False.elim q
end
end Bd
/-! M5: what the program's sums tell. -/
namespace Bd
open PySem L2
namespace Pg
def G_added : Nv → Rs :=
    (seqS (retS (eN tupleV (aC (e1 sortSV (e2 symV (eN setV (aC (gv 0) a0)) (eN setV (aC (gv 1) a0)))) a0)))
    .nx)
def F_added : List D → R D := runD 2 (.ok .none) G_added
theorem len_sum {a b : List Int} : (sumL a b).length ≤ a.length + b.length := by
  unfold sumL
  rw [(isort_perm _).length_eq, List.length_append]
  have l1 := List.length_filter_le (notIn b) a
  have l2 := List.length_filter_le (notIn a) b
  omega
theorem added_ok {a b : List Int} (ha : Asc a) (hb : Asc b) (la : a.length < 1000) (lb : b.length < 128) : F_added [tupI a, tupI b] = .ok (tupI (sumL a b)) := by
  refine runD_ex [.d (tupI a), .d (tupI b)] rfl ⟨[.d (tupI a), .d (tupI b)], ?_⟩
  have s1 := setV_tup (l := a) (by omega)
  have s2 := setV_tup (l := b) (by omega)
  rw [sset_of ha] at s1
  rw [sset_of hb] at s2
  have l := len_sum (a := a) (b := b)
  unfold G_added
  simp only [seqS_def, retS_def, eN_def, e1_def, e2_def, aC_def, gv_zero, gv_succ, a0_def, R.ok_bind, s1, s2, of_some, symV_ints (a := a) (b := b) ⟨by omega, lb⟩, sortSV_ints (a := sumL a b) (by omega), tupleV_list]
  rfl
def G_last_of : Nv → Rs :=
    (seqS (retS (ifV (tb (gv 0)) (e2 ixV (gv 0) (e1 negV (k0 (.int 1)))) (k0 .none)))
    .nx)
def F_last_of : List D → R D := runD 1 (.ok .none) G_last_of
/-- the last one, or None -/
def lastD (c : List Int) : D := match c.getLast? with
  | some k => .int k
  | none => .none
theorem atD_last {c : List Int} {k : Int} (h : c.getLast? = some k) : atD (c.map PyData.int) (-1) = some (.int k) := by
  have hn : 0 < c.length := by
    cases c with
    | nil => cases h
    | cons x l => exact Nat.succ_pos _
  have e : ixN c.length (-1) = some (c.length - 1) := by
    unfold ixN
    simp only [Int.reduceNeg, Int.neg_nonneg, Int.reduceLE, ↓reduceIte]
    split <;> (try omega) <;> (try (congr 1; omega))
  unfold atD
  rw [List.length_map, e]
  show (c.map PyData.int)[c.length - 1]? = _
  rw [List.getElem?_map, ← List.getLast?_eq_getElem?, h]
  rfl
theorem last_ok (c : List Int) : F_last_of [tupI c] = .ok (lastD c) := by
  refine runD_ex [.d (tupI c)] rfl ⟨[.d (tupI c)], ?_⟩
  unfold G_last_of
  cases h : c.getLast? with
  | none =>
    have e : c = [] := List.getLast?_eq_none_iff.mp h
    subst e
    rfl
  | some k =>
    have a := atD_last h
    have ne : (c.map PyData.int).isEmpty = false := by
      cases c with
      | nil => cases h
      | cons x l => rfl
    have t : tru (tupI c) = .ok true := by
      show R.ok (!(c.map PyData.int).isEmpty) = _
      rw [ne]
      rfl
    simp only [seqS_def, retS_def, ifV_def, tb_def, e2_def, e1_def, gv_zero, k0_def, R.ok_bind, t, ↓reduceIte, negV_int, of_some]
    rw [show ixV (tupI c) (.int (-1)) = some (.int k) from a]
    unfold lastD
    rw [h]
    rfl
end Pg
end Bd
/-! M6: what is wanted of an answer, part by part. -/
namespace Bd
open PySem L2

/-- the answer is there and Q holds of it -/
@[irreducible] def Wn {α : Type} (r : R α) (Q : α → Prop) : Prop := match r with
  | .ok a => Q a
  | _ => False
/-- a statement's end: N behind it, T where it returns, B where it breaks off, C where it goes on -/
@[irreducible] def Sn (r : Rs) (N : Nv → Prop) (T : D → Nv → Prop) (B C : Nv → Prop) : Prop := match r with
  | .nx η => N η
  | .rt d η => T d η
  | .bk η => B η
  | .ct η => C η
  | _ => False
theorem Wn.get {α : Type} {r : R α} {Q : α → Prop} (h : Wn r Q) : ∃ a, r = .ok a ∧ Q a := by
  unfold Wn at h
  cases r with
  | ok a => exact ⟨a, rfl, h⟩
  | ex c w p => exact h.elim
  | no => exact h.elim
theorem Wn.mk {α : Type} {r : R α} {Q : α → Prop} {a : α} (e : r = .ok a) (h : Q a) : Wn r Q := by
  rw [e]
  unfold Wn
  exact h
theorem Wn.imp {α : Type} {r : R α} {P Q : α → Prop} (h : Wn r P) (k : ∀ a, P a → Q a) : Wn r Q := by
  obtain ⟨a, e, p⟩ := h.get
  exact .mk e (k a p)
theorem Sn.imp {r : Rs} {N N' B B' C C' : Nv → Prop} {T T' : D → Nv → Prop} (h : Sn r N T B C) (kN : ∀ η, N η → N' η) (kT : ∀ d η, T d η → T' d η) (kB : ∀ η, B η → B' η) (kC : ∀ η, C η → C' η) : Sn r N' T' B' C' := by
  unfold Sn at h ⊢
  cases r with
  | nx η => exact kN η h
  | rt d η => exact kT d η h
  | bk η => exact kB η h
  | ct η => exact kC η h
  | ex c w p => exact h.elim
  | no => exact h.elim
section
variable {α β : Type} {Q : α → Prop} {QD : D → Prop} {QX : D × Nv → Prop} {QB : Bool → Prop} {QY : Bool × Nv → Prop} {QL : List D → Prop} {QM : List D × Nv → Prop} {η : Nv} {N B C : Nv → Prop} {T : D → Nv → Prop}
theorem wn_ok {a : α} : Wn (.ok a) Q ↔ Q a := by first | (unfold Wn; exact Iff.rfl) | (unfold Sn; exact Iff.rfl)
theorem wn_no : Wn (R.no : R α) Q ↔ False := by unfold Wn; exact Iff.rfl
theorem sn_no : Sn .no N T B C ↔ False := by unfold Sn; exact Iff.rfl
theorem sn_nx' : Sn (.nx η) N T B C ↔ N η := by unfold Sn; exact Iff.rfl
theorem wn_bind {r : R β} {f : β → R α} : Wn (r.bind f) Q ↔ Wn r fun b => Wn (f b) Q := by first | (unfold Wn; cases r <;> exact Iff.rfl) | (unfold Sn Wn; cases r <;> exact Iff.rfl)
theorem wn_bindN {r : R β} {f : β → R α} : Wn (r.bindN f) Q ↔ Wn r fun b => Wn (f b) Q := by first | (unfold Wn; cases r <;> exact Iff.rfl) | (unfold Sn Wn; cases r <;> exact Iff.rfl)
theorem wn_some {d : D} : Wn (.of (some d)) QD ↔ QD d := by first | (unfold Wn; exact Iff.rfl) | (unfold Sn; exact Iff.rfl)
theorem wn_of {o : Option D} : Wn (.of o) QD ↔ ∃ d, o = some d ∧ QD d := by
  cases o with
  | none => exact ⟨fun h => (wn_no.mp h).elim, fun ⟨_, h, _⟩ => nomatch h⟩
  | some d => exact ⟨fun h => ⟨d, rfl, wn_some.mp h⟩, fun ⟨_, h, q⟩ => by cases h; exact wn_some.mpr q⟩
theorem wn_only {r : R α} : Wn (only r) Q ↔ Wn r Q := by first | (unfold Wn; cases r <;> exact Iff.rfl) | (unfold Sn Wn; cases r <;> exact Iff.rfl)
theorem wn_noex {r : R D} : Wn (noex r) QD ↔ Wn r QD := by first | (unfold Wn; cases r <;> exact Iff.rfl) | (unfold Sn Wn; cases r <;> exact Iff.rfl)
/-! expressions that change nothing -/
theorem wn_e2 {f : D → D → Option D} {Fa Fb : Nv → R D} : Wn (e2 f Fa Fb η) QD ↔ Wn (Fa η) fun a => Wn (Fb η) fun b => Wn (.of (f a b)) QD := by
  rw [e2_def, wn_bind]
  simp only [wn_bind]
theorem wn_e1 {f : D → Option D} {Fa : Nv → R D} : Wn (e1 f Fa η) QD ↔ Wn (Fa η) fun a => Wn (.of (f a)) QD := wn_bind
theorem wn_eN {f : List D → Option D} {Fs : Nv → R (List D)} : Wn (eN f Fs η) QD ↔ Wn (Fs η) fun a => Wn (.of (f a)) QD := wn_bind
theorem wn_a0 : Wn (a0 η) QL ↔ QL [] := by first | (unfold Wn; exact Iff.rfl) | (unfold Sn; exact Iff.rfl)
theorem wn_aC {Fa : Nv → R D} {Fs : Nv → R (List D)} : Wn (aC Fa Fs η) QL ↔ Wn (Fa η) fun a => Wn (Fs η) fun as => QL (a :: as) := by
  rw [aC_def, wn_bind]
  simp only [wn_bind, wn_ok]
theorem wn_call {Fn : List D → R D} {Fs : Nv → R (List D)} : Wn (callV Fn Fs η) QD ↔ Wn (Fs η) fun ds => Wn (Fn ds) QD := by
  rw [callV_def, wn_bind]
  simp only [wn_noex]
theorem wn_tb {F : Nv → R D} : Wn (tb F η) QB ↔ Wn (F η) fun d => Wn (tru d) QB := wn_bind
theorem wn_tup {Fs : Nv → R (List D)} : Wn (tupV Fs η) QD ↔ Wn (Fs η) fun ds => ds.length ≤ lineN ∧ QD (.tuple ds) := by
  rw [tupV_def, wn_bind]
  simp only [wn_of]
  constructor <;> refine fun h => h.imp fun ds h => ?_
  · obtain ⟨d, e, q⟩ := h
    split at e
    · rename_i z
      cases e
      exact ⟨z, q⟩
    · cases e
  · exact ⟨_, if_pos h.1, h.2⟩
theorem wn_lst {Fs : Nv → R (List D)} : Wn (lstV Fs η) QD ↔ Wn (Fs η) fun ds => ds.length ≤ lineN ∧ QD (.list ds) := by
  rw [lstV_def, wn_bind]
  simp only [wn_of]
  constructor <;> refine fun h => h.imp fun ds h => ?_
  · obtain ⟨d, e, q⟩ := h
    split at e
    · rename_i z
      cases e
      exact ⟨z, q⟩
    · cases e
  · exact ⟨_, if_pos h.1, h.2⟩
theorem wn_ite {c : Prop} [Decidable c] {a b : R α} : Wn (if c then a else b) Q ↔ if c then Wn a Q else Wn b Q := by
  split <;> exact Iff.rfl
theorem wn_andB {Ga Gb : Nv → R Bool} : Wn (andB Ga Gb η) QB ↔ Wn (Ga η) fun k => if k = true then Wn (Gb η) QB else QB false := by
  rw [andB_def, wn_bind]
  simp only [wn_ite, wn_ok]
theorem wn_orB {Ga Gb : Nv → R Bool} : Wn (orB Ga Gb η) QB ↔ Wn (Ga η) fun k => if k = true then QB true else Wn (Gb η) QB := by
  rw [orB_def, wn_bind]
  simp only [wn_ite, wn_ok]
theorem wn_notB {Ga : Nv → R Bool} : Wn (notB Ga η) QB ↔ Wn (Ga η) fun k => QB !k := by
  rw [notB_def, wn_bind]
  simp only [wn_ok]
theorem wn_andV {Fa Fb : Nv → R D} : Wn (andV Fa Fb η) QD ↔ Wn (Fa η) fun x => Wn (tru x) fun k => if k = true then Wn (Fb η) QD else QD x := by
  rw [andV_def, wn_bind]
  simp only [wn_bind, wn_ite, wn_ok]
theorem wn_orV {Fa Fb : Nv → R D} : Wn (orV Fa Fb η) QD ↔ Wn (Fa η) fun x => Wn (tru x) fun k => if k = true then QD x else Wn (Fb η) QD := by
  rw [orV_def, wn_bind]
  simp only [wn_bind, wn_ite, wn_ok]
theorem wn_notV {Fa : Nv → R D} : Wn (notV Fa η) QD ↔ Wn (Fa η) fun x => Wn (tru x) fun k => QD (.bool !k) := by
  rw [notV_def, wn_bind]
  simp only [wn_bind, wn_ok]
theorem wn_ifV {G : Nv → R Bool} {Fa Fb : Nv → R D} : Wn (ifV G Fa Fb η) QD ↔ Wn (G η) fun k => if k = true then Wn (Fa η) QD else Wn (Fb η) QD := by
  rw [ifV_def, wn_bind]
  simp only [wn_ite]
theorem wn_iA {F : Nv → R D} : Wn (iA F η) QL ↔ Wn (F η) fun d => Wn (asSeq d) QL := wn_bind
theorem wn_iR1 {Fs : Nv → R (List D)} : Wn (iR1 Fs η) QL ↔ Wn (Fs η) fun d => Wn (rng1 d) QL := wn_bind
theorem wn_iR2 {Fs : Nv → R (List D)} : Wn (iR2 Fs η) QL ↔ Wn (Fs η) fun d => Wn (rng2 d) QL := wn_bind
theorem wn_iZ {Fs : Nv → R (List D)} : Wn (iZ Fs η) QL ↔ Wn (Fs η) fun d => Wn (zip2 d) QL := wn_bind
theorem wn_iEn {Fs : Nv → R (List D)} : Wn (iEn Fs η) QL ↔ Wn (Fs η) fun d => Wn (enum1 d) QL := wn_bind
theorem wn_iRR {F : Nv → R D} : Wn (iRR F η) QL ↔ Wn (F η) fun d => Wn (rr1 d) QL := wn_bind
theorem wn_sl {sl : Option Int → Option Int → D → Option D} {F : Nv → R D} {Lo Hi : Nv → R (Option Int)} : Wn (slE sl F Lo Hi η) QD ↔ Wn (F η) fun x => Wn (Lo η) fun l => Wn (Hi η) fun h => Wn (.of (sl l h x)) QD := by
  rw [slE_def, wn_bind]
  simp only [wn_bind]
theorem wn_p0 {Q : Option Int → Prop} : Wn (p0 η) Q ↔ Q none := by first | (unfold Wn; exact Iff.rfl) | (unfold Sn; exact Iff.rfl)
theorem wn_p1 {F : Nv → R D} {Q : Option Int → Prop} : Wn (p1 F η) Q ↔ Wn (F η) fun d => Wn (asInt d) Q := wn_bind
theorem wn_rng1 {n : Int} (h0 : 0 ≤ n) (h : n < 1000000) : Wn (rng1 [.int n]) QL ↔ QL (rangeD 0 n.toNat) := by
  rw [rng1_ok h0 h]
  all_goals first | exact Iff.rfl | (unfold Sn; exact Iff.rfl) | (unfold Wn; exact Iff.rfl)
/-! expressions that change lists -/
theorem wn_up {F : Nv → R D} : Wn (up F η) QX ↔ Wn (F η) fun d => QX (d, η) := by
  unfold up
  first | (unfold Wn; cases F η <;> exact Iff.rfl) | (unfold Sn; cases F η <;> exact Iff.rfl)
theorem wn_upB {G : Nv → R Bool} : Wn (upB G η) QY ↔ Wn (G η) fun d => QY (d, η) := by
  unfold upB
  first | (unfold Wn; cases G η <;> exact Iff.rfl) | (unfold Sn; cases G η <;> exact Iff.rfl)
theorem wn_upI {F : Nv → R (List D)} : Wn (upI F η) QM ↔ Wn (F η) fun d => QM (d, η) := by
  unfold upI
  first | (unfold Wn; cases F η <;> exact Iff.rfl) | (unfold Sn; cases F η <;> exact Iff.rfl)
theorem wn_x2 {f : D → D → Option D} {Fa Fb : Nv → R (D × Nv)} : Wn (x2 f Fa Fb η) QX ↔ Wn (Fa η) fun p => Wn (Fb p.2) fun q => Wn (.of (f p.1 q.1)) fun d => QX (d, q.2) := by
  unfold x2
  rw [wn_bind]
  simp only [wn_bind, wn_ok]
theorem wn_x0 : Wn (x0 η) QM ↔ QM ([], η) := by first | (unfold Wn; exact Iff.rfl) | (unfold Sn; exact Iff.rfl)
theorem wn_xC {Fa : Nv → R (D × Nv)} {Fs : Nv → R (List D × Nv)} : Wn (xC Fa Fs η) QM ↔ Wn (Fa η) fun p => Wn (Fs p.2) fun q => QM (p.1 :: q.1, q.2) := by
  unfold xC
  rw [wn_bind]
  simp only [wn_bind, wn_ok]
theorem wn_xN {f : List D → Option D} {Fs : Nv → R (List D × Nv)} : Wn (xN f Fs η) QX ↔ Wn (Fs η) fun p => Wn (.of (f p.1)) fun d => QX (d, p.2) := by
  unfold xN
  rw [wn_bind]
  simp only [wn_bind, wn_ok]
theorem wn_xb {F : Nv → R (D × Nv)} : Wn (xb F η) QY ↔ Wn (F η) fun p => Wn (tru p.1) fun k => QY (k, p.2) := by
  unfold xb
  rw [wn_bind]
  simp only [wn_bind, wn_ok]
theorem wn_xAnd {Ga Gb : Nv → R (Bool × Nv)} : Wn (xAnd Ga Gb η) QY ↔ Wn (Ga η) fun p => if p.1 = true then Wn (Gb p.2) QY else QY (false, p.2) := by
  unfold xAnd
  rw [wn_bind]
  simp only [wn_ite, wn_ok]
theorem wn_xOr {Ga Gb : Nv → R (Bool × Nv)} : Wn (xOr Ga Gb η) QY ↔ Wn (Ga η) fun p => if p.1 = true then QY (true, p.2) else Wn (Gb p.2) QY := by
  unfold xOr
  rw [wn_bind]
  simp only [wn_ite, wn_ok]
theorem wn_xNot {Ga : Nv → R (Bool × Nv)} : Wn (xNot Ga η) QY ↔ Wn (Ga η) fun p => QY (!p.1, p.2) := by
  unfold xNot
  rw [wn_bind]
  simp only [wn_ok]
theorem wn_xIf {G : Nv → R (Bool × Nv)} {Fa Fb : Nv → R (D × Nv)} : Wn (xIf G Fa Fb η) QX ↔ Wn (G η) fun p => if p.1 = true then Wn (Fa p.2) QX else Wn (Fb p.2) QX := by
  unfold xIf
  rw [wn_bind]
  simp only [wn_ite]
theorem wn_xCall {Fn : List D → R D} {Fs : Nv → R (List D × Nv)} : Wn (xCall Fn Fs η) QX ↔ Wn (Fs η) fun p => Wn (Fn p.1) fun d => QX (d, p.2) := by
  unfold xCall
  rw [wn_bind]
  simp only [wn_bind, wn_noex, wn_ok]
theorem wn_xR1 {Fs : Nv → R (List D × Nv)} : Wn (xR1 Fs η) QM ↔ Wn (Fs η) fun p => Wn (rng1 p.1) fun d => QM (d, p.2) := by
  unfold xR1
  rw [wn_bind]
  simp only [wn_bind, wn_ok]
theorem wn_xR2 {Fs : Nv → R (List D × Nv)} : Wn (xR2 Fs η) QM ↔ Wn (Fs η) fun p => Wn (rng2 p.1) fun d => QM (d, p.2) := by
  unfold xR2
  rw [wn_bind]
  simp only [wn_bind, wn_ok]
/-- a def that changes its first list: the list there, and what it does -/
theorem wn_callK {i : Nat} {Fk : List D → List D → R (D × List D)} {Fs : Nv → R (List D × Nv)} {o : OL} (h0 : η[i]? = some (.own o)) (h : Wn (Fs η) fun p => ∃ xs, p.2[i]? = some (.own xs) ∧ Wn (Fk xs.l p.1) fun r => QX (r.1, p.2.set i (.own ⟨xs.b, r.2⟩))) : Wn (xCallK i Fk Fs η) QX := by
  unfold xCallK
  rw [h0]
  show Wn ((Fs η).bind (xPut i Fk)) QX
  rw [wn_bind]
  refine h.imp fun p ⟨xs, e, q⟩ => ?_
  unfold xPut
  rw [e]
  show Wn ((Fk xs.l p.1).bind _) QX
  simp only [wn_bind, wn_ok]
  exact q
/-! statements -/
theorem sn_nx : Sn (.nx η) N T B C ↔ N η := by first | (unfold Wn; exact Iff.rfl) | (unfold Sn; exact Iff.rfl)
theorem sn_rt {d : D} : Sn (.rt d η) N T B C ↔ T d η := by first | (unfold Wn; exact Iff.rfl) | (unfold Sn; exact Iff.rfl)
theorem sn_bk : Sn (.bk η) N T B C ↔ B η := by first | (unfold Wn; exact Iff.rfl) | (unfold Sn; exact Iff.rfl)
theorem sn_ct : Sn (.ct η) N T B C ↔ C η := by first | (unfold Wn; exact Iff.rfl) | (unfold Sn; exact Iff.rfl)
theorem sn_seq {Gs Gt : Nv → Rs} : Sn (seqS Gs Gt η) N T B C ↔ Sn (Gs η) (fun η1 => Sn (Gt η1) N T B C) T B C := by
  rw [seqS_def]
  first | (unfold Wn; cases Gs η <;> exact Iff.rfl) | (unfold Sn; cases Gs η <;> exact Iff.rfl)
theorem sn_toS {r : R α} {f : α → Rs} : Sn (r.toS f) N T B C ↔ Wn r fun a => Sn (f a) N T B C := by first | (unfold Wn; cases r <;> exact Iff.rfl) | (unfold Sn Wn; cases r <;> exact Iff.rfl)
theorem sn_ite {c : Prop} [Decidable c] {a b : Rs} : Sn (if c then a else b) N T B C ↔ if c then Sn a N T B C else Sn b N T B C := by
  split <;> exact Iff.rfl
theorem sn_set {i : Nat} {F : Nv → R D} : Sn (setS i F η) N T B C ↔ Wn (F η) fun d => N (η.set i (.d d)) := by
  rw [setS_def, sn_toS]
  all_goals first | exact Iff.rfl | (unfold Sn; exact Iff.rfl) | (unfold Wn; exact Iff.rfl)
theorem sn_ret {F : Nv → R D} : Sn (retS F η) N T B C ↔ Wn (F η) fun d => T d η := by
  rw [retS_def, sn_toS]
  all_goals first | exact Iff.rfl | (unfold Sn; exact Iff.rfl) | (unfold Wn; exact Iff.rfl)
theorem sn_expr {F : Nv → R D} : Sn (exprS F η) N T B C ↔ Wn (F η) fun _ => N η := by
  rw [exprS_def, sn_toS]
  all_goals first | exact Iff.rfl | (unfold Sn; exact Iff.rfl) | (unfold Wn; exact Iff.rfl)
theorem sn_if {G : Nv → R Bool} {Gs Gt : Nv → Rs} : Sn (ifS G Gs Gt η) N T B C ↔ Wn (G η) fun k => if k = true then Sn (Gs η) N T B C else Sn (Gt η) N T B C := by
  rw [ifS_def, sn_toS]
  simp only [sn_ite]
theorem sn_for {Fi : Nv → R (List D)} {Tg : Tgt} {Gb : Nv → Rs} : Sn (forS Fi Tg Gb η) N T B C ↔ Wn (Fi η) fun xs => Sn (loopG Tg Gb xs η) N T B C := by
  rw [forS_def, sn_toS]
theorem sn_xSet {i : Nat} {F : Nv → R (D × Nv)} : Sn (xSet i F η) N T B C ↔ Wn (F η) fun p => N (p.2.set i (.d p.1)) := by
  unfold xSet
  rw [sn_toS, wn_only]
  all_goals first | exact Iff.rfl | (unfold Sn; exact Iff.rfl) | (unfold Wn; exact Iff.rfl)
theorem sn_xRet {F : Nv → R (D × Nv)} : Sn (xRet F η) N T B C ↔ Wn (F η) fun p => T p.1 p.2 := by
  unfold xRet
  rw [sn_toS, wn_only]
  all_goals first | exact Iff.rfl | (unfold Sn; exact Iff.rfl) | (unfold Wn; exact Iff.rfl)
theorem sn_xExpr {F : Nv → R (D × Nv)} : Sn (xExpr F η) N T B C ↔ Wn (F η) fun p => N p.2 := by
  unfold xExpr
  rw [sn_toS, wn_only]
  all_goals first | exact Iff.rfl | (unfold Sn; exact Iff.rfl) | (unfold Wn; exact Iff.rfl)
theorem sn_xIf {G : Nv → R (Bool × Nv)} {Gs Gt : Nv → Rs} : Sn (xIfS G Gs Gt η) N T B C ↔ Wn (G η) fun p => if p.1 = true then Sn (Gs p.2) N T B C else Sn (Gt p.2) N T B C := by
  unfold xIfS
  rw [sn_toS, wn_only]
  simp only [sn_ite]
theorem sn_xFor {Fi : Nv → R (List D × Nv)} {Tg : Tgt} {Gb : Nv → Rs} : Sn (xFor Fi Tg Gb η) N T B C ↔ Wn (Fi η) fun p => Sn (loopG Tg Gb p.1 p.2) N T B C := by
  unfold xFor
  rw [sn_toS, wn_only]
theorem sn_asg {Tg : Tgt} {F : Nv → R D} : Sn (asgS Tg F η) N T B C ↔ Wn (F η) fun d => ∃ η1, Tg d η = some η1 ∧ N η1 := by
  unfold asgS
  rw [sn_toS]
  constructor <;> refine fun h => h.imp fun d h => ?_
  · split at h
    · rename_i e
      exact ⟨_, e, sn_nx'.mp h⟩
    · exact (sn_no.mp h).elim
  · obtain ⟨η1, e, h⟩ := h
    rw [e]
    exact sn_nx'.mpr h
theorem sn_xAsg {Tg : Tgt} {F : Nv → R (D × Nv)} : Sn (xAsg Tg F η) N T B C ↔ Wn (F η) fun p => ∃ η1, Tg p.1 p.2 = some η1 ∧ N η1 := by
  unfold xAsg
  rw [sn_toS, wn_only]
  constructor <;> refine fun h => h.imp fun d h => ?_
  · split at h
    · rename_i e
      exact ⟨_, e, sn_nx'.mp h⟩
    · exact (sn_no.mp h).elim
  · obtain ⟨η1, e, h⟩ := h
    rw [e]
    exact sn_nx'.mpr h
theorem sn_own {i : Nat} {F : Nv → R D} : Sn (ownS i F η) N T B C ↔ Wn (F η) fun d => ∃ xs, d = .list xs ∧ N (η.set i (.own ⟨true, xs⟩)) := by
  unfold ownS
  rw [sn_toS]
  constructor <;> refine fun h => h.imp fun d h => ?_
  · split at h
    · exact ⟨_, rfl, sn_nx'.mp h⟩
    · exact (sn_no.mp h).elim
  · obtain ⟨xs, rfl, h⟩ := h
    exact sn_nx'.mpr h
theorem sn_xOwn {i : Nat} {F : Nv → R (D × Nv)} : Sn (xOwn i F η) N T B C ↔ Wn (F η) fun p => ∃ xs, p.1 = .list xs ∧ N (p.2.set i (.own ⟨true, xs⟩)) := by
  unfold xOwn
  rw [sn_toS, wn_only]
  constructor <;> refine fun h => h.imp fun p h => ?_
  · split at h
    · rename_i e
      exact ⟨_, e, sn_nx'.mp h⟩
    · exact (sn_no.mp h).elim
  · obtain ⟨xs, e, h⟩ := h
    rw [e]
    exact sn_nx'.mpr h
theorem sn_app {i : Nat} {F : Nv → R D} {xs : OL} (h0 : η[i]? = some (.own xs)) (h : Wn (F η) fun y => xs.l.length < lineN ∧ N (η.set i (.own ⟨xs.b, xs.l ++ [y]⟩))) : Sn (appS i F η) N T B C := by
  obtain ⟨y, e, hl, q⟩ := h.get
  rw [appS_own i F η xs y h0 e hl]
  exact sn_nx'.mpr q
theorem sn_xApp {i : Nat} {F : Nv → R (D × Nv)} {o : OL} (h0 : η[i]? = some (.own o)) (h : Wn (F η) fun p => ∃ xs, p.2[i]? = some (.own xs) ∧ xs.l.length < lineN ∧ N (p.2.set i (.own ⟨xs.b, xs.l ++ [p.1]⟩))) : Sn (xApp i F η) N T B C := by
  unfold xApp
  rw [h0]
  show Sn ((only (F η)).toS (appX i)) N T B C
  rw [sn_toS, wn_only]
  refine h.imp fun p ⟨xs, e, hl, q⟩ => ?_
  unfold appX
  rw [e]
  show Sn (if xs.l.length < lineN then _ else _) N T B C
  rw [if_pos hl]
  exact sn_nx'.mpr q
theorem sn_frz {i : Nat} {xs : List D} (h0 : η[i]? = some (.own ⟨true, xs⟩)) (h : N (η.set i (.d (.list xs)))) : Sn (frzS i η) N T B C := by
  rw [frz_ok h0]
  exact sn_nx'.mpr h
theorem sn_retO {i : Nat} {xs : List D} (h0 : η[i]? = some (.own ⟨true, xs⟩)) (h : T (.list xs) η) : Sn (retO i η) N T B C := by
  rw [retO_own i η xs h0]
  exact sn_rt.mpr h
/-- THE LOOP: I of what is left -/
theorem sn_loop {Tg : Tgt} {Gb : Nv → Rs} (I : List D → Nv → Prop) (step : ∀ x rest η, I (x :: rest) η → ∃ η1, Tg x η = some η1 ∧ Sn (Gb η1) (I rest) T N (I rest)) (fin : ∀ η, I [] η → N η) : ∀ (xs : List D) (η : Nv), I xs η → Sn (loopG Tg Gb xs η) N T B C
  | [], η, h => sn_nx'.mpr (fin η h)
  | x :: xs, η, h => by
    obtain ⟨η1, e, k⟩ := step x xs η h
    rw [loopG_cons (η1 := η1) (h := e)]
    cases q : Gb η1 with
    | nx η2 => rw [q] at k; exact sn_loop I step fin xs η2 (sn_nx'.mp k)
    | ct η2 => rw [q] at k; exact sn_loop I step fin xs η2 (sn_ct.mp k)
    | bk η2 => rw [q] at k; exact sn_nx'.mpr (sn_bk.mp k)
    | rt d η2 => rw [q] at k; exact sn_rt.mpr (sn_rt.mp k)
    | ex c w p => rw [q] at k; unfold Sn at k; exact k.elim
    | no => rw [q] at k; exact (sn_no.mp k).elim
/-- a comprehension that changes lists: I of what is left and of what is there -/
theorem wn_compX {Tg : Tgt} {Cn : Nv → R (Bool × Nv)} {El : Nv → R (D × Nv)} {vs : List Nat} (I : List D → List D → Nv → Prop)
    (step : ∀ x rest acc η, I (x :: rest) acc η → ∃ η1, Tg x η = some η1 ∧ Wn (Cn η1) fun b => if b.1 = true then Wn (El b.2) fun y => I rest (acc ++ [y.1]) (wipeE y.2 vs) else I rest acc (wipeE b.2 vs))
    (fin : ∀ acc η, I [] acc η → QM (acc, η)) : ∀ (xs acc : List D) (η : Nv), I xs acc η → Wn (compX Tg Cn El vs xs η) fun p => QM (acc ++ p.1, p.2)
  | [], acc, η, h => by
    refine wn_ok.mpr ?_
    show QM (acc ++ [], η)
    rw [List.append_nil]
    exact fin acc η h
  | x :: xs, acc, η, h => by
    obtain ⟨η1, e, k⟩ := step x xs acc η h
    unfold compX
    rw [e]
    show Wn ((Cn η1).bindN _) _
    rw [wn_bindN]
    refine k.imp fun b k => ?_
    cases hb : b.1 with
    | true =>
      rw [hb] at k
      simp only [↓reduceIte] at k ⊢
      rw [wn_bindN]
      refine k.imp fun y k => ?_
      rw [wn_bindN]
      refine (wn_compX I step fin xs (acc ++ [y.1]) _ k).imp fun q k => ?_
      rw [List.append_assoc] at k
      exact wn_ok.mpr k
    | false =>
      rw [hb] at k
      simp only [Bool.false_eq_true, ↓reduceIte] at k ⊢
      exact wn_compX I step fin xs acc _ k
theorem wn_xComp {Fi : Nv → R (List D × Nv)} {Tg : Tgt} {Cn : Nv → R (Bool × Nv)} {El : Nv → R (D × Nv)} {vs : List Nat} (I : List D → List D → Nv → Prop)
    (h : Wn (Fi η) fun p => I p.1 [] (wipeE p.2 vs))
    (step : ∀ x rest acc η, I (x :: rest) acc η → ∃ η1, Tg x η = some η1 ∧ Wn (Cn η1) fun b => if b.1 = true then Wn (El b.2) fun y => I rest (acc ++ [y.1]) (wipeE y.2 vs) else I rest acc (wipeE b.2 vs))
    (fin : ∀ acc η, I [] acc η → acc.length ≤ lineN ∧ QX (.list acc, η)) : Wn (xComp Fi Tg Cn El vs η) QX := by
  unfold xComp
  rw [wn_bindN]
  refine h.imp fun p h => ?_
  rw [wn_bindN]
  refine (wn_compX (QM := fun q => q.1.length ≤ lineN ∧ QX (.list q.1, q.2)) I step fin _ [] _ h).imp fun q k => ?_
  rw [List.nil_append] at k
  rw [if_pos k.1]
  exact wn_ok.mpr k.2
/-- a comprehension that changes nothing: what is picked, what is told of it -/
theorem wn_comp {Fi : Nv → R (List D)} {Tg : Tgt} {Cn : Nv → R Bool} {El : Nv → R D} {vs : List Nat} {xs : List D} (c : D → Bool) (g : D → D) (hi : Wn (Fi η) (· = xs))
    (step : ∀ x ∈ xs, ∃ η1, Tg x (wipeE η vs) = some η1 ∧ Wn (Cn η1) fun b => b = c x ∧ (b = true → Wn (El η1) (· = g x))) (hz : xs.length ≤ lineN) (q : QD (.list ((xs.filter c).map g))) : Wn (compE Fi Tg Cn El vs η) QD := by
  obtain ⟨ys, e, rfl⟩ := hi.get
  refine Wn.mk (compE_ok e (compD_filter (c := c) (g := g) ys fun x m => ?_) ?_) q
  · obtain ⟨η1, e1, k⟩ := step x m
    obtain ⟨b, e2, rfl, k⟩ := k.get
    refine ⟨η1, e1, e2, fun hb => ?_⟩
    obtain ⟨y, e3, rfl⟩ := (k hb).get
    exact e3
  · rw [List.length_map]
    exact Nat.le_trans (List.length_filter_le _ _) hz
/-! defs -/
theorem wn_runD {m : Nat} {fall : R D} {G : Nv → Rs} {ds : List D} (h : Sn (G (initD m ds)) (fun _ => False) (fun d _ => QD d) (fun _ => False) (fun _ => False)) : Wn (runD m fall G ds) QD := by
  unfold runD
  unfold Sn at h
  cases e : G (initD m ds) with
  | rt d η => rw [e] at h; exact wn_ok.mpr h
  | nx η => rw [e] at h; exact h.elim
  | bk η => rw [e] at h; exact h.elim
  | ct η => rw [e] at h; exact h.elim
  | ex c w p => rw [e] at h; exact h.elim
  | no => rw [e] at h; exact h.elim
theorem wn_runK {m : Nat} {G : Nv → Rs} {kx ds : List D} {QK : D × List D → Prop} (h : Sn (G (initK m kx ds)) (fun _ => False) (fun d η => ∃ kx', η[(0 : Nat)]? = some (.own ⟨false, kx'⟩) ∧ QK (d, kx')) (fun _ => False) (fun _ => False)) : Wn (runK m G kx ds) QK := by
  unfold runK
  unfold Sn at h
  cases e : G (initK m kx ds) with
  | rt d η =>
    rw [e] at h
    obtain ⟨kx', h1, h2⟩ := h
    show Wn (outK d η) QK
    unfold outK
    rw [h1]
    exact wn_ok.mpr h2
  | nx η => rw [e] at h; exact h.elim
  | bk η => rw [e] at h; exact h.elim
  | ct η => rw [e] at h; exact h.elim
  | ex c w p => rw [e] at h; exact h.elim
  | no => rw [e] at h; exact h.elim
/-- a draw -/
theorem wn_draw {kx : List D} {b : Int} {QK : D × List D → Prop} (hk : Dk.Deck kx) (hb : 0 < b ∧ b < 1073741824) (k : ∀ i kx', Dk.Deck kx' → 0 ≤ i → i < b → QK (.int i, kx')) : Wn (Dk.F_draw kx [.int b]) QK := by
  obtain ⟨i, kx', h1, h2, h3, h4⟩ := Dk.draw_ok hk hb
  exact Wn.mk h4 (k i kx' h1 h2 h3)
theorem wn_deck {ns : List Int} (k : ∀ kx, Dk.Deck kx → QD (.list kx)) : Wn (Dk.F_deck [.list (ns.map PyData.int)]) QD := by
  obtain ⟨kx, h1, h2⟩ := Dk.deck_ok ns
  exact Wn.mk h2 (k kx h1)
end

end Bd
/-! M7: more of how the parts are reckoned. -/
namespace Bd
open PySem L2

theorem gT2 {i j : Nat} {a b : D} {η : Nv} : gT 2 (gsC (gN i) (gsC (gN j) gs0)) (.tuple [a, b]) η = some ((η.set i (.d a)).set j (.d b)) := rfl
theorem gT3 {i j k : Nat} {a b c : D} {η : Nv} : gT 3 (gsC (gN i) (gsC (gN j) (gsC (gN k) gs0))) (.tuple [a, b, c]) η = some (((η.set i (.d a)).set j (.d b)).set k (.d c)) := rfl
theorem eqv_ints : ∀ a b : List Int, PyData.eqvAll (a.map PyData.int) (b.map PyData.int) = decide (a = b)
  | [], [] => rfl
  | [], y :: b => rfl
  | x :: a, [] => rfl
  | x :: a, y :: b => by
    show (PyData.eqv (.int x) (.int y) && PyData.eqvAll (a.map PyData.int) (b.map PyData.int)) = _
    rw [eqv_ints a b]
    have e : PyData.eqv (.int x) (.int y) = decide (x = y) := by
      unfold PyData.eqv
      rw [Bool.eq_iff_iff]
      simp
    rw [e, Bool.eq_iff_iff]
    simp
theorem eqv_tup (a b : List Int) : PyData.eqv (tupI a) (tupI b) = decide (a = b) := by
  show PyData.eqvAll (a.map PyData.int) (b.map PyData.int) = _
  exact eqv_ints a b
theorem eqV_tup (a b : List Int) : eqV' (tupI a) (tupI b) = some (.bool (decide (a = b))) := by
  unfold eqV'
  split
  · rename_i h1 h2
    cases h1
  · rw [if_pos ⟨shaped_tup a, shaped_tup b⟩, eqv_tup]
theorem neV_tup (a b : List Int) : neV' (tupI a) (tupI b) = some (.bool (!decide (a = b))) := by
  unfold neV'
  split
  · rename_i h1 h2
    cases h1
  · rw [if_pos ⟨shaped_tup a, shaped_tup b⟩, eqv_tup]
theorem any_mem (a : Int) (l : List Int) : l.any (· == a) = decide (a ∈ l) := by
  rw [Bool.eq_iff_iff, List.any_eq_true, decide_eq_true_iff]
  constructor
  · rintro ⟨x, m, e⟩
    rw [← eq_of_beq e]
    exact m
  · exact fun m => ⟨a, m, beq_self_eq_true a⟩
theorem in_tup (a : Int) (l : List Int) : inV' (.int a) (tupI l) = some (.bool (decide (a ∈ l))) := by
  show (if flatD (.int a) = true ∧ (l.map PyData.int).all flatD = true then some ((l.map PyData.int).any fun z => PyData.eqv z (.int a)) else none).map PyData.bool = _
  rw [if_pos ⟨rfl, ints_flat l⟩, any_ints, any_mem]
  rfl
theorem notin_tup' (a : Int) (l : List Int) : ninV' (.int a) (tupI l) = some (.bool (!decide (a ∈ l))) := by
  rw [notin_tup, notIn, any_mem]
theorem tup_nil : PyData.tuple [] = tupI [] := rfl
theorem tru_tup (l : List Int) : tru (tupI l) = .ok !l.isEmpty := by
  show R.ok (!(l.map PyData.int).isEmpty) = _
  cases l <;> rfl
/-- within a line of numbers -/
structure InU (U : List Int) (l : List Int) : Prop where
  asc : Asc l
  sub : ∀ x ∈ l, x ∈ U
theorem InU.nil {U : List Int} : InU U [] := ⟨.nil, fun _ m => absurd m List.not_mem_nil⟩
theorem InU.sum {U a b : List Int} (ha : InU U a) (hb : InU U b) : InU U (sumL a b) := ⟨sumL_asc ha.asc hb.asc, fun x m => by
  rcases mem_sumL.mp m with ⟨m, _⟩ | ⟨m, _⟩
  · exact ha.sub x m
  · exact hb.sub x m⟩
theorem asc_le : ∀ {a b : List Int}, Asc a → Asc b → (∀ x ∈ a, x ∈ b) → a.length ≤ b.length
  | [], _, _, _, _ => Nat.zero_le _
  | x :: a, [], _, _, h => absurd (h x List.mem_cons_self) List.not_mem_nil
  | x :: a, y :: b, ha, hb, h => by
    obtain ⟨ha1, ha2⟩ := List.pairwise_cons.mp ha
    obtain ⟨hb1, hb2⟩ := List.pairwise_cons.mp hb
    rw [List.length_cons, List.length_cons]
    refine Nat.succ_le_succ (asc_le ha2 hb2 fun z m => ?_)
    have lt := ha1 z m
    rcases List.mem_cons.mp (h z (List.mem_cons_of_mem _ m)) with e | m'
    · subst e
      rcases List.mem_cons.mp (h x List.mem_cons_self) with e | m2
      · omega
      · have := hb1 x m2
        omega
    · exact m'
theorem InU.len {U a : List Int} (h : InU U a) (hU : Asc U) : a.length ≤ U.length := asc_le h.asc hU h.sub
theorem Wn.eq {α : Type} {r : R α} {a : α} (h : Wn r (· = a)) : r = .ok a := by
  obtain ⟨b, e, rfl⟩ := h.get
  exact e
theorem wn_xCompO {i : Nat} {Tg : Tgt} {Cn : Nv → R (Bool × Nv)} {El : Nv → R (D × Nv)} {vs : List Nat} {η : Nv} {QX : D × Nv → Prop} {o : OL} (I : List D → List D → Nv → Prop) (h0 : η[i]? = some (.own o))
    (h : I o.l [] (wipeE η vs))
    (step : ∀ x rest acc η, I (x :: rest) acc η → ∃ η1, Tg x η = some η1 ∧ Wn (Cn η1) fun b => if b.1 = true then Wn (El b.2) fun y => I rest (acc ++ [y.1]) (wipeE y.2 vs) else I rest acc (wipeE b.2 vs))
    (fin : ∀ acc η, I [] acc η → acc.length ≤ lineN ∧ QX (.list acc, η)) : Wn (xCompO i Tg Cn El vs η) QX := by
  unfold xCompO
  rw [h0]
  show Wn ((compX Tg Cn El vs o.l (wipeE η vs)).bindN _) QX
  rw [wn_bindN]
  refine (wn_compX (QM := fun q => q.1.length ≤ lineN ∧ QX (.list q.1, q.2)) I step fin _ [] _ h).imp fun q k => ?_
  rw [List.nil_append] at k
  rw [if_pos k.1]
  exact wn_ok.mpr k.2
/-- a draw from the deck at s -/
theorem wn_drw {s : Nat} {b : Int} {η : Nv} {o : OL} {QX : D × Nv → Prop} (h0 : η[s]? = some (.own o)) (hk : Dk.Deck o.l) (hb : 0 < b ∧ b < 1073741824) (k : ∀ i kx', Dk.Deck kx' → 0 ≤ i → i < b → QX (.int i, η.set s (.own ⟨o.b, kx'⟩))) :
    Wn (xCallK s Dk.F_draw (xC (up (k0 (.int b))) x0) η) QX := by
  refine wn_callK h0 ?_
  rw [wn_xC, wn_up, k0_def, wn_ok, wn_x0]
  show ∃ xs, η[s]? = some (.own xs) ∧ Wn (Dk.F_draw xs.l [.int b]) _
  exact ⟨o, h0, wn_draw hk hb k⟩
theorem sn_xIns {i : Nat} {Fs : Nv → R (List D × Nv)} {o : OL} {η : Nv} {N B C : Nv → Prop} {T : D → Nv → Prop} (h0 : η[i]? = some (.own o)) (h : Wn (Fs η) fun p => ∃ xs j y, p.1 = [.int j, y] ∧ p.2[i]? = some (.own xs) ∧ 0 ≤ j ∧ j < 2 ^ 63 ∧ xs.l.length < lineN ∧ N (p.2.set i (.own ⟨xs.b, xs.l.take j.toNat ++ [y] ++ xs.l.drop j.toNat⟩))) :
    Sn (xIns i Fs η) N T B C := by
  unfold xIns
  rw [h0]
  show Sn ((only (Fs η)).toS (insAt i)) N T B C
  rw [sn_toS, wn_only]
  refine h.imp fun p ⟨xs, j, y, e1, e2, h1, h2, h3, q⟩ => ?_
  unfold insAt
  rw [e1, e2]
  show Sn (if _ then _ else _) N T B C
  rw [if_pos ⟨h1, h2, h3⟩]
  exact sn_nx'.mpr q
theorem neV_int (i j : Int) : neV' (.int i) (.int j) = some (.bool (!(i == j))) := by
  unfold neV'
  split
  · rename_i h1 h2
    cases h1
  · rw [if_pos ⟨shaped_int i, shaped_int j⟩]
    rfl
theorem fine_row {U l : List Int} (h : InU U l) (hU : Asc U) (lU : U.length < 128) (b : ∀ x ∈ U, -1000000000000 < x ∧ x < 1000000000000) : Fine 1 6000 (tupI l) := by
  have f := fine_tuple (k := 0) (n := 41) (xs := l.map PyData.int) fun d m => by
    obtain ⟨x, mx, rfl⟩ := List.mem_map.mp m
    exact fine_int (b x (h.sub x mx)).1 (b x (h.sub x mx)).2
  have z := h.len hU
  refine f.mono (Nat.le_refl _) ?_
  rw [List.length_map]
  omega
theorem fine_rows {U : List Int} {rows : List (List Int)} (h : ∀ r ∈ rows, InU U r) (hU : Asc U) (lU : U.length < 128) (b : ∀ x ∈ U, -1000000000000 < x ∧ x < 1000000000000) (hl : rows.length ≤ 100) : Fine 2 700000 (.list (rows.map tupI)) := by
  have f := fine_list (k := 1) (n := 6000) (xs := rows.map tupI) fun d m => by
    obtain ⟨r, mr, rfl⟩ := List.mem_map.mp m
    exact fine_row (h r mr) hU lU b
  refine f.mono (Nat.le_refl _) ?_
  rw [List.length_map]
  omega
end Bd
/-! N1: sums of rows: what they make, and how many of them do. -/
namespace Bd
open PySem L2

abbrev Row := List Int
def AscR (rs : List Row) : Prop := ∀ r ∈ rs, Asc r
/-- all sums of some of the rows, each once -/
def spanL : List Row → List Row
  | [] => [[]]
  | r :: rs => if r ∈ spanL rs then spanL rs else spanL rs ++ (spanL rs).map (sumL r)
/-- the rank: as many as are no sum of those behind them -/
def rk : List Row → Nat
  | [] => 0
  | r :: rs => if r ∈ spanL rs then rk rs else rk rs + 1
theorem span_asc : ∀ {rs : List Row}, AscR rs → ∀ x ∈ spanL rs, Asc x
  | [], _, x, h => by
    rw [List.mem_singleton.mp h]
    exact .nil
  | r :: rs, hr, x, h => by
    have ih := span_asc (rs := rs) fun y m => hr y (List.mem_cons_of_mem _ m)
    unfold spanL at h
    split at h
    · exact ih x h
    · rcases List.mem_append.mp h with h | h
      · exact ih x h
      · obtain ⟨y, hy, rfl⟩ := List.mem_map.mp h
        exact sumL_asc (hr r List.mem_cons_self) (ih y hy)
theorem AscR.tail {r : Row} {rs : List Row} (h : AscR (r :: rs)) : AscR rs := fun y m => h y (List.mem_cons_of_mem _ m)
theorem AscR.head {r : Row} {rs : List Row} (h : AscR (r :: rs)) : Asc r := h r List.mem_cons_self
theorem nil_span : ∀ rs : List Row, [] ∈ spanL rs
  | [] => List.mem_singleton.mpr rfl
  | r :: rs => by
    unfold spanL
    split
    · exact nil_span rs
    · exact List.mem_append.mpr (.inl (nil_span rs))
theorem sumL_right {a b : Row} (ha : Asc a) (hb : Asc b) : sumL a (sumL a b) = b := by
  rw [← sumL_assoc ha ha hb, sumL_self ha, sumL_nil hb]
theorem sumL_nil' {a : Row} (ha : Asc a) : sumL a [] = a := by rw [sumL_comm ha .nil, sumL_nil ha]
theorem sumL_swap {a b c : Row} (ha : Asc a) (hb : Asc b) (hc : Asc c) : sumL a (sumL b c) = sumL b (sumL a c) := by
  rw [← sumL_assoc ha hb hc, sumL_comm ha hb, sumL_assoc hb ha hc]
/-- closed under sums -/
theorem span_sum : ∀ {rs : List Row}, AscR rs → ∀ {x y : Row}, x ∈ spanL rs → y ∈ spanL rs → sumL x y ∈ spanL rs
  | [], _, x, y, hx, hy => by
    rw [List.mem_singleton.mp hx, List.mem_singleton.mp hy]
    exact List.mem_singleton.mpr rfl
  | r :: rs, hr, x, y, hx, hy => by
    have ih := @span_sum rs hr.tail
    have ha := span_asc hr.tail
    have h0 := hr.head
    unfold spanL at hx hy ⊢
    split at hx
    · rename_i c
      rw [if_pos c] at hy ⊢
      exact ih hx hy
    · rename_i c
      rw [if_neg c] at hy ⊢
      rcases List.mem_append.mp hx with hx | hx
      · rcases List.mem_append.mp hy with hy | hy
        · exact List.mem_append.mpr (.inl (ih hx hy))
        · obtain ⟨y', hy', rfl⟩ := List.mem_map.mp hy
          rw [sumL_swap (ha x hx) h0 (ha y' hy')]
          exact List.mem_append.mpr (.inr (List.mem_map.mpr ⟨_, ih hx hy', rfl⟩))
      · obtain ⟨x', hx', rfl⟩ := List.mem_map.mp hx
        rcases List.mem_append.mp hy with hy | hy
        · rw [sumL_assoc h0 (ha x' hx') (ha y hy)]
          exact List.mem_append.mpr (.inr (List.mem_map.mpr ⟨_, ih hx' hy, rfl⟩))
        · obtain ⟨y', hy', rfl⟩ := List.mem_map.mp hy
          rw [sumL_assoc h0 (ha x' hx') (sumL_asc h0 (ha y' hy')), sumL_swap (ha x' hx') h0 (ha y' hy'), sumL_right h0 (sumL_asc (ha x' hx') (ha y' hy'))]
          exact List.mem_append.mpr (.inl (ih hx' hy'))
theorem span_head {r : Row} {rs : List Row} (h : AscR (r :: rs)) : r ∈ spanL (r :: rs) := by
  unfold spanL
  split
  · assumption
  · refine List.mem_append.mpr (.inr (List.mem_map.mpr ⟨[], nil_span rs, ?_⟩))
    rw [sumL_comm h.head .nil, sumL_nil h.head]
theorem span_tail {r : Row} {rs : List Row} {x : Row} (h : x ∈ spanL rs) : x ∈ spanL (r :: rs) := by
  unfold spanL
  split
  · exact h
  · exact List.mem_append.mpr (.inl h)
theorem span_mem : ∀ {rs : List Row}, AscR rs → ∀ r ∈ rs, r ∈ spanL rs
  | r :: rs, h, x, m => by
    rcases List.mem_cons.mp m with rfl | m
    · exact span_head h
    · exact span_tail (span_mem h.tail x m)
/-- the least that is closed -/
theorem span_sub : ∀ {rs : List Row} {S : Row → Prop}, AscR rs → S [] → (∀ r ∈ rs, ∀ x, Asc x → S x → S (sumL r x)) → ∀ x ∈ spanL rs, S x
  | [], S, _, h0, _, x, m => by
    rw [List.mem_singleton.mp m]
    exact h0
  | r :: rs, S, hr, h0, hs, x, m => by
    have ih := @span_sub rs S hr.tail h0 fun y my => hs y (List.mem_cons_of_mem _ my)
    unfold spanL at m
    split at m
    · exact ih x m
    · rcases List.mem_append.mp m with m | m
      · exact ih x m
      · obtain ⟨y, my, rfl⟩ := List.mem_map.mp m
        exact hs r List.mem_cons_self y (span_asc hr.tail y my) (ih y my)
theorem span_le {rs ss : List Row} (hr : AscR rs) (hs : AscR ss) (h : ∀ r ∈ rs, r ∈ spanL ss) : ∀ x ∈ spanL rs, x ∈ spanL ss :=
  span_sub hr (nil_span ss) fun r m _ _ q => span_sum hs (h r m) q
theorem span_cons {r : Row} {rs : List Row} (h : AscR (r :: rs)) {x : Row} (hx : Asc x) : x ∈ spanL (r :: rs) ↔ x ∈ spanL rs ∨ sumL r x ∈ spanL rs := by
  constructor
  · intro m
    unfold spanL at m
    split at m
    · exact .inl m
    · rcases List.mem_append.mp m with m | m
      · exact .inl m
      · obtain ⟨y, my, rfl⟩ := List.mem_map.mp m
        rw [sumL_right h.head (span_asc h.tail y my)]
        exact .inr my
  · rintro (m | m)
    · exact span_tail m
    · have q := span_sum h (span_head h) (span_tail (r := r) m)
      rw [sumL_right h.head hx] at q
      exact q
theorem span_nodup : ∀ {rs : List Row}, AscR rs → (spanL rs).Nodup
  | [], _ => by
    unfold spanL
    exact List.nodup_cons.mpr ⟨List.not_mem_nil, List.nodup_nil⟩
  | r :: rs, h => by
    have ih := span_nodup h.tail
    have ha := span_asc h.tail
    unfold spanL
    split
    · exact ih
    · rename_i c
      refine List.nodup_append.mpr ⟨ih, ?_, ?_⟩
      · refine List.pairwise_map.mpr (List.Pairwise.imp_of_mem (fun {a b} ma mb ne e => ne ?_) ih)
        rw [← sumL_right h.head (ha a ma), e, sumL_right h.head (ha b mb)]
      · intro a ma b mb e
        subst e
        obtain ⟨y, my, rfl⟩ := List.mem_map.mp mb
        refine c ?_
        have q := span_sum h.tail ma my
        rw [sumL_back h.head (ha y my)] at q
        exact q
theorem span_len : ∀ {rs : List Row}, (spanL rs).length = 2 ^ rk rs
  | [] => rfl
  | r :: rs => by
    unfold spanL rk
    split
    · exact span_len
    · rw [List.length_append, List.length_map, span_len, Nat.pow_succ]
      omega
/-- THE RANK is that of what the rows make -/
theorem rk_ext {rs ss : List Row} (hr : AscR rs) (hs : AscR ss) (h : ∀ x, x ∈ spanL rs ↔ x ∈ spanL ss) : rk rs = rk ss := by
  have p := (List.perm_ext_iff_of_nodup (span_nodup hr) (span_nodup hs)).mpr h
  have e := p.length_eq
  rw [span_len, span_len] at e
  exact (Nat.pow_right_inj (by decide)).mp e
theorem span_ext {rs ss : List Row} (hr : AscR rs) (hs : AscR ss) (h1 : ∀ r ∈ rs, r ∈ spanL ss) (h2 : ∀ r ∈ ss, r ∈ spanL rs) : ∀ x, x ∈ spanL rs ↔ x ∈ spanL ss :=
  fun x => ⟨span_le hr hs h1 x, span_le hs hr h2 x⟩
theorem rk_same {rs ss : List Row} (hr : AscR rs) (h : ∀ r, r ∈ rs ↔ r ∈ ss) : rk rs = rk ss := by
  have hs : AscR ss := fun r m => hr r ((h r).mpr m)
  exact rk_ext hr hs (span_ext hr hs (fun r m => span_mem hs r ((h r).mp m)) fun r m => span_mem hr r ((h r).mpr m))
theorem rk_cons {r : Row} {rs : List Row} : rk (r :: rs) = if r ∈ spanL rs then rk rs else rk rs + 1 := rfl

/-! ### the one way: the first one cleared out of those behind it -/
def clearO (f : Row) (p : Int) (r : Row) : Row := if p ∈ r then sumL r f else r
def full (rs : List Row) : List Row := rs.filter fun r => !r.isEmpty
theorem full_mem {rs : List Row} {r : Row} : r ∈ full rs ↔ r ∈ rs ∧ r ≠ [] := by
  unfold full
  rw [List.mem_filter]
  cases r <;> simp
theorem full_asc {rs : List Row} (h : AscR rs) : AscR (full rs) := fun r m => h r (full_mem.mp m).1
theorem rk_full {rs : List Row} (h : AscR rs) : rk (full rs) = rk rs := by
  refine rk_ext (full_asc h) h (span_ext (full_asc h) h (fun r m => span_mem h r (full_mem.mp m).1) fun r m => ?_)
  by_cases e : r = []
  · rw [e]
    exact nil_span _
  · exact span_mem (full_asc h) r (full_mem.mpr ⟨m, e⟩)
theorem clear_asc {f : Row} {p : Int} {rs : List Row} (hf : Asc f) (h : AscR rs) : AscR (rs.map (clearO f p)) := fun r m => by
  obtain ⟨y, my, rfl⟩ := List.mem_map.mp m
  unfold clearO
  split
  · exact sumL_asc (h y my) hf
  · exact h y my
theorem rk_clear {f : Row} {p : Int} {rs : List Row} (hp : p ∈ f) (h : AscR (f :: rs)) : rk (f :: rs) = rk (rs.map (clearO f p)) + 1 := by
  have hc := clear_asc (p := p) h.head h.tail
  have hh : AscR (f :: rs.map (clearO f p)) := fun r m => by
    rcases List.mem_cons.mp m with rfl | m
    · exact h.head
    · exact hc r m
  have e : rk (f :: rs) = rk (f :: rs.map (clearO f p)) := by
    refine rk_ext h hh (span_ext h hh (fun r m => ?_) fun r m => ?_)
    · rcases List.mem_cons.mp m with rfl | m
      · exact span_head hh
      · have q := span_tail (r := f) (span_mem hc (clearO f p r) (List.mem_map.mpr ⟨r, m, rfl⟩))
        unfold clearO at q
        split at q
        · have z := span_sum hh q (span_head hh)
          rw [sumL_back (h.tail r m) h.head] at z
          exact z
        · exact q
    · rcases List.mem_cons.mp m with rfl | m
      · exact span_head h
      · obtain ⟨y, my, rfl⟩ := List.mem_map.mp m
        have q := span_tail (r := f) (span_mem h.tail y my)
        unfold clearO
        split
        · exact span_sum h q (span_head h)
        · exact q
  rw [e, rk_cons, if_neg]
  intro m
  have no : ∀ x ∈ spanL (rs.map (clearO f p)), p ∉ x := span_sub hc (by simp) fun r mr x _ q z => by
    obtain ⟨y, my, rfl⟩ := List.mem_map.mp mr
    rcases mem_sumL.mp z with ⟨z, _⟩ | ⟨z, _⟩
    · unfold clearO at z
      split at z
      · rename_i c
        rcases mem_sumL.mp z with ⟨_, z⟩ | ⟨_, z⟩
        · exact z hp
        · exact z c
      · rename_i c
        exact c z
    · exact q z
  exact no f m hp

/-! ### the other way: each row cleared by those before it -/
/-- what is left of earlier rows, the last one first: none has the end of one before it -/
inductive Left : List Row → Prop where
  | nil : Left []
  | cons {r : Row} {rs : List Row} {k : Int} : Left rs → Asc r → r.getLast? = some k → (∀ s ∈ rs, ∀ j, s.getLast? = some j → j ∉ r) → Left (r :: rs)
theorem Left.asc : ∀ {rs : List Row}, Left rs → AscR rs
  | _, .nil => fun _ m => absurd m List.not_mem_nil
  | _, .cons h ha _ _ => fun x m => by
    rcases List.mem_cons.mp m with rfl | m
    · exact ha
    · exact h.asc x m
/-- a sum of some of them other than () has one of their ends -/
theorem Left.has : ∀ {rs : List Row}, Left rs → ∀ x ∈ spanL rs, x ≠ [] → ∃ s ∈ rs, ∃ j, s.getLast? = some j ∧ j ∈ x
  | _, .nil, x, m, ne => absurd (List.mem_singleton.mp m) ne
  | _, .cons (r := r) (rs := rs) (k := k) h ha hk no, x, m, ne => by
    have ih := h.has
    have hr := h.asc
    have rx := span_asc (Left.cons h ha hk no).asc x m
    rcases (span_cons (Left.cons h ha hk no).asc rx).mp m with m | m
    · obtain ⟨s, ms, q⟩ := ih x m ne
      exact ⟨s, List.mem_cons_of_mem _ ms, q⟩
    · by_cases e : sumL r x = []
      · have ex : x = r := by
          have := sumL_right ha rx
          rw [e, sumL_nil' ha] at this
          exact this.symm
        subst ex
        exact ⟨x, List.mem_cons_self, k, hk, List.mem_of_getLast? hk⟩
      · obtain ⟨s, ms, j, hj, mj⟩ := ih _ m e
        refine ⟨s, List.mem_cons_of_mem _ ms, j, hj, ?_⟩
        rcases mem_sumL.mp mj with ⟨z, _⟩ | ⟨z, _⟩
        · exact absurd z (no s ms j hj)
        · exact z
theorem Left.rk : ∀ {rs : List Row}, Left rs → rk rs = rs.length
  | _, .nil => rfl
  | _, .cons (r := r) (rs := rs) (k := k) h ha hk no => by
    rw [rk_cons, if_neg, h.rk, List.length_cons]
    intro m
    obtain ⟨s, ms, j, hj, mj⟩ := h.has r m fun e => by rw [e] at hk; cases hk
    exact no s ms j hj mj
/-- x without the ends of those that are left, the first one of them first -/
def sift (ls : List Row) (x : Row) : Row := ls.foldl (fun x l => match l.getLast? with
  | some j => if j ∈ x then sumL x l else x
  | none => x) x
theorem sift_nil (x : Row) : sift [] x = x := rfl
theorem sift_snoc (ls : List Row) (l x : Row) : sift (ls ++ [l]) x = (match l.getLast? with
  | some j => if j ∈ sift ls x then sumL (sift ls x) l else sift ls x
  | none => sift ls x) := by
  unfold sift
  rw [List.foldl_append]
  rfl
theorem sift_ok : ∀ {rs : List Row}, Left rs → ∀ {x : Row}, Asc x → Asc (sift rs.reverse x) ∧ (sumL x (sift rs.reverse x)) ∈ spanL rs ∧ ∀ s ∈ rs, ∀ j, s.getLast? = some j → j ∉ sift rs.reverse x
  | _, .nil, x, hx => ⟨hx, by rw [List.reverse_nil, sift_nil, sumL_self hx]; exact List.mem_singleton.mpr rfl, fun s m => absurd m List.not_mem_nil⟩
  | _, .cons (r := r) (rs := rs) (k := k) h ha hk no, x, hx => by
    obtain ⟨i1, i2, i3⟩ := sift_ok h hx
    have hh := (Left.cons h ha hk no).asc
    rw [List.reverse_cons, sift_snoc, hk]
    show Asc (if k ∈ sift rs.reverse x then _ else _) ∧ sumL x (if k ∈ sift rs.reverse x then _ else _) ∈ _ ∧ ∀ s ∈ r :: rs, ∀ j, s.getLast? = some j → j ∉ (if k ∈ sift rs.reverse x then _ else _)
    by_cases c : k ∈ sift rs.reverse x
    · rw [if_pos c]
      refine ⟨sumL_asc i1 ha, ?_, fun s ms j hj z => ?_⟩
      · rw [← sumL_assoc hx i1 ha]
        exact span_sum hh (span_tail i2) (span_head hh)
      · rcases List.mem_cons.mp ms with rfl | ms
        · rw [hk] at hj
          cases hj
          rcases mem_sumL.mp z with ⟨_, z⟩ | ⟨_, z⟩
          · exact z (List.mem_of_getLast? hk)
          · exact z c
        · rcases mem_sumL.mp z with ⟨z, _⟩ | ⟨z, _⟩
          · exact i3 s ms j hj z
          · exact no s ms j hj z
    · rw [if_neg c]
      refine ⟨i1, span_tail i2, fun s ms j hj => ?_⟩
      rcases List.mem_cons.mp ms with rfl | ms
      · rw [hk] at hj
        cases hj
        exact c
      · exact i3 s ms j hj
/-- nothing is left just of what they make -/
theorem sift_zero {rs : List Row} (h : Left rs) {x : Row} (hx : Asc x) : sift rs.reverse x = [] ↔ x ∈ spanL rs := by
  obtain ⟨i1, i2, i3⟩ := sift_ok h hx
  constructor
  · intro e
    rw [e, sumL_nil' hx] at i2
    exact i2
  · intro m
    apply Classical.byContradiction
    intro ne
    have q : sift rs.reverse x ∈ spanL rs := by
      have z := span_sum h.asc m i2
      rw [sumL_right hx i1] at z
      exact z
    obtain ⟨s, ms, j, hj, mj⟩ := h.has _ q ne
    exact i3 s ms j hj mj
end Bd
/-! N2: what the program's rows are sifted to, and what the laws' own ranks are. -/
namespace Bd
open PySem L2
namespace Pg
def G__cleared : Nv → Rs :=
    (seqS (setS 2 (gv 0))
    (seqS (setS 3 (tupV a0))
    (seqS (forS (iA (gv 1)) (gT 2 (gsC (gN 4) (gsC (gN 5) gs0))) (seqS (ifS (andB (tb (e2 neV' (gv 4) (tupV a0))) (tb (e2 inV' (callV F_last_of (aC (gv 4) a0)) (gv 2)))) (seqS (setS 2 (callV F_added (aC (gv 2) (aC (gv 4) a0))))
    (seqS (setS 3 (callV F_added (aC (gv 3) (aC (gv 5) a0))))
    .nx)) .nx)
    .nx))
    (seqS (retS (tupV (aC (gv 2) (aC (gv 3) a0))))
    .nx))))
def F__cleared : List D → R D := runD 6 (.ok .none) G__cleared
def G_sifted : Nv → Rs :=
    (seqS (ownS 1 (lstV a0))
    (seqS (forS (iEn (aC (gv 0) a0)) (gT 2 (gsC (gN 2) (gsC (gN 3) gs0))) (seqS (asgS (gT 2 (gsC (gN 4) (gsC (gN 5) gs0))) (callO F__cleared (aC (gv 3) (aC (go 1) a0))))
    (seqS (appS 1 (tupV (aC (gv 4) (aC (callV F_added (aC (gv 5) (aC (tupV (aC (gv 2) a0)) a0))) a0))))
    .nx)))
    (seqS (retO 1)
    .nx)))
def F_sifted : List D → R D := runD 6 .no G_sifted
def G_relations : Nv → Rs :=
    (seqS (retS (compE (iA (callV F_sifted (aC (gv 0) a0))) (gT 2 (gsC (gN 1) (gsC (gN 2) gs0))) (tb (e2 eqV' (gv 1) (tupV a0))) (gv 2) [1, 2]))
    .nx)
def F_relations : List D → R D := runD 3 .no G_relations
def G_rank : Nv → Rs :=
    (seqS (retS (e2 subV (eN lenV (aC (gv 0) a0)) (eN lenV (aC (callV F_relations (aC (gv 0) a0)) a0))))
    .nx)
def F_rank : List D → R D := runD 1 (.ok .none) G_rank
def G_made_of : Nv → Rs :=
    (seqS (asgS (gT 2 (gsC (gN 2) (gsC (gN 3) gs0))) (callV F__cleared (aC (gv 1) (aC (callV F_sifted (aC (gv 0) a0)) a0))))
    (seqS (retS (ifV (tb (e2 eqV' (gv 2) (tupV a0))) (gv 3) (k0 .none)))
    .nx))
def F_made_of : List D → R D := runD 4 (.ok .none) G_made_of
def prR (s : Row × Row) : D := .tuple [tupI s.1, tupI s.2]
/-- one step: the row, the indexes -/
def clr1 (a : Row × Row) (s : Row × Row) : Row × Row := match s.1.getLast? with
  | some j => if j ∈ a.1 then (sumL a.1 s.1, sumL a.2 s.2) else a
  | none => a
def clr (st : List (Row × Row)) (x : Row) : Row × Row := st.foldl clr1 (x, [])
structure InP (U V : List Int) (s : Row × Row) : Prop where
  l : InU U s.1
  r : InU V s.2
theorem InP.clr1 {U V : List Int} {a s : Row × Row} (ha : InP U V a) (hs : InP U V s) : InP U V (clr1 a s) := by
  unfold Pg.clr1
  split
  · split
    · exact ⟨ha.l.sum hs.l, ha.r.sum hs.r⟩
    · exact ha
  · exact ha
theorem lastD_some {l : Row} {k : Int} (h : l.getLast? = some k) : lastD l = .int k := by
  unfold lastD
  rw [h]
theorem cleared_loop {U V : List Int} (hU : Asc U) (hV : Asc V) (lU : U.length < 128) (lV : V.length < 128) {x S : D} {N B C : Nv → Prop} {T : D → Nv → Prop} : ∀ (st : List (Row × Row)) (a : Row × Row) (s4 s5 : Sl), (∀ s ∈ st, InP U V s) → InP U V a →
    (∀ s4 s5, N [.d x, .d S, .d (tupI (st.foldl clr1 a).1), .d (tupI (st.foldl clr1 a).2), s4, s5]) →
    Sn (loopG (gT 2 (gsC (gN 4) (gsC (gN 5) gs0))) (seqS (ifS (andB (tb (e2 neV' (gv 4) (tupV a0))) (tb (e2 inV' (callV F_last_of (aC (gv 4) a0)) (gv 2)))) (seqS (setS 2 (callV F_added (aC (gv 2) (aC (gv 4) a0))))
    (seqS (setS 3 (callV F_added (aC (gv 3) (aC (gv 5) a0))))
    .nx)) .nx)
    .nx) (st.map prR) [.d x, .d S, .d (tupI a.1), .d (tupI a.2), s4, s5]) N T B C
  | [], a, s4, s5, _, _, k => sn_nx'.mpr (k s4 s5)
  | s :: st, a, s4, s5, h, ha, k => by
    have hs := h s List.mem_cons_self
    have ih := fun s4 s5 => cleared_loop hU hV lU lV (x := x) (S := S) (N := N) (B := B) (C := C) (T := T) st (clr1 a s) s4 s5 (fun y m => h y (List.mem_cons_of_mem _ m)) (ha.clr1 hs) k
    rw [List.map_cons, loopG_cons (η1 := [.d x, .d S, .d (tupI a.1), .d (tupI a.2), .d (tupI s.1), .d (tupI s.2)]) (h := rfl)]
    have step : Sn ((seqS (ifS (andB (tb (e2 neV' (gv 4) (tupV a0))) (tb (e2 inV' (callV F_last_of (aC (gv 4) a0)) (gv 2)))) (seqS (setS 2 (callV F_added (aC (gv 2) (aC (gv 4) a0))))
      (seqS (setS 3 (callV F_added (aC (gv 3) (aC (gv 5) a0))))
      .nx)) .nx)
      .nx) [.d x, .d S, .d (tupI a.1), .d (tupI a.2), .d (tupI s.1), .d (tupI s.2)]) (fun η => η = [.d x, .d S, .d (tupI (clr1 a s).1), .d (tupI (clr1 a s).2), .d (tupI s.1), .d (tupI s.2)]) (fun _ _ => False) (fun _ => False) (fun _ => False) := by
      simp only [wn_ok, wn_some, wn_only, wn_noex, wn_e2, wn_e1, wn_eN, wn_a0, wn_aC, wn_call, wn_tb, wn_tup, wn_lst, wn_andB, wn_orB, wn_notB, wn_andV, wn_orV, wn_notV, wn_ifV, wn_iA, wn_iR1, wn_iR2, wn_iZ, wn_iEn, wn_iRR, wn_sl, wn_p0, wn_p1, wn_up, wn_upB, wn_upI, wn_x2, wn_x0, wn_xC, wn_xN, wn_xb, wn_xAnd, wn_xOr, wn_xNot, wn_xIf, wn_xCall, wn_xR1, wn_xR2, sn_nx, sn_rt, sn_bk, sn_ct, sn_seq, sn_set, sn_ret, sn_expr, sn_if, sn_for, sn_xSet, sn_xRet, sn_xExpr, sn_xIf, sn_xFor, sn_asg, sn_xAsg, sn_own, sn_xOwn, gv_zero, gv_succ, go_own, go_dat, go_succ, k0_def, gN_def, tru_bool, tru_none, tru_int, tru_list, asSeq_list, asSeq_tup, addV_int, subV_int, ltA_i, leA_i, gtA_i, geA_i, negV_int, intV_int, lenV_list, lenV_tup, ixV_list, ixV_tup, asInt_int, slV_list, slV_tup, slL_list, revV_tup, revV_list, tupleV_list, listV_list, listV_tup, eqV_str, neV_str, eqV_int, List.set_cons_zero, List.set_cons_succ, List.getElem?_cons_zero, List.getElem?_cons_succ, List.length_cons, List.length_nil, ↓reduceIte, Bool.false_eq_true, Bool.not_true, Bool.not_false, wn_ite, gT2, gT3, neV_tup, eqV_tup, in_tup, notin_tup', lineN_eq, Nat.reduceAdd, Nat.reduceLeDiff, Nat.zero_le, true_and, and_true, List.map_nil, List.map_cons, exists_eq_left', Option.some.injEq, PyData.list.injEq, exists_eq_left, PyData.int.injEq, R.ok.injEq, Sl.own.injEq, last_ok, tup_nil]
      cases e : s.1.getLast? with
      | none =>
        have e0 : s.1 = [] := List.getLast?_eq_none_iff.mp e
        have z : clr1 a s = a := by unfold clr1; rw [e]
        rw [e0, z]
        simp
      | some j =>
        have ne : s.1 ≠ [] := fun z => by rw [z] at e; cases e
        rw [lastD_some e, in_tup, decide_eq_false ne]
        simp only [Bool.not_false, ↓reduceIte, wn_some, tru_bool, wn_ok]
        have la := ha.l.len hU
        have ls := hs.l.len hU
        have ra := ha.r.len hV
        have rs := hs.r.len hV
        by_cases c : j ∈ a.1
        · have z : clr1 a s = (sumL a.1 s.1, sumL a.2 s.2) := by unfold clr1; rw [e]; exact if_pos c
          rw [decide_eq_true c, z]
          simp only [↓reduceIte, added_ok ha.l.asc hs.l.asc (by omega) (by omega), added_ok ha.r.asc hs.r.asc (by omega) (by omega), wn_ok]
        · have z : clr1 a s = a := by unfold clr1; rw [e]; exact if_neg c
          rw [decide_eq_false c, z]
          simp
    generalize (seqS (ifS (andB (tb (e2 neV' (gv 4) (tupV a0))) (tb (e2 inV' (callV F_last_of (aC (gv 4) a0)) (gv 2)))) (seqS (setS 2 (callV F_added (aC (gv 2) (aC (gv 4) a0))))
      (seqS (setS 3 (callV F_added (aC (gv 3) (aC (gv 5) a0))))
      .nx)) .nx)
      .nx) = Gb at step ih ⊢
    cases q : Gb [.d x, .d S, .d (tupI a.1), .d (tupI a.2), .d (tupI s.1), .d (tupI s.2)] with
    | nx η =>
      rw [q] at step
      have step := sn_nx'.mp step
      rw [step]
      exact ih _ _
    | _ => rw [q] at step; unfold Sn at step; exact step.elim
theorem cleared_ok {U V : List Int} (hU : Asc U) (hV : Asc V) (lU : U.length < 128) (lV : V.length < 128) {st : List (Row × Row)} {x : Row} (h : ∀ s ∈ st, InP U V s) (hx : InU U x) : F__cleared [tupI x, .list (st.map prR)] = .ok (prR (clr st x)) := by
  refine Wn.eq (wn_runD ?_)
  show Sn (G__cleared [.d (tupI x), .d (.list (st.map prR)), .no, .no, .no, .no]) _ _ _ _
  unfold G__cleared
  simp only [wn_ok, wn_some, wn_only, wn_noex, wn_e2, wn_e1, wn_eN, wn_a0, wn_aC, wn_call, wn_tb, wn_tup, wn_lst, wn_andB, wn_orB, wn_notB, wn_andV, wn_orV, wn_notV, wn_ifV, wn_iA, wn_iR1, wn_iR2, wn_iZ, wn_iEn, wn_iRR, wn_sl, wn_p0, wn_p1, wn_up, wn_upB, wn_upI, wn_x2, wn_x0, wn_xC, wn_xN, wn_xb, wn_xAnd, wn_xOr, wn_xNot, wn_xIf, wn_xCall, wn_xR1, wn_xR2, sn_nx, sn_rt, sn_bk, sn_ct, sn_seq, sn_set, sn_ret, sn_expr, sn_if, sn_for, sn_xSet, sn_xRet, sn_xExpr, sn_xIf, sn_xFor, sn_asg, sn_xAsg, sn_own, sn_xOwn, gv_zero, gv_succ, go_own, go_dat, go_succ, k0_def, gN_def, tru_bool, tru_none, tru_int, tru_list, asSeq_list, asSeq_tup, addV_int, subV_int, ltA_i, leA_i, gtA_i, geA_i, negV_int, intV_int, lenV_list, lenV_tup, ixV_list, ixV_tup, asInt_int, slV_list, slV_tup, slL_list, revV_tup, revV_list, tupleV_list, listV_list, listV_tup, eqV_str, neV_str, eqV_int, List.set_cons_zero, List.set_cons_succ, List.getElem?_cons_zero, List.getElem?_cons_succ, List.length_cons, List.length_nil, ↓reduceIte, Bool.false_eq_true, Bool.not_true, Bool.not_false, wn_ite, gT2, gT3, neV_tup, eqV_tup, in_tup, notin_tup', lineN_eq, Nat.reduceAdd, Nat.reduceLeDiff, Nat.zero_le, true_and, and_true, List.map_nil, List.map_cons, exists_eq_left', Option.some.injEq, PyData.list.injEq, exists_eq_left, PyData.int.injEq, R.ok.injEq, Sl.own.injEq, tup_nil]
  refine cleared_loop hU hV lU lV st (x, []) .no .no h ⟨hx, .nil⟩ fun s4 s5 => ?_
  simp only [wn_ok, wn_some, wn_only, wn_noex, wn_e2, wn_e1, wn_eN, wn_a0, wn_aC, wn_call, wn_tb, wn_tup, wn_lst, wn_andB, wn_orB, wn_notB, wn_andV, wn_orV, wn_notV, wn_ifV, wn_iA, wn_iR1, wn_iR2, wn_iZ, wn_iEn, wn_iRR, wn_sl, wn_p0, wn_p1, wn_up, wn_upB, wn_upI, wn_x2, wn_x0, wn_xC, wn_xN, wn_xb, wn_xAnd, wn_xOr, wn_xNot, wn_xIf, wn_xCall, wn_xR1, wn_xR2, sn_nx, sn_rt, sn_bk, sn_ct, sn_seq, sn_set, sn_ret, sn_expr, sn_if, sn_for, sn_xSet, sn_xRet, sn_xExpr, sn_xIf, sn_xFor, sn_asg, sn_xAsg, sn_own, sn_xOwn, gv_zero, gv_succ, go_own, go_dat, go_succ, k0_def, gN_def, tru_bool, tru_none, tru_int, tru_list, asSeq_list, asSeq_tup, addV_int, subV_int, ltA_i, leA_i, gtA_i, geA_i, negV_int, intV_int, lenV_list, lenV_tup, ixV_list, ixV_tup, asInt_int, slV_list, slV_tup, slL_list, revV_tup, revV_list, tupleV_list, listV_list, listV_tup, eqV_str, neV_str, eqV_int, List.set_cons_zero, List.set_cons_succ, List.getElem?_cons_zero, List.getElem?_cons_succ, List.length_cons, List.length_nil, ↓reduceIte, Bool.false_eq_true, Bool.not_true, Bool.not_false, wn_ite, gT2, gT3, neV_tup, eqV_tup, in_tup, notin_tup', lineN_eq, Nat.reduceAdd, Nat.reduceLeDiff, Nat.zero_le, true_and, and_true, List.map_nil, List.map_cons, exists_eq_left', Option.some.injEq, PyData.list.injEq, exists_eq_left, PyData.int.injEq, R.ok.injEq, Sl.own.injEq]
  rfl
end Pg
end Bd
/-! N3: sifted, relations, rank, made_of. -/
namespace Bd
open PySem L2
namespace Pg
def step1 (st : List (Row × Row)) (p : Row × Nat) : List (Row × Row) := st ++ [((clr st p.1).1, sumL (clr st p.1).2 [(p.2 : Int)])]
def sft (rows : List Row) : List (Row × Row) := rows.zipIdx.foldl step1 []
theorem enumD_rows : ∀ (rows : List Row) (k : Nat), enumD k (rows.map tupI) = (rows.zipIdx k).map fun p => PyData.tuple [.int (p.2 : Int), tupI p.1]
  | [], _ => rfl
  | r :: rows, k => by
    rw [List.zipIdx_cons, List.map_cons, List.map_cons, ← enumD_rows rows (k + 1)]
    rfl
theorem clr_in {U V : List Int} {x : Row} : ∀ {st : List (Row × Row)}, (∀ s ∈ st, InP U V s) → ∀ {a : Row × Row}, InP U V a → InP U V (st.foldl clr1 a)
  | [], _, _, ha => ha
  | s :: st, h, a, ha => clr_in (x := x) (fun y m => h y (List.mem_cons_of_mem _ m)) (ha.clr1 (h s List.mem_cons_self))
theorem upto_asc (n : Nat) : Asc ((List.range n).map fun i : Nat => (i : Int)) := by
  unfold Asc
  rw [List.pairwise_map]
  exact List.pairwise_lt_range.imp fun h => by omega
abbrev uptoI (n : Nat) : List Int := (List.range n).map fun i : Nat => (i : Int)
theorem one_in {n k : Nat} (h : k < n) : InU (uptoI n) [(k : Int)] := ⟨List.pairwise_singleton _ _, fun x m => by
  rw [List.mem_singleton.mp m]
  exact List.mem_map.mpr ⟨k, List.mem_range.mpr h, rfl⟩⟩
theorem step1_in {U : List Int} {n : Nat} {st : List (Row × Row)} {p : Row × Nat} (h : ∀ s ∈ st, InP U (uptoI n) s) (hp : InU U p.1) (hk : p.2 < n) : ∀ s ∈ step1 st p, InP U (uptoI n) s := fun s m => by
  rcases List.mem_append.mp m with m | m
  · exact h s m
  · rw [List.mem_singleton.mp m]
    have q : InP U (uptoI n) (clr st p.1) := clr_in (x := p.1) h ⟨hp, .nil⟩
    exact ⟨q.l, q.r.sum (one_in hk)⟩
theorem sifted_ok {U : List Int} {n : Nat} (hU : Asc U) (lU : U.length < 128) (hn : n < 128) {rows : List Row} (h : ∀ r ∈ rows, InU U r) (hl : rows.length ≤ n) : F_sifted [.list (rows.map tupI)] = .ok (.list ((sft rows).map prR)) ∧ ∀ s ∈ sft rows, InP U (uptoI n) s := by
  have lV : (uptoI n).length < 128 := by rw [List.length_map, List.length_range]; exact hn
  have loop : ∀ (ps : List (Row × Nat)) (st : List (Row × Row)) (s2 s3 s4 s5 : Sl), (∀ s ∈ st, InP U (uptoI n) s) → (∀ p ∈ ps, InU U p.1 ∧ p.2 < n) → st.length + ps.length < 1000 →
      (∀ s ∈ ps.foldl step1 st, InP U (uptoI n) s) ∧ ∀ (S : D) (N B C : Nv → Prop) (T : D → Nv → Prop), (∀ s2 s3 s4 s5, N [.d S, .own ⟨true, (ps.foldl step1 st).map prR⟩, s2, s3, s4, s5]) →
      Sn (loopG (gT 2 (gsC (gN 2) (gsC (gN 3) gs0))) (seqS (asgS (gT 2 (gsC (gN 4) (gsC (gN 5) gs0))) (callO F__cleared (aC (gv 3) (aC (go 1) a0))))
        (seqS (appS 1 (tupV (aC (gv 4) (aC (callV F_added (aC (gv 5) (aC (tupV (aC (gv 2) a0)) a0))) a0))))
        .nx)) (ps.map fun p => PyData.tuple [.int (p.2 : Int), tupI p.1]) [.d S, .own ⟨true, st.map prR⟩, s2, s3, s4, s5]) N T B C := by
    intro ps
    induction ps with
    | nil => exact fun st s2 s3 s4 s5 hst _ _ => ⟨hst, fun S N B C T k => sn_nx'.mpr (k s2 s3 s4 s5)⟩
    | cons p ps ih =>
      intro st s2 s3 s4 s5 hst hps hz
      rw [List.length_cons] at hz
      obtain ⟨p1, p2⟩ := hps p List.mem_cons_self
      have hst' := step1_in hst p1 p2
      obtain ⟨i1, i2⟩ := ih (step1 st p) (.d (.int (p.2 : Int))) (.d (tupI p.1)) (.d (tupI (clr st p.1).1)) (.d (tupI (clr st p.1).2)) hst' (fun q m => hps q (List.mem_cons_of_mem _ m)) (by unfold step1; rw [List.length_append]; simp; omega)
      refine ⟨i1, fun S N B C T k => ?_⟩
      have i2 := i2 S N B C T k
      have cl := cleared_ok hU (upto_asc n) lU lV hst p1
      have q : InP U (uptoI n) (clr st p.1) := clr_in (x := p.1) hst ⟨p1, .nil⟩
      have la := q.r.len (upto_asc n)
      rw [List.map_cons, loopG_cons (η1 := [.d S, .own ⟨true, st.map prR⟩, .d (.int (p.2 : Int)), .d (tupI p.1), s4, s5]) (h := rfl)]
      have body : (seqS (asgS (gT 2 (gsC (gN 4) (gsC (gN 5) gs0))) (callO F__cleared (aC (gv 3) (aC (go 1) a0))))
        (seqS (appS 1 (tupV (aC (gv 4) (aC (callV F_added (aC (gv 5) (aC (tupV (aC (gv 2) a0)) a0))) a0))))
        .nx)) [.d S, .own ⟨true, st.map prR⟩, .d (.int (p.2 : Int)), .d (tupI p.1), s4, s5] = .nx [.d S, .own ⟨true, (step1 st p).map prR⟩, .d (.int (p.2 : Int)), .d (tupI p.1), .d (tupI (clr st p.1).1), .d (tupI (clr st p.1).2)] := by
        have fl : ∀ l : List Int, flatTs (l.map PyData.int) = true := fun l => by
          induction l with
          | nil => rfl
          | cons x l ih => exact ih
        have co : callO F__cleared (aC (gv 3) (aC (go 1) a0)) [.d S, .own ⟨true, st.map prR⟩, .d (.int (p.2 : Int)), .d (tupI p.1), s4, s5] = .ok (prR (clr st p.1)) := by
          show flatR (F__cleared [tupI p.1, .list (st.map prR)]) = _
          rw [cl]
          show (if flatT (prR (clr st p.1)) = true then R.ok (prR (clr st p.1)) else .no) = _
          rw [if_pos]
          show (flatTs ((clr st p.1).1.map PyData.int) && (flatTs ((clr st p.1).2.map PyData.int) && true)) = true
          rw [fl, fl]
          rfl
        rw [seq_nx (η1 := [.d S, .own ⟨true, st.map prR⟩, .d (.int (p.2 : Int)), .d (tupI p.1), .d (tupI (clr st p.1).1), .d (tupI (clr st p.1).2)]) (by
          unfold asgS
          rw [co]
          rfl)]
        have ad : Wn (tupV (aC (gv 4) (aC (callV F_added (aC (gv 5) (aC (tupV (aC (gv 2) a0)) a0))) a0)) [.d S, .own ⟨true, st.map prR⟩, .d (.int (p.2 : Int)), .d (tupI p.1), .d (tupI (clr st p.1).1), .d (tupI (clr st p.1).2)]) (· = prR ((clr st p.1).1, sumL (clr st p.1).2 [(p.2 : Int)])) := by
          simp only [wn_ok, wn_some, wn_only, wn_noex, wn_e2, wn_e1, wn_eN, wn_a0, wn_aC, wn_call, wn_tb, wn_tup, wn_lst, wn_andB, wn_orB, wn_notB, wn_andV, wn_orV, wn_notV, wn_ifV, wn_iA, wn_iR1, wn_iR2, wn_iZ, wn_iEn, wn_iRR, wn_sl, wn_p0, wn_p1, wn_up, wn_upB, wn_upI, wn_x2, wn_x0, wn_xC, wn_xN, wn_xb, wn_xAnd, wn_xOr, wn_xNot, wn_xIf, wn_xCall, wn_xR1, wn_xR2, sn_nx, sn_rt, sn_bk, sn_ct, sn_seq, sn_set, sn_ret, sn_expr, sn_if, sn_for, sn_xSet, sn_xRet, sn_xExpr, sn_xIf, sn_xFor, sn_asg, sn_xAsg, sn_own, sn_xOwn, gv_zero, gv_succ, go_own, go_dat, go_succ, k0_def, gN_def, tru_bool, tru_none, tru_int, tru_list, asSeq_list, asSeq_tup, addV_int, subV_int, ltA_i, leA_i, gtA_i, geA_i, negV_int, intV_int, lenV_list, lenV_tup, ixV_list, ixV_tup, asInt_int, slV_list, slV_tup, slL_list, revV_tup, revV_list, tupleV_list, listV_list, listV_tup, eqV_str, neV_str, eqV_int, List.set_cons_zero, List.set_cons_succ, List.getElem?_cons_zero, List.getElem?_cons_succ, List.length_cons, List.length_nil, ↓reduceIte, Bool.false_eq_true, Bool.not_true, Bool.not_false, wn_ite, gT2, gT3, neV_tup, eqV_tup, in_tup, notin_tup', lineN_eq, Nat.reduceAdd, Nat.reduceLeDiff, Nat.zero_le, true_and, and_true, List.map_nil, List.map_cons, exists_eq_left', Option.some.injEq, PyData.list.injEq, exists_eq_left, PyData.int.injEq, R.ok.injEq, Sl.own.injEq]
          have e := added_ok q.r.asc (one_in p2).asc (by omega) (by simp)
          rw [show F_added [tupI (clr st p.1).2, .tuple [.int (p.2 : Int)]] = _ from e]
          exact wn_ok.mpr rfl
        rw [seqS_def, appS_own 1 _ _ ⟨true, st.map prR⟩ _ rfl ad.eq (by rw [lineN_eq, List.length_map]; omega)]
        unfold step1
        rw [List.map_append]
        rfl
      rw [body]
      exact i2
  obtain ⟨l1, l2⟩ := loop rows.zipIdx [] .no .no .no .no (fun s m => absurd m List.not_mem_nil) (fun p m => by
    obtain ⟨i, hi, e⟩ := List.mem_iff_getElem.mp m
    rw [List.getElem_zipIdx] at e
    subst e
    rw [List.length_zipIdx] at hi
    exact ⟨h _ (List.getElem_mem hi), by show 0 + i < n; omega⟩) (by rw [List.length_zipIdx]; simp; omega)
  refine ⟨Wn.eq (wn_runD ?_), l1⟩
  show Sn (G_sifted [.d (.list (rows.map tupI)), .no, .no, .no, .no, .no]) _ _ _ _
  unfold G_sifted
  simp only [wn_ok, wn_some, wn_only, wn_noex, wn_e2, wn_e1, wn_eN, wn_a0, wn_aC, wn_call, wn_tb, wn_tup, wn_lst, wn_andB, wn_orB, wn_notB, wn_andV, wn_orV, wn_notV, wn_ifV, wn_iA, wn_iR1, wn_iR2, wn_iZ, wn_iEn, wn_iRR, wn_sl, wn_p0, wn_p1, wn_up, wn_upB, wn_upI, wn_x2, wn_x0, wn_xC, wn_xN, wn_xb, wn_xAnd, wn_xOr, wn_xNot, wn_xIf, wn_xCall, wn_xR1, wn_xR2, sn_nx, sn_rt, sn_bk, sn_ct, sn_seq, sn_set, sn_ret, sn_expr, sn_if, sn_for, sn_xSet, sn_xRet, sn_xExpr, sn_xIf, sn_xFor, sn_asg, sn_xAsg, sn_own, sn_xOwn, gv_zero, gv_succ, go_own, go_dat, go_succ, k0_def, gN_def, tru_bool, tru_none, tru_int, tru_list, asSeq_list, asSeq_tup, addV_int, subV_int, ltA_i, leA_i, gtA_i, geA_i, negV_int, intV_int, lenV_list, lenV_tup, ixV_list, ixV_tup, asInt_int, slV_list, slV_tup, slL_list, revV_tup, revV_list, tupleV_list, listV_list, listV_tup, eqV_str, neV_str, eqV_int, List.set_cons_zero, List.set_cons_succ, List.getElem?_cons_zero, List.getElem?_cons_succ, List.length_cons, List.length_nil, ↓reduceIte, Bool.false_eq_true, Bool.not_true, Bool.not_false, wn_ite, gT2, gT3, neV_tup, eqV_tup, in_tup, notin_tup', lineN_eq, Nat.reduceAdd, Nat.reduceLeDiff, Nat.zero_le, true_and, and_true, List.map_nil, List.map_cons, exists_eq_left', Option.some.injEq, PyData.list.injEq, exists_eq_left, PyData.int.injEq, R.ok.injEq, Sl.own.injEq]
  rw [show enum1 [.list (rows.map tupI)] = .ok (rows.zipIdx.map fun p => PyData.tuple [.int (p.2 : Int), tupI p.1]) from congrArg R.ok (enumD_rows rows 0), wn_ok]
  refine l2 _ _ _ _ _ fun s2 s3 s4 s5 => ?_
  exact sn_retO (xs := (sft rows).map prR) rfl rfl
end Pg
end Bd
/-! N4: the rank told by sifting is the rank. -/
namespace Bd
open PySem L2
namespace Pg
theorem clr_sift (st : List (Row × Row)) (x : Row) : (clr st x).1 = sift (st.map Prod.fst) x := by
  have h : ∀ (st : List (Row × Row)) (a : Row × Row), (st.foldl clr1 a).1 = (st.map Prod.fst).foldl (fun x l => match l.getLast? with
      | some j => if j ∈ x then sumL x l else x
      | none => x) a.1 := by
    intro st
    induction st with
    | nil => exact fun _ => rfl
    | cons s st ih =>
      intro a
      rw [List.foldl_cons, ih, List.map_cons, List.foldl_cons]
      congr 1
      unfold clr1
      cases s.1.getLast? with
      | none => rfl
      | some j =>
        show (if j ∈ a.1 then (sumL a.1 s.1, sumL a.2 s.2) else a).1 = if j ∈ a.1 then sumL a.1 s.1 else a.1
        split <;> rfl
  exact h st (x, [])
theorem sift_full : ∀ (ls : List Row) (x : Row), sift (full ls) x = sift ls x
  | [], _ => rfl
  | l :: ls, x => by
    have ih := sift_full ls
    cases l with
    | nil => exact ih x
    | cons k l =>
      show sift ((k :: l) :: full ls) x = sift ((k :: l) :: ls) x
      unfold sift at ih ⊢
      rw [List.foldl_cons, List.foldl_cons]
      exact ih _
/-- what is left and not (), the last one first -/
def ends (st : List (Row × Row)) : List Row := (full (st.map Prod.fst)).reverse
theorem clr_ends (st : List (Row × Row)) (x : Row) : (clr st x).1 = sift (ends st).reverse x := by
  unfold ends
  rw [List.reverse_reverse, sift_full, clr_sift]
theorem sft_snoc (rows : List Row) (r : Row) : sft (rows ++ [r]) = step1 (sft rows) (r, rows.length) := by
  unfold sft
  rw [List.zipIdx_append, List.foldl_append, Nat.zero_add]
  rfl
theorem ends_snoc (st : List (Row × Row)) (s : Row × Row) : ends (st ++ [s]) = if s.1 = [] then ends st else s.1 :: ends st := by
  unfold ends full
  rw [List.map_append, List.filter_append]
  cases h : s.1 with
  | nil => simp [h]
  | cons k l => simp [h]
end Pg
theorem snoc_ind {α : Type} {P : List α → Prop} (nil : P []) (snoc : ∀ l a, P l → P (l ++ [a])) (l : List α) : P l := by
  have h : ∀ l : List α, P l.reverse := fun l => by
    induction l with
    | nil => exact nil
    | cons a l ih =>
      rw [List.reverse_cons]
      exact snoc _ a ih
  have := h l.reverse
  rw [List.reverse_reverse] at this
  exact this
namespace Pg
theorem sft_len (rows : List Row) : (sft rows).length = rows.length := by
  refine snoc_ind (P := fun rows : List Row => (sft rows).length = rows.length) rfl (fun rows r ih => ?_) rows
  rw [sft_snoc]
  unfold step1
  rw [List.length_append, List.length_append, ih]
  rfl
theorem snoc_asc {rows : List Row} {r : Row} (h : AscR (rows ++ [r])) : AscR rows ∧ Asc r := ⟨fun x m => h x (List.mem_append_left _ m), h r (List.mem_append_right _ (List.mem_singleton.mpr rfl))⟩
theorem sft_left (rows : List Row) : AscR rows → Left (ends (sft rows)) ∧ ∀ x, x ∈ spanL (ends (sft rows)) ↔ x ∈ spanL rows := by
  refine snoc_ind (P := fun rows => AscR rows → Left (ends (sft rows)) ∧ ∀ x, x ∈ spanL (ends (sft rows)) ↔ x ∈ spanL rows) (fun _ => ⟨.nil, fun _ => Iff.rfl⟩) (fun rows r ih h => ?_) rows
  obtain ⟨ha, hr⟩ := snoc_asc h
  obtain ⟨i1, i2⟩ := ih ha
  obtain ⟨y1, y2, y3⟩ := sift_ok i1 hr
  have e : sft (rows ++ [r]) = sft rows ++ [(sift (ends (sft rows)).reverse r, sumL (clr (sft rows) r).2 [(rows.length : Int)])] := by
    rw [sft_snoc, ← clr_ends]
    rfl
  rw [e, ends_snoc]
  generalize hy : sift (ends (sft rows)).reverse r = y at y1 y2 y3 ⊢
  have rin : ∀ x ∈ rows, x ∈ spanL (rows ++ [r]) := fun x m => span_mem h x (List.mem_append_left _ m)
  have rin' : r ∈ spanL (rows ++ [r]) := span_mem h r (List.mem_append_right _ (List.mem_singleton.mpr rfl))
  have up : ∀ x, x ∈ spanL (ends (sft rows)) → x ∈ spanL (rows ++ [r]) := fun x m => span_le ha h rin x ((i2 x).mp m)
  show Left (if y = [] then _ else _) ∧ ∀ x, x ∈ spanL (if y = [] then _ else _) ↔ _
  by_cases c : y = []
  · rw [if_pos c]
    refine ⟨i1, span_ext i1.asc h (fun x m => up x (span_mem i1.asc x m)) fun x m => ?_⟩
    rcases List.mem_append.mp m with m | m
    · exact (i2 x).mpr (span_mem ha x m)
    · rw [List.mem_singleton.mp m]
      exact (sift_zero i1 hr).mp (hy.trans c)
  · rw [if_neg c]
    obtain ⟨k, hk⟩ : ∃ k, y.getLast? = some k := by
      cases q : y.getLast? with
      | none => exact absurd (List.getLast?_eq_none_iff.mp q) c
      | some k => exact ⟨k, rfl⟩
    have L : Left (y :: ends (sft rows)) := .cons i1 y1 hk y3
    refine ⟨L, span_ext L.asc h (fun x m => ?_) fun x m => ?_⟩
    · rcases List.mem_cons.mp m with rfl | m
      · have z := span_sum h rin' (up _ y2)
        rw [sumL_right hr y1] at z
        exact z
      · exact up x (span_mem i1.asc x m)
    · rcases List.mem_append.mp m with m | m
      · exact span_tail ((i2 x).mpr (span_mem ha x m))
      · rw [List.mem_singleton.mp m]
        have z := span_sum L.asc (span_tail (r := y) y2) (span_head L.asc)
        rw [sumL_back hr y1] at z
        exact z
theorem ends_rk {rows : List Row} (h : AscR rows) : (ends (sft rows)).length = rk rows := by
  obtain ⟨i1, i2⟩ := sft_left rows h
  rw [← i1.rk]
  exact rk_ext i1.asc h i2
/-- those of which nothing is left -/
def bare (st : List (Row × Row)) : List (Row × Row) := st.filter fun s => decide (s.1 = [])
theorem bare_len (st : List (Row × Row)) : (bare st).length + (ends st).length = st.length := by
  unfold ends full bare
  rw [List.length_reverse]
  induction st with
  | nil => rfl
  | cons s st ih =>
    cases h : s.1 with
    | nil => simp [h] at ih ⊢; omega
    | cons k l => simp [h] at ih ⊢; omega
theorem relations_ok {U : List Int} {n : Nat} (hU : Asc U) (lU : U.length < 128) (hn : n < 128) {rows : List Row} (h : ∀ r ∈ rows, InU U r) (hl : rows.length ≤ n) : F_relations [.list (rows.map tupI)] = .ok (.list ((bare (sft rows)).map fun s => tupI s.2)) := by
  obtain ⟨e, hs⟩ := sifted_ok hU lU hn h hl
  refine Wn.eq (wn_runD ?_)
  show Sn (G_relations [.d (.list (rows.map tupI)), .no, .no]) _ _ _ _
  unfold G_relations
  simp only [wn_ok, wn_some, wn_only, wn_noex, wn_e2, wn_e1, wn_eN, wn_a0, wn_aC, wn_call, wn_tb, wn_tup, wn_lst, wn_andB, wn_orB, wn_notB, wn_andV, wn_orV, wn_notV, wn_ifV, wn_iA, wn_iR1, wn_iR2, wn_iZ, wn_iEn, wn_iRR, wn_sl, wn_p0, wn_p1, wn_up, wn_upB, wn_upI, wn_x2, wn_x0, wn_xC, wn_xN, wn_xb, wn_xAnd, wn_xOr, wn_xNot, wn_xIf, wn_xCall, wn_xR1, wn_xR2, sn_nx, sn_rt, sn_bk, sn_ct, sn_seq, sn_set, sn_ret, sn_expr, sn_if, sn_for, sn_xSet, sn_xRet, sn_xExpr, sn_xIf, sn_xFor, sn_asg, sn_xAsg, sn_own, sn_xOwn, gv_zero, gv_succ, go_own, go_dat, go_succ, k0_def, gN_def, tru_bool, tru_none, tru_int, tru_list, asSeq_list, asSeq_tup, addV_int, subV_int, ltA_i, leA_i, gtA_i, geA_i, negV_int, intV_int, lenV_list, lenV_tup, ixV_list, ixV_tup, asInt_int, slV_list, slV_tup, slL_list, revV_tup, revV_list, tupleV_list, listV_list, listV_tup, eqV_str, neV_str, eqV_int, List.set_cons_zero, List.set_cons_succ, List.getElem?_cons_zero, List.getElem?_cons_succ, List.length_cons, List.length_nil, ↓reduceIte, Bool.false_eq_true, Bool.not_true, Bool.not_false, wn_ite, gT2, gT3, neV_tup, eqV_tup, in_tup, notin_tup', lineN_eq, Nat.reduceAdd, Nat.reduceLeDiff, Nat.zero_le, true_and, and_true, List.map_nil, List.map_cons, exists_eq_left', Option.some.injEq, PyData.list.injEq, exists_eq_left, PyData.int.injEq, R.ok.injEq, Sl.own.injEq]
  refine wn_comp (xs := (sft rows).map prR) (fun d => match d with | .tuple [.tuple [], _] => true | _ => false) (fun d => match d with | .tuple [_, y] => y | _ => .none) ?_ ?_ ?_ ?_
  · simp only [wn_ok, wn_some, wn_only, wn_noex, wn_e2, wn_e1, wn_eN, wn_a0, wn_aC, wn_call, wn_tb, wn_tup, wn_lst, wn_andB, wn_orB, wn_notB, wn_andV, wn_orV, wn_notV, wn_ifV, wn_iA, wn_iR1, wn_iR2, wn_iZ, wn_iEn, wn_iRR, wn_sl, wn_p0, wn_p1, wn_up, wn_upB, wn_upI, wn_x2, wn_x0, wn_xC, wn_xN, wn_xb, wn_xAnd, wn_xOr, wn_xNot, wn_xIf, wn_xCall, wn_xR1, wn_xR2, sn_nx, sn_rt, sn_bk, sn_ct, sn_seq, sn_set, sn_ret, sn_expr, sn_if, sn_for, sn_xSet, sn_xRet, sn_xExpr, sn_xIf, sn_xFor, sn_asg, sn_xAsg, sn_own, sn_xOwn, gv_zero, gv_succ, go_own, go_dat, go_succ, k0_def, gN_def, tru_bool, tru_none, tru_int, tru_list, asSeq_list, asSeq_tup, addV_int, subV_int, ltA_i, leA_i, gtA_i, geA_i, negV_int, intV_int, lenV_list, lenV_tup, ixV_list, ixV_tup, asInt_int, slV_list, slV_tup, slL_list, revV_tup, revV_list, tupleV_list, listV_list, listV_tup, eqV_str, neV_str, eqV_int, List.set_cons_zero, List.set_cons_succ, List.getElem?_cons_zero, List.getElem?_cons_succ, List.length_cons, List.length_nil, ↓reduceIte, Bool.false_eq_true, Bool.not_true, Bool.not_false, wn_ite, gT2, gT3, neV_tup, eqV_tup, in_tup, notin_tup', lineN_eq, Nat.reduceAdd, Nat.reduceLeDiff, Nat.zero_le, true_and, and_true, List.map_nil, List.map_cons, exists_eq_left', Option.some.injEq, PyData.list.injEq, exists_eq_left, PyData.int.injEq, R.ok.injEq, Sl.own.injEq]
    rw [e]
    exact wn_ok.mpr (wn_ok.mpr rfl)
  · intro x m
    obtain ⟨s, ms, rfl⟩ := List.mem_map.mp m
    refine ⟨_, rfl, ?_⟩
    show Wn (tb (e2 eqV' (gv 1) (tupV a0)) [.d (.list (rows.map tupI)), .d (tupI s.1), .d (tupI s.2)]) _
    simp only [wn_ok, wn_some, wn_only, wn_noex, wn_e2, wn_e1, wn_eN, wn_a0, wn_aC, wn_call, wn_tb, wn_tup, wn_lst, wn_andB, wn_orB, wn_notB, wn_andV, wn_orV, wn_notV, wn_ifV, wn_iA, wn_iR1, wn_iR2, wn_iZ, wn_iEn, wn_iRR, wn_sl, wn_p0, wn_p1, wn_up, wn_upB, wn_upI, wn_x2, wn_x0, wn_xC, wn_xN, wn_xb, wn_xAnd, wn_xOr, wn_xNot, wn_xIf, wn_xCall, wn_xR1, wn_xR2, sn_nx, sn_rt, sn_bk, sn_ct, sn_seq, sn_set, sn_ret, sn_expr, sn_if, sn_for, sn_xSet, sn_xRet, sn_xExpr, sn_xIf, sn_xFor, sn_asg, sn_xAsg, sn_own, sn_xOwn, gv_zero, gv_succ, go_own, go_dat, go_succ, k0_def, gN_def, tru_bool, tru_none, tru_int, tru_list, asSeq_list, asSeq_tup, addV_int, subV_int, ltA_i, leA_i, gtA_i, geA_i, negV_int, intV_int, lenV_list, lenV_tup, ixV_list, ixV_tup, asInt_int, slV_list, slV_tup, slL_list, revV_tup, revV_list, tupleV_list, listV_list, listV_tup, eqV_str, neV_str, eqV_int, List.set_cons_zero, List.set_cons_succ, List.getElem?_cons_zero, List.getElem?_cons_succ, List.length_cons, List.length_nil, ↓reduceIte, Bool.false_eq_true, Bool.not_true, Bool.not_false, wn_ite, gT2, gT3, neV_tup, eqV_tup, in_tup, notin_tup', lineN_eq, Nat.reduceAdd, Nat.reduceLeDiff, Nat.zero_le, true_and, and_true, List.map_nil, List.map_cons, exists_eq_left', Option.some.injEq, PyData.list.injEq, exists_eq_left, PyData.int.injEq, R.ok.injEq, Sl.own.injEq, tup_nil]
    refine ⟨?_, fun hb => Wn.mk rfl rfl⟩
    cases q : s.1 with
    | nil =>
      unfold prR
      rw [q]
      rfl
    | cons k l =>
      unfold prR
      rw [q]
      rfl
  · rw [List.length_map, sft_len, lineN_eq]
    omega
  · show PyData.list _ = PyData.list _
    congr 1
    unfold bare
    rw [List.filter_map, List.map_map]
    have f1 : ((fun d : D => match d with | .tuple [.tuple [], _] => true | _ => false) ∘ prR) = fun s : Row × Row => decide (s.1 = []) := funext fun s => by
      show (match prR s with | .tuple [.tuple [], _] => true | _ => false) = _
      unfold prR
      cases s.1 <;> rfl
    rw [f1]
    rfl
theorem rank_ok {U : List Int} {n : Nat} (hU : Asc U) (lU : U.length < 128) (hn : n < 128) {rows : List Row} (h : ∀ r ∈ rows, InU U r) (hl : rows.length ≤ n) : F_rank [.list (rows.map tupI)] = .ok (.int (rk rows : Nat)) := by
  refine Wn.eq (wn_runD ?_)
  show Sn (G_rank [.d (.list (rows.map tupI))]) _ _ _ _
  unfold G_rank
  simp only [wn_ok, wn_some, wn_only, wn_noex, wn_e2, wn_e1, wn_eN, wn_a0, wn_aC, wn_call, wn_tb, wn_tup, wn_lst, wn_andB, wn_orB, wn_notB, wn_andV, wn_orV, wn_notV, wn_ifV, wn_iA, wn_iR1, wn_iR2, wn_iZ, wn_iEn, wn_iRR, wn_sl, wn_p0, wn_p1, wn_up, wn_upB, wn_upI, wn_x2, wn_x0, wn_xC, wn_xN, wn_xb, wn_xAnd, wn_xOr, wn_xNot, wn_xIf, wn_xCall, wn_xR1, wn_xR2, sn_nx, sn_rt, sn_bk, sn_ct, sn_seq, sn_set, sn_ret, sn_expr, sn_if, sn_for, sn_xSet, sn_xRet, sn_xExpr, sn_xIf, sn_xFor, sn_asg, sn_xAsg, sn_own, sn_xOwn, gv_zero, gv_succ, go_own, go_dat, go_succ, k0_def, gN_def, tru_bool, tru_none, tru_int, tru_list, asSeq_list, asSeq_tup, addV_int, subV_int, ltA_i, leA_i, gtA_i, geA_i, negV_int, intV_int, lenV_list, lenV_tup, ixV_list, ixV_tup, asInt_int, slV_list, slV_tup, slL_list, revV_tup, revV_list, tupleV_list, listV_list, listV_tup, eqV_str, neV_str, eqV_int, List.set_cons_zero, List.set_cons_succ, List.getElem?_cons_zero, List.getElem?_cons_succ, List.length_cons, List.length_nil, ↓reduceIte, Bool.false_eq_true, Bool.not_true, Bool.not_false, wn_ite, gT2, gT3, neV_tup, eqV_tup, in_tup, notin_tup', lineN_eq, Nat.reduceAdd, Nat.reduceLeDiff, Nat.zero_le, true_and, and_true, List.map_nil, List.map_cons, exists_eq_left', Option.some.injEq, PyData.list.injEq, exists_eq_left, PyData.int.injEq, R.ok.injEq, Sl.own.injEq, relations_ok hU lU hn h hl, List.length_map]
  have a := bare_len (sft rows)
  rw [ends_rk fun r m => (h r m).asc, sft_len] at a
  omega
end Pg
end Bd
/-! N5: the laws' own sums, ranks and rows. -/
namespace Bd
open PySem L2
namespace Rk
def G__law_sum : Nv → Rs :=
    (seqS (setS 2 (compE (iA (gv 0)) (gN 3) (tb (e2 ninV' (gv 3) (gv 1))) (gv 3) [3]))
    (seqS (retS (eN tupleV (aC (eN sortAV (aC (e2 addV (gv 2) (compE (iA (gv 1)) (gN 3) (tb (e2 ninV' (gv 3) (gv 0))) (gv 3) [3])) a0)) a0)))
    .nx))
def F__law_sum : List D → R D := runD 4 (.ok .none) G__law_sum
def G__law_sums : Nv → Rs :=
    (seqS (setS 1 (tupV a0))
    (seqS (forS (iA (gv 0)) (gN 2) (seqS (setS 1 (callV F__law_sum (aC (gv 1) (aC (gv 2) a0))))
    .nx))
    (seqS (retS (gv 1))
    .nx)))
def F__law_sums : List D → R D := runD 3 (.ok .none) G__law_sums
def G__law_rank : Nv → Rs :=
    (seqS (setS 1 (compE (iA (gv 0)) (gN 6) (tb (e2 neV' (gv 6) (tupV a0))) (gv 6) [6]))
    (seqS (setS 2 (k0 (.int 0)))
    (seqS (forS (iR1 (aC (eN lenV (aC (gv 0) a0)) a0)) (gN 3) (seqS (ifS (tb (e2 gtA (eN lenV (aC (gv 1) a0)) (k0 (.int 0)))) (seqS (setS 4 (e2 ixV (gv 1) (k0 (.int 0))))
    (seqS (setS 5 (compE (iA (slE slV (gv 1) (p1 (k0 (.int 1))) p0)) (gN 6) (fun _ => .ok true) (ifV (tb (e2 inV' (e2 ixV (gv 4) (k0 (.int 0))) (gv 6))) (callV F__law_sum (aC (gv 6) (aC (gv 4) a0))) (gv 6)) [6]))
    (seqS (setS 1 (compE (iA (gv 5)) (gN 6) (tb (e2 neV' (gv 6) (tupV a0))) (gv 6) [6]))
    (seqS (setS 2 (e2 addV (gv 2) (k0 (.int 1))))
    .nx)))) .nx)
    .nx))
    (seqS (retS (gv 2))
    .nx))))
def F__law_rank : List D → R D := runD 7 (.ok .none) G__law_rank
def G__law_row : Nv → Rs :=
    (seqS (xRet (xN tupleV (xC (xComp (upI (iR1 (aC (gv 1) a0))) (gN 4) (xb (x2 eqV' (xCallK 0 Dk.F_draw (xC (up (k0 (.int 3))) x0)) (up (k0 (.int 0))))) (up (e2 mulV (gv 2) (e2 subV (gv 4) (gv 3)))) [4]) x0)))
    .nx)
def F__law_row : List D → List D → R (D × List D) := runK 5 G__law_row
def G__law_rows : Nv → Rs :=
    (seqS (xSet 2 (xCallK 0 Dk.F_draw (xC (up (k0 (.int 13))) x0)))
    (seqS (xSet 3 (x2 ixV (up (lstV (aC (k0 (.int 1)) (aC (k0 (.int 1)) (aC (k0 (.int 1000003)) a0))))) (xCallK 0 Dk.F_draw (xC (up (k0 (.int 3))) x0))))
    (seqS (xSet 4 (x2 ixV (up (lstV (aC (k0 (.int 0)) (aC (k0 (.int 0)) (aC (k0 (.int 4)) (aC (k0 (.int 13)) a0)))))) (xCallK 0 Dk.F_draw (xC (up (k0 (.int 4))) x0))))
    (seqS (ownS 5 (lstV a0))
    (seqS (xFor (xR1 (xC (xCallK 0 Dk.F_draw (xC (up (e2 addV (gv 1) (k0 (.int 1)))) x0)) x0)) (gN 6) (seqS (xSet 7 (xCallK 0 F__law_row (xC (up (gv 2)) (xC (up (gv 3)) (xC (up (gv 4)) x0)))))
    (seqS (xIfS (xAnd (upB (tb (e2 gtA (eN lenV (aC (go 5) a0)) (k0 (.int 0))))) (xb (x2 eqV' (xCallK 0 Dk.F_draw (xC (up (k0 (.int 3))) x0)) (up (k0 (.int 0)))))) (seqS (xSet 7 (xCall F__law_sums (xC (xCompO 5 (gN 8) (xb (x2 eqV' (xCallK 0 Dk.F_draw (xC (up (k0 (.int 2))) x0)) (up (k0 (.int 0))))) (up (gv 8)) [8]) x0)))
    .nx) .nx)
    (seqS (appS 5 (gv 7))
    .nx))))
    (seqS (frzS 5)
    (seqS (retS (gv 5))
    .nx)))))))
def F__law_rows : List D → List D → R (D × List D) := runK 9 G__law_rows
theorem lsum_ok {a b : List Int} (ha : a.length ≤ 1000) (hb : b.length ≤ 1000) : F__law_sum [tupI a, tupI b] = .ok (tupI (sumL a b)) := by
  have c1 := pick_ok (so := 0) (sp := 1) (sk := 3) (η := [.d (tupI a), .d (tupI b), .no, .no]) (a := a) (b := b) rfl (fun _ => rfl) (fun _ => rfl) (by omega)
  have c2 := pick_ok (so := 1) (sp := 0) (sk := 3) (η := [.d (tupI a), .d (tupI b), .d (.list ((a.filter (notIn b)).map PyData.int)), .no]) (a := b) (b := a) rfl (fun _ => rfl) (fun _ => rfl) (by omega)
  have l1 := List.length_filter_le (notIn b) a
  have l2 := List.length_filter_le (notIn a) b
  have ad : addV (.list ((a.filter (notIn b)).map PyData.int)) (.list ((b.filter (notIn a)).map PyData.int)) = some (.list ((a.filter (notIn b) ++ b.filter (notIn a)).map PyData.int)) := by
    rw [addV_list (by rw [List.length_map, List.length_map]; omega), List.map_append]
  refine Wn.eq (wn_runD ?_)
  show Sn (G__law_sum [.d (tupI a), .d (tupI b), .no, .no]) _ _ _ _
  unfold G__law_sum
  rw [seq_nx (η1 := [.d (tupI a), .d (tupI b), .d (.list ((a.filter (notIn b)).map PyData.int)), .no]) (by rw [setS_def, c1]; rfl)]
  simp only [wn_ok, wn_some, wn_only, wn_noex, wn_e2, wn_e1, wn_eN, wn_a0, wn_aC, wn_call, wn_tb, wn_tup, wn_lst, wn_andB, wn_orB, wn_notB, wn_andV, wn_orV, wn_notV, wn_ifV, wn_iA, wn_iR1, wn_iR2, wn_iZ, wn_iEn, wn_iRR, wn_sl, wn_p0, wn_p1, wn_up, wn_upB, wn_upI, wn_x2, wn_x0, wn_xC, wn_xN, wn_xb, wn_xAnd, wn_xOr, wn_xNot, wn_xIf, wn_xCall, wn_xR1, wn_xR2, sn_nx, sn_rt, sn_bk, sn_ct, sn_seq, sn_set, sn_ret, sn_expr, sn_if, sn_for, sn_xSet, sn_xRet, sn_xExpr, sn_xIf, sn_xFor, sn_asg, sn_xAsg, sn_own, sn_xOwn, gv_zero, gv_succ, go_own, go_dat, go_succ, k0_def, gN_def, tru_bool, tru_none, tru_int, tru_list, asSeq_list, asSeq_tup, addV_int, subV_int, ltA_i, leA_i, gtA_i, geA_i, negV_int, intV_int, lenV_list, lenV_tup, ixV_list, ixV_tup, asInt_int, slV_list, slV_tup, slL_list, revV_tup, revV_list, tupleV_list, listV_list, listV_tup, eqV_str, neV_str, eqV_int, List.set_cons_zero, List.set_cons_succ, List.getElem?_cons_zero, List.getElem?_cons_succ, List.length_cons, List.length_nil, ↓reduceIte, Bool.false_eq_true, Bool.not_true, Bool.not_false, wn_ite, gT2, gT3, neV_tup, eqV_tup, in_tup, notin_tup', lineN_eq, Nat.reduceAdd, Nat.reduceLeDiff, Nat.zero_le, true_and, and_true, List.map_nil, List.map_cons, exists_eq_left', Option.some.injEq, PyData.list.injEq, exists_eq_left, PyData.int.injEq, R.ok.injEq, Sl.own.injEq, c2, ad, sortAV_ints]
  rfl
theorem fold_in {U : List Int} : ∀ {rs : List Row} {a : Row}, (∀ r ∈ rs, InU U r) → InU U a → InU U (rs.foldl sumL a)
  | [], _, _, ha => ha
  | r :: rs, a, h, ha => fold_in (rs := rs) (a := sumL a r) (fun x m => h x (List.mem_cons_of_mem _ m)) (ha.sum (h r List.mem_cons_self))
theorem lsums_ok {U : List Int} (hU : Asc U) (lU : U.length < 128) {rows : List Row} (h : ∀ r ∈ rows, InU U r) : F__law_sums [.list (rows.map tupI)] = .ok (tupI (rows.foldl sumL [])) := by
  refine Wn.eq (wn_runD ?_)
  show Sn (G__law_sums [.d (.list (rows.map tupI)), .no, .no]) _ _ _ _
  unfold G__law_sums
  simp only [wn_ok, wn_some, wn_only, wn_noex, wn_e2, wn_e1, wn_eN, wn_a0, wn_aC, wn_call, wn_tb, wn_tup, wn_lst, wn_andB, wn_orB, wn_notB, wn_andV, wn_orV, wn_notV, wn_ifV, wn_iA, wn_iR1, wn_iR2, wn_iZ, wn_iEn, wn_iRR, wn_sl, wn_p0, wn_p1, wn_up, wn_upB, wn_upI, wn_x2, wn_x0, wn_xC, wn_xN, wn_xb, wn_xAnd, wn_xOr, wn_xNot, wn_xIf, wn_xCall, wn_xR1, wn_xR2, sn_nx, sn_rt, sn_bk, sn_ct, sn_seq, sn_set, sn_ret, sn_expr, sn_if, sn_for, sn_xSet, sn_xRet, sn_xExpr, sn_xIf, sn_xFor, sn_asg, sn_xAsg, sn_own, sn_xOwn, gv_zero, gv_succ, go_own, go_dat, go_succ, k0_def, gN_def, tru_bool, tru_none, tru_int, tru_list, asSeq_list, asSeq_tup, addV_int, subV_int, ltA_i, leA_i, gtA_i, geA_i, negV_int, intV_int, lenV_list, lenV_tup, ixV_list, ixV_tup, asInt_int, slV_list, slV_tup, slL_list, revV_tup, revV_list, tupleV_list, listV_list, listV_tup, eqV_str, neV_str, eqV_int, List.set_cons_zero, List.set_cons_succ, List.getElem?_cons_zero, List.getElem?_cons_succ, List.length_cons, List.length_nil, ↓reduceIte, Bool.false_eq_true, Bool.not_true, Bool.not_false, wn_ite, gT2, gT3, neV_tup, eqV_tup, in_tup, notin_tup', lineN_eq, Nat.reduceAdd, Nat.reduceLeDiff, Nat.zero_le, true_and, and_true, List.map_nil, List.map_cons, exists_eq_left', Option.some.injEq, PyData.list.injEq, exists_eq_left, PyData.int.injEq, R.ok.injEq, Sl.own.injEq, tup_nil]
  refine sn_loop (fun rest η => ∃ (rs : List Row) (a : Row) (s2 : Sl), rest = rs.map tupI ∧ (∀ r ∈ rs, InU U r) ∧ InU U a ∧ rs.foldl sumL a = rows.foldl sumL [] ∧ η = [.d (.list (rows.map tupI)), .d (tupI a), s2]) ?_ ?_ _ _ ⟨rows, [], .no, rfl, h, .nil, rfl, rfl⟩
  · rintro x rest η ⟨rs, a, s2, e, hrs, ha, hf, rfl⟩
    cases rs with
    | nil => cases e
    | cons r rs =>
      rw [List.map_cons] at e
      obtain ⟨rfl, rfl⟩ := List.cons.inj e
      have hr := hrs r List.mem_cons_self
      have l1 := ha.len hU
      have l2 := hr.len hU
      refine ⟨_, rfl, ?_⟩
      simp only [wn_ok, wn_some, wn_only, wn_noex, wn_e2, wn_e1, wn_eN, wn_a0, wn_aC, wn_call, wn_tb, wn_tup, wn_lst, wn_andB, wn_orB, wn_notB, wn_andV, wn_orV, wn_notV, wn_ifV, wn_iA, wn_iR1, wn_iR2, wn_iZ, wn_iEn, wn_iRR, wn_sl, wn_p0, wn_p1, wn_up, wn_upB, wn_upI, wn_x2, wn_x0, wn_xC, wn_xN, wn_xb, wn_xAnd, wn_xOr, wn_xNot, wn_xIf, wn_xCall, wn_xR1, wn_xR2, sn_nx, sn_rt, sn_bk, sn_ct, sn_seq, sn_set, sn_ret, sn_expr, sn_if, sn_for, sn_xSet, sn_xRet, sn_xExpr, sn_xIf, sn_xFor, sn_asg, sn_xAsg, sn_own, sn_xOwn, gv_zero, gv_succ, go_own, go_dat, go_succ, k0_def, gN_def, tru_bool, tru_none, tru_int, tru_list, asSeq_list, asSeq_tup, addV_int, subV_int, ltA_i, leA_i, gtA_i, geA_i, negV_int, intV_int, lenV_list, lenV_tup, ixV_list, ixV_tup, asInt_int, slV_list, slV_tup, slL_list, revV_tup, revV_list, tupleV_list, listV_list, listV_tup, eqV_str, neV_str, eqV_int, List.set_cons_zero, List.set_cons_succ, List.getElem?_cons_zero, List.getElem?_cons_succ, List.length_cons, List.length_nil, ↓reduceIte, Bool.false_eq_true, Bool.not_true, Bool.not_false, wn_ite, gT2, gT3, neV_tup, eqV_tup, in_tup, notin_tup', lineN_eq, Nat.reduceAdd, Nat.reduceLeDiff, Nat.zero_le, true_and, and_true, List.map_nil, List.map_cons, exists_eq_left', Option.some.injEq, PyData.list.injEq, exists_eq_left, PyData.int.injEq, R.ok.injEq, Sl.own.injEq, lsum_ok (show a.length ≤ 1000 by omega) (show r.length ≤ 1000 by omega)]
      exact ⟨rs, sumL a r, .d (tupI r), rfl, fun y m => hrs y (List.mem_cons_of_mem _ m), ha.sum hr, hf, rfl⟩
  · rintro η ⟨rs, a, s2, e, hrs, ha, hf, rfl⟩
    cases rs with
    | cons r rs => cases e
    | nil =>
      simp only [wn_ok, wn_some, wn_only, wn_noex, wn_e2, wn_e1, wn_eN, wn_a0, wn_aC, wn_call, wn_tb, wn_tup, wn_lst, wn_andB, wn_orB, wn_notB, wn_andV, wn_orV, wn_notV, wn_ifV, wn_iA, wn_iR1, wn_iR2, wn_iZ, wn_iEn, wn_iRR, wn_sl, wn_p0, wn_p1, wn_up, wn_upB, wn_upI, wn_x2, wn_x0, wn_xC, wn_xN, wn_xb, wn_xAnd, wn_xOr, wn_xNot, wn_xIf, wn_xCall, wn_xR1, wn_xR2, sn_nx, sn_rt, sn_bk, sn_ct, sn_seq, sn_set, sn_ret, sn_expr, sn_if, sn_for, sn_xSet, sn_xRet, sn_xExpr, sn_xIf, sn_xFor, sn_asg, sn_xAsg, sn_own, sn_xOwn, gv_zero, gv_succ, go_own, go_dat, go_succ, k0_def, gN_def, tru_bool, tru_none, tru_int, tru_list, asSeq_list, asSeq_tup, addV_int, subV_int, ltA_i, leA_i, gtA_i, geA_i, negV_int, intV_int, lenV_list, lenV_tup, ixV_list, ixV_tup, asInt_int, slV_list, slV_tup, slL_list, revV_tup, revV_list, tupleV_list, listV_list, listV_tup, eqV_str, neV_str, eqV_int, List.set_cons_zero, List.set_cons_succ, List.getElem?_cons_zero, List.getElem?_cons_succ, List.length_cons, List.length_nil, ↓reduceIte, Bool.false_eq_true, Bool.not_true, Bool.not_false, wn_ite, gT2, gT3, neV_tup, eqV_tup, in_tup, notin_tup', lineN_eq, Nat.reduceAdd, Nat.reduceLeDiff, Nat.zero_le, true_and, and_true, List.map_nil, List.map_cons, exists_eq_left', Option.some.injEq, PyData.list.injEq, exists_eq_left, PyData.int.injEq, R.ok.injEq, Sl.own.injEq]
      exact congrArg tupI hf
/-- [row for row in rows if row != ()] -/
theorem full_comp {sr st : Nat} {η : Nv} {rows : List Row} {QD : D → Prop} (hs : Wn (iA (gv sr) η) (· = rows.map tupI)) (h2 : ∀ x, gv st ((wipeE η [st]).set st (.d x)) = .ok x) (hl : rows.length ≤ 1000) (q : QD (.list ((full rows).map tupI))) :
    Wn (compE (iA (gv sr)) (gN st) (tb (e2 neV' (gv st) (tupV a0))) (gv st) [st] η) QD := by
  refine wn_comp (xs := rows.map tupI) (fun d => match d with | .tuple [] => false | _ => true) id hs (fun x m => ?_) (by rw [List.length_map, lineN_eq]; omega) ?_
  · obtain ⟨r, mr, rfl⟩ := List.mem_map.mp m
    refine ⟨_, rfl, ?_⟩
    simp only [wn_ok, wn_some, wn_only, wn_noex, wn_e2, wn_e1, wn_eN, wn_a0, wn_aC, wn_call, wn_tb, wn_tup, wn_lst, wn_andB, wn_orB, wn_notB, wn_andV, wn_orV, wn_notV, wn_ifV, wn_iA, wn_iR1, wn_iR2, wn_iZ, wn_iEn, wn_iRR, wn_sl, wn_p0, wn_p1, wn_up, wn_upB, wn_upI, wn_x2, wn_x0, wn_xC, wn_xN, wn_xb, wn_xAnd, wn_xOr, wn_xNot, wn_xIf, wn_xCall, wn_xR1, wn_xR2, sn_nx, sn_rt, sn_bk, sn_ct, sn_seq, sn_set, sn_ret, sn_expr, sn_if, sn_for, sn_xSet, sn_xRet, sn_xExpr, sn_xIf, sn_xFor, sn_asg, sn_xAsg, sn_own, sn_xOwn, gv_zero, gv_succ, go_own, go_dat, go_succ, k0_def, gN_def, tru_bool, tru_none, tru_int, tru_list, asSeq_list, asSeq_tup, addV_int, subV_int, ltA_i, leA_i, gtA_i, geA_i, negV_int, intV_int, lenV_list, lenV_tup, ixV_list, ixV_tup, asInt_int, slV_list, slV_tup, slL_list, revV_tup, revV_list, tupleV_list, listV_list, listV_tup, eqV_str, neV_str, eqV_int, List.set_cons_zero, List.set_cons_succ, List.getElem?_cons_zero, List.getElem?_cons_succ, List.length_cons, List.length_nil, ↓reduceIte, Bool.false_eq_true, Bool.not_true, Bool.not_false, wn_ite, gT2, gT3, neV_tup, eqV_tup, in_tup, notin_tup', lineN_eq, Nat.reduceAdd, Nat.reduceLeDiff, Nat.zero_le, true_and, and_true, List.map_nil, List.map_cons, exists_eq_left', Option.some.injEq, PyData.list.injEq, exists_eq_left, PyData.int.injEq, R.ok.injEq, Sl.own.injEq, h2, tup_nil]
    refine ⟨?_, fun _ => rfl⟩
    cases r <;> rfl
  · rw [List.filter_map, List.map_id]
    have f1 : ((fun d : D => match d with | .tuple [] => false | _ => true) ∘ tupI) = fun r : Row => !r.isEmpty := funext fun r => by cases r <;> rfl
    rw [f1]
    exact q
theorem lrank_ok {U : List Int} (hU : Asc U) (lU : U.length < 128) {rows : List Row} (h : ∀ r ∈ rows, InU U r) (hl : rows.length ≤ 1000) : F__law_rank [.list (rows.map tupI)] = .ok (.int (rk rows : Nat)) := by
  refine Wn.eq (wn_runD ?_)
  show Sn (G__law_rank [.d (.list (rows.map tupI)), .no, .no, .no, .no, .no, .no]) _ _ _ _
  unfold G__law_rank
  simp only [wn_ok, wn_some, wn_only, wn_noex, wn_e2, wn_e1, wn_eN, wn_a0, wn_aC, wn_call, wn_tb, wn_tup, wn_lst, wn_andB, wn_orB, wn_notB, wn_andV, wn_orV, wn_notV, wn_ifV, wn_iA, wn_iR1, wn_iR2, wn_iZ, wn_iEn, wn_iRR, wn_sl, wn_p0, wn_p1, wn_up, wn_upB, wn_upI, wn_x2, wn_x0, wn_xC, wn_xN, wn_xb, wn_xAnd, wn_xOr, wn_xNot, wn_xIf, wn_xCall, wn_xR1, wn_xR2, sn_nx, sn_rt, sn_bk, sn_ct, sn_seq, sn_set, sn_ret, sn_expr, sn_if, sn_for, sn_xSet, sn_xRet, sn_xExpr, sn_xIf, sn_xFor, sn_asg, sn_xAsg, sn_own, sn_xOwn, gv_zero, gv_succ, go_own, go_dat, go_succ, k0_def, gN_def, tru_bool, tru_none, tru_int, tru_list, asSeq_list, asSeq_tup, addV_int, subV_int, ltA_i, leA_i, gtA_i, geA_i, negV_int, intV_int, lenV_list, lenV_tup, ixV_list, ixV_tup, asInt_int, slV_list, slV_tup, slL_list, revV_tup, revV_list, tupleV_list, listV_list, listV_tup, eqV_str, neV_str, eqV_int, List.set_cons_zero, List.set_cons_succ, List.getElem?_cons_zero, List.getElem?_cons_succ, List.length_cons, List.length_nil, ↓reduceIte, Bool.false_eq_true, Bool.not_true, Bool.not_false, wn_ite, gT2, gT3, neV_tup, eqV_tup, in_tup, notin_tup', lineN_eq, Nat.reduceAdd, Nat.reduceLeDiff, Nat.zero_le, true_and, and_true, List.map_nil, List.map_cons, exists_eq_left', Option.some.injEq, PyData.list.injEq, exists_eq_left, PyData.int.injEq, R.ok.injEq, Sl.own.injEq]
  refine full_comp (rows := rows) (by simp only [wn_ok, wn_some, wn_only, wn_noex, wn_e2, wn_e1, wn_eN, wn_a0, wn_aC, wn_call, wn_tb, wn_tup, wn_lst, wn_andB, wn_orB, wn_notB, wn_andV, wn_orV, wn_notV, wn_ifV, wn_iA, wn_iR1, wn_iR2, wn_iZ, wn_iEn, wn_iRR, wn_sl, wn_p0, wn_p1, wn_up, wn_upB, wn_upI, wn_x2, wn_x0, wn_xC, wn_xN, wn_xb, wn_xAnd, wn_xOr, wn_xNot, wn_xIf, wn_xCall, wn_xR1, wn_xR2, sn_nx, sn_rt, sn_bk, sn_ct, sn_seq, sn_set, sn_ret, sn_expr, sn_if, sn_for, sn_xSet, sn_xRet, sn_xExpr, sn_xIf, sn_xFor, sn_asg, sn_xAsg, sn_own, sn_xOwn, gv_zero, gv_succ, go_own, go_dat, go_succ, k0_def, gN_def, tru_bool, tru_none, tru_int, tru_list, asSeq_list, asSeq_tup, addV_int, subV_int, ltA_i, leA_i, gtA_i, geA_i, negV_int, intV_int, lenV_list, lenV_tup, ixV_list, ixV_tup, asInt_int, slV_list, slV_tup, slL_list, revV_tup, revV_list, tupleV_list, listV_list, listV_tup, eqV_str, neV_str, eqV_int, List.set_cons_zero, List.set_cons_succ, List.getElem?_cons_zero, List.getElem?_cons_succ, List.length_cons, List.length_nil, ↓reduceIte, Bool.false_eq_true, Bool.not_true, Bool.not_false, wn_ite, gT2, gT3, neV_tup, eqV_tup, in_tup, notin_tup', lineN_eq, Nat.reduceAdd, Nat.reduceLeDiff, Nat.zero_le, true_and, and_true, List.map_nil, List.map_cons, exists_eq_left', Option.some.injEq, PyData.list.injEq, exists_eq_left, PyData.int.injEq, R.ok.injEq, Sl.own.injEq]) (fun x => rfl) hl ?_
  have ln : ((rows.map tupI).length : Int) = (rows.length : Nat) := by rw [List.length_map]
  rw [ln, wn_rng1 (by omega) (by omega)]
  have fl : ∀ rs : List Row, (full rs).length ≤ rs.length := fun rs => List.length_filter_le _ _
  refine sn_loop (fun rest η => ∃ (left : List Row) (c : Nat) (s3 s4 s5 s6 : Sl), left.length ≤ rest.length ∧ (∀ r ∈ left, InU U r ∧ r ≠ []) ∧ left.length ≤ 1000 ∧ c + rk left = rk rows ∧
      η = [.d (.list (rows.map tupI)), .d (.list (left.map tupI)), .d (.int (c : Nat)), s3, s4, s5, s6]) ?_ ?_ _ _ ⟨full rows, 0, .no, .no, .no, .no, ?_, fun r m => ⟨h r (full_mem.mp m).1, (full_mem.mp m).2⟩, Nat.le_trans (fl rows) hl, ?_, rfl⟩
  · rintro x rest η ⟨left, c, s3, s4, s5, s6, hz, hL, h1000, hc, rfl⟩
    rw [List.length_cons] at hz
    refine ⟨_, rfl, ?_⟩
    simp only [wn_ok, wn_some, wn_only, wn_noex, wn_e2, wn_e1, wn_eN, wn_a0, wn_aC, wn_call, wn_tb, wn_tup, wn_lst, wn_andB, wn_orB, wn_notB, wn_andV, wn_orV, wn_notV, wn_ifV, wn_iA, wn_iR1, wn_iR2, wn_iZ, wn_iEn, wn_iRR, wn_sl, wn_p0, wn_p1, wn_up, wn_upB, wn_upI, wn_x2, wn_x0, wn_xC, wn_xN, wn_xb, wn_xAnd, wn_xOr, wn_xNot, wn_xIf, wn_xCall, wn_xR1, wn_xR2, sn_nx, sn_rt, sn_bk, sn_ct, sn_seq, sn_set, sn_ret, sn_expr, sn_if, sn_for, sn_xSet, sn_xRet, sn_xExpr, sn_xIf, sn_xFor, sn_asg, sn_xAsg, sn_own, sn_xOwn, gv_zero, gv_succ, go_own, go_dat, go_succ, k0_def, gN_def, tru_bool, tru_none, tru_int, tru_list, asSeq_list, asSeq_tup, addV_int, subV_int, ltA_i, leA_i, gtA_i, geA_i, negV_int, intV_int, lenV_list, lenV_tup, ixV_list, ixV_tup, asInt_int, slV_list, slV_tup, slL_list, revV_tup, revV_list, tupleV_list, listV_list, listV_tup, eqV_str, neV_str, eqV_int, List.set_cons_zero, List.set_cons_succ, List.getElem?_cons_zero, List.getElem?_cons_succ, List.length_cons, List.length_nil, ↓reduceIte, Bool.false_eq_true, Bool.not_true, Bool.not_false, wn_ite, gT2, gT3, neV_tup, eqV_tup, in_tup, notin_tup', lineN_eq, Nat.reduceAdd, Nat.reduceLeDiff, Nat.zero_le, true_and, and_true, List.map_nil, List.map_cons, exists_eq_left', Option.some.injEq, PyData.list.injEq, exists_eq_left, PyData.int.injEq, R.ok.injEq, Sl.own.injEq]
    cases left with
    | nil =>
      simp only [List.map_nil, List.length_nil, Int.natCast_zero, gt_iff_lt, Int.lt_irrefl, decide_false, Bool.false_eq_true, ↓reduceIte]
      exact ⟨[], c, _, s4, s5, s6, Nat.zero_le _, fun r m => absurd m List.not_mem_nil, Nat.zero_le _, hc, rfl⟩
    | cons f left =>
      have pos : decide (0 < (((f :: left).map tupI).length : Int)) = true := decide_eq_true (by simp)
      obtain ⟨hf, nf⟩ := hL f List.mem_cons_self
      obtain ⟨p, hp⟩ : ∃ p, f[0]? = some p := by
        cases f with
        | nil => exact absurd rfl nf
        | cons p f => exact ⟨p, rfl⟩
      have pm : p ∈ f := List.mem_of_getElem? hp
      have a0' : atD (tupI f :: left.map tupI) 0 = some (tupI f) := atD_nat (by decide) rfl
      have a1 : ixV (tupI f) (.int 0) = some (.int p) := atD_nat (xs := f.map PyData.int) (by decide) (by
        show (f.map PyData.int)[0]? = _
        rw [List.getElem?_map, hp]
        rfl)
      have cut : cutD (tupI f :: left.map tupI) (some 1) none = left.map tupI := cut_drop _ 1 (by decide)
      rw [pos]
      simp only [↓reduceIte]
      simp only [wn_ok, wn_some, wn_only, wn_noex, wn_e2, wn_e1, wn_eN, wn_a0, wn_aC, wn_call, wn_tb, wn_tup, wn_lst, wn_andB, wn_orB, wn_notB, wn_andV, wn_orV, wn_notV, wn_ifV, wn_iA, wn_iR1, wn_iR2, wn_iZ, wn_iEn, wn_iRR, wn_sl, wn_p0, wn_p1, wn_up, wn_upB, wn_upI, wn_x2, wn_x0, wn_xC, wn_xN, wn_xb, wn_xAnd, wn_xOr, wn_xNot, wn_xIf, wn_xCall, wn_xR1, wn_xR2, sn_nx, sn_rt, sn_bk, sn_ct, sn_seq, sn_set, sn_ret, sn_expr, sn_if, sn_for, sn_xSet, sn_xRet, sn_xExpr, sn_xIf, sn_xFor, sn_asg, sn_xAsg, sn_own, sn_xOwn, gv_zero, gv_succ, go_own, go_dat, go_succ, k0_def, gN_def, tru_bool, tru_none, tru_int, tru_list, asSeq_list, asSeq_tup, addV_int, subV_int, ltA_i, leA_i, gtA_i, geA_i, negV_int, intV_int, lenV_list, lenV_tup, ixV_list, ixV_tup, asInt_int, slV_list, slV_tup, slL_list, revV_tup, revV_list, tupleV_list, listV_list, listV_tup, eqV_str, neV_str, eqV_int, List.set_cons_zero, List.set_cons_succ, List.getElem?_cons_zero, List.getElem?_cons_succ, List.length_cons, List.length_nil, ↓reduceIte, Bool.false_eq_true, Bool.not_true, Bool.not_false, wn_ite, gT2, gT3, neV_tup, eqV_tup, in_tup, notin_tup', lineN_eq, Nat.reduceAdd, Nat.reduceLeDiff, Nat.zero_le, true_and, and_true, List.map_nil, List.map_cons, exists_eq_left', Option.some.injEq, PyData.list.injEq, exists_eq_left, PyData.int.injEq, R.ok.injEq, Sl.own.injEq, a0', wn_some]
      have hLt : ∀ r ∈ left, InU U r ∧ r ≠ [] := fun r m => hL r (List.mem_cons_of_mem _ m)
      refine wn_comp (xs := left.map tupI) (fun _ => true) (fun d => match d with | .tuple ds => (match ints? ds with | some r => tupI (clearO f p r) | none => .none) | _ => .none) ?_ ?_ ?_ ?_
      · simp only [wn_ok, wn_some, wn_only, wn_noex, wn_e2, wn_e1, wn_eN, wn_a0, wn_aC, wn_call, wn_tb, wn_tup, wn_lst, wn_andB, wn_orB, wn_notB, wn_andV, wn_orV, wn_notV, wn_ifV, wn_iA, wn_iR1, wn_iR2, wn_iZ, wn_iEn, wn_iRR, wn_sl, wn_p0, wn_p1, wn_up, wn_upB, wn_upI, wn_x2, wn_x0, wn_xC, wn_xN, wn_xb, wn_xAnd, wn_xOr, wn_xNot, wn_xIf, wn_xCall, wn_xR1, wn_xR2, sn_nx, sn_rt, sn_bk, sn_ct, sn_seq, sn_set, sn_ret, sn_expr, sn_if, sn_for, sn_xSet, sn_xRet, sn_xExpr, sn_xIf, sn_xFor, sn_asg, sn_xAsg, sn_own, sn_xOwn, gv_zero, gv_succ, go_own, go_dat, go_succ, k0_def, gN_def, tru_bool, tru_none, tru_int, tru_list, asSeq_list, asSeq_tup, addV_int, subV_int, ltA_i, leA_i, gtA_i, geA_i, negV_int, intV_int, lenV_list, lenV_tup, ixV_list, ixV_tup, asInt_int, slV_list, slV_tup, slL_list, revV_tup, revV_list, tupleV_list, listV_list, listV_tup, eqV_str, neV_str, eqV_int, List.set_cons_zero, List.set_cons_succ, List.getElem?_cons_zero, List.getElem?_cons_succ, List.length_cons, List.length_nil, ↓reduceIte, Bool.false_eq_true, Bool.not_true, Bool.not_false, wn_ite, gT2, gT3, neV_tup, eqV_tup, in_tup, notin_tup', lineN_eq, Nat.reduceAdd, Nat.reduceLeDiff, Nat.zero_le, true_and, and_true, List.map_nil, List.map_cons, exists_eq_left', Option.some.injEq, PyData.list.injEq, exists_eq_left, PyData.int.injEq, R.ok.injEq, Sl.own.injEq, cut]
      · intro y m
        obtain ⟨r, mr, rfl⟩ := List.mem_map.mp m
        refine ⟨_, rfl, ?_⟩
        have hr := (hLt r mr).1
        have l1 := hf.len hU
        have l2 := hr.len hU
        have g : (match tupI r with | .tuple ds => (match ints? ds with | some r => tupI (clearO f p r) | none => PyData.none) | _ => .none) = tupI (clearO f p r) := by
          show (match ints? (r.map PyData.int) with | some r => tupI (clearO f p r) | none => PyData.none) = _
          rw [ints?_map]
        rw [g]
        refine wn_ok.mpr ⟨rfl, fun _ => ?_⟩
        show Wn (ifV _ _ _ [.d (.list (rows.map tupI)), .d (.list ((f :: left).map tupI)), .d (.int (c : Nat)), .d x, .d (tupI f), s5, .d (tupI r)]) _
        simp only [wn_ok, wn_some, wn_only, wn_noex, wn_e2, wn_e1, wn_eN, wn_a0, wn_aC, wn_call, wn_tb, wn_tup, wn_lst, wn_andB, wn_orB, wn_notB, wn_andV, wn_orV, wn_notV, wn_ifV, wn_iA, wn_iR1, wn_iR2, wn_iZ, wn_iEn, wn_iRR, wn_sl, wn_p0, wn_p1, wn_up, wn_upB, wn_upI, wn_x2, wn_x0, wn_xC, wn_xN, wn_xb, wn_xAnd, wn_xOr, wn_xNot, wn_xIf, wn_xCall, wn_xR1, wn_xR2, sn_nx, sn_rt, sn_bk, sn_ct, sn_seq, sn_set, sn_ret, sn_expr, sn_if, sn_for, sn_xSet, sn_xRet, sn_xExpr, sn_xIf, sn_xFor, sn_asg, sn_xAsg, sn_own, sn_xOwn, gv_zero, gv_succ, go_own, go_dat, go_succ, k0_def, gN_def, tru_bool, tru_none, tru_int, tru_list, asSeq_list, asSeq_tup, addV_int, subV_int, ltA_i, leA_i, gtA_i, geA_i, negV_int, intV_int, lenV_list, lenV_tup, ixV_list, ixV_tup, asInt_int, slV_list, slV_tup, slL_list, revV_tup, revV_list, tupleV_list, listV_list, listV_tup, eqV_str, neV_str, eqV_int, List.set_cons_zero, List.set_cons_succ, List.getElem?_cons_zero, List.getElem?_cons_succ, List.length_cons, List.length_nil, ↓reduceIte, Bool.false_eq_true, Bool.not_true, Bool.not_false, wn_ite, gT2, gT3, neV_tup, eqV_tup, in_tup, notin_tup', lineN_eq, Nat.reduceAdd, Nat.reduceLeDiff, Nat.zero_le, true_and, and_true, List.map_nil, List.map_cons, exists_eq_left', Option.some.injEq, PyData.list.injEq, exists_eq_left, PyData.int.injEq, R.ok.injEq, Sl.own.injEq, a1]
        unfold clearO
        by_cases cc : p ∈ r
        · rw [decide_eq_true cc, if_pos cc]
          simp only [↓reduceIte, lsum_ok (show r.length ≤ 1000 by omega) (show f.length ≤ 1000 by omega), wn_ok]
        · rw [decide_eq_false cc, if_neg cc]
          simp only [Bool.false_eq_true, ↓reduceIte]
      · rw [List.length_map, lineN_eq]
        rw [List.length_cons] at h1000
        omega
      · have ft : (left.map tupI).filter (fun _ => true) = left.map tupI := List.filter_eq_self.mpr fun _ _ => rfl
        have mm : (left.map tupI).map (fun d => match d with | .tuple ds => (match ints? ds with | some r => tupI (clearO f p r) | none => PyData.none) | _ => .none) = (left.map (clearO f p)).map tupI := by
          rw [List.map_map, List.map_map]
          apply List.map_congr_left
          intro r _
          show (match ints? (r.map PyData.int) with | some r => tupI (clearO f p r) | none => PyData.none) = _
          rw [ints?_map]
          rfl
        rw [ft, mm]
        rw [List.length_cons] at h1000 hz
        have hR : ∀ r ∈ left.map (clearO f p), InU U r := fun r m => by
          obtain ⟨y, my, rfl⟩ := List.mem_map.mp m
          unfold clearO
          split
          · exact (hLt y my).1.sum hf
          · exact (hLt y my).1
        refine full_comp (rows := left.map (clearO f p)) (by simp only [wn_ok, wn_some, wn_only, wn_noex, wn_e2, wn_e1, wn_eN, wn_a0, wn_aC, wn_call, wn_tb, wn_tup, wn_lst, wn_andB, wn_orB, wn_notB, wn_andV, wn_orV, wn_notV, wn_ifV, wn_iA, wn_iR1, wn_iR2, wn_iZ, wn_iEn, wn_iRR, wn_sl, wn_p0, wn_p1, wn_up, wn_upB, wn_upI, wn_x2, wn_x0, wn_xC, wn_xN, wn_xb, wn_xAnd, wn_xOr, wn_xNot, wn_xIf, wn_xCall, wn_xR1, wn_xR2, sn_nx, sn_rt, sn_bk, sn_ct, sn_seq, sn_set, sn_ret, sn_expr, sn_if, sn_for, sn_xSet, sn_xRet, sn_xExpr, sn_xIf, sn_xFor, sn_asg, sn_xAsg, sn_own, sn_xOwn, gv_zero, gv_succ, go_own, go_dat, go_succ, k0_def, gN_def, tru_bool, tru_none, tru_int, tru_list, asSeq_list, asSeq_tup, addV_int, subV_int, ltA_i, leA_i, gtA_i, geA_i, negV_int, intV_int, lenV_list, lenV_tup, ixV_list, ixV_tup, asInt_int, slV_list, slV_tup, slL_list, revV_tup, revV_list, tupleV_list, listV_list, listV_tup, eqV_str, neV_str, eqV_int, List.set_cons_zero, List.set_cons_succ, List.getElem?_cons_zero, List.getElem?_cons_succ, List.length_cons, List.length_nil, ↓reduceIte, Bool.false_eq_true, Bool.not_true, Bool.not_false, wn_ite, gT2, gT3, neV_tup, eqV_tup, in_tup, notin_tup', lineN_eq, Nat.reduceAdd, Nat.reduceLeDiff, Nat.zero_le, true_and, and_true, List.map_nil, List.map_cons, exists_eq_left', Option.some.injEq, PyData.list.injEq, exists_eq_left, PyData.int.injEq, R.ok.injEq, Sl.own.injEq]) (fun x => rfl) (by rw [List.length_map]; omega) ?_
        have lf := fl (left.map (clearO f p))
        rw [List.length_map] at lf
        have rc := rk_clear (f := f) (p := p) (rs := left) pm fun r m => (hL r m).1.asc
        have rf := rk_full (rs := left.map (clearO f p)) fun r m => (hR r m).asc
        refine ⟨full (left.map (clearO f p)), c + 1, .d x, .d (tupI f), .d (.list ((left.map (clearO f p)).map tupI)), s6, by omega, fun r m => ⟨hR r (full_mem.mp m).1, (full_mem.mp m).2⟩, by omega, by omega, rfl⟩
  · rintro η ⟨left, c, s3, s4, s5, s6, hz, hL, h1000, hc, rfl⟩
    have e : left = [] := List.eq_nil_of_length_eq_zero (Nat.le_zero.mp hz)
    subst e
    simp only [wn_ok, wn_some, wn_only, wn_noex, wn_e2, wn_e1, wn_eN, wn_a0, wn_aC, wn_call, wn_tb, wn_tup, wn_lst, wn_andB, wn_orB, wn_notB, wn_andV, wn_orV, wn_notV, wn_ifV, wn_iA, wn_iR1, wn_iR2, wn_iZ, wn_iEn, wn_iRR, wn_sl, wn_p0, wn_p1, wn_up, wn_upB, wn_upI, wn_x2, wn_x0, wn_xC, wn_xN, wn_xb, wn_xAnd, wn_xOr, wn_xNot, wn_xIf, wn_xCall, wn_xR1, wn_xR2, sn_nx, sn_rt, sn_bk, sn_ct, sn_seq, sn_set, sn_ret, sn_expr, sn_if, sn_for, sn_xSet, sn_xRet, sn_xExpr, sn_xIf, sn_xFor, sn_asg, sn_xAsg, sn_own, sn_xOwn, gv_zero, gv_succ, go_own, go_dat, go_succ, k0_def, gN_def, tru_bool, tru_none, tru_int, tru_list, asSeq_list, asSeq_tup, addV_int, subV_int, ltA_i, leA_i, gtA_i, geA_i, negV_int, intV_int, lenV_list, lenV_tup, ixV_list, ixV_tup, asInt_int, slV_list, slV_tup, slL_list, revV_tup, revV_list, tupleV_list, listV_list, listV_tup, eqV_str, neV_str, eqV_int, List.set_cons_zero, List.set_cons_succ, List.getElem?_cons_zero, List.getElem?_cons_succ, List.length_cons, List.length_nil, ↓reduceIte, Bool.false_eq_true, Bool.not_true, Bool.not_false, wn_ite, gT2, gT3, neV_tup, eqV_tup, in_tup, notin_tup', lineN_eq, Nat.reduceAdd, Nat.reduceLeDiff, Nat.zero_le, true_and, and_true, List.map_nil, List.map_cons, exists_eq_left', Option.some.injEq, PyData.list.injEq, exists_eq_left, PyData.int.injEq, R.ok.injEq, Sl.own.injEq]
    have hc : c + 0 = rk rows := hc
    omega
  · show (full rows).length ≤ (rangeD 0 _).length
    unfold rangeD
    rw [List.length_map, List.length_range]
    exact fl rows
  · rw [Nat.zero_add, rk_full fun r m => (h r m).asc]
end Rk
end Bd
/-! N6: the rows that the laws draw. -/
namespace Bd
open PySem L2
namespace Rk
/-- all numbers that stand in rows -/
def numbs : List Int := ((List.range 26).map fun i : Nat => (i : Int) - 13) ++ ((List.range 26).map fun i : Nat => 1000003 * ((i : Int) - 13))
def univ : List Int := sset numbs
theorem univ_asc : Asc univ := sset_asc _
theorem univ_len : univ.length < 128 := Nat.lt_of_le_of_lt (sset_len numbs) (by decide)
theorem in_univ {f m : Int} (hf : f = 1 ∨ f = 1000003) (h1 : -13 ≤ m) (h2 : m ≤ 12) : f * m ∈ univ := by
  refine mem_sset.mpr ?_
  have hm : ∃ i : Nat, i < 26 ∧ (i : Int) - 13 = m := ⟨(m + 13).toNat, by omega, by omega⟩
  obtain ⟨i, hi, e⟩ := hm
  rcases hf with rfl | rfl
  · exact List.mem_append_left _ (List.mem_map.mpr ⟨i, List.mem_range.mpr hi, by omega⟩)
  · exact List.mem_append_right _ (List.mem_map.mpr ⟨i, List.mem_range.mpr hi, by rw [e]⟩)
theorem univ_small : ∀ x ∈ univ, -1000000000000 < x ∧ x < 1000000000000 := fun x m => by
  rcases List.mem_append.mp (mem_sset.mp m) with m | m
  · obtain ⟨i, hi, rfl⟩ := List.mem_map.mp m
    have := List.mem_range.mp hi
    omega
  · obtain ⟨i, hi, rfl⟩ := List.mem_map.mp m
    have := List.mem_range.mp hi
    omega
theorem range_up (n : Nat) : rangeD 0 n = (Pg.uptoI n).map PyData.int := by
  unfold rangeD
  rw [List.map_map]
  apply List.map_congr_left
  intro i _
  show PyData.int (0 + (i : Int)) = PyData.int (i : Int)
  rw [Int.zero_add]
theorem row_w {kx : List D} {wd f lo : Int} {QK : D × List D → Prop} (hk : Dk.Deck kx) (h0 : 0 ≤ wd) (h1 : wd ≤ 13) (hf : f = 1 ∨ f = 1000003) (l0 : 0 ≤ lo) (l1 : lo ≤ 13) (k : ∀ l kx', Dk.Deck kx' → InU univ l → QK (tupI l, kx')) : Wn (F__law_row kx [.int wd, .int f, .int lo]) QK := by
  refine wn_runK ?_
  show Sn (G__law_row [.own ⟨false, kx⟩, .d (.int wd), .d (.int f), .d (.int lo), .no]) _ _ _ _
  unfold G__law_row
  simp only [wn_ok, wn_some, wn_only, wn_noex, wn_e2, wn_e1, wn_eN, wn_a0, wn_aC, wn_call, wn_tb, wn_tup, wn_lst, wn_andB, wn_orB, wn_notB, wn_andV, wn_orV, wn_notV, wn_ifV, wn_iA, wn_iR1, wn_iR2, wn_iZ, wn_iEn, wn_iRR, wn_sl, wn_p0, wn_p1, wn_up, wn_upB, wn_upI, wn_x2, wn_x0, wn_xC, wn_xN, wn_xb, wn_xAnd, wn_xOr, wn_xNot, wn_xIf, wn_xCall, wn_xR1, wn_xR2, sn_nx, sn_rt, sn_bk, sn_ct, sn_seq, sn_set, sn_ret, sn_expr, sn_if, sn_for, sn_xSet, sn_xRet, sn_xExpr, sn_xIf, sn_xFor, sn_asg, sn_xAsg, sn_own, sn_xOwn, gv_zero, gv_succ, go_own, go_dat, go_succ, k0_def, gN_def, tru_bool, tru_none, tru_int, tru_list, asSeq_list, asSeq_tup, addV_int, subV_int, ltA_i, leA_i, gtA_i, geA_i, negV_int, intV_int, lenV_list, lenV_tup, ixV_list, ixV_tup, asInt_int, slV_list, slV_tup, slL_list, revV_tup, revV_list, tupleV_list, listV_list, listV_tup, eqV_str, neV_str, eqV_int, List.set_cons_zero, List.set_cons_succ, List.getElem?_cons_zero, List.getElem?_cons_succ, List.length_cons, List.length_nil, ↓reduceIte, Bool.false_eq_true, Bool.not_true, Bool.not_false, wn_ite, gT2, gT3, neV_tup, eqV_tup, in_tup, notin_tup', lineN_eq, Nat.reduceAdd, Nat.reduceLeDiff, Nat.zero_le, true_and, and_true, List.map_nil, List.map_cons, exists_eq_left', Option.some.injEq, PyData.list.injEq, exists_eq_left, PyData.int.injEq, R.ok.injEq, Sl.own.injEq]
  refine wn_xComp (fun rest acc η => ∃ (xs ys : List Int) (kx' : List D), Dk.Deck kx' ∧ rest = xs.map PyData.int ∧ acc = ys.map PyData.int ∧ (∀ x ∈ xs, 0 ≤ x ∧ x < wd) ∧ Asc xs ∧ Asc ys ∧ (∀ y ∈ ys, ∃ m, 0 ≤ m ∧ m < wd ∧ y = f * (m - lo) ∧ ∀ x ∈ xs, m < x) ∧
      η = [.own ⟨false, kx'⟩, .d (.int wd), .d (.int f), .d (.int lo), .no]) ?_ ?_ ?_
  · simp only [wn_ok, wn_some, wn_only, wn_noex, wn_e2, wn_e1, wn_eN, wn_a0, wn_aC, wn_call, wn_tb, wn_tup, wn_lst, wn_andB, wn_orB, wn_notB, wn_andV, wn_orV, wn_notV, wn_ifV, wn_iA, wn_iR1, wn_iR2, wn_iZ, wn_iEn, wn_iRR, wn_sl, wn_p0, wn_p1, wn_up, wn_upB, wn_upI, wn_x2, wn_x0, wn_xC, wn_xN, wn_xb, wn_xAnd, wn_xOr, wn_xNot, wn_xIf, wn_xCall, wn_xR1, wn_xR2, sn_nx, sn_rt, sn_bk, sn_ct, sn_seq, sn_set, sn_ret, sn_expr, sn_if, sn_for, sn_xSet, sn_xRet, sn_xExpr, sn_xIf, sn_xFor, sn_asg, sn_xAsg, sn_own, sn_xOwn, gv_zero, gv_succ, go_own, go_dat, go_succ, k0_def, gN_def, tru_bool, tru_none, tru_int, tru_list, asSeq_list, asSeq_tup, addV_int, subV_int, ltA_i, leA_i, gtA_i, geA_i, negV_int, intV_int, lenV_list, lenV_tup, ixV_list, ixV_tup, asInt_int, slV_list, slV_tup, slL_list, revV_tup, revV_list, tupleV_list, listV_list, listV_tup, eqV_str, neV_str, eqV_int, List.set_cons_zero, List.set_cons_succ, List.getElem?_cons_zero, List.getElem?_cons_succ, List.length_cons, List.length_nil, ↓reduceIte, Bool.false_eq_true, Bool.not_true, Bool.not_false, wn_ite, gT2, gT3, neV_tup, eqV_tup, in_tup, notin_tup', lineN_eq, Nat.reduceAdd, Nat.reduceLeDiff, Nat.zero_le, true_and, and_true, List.map_nil, List.map_cons, exists_eq_left', Option.some.injEq, PyData.list.injEq, exists_eq_left, PyData.int.injEq, R.ok.injEq, Sl.own.injEq]
    rw [wn_rng1 h0 (by omega)]
    refine ⟨Pg.uptoI wd.toNat, [], kx, hk, range_up _, rfl, fun x m => ?_, Pg.upto_asc _, .nil, fun y m => absurd m List.not_mem_nil, rfl⟩
    obtain ⟨i, hi, rfl⟩ := List.mem_map.mp m
    have := List.mem_range.mp hi
    omega
  · rintro x rest acc η ⟨xs, ys, kx', hk', e1, rfl, hx, ax, ay, hy, rfl⟩
    cases xs with
    | nil => cases e1
    | cons z xs =>
      rw [List.map_cons] at e1
      obtain ⟨rfl, rfl⟩ := List.cons.inj e1
      obtain ⟨ax1, ax2⟩ := List.pairwise_cons.mp ax
      have hz := hx z List.mem_cons_self
      have hx' : ∀ x ∈ xs, 0 ≤ x ∧ x < wd := fun y m => hx y (List.mem_cons_of_mem _ m)
      refine ⟨_, rfl, ?_⟩
      simp only [wn_ok, wn_some, wn_only, wn_noex, wn_e2, wn_e1, wn_eN, wn_a0, wn_aC, wn_call, wn_tb, wn_tup, wn_lst, wn_andB, wn_orB, wn_notB, wn_andV, wn_orV, wn_notV, wn_ifV, wn_iA, wn_iR1, wn_iR2, wn_iZ, wn_iEn, wn_iRR, wn_sl, wn_p0, wn_p1, wn_up, wn_upB, wn_upI, wn_x2, wn_x0, wn_xC, wn_xN, wn_xb, wn_xAnd, wn_xOr, wn_xNot, wn_xIf, wn_xCall, wn_xR1, wn_xR2, sn_nx, sn_rt, sn_bk, sn_ct, sn_seq, sn_set, sn_ret, sn_expr, sn_if, sn_for, sn_xSet, sn_xRet, sn_xExpr, sn_xIf, sn_xFor, sn_asg, sn_xAsg, sn_own, sn_xOwn, gv_zero, gv_succ, go_own, go_dat, go_succ, k0_def, gN_def, tru_bool, tru_none, tru_int, tru_list, asSeq_list, asSeq_tup, addV_int, subV_int, ltA_i, leA_i, gtA_i, geA_i, negV_int, intV_int, lenV_list, lenV_tup, ixV_list, ixV_tup, asInt_int, slV_list, slV_tup, slL_list, revV_tup, revV_list, tupleV_list, listV_list, listV_tup, eqV_str, neV_str, eqV_int, List.set_cons_zero, List.set_cons_succ, List.getElem?_cons_zero, List.getElem?_cons_succ, List.length_cons, List.length_nil, ↓reduceIte, Bool.false_eq_true, Bool.not_true, Bool.not_false, wn_ite, gT2, gT3, neV_tup, eqV_tup, in_tup, notin_tup', lineN_eq, Nat.reduceAdd, Nat.reduceLeDiff, Nat.zero_le, true_and, and_true, List.map_nil, List.map_cons, exists_eq_left', Option.some.injEq, PyData.list.injEq, exists_eq_left, PyData.int.injEq, R.ok.injEq, Sl.own.injEq]
      refine wn_callK rfl ?_
      simp only [wn_ok, wn_some, wn_only, wn_noex, wn_e2, wn_e1, wn_eN, wn_a0, wn_aC, wn_call, wn_tb, wn_tup, wn_lst, wn_andB, wn_orB, wn_notB, wn_andV, wn_orV, wn_notV, wn_ifV, wn_iA, wn_iR1, wn_iR2, wn_iZ, wn_iEn, wn_iRR, wn_sl, wn_p0, wn_p1, wn_up, wn_upB, wn_upI, wn_x2, wn_x0, wn_xC, wn_xN, wn_xb, wn_xAnd, wn_xOr, wn_xNot, wn_xIf, wn_xCall, wn_xR1, wn_xR2, sn_nx, sn_rt, sn_bk, sn_ct, sn_seq, sn_set, sn_ret, sn_expr, sn_if, sn_for, sn_xSet, sn_xRet, sn_xExpr, sn_xIf, sn_xFor, sn_asg, sn_xAsg, sn_own, sn_xOwn, gv_zero, gv_succ, go_own, go_dat, go_succ, k0_def, gN_def, tru_bool, tru_none, tru_int, tru_list, asSeq_list, asSeq_tup, addV_int, subV_int, ltA_i, leA_i, gtA_i, geA_i, negV_int, intV_int, lenV_list, lenV_tup, ixV_list, ixV_tup, asInt_int, slV_list, slV_tup, slL_list, revV_tup, revV_list, tupleV_list, listV_list, listV_tup, eqV_str, neV_str, eqV_int, List.set_cons_zero, List.set_cons_succ, List.getElem?_cons_zero, List.getElem?_cons_succ, List.length_cons, List.length_nil, ↓reduceIte, Bool.false_eq_true, Bool.not_true, Bool.not_false, wn_ite, gT2, gT3, neV_tup, eqV_tup, in_tup, notin_tup', lineN_eq, Nat.reduceAdd, Nat.reduceLeDiff, Nat.zero_le, true_and, and_true, List.map_nil, List.map_cons, exists_eq_left', Option.some.injEq, PyData.list.injEq, exists_eq_left, PyData.int.injEq, R.ok.injEq, Sl.own.injEq]
      refine wn_draw (b := 3) hk' (by decide) fun i kx2 hk2 _ _ => ?_
      simp only [wn_ok, wn_some, wn_only, wn_noex, wn_e2, wn_e1, wn_eN, wn_a0, wn_aC, wn_call, wn_tb, wn_tup, wn_lst, wn_andB, wn_orB, wn_notB, wn_andV, wn_orV, wn_notV, wn_ifV, wn_iA, wn_iR1, wn_iR2, wn_iZ, wn_iEn, wn_iRR, wn_sl, wn_p0, wn_p1, wn_up, wn_upB, wn_upI, wn_x2, wn_x0, wn_xC, wn_xN, wn_xb, wn_xAnd, wn_xOr, wn_xNot, wn_xIf, wn_xCall, wn_xR1, wn_xR2, sn_nx, sn_rt, sn_bk, sn_ct, sn_seq, sn_set, sn_ret, sn_expr, sn_if, sn_for, sn_xSet, sn_xRet, sn_xExpr, sn_xIf, sn_xFor, sn_asg, sn_xAsg, sn_own, sn_xOwn, gv_zero, gv_succ, go_own, go_dat, go_succ, k0_def, gN_def, tru_bool, tru_none, tru_int, tru_list, asSeq_list, asSeq_tup, addV_int, subV_int, ltA_i, leA_i, gtA_i, geA_i, negV_int, intV_int, lenV_list, lenV_tup, ixV_list, ixV_tup, asInt_int, slV_list, slV_tup, slL_list, revV_tup, revV_list, tupleV_list, listV_list, listV_tup, eqV_str, neV_str, eqV_int, List.set_cons_zero, List.set_cons_succ, List.getElem?_cons_zero, List.getElem?_cons_succ, List.length_cons, List.length_nil, ↓reduceIte, Bool.false_eq_true, Bool.not_true, Bool.not_false, wn_ite, gT2, gT3, neV_tup, eqV_tup, in_tup, notin_tup', lineN_eq, Nat.reduceAdd, Nat.reduceLeDiff, Nat.zero_le, true_and, and_true, List.map_nil, List.map_cons, exists_eq_left', Option.some.injEq, PyData.list.injEq, exists_eq_left, PyData.int.injEq, R.ok.injEq, Sl.own.injEq]
      cases hb : (i == 0) with
      | false =>
        simp only [Bool.false_eq_true, ↓reduceIte]
        refine ⟨xs, ys, kx2, hk2, rfl, rfl, hx', ax2, ay, fun y m => ?_, rfl⟩
        obtain ⟨q, q1, q2, q3, q4⟩ := hy y m
        exact ⟨q, q1, q2, q3, fun x mx => q4 x (List.mem_cons_of_mem _ mx)⟩
      | true =>
        simp only [↓reduceIte]
        rw [mulV_int (.inl (by rcases hf with rfl | rfl <;> decide))]
        simp only [wn_ok, wn_some, wn_only, wn_noex, wn_e2, wn_e1, wn_eN, wn_a0, wn_aC, wn_call, wn_tb, wn_tup, wn_lst, wn_andB, wn_orB, wn_notB, wn_andV, wn_orV, wn_notV, wn_ifV, wn_iA, wn_iR1, wn_iR2, wn_iZ, wn_iEn, wn_iRR, wn_sl, wn_p0, wn_p1, wn_up, wn_upB, wn_upI, wn_x2, wn_x0, wn_xC, wn_xN, wn_xb, wn_xAnd, wn_xOr, wn_xNot, wn_xIf, wn_xCall, wn_xR1, wn_xR2, sn_nx, sn_rt, sn_bk, sn_ct, sn_seq, sn_set, sn_ret, sn_expr, sn_if, sn_for, sn_xSet, sn_xRet, sn_xExpr, sn_xIf, sn_xFor, sn_asg, sn_xAsg, sn_own, sn_xOwn, gv_zero, gv_succ, go_own, go_dat, go_succ, k0_def, gN_def, tru_bool, tru_none, tru_int, tru_list, asSeq_list, asSeq_tup, addV_int, subV_int, ltA_i, leA_i, gtA_i, geA_i, negV_int, intV_int, lenV_list, lenV_tup, ixV_list, ixV_tup, asInt_int, slV_list, slV_tup, slL_list, revV_tup, revV_list, tupleV_list, listV_list, listV_tup, eqV_str, neV_str, eqV_int, List.set_cons_zero, List.set_cons_succ, List.getElem?_cons_zero, List.getElem?_cons_succ, List.length_cons, List.length_nil, ↓reduceIte, Bool.false_eq_true, Bool.not_true, Bool.not_false, wn_ite, gT2, gT3, neV_tup, eqV_tup, in_tup, notin_tup', lineN_eq, Nat.reduceAdd, Nat.reduceLeDiff, Nat.zero_le, true_and, and_true, List.map_nil, List.map_cons, exists_eq_left', Option.some.injEq, PyData.list.injEq, exists_eq_left, PyData.int.injEq, R.ok.injEq, Sl.own.injEq]
        refine ⟨xs, ys ++ [f * (z - lo)], kx2, hk2, rfl, by rw [List.map_append]; rfl, hx', ax2, ?_, fun y m => ?_, rfl⟩
        · refine List.pairwise_append.mpr ⟨ay, List.pairwise_singleton _ _, fun a ma b mb => ?_⟩
          rw [List.mem_singleton.mp mb]
          obtain ⟨q, q1, q2, rfl, q4⟩ := hy a ma
          have lt := q4 z List.mem_cons_self
          rcases hf with rfl | rfl <;> omega
        · rcases List.mem_append.mp m with m | m
          · obtain ⟨q, q1, q2, q3, q4⟩ := hy y m
            exact ⟨q, q1, q2, q3, fun x mx => q4 x (List.mem_cons_of_mem _ mx)⟩
          · rw [List.mem_singleton.mp m]
            exact ⟨z, hz.1, hz.2, rfl, ax1⟩
  · rintro acc η ⟨xs, ys, kx', hk', e1, rfl, hx, ax, ay, hy, rfl⟩
    have ys_in : InU univ ys := ⟨ay, fun y m => by
      obtain ⟨q, q1, q2, rfl, _⟩ := hy y m
      exact in_univ hf (by omega) (by omega)⟩
    have l := ys_in.len univ_asc
    have lu := univ_len
    refine ⟨by rw [List.length_map, lineN_eq]; omega, ?_⟩
    simp only [wn_ok, wn_some, wn_only, wn_noex, wn_e2, wn_e1, wn_eN, wn_a0, wn_aC, wn_call, wn_tb, wn_tup, wn_lst, wn_andB, wn_orB, wn_notB, wn_andV, wn_orV, wn_notV, wn_ifV, wn_iA, wn_iR1, wn_iR2, wn_iZ, wn_iEn, wn_iRR, wn_sl, wn_p0, wn_p1, wn_up, wn_upB, wn_upI, wn_x2, wn_x0, wn_xC, wn_xN, wn_xb, wn_xAnd, wn_xOr, wn_xNot, wn_xIf, wn_xCall, wn_xR1, wn_xR2, sn_nx, sn_rt, sn_bk, sn_ct, sn_seq, sn_set, sn_ret, sn_expr, sn_if, sn_for, sn_xSet, sn_xRet, sn_xExpr, sn_xIf, sn_xFor, sn_asg, sn_xAsg, sn_own, sn_xOwn, gv_zero, gv_succ, go_own, go_dat, go_succ, k0_def, gN_def, tru_bool, tru_none, tru_int, tru_list, asSeq_list, asSeq_tup, addV_int, subV_int, ltA_i, leA_i, gtA_i, geA_i, negV_int, intV_int, lenV_list, lenV_tup, ixV_list, ixV_tup, asInt_int, slV_list, slV_tup, slL_list, revV_tup, revV_list, tupleV_list, listV_list, listV_tup, eqV_str, neV_str, eqV_int, List.set_cons_zero, List.set_cons_succ, List.getElem?_cons_zero, List.getElem?_cons_succ, List.length_cons, List.length_nil, ↓reduceIte, Bool.false_eq_true, Bool.not_true, Bool.not_false, wn_ite, gT2, gT3, neV_tup, eqV_tup, in_tup, notin_tup', lineN_eq, Nat.reduceAdd, Nat.reduceLeDiff, Nat.zero_le, true_and, and_true, List.map_nil, List.map_cons, exists_eq_left', Option.some.injEq, PyData.list.injEq, exists_eq_left, PyData.int.injEq, R.ok.injEq, Sl.own.injEq]
    exact ⟨kx', rfl, k ys kx' hk' ys_in⟩
theorem rows_w {kx : List D} {most : Int} {QK : D × List D → Prop} (hk : Dk.Deck kx) (h0 : 0 ≤ most) (h1 : most ≤ 12) (k : ∀ (rows : List Row) kx', Dk.Deck kx' → (∀ r ∈ rows, InU univ r) → rows.length ≤ most.toNat → QK (.list (rows.map tupI), kx')) : Wn (F__law_rows kx [.int most]) QK := by
  have lu := univ_len
  refine wn_runK ?_
  show Sn (G__law_rows [.own ⟨false, kx⟩, .d (.int most), .no, .no, .no, .no, .no, .no, .no]) _ _ _ _
  unfold G__law_rows
  simp only [wn_ok, wn_some, wn_only, wn_noex, wn_e2, wn_e1, wn_eN, wn_a0, wn_aC, wn_call, wn_tb, wn_tup, wn_lst, wn_andB, wn_orB, wn_notB, wn_andV, wn_orV, wn_notV, wn_ifV, wn_iA, wn_iR1, wn_iR2, wn_iZ, wn_iEn, wn_iRR, wn_sl, wn_p0, wn_p1, wn_up, wn_upB, wn_upI, wn_x2, wn_x0, wn_xC, wn_xN, wn_xb, wn_xAnd, wn_xOr, wn_xNot, wn_xIf, wn_xCall, wn_xR1, wn_xR2, sn_nx, sn_rt, sn_bk, sn_ct, sn_seq, sn_set, sn_ret, sn_expr, sn_if, sn_for, sn_xSet, sn_xRet, sn_xExpr, sn_xIf, sn_xFor, sn_asg, sn_xAsg, sn_own, sn_xOwn, gv_zero, gv_succ, go_own, go_dat, go_succ, k0_def, gN_def, tru_bool, tru_none, tru_int, tru_list, asSeq_list, asSeq_tup, addV_int, subV_int, ltA_i, leA_i, gtA_i, geA_i, negV_int, intV_int, lenV_list, lenV_tup, ixV_list, ixV_tup, asInt_int, slV_list, slV_tup, slL_list, revV_tup, revV_list, tupleV_list, listV_list, listV_tup, eqV_str, neV_str, eqV_int, List.set_cons_zero, List.set_cons_succ, List.getElem?_cons_zero, List.getElem?_cons_succ, List.length_cons, List.length_nil, ↓reduceIte, Bool.false_eq_true, Bool.not_true, Bool.not_false, wn_ite, gT2, gT3, neV_tup, eqV_tup, in_tup, notin_tup', lineN_eq, Nat.reduceAdd, Nat.reduceLeDiff, Nat.zero_le, true_and, and_true, List.map_nil, List.map_cons, exists_eq_left', Option.some.injEq, PyData.list.injEq, exists_eq_left, PyData.int.injEq, R.ok.injEq, Sl.own.injEq]
  refine wn_callK rfl ?_
  simp only [wn_ok, wn_some, wn_only, wn_noex, wn_e2, wn_e1, wn_eN, wn_a0, wn_aC, wn_call, wn_tb, wn_tup, wn_lst, wn_andB, wn_orB, wn_notB, wn_andV, wn_orV, wn_notV, wn_ifV, wn_iA, wn_iR1, wn_iR2, wn_iZ, wn_iEn, wn_iRR, wn_sl, wn_p0, wn_p1, wn_up, wn_upB, wn_upI, wn_x2, wn_x0, wn_xC, wn_xN, wn_xb, wn_xAnd, wn_xOr, wn_xNot, wn_xIf, wn_xCall, wn_xR1, wn_xR2, sn_nx, sn_rt, sn_bk, sn_ct, sn_seq, sn_set, sn_ret, sn_expr, sn_if, sn_for, sn_xSet, sn_xRet, sn_xExpr, sn_xIf, sn_xFor, sn_asg, sn_xAsg, sn_own, sn_xOwn, gv_zero, gv_succ, go_own, go_dat, go_succ, k0_def, gN_def, tru_bool, tru_none, tru_int, tru_list, asSeq_list, asSeq_tup, addV_int, subV_int, ltA_i, leA_i, gtA_i, geA_i, negV_int, intV_int, lenV_list, lenV_tup, ixV_list, ixV_tup, asInt_int, slV_list, slV_tup, slL_list, revV_tup, revV_list, tupleV_list, listV_list, listV_tup, eqV_str, neV_str, eqV_int, List.set_cons_zero, List.set_cons_succ, List.getElem?_cons_zero, List.getElem?_cons_succ, List.length_cons, List.length_nil, ↓reduceIte, Bool.false_eq_true, Bool.not_true, Bool.not_false, wn_ite, gT2, gT3, neV_tup, eqV_tup, in_tup, notin_tup', lineN_eq, Nat.reduceAdd, Nat.reduceLeDiff, Nat.zero_le, true_and, and_true, List.map_nil, List.map_cons, exists_eq_left', Option.some.injEq, PyData.list.injEq, exists_eq_left, PyData.int.injEq, R.ok.injEq, Sl.own.injEq]
  refine wn_draw (b := 13) hk (by decide) fun wd kx1 hk1 wd0 wd1 => ?_
  simp only [wn_ok, wn_some, wn_only, wn_noex, wn_e2, wn_e1, wn_eN, wn_a0, wn_aC, wn_call, wn_tb, wn_tup, wn_lst, wn_andB, wn_orB, wn_notB, wn_andV, wn_orV, wn_notV, wn_ifV, wn_iA, wn_iR1, wn_iR2, wn_iZ, wn_iEn, wn_iRR, wn_sl, wn_p0, wn_p1, wn_up, wn_upB, wn_upI, wn_x2, wn_x0, wn_xC, wn_xN, wn_xb, wn_xAnd, wn_xOr, wn_xNot, wn_xIf, wn_xCall, wn_xR1, wn_xR2, sn_nx, sn_rt, sn_bk, sn_ct, sn_seq, sn_set, sn_ret, sn_expr, sn_if, sn_for, sn_xSet, sn_xRet, sn_xExpr, sn_xIf, sn_xFor, sn_asg, sn_xAsg, sn_own, sn_xOwn, gv_zero, gv_succ, go_own, go_dat, go_succ, k0_def, gN_def, tru_bool, tru_none, tru_int, tru_list, asSeq_list, asSeq_tup, addV_int, subV_int, ltA_i, leA_i, gtA_i, geA_i, negV_int, intV_int, lenV_list, lenV_tup, ixV_list, ixV_tup, asInt_int, slV_list, slV_tup, slL_list, revV_tup, revV_list, tupleV_list, listV_list, listV_tup, eqV_str, neV_str, eqV_int, List.set_cons_zero, List.set_cons_succ, List.getElem?_cons_zero, List.getElem?_cons_succ, List.length_cons, List.length_nil, ↓reduceIte, Bool.false_eq_true, Bool.not_true, Bool.not_false, wn_ite, gT2, gT3, neV_tup, eqV_tup, in_tup, notin_tup', lineN_eq, Nat.reduceAdd, Nat.reduceLeDiff, Nat.zero_le, true_and, and_true, List.map_nil, List.map_cons, exists_eq_left', Option.some.injEq, PyData.list.injEq, exists_eq_left, PyData.int.injEq, R.ok.injEq, Sl.own.injEq]
  refine wn_callK rfl ?_
  simp only [wn_ok, wn_some, wn_only, wn_noex, wn_e2, wn_e1, wn_eN, wn_a0, wn_aC, wn_call, wn_tb, wn_tup, wn_lst, wn_andB, wn_orB, wn_notB, wn_andV, wn_orV, wn_notV, wn_ifV, wn_iA, wn_iR1, wn_iR2, wn_iZ, wn_iEn, wn_iRR, wn_sl, wn_p0, wn_p1, wn_up, wn_upB, wn_upI, wn_x2, wn_x0, wn_xC, wn_xN, wn_xb, wn_xAnd, wn_xOr, wn_xNot, wn_xIf, wn_xCall, wn_xR1, wn_xR2, sn_nx, sn_rt, sn_bk, sn_ct, sn_seq, sn_set, sn_ret, sn_expr, sn_if, sn_for, sn_xSet, sn_xRet, sn_xExpr, sn_xIf, sn_xFor, sn_asg, sn_xAsg, sn_own, sn_xOwn, gv_zero, gv_succ, go_own, go_dat, go_succ, k0_def, gN_def, tru_bool, tru_none, tru_int, tru_list, asSeq_list, asSeq_tup, addV_int, subV_int, ltA_i, leA_i, gtA_i, geA_i, negV_int, intV_int, lenV_list, lenV_tup, ixV_list, ixV_tup, asInt_int, slV_list, slV_tup, slL_list, revV_tup, revV_list, tupleV_list, listV_list, listV_tup, eqV_str, neV_str, eqV_int, List.set_cons_zero, List.set_cons_succ, List.getElem?_cons_zero, List.getElem?_cons_succ, List.length_cons, List.length_nil, ↓reduceIte, Bool.false_eq_true, Bool.not_true, Bool.not_false, wn_ite, gT2, gT3, neV_tup, eqV_tup, in_tup, notin_tup', lineN_eq, Nat.reduceAdd, Nat.reduceLeDiff, Nat.zero_le, true_and, and_true, List.map_nil, List.map_cons, exists_eq_left', Option.some.injEq, PyData.list.injEq, exists_eq_left, PyData.int.injEq, R.ok.injEq, Sl.own.injEq]
  refine wn_draw (b := 3) hk1 (by decide) fun fi kx2 hk2 fi0 fi1 => ?_
  obtain ⟨f, hf, ef⟩ : ∃ f : Int, (f = 1 ∨ f = 1000003) ∧ atD [.int 1, .int 1, .int 1000003] fi = some (.int f) := by
    have : fi = 0 ∨ fi = 1 ∨ fi = 2 := by omega
    rcases this with rfl | rfl | rfl
    · exact ⟨1, .inl rfl, rfl⟩
    · exact ⟨1, .inl rfl, rfl⟩
    · exact ⟨1000003, .inr rfl, rfl⟩
  simp only [wn_ok, wn_some, wn_only, wn_noex, wn_e2, wn_e1, wn_eN, wn_a0, wn_aC, wn_call, wn_tb, wn_tup, wn_lst, wn_andB, wn_orB, wn_notB, wn_andV, wn_orV, wn_notV, wn_ifV, wn_iA, wn_iR1, wn_iR2, wn_iZ, wn_iEn, wn_iRR, wn_sl, wn_p0, wn_p1, wn_up, wn_upB, wn_upI, wn_x2, wn_x0, wn_xC, wn_xN, wn_xb, wn_xAnd, wn_xOr, wn_xNot, wn_xIf, wn_xCall, wn_xR1, wn_xR2, sn_nx, sn_rt, sn_bk, sn_ct, sn_seq, sn_set, sn_ret, sn_expr, sn_if, sn_for, sn_xSet, sn_xRet, sn_xExpr, sn_xIf, sn_xFor, sn_asg, sn_xAsg, sn_own, sn_xOwn, gv_zero, gv_succ, go_own, go_dat, go_succ, k0_def, gN_def, tru_bool, tru_none, tru_int, tru_list, asSeq_list, asSeq_tup, addV_int, subV_int, ltA_i, leA_i, gtA_i, geA_i, negV_int, intV_int, lenV_list, lenV_tup, ixV_list, ixV_tup, asInt_int, slV_list, slV_tup, slL_list, revV_tup, revV_list, tupleV_list, listV_list, listV_tup, eqV_str, neV_str, eqV_int, List.set_cons_zero, List.set_cons_succ, List.getElem?_cons_zero, List.getElem?_cons_succ, List.length_cons, List.length_nil, ↓reduceIte, Bool.false_eq_true, Bool.not_true, Bool.not_false, wn_ite, gT2, gT3, neV_tup, eqV_tup, in_tup, notin_tup', lineN_eq, Nat.reduceAdd, Nat.reduceLeDiff, Nat.zero_le, true_and, and_true, List.map_nil, List.map_cons, exists_eq_left', Option.some.injEq, PyData.list.injEq, exists_eq_left, PyData.int.injEq, R.ok.injEq, Sl.own.injEq, ef]
  refine wn_callK rfl ?_
  simp only [wn_ok, wn_some, wn_only, wn_noex, wn_e2, wn_e1, wn_eN, wn_a0, wn_aC, wn_call, wn_tb, wn_tup, wn_lst, wn_andB, wn_orB, wn_notB, wn_andV, wn_orV, wn_notV, wn_ifV, wn_iA, wn_iR1, wn_iR2, wn_iZ, wn_iEn, wn_iRR, wn_sl, wn_p0, wn_p1, wn_up, wn_upB, wn_upI, wn_x2, wn_x0, wn_xC, wn_xN, wn_xb, wn_xAnd, wn_xOr, wn_xNot, wn_xIf, wn_xCall, wn_xR1, wn_xR2, sn_nx, sn_rt, sn_bk, sn_ct, sn_seq, sn_set, sn_ret, sn_expr, sn_if, sn_for, sn_xSet, sn_xRet, sn_xExpr, sn_xIf, sn_xFor, sn_asg, sn_xAsg, sn_own, sn_xOwn, gv_zero, gv_succ, go_own, go_dat, go_succ, k0_def, gN_def, tru_bool, tru_none, tru_int, tru_list, asSeq_list, asSeq_tup, addV_int, subV_int, ltA_i, leA_i, gtA_i, geA_i, negV_int, intV_int, lenV_list, lenV_tup, ixV_list, ixV_tup, asInt_int, slV_list, slV_tup, slL_list, revV_tup, revV_list, tupleV_list, listV_list, listV_tup, eqV_str, neV_str, eqV_int, List.set_cons_zero, List.set_cons_succ, List.getElem?_cons_zero, List.getElem?_cons_succ, List.length_cons, List.length_nil, ↓reduceIte, Bool.false_eq_true, Bool.not_true, Bool.not_false, wn_ite, gT2, gT3, neV_tup, eqV_tup, in_tup, notin_tup', lineN_eq, Nat.reduceAdd, Nat.reduceLeDiff, Nat.zero_le, true_and, and_true, List.map_nil, List.map_cons, exists_eq_left', Option.some.injEq, PyData.list.injEq, exists_eq_left, PyData.int.injEq, R.ok.injEq, Sl.own.injEq]
  refine wn_draw (b := 4) hk2 (by decide) fun li kx3 hk3 li0 li1 => ?_
  obtain ⟨lo, lo0, lo1, el⟩ : ∃ lo : Int, 0 ≤ lo ∧ lo ≤ 13 ∧ atD [.int 0, .int 0, .int 4, .int 13] li = some (.int lo) := by
    have : li = 0 ∨ li = 1 ∨ li = 2 ∨ li = 3 := by omega
    rcases this with rfl | rfl | rfl | rfl
    · exact ⟨0, by decide, by decide, rfl⟩
    · exact ⟨0, by decide, by decide, rfl⟩
    · exact ⟨4, by decide, by decide, rfl⟩
    · exact ⟨13, by decide, by decide, rfl⟩
  simp only [wn_ok, wn_some, wn_only, wn_noex, wn_e2, wn_e1, wn_eN, wn_a0, wn_aC, wn_call, wn_tb, wn_tup, wn_lst, wn_andB, wn_orB, wn_notB, wn_andV, wn_orV, wn_notV, wn_ifV, wn_iA, wn_iR1, wn_iR2, wn_iZ, wn_iEn, wn_iRR, wn_sl, wn_p0, wn_p1, wn_up, wn_upB, wn_upI, wn_x2, wn_x0, wn_xC, wn_xN, wn_xb, wn_xAnd, wn_xOr, wn_xNot, wn_xIf, wn_xCall, wn_xR1, wn_xR2, sn_nx, sn_rt, sn_bk, sn_ct, sn_seq, sn_set, sn_ret, sn_expr, sn_if, sn_for, sn_xSet, sn_xRet, sn_xExpr, sn_xIf, sn_xFor, sn_asg, sn_xAsg, sn_own, sn_xOwn, gv_zero, gv_succ, go_own, go_dat, go_succ, k0_def, gN_def, tru_bool, tru_none, tru_int, tru_list, asSeq_list, asSeq_tup, addV_int, subV_int, ltA_i, leA_i, gtA_i, geA_i, negV_int, intV_int, lenV_list, lenV_tup, ixV_list, ixV_tup, asInt_int, slV_list, slV_tup, slL_list, revV_tup, revV_list, tupleV_list, listV_list, listV_tup, eqV_str, neV_str, eqV_int, List.set_cons_zero, List.set_cons_succ, List.getElem?_cons_zero, List.getElem?_cons_succ, List.length_cons, List.length_nil, ↓reduceIte, Bool.false_eq_true, Bool.not_true, Bool.not_false, wn_ite, gT2, gT3, neV_tup, eqV_tup, in_tup, notin_tup', lineN_eq, Nat.reduceAdd, Nat.reduceLeDiff, Nat.zero_le, true_and, and_true, List.map_nil, List.map_cons, exists_eq_left', Option.some.injEq, PyData.list.injEq, exists_eq_left, PyData.int.injEq, R.ok.injEq, Sl.own.injEq, el]
  refine wn_callK rfl ?_
  simp only [wn_ok, wn_some, wn_only, wn_noex, wn_e2, wn_e1, wn_eN, wn_a0, wn_aC, wn_call, wn_tb, wn_tup, wn_lst, wn_andB, wn_orB, wn_notB, wn_andV, wn_orV, wn_notV, wn_ifV, wn_iA, wn_iR1, wn_iR2, wn_iZ, wn_iEn, wn_iRR, wn_sl, wn_p0, wn_p1, wn_up, wn_upB, wn_upI, wn_x2, wn_x0, wn_xC, wn_xN, wn_xb, wn_xAnd, wn_xOr, wn_xNot, wn_xIf, wn_xCall, wn_xR1, wn_xR2, sn_nx, sn_rt, sn_bk, sn_ct, sn_seq, sn_set, sn_ret, sn_expr, sn_if, sn_for, sn_xSet, sn_xRet, sn_xExpr, sn_xIf, sn_xFor, sn_asg, sn_xAsg, sn_own, sn_xOwn, gv_zero, gv_succ, go_own, go_dat, go_succ, k0_def, gN_def, tru_bool, tru_none, tru_int, tru_list, asSeq_list, asSeq_tup, addV_int, subV_int, ltA_i, leA_i, gtA_i, geA_i, negV_int, intV_int, lenV_list, lenV_tup, ixV_list, ixV_tup, asInt_int, slV_list, slV_tup, slL_list, revV_tup, revV_list, tupleV_list, listV_list, listV_tup, eqV_str, neV_str, eqV_int, List.set_cons_zero, List.set_cons_succ, List.getElem?_cons_zero, List.getElem?_cons_succ, List.length_cons, List.length_nil, ↓reduceIte, Bool.false_eq_true, Bool.not_true, Bool.not_false, wn_ite, gT2, gT3, neV_tup, eqV_tup, in_tup, notin_tup', lineN_eq, Nat.reduceAdd, Nat.reduceLeDiff, Nat.zero_le, true_and, and_true, List.map_nil, List.map_cons, exists_eq_left', Option.some.injEq, PyData.list.injEq, exists_eq_left, PyData.int.injEq, R.ok.injEq, Sl.own.injEq]
  refine wn_draw hk3 (by omega) fun n kx4 hk4 n0 n1 => ?_
  simp only [wn_ok, wn_some, wn_only, wn_noex, wn_e2, wn_e1, wn_eN, wn_a0, wn_aC, wn_call, wn_tb, wn_tup, wn_lst, wn_andB, wn_orB, wn_notB, wn_andV, wn_orV, wn_notV, wn_ifV, wn_iA, wn_iR1, wn_iR2, wn_iZ, wn_iEn, wn_iRR, wn_sl, wn_p0, wn_p1, wn_up, wn_upB, wn_upI, wn_x2, wn_x0, wn_xC, wn_xN, wn_xb, wn_xAnd, wn_xOr, wn_xNot, wn_xIf, wn_xCall, wn_xR1, wn_xR2, sn_nx, sn_rt, sn_bk, sn_ct, sn_seq, sn_set, sn_ret, sn_expr, sn_if, sn_for, sn_xSet, sn_xRet, sn_xExpr, sn_xIf, sn_xFor, sn_asg, sn_xAsg, sn_own, sn_xOwn, gv_zero, gv_succ, go_own, go_dat, go_succ, k0_def, gN_def, tru_bool, tru_none, tru_int, tru_list, asSeq_list, asSeq_tup, addV_int, subV_int, ltA_i, leA_i, gtA_i, geA_i, negV_int, intV_int, lenV_list, lenV_tup, ixV_list, ixV_tup, asInt_int, slV_list, slV_tup, slL_list, revV_tup, revV_list, tupleV_list, listV_list, listV_tup, eqV_str, neV_str, eqV_int, List.set_cons_zero, List.set_cons_succ, List.getElem?_cons_zero, List.getElem?_cons_succ, List.length_cons, List.length_nil, ↓reduceIte, Bool.false_eq_true, Bool.not_true, Bool.not_false, wn_ite, gT2, gT3, neV_tup, eqV_tup, in_tup, notin_tup', lineN_eq, Nat.reduceAdd, Nat.reduceLeDiff, Nat.zero_le, true_and, and_true, List.map_nil, List.map_cons, exists_eq_left', Option.some.injEq, PyData.list.injEq, exists_eq_left, PyData.int.injEq, R.ok.injEq, Sl.own.injEq]
  rw [wn_rng1 n0 (by omega)]
  refine sn_loop (fun rest η => ∃ (rows : List Row) (kx' : List D) (s6 s7 s8 : Sl), Dk.Deck kx' ∧ (∀ r ∈ rows, InU univ r) ∧ rows.length + rest.length ≤ most.toNat ∧
      η = [.own ⟨false, kx'⟩, .d (.int most), .d (.int wd), .d (.int f), .d (.int lo), .own ⟨true, rows.map tupI⟩, s6, s7, s8]) ?_ ?_ _ _ ⟨[], kx4, .no, .no, .no, hk4, fun r m => absurd m List.not_mem_nil, ?_, rfl⟩
  · rintro x rest η ⟨rows, kx', s6, s7, s8, hk', hrows, hz, rfl⟩
    rw [List.length_cons] at hz
    refine ⟨_, rfl, ?_⟩
    simp only [wn_ok, wn_some, wn_only, wn_noex, wn_e2, wn_e1, wn_eN, wn_a0, wn_aC, wn_call, wn_tb, wn_tup, wn_lst, wn_andB, wn_orB, wn_notB, wn_andV, wn_orV, wn_notV, wn_ifV, wn_iA, wn_iR1, wn_iR2, wn_iZ, wn_iEn, wn_iRR, wn_sl, wn_p0, wn_p1, wn_up, wn_upB, wn_upI, wn_x2, wn_x0, wn_xC, wn_xN, wn_xb, wn_xAnd, wn_xOr, wn_xNot, wn_xIf, wn_xCall, wn_xR1, wn_xR2, sn_nx, sn_rt, sn_bk, sn_ct, sn_seq, sn_set, sn_ret, sn_expr, sn_if, sn_for, sn_xSet, sn_xRet, sn_xExpr, sn_xIf, sn_xFor, sn_asg, sn_xAsg, sn_own, sn_xOwn, gv_zero, gv_succ, go_own, go_dat, go_succ, k0_def, gN_def, tru_bool, tru_none, tru_int, tru_list, asSeq_list, asSeq_tup, addV_int, subV_int, ltA_i, leA_i, gtA_i, geA_i, negV_int, intV_int, lenV_list, lenV_tup, ixV_list, ixV_tup, asInt_int, slV_list, slV_tup, slL_list, revV_tup, revV_list, tupleV_list, listV_list, listV_tup, eqV_str, neV_str, eqV_int, List.set_cons_zero, List.set_cons_succ, List.getElem?_cons_zero, List.getElem?_cons_succ, List.length_cons, List.length_nil, ↓reduceIte, Bool.false_eq_true, Bool.not_true, Bool.not_false, wn_ite, gT2, gT3, neV_tup, eqV_tup, in_tup, notin_tup', lineN_eq, Nat.reduceAdd, Nat.reduceLeDiff, Nat.zero_le, true_and, and_true, List.map_nil, List.map_cons, exists_eq_left', Option.some.injEq, PyData.list.injEq, exists_eq_left, PyData.int.injEq, R.ok.injEq, Sl.own.injEq]
    refine wn_callK rfl ?_
    simp only [wn_ok, wn_some, wn_only, wn_noex, wn_e2, wn_e1, wn_eN, wn_a0, wn_aC, wn_call, wn_tb, wn_tup, wn_lst, wn_andB, wn_orB, wn_notB, wn_andV, wn_orV, wn_notV, wn_ifV, wn_iA, wn_iR1, wn_iR2, wn_iZ, wn_iEn, wn_iRR, wn_sl, wn_p0, wn_p1, wn_up, wn_upB, wn_upI, wn_x2, wn_x0, wn_xC, wn_xN, wn_xb, wn_xAnd, wn_xOr, wn_xNot, wn_xIf, wn_xCall, wn_xR1, wn_xR2, sn_nx, sn_rt, sn_bk, sn_ct, sn_seq, sn_set, sn_ret, sn_expr, sn_if, sn_for, sn_xSet, sn_xRet, sn_xExpr, sn_xIf, sn_xFor, sn_asg, sn_xAsg, sn_own, sn_xOwn, gv_zero, gv_succ, go_own, go_dat, go_succ, k0_def, gN_def, tru_bool, tru_none, tru_int, tru_list, asSeq_list, asSeq_tup, addV_int, subV_int, ltA_i, leA_i, gtA_i, geA_i, negV_int, intV_int, lenV_list, lenV_tup, ixV_list, ixV_tup, asInt_int, slV_list, slV_tup, slL_list, revV_tup, revV_list, tupleV_list, listV_list, listV_tup, eqV_str, neV_str, eqV_int, List.set_cons_zero, List.set_cons_succ, List.getElem?_cons_zero, List.getElem?_cons_succ, List.length_cons, List.length_nil, ↓reduceIte, Bool.false_eq_true, Bool.not_true, Bool.not_false, wn_ite, gT2, gT3, neV_tup, eqV_tup, in_tup, notin_tup', lineN_eq, Nat.reduceAdd, Nat.reduceLeDiff, Nat.zero_le, true_and, and_true, List.map_nil, List.map_cons, exists_eq_left', Option.some.injEq, PyData.list.injEq, exists_eq_left, PyData.int.injEq, R.ok.injEq, Sl.own.injEq]
    refine row_w hk' wd0 (by omega) hf lo0 lo1 fun row kx5 hk5 hrow => ?_
    simp only [wn_ok, wn_some, wn_only, wn_noex, wn_e2, wn_e1, wn_eN, wn_a0, wn_aC, wn_call, wn_tb, wn_tup, wn_lst, wn_andB, wn_orB, wn_notB, wn_andV, wn_orV, wn_notV, wn_ifV, wn_iA, wn_iR1, wn_iR2, wn_iZ, wn_iEn, wn_iRR, wn_sl, wn_p0, wn_p1, wn_up, wn_upB, wn_upI, wn_x2, wn_x0, wn_xC, wn_xN, wn_xb, wn_xAnd, wn_xOr, wn_xNot, wn_xIf, wn_xCall, wn_xR1, wn_xR2, sn_nx, sn_rt, sn_bk, sn_ct, sn_seq, sn_set, sn_ret, sn_expr, sn_if, sn_for, sn_xSet, sn_xRet, sn_xExpr, sn_xIf, sn_xFor, sn_asg, sn_xAsg, sn_own, sn_xOwn, gv_zero, gv_succ, go_own, go_dat, go_succ, k0_def, gN_def, tru_bool, tru_none, tru_int, tru_list, asSeq_list, asSeq_tup, addV_int, subV_int, ltA_i, leA_i, gtA_i, geA_i, negV_int, intV_int, lenV_list, lenV_tup, ixV_list, ixV_tup, asInt_int, slV_list, slV_tup, slL_list, revV_tup, revV_list, tupleV_list, listV_list, listV_tup, eqV_str, neV_str, eqV_int, List.set_cons_zero, List.set_cons_succ, List.getElem?_cons_zero, List.getElem?_cons_succ, List.length_cons, List.length_nil, ↓reduceIte, Bool.false_eq_true, Bool.not_true, Bool.not_false, wn_ite, gT2, gT3, neV_tup, eqV_tup, in_tup, notin_tup', lineN_eq, Nat.reduceAdd, Nat.reduceLeDiff, Nat.zero_le, true_and, and_true, List.map_nil, List.map_cons, exists_eq_left', Option.some.injEq, PyData.list.injEq, exists_eq_left, PyData.int.injEq, R.ok.injEq, Sl.own.injEq]
    have fin : ∀ (row : Row) (kx6 : List D) (s8 : Sl) (B C : Nv → Prop), Dk.Deck kx6 → InU univ row → Sn (appS 5 (gv 7) [.own ⟨false, kx6⟩, .d (.int most), .d (.int wd), .d (.int f), .d (.int lo), .own ⟨true, rows.map tupI⟩, .d x, .d (tupI row), s8])
        (fun η => ∃ (rows : List Row) (kx' : List D) (s6 s7 s8 : Sl), Dk.Deck kx' ∧ (∀ r ∈ rows, InU univ r) ∧ rows.length + rest.length ≤ most.toNat ∧ η = [.own ⟨false, kx'⟩, .d (.int most), .d (.int wd), .d (.int f), .d (.int lo), .own ⟨true, rows.map tupI⟩, s6, s7, s8])
        (fun d η => ∃ kx', η[(0 : Nat)]? = some (.own ⟨false, kx'⟩) ∧ QK (d, kx')) B C := fun row kx6 s8 B C hk6 hrow => by
      refine sn_app (xs := ⟨true, rows.map tupI⟩) rfl ?_
      simp only [wn_ok, wn_some, wn_only, wn_noex, wn_e2, wn_e1, wn_eN, wn_a0, wn_aC, wn_call, wn_tb, wn_tup, wn_lst, wn_andB, wn_orB, wn_notB, wn_andV, wn_orV, wn_notV, wn_ifV, wn_iA, wn_iR1, wn_iR2, wn_iZ, wn_iEn, wn_iRR, wn_sl, wn_p0, wn_p1, wn_up, wn_upB, wn_upI, wn_x2, wn_x0, wn_xC, wn_xN, wn_xb, wn_xAnd, wn_xOr, wn_xNot, wn_xIf, wn_xCall, wn_xR1, wn_xR2, sn_nx, sn_rt, sn_bk, sn_ct, sn_seq, sn_set, sn_ret, sn_expr, sn_if, sn_for, sn_xSet, sn_xRet, sn_xExpr, sn_xIf, sn_xFor, sn_asg, sn_xAsg, sn_own, sn_xOwn, gv_zero, gv_succ, go_own, go_dat, go_succ, k0_def, gN_def, tru_bool, tru_none, tru_int, tru_list, asSeq_list, asSeq_tup, addV_int, subV_int, ltA_i, leA_i, gtA_i, geA_i, negV_int, intV_int, lenV_list, lenV_tup, ixV_list, ixV_tup, asInt_int, slV_list, slV_tup, slL_list, revV_tup, revV_list, tupleV_list, listV_list, listV_tup, eqV_str, neV_str, eqV_int, List.set_cons_zero, List.set_cons_succ, List.getElem?_cons_zero, List.getElem?_cons_succ, List.length_cons, List.length_nil, ↓reduceIte, Bool.false_eq_true, Bool.not_true, Bool.not_false, wn_ite, gT2, gT3, neV_tup, eqV_tup, in_tup, notin_tup', lineN_eq, Nat.reduceAdd, Nat.reduceLeDiff, Nat.zero_le, true_and, and_true, List.map_nil, List.map_cons, exists_eq_left', Option.some.injEq, PyData.list.injEq, exists_eq_left, PyData.int.injEq, R.ok.injEq, Sl.own.injEq, List.length_map]
      refine ⟨by omega, rows ++ [row], kx6, .d x, .d (tupI row), s8, hk6, fun r m => ?_, by rw [List.length_append]; simp; omega, by rw [List.map_append]; rfl⟩
      rcases List.mem_append.mp m with m | m
      · exact hrows r m
      · rw [List.mem_singleton.mp m]
        exact hrow
    cases hp : decide (0 < ((rows.map tupI).length : Int)) with
    | false =>
      simp only [Bool.false_eq_true, ↓reduceIte]
      exact fin row kx5 s8 _ _ hk5 hrow
    | true =>
      simp only [↓reduceIte]
      refine wn_callK rfl ?_
      simp only [wn_ok, wn_some, wn_only, wn_noex, wn_e2, wn_e1, wn_eN, wn_a0, wn_aC, wn_call, wn_tb, wn_tup, wn_lst, wn_andB, wn_orB, wn_notB, wn_andV, wn_orV, wn_notV, wn_ifV, wn_iA, wn_iR1, wn_iR2, wn_iZ, wn_iEn, wn_iRR, wn_sl, wn_p0, wn_p1, wn_up, wn_upB, wn_upI, wn_x2, wn_x0, wn_xC, wn_xN, wn_xb, wn_xAnd, wn_xOr, wn_xNot, wn_xIf, wn_xCall, wn_xR1, wn_xR2, sn_nx, sn_rt, sn_bk, sn_ct, sn_seq, sn_set, sn_ret, sn_expr, sn_if, sn_for, sn_xSet, sn_xRet, sn_xExpr, sn_xIf, sn_xFor, sn_asg, sn_xAsg, sn_own, sn_xOwn, gv_zero, gv_succ, go_own, go_dat, go_succ, k0_def, gN_def, tru_bool, tru_none, tru_int, tru_list, asSeq_list, asSeq_tup, addV_int, subV_int, ltA_i, leA_i, gtA_i, geA_i, negV_int, intV_int, lenV_list, lenV_tup, ixV_list, ixV_tup, asInt_int, slV_list, slV_tup, slL_list, revV_tup, revV_list, tupleV_list, listV_list, listV_tup, eqV_str, neV_str, eqV_int, List.set_cons_zero, List.set_cons_succ, List.getElem?_cons_zero, List.getElem?_cons_succ, List.length_cons, List.length_nil, ↓reduceIte, Bool.false_eq_true, Bool.not_true, Bool.not_false, wn_ite, gT2, gT3, neV_tup, eqV_tup, in_tup, notin_tup', lineN_eq, Nat.reduceAdd, Nat.reduceLeDiff, Nat.zero_le, true_and, and_true, List.map_nil, List.map_cons, exists_eq_left', Option.some.injEq, PyData.list.injEq, exists_eq_left, PyData.int.injEq, R.ok.injEq, Sl.own.injEq]
      refine wn_draw (b := 3) hk5 (by decide) fun i kx6 hk6 _ _ => ?_
      simp only [wn_ok, wn_some, wn_only, wn_noex, wn_e2, wn_e1, wn_eN, wn_a0, wn_aC, wn_call, wn_tb, wn_tup, wn_lst, wn_andB, wn_orB, wn_notB, wn_andV, wn_orV, wn_notV, wn_ifV, wn_iA, wn_iR1, wn_iR2, wn_iZ, wn_iEn, wn_iRR, wn_sl, wn_p0, wn_p1, wn_up, wn_upB, wn_upI, wn_x2, wn_x0, wn_xC, wn_xN, wn_xb, wn_xAnd, wn_xOr, wn_xNot, wn_xIf, wn_xCall, wn_xR1, wn_xR2, sn_nx, sn_rt, sn_bk, sn_ct, sn_seq, sn_set, sn_ret, sn_expr, sn_if, sn_for, sn_xSet, sn_xRet, sn_xExpr, sn_xIf, sn_xFor, sn_asg, sn_xAsg, sn_own, sn_xOwn, gv_zero, gv_succ, go_own, go_dat, go_succ, k0_def, gN_def, tru_bool, tru_none, tru_int, tru_list, asSeq_list, asSeq_tup, addV_int, subV_int, ltA_i, leA_i, gtA_i, geA_i, negV_int, intV_int, lenV_list, lenV_tup, ixV_list, ixV_tup, asInt_int, slV_list, slV_tup, slL_list, revV_tup, revV_list, tupleV_list, listV_list, listV_tup, eqV_str, neV_str, eqV_int, List.set_cons_zero, List.set_cons_succ, List.getElem?_cons_zero, List.getElem?_cons_succ, List.length_cons, List.length_nil, ↓reduceIte, Bool.false_eq_true, Bool.not_true, Bool.not_false, wn_ite, gT2, gT3, neV_tup, eqV_tup, in_tup, notin_tup', lineN_eq, Nat.reduceAdd, Nat.reduceLeDiff, Nat.zero_le, true_and, and_true, List.map_nil, List.map_cons, exists_eq_left', Option.some.injEq, PyData.list.injEq, exists_eq_left, PyData.int.injEq, R.ok.injEq, Sl.own.injEq]
      cases hb : (i == 0) with
      | false =>
        simp only [Bool.false_eq_true, ↓reduceIte]
        exact fin row kx6 s8 _ _ hk6 hrow
      | true =>
        simp only [↓reduceIte]
        try simp only [wn_ok, wn_some, wn_only, wn_noex, wn_e2, wn_e1, wn_eN, wn_a0, wn_aC, wn_call, wn_tb, wn_tup, wn_lst, wn_andB, wn_orB, wn_notB, wn_andV, wn_orV, wn_notV, wn_ifV, wn_iA, wn_iR1, wn_iR2, wn_iZ, wn_iEn, wn_iRR, wn_sl, wn_p0, wn_p1, wn_up, wn_upB, wn_upI, wn_x2, wn_x0, wn_xC, wn_xN, wn_xb, wn_xAnd, wn_xOr, wn_xNot, wn_xIf, wn_xCall, wn_xR1, wn_xR2, sn_nx, sn_rt, sn_bk, sn_ct, sn_seq, sn_set, sn_ret, sn_expr, sn_if, sn_for, sn_xSet, sn_xRet, sn_xExpr, sn_xIf, sn_xFor, sn_asg, sn_xAsg, sn_own, sn_xOwn, gv_zero, gv_succ, go_own, go_dat, go_succ, k0_def, gN_def, tru_bool, tru_none, tru_int, tru_list, asSeq_list, asSeq_tup, addV_int, subV_int, ltA_i, leA_i, gtA_i, geA_i, negV_int, intV_int, lenV_list, lenV_tup, ixV_list, ixV_tup, asInt_int, slV_list, slV_tup, slL_list, revV_tup, revV_list, tupleV_list, listV_list, listV_tup, eqV_str, neV_str, eqV_int, List.set_cons_zero, List.set_cons_succ, List.getElem?_cons_zero, List.getElem?_cons_succ, List.length_cons, List.length_nil, ↓reduceIte, Bool.false_eq_true, Bool.not_true, Bool.not_false, wn_ite, gT2, gT3, neV_tup, eqV_tup, in_tup, notin_tup', lineN_eq, Nat.reduceAdd, Nat.reduceLeDiff, Nat.zero_le, true_and, and_true, List.map_nil, List.map_cons, exists_eq_left', Option.some.injEq, PyData.list.injEq, exists_eq_left, PyData.int.injEq, R.ok.injEq, Sl.own.injEq]
        refine wn_xCompO (fun rs acc η => ∃ (xs ys : List Row) (kx' : List D), Dk.Deck kx' ∧ rs = xs.map tupI ∧ acc = ys.map tupI ∧ (∀ r ∈ xs, InU univ r) ∧ (∀ r ∈ ys, InU univ r) ∧ ys.length + xs.length ≤ 100 ∧
          η = [.own ⟨false, kx'⟩, .d (.int most), .d (.int wd), .d (.int f), .d (.int lo), .own ⟨true, rows.map tupI⟩, .d x, .d (tupI row), .no]) rfl ⟨rows, [], kx6, hk6, rfl, rfl, hrows, fun r m => absurd m List.not_mem_nil, by simp; omega, rfl⟩ ?_ ?_
        · rintro y rs acc η ⟨xs, ys, kx7, hk7, e1, rfl, hxs, hys, hz2, rfl⟩
          cases xs with
          | nil => cases e1
          | cons z xs =>
            rw [List.map_cons] at e1
            obtain ⟨rfl, rfl⟩ := List.cons.inj e1
            rw [List.length_cons] at hz2
            refine ⟨_, rfl, ?_⟩
            simp only [wn_ok, wn_some, wn_only, wn_noex, wn_e2, wn_e1, wn_eN, wn_a0, wn_aC, wn_call, wn_tb, wn_tup, wn_lst, wn_andB, wn_orB, wn_notB, wn_andV, wn_orV, wn_notV, wn_ifV, wn_iA, wn_iR1, wn_iR2, wn_iZ, wn_iEn, wn_iRR, wn_sl, wn_p0, wn_p1, wn_up, wn_upB, wn_upI, wn_x2, wn_x0, wn_xC, wn_xN, wn_xb, wn_xAnd, wn_xOr, wn_xNot, wn_xIf, wn_xCall, wn_xR1, wn_xR2, sn_nx, sn_rt, sn_bk, sn_ct, sn_seq, sn_set, sn_ret, sn_expr, sn_if, sn_for, sn_xSet, sn_xRet, sn_xExpr, sn_xIf, sn_xFor, sn_asg, sn_xAsg, sn_own, sn_xOwn, gv_zero, gv_succ, go_own, go_dat, go_succ, k0_def, gN_def, tru_bool, tru_none, tru_int, tru_list, asSeq_list, asSeq_tup, addV_int, subV_int, ltA_i, leA_i, gtA_i, geA_i, negV_int, intV_int, lenV_list, lenV_tup, ixV_list, ixV_tup, asInt_int, slV_list, slV_tup, slL_list, revV_tup, revV_list, tupleV_list, listV_list, listV_tup, eqV_str, neV_str, eqV_int, List.set_cons_zero, List.set_cons_succ, List.getElem?_cons_zero, List.getElem?_cons_succ, List.length_cons, List.length_nil, ↓reduceIte, Bool.false_eq_true, Bool.not_true, Bool.not_false, wn_ite, gT2, gT3, neV_tup, eqV_tup, in_tup, notin_tup', lineN_eq, Nat.reduceAdd, Nat.reduceLeDiff, Nat.zero_le, true_and, and_true, List.map_nil, List.map_cons, exists_eq_left', Option.some.injEq, PyData.list.injEq, exists_eq_left, PyData.int.injEq, R.ok.injEq, Sl.own.injEq]
            refine wn_callK rfl ?_
            simp only [wn_ok, wn_some, wn_only, wn_noex, wn_e2, wn_e1, wn_eN, wn_a0, wn_aC, wn_call, wn_tb, wn_tup, wn_lst, wn_andB, wn_orB, wn_notB, wn_andV, wn_orV, wn_notV, wn_ifV, wn_iA, wn_iR1, wn_iR2, wn_iZ, wn_iEn, wn_iRR, wn_sl, wn_p0, wn_p1, wn_up, wn_upB, wn_upI, wn_x2, wn_x0, wn_xC, wn_xN, wn_xb, wn_xAnd, wn_xOr, wn_xNot, wn_xIf, wn_xCall, wn_xR1, wn_xR2, sn_nx, sn_rt, sn_bk, sn_ct, sn_seq, sn_set, sn_ret, sn_expr, sn_if, sn_for, sn_xSet, sn_xRet, sn_xExpr, sn_xIf, sn_xFor, sn_asg, sn_xAsg, sn_own, sn_xOwn, gv_zero, gv_succ, go_own, go_dat, go_succ, k0_def, gN_def, tru_bool, tru_none, tru_int, tru_list, asSeq_list, asSeq_tup, addV_int, subV_int, ltA_i, leA_i, gtA_i, geA_i, negV_int, intV_int, lenV_list, lenV_tup, ixV_list, ixV_tup, asInt_int, slV_list, slV_tup, slL_list, revV_tup, revV_list, tupleV_list, listV_list, listV_tup, eqV_str, neV_str, eqV_int, List.set_cons_zero, List.set_cons_succ, List.getElem?_cons_zero, List.getElem?_cons_succ, List.length_cons, List.length_nil, ↓reduceIte, Bool.false_eq_true, Bool.not_true, Bool.not_false, wn_ite, gT2, gT3, neV_tup, eqV_tup, in_tup, notin_tup', lineN_eq, Nat.reduceAdd, Nat.reduceLeDiff, Nat.zero_le, true_and, and_true, List.map_nil, List.map_cons, exists_eq_left', Option.some.injEq, PyData.list.injEq, exists_eq_left, PyData.int.injEq, R.ok.injEq, Sl.own.injEq]
            refine wn_draw (b := 2) hk7 (by decide) fun i2 kx8 hk8 _ _ => ?_
            simp only [wn_ok, wn_some, wn_only, wn_noex, wn_e2, wn_e1, wn_eN, wn_a0, wn_aC, wn_call, wn_tb, wn_tup, wn_lst, wn_andB, wn_orB, wn_notB, wn_andV, wn_orV, wn_notV, wn_ifV, wn_iA, wn_iR1, wn_iR2, wn_iZ, wn_iEn, wn_iRR, wn_sl, wn_p0, wn_p1, wn_up, wn_upB, wn_upI, wn_x2, wn_x0, wn_xC, wn_xN, wn_xb, wn_xAnd, wn_xOr, wn_xNot, wn_xIf, wn_xCall, wn_xR1, wn_xR2, sn_nx, sn_rt, sn_bk, sn_ct, sn_seq, sn_set, sn_ret, sn_expr, sn_if, sn_for, sn_xSet, sn_xRet, sn_xExpr, sn_xIf, sn_xFor, sn_asg, sn_xAsg, sn_own, sn_xOwn, gv_zero, gv_succ, go_own, go_dat, go_succ, k0_def, gN_def, tru_bool, tru_none, tru_int, tru_list, asSeq_list, asSeq_tup, addV_int, subV_int, ltA_i, leA_i, gtA_i, geA_i, negV_int, intV_int, lenV_list, lenV_tup, ixV_list, ixV_tup, asInt_int, slV_list, slV_tup, slL_list, revV_tup, revV_list, tupleV_list, listV_list, listV_tup, eqV_str, neV_str, eqV_int, List.set_cons_zero, List.set_cons_succ, List.getElem?_cons_zero, List.getElem?_cons_succ, List.length_cons, List.length_nil, ↓reduceIte, Bool.false_eq_true, Bool.not_true, Bool.not_false, wn_ite, gT2, gT3, neV_tup, eqV_tup, in_tup, notin_tup', lineN_eq, Nat.reduceAdd, Nat.reduceLeDiff, Nat.zero_le, true_and, and_true, List.map_nil, List.map_cons, exists_eq_left', Option.some.injEq, PyData.list.injEq, exists_eq_left, PyData.int.injEq, R.ok.injEq, Sl.own.injEq]
            have hxs' : ∀ r ∈ xs, InU univ r := fun r m => hxs r (List.mem_cons_of_mem _ m)
            cases hb2 : (i2 == 0) with
            | false =>
              simp only [Bool.false_eq_true, ↓reduceIte]
              exact ⟨xs, ys, kx8, hk8, rfl, rfl, hxs', hys, by omega, rfl⟩
            | true =>
              simp only [↓reduceIte]
              refine ⟨xs, ys ++ [z], kx8, hk8, rfl, by rw [List.map_append]; rfl, hxs', fun r m => ?_, by rw [List.length_append]; simp; omega, rfl⟩
              rcases List.mem_append.mp m with m | m
              · exact hys r m
              · rw [List.mem_singleton.mp m]
                exact hxs z List.mem_cons_self
        · rintro acc η ⟨xs, ys, kx7, hk7, e1, rfl, hxs, hys, hz2, rfl⟩
          refine ⟨by rw [List.length_map, lineN_eq]; omega, ?_⟩
          simp only [wn_ok, wn_some, wn_only, wn_noex, wn_e2, wn_e1, wn_eN, wn_a0, wn_aC, wn_call, wn_tb, wn_tup, wn_lst, wn_andB, wn_orB, wn_notB, wn_andV, wn_orV, wn_notV, wn_ifV, wn_iA, wn_iR1, wn_iR2, wn_iZ, wn_iEn, wn_iRR, wn_sl, wn_p0, wn_p1, wn_up, wn_upB, wn_upI, wn_x2, wn_x0, wn_xC, wn_xN, wn_xb, wn_xAnd, wn_xOr, wn_xNot, wn_xIf, wn_xCall, wn_xR1, wn_xR2, sn_nx, sn_rt, sn_bk, sn_ct, sn_seq, sn_set, sn_ret, sn_expr, sn_if, sn_for, sn_xSet, sn_xRet, sn_xExpr, sn_xIf, sn_xFor, sn_asg, sn_xAsg, sn_own, sn_xOwn, gv_zero, gv_succ, go_own, go_dat, go_succ, k0_def, gN_def, tru_bool, tru_none, tru_int, tru_list, asSeq_list, asSeq_tup, addV_int, subV_int, ltA_i, leA_i, gtA_i, geA_i, negV_int, intV_int, lenV_list, lenV_tup, ixV_list, ixV_tup, asInt_int, slV_list, slV_tup, slL_list, revV_tup, revV_list, tupleV_list, listV_list, listV_tup, eqV_str, neV_str, eqV_int, List.set_cons_zero, List.set_cons_succ, List.getElem?_cons_zero, List.getElem?_cons_succ, List.length_cons, List.length_nil, ↓reduceIte, Bool.false_eq_true, Bool.not_true, Bool.not_false, wn_ite, gT2, gT3, neV_tup, eqV_tup, in_tup, notin_tup', lineN_eq, Nat.reduceAdd, Nat.reduceLeDiff, Nat.zero_le, true_and, and_true, List.map_nil, List.map_cons, exists_eq_left', Option.some.injEq, PyData.list.injEq, exists_eq_left, PyData.int.injEq, R.ok.injEq, Sl.own.injEq, lsums_ok univ_asc lu hys]
          exact fin _ kx7 .no _ _ hk7 (fold_in hys .nil)
  · rintro η ⟨rows, kx', s6, s7, s8, hk', hrows, hz, rfl⟩
    refine sn_frz (xs := rows.map tupI) rfl ?_
    simp only [wn_ok, wn_some, wn_only, wn_noex, wn_e2, wn_e1, wn_eN, wn_a0, wn_aC, wn_call, wn_tb, wn_tup, wn_lst, wn_andB, wn_orB, wn_notB, wn_andV, wn_orV, wn_notV, wn_ifV, wn_iA, wn_iR1, wn_iR2, wn_iZ, wn_iEn, wn_iRR, wn_sl, wn_p0, wn_p1, wn_up, wn_upB, wn_upI, wn_x2, wn_x0, wn_xC, wn_xN, wn_xb, wn_xAnd, wn_xOr, wn_xNot, wn_xIf, wn_xCall, wn_xR1, wn_xR2, sn_nx, sn_rt, sn_bk, sn_ct, sn_seq, sn_set, sn_ret, sn_expr, sn_if, sn_for, sn_xSet, sn_xRet, sn_xExpr, sn_xIf, sn_xFor, sn_asg, sn_xAsg, sn_own, sn_xOwn, gv_zero, gv_succ, go_own, go_dat, go_succ, k0_def, gN_def, tru_bool, tru_none, tru_int, tru_list, asSeq_list, asSeq_tup, addV_int, subV_int, ltA_i, leA_i, gtA_i, geA_i, negV_int, intV_int, lenV_list, lenV_tup, ixV_list, ixV_tup, asInt_int, slV_list, slV_tup, slL_list, revV_tup, revV_list, tupleV_list, listV_list, listV_tup, eqV_str, neV_str, eqV_int, List.set_cons_zero, List.set_cons_succ, List.getElem?_cons_zero, List.getElem?_cons_succ, List.length_cons, List.length_nil, ↓reduceIte, Bool.false_eq_true, Bool.not_true, Bool.not_false, wn_ite, gT2, gT3, neV_tup, eqV_tup, in_tup, notin_tup', lineN_eq, Nat.reduceAdd, Nat.reduceLeDiff, Nat.zero_le, true_and, and_true, List.map_nil, List.map_cons, exists_eq_left', Option.some.injEq, PyData.list.injEq, exists_eq_left, PyData.int.injEq, R.ok.injEq, Sl.own.injEq]
    exact ⟨kx', rfl, k rows kx' hk' hrows (by simpa using hz)⟩
  · unfold rangeD
    rw [List.length_map, List.length_range]
    simp
    omega
end Rk
end Bd
/-! N7: which rows make what is left. -/
namespace Bd
open PySem L2

def sumR (rs : List Row) : Row := rs.foldr sumL []
theorem sumR_asc : ∀ {rs : List Row}, AscR rs → Asc (sumR rs)
  | [], _ => .nil
  | r :: rs, h => sumL_asc h.head (sumR_asc h.tail)
theorem sumR_perm {rs ss : List Row} (p : rs.Perm ss) : AscR rs → sumR rs = sumR ss := by
  induction p with
  | nil => exact fun _ => rfl
  | cons x _ ih => exact fun h => congrArg (sumL x) (ih h.tail)
  | swap x y l => exact fun h => sumL_swap h.head h.tail.head (sumR_asc h.tail.tail)
  | trans p1 _ ih1 ih2 => exact fun h => (ih1 h).trans (ih2 fun r m => h r (p1.mem_iff.mpr m))
theorem sumR_append : ∀ {rs ss : List Row}, AscR rs → AscR ss → sumR (rs ++ ss) = sumL (sumR rs) (sumR ss)
  | [], ss, _, hs => (sumL_nil (sumR_asc hs)).symm
  | r :: rs, ss, hr, hs => by
    show sumL r (sumR (rs ++ ss)) = sumL (sumL r (sumR rs)) (sumR ss)
    rw [sumR_append hr.tail hs, sumL_assoc hr.head (sumR_asc hr.tail) (sumR_asc hs)]
theorem fold_sumR : ∀ {rs : List Row} {a : Row}, AscR rs → Asc a → rs.foldl sumL a = sumL a (sumR rs)
  | [], a, _, ha => (sumL_nil' ha).symm
  | r :: rs, a, h, ha => by
    show rs.foldl sumL (sumL a r) = sumL a (sumL r (sumR rs))
    rw [fold_sumR h.tail (sumL_asc ha h.head), sumL_assoc ha h.head (sumR_asc h.tail)]
/-- the sum of the rows with these indexes -/
def rowAt (rows : List Row) (i : Int) : Row := rows.getD i.toNat []
def sumAt (rows : List Row) (idx : List Int) : Row := sumR (idx.map (rowAt rows))
theorem rowAt_asc {rows : List Row} (h : AscR rows) (i : Int) : Asc (rowAt rows i) := by
  unfold rowAt
  rw [List.getD_eq_getElem?_getD]
  cases c : rows[i.toNat]? with
  | none => exact .nil
  | some r => exact h r (List.mem_of_getElem? c)
theorem rowAt_all {rows : List Row} (h : AscR rows) (idx : List Int) : AscR (idx.map (rowAt rows)) := fun r m => by
  obtain ⟨i, _, rfl⟩ := List.mem_map.mp m
  exact rowAt_asc h i
theorem sumAt_asc {rows : List Row} (h : AscR rows) (idx : List Int) : Asc (sumAt rows idx) := sumR_asc (rowAt_all h idx)
theorem filter_split {α : Type} (p : α → Bool) : ∀ l : List α, (l.filter p ++ l.filter fun x => !p x).Perm l
  | [] => List.Perm.refl _
  | x :: l => by
    cases c : p x with
    | true =>
      rw [List.filter_cons_of_pos c, List.filter_cons_of_neg (by rw [c]; simp)]
      exact (filter_split p l).cons x
    | false =>
      rw [List.filter_cons_of_neg (by rw [c]; simp), List.filter_cons_of_pos (by rw [c]; rfl)]
      exact (List.perm_middle).trans ((filter_split p l).cons x)
/-- THE SUM of indexes tells the sum of the rows -/
theorem sumAt_sum {rows : List Row} (h : AscR rows) {a b : List Int} (ha : Asc a) (hb : Asc b) : sumAt rows (sumL a b) = sumL (sumAt rows a) (sumAt rows b) := by
  have S : ∀ l : List Int, Asc (sumAt rows l) := sumAt_asc h
  have app : ∀ l m : List Int, sumAt rows (l ++ m) = sumL (sumAt rows l) (sumAt rows m) := fun l m => by
    unfold sumAt
    rw [List.map_append, sumR_append (rowAt_all h l) (rowAt_all h m)]
  have perm : ∀ {l m : List Int}, l.Perm m → sumAt rows l = sumAt rows m := fun p => sumR_perm (p.map _) (rowAt_all h _)
  have e1 : sumAt rows (sumL a b) = sumL (sumAt rows (a.filter (notIn b))) (sumAt rows (b.filter (notIn a))) := by
    rw [← app]
    exact perm (isort_perm _)
  have e2 : sumAt rows a = sumL (sumAt rows (a.filter (notIn b))) (sumAt rows (a.filter fun x => !notIn b x)) := by
    rw [← app]
    exact (perm (filter_split (notIn b) a)).symm
  have e3 : sumAt rows b = sumL (sumAt rows (b.filter (notIn a))) (sumAt rows (b.filter fun x => !notIn a x)) := by
    rw [← app]
    exact (perm (filter_split (notIn a) b)).symm
  have e4 : sumAt rows (a.filter fun x => !notIn b x) = sumAt rows (b.filter fun x => !notIn a x) := by
    refine perm ((List.perm_ext_iff_of_nodup (ha.nodup.filter _) (hb.nodup.filter _)).mpr fun x => ?_)
    have q : ∀ {c : List Int} {y : Int}, (!notIn c y) = true ↔ y ∈ c := fun {c y} => by
      rw [Bool.not_eq_true', ← Bool.not_eq_true, notIn_iff]
      simp
    rw [List.mem_filter, List.mem_filter, q, q]
    exact And.comm
  rw [e1, e2, e3, e4]
  have x1 := S (a.filter (notIn b))
  have x2 := S (b.filter (notIn a))
  have x3 := S (b.filter fun x => !notIn a x)
  rw [sumL_assoc x1 x3 (sumL_asc x2 x3), sumL_swap x3 x2 x3, sumL_self x3, sumL_nil' x2]
theorem sumAt_snoc {rows : List Row} {r : Row} {idx : List Int} (h : ∀ i ∈ idx, 0 ≤ i ∧ i < (rows.length : Nat)) : sumAt (rows ++ [r]) idx = sumAt rows idx := by
  unfold sumAt
  congr 1
  apply List.map_congr_left
  intro i m
  have q := h i m
  unfold rowAt
  rw [List.getD_eq_getElem?_getD, List.getD_eq_getElem?_getD, List.getElem?_append_left (by omega)]
theorem sumAt_nil (rows : List Row) : sumAt rows [] = [] := rfl
theorem sumAt_last {rows : List Row} {r : Row} (hr : Asc r) : sumAt (rows ++ [r]) [(rows.length : Int)] = r := by
  unfold sumAt rowAt
  show sumL ((rows ++ [r]).getD (rows.length : Int).toNat []) [] = r
  rw [Int.toNat_natCast, List.getD_eq_getElem?_getD, List.getElem?_append_right (Nat.le_refl _), Nat.sub_self]
  exact sumL_nil' hr
namespace Pg
/-- what stands behind the rows: the sums, the own index at the end, before it rows that left something -/
def Okay (rows : List Row) (st : List (Row × Row)) : Prop := ∀ (i : Nat) (s : Row × Row), st[i]? = some s → Asc s.1 ∧ Asc s.2 ∧ sumAt rows s.2 = s.1 ∧ ∃ J, s.2 = J ++ [(i : Int)] ∧ ∀ j ∈ J, 0 ≤ j ∧ j < (i : Int) ∧ ∃ s', st[j.toNat]? = some s' ∧ s'.1 ≠ []
/-- of a row cleared: the sum with the rows told; these left something -/
structure Clr (rows : List Row) (st : List (Row × Row)) (x : Row) (a : Row × Row) : Prop where
  a1 : Asc a.1
  a2 : Asc a.2
  su : a.1 = sumL x (sumAt rows a.2)
  ix : ∀ j ∈ a.2, 0 ≤ j ∧ j < (st.length : Int) ∧ ∃ s', st[j.toNat]? = some s' ∧ s'.1 ≠ []
theorem clr_clr {rows : List Row} (h : AscR rows) {st : List (Row × Row)} (ok : Okay rows st) {x : Row} (hx : Asc x) : Clr rows st x (clr st x) := by
  have step : ∀ (ss : List (Row × Row)), (∀ s ∈ ss, s ∈ st) → ∀ a, Clr rows st x a → Clr rows st x (ss.foldl clr1 a) := by
    intro ss
    induction ss with
    | nil => exact fun _ a ha => ha
    | cons s ss ih =>
      intro hs a ha
      refine ih (fun y m => hs y (List.mem_cons_of_mem _ m)) _ ?_
      unfold clr1
      cases e : s.1.getLast? with
      | none => exact ha
      | some k =>
        show Clr rows st x (if k ∈ a.1 then (sumL a.1 s.1, sumL a.2 s.2) else a)
        split
        · obtain ⟨i, hi, ei⟩ := List.mem_iff_getElem.mp (hs s List.mem_cons_self)
          have gi : st[i]? = some s := by rw [List.getElem?_eq_getElem hi, ei]
          obtain ⟨b1, b2, b3, J, b4, b5⟩ := ok i s gi
          refine ⟨sumL_asc ha.a1 b1, sumL_asc ha.a2 b2, ?_, fun j m => ?_⟩
          · show sumL a.1 s.1 = sumL x (sumAt rows (sumL a.2 s.2))
            rw [sumAt_sum h ha.a2 b2, b3, ha.su, sumL_assoc hx (sumAt_asc h _) b1]
          · rcases mem_sumL.mp m with ⟨m, _⟩ | ⟨m, _⟩
            · exact ha.ix j m
            · rw [b4] at m
              rcases List.mem_append.mp m with m | m
              · obtain ⟨c1, c2, c3⟩ := b5 j m
                exact ⟨c1, by omega, c3⟩
              · rw [List.mem_singleton.mp m]
                refine ⟨by omega, by omega, s, by rw [Int.toNat_natCast]; exact gi, fun z => ?_⟩
                rw [z] at e
                cases e
        · exact ha
  exact step st (fun _ m => m) (x, []) ⟨hx, .nil, by rw [sumAt_nil, sumL_nil' hx], fun j m => absurd m List.not_mem_nil⟩
theorem asc_snoc {J : List Int} {n : Int} (h : Asc J) (hn : ∀ j ∈ J, j < n) : sumL J [n] = J ++ [n] := by
  have a : Asc (J ++ [n]) := List.pairwise_append.mpr ⟨h, List.pairwise_singleton _ _, fun x m y my => by
    rw [List.mem_singleton.mp my]
    exact hn x m⟩
  refine asc_ext (sumL_asc h (List.pairwise_singleton _ _)) a fun x => ?_
  rw [mem_sumL, List.mem_append, List.mem_singleton]
  constructor
  · rintro (⟨m, _⟩ | ⟨m, _⟩)
    · exact .inl m
    · exact .inr m
  · rintro (m | m)
    · have := hn x m
      exact .inl ⟨m, by omega⟩
    · refine .inr ⟨m, fun z => ?_⟩
      have := hn x z
      omega
theorem sft_okay (rows : List Row) : AscR rows → Okay rows (sft rows) := by
  refine snoc_ind (P := fun rows => AscR rows → Okay rows (sft rows)) (fun _ i s e => by cases e) (fun rows r ih h => ?_) rows
  obtain ⟨ha, hr⟩ := snoc_asc h
  have ok := ih ha
  have cl := clr_clr ha ok hr
  have ln := sft_len rows
  have ea : sumL (clr (sft rows) r).2 [(rows.length : Int)] = (clr (sft rows) r).2 ++ [(rows.length : Int)] := asc_snoc cl.a2 fun j m => by
    have := cl.ix j m
    omega
  rw [sft_snoc]
  unfold step1
  intro i s e
  have keep : ∀ (k : Nat) (s' : Row × Row), (sft rows)[k]? = some s' → (sft rows ++ [((clr (sft rows) r).1, sumL (clr (sft rows) r).2 [(rows.length : Int)])])[k]? = some s' := fun k s' z => by
    rw [List.getElem?_append_left (List.getElem?_eq_some_iff.mp z).1]
    exact z
  by_cases c : i < (sft rows).length
  · rw [List.getElem?_append_left c] at e
    obtain ⟨b1, b2, b3, J, b4, b5⟩ := ok i s e
    refine ⟨b1, b2, ?_, J, b4, fun j m => ?_⟩
    · rw [sumAt_snoc fun j m => ?_]
      · exact b3
      · rw [b4] at m
        rcases List.mem_append.mp m with m | m
        · have := b5 j m
          omega
        · rw [List.mem_singleton.mp m]
          omega
    · obtain ⟨c1, c2, s', c3, c4⟩ := b5 j m
      exact ⟨c1, c2, s', keep _ _ c3, c4⟩
  · rw [List.getElem?_append_right (Nat.le_of_not_lt c)] at e
    obtain ⟨e1, e2⟩ := List.getElem?_eq_some_iff.mp e
    have ei : i = rows.length := by
      simp at e1
      omega
    subst ei
    have es : s = ((clr (sft rows) r).1, sumL (clr (sft rows) r).2 [(rows.length : Int)]) := by
      simp [ln] at e2
      exact e2.symm
    subst es
    refine ⟨cl.a1, sumL_asc cl.a2 (List.pairwise_singleton _ _), ?_, (clr (sft rows) r).2, ea, fun j m => ?_⟩
    · show sumAt (rows ++ [r]) (sumL (clr (sft rows) r).2 [(rows.length : Int)]) = (clr (sft rows) r).1
      rw [sumAt_sum h cl.a2 (List.pairwise_singleton _ _), sumAt_last hr, sumAt_snoc fun j m => by have := cl.ix j m; omega, sumL_comm (sumAt_asc ha _) hr]
      exact cl.su.symm
    · obtain ⟨c1, c2, s', c3, c4⟩ := cl.ix j m
      exact ⟨c1, by omega, s', keep _ _ c3, c4⟩
/-- nothing is left of a row just if it is a sum of the rows ahead -/
theorem clr_zero {rows : List Row} (h : AscR rows) {x : Row} (hx : Asc x) : (clr (sft rows) x).1 = [] ↔ x ∈ spanL rows := by
  obtain ⟨i1, i2⟩ := sft_left rows h
  rw [clr_ends, sift_zero i1 hx, i2]
theorem rk_snoc {rows : List Row} {r : Row} (h : AscR (rows ++ [r])) : rk (rows ++ [r]) = if r ∈ spanL rows then rk rows else rk rows + 1 := by
  rw [← rk_cons]
  refine rk_same h fun x => ?_
  rw [List.mem_append, List.mem_singleton, List.mem_cons]
  exact Or.comm
/-- the positions of the dependent rows -/
def deps (rows : List Row) : List Nat := (List.range rows.length).filter fun k => decide (rk (rows.take k) = rk (rows.take (k + 1)))
theorem deps_snoc {rows : List Row} {r : Row} (h : AscR (rows ++ [r])) : deps (rows ++ [r]) = if r ∈ spanL rows then deps rows ++ [rows.length] else deps rows := by
  unfold deps
  rw [List.length_append, List.length_singleton, List.range_succ, List.filter_append]
  have e1 : (List.range rows.length).filter (fun k => decide (rk ((rows ++ [r]).take k) = rk ((rows ++ [r]).take (k + 1)))) = (List.range rows.length).filter fun k => decide (rk (rows.take k) = rk (rows.take (k + 1))) := by
    apply List.filter_congr
    intro k m
    have := List.mem_range.mp m
    rw [List.take_append_of_le_length (by omega), List.take_append_of_le_length (by omega)]
  have e2 : (rows ++ [r]).take rows.length = rows := by rw [List.take_append_of_le_length (Nat.le_refl _), List.take_length]
  have e3 : (rows ++ [r]).take (rows.length + 1) = rows ++ [r] := List.take_of_length_le (by rw [List.length_append]; exact Nat.le_refl _)
  have rs := rk_snoc h
  rw [e1]
  by_cases c : r ∈ spanL rows
  · rw [if_pos c] at rs ⊢
    rw [List.filter_cons_of_pos (by rw [e2, e3, rs]; simp)]
    rfl
  · rw [if_neg c] at rs ⊢
    rw [List.filter_cons_of_neg (by rw [e2, e3, rs]; simp)]
    exact List.append_nil _
theorem bare_last (rows : List Row) : AscR rows → (bare (sft rows)).map (fun s => s.2.getLast?) = (deps rows).map fun k : Nat => some (k : Int) := by
  refine snoc_ind (P := fun rows => AscR rows → (bare (sft rows)).map (fun s => s.2.getLast?) = (deps rows).map fun k : Nat => some (k : Int)) (fun _ => rfl) (fun rows r ih h => ?_) rows
  obtain ⟨ha, hr⟩ := snoc_asc h
  have ok := sft_okay _ h
  have z := clr_zero ha hr
  have cl := clr_clr ha (sft_okay _ ha) hr
  have ea : sumL (clr (sft rows) r).2 [(rows.length : Int)] = (clr (sft rows) r).2 ++ [(rows.length : Int)] := asc_snoc cl.a2 fun j m => by
    have := cl.ix j m
    have := sft_len rows
    omega
  rw [sft_snoc, deps_snoc h]
  unfold step1 bare
  rw [List.filter_append]
  have ih := ih ha
  unfold bare at ih
  by_cases c : r ∈ spanL rows
  · rw [if_pos c, List.filter_cons_of_pos (by show decide ((clr (sft rows) r).1 = []) = true; exact decide_eq_true (z.mpr c)), List.map_append, List.map_append, ih]
    show _ ++ [(sumL (clr (sft rows) r).2 [(rows.length : Int)]).getLast?] = _
    rw [ea, List.getLast?_append]
    rfl
  · rw [if_neg c, List.filter_cons_of_neg (by show ¬ decide ((clr (sft rows) r).1 = []) = true; rw [decide_eq_true_iff]; exact fun y => c (z.mp y)), List.filter_nil, List.append_nil]
    exact ih
/-- a position is dependent just if nothing is left there -/
theorem deps_iff (rows : List Row) : AscR rows → ∀ (i : Nat) (s : Row × Row), (sft rows)[i]? = some s → (i ∈ deps rows ↔ s.1 = []) := by
  refine snoc_ind (P := fun rows => AscR rows → ∀ (i : Nat) (s : Row × Row), (sft rows)[i]? = some s → (i ∈ deps rows ↔ s.1 = [])) (fun _ i s e => by cases e) (fun rows r ih h => ?_) rows
  obtain ⟨ha, hr⟩ := snoc_asc h
  have ln := sft_len rows
  intro i s e
  have lt : ∀ k ∈ deps rows, k < rows.length := fun k m => List.mem_range.mp (List.mem_filter.mp m).1
  rw [sft_snoc] at e
  unfold step1 at e
  have z := clr_zero ha hr
  rw [deps_snoc h]
  by_cases c : i < (sft rows).length
  · rw [List.getElem?_append_left c] at e
    rw [← ih ha i s e]
    split
    · rw [List.mem_append, List.mem_singleton]
      exact ⟨fun m => m.resolve_right (by omega), .inl⟩
    · exact Iff.rfl
  · rw [List.getElem?_append_right (Nat.le_of_not_lt c)] at e
    obtain ⟨e1, e2⟩ := List.getElem?_eq_some_iff.mp e
    have ei : i = rows.length := by
      simp at e1
      omega
    subst ei
    have es : s = ((clr (sft rows) r).1, sumL (clr (sft rows) r).2 [(rows.length : Int)]) := by
      simp [ln] at e2
      exact e2.symm
    subst es
    show _ ↔ (clr (sft rows) r).1 = []
    rw [z]
    split
    · rename_i c2
      rw [List.mem_append, List.mem_singleton]
      exact ⟨fun _ => c2, fun _ => .inr rfl⟩
    · rename_i c2
      exact ⟨fun m => absurd (lt _ m) (Nat.lt_irrefl _), fun m => absurd m c2⟩
theorem made_of_ok {U : List Int} {n : Nat} (hU : Asc U) (lU : U.length < 128) (hn : n < 128) {rows : List Row} {x : Row} (h : ∀ r ∈ rows, InU U r) (hx : InU U x) (hl : rows.length ≤ n) : F_made_of [.list (rows.map tupI), tupI x] = .ok (if (clr (sft rows) x).1 = [] then tupI (clr (sft rows) x).2 else .none) := by
  obtain ⟨e, hs⟩ := sifted_ok hU lU hn h hl
  have lV : (uptoI n).length < 128 := by rw [List.length_map, List.length_range]; exact hn
  refine Wn.eq (wn_runD ?_)
  show Sn (G_made_of [.d (.list (rows.map tupI)), .d (tupI x), .no, .no]) _ _ _ _
  unfold G_made_of
  simp only [wn_ok, wn_some, wn_only, wn_noex, wn_e2, wn_e1, wn_eN, wn_a0, wn_aC, wn_call, wn_tb, wn_tup, wn_lst, wn_andB, wn_orB, wn_notB, wn_andV, wn_orV, wn_notV, wn_ifV, wn_iA, wn_iR1, wn_iR2, wn_iZ, wn_iEn, wn_iRR, wn_sl, wn_p0, wn_p1, wn_up, wn_upB, wn_upI, wn_x2, wn_x0, wn_xC, wn_xN, wn_xb, wn_xAnd, wn_xOr, wn_xNot, wn_xIf, wn_xCall, wn_xR1, wn_xR2, sn_nx, sn_rt, sn_bk, sn_ct, sn_seq, sn_set, sn_ret, sn_expr, sn_if, sn_for, sn_xSet, sn_xRet, sn_xExpr, sn_xIf, sn_xFor, sn_asg, sn_xAsg, sn_own, sn_xOwn, gv_zero, gv_succ, go_own, go_dat, go_succ, k0_def, gN_def, tru_bool, tru_none, tru_int, tru_list, asSeq_list, asSeq_tup, addV_int, subV_int, ltA_i, leA_i, gtA_i, geA_i, negV_int, intV_int, lenV_list, lenV_tup, ixV_list, ixV_tup, asInt_int, slV_list, slV_tup, slL_list, revV_tup, revV_list, tupleV_list, listV_list, listV_tup, eqV_str, neV_str, eqV_int, List.set_cons_zero, List.set_cons_succ, List.getElem?_cons_zero, List.getElem?_cons_succ, List.length_cons, List.length_nil, ↓reduceIte, Bool.false_eq_true, Bool.not_true, Bool.not_false, wn_ite, gT2, gT3, neV_tup, eqV_tup, in_tup, notin_tup', lineN_eq, Nat.reduceAdd, Nat.reduceLeDiff, Nat.zero_le, true_and, and_true, List.map_nil, List.map_cons, exists_eq_left', Option.some.injEq, PyData.list.injEq, exists_eq_left, PyData.int.injEq, R.ok.injEq, Sl.own.injEq, e, cleared_ok hU (upto_asc n) lU lV hs hx, prR, tup_nil]
  by_cases c : (clr (sft rows) x).1 = []
  · rw [decide_eq_true c, if_pos c]
    simp only [↓reduceIte]
  · rw [decide_eq_false c, if_neg c]
    simp only [Bool.false_eq_true, ↓reduceIte]
end Pg
end Bd
/-! N8: what the laws ask of a tuple of indexes. -/
namespace Bd
open PySem L2
theorem eqV_list (a b : List Int) : eqV' (.list (a.map PyData.int)) (.list (b.map PyData.int)) = some (.bool (decide (a = b))) := by
  unfold eqV'
  split
  · rename_i h1 h2
    cases h1
  · rw [if_pos ⟨shaped_ints a, shaped_ints b⟩]
    show some (PyData.bool (PyData.eqvAll (a.map PyData.int) (b.map PyData.int))) = _
    rw [eqv_ints]
theorem neV_list (a b : List Int) : neV' (.list (a.map PyData.int)) (.list (b.map PyData.int)) = some (.bool (!decide (a = b))) := by
  unfold neV'
  split
  · rename_i h1 h2
    cases h1
  · rw [if_pos ⟨shaped_ints a, shaped_ints b⟩]
    show some (PyData.bool (!PyData.eqvAll (a.map PyData.int) (b.map PyData.int))) = _
    rw [eqv_ints]
theorem cut_init (xs : List D) : cutD xs none (some (-1)) = xs.dropLast := by
  unfold cutD
  have h0 : HT.sIx xs.length 0 none = 0 := rfl
  have h1 : HT.sIx xs.length xs.length (some (-1)) = xs.length - 1 := by
    unfold HT.sIx
    simp
    omega
  rw [h0, h1, List.drop_zero, Nat.sub_zero, List.dropLast_eq_take]
theorem bools_all {α : Type} : ∀ l : List α, (l.map fun _ => true).all id = true
  | [] => rfl
  | _ :: l => bools_all l
/-- [isinstance(at, int) and not isinstance(at, bool) for at in row] -/
theorem ints_comp {sr st : Nat} {η : Nv} {l : List Int} {QD : D → Prop} (hs : Wn (iA (gv sr) η) (· = l.map PyData.int)) (h2 : ∀ x, gv st ((wipeE η [st]).set st (.d x)) = .ok x) (hl : l.length ≤ 1000) (q : QD (.list ((l.map fun _ => true).map PyData.bool))) :
    Wn (compE (iA (gv sr)) (gN st) (fun _ => .ok true) (andV (e1 (isiV "int") (gv st)) (notV (e1 (isiV "bool") (gv st)))) [st] η) QD := by
  refine wn_comp (xs := l.map PyData.int) (fun _ => true) (fun _ => .bool true) hs (fun x m => ?_) (by rw [List.length_map, lineN_eq]; omega) ?_
  · obtain ⟨i, _, rfl⟩ := List.mem_map.mp m
    refine ⟨_, rfl, wn_ok.mpr ⟨rfl, fun _ => ?_⟩⟩
    simp only [wn_ok, wn_some, wn_only, wn_noex, wn_e2, wn_e1, wn_eN, wn_a0, wn_aC, wn_call, wn_tb, wn_tup, wn_lst, wn_andB, wn_orB, wn_notB, wn_andV, wn_orV, wn_notV, wn_ifV, wn_iA, wn_iR1, wn_iR2, wn_iZ, wn_iEn, wn_iRR, wn_sl, wn_p0, wn_p1, wn_up, wn_upB, wn_upI, wn_x2, wn_x0, wn_xC, wn_xN, wn_xb, wn_xAnd, wn_xOr, wn_xNot, wn_xIf, wn_xCall, wn_xR1, wn_xR2, sn_nx, sn_rt, sn_bk, sn_ct, sn_seq, sn_set, sn_ret, sn_expr, sn_if, sn_for, sn_xSet, sn_xRet, sn_xExpr, sn_xIf, sn_xFor, sn_asg, sn_xAsg, sn_own, sn_xOwn, gv_zero, gv_succ, go_own, go_dat, go_succ, k0_def, gN_def, tru_bool, tru_none, tru_int, tru_list, asSeq_list, asSeq_tup, addV_int, subV_int, ltA_i, leA_i, gtA_i, geA_i, negV_int, intV_int, lenV_list, lenV_tup, ixV_list, ixV_tup, asInt_int, slV_list, slV_tup, slL_list, revV_tup, revV_list, tupleV_list, listV_list, listV_tup, eqV_str, neV_str, eqV_int, List.set_cons_zero, List.set_cons_succ, List.getElem?_cons_zero, List.getElem?_cons_succ, List.length_cons, List.length_nil, ↓reduceIte, Bool.false_eq_true, Bool.not_true, Bool.not_false, wn_ite, gT2, gT3, neV_tup, eqV_tup, in_tup, notin_tup', lineN_eq, Nat.reduceAdd, Nat.reduceLeDiff, Nat.zero_le, true_and, and_true, List.map_nil, List.map_cons, exists_eq_left', Option.some.injEq, PyData.list.injEq, exists_eq_left, PyData.int.injEq, R.ok.injEq, Sl.own.injEq, h2, isi_int, isi_bool, kInt, kBool]
  · have e : ((l.map PyData.int).filter fun _ => true).map (fun _ => PyData.bool true) = (l.map fun _ => true).map PyData.bool := by
      rw [List.filter_eq_self.mpr fun _ _ => rfl, List.map_map, List.map_map]
      rfl
    rw [e]
    exact q
theorem setV_asc {l : List Int} (ha : Asc l) (hl : l.length < 4000) : setV [tupI l] = some (.list (l.map PyData.int)) := by rw [setV_tup hl, sset_of ha]
theorem atD_row {rows : List Row} {j : Int} (h0 : 0 ≤ j) (h1 : j < (rows.length : Int)) : atD (rows.map tupI) j = some (tupI (rowAt rows j)) := by
  refine atD_nat h0 ?_
  unfold rowAt
  rw [List.getElem?_map, List.getD_eq_getElem?_getD, List.getElem?_eq_getElem (by omega)]
  rfl
/-- [rows[at] for at in row] -/
theorem rows_at {sr st sx : Nat} {η : Nv} {rows : List Row} {l : List Int} {QD : D → Prop} (hs : Wn (iA (gv sr) η) (· = l.map PyData.int)) (h2 : ∀ x, gv st ((wipeE η [st]).set st (.d x)) = .ok x) (h3 : ∀ x, gv sx ((wipeE η [st]).set st (.d x)) = .ok (.list (rows.map tupI))) (hl : l.length ≤ 1000)
    (hj : ∀ j ∈ l, 0 ≤ j ∧ j < (rows.length : Int)) (q : QD (.list ((l.map (rowAt rows)).map tupI))) : Wn (compE (iA (gv sr)) (gN st) (fun _ => .ok true) (e2 ixV (gv sx) (gv st)) [st] η) QD := by
  refine wn_comp (xs := l.map PyData.int) (fun _ => true) (fun d => match d with | .int j => tupI (rowAt rows j) | _ => .none) hs (fun x m => ?_) (by rw [List.length_map, lineN_eq]; omega) ?_
  · obtain ⟨j, mj, rfl⟩ := List.mem_map.mp m
    refine ⟨_, rfl, wn_ok.mpr ⟨rfl, fun _ => ?_⟩⟩
    simp only [wn_ok, wn_some, wn_only, wn_noex, wn_e2, wn_e1, wn_eN, wn_a0, wn_aC, wn_call, wn_tb, wn_tup, wn_lst, wn_andB, wn_orB, wn_notB, wn_andV, wn_orV, wn_notV, wn_ifV, wn_iA, wn_iR1, wn_iR2, wn_iZ, wn_iEn, wn_iRR, wn_sl, wn_p0, wn_p1, wn_up, wn_upB, wn_upI, wn_x2, wn_x0, wn_xC, wn_xN, wn_xb, wn_xAnd, wn_xOr, wn_xNot, wn_xIf, wn_xCall, wn_xR1, wn_xR2, sn_nx, sn_rt, sn_bk, sn_ct, sn_seq, sn_set, sn_ret, sn_expr, sn_if, sn_for, sn_xSet, sn_xRet, sn_xExpr, sn_xIf, sn_xFor, sn_asg, sn_xAsg, sn_own, sn_xOwn, gv_zero, gv_succ, go_own, go_dat, go_succ, k0_def, gN_def, tru_bool, tru_none, tru_int, tru_list, asSeq_list, asSeq_tup, addV_int, subV_int, ltA_i, leA_i, gtA_i, geA_i, negV_int, intV_int, lenV_list, lenV_tup, ixV_list, ixV_tup, asInt_int, slV_list, slV_tup, slL_list, revV_tup, revV_list, tupleV_list, listV_list, listV_tup, eqV_str, neV_str, eqV_int, List.set_cons_zero, List.set_cons_succ, List.getElem?_cons_zero, List.getElem?_cons_succ, List.length_cons, List.length_nil, ↓reduceIte, Bool.false_eq_true, Bool.not_true, Bool.not_false, wn_ite, gT2, gT3, neV_tup, eqV_tup, in_tup, notin_tup', lineN_eq, Nat.reduceAdd, Nat.reduceLeDiff, Nat.zero_le, true_and, and_true, List.map_nil, List.map_cons, exists_eq_left', Option.some.injEq, PyData.list.injEq, exists_eq_left, PyData.int.injEq, R.ok.injEq, Sl.own.injEq, h2, h3, atD_row (hj j mj).1 (hj j mj).2]
  · rw [List.filter_eq_self.mpr fun _ _ => rfl, List.map_map]
    have e : (List.map ((fun d : D => match d with | .int j => tupI (rowAt rows j) | _ => .none) ∘ PyData.int) l) = (l.map (rowAt rows)).map tupI := by
      rw [List.map_map]
      rfl
    rw [e]
    exact q
theorem sums_at {rows : List Row} (h : AscR rows) (l : List Int) : (l.map (rowAt rows)).foldl sumL [] = sumAt rows l := by
  rw [fold_sumR (rowAt_all h l) .nil, sumL_nil (sumR_asc (rowAt_all h l))]
  rfl
theorem rowAt_in {U : List Int} {rows : List Row} (h : ∀ r ∈ rows, InU U r) (l : List Int) : ∀ r ∈ l.map (rowAt rows), InU U r := fun r m => by
  obtain ⟨j, _, rfl⟩ := List.mem_map.mp m
  unfold rowAt
  rw [List.getD_eq_getElem?_getD]
  cases c : rows[j.toNat]? with
  | none => exact .nil
  | some r => exact h r (List.mem_of_getElem? c)
end Bd
/-! O1: orders, as the laws draw them. -/
namespace Bd
open PySem L2
/-- a simplex: one to three of the numbers 0 to 11, ascending -/
structure Smp (s : Row) : Prop where
  u : InU (Pg.uptoI 12) s
  lo : 1 ≤ s.length
  hi : s.length ≤ 3
/-- the faces, the first vertex left out first -/
def facesL (s : Row) : List Row := if s.length = 1 then [] else (List.range s.length).map fun k => s.take k ++ s.drop (k + 1)
/-- an order: each one behind its faces, none twice -/
inductive Ordr : List Row → Prop where
  | nil : Ordr []
  | snoc {os : List Row} {s : Row} : Ordr os → Smp s → s ∉ os → (∀ f ∈ facesL s, f ∈ os) → Ordr (os ++ [s])
theorem Ordr.smp : ∀ {os : List Row}, Ordr os → ∀ s ∈ os, Smp s
  | _, .nil, s, m => absurd m List.not_mem_nil
  | _, .snoc h hs _ _, x, m => by
    rcases List.mem_append.mp m with m | m
    · exact h.smp x m
    · rw [List.mem_singleton.mp m]
      exact hs
theorem up12_len : (Pg.uptoI 12).length < 128 := by decide
theorem up12_small : ∀ x ∈ Pg.uptoI 12, -1000000000000 < x ∧ x < 1000000000000 := fun x m => by
  obtain ⟨i, hi, rfl⟩ := List.mem_map.mp m
  have := List.mem_range.mp hi
  omega
theorem fine_os {os : List Row} (h : ∀ s ∈ os, Smp s) (hl : os.length ≤ 100) : Fine 2 700000 (.list (os.map tupI)) := fine_rows (fun s m => (h s m).u) (Pg.upto_asc 12) up12_len up12_small hl
theorem any_rows (s : Row) (os : List Row) : ((os.map tupI).any fun z => PyData.eqv z (tupI s)) = decide (s ∈ os) := by
  rw [Bool.eq_iff_iff, List.any_eq_true, decide_eq_true_iff]
  constructor
  · rintro ⟨z, m, e⟩
    obtain ⟨r, mr, rfl⟩ := List.mem_map.mp m
    rw [eqv_tup, decide_eq_true_iff] at e
    subst e
    exact mr
  · exact fun m => ⟨tupI s, List.mem_map.mpr ⟨s, m, rfl⟩, by rw [eqv_tup]; exact decide_eq_true rfl⟩
theorem in_rows {s : Row} {os : List Row} (h : ∀ s ∈ os, Smp s) (hl : os.length ≤ 100) : inV' (tupI s) (.list (os.map tupI)) = some (.bool (decide (s ∈ os))) := by
  show (if SeqAt.shaped (tupI s) = true ∧ SeqAt.shaped (.list (os.map tupI)) = true then some ((os.map tupI).any fun z => PyData.eqv z (tupI s)) else none).map PyData.bool = _
  rw [if_pos ⟨shaped_tup s, (fine_os h hl).shaped (by decide)⟩, any_rows]
  rfl
theorem nin_rows {s : Row} {os : List Row} (h : ∀ s ∈ os, Smp s) (hl : os.length ≤ 100) : ninV' (tupI s) (.list (os.map tupI)) = some (.bool (!decide (s ∈ os))) := by
  show (if SeqAt.shaped (tupI s) = true ∧ SeqAt.shaped (.list (os.map tupI)) = true then some ((os.map tupI).any fun z => PyData.eqv z (tupI s)) else none).map (fun b => PyData.bool !b) = _
  rw [if_pos ⟨shaped_tup s, (fine_os h hl).shaped (by decide)⟩, any_rows]
  rfl
/-- pop(j) -/
theorem wn_xPop {i : Nat} {F : Nv → R (D × Nv)} {η : Nv} {o : OL} {QX : D × Nv → Prop} (h0 : η[i]? = some (.own o)) (h : Wn (F η) fun p => ∃ xs j y, p.1 = .int j ∧ p.2[i]? = some (.own xs) ∧ 0 ≤ j ∧ j < 1000000 ∧ xs.l[j.toNat]? = some y ∧ QX (y, p.2.set i (.own ⟨xs.b, xs.l.eraseIdx j.toNat⟩))) : Wn (xPop i F η) QX := by
  unfold xPop
  rw [h0]
  show Wn ((F η).bind (popAt i)) QX
  rw [wn_bind]
  refine h.imp fun p ⟨xs, j, y, e1, e2, h1, h2, h3, q⟩ => ?_
  have lt := (List.getElem?_eq_some_iff.mp h3).1
  unfold popAt
  rw [e1, e2]
  have sx : seqIndex? j xs.l.length = some j.toNat := by
    unfold seqIndex?
    dsimp only
    rw [if_neg (show ¬ j < 0 by omega), if_pos]
    rw [Bool.and_eq_true, decide_eq_true_iff, decide_eq_true_iff]
    exact ⟨h1, by omega⟩
  show Wn (if _ then _ else _) QX
  rw [if_pos ⟨by omega, by omega⟩, sx]
  show Wn (match xs.l[j.toNat]? with | some y => _ | none => _) QX
  rw [h3]
  exact wn_ok.mpr q
namespace Od
def G__law_faces : Nv → Rs :=
    (seqS (ifS (tb (e2 eqV' (eN lenV (aC (gv 0) a0)) (k0 (.int 1)))) (seqS (retS (lstV a0))
    .nx) .nx)
    (seqS (retS (compE (iR1 (aC (eN lenV (aC (gv 0) a0)) a0)) (gN 1) (fun _ => .ok true) (e2 addV (slE slV (gv 0) p0 (p1 (gv 1))) (slE slV (gv 0) (p1 (e2 addV (gv 1) (k0 (.int 1)))) p0)) [1]))
    .nx))
def F__law_faces : List D → R D := runD 2 .no G__law_faces
def G__law_names : Nv → Rs :=
    (seqS (ownS 2 (lrgV (k0 (.int 12))))
    (seqS (ownS 3 (lstV a0))
    (seqS (xFor (xR1 (xC (x2 addV (up (k0 (.int 1))) (xCallK 0 Dk.F_draw (xC (up (gv 1)) x0))) x0)) (gN 4) (seqS (xApp 3 (xPop 2 (xCallK 0 Dk.F_draw (xC (up (eN lenV (aC (go 2) a0))) x0))))
    .nx))
    (seqS (frzS 3)
    (seqS (retS (eN sortAV (aC (gv 3) a0)))
    .nx)))))
def F__law_names : List D → List D → R (D × List D) := runK 5 G__law_names
def G__law_every : Nv → Rs :=
    (seqS (ownS 1 (lstV a0))
    (seqS (forS (iR1 (aC (eN lenV (aC (gv 0) a0)) a0)) (gN 2) (seqS (appS 1 (tupV (aC (e2 ixV (gv 0) (gv 2)) a0)))
    (seqS (forS (iR1 (aC (gv 2) a0)) (gN 3) (seqS (appS 1 (tupV (aC (e2 ixV (gv 0) (gv 3)) (aC (e2 ixV (gv 0) (gv 2)) a0))))
    (seqS (ownS 1 (e2 catV (go 1) (compE (iR1 (aC (gv 3) a0)) (gN 4) (fun _ => .ok true) (tupV (aC (e2 ixV (gv 0) (gv 4)) (aC (e2 ixV (gv 0) (gv 3)) (aC (e2 ixV (gv 0) (gv 2)) a0)))) [4])))
    .nx)))
    .nx)))
    (seqS (retO 1)
    .nx)))
def F__law_every : List D → R D := runD 5 .no G__law_every
def G__law_order : Nv → Rs :=
    (seqS (xSet 3 (xCall F__law_every (xC (xCallK 0 F__law_names (xC (up (gv 1)) x0)) x0)))
    (seqS (ownS 4 (lstV a0))
    (seqS (xFor (xR1 (xC (xCallK 0 Dk.F_draw (xC (up (e2 addV (gv 2) (k0 (.int 1)))) x0)) x0)) (gN 5) (seqS (setS 6 (compE (iA (gv 3)) (gN 7) (andB (tb (e2 ninV' (gv 7) (go 4))) (tb (eN allV (aC (compE (iA (callV F__law_faces (aC (gv 7) a0))) (gN 8) (fun _ => .ok true) (e2 inV' (gv 8) (go 4)) [8]) a0)))) (gv 7) [7]))
    (seqS (ifS (tb (gv 6)) (seqS (xApp 4 (x2 ixV (up (gv 6)) (xCallK 0 Dk.F_draw (xC (up (eN lenV (aC (gv 6) a0))) x0))))
    .nx) .nx)
    .nx)))
    (seqS (frzS 4)
    (seqS (retS (gv 4))
    .nx)))))
def F__law_order : List D → List D → R (D × List D) := runK 9 G__law_order
def G__law_chain : Nv → Rs :=
    (seqS (xRet (xN tupleV (xC (xComp (upI (iR1 (aC (eN lenV (aC (gv 1) a0)) a0))) (gN 3) (xAnd (upB (tb (e2 eqV' (eN lenV (aC (e2 ixV (gv 1) (gv 3)) a0)) (gv 2)))) (xb (x2 eqV' (xCallK 0 Dk.F_draw (xC (up (k0 (.int 2))) x0)) (up (k0 (.int 0)))))) (up (gv 3)) [3]) x0)))
    .nx)
def F__law_chain : List D → List D → R (D × List D) := runK 4 G__law_chain
theorem range_up (n : Nat) : rangeD 0 n = (Pg.uptoI n).map PyData.int := Rk.range_up n
theorem lfaces_ok {s : Row} (hs : Smp s) : F__law_faces [tupI s] = .ok (.list ((facesL s).map tupI)) := by
  have lo := hs.lo
  have hi := hs.hi
  have ln : lenV [tupI s] = some (.int (s.length : Nat)) := by
    show some (PyData.int ((s.map PyData.int).length : Nat)) = _
    rw [List.length_map]
  refine Wn.eq (wn_runD ?_)
  show Sn (G__law_faces [.d (tupI s), .no]) _ _ _ _
  unfold G__law_faces
  simp only [wn_ok, wn_some, wn_only, wn_noex, wn_e2, wn_e1, wn_eN, wn_a0, wn_aC, wn_call, wn_tb, wn_tup, wn_lst, wn_andB, wn_orB, wn_notB, wn_andV, wn_orV, wn_notV, wn_ifV, wn_iA, wn_iR1, wn_iR2, wn_iZ, wn_iEn, wn_iRR, wn_sl, wn_p0, wn_p1, wn_up, wn_upB, wn_upI, wn_x2, wn_x0, wn_xC, wn_xN, wn_xb, wn_xAnd, wn_xOr, wn_xNot, wn_xIf, wn_xCall, wn_xR1, wn_xR2, sn_nx, sn_rt, sn_bk, sn_ct, sn_seq, sn_set, sn_ret, sn_expr, sn_if, sn_for, sn_xSet, sn_xRet, sn_xExpr, sn_xIf, sn_xFor, sn_asg, sn_xAsg, sn_own, sn_xOwn, gv_zero, gv_succ, go_own, go_dat, go_succ, k0_def, gN_def, tru_bool, tru_none, tru_int, tru_list, asSeq_list, asSeq_tup, addV_int, subV_int, ltA_i, leA_i, gtA_i, geA_i, negV_int, intV_int, lenV_list, lenV_tup, ixV_list, ixV_tup, asInt_int, slV_list, slV_tup, slL_list, revV_tup, revV_list, tupleV_list, listV_list, listV_tup, eqV_str, neV_str, eqV_int, List.set_cons_zero, List.set_cons_succ, List.getElem?_cons_zero, List.getElem?_cons_succ, List.length_cons, List.length_nil, ↓reduceIte, Bool.false_eq_true, Bool.not_true, Bool.not_false, wn_ite, gT2, gT3, neV_tup, eqV_tup, in_tup, notin_tup', lineN_eq, Nat.reduceAdd, Nat.reduceLeDiff, Nat.zero_le, true_and, and_true, List.map_nil, List.map_cons, exists_eq_left', Option.some.injEq, PyData.list.injEq, exists_eq_left, PyData.int.injEq, R.ok.injEq, Sl.own.injEq, ln]
  by_cases c : s.length = 1
  · have cb : ((s.length : Int) == 1) = true := by rw [beq_iff_eq]; omega
    rw [cb]
    simp only [↓reduceIte]
    unfold facesL
    rw [if_pos c]
    rfl
  · have cb : ((s.length : Int) == 1) = false := by rw [beq_eq_false_iff_ne]; omega
    rw [cb]
    simp only [Bool.false_eq_true, ↓reduceIte]
    refine wn_comp (xs := (Pg.uptoI s.length).map PyData.int) (fun _ => true) (fun d => match d with | .int k => tupI (s.take k.toNat ++ s.drop (k.toNat + 1)) | _ => .none) ?_ ?_ ?_ ?_
    · simp only [wn_ok, wn_some, wn_only, wn_noex, wn_e2, wn_e1, wn_eN, wn_a0, wn_aC, wn_call, wn_tb, wn_tup, wn_lst, wn_andB, wn_orB, wn_notB, wn_andV, wn_orV, wn_notV, wn_ifV, wn_iA, wn_iR1, wn_iR2, wn_iZ, wn_iEn, wn_iRR, wn_sl, wn_p0, wn_p1, wn_up, wn_upB, wn_upI, wn_x2, wn_x0, wn_xC, wn_xN, wn_xb, wn_xAnd, wn_xOr, wn_xNot, wn_xIf, wn_xCall, wn_xR1, wn_xR2, sn_nx, sn_rt, sn_bk, sn_ct, sn_seq, sn_set, sn_ret, sn_expr, sn_if, sn_for, sn_xSet, sn_xRet, sn_xExpr, sn_xIf, sn_xFor, sn_asg, sn_xAsg, sn_own, sn_xOwn, gv_zero, gv_succ, go_own, go_dat, go_succ, k0_def, gN_def, tru_bool, tru_none, tru_int, tru_list, asSeq_list, asSeq_tup, addV_int, subV_int, ltA_i, leA_i, gtA_i, geA_i, negV_int, intV_int, lenV_list, lenV_tup, ixV_list, ixV_tup, asInt_int, slV_list, slV_tup, slL_list, revV_tup, revV_list, tupleV_list, listV_list, listV_tup, eqV_str, neV_str, eqV_int, List.set_cons_zero, List.set_cons_succ, List.getElem?_cons_zero, List.getElem?_cons_succ, List.length_cons, List.length_nil, ↓reduceIte, Bool.false_eq_true, Bool.not_true, Bool.not_false, wn_ite, gT2, gT3, neV_tup, eqV_tup, in_tup, notin_tup', lineN_eq, Nat.reduceAdd, Nat.reduceLeDiff, Nat.zero_le, true_and, and_true, List.map_nil, List.map_cons, exists_eq_left', Option.some.injEq, PyData.list.injEq, exists_eq_left, PyData.int.injEq, R.ok.injEq, Sl.own.injEq, ln]
      refine (wn_rng1 (by omega) (by omega)).mpr ?_
      rw [range_up, Int.toNat_natCast]
    · intro x m
      obtain ⟨j, mj, rfl⟩ := List.mem_map.mp m
      obtain ⟨k, hk, rfl⟩ := List.mem_map.mp mj
      refine ⟨_, rfl, wn_ok.mpr ⟨rfl, fun _ => ?_⟩⟩
      show Wn (e2 addV (slE slV (gv 0) p0 (p1 (gv 1))) (slE slV (gv 0) (p1 (e2 addV (gv 1) (k0 (.int 1)))) p0) [.d (tupI s), .d (.int (k : Nat))]) _
      simp only [wn_ok, wn_some, wn_only, wn_noex, wn_e2, wn_e1, wn_eN, wn_a0, wn_aC, wn_call, wn_tb, wn_tup, wn_lst, wn_andB, wn_orB, wn_notB, wn_andV, wn_orV, wn_notV, wn_ifV, wn_iA, wn_iR1, wn_iR2, wn_iZ, wn_iEn, wn_iRR, wn_sl, wn_p0, wn_p1, wn_up, wn_upB, wn_upI, wn_x2, wn_x0, wn_xC, wn_xN, wn_xb, wn_xAnd, wn_xOr, wn_xNot, wn_xIf, wn_xCall, wn_xR1, wn_xR2, sn_nx, sn_rt, sn_bk, sn_ct, sn_seq, sn_set, sn_ret, sn_expr, sn_if, sn_for, sn_xSet, sn_xRet, sn_xExpr, sn_xIf, sn_xFor, sn_asg, sn_xAsg, sn_own, sn_xOwn, gv_zero, gv_succ, go_own, go_dat, go_succ, k0_def, gN_def, tru_bool, tru_none, tru_int, tru_list, asSeq_list, asSeq_tup, addV_int, subV_int, ltA_i, leA_i, gtA_i, geA_i, negV_int, intV_int, lenV_list, lenV_tup, ixV_list, ixV_tup, asInt_int, slV_list, slV_tup, slL_list, revV_tup, revV_list, tupleV_list, listV_list, listV_tup, eqV_str, neV_str, eqV_int, List.set_cons_zero, List.set_cons_succ, List.getElem?_cons_zero, List.getElem?_cons_succ, List.length_cons, List.length_nil, ↓reduceIte, Bool.false_eq_true, Bool.not_true, Bool.not_false, wn_ite, gT2, gT3, neV_tup, eqV_tup, in_tup, notin_tup', lineN_eq, Nat.reduceAdd, Nat.reduceLeDiff, Nat.zero_le, true_and, and_true, List.map_nil, List.map_cons, exists_eq_left', Option.some.injEq, PyData.list.injEq, exists_eq_left, PyData.int.injEq, R.ok.injEq, Sl.own.injEq, tupI, cut_take (s.map PyData.int) (k : Int) (by omega), cut_drop (s.map PyData.int) ((k : Int) + 1) (by omega), Int.toNat_natCast, show ((k : Int) + 1).toNat = k + 1 by omega]
      rw [addV_tup (by rw [List.length_take, List.length_drop, List.length_map]; omega)]
      refine wn_some.mpr ?_
      show PyData.tuple _ = PyData.tuple _
      rw [List.map_append, List.map_take, List.map_drop]
    · rw [List.length_map, List.length_map, List.length_range, lineN_eq]
      omega
    · unfold facesL
      rw [if_neg c, List.filter_eq_self.mpr fun _ _ => rfl, List.map_map, List.map_map, List.map_map]
      rfl
theorem erase_map (l : Row) (j : Nat) : (l.map PyData.int).eraseIdx j = (l.eraseIdx j).map PyData.int := by
  rw [List.eraseIdx_eq_take_drop_succ, List.eraseIdx_eq_take_drop_succ, List.map_append, List.map_take, List.map_drop]
theorem names_w {kx : List D} {most : Int} {QK : D × List D → Prop} (hk : Dk.Deck kx) (h0 : 1 ≤ most) (h1 : most ≤ 12) (k : ∀ (l : Row) kx', Dk.Deck kx' → InU (Pg.uptoI 12) l → (l.length : Int) ≤ most → QK (.list (l.map PyData.int), kx')) : Wn (F__law_names kx [.int most]) QK := by
  refine wn_runK ?_
  show Sn (G__law_names [.own ⟨false, kx⟩, .d (.int most), .no, .no, .no]) _ _ _ _
  unfold G__law_names
  have c12 : lrgV (k0 (.int 12)) [.own ⟨false, kx⟩, .d (.int most), .no, .no, .no] = .ok (.list ((Pg.uptoI 12).map PyData.int)) := by
    show ((rgL (.int 12)).bind fun xs => R.ok (PyData.list xs)) = _
    rw [← range_up]
    rfl
  simp only [wn_ok, wn_some, wn_only, wn_noex, wn_e2, wn_e1, wn_eN, wn_a0, wn_aC, wn_call, wn_tb, wn_tup, wn_lst, wn_andB, wn_orB, wn_notB, wn_andV, wn_orV, wn_notV, wn_ifV, wn_iA, wn_iR1, wn_iR2, wn_iZ, wn_iEn, wn_iRR, wn_sl, wn_p0, wn_p1, wn_up, wn_upB, wn_upI, wn_x2, wn_x0, wn_xC, wn_xN, wn_xb, wn_xAnd, wn_xOr, wn_xNot, wn_xIf, wn_xCall, wn_xR1, wn_xR2, sn_nx, sn_rt, sn_bk, sn_ct, sn_seq, sn_set, sn_ret, sn_expr, sn_if, sn_for, sn_xSet, sn_xRet, sn_xExpr, sn_xIf, sn_xFor, sn_asg, sn_xAsg, sn_own, sn_xOwn, gv_zero, gv_succ, go_own, go_dat, go_succ, k0_def, gN_def, tru_bool, tru_none, tru_int, tru_list, asSeq_list, asSeq_tup, addV_int, subV_int, ltA_i, leA_i, gtA_i, geA_i, negV_int, intV_int, lenV_list, lenV_tup, ixV_list, ixV_tup, asInt_int, slV_list, slV_tup, slL_list, revV_tup, revV_list, tupleV_list, listV_list, listV_tup, eqV_str, neV_str, eqV_int, List.set_cons_zero, List.set_cons_succ, List.getElem?_cons_zero, List.getElem?_cons_succ, List.length_cons, List.length_nil, ↓reduceIte, Bool.false_eq_true, Bool.not_true, Bool.not_false, wn_ite, gT2, gT3, neV_tup, eqV_tup, in_tup, notin_tup', lineN_eq, Nat.reduceAdd, Nat.reduceLeDiff, Nat.zero_le, true_and, and_true, List.map_nil, List.map_cons, exists_eq_left', Option.some.injEq, PyData.list.injEq, exists_eq_left, PyData.int.injEq, R.ok.injEq, Sl.own.injEq, c12]
  refine wn_callK rfl ?_
  simp only [wn_ok, wn_some, wn_only, wn_noex, wn_e2, wn_e1, wn_eN, wn_a0, wn_aC, wn_call, wn_tb, wn_tup, wn_lst, wn_andB, wn_orB, wn_notB, wn_andV, wn_orV, wn_notV, wn_ifV, wn_iA, wn_iR1, wn_iR2, wn_iZ, wn_iEn, wn_iRR, wn_sl, wn_p0, wn_p1, wn_up, wn_upB, wn_upI, wn_x2, wn_x0, wn_xC, wn_xN, wn_xb, wn_xAnd, wn_xOr, wn_xNot, wn_xIf, wn_xCall, wn_xR1, wn_xR2, sn_nx, sn_rt, sn_bk, sn_ct, sn_seq, sn_set, sn_ret, sn_expr, sn_if, sn_for, sn_xSet, sn_xRet, sn_xExpr, sn_xIf, sn_xFor, sn_asg, sn_xAsg, sn_own, sn_xOwn, gv_zero, gv_succ, go_own, go_dat, go_succ, k0_def, gN_def, tru_bool, tru_none, tru_int, tru_list, asSeq_list, asSeq_tup, addV_int, subV_int, ltA_i, leA_i, gtA_i, geA_i, negV_int, intV_int, lenV_list, lenV_tup, ixV_list, ixV_tup, asInt_int, slV_list, slV_tup, slL_list, revV_tup, revV_list, tupleV_list, listV_list, listV_tup, eqV_str, neV_str, eqV_int, List.set_cons_zero, List.set_cons_succ, List.getElem?_cons_zero, List.getElem?_cons_succ, List.length_cons, List.length_nil, ↓reduceIte, Bool.false_eq_true, Bool.not_true, Bool.not_false, wn_ite, gT2, gT3, neV_tup, eqV_tup, in_tup, notin_tup', lineN_eq, Nat.reduceAdd, Nat.reduceLeDiff, Nat.zero_le, true_and, and_true, List.map_nil, List.map_cons, exists_eq_left', Option.some.injEq, PyData.list.injEq, exists_eq_left, PyData.int.injEq, R.ok.injEq, Sl.own.injEq]
  refine wn_draw hk (by omega) fun n kx1 hk1 n0 n1 => ?_
  simp only [wn_ok, wn_some, wn_only, wn_noex, wn_e2, wn_e1, wn_eN, wn_a0, wn_aC, wn_call, wn_tb, wn_tup, wn_lst, wn_andB, wn_orB, wn_notB, wn_andV, wn_orV, wn_notV, wn_ifV, wn_iA, wn_iR1, wn_iR2, wn_iZ, wn_iEn, wn_iRR, wn_sl, wn_p0, wn_p1, wn_up, wn_upB, wn_upI, wn_x2, wn_x0, wn_xC, wn_xN, wn_xb, wn_xAnd, wn_xOr, wn_xNot, wn_xIf, wn_xCall, wn_xR1, wn_xR2, sn_nx, sn_rt, sn_bk, sn_ct, sn_seq, sn_set, sn_ret, sn_expr, sn_if, sn_for, sn_xSet, sn_xRet, sn_xExpr, sn_xIf, sn_xFor, sn_asg, sn_xAsg, sn_own, sn_xOwn, gv_zero, gv_succ, go_own, go_dat, go_succ, k0_def, gN_def, tru_bool, tru_none, tru_int, tru_list, asSeq_list, asSeq_tup, addV_int, subV_int, ltA_i, leA_i, gtA_i, geA_i, negV_int, intV_int, lenV_list, lenV_tup, ixV_list, ixV_tup, asInt_int, slV_list, slV_tup, slL_list, revV_tup, revV_list, tupleV_list, listV_list, listV_tup, eqV_str, neV_str, eqV_int, List.set_cons_zero, List.set_cons_succ, List.getElem?_cons_zero, List.getElem?_cons_succ, List.length_cons, List.length_nil, ↓reduceIte, Bool.false_eq_true, Bool.not_true, Bool.not_false, wn_ite, gT2, gT3, neV_tup, eqV_tup, in_tup, notin_tup', lineN_eq, Nat.reduceAdd, Nat.reduceLeDiff, Nat.zero_le, true_and, and_true, List.map_nil, List.map_cons, exists_eq_left', Option.some.injEq, PyData.list.injEq, exists_eq_left, PyData.int.injEq, R.ok.injEq, Sl.own.injEq]
  rw [wn_rng1 (by omega) (by omega)]
  refine sn_loop (fun rest η => ∃ (pool names : Row) (kx' : List D) (s4 : Sl), Dk.Deck kx' ∧ (names ++ pool).Perm (Pg.uptoI 12) ∧ (names.length : Int) + rest.length = 1 + n ∧
      η = [.own ⟨false, kx'⟩, .d (.int most), .own ⟨true, pool.map PyData.int⟩, .own ⟨true, names.map PyData.int⟩, s4]) ?_ ?_ _ _ ⟨Pg.uptoI 12, [], kx1, .no, hk1, List.Perm.refl _, ?_, rfl⟩
  · rintro x rest η ⟨pool, names, kx', s4, hk', hp, hz, rfl⟩
    have pl := hp.length_eq
    rw [List.length_append, List.length_map, List.length_range] at pl
    rw [List.length_cons] at hz
    refine ⟨_, rfl, ?_⟩
    simp only [wn_ok, wn_some, wn_only, wn_noex, wn_e2, wn_e1, wn_eN, wn_a0, wn_aC, wn_call, wn_tb, wn_tup, wn_lst, wn_andB, wn_orB, wn_notB, wn_andV, wn_orV, wn_notV, wn_ifV, wn_iA, wn_iR1, wn_iR2, wn_iZ, wn_iEn, wn_iRR, wn_sl, wn_p0, wn_p1, wn_up, wn_upB, wn_upI, wn_x2, wn_x0, wn_xC, wn_xN, wn_xb, wn_xAnd, wn_xOr, wn_xNot, wn_xIf, wn_xCall, wn_xR1, wn_xR2, sn_nx, sn_rt, sn_bk, sn_ct, sn_seq, sn_set, sn_ret, sn_expr, sn_if, sn_for, sn_xSet, sn_xRet, sn_xExpr, sn_xIf, sn_xFor, sn_asg, sn_xAsg, sn_own, sn_xOwn, gv_zero, gv_succ, go_own, go_dat, go_succ, k0_def, gN_def, tru_bool, tru_none, tru_int, tru_list, asSeq_list, asSeq_tup, addV_int, subV_int, ltA_i, leA_i, gtA_i, geA_i, negV_int, intV_int, lenV_list, lenV_tup, ixV_list, ixV_tup, asInt_int, slV_list, slV_tup, slL_list, revV_tup, revV_list, tupleV_list, listV_list, listV_tup, eqV_str, neV_str, eqV_int, List.set_cons_zero, List.set_cons_succ, List.getElem?_cons_zero, List.getElem?_cons_succ, List.length_cons, List.length_nil, ↓reduceIte, Bool.false_eq_true, Bool.not_true, Bool.not_false, wn_ite, gT2, gT3, neV_tup, eqV_tup, in_tup, notin_tup', lineN_eq, Nat.reduceAdd, Nat.reduceLeDiff, Nat.zero_le, true_and, and_true, List.map_nil, List.map_cons, exists_eq_left', Option.some.injEq, PyData.list.injEq, exists_eq_left, PyData.int.injEq, R.ok.injEq, Sl.own.injEq]
    refine sn_xApp (o := ⟨true, names.map PyData.int⟩) rfl ?_
    refine wn_xPop (o := ⟨true, pool.map PyData.int⟩) rfl ?_
    refine wn_callK rfl ?_
    simp only [wn_ok, wn_some, wn_only, wn_noex, wn_e2, wn_e1, wn_eN, wn_a0, wn_aC, wn_call, wn_tb, wn_tup, wn_lst, wn_andB, wn_orB, wn_notB, wn_andV, wn_orV, wn_notV, wn_ifV, wn_iA, wn_iR1, wn_iR2, wn_iZ, wn_iEn, wn_iRR, wn_sl, wn_p0, wn_p1, wn_up, wn_upB, wn_upI, wn_x2, wn_x0, wn_xC, wn_xN, wn_xb, wn_xAnd, wn_xOr, wn_xNot, wn_xIf, wn_xCall, wn_xR1, wn_xR2, sn_nx, sn_rt, sn_bk, sn_ct, sn_seq, sn_set, sn_ret, sn_expr, sn_if, sn_for, sn_xSet, sn_xRet, sn_xExpr, sn_xIf, sn_xFor, sn_asg, sn_xAsg, sn_own, sn_xOwn, gv_zero, gv_succ, go_own, go_dat, go_succ, k0_def, gN_def, tru_bool, tru_none, tru_int, tru_list, asSeq_list, asSeq_tup, addV_int, subV_int, ltA_i, leA_i, gtA_i, geA_i, negV_int, intV_int, lenV_list, lenV_tup, ixV_list, ixV_tup, asInt_int, slV_list, slV_tup, slL_list, revV_tup, revV_list, tupleV_list, listV_list, listV_tup, eqV_str, neV_str, eqV_int, List.set_cons_zero, List.set_cons_succ, List.getElem?_cons_zero, List.getElem?_cons_succ, List.length_cons, List.length_nil, ↓reduceIte, Bool.false_eq_true, Bool.not_true, Bool.not_false, wn_ite, gT2, gT3, neV_tup, eqV_tup, in_tup, notin_tup', lineN_eq, Nat.reduceAdd, Nat.reduceLeDiff, Nat.zero_le, true_and, and_true, List.map_nil, List.map_cons, exists_eq_left', Option.some.injEq, PyData.list.injEq, exists_eq_left, PyData.int.injEq, R.ok.injEq, Sl.own.injEq, List.length_map]
    refine wn_draw hk' (by omega) fun j kx2 hk2 j0 j1 => ?_
    have jl : j.toNat < pool.length := by omega
    refine ⟨⟨true, pool.map PyData.int⟩, j, .int pool[j.toNat], rfl, rfl, j0, by omega, by show (pool.map PyData.int)[j.toNat]? = _; rw [List.getElem?_map, List.getElem?_eq_getElem jl]; rfl, ?_⟩
    refine ⟨by omega, pool.eraseIdx j.toNat, names ++ [pool[j.toNat]], kx2, .d x, hk2, ?_, by rw [List.length_append, List.length_singleton]; omega, ?_⟩
    · rw [List.append_assoc]
      exact ((erase_perm pool j.toNat _ (List.getElem?_eq_getElem jl)).append_left names).trans hp
    · simp only [wn_ok, wn_some, wn_only, wn_noex, wn_e2, wn_e1, wn_eN, wn_a0, wn_aC, wn_call, wn_tb, wn_tup, wn_lst, wn_andB, wn_orB, wn_notB, wn_andV, wn_orV, wn_notV, wn_ifV, wn_iA, wn_iR1, wn_iR2, wn_iZ, wn_iEn, wn_iRR, wn_sl, wn_p0, wn_p1, wn_up, wn_upB, wn_upI, wn_x2, wn_x0, wn_xC, wn_xN, wn_xb, wn_xAnd, wn_xOr, wn_xNot, wn_xIf, wn_xCall, wn_xR1, wn_xR2, sn_nx, sn_rt, sn_bk, sn_ct, sn_seq, sn_set, sn_ret, sn_expr, sn_if, sn_for, sn_xSet, sn_xRet, sn_xExpr, sn_xIf, sn_xFor, sn_asg, sn_xAsg, sn_own, sn_xOwn, gv_zero, gv_succ, go_own, go_dat, go_succ, k0_def, gN_def, tru_bool, tru_none, tru_int, tru_list, asSeq_list, asSeq_tup, addV_int, subV_int, ltA_i, leA_i, gtA_i, geA_i, negV_int, intV_int, lenV_list, lenV_tup, ixV_list, ixV_tup, asInt_int, slV_list, slV_tup, slL_list, revV_tup, revV_list, tupleV_list, listV_list, listV_tup, eqV_str, neV_str, eqV_int, List.set_cons_zero, List.set_cons_succ, List.getElem?_cons_zero, List.getElem?_cons_succ, List.length_cons, List.length_nil, ↓reduceIte, Bool.false_eq_true, Bool.not_true, Bool.not_false, wn_ite, gT2, gT3, neV_tup, eqV_tup, in_tup, notin_tup', lineN_eq, Nat.reduceAdd, Nat.reduceLeDiff, Nat.zero_le, true_and, and_true, List.map_nil, List.map_cons, exists_eq_left', Option.some.injEq, PyData.list.injEq, exists_eq_left, PyData.int.injEq, R.ok.injEq, Sl.own.injEq]
      rw [List.map_append, erase_map]
      rfl
  · rintro η ⟨pool, names, kx', s4, hk', hp, hz, rfl⟩
    refine sn_frz (xs := names.map PyData.int) rfl ?_
    simp only [wn_ok, wn_some, wn_only, wn_noex, wn_e2, wn_e1, wn_eN, wn_a0, wn_aC, wn_call, wn_tb, wn_tup, wn_lst, wn_andB, wn_orB, wn_notB, wn_andV, wn_orV, wn_notV, wn_ifV, wn_iA, wn_iR1, wn_iR2, wn_iZ, wn_iEn, wn_iRR, wn_sl, wn_p0, wn_p1, wn_up, wn_upB, wn_upI, wn_x2, wn_x0, wn_xC, wn_xN, wn_xb, wn_xAnd, wn_xOr, wn_xNot, wn_xIf, wn_xCall, wn_xR1, wn_xR2, sn_nx, sn_rt, sn_bk, sn_ct, sn_seq, sn_set, sn_ret, sn_expr, sn_if, sn_for, sn_xSet, sn_xRet, sn_xExpr, sn_xIf, sn_xFor, sn_asg, sn_xAsg, sn_own, sn_xOwn, gv_zero, gv_succ, go_own, go_dat, go_succ, k0_def, gN_def, tru_bool, tru_none, tru_int, tru_list, asSeq_list, asSeq_tup, addV_int, subV_int, ltA_i, leA_i, gtA_i, geA_i, negV_int, intV_int, lenV_list, lenV_tup, ixV_list, ixV_tup, asInt_int, slV_list, slV_tup, slL_list, revV_tup, revV_list, tupleV_list, listV_list, listV_tup, eqV_str, neV_str, eqV_int, List.set_cons_zero, List.set_cons_succ, List.getElem?_cons_zero, List.getElem?_cons_succ, List.length_cons, List.length_nil, ↓reduceIte, Bool.false_eq_true, Bool.not_true, Bool.not_false, wn_ite, gT2, gT3, neV_tup, eqV_tup, in_tup, notin_tup', lineN_eq, Nat.reduceAdd, Nat.reduceLeDiff, Nat.zero_le, true_and, and_true, List.map_nil, List.map_cons, exists_eq_left', Option.some.injEq, PyData.list.injEq, exists_eq_left, PyData.int.injEq, R.ok.injEq, Sl.own.injEq, sortAV_ints]
    have nd : names.Nodup := (List.nodup_append.mp (hp.nodup_iff.mpr (Pg.upto_asc 12).nodup)).1
    refine ⟨kx', rfl, k (isort names) kx' hk' ⟨asc_sort nd, fun x m => ?_⟩ ?_⟩
    · have := (isort_perm names).mem_iff.mp m
      exact hp.mem_iff.mp (List.mem_append_left _ this)
    · rw [(isort_perm names).length_eq]
      simp at hz
      omega
  · unfold rangeD
    rw [List.length_map, List.length_range]
    simp
    omega
end Od
end Bd
/-! O2: orders and chains, drawn. -/
namespace Bd
open PySem L2
namespace Od
theorem atD_ints {l : Row} {i : Int} {x : Int} (h0 : 0 ≤ i) (h : l[i.toNat]? = some x) : atD (l.map PyData.int) i = some (.int x) := atD_nat h0 (by rw [List.getElem?_map, h]; rfl)
theorem asc_get {l : Row} (h : Asc l) {i j : Nat} {x y : Int} (hi : l[i]? = some x) (hj : l[j]? = some y) (lt : i < j) : x < y := by
  obtain ⟨a, ea⟩ := List.getElem?_eq_some_iff.mp hi
  obtain ⟨b, eb⟩ := List.getElem?_eq_some_iff.mp hj
  rw [← ea, ← eb]
  exact List.pairwise_iff_getElem.mp h i j a b lt
theorem smp1 {a : Int} (ha : a ∈ Pg.uptoI 12) : Smp [a] := ⟨⟨List.pairwise_singleton _ _, fun x m => by rw [List.mem_singleton.mp m]; exact ha⟩, by simp, by simp⟩
theorem smp2 {a b : Int} (ha : a ∈ Pg.uptoI 12) (hb : b ∈ Pg.uptoI 12) (h : a < b) : Smp [a, b] := ⟨⟨List.pairwise_cons.mpr ⟨fun y m => by rw [List.mem_singleton.mp m]; exact h, List.pairwise_singleton _ _⟩, fun x m => by
  rcases List.mem_cons.mp m with rfl | m
  · exact ha
  · rw [List.mem_singleton.mp m]; exact hb⟩, by simp, by simp⟩
theorem smp3 {a b c : Int} (ha : a ∈ Pg.uptoI 12) (hb : b ∈ Pg.uptoI 12) (hc : c ∈ Pg.uptoI 12) (h : a < b) (h' : b < c) : Smp [a, b, c] := by
  have s2 := smp2 hb hc h'
  refine ⟨⟨List.pairwise_cons.mpr ⟨fun y m => ?_, s2.u.asc⟩, fun x m => ?_⟩, by simp, by simp⟩
  · rcases List.mem_cons.mp m with rfl | m
    · exact h
    · rw [List.mem_singleton.mp m]; omega
  · rcases List.mem_cons.mp m with rfl | m
    · exact ha
    · exact s2.u.sub x m
def triD (names : Row) (xj xi : Int) : D → D
  | .int k => tupI [names.getD k.toNat 0, xj, xi]
  | _ => .none
theorem catV_list {xs ys : List D} (h : xs.length + ys.length ≤ 16777216) : catV (.list xs) (.list ys) = some (.list (xs ++ ys)) := if_pos (by rw [lineN_eq]; exact h)
theorem every_w {names : Row} (hn : InU (Pg.uptoI 12) names) {QD : D → Prop} (k : ∀ es : List Row, (∀ s ∈ es, Smp s) → es.length ≤ 4000 → QD (.list (es.map tupI))) : Wn (F__law_every [.list (names.map PyData.int)]) QD := by
  have nl : names.length ≤ 12 := by
    have := hn.len (Pg.upto_asc 12)
    rw [List.length_map, List.length_range] at this
    exact this
  have get : ∀ i : Nat, i < names.length → ∃ x, names[i]? = some x ∧ x ∈ Pg.uptoI 12 := fun i h => ⟨names[i], List.getElem?_eq_getElem h, hn.sub _ (List.getElem_mem h)⟩
  refine wn_runD ?_
  show Sn (G__law_every [.d (.list (names.map PyData.int)), .no, .no, .no, .no]) _ _ _ _
  unfold G__law_every
  simp only [wn_ok, wn_some, wn_only, wn_noex, wn_e2, wn_e1, wn_eN, wn_a0, wn_aC, wn_call, wn_tb, wn_tup, wn_lst, wn_andB, wn_orB, wn_notB, wn_andV, wn_orV, wn_notV, wn_ifV, wn_iA, wn_iR1, wn_iR2, wn_iZ, wn_iEn, wn_iRR, wn_sl, wn_p0, wn_p1, wn_up, wn_upB, wn_upI, wn_x2, wn_x0, wn_xC, wn_xN, wn_xb, wn_xAnd, wn_xOr, wn_xNot, wn_xIf, wn_xCall, wn_xR1, wn_xR2, sn_nx, sn_rt, sn_bk, sn_ct, sn_seq, sn_set, sn_ret, sn_expr, sn_if, sn_for, sn_xSet, sn_xRet, sn_xExpr, sn_xIf, sn_xFor, sn_asg, sn_xAsg, sn_own, sn_xOwn, gv_zero, gv_succ, go_own, go_dat, go_succ, k0_def, gN_def, tru_bool, tru_none, tru_int, tru_list, asSeq_list, asSeq_tup, addV_int, subV_int, ltA_i, leA_i, gtA_i, geA_i, negV_int, intV_int, lenV_list, lenV_tup, ixV_list, ixV_tup, asInt_int, slV_list, slV_tup, slL_list, revV_tup, revV_list, tupleV_list, listV_list, listV_tup, eqV_str, neV_str, eqV_int, List.set_cons_zero, List.set_cons_succ, List.getElem?_cons_zero, List.getElem?_cons_succ, List.length_cons, List.length_nil, ↓reduceIte, Bool.false_eq_true, Bool.not_true, Bool.not_false, wn_ite, gT2, gT3, neV_tup, eqV_tup, in_tup, notin_tup', lineN_eq, Nat.reduceAdd, Nat.reduceLeDiff, Nat.zero_le, true_and, and_true, List.map_nil, List.map_cons, exists_eq_left', Option.some.injEq, PyData.list.injEq, exists_eq_left, PyData.int.injEq, R.ok.injEq, Sl.own.injEq, List.length_map]
  rw [wn_rng1 (by omega) (by omega), range_up, Int.toNat_natCast]
  refine sn_loop (fun rest η => ∃ (es : List Row) (l : List Nat) (s2 s3 s4 : Sl), rest = l.map (fun i : Nat => PyData.int (i : Nat)) ∧ (∀ i ∈ l, i < names.length) ∧ (∀ s ∈ es, Smp s) ∧ es.length + 300 * l.length ≤ 300 * names.length ∧
      η = [.d (.list (names.map PyData.int)), .own ⟨true, es.map tupI⟩, s2, s3, s4]) ?_ ?_ _ _ ⟨[], List.range names.length, .no, .no, .no, by rw [List.map_map]; rfl, fun i m => List.mem_range.mp m, fun s m => absurd m List.not_mem_nil, by simp, rfl⟩
  · rintro x rest η ⟨es, l, s2, s3, s4, e1, hl, hes, hz, rfl⟩
    cases l with
    | nil => cases e1
    | cons i l =>
      rw [List.map_cons] at e1
      obtain ⟨rfl, rfl⟩ := List.cons.inj e1
      rw [List.length_cons] at hz
      obtain ⟨xi, gi, ui⟩ := get i (hl i List.mem_cons_self)
      have il := hl i List.mem_cons_self
      have ai : atD (names.map PyData.int) (i : Int) = some (.int xi) := atD_ints (by omega) (by rw [Int.toNat_natCast]; exact gi)
      refine ⟨_, rfl, ?_⟩
      simp only [wn_ok, wn_some, wn_only, wn_noex, wn_e2, wn_e1, wn_eN, wn_a0, wn_aC, wn_call, wn_tb, wn_tup, wn_lst, wn_andB, wn_orB, wn_notB, wn_andV, wn_orV, wn_notV, wn_ifV, wn_iA, wn_iR1, wn_iR2, wn_iZ, wn_iEn, wn_iRR, wn_sl, wn_p0, wn_p1, wn_up, wn_upB, wn_upI, wn_x2, wn_x0, wn_xC, wn_xN, wn_xb, wn_xAnd, wn_xOr, wn_xNot, wn_xIf, wn_xCall, wn_xR1, wn_xR2, sn_nx, sn_rt, sn_bk, sn_ct, sn_seq, sn_set, sn_ret, sn_expr, sn_if, sn_for, sn_xSet, sn_xRet, sn_xExpr, sn_xIf, sn_xFor, sn_asg, sn_xAsg, sn_own, sn_xOwn, gv_zero, gv_succ, go_own, go_dat, go_succ, k0_def, gN_def, tru_bool, tru_none, tru_int, tru_list, asSeq_list, asSeq_tup, addV_int, subV_int, ltA_i, leA_i, gtA_i, geA_i, negV_int, intV_int, lenV_list, lenV_tup, ixV_list, ixV_tup, asInt_int, slV_list, slV_tup, slL_list, revV_tup, revV_list, tupleV_list, listV_list, listV_tup, eqV_str, neV_str, eqV_int, List.set_cons_zero, List.set_cons_succ, List.getElem?_cons_zero, List.getElem?_cons_succ, List.length_cons, List.length_nil, ↓reduceIte, Bool.false_eq_true, Bool.not_true, Bool.not_false, wn_ite, gT2, gT3, neV_tup, eqV_tup, in_tup, notin_tup', lineN_eq, Nat.reduceAdd, Nat.reduceLeDiff, Nat.zero_le, true_and, and_true, List.map_nil, List.map_cons, exists_eq_left', Option.some.injEq, PyData.list.injEq, exists_eq_left, PyData.int.injEq, R.ok.injEq, Sl.own.injEq]
      refine sn_app (xs := ⟨true, es.map tupI⟩) rfl ?_
      simp only [wn_ok, wn_some, wn_only, wn_noex, wn_e2, wn_e1, wn_eN, wn_a0, wn_aC, wn_call, wn_tb, wn_tup, wn_lst, wn_andB, wn_orB, wn_notB, wn_andV, wn_orV, wn_notV, wn_ifV, wn_iA, wn_iR1, wn_iR2, wn_iZ, wn_iEn, wn_iRR, wn_sl, wn_p0, wn_p1, wn_up, wn_upB, wn_upI, wn_x2, wn_x0, wn_xC, wn_xN, wn_xb, wn_xAnd, wn_xOr, wn_xNot, wn_xIf, wn_xCall, wn_xR1, wn_xR2, sn_nx, sn_rt, sn_bk, sn_ct, sn_seq, sn_set, sn_ret, sn_expr, sn_if, sn_for, sn_xSet, sn_xRet, sn_xExpr, sn_xIf, sn_xFor, sn_asg, sn_xAsg, sn_own, sn_xOwn, gv_zero, gv_succ, go_own, go_dat, go_succ, k0_def, gN_def, tru_bool, tru_none, tru_int, tru_list, asSeq_list, asSeq_tup, addV_int, subV_int, ltA_i, leA_i, gtA_i, geA_i, negV_int, intV_int, lenV_list, lenV_tup, ixV_list, ixV_tup, asInt_int, slV_list, slV_tup, slL_list, revV_tup, revV_list, tupleV_list, listV_list, listV_tup, eqV_str, neV_str, eqV_int, List.set_cons_zero, List.set_cons_succ, List.getElem?_cons_zero, List.getElem?_cons_succ, List.length_cons, List.length_nil, ↓reduceIte, Bool.false_eq_true, Bool.not_true, Bool.not_false, wn_ite, gT2, gT3, neV_tup, eqV_tup, in_tup, notin_tup', lineN_eq, Nat.reduceAdd, Nat.reduceLeDiff, Nat.zero_le, true_and, and_true, List.map_nil, List.map_cons, exists_eq_left', Option.some.injEq, PyData.list.injEq, exists_eq_left, PyData.int.injEq, R.ok.injEq, Sl.own.injEq, ai, List.length_map]
      refine ⟨by omega, ?_⟩
      rw [wn_rng1 (by omega) (by omega), range_up, Int.toNat_natCast]
      refine sn_loop (fun rest η => ∃ (es : List Row) (m : List Nat) (s3 s4 : Sl), rest = m.map (fun i : Nat => PyData.int (i : Nat)) ∧ (∀ j ∈ m, j < i) ∧ (∀ s ∈ es, Smp s) ∧ es.length + 20 * m.length + 300 * l.length ≤ 300 * names.length ∧
          η = [.d (.list (names.map PyData.int)), .own ⟨true, es.map tupI⟩, .d (.int (i : Nat)), s3, s4]) ?_ ?_ _ _ ⟨es ++ [[xi]], List.range i, s3, s4, by rw [List.map_map]; rfl, fun j m => List.mem_range.mp m, ?_, ?_, by rw [List.map_append]; rfl⟩
      · rintro x rest η ⟨es, m, s3, s4, e1, hm, hes, hz, rfl⟩
        cases m with
        | nil => cases e1
        | cons j m =>
          rw [List.map_cons] at e1
          obtain ⟨rfl, rfl⟩ := List.cons.inj e1
          rw [List.length_cons] at hz
          have jl := hm j List.mem_cons_self
          obtain ⟨xj, gj, uj⟩ := get j (by omega)
          have aj : atD (names.map PyData.int) (j : Int) = some (.int xj) := atD_ints (by omega) (by rw [Int.toNat_natCast]; exact gj)
          have lt := asc_get hn.asc gj gi jl
          refine ⟨_, rfl, ?_⟩
          simp only [wn_ok, wn_some, wn_only, wn_noex, wn_e2, wn_e1, wn_eN, wn_a0, wn_aC, wn_call, wn_tb, wn_tup, wn_lst, wn_andB, wn_orB, wn_notB, wn_andV, wn_orV, wn_notV, wn_ifV, wn_iA, wn_iR1, wn_iR2, wn_iZ, wn_iEn, wn_iRR, wn_sl, wn_p0, wn_p1, wn_up, wn_upB, wn_upI, wn_x2, wn_x0, wn_xC, wn_xN, wn_xb, wn_xAnd, wn_xOr, wn_xNot, wn_xIf, wn_xCall, wn_xR1, wn_xR2, sn_nx, sn_rt, sn_bk, sn_ct, sn_seq, sn_set, sn_ret, sn_expr, sn_if, sn_for, sn_xSet, sn_xRet, sn_xExpr, sn_xIf, sn_xFor, sn_asg, sn_xAsg, sn_own, sn_xOwn, gv_zero, gv_succ, go_own, go_dat, go_succ, k0_def, gN_def, tru_bool, tru_none, tru_int, tru_list, asSeq_list, asSeq_tup, addV_int, subV_int, ltA_i, leA_i, gtA_i, geA_i, negV_int, intV_int, lenV_list, lenV_tup, ixV_list, ixV_tup, asInt_int, slV_list, slV_tup, slL_list, revV_tup, revV_list, tupleV_list, listV_list, listV_tup, eqV_str, neV_str, eqV_int, List.set_cons_zero, List.set_cons_succ, List.getElem?_cons_zero, List.getElem?_cons_succ, List.length_cons, List.length_nil, ↓reduceIte, Bool.false_eq_true, Bool.not_true, Bool.not_false, wn_ite, gT2, gT3, neV_tup, eqV_tup, in_tup, notin_tup', lineN_eq, Nat.reduceAdd, Nat.reduceLeDiff, Nat.zero_le, true_and, and_true, List.map_nil, List.map_cons, exists_eq_left', Option.some.injEq, PyData.list.injEq, exists_eq_left, PyData.int.injEq, R.ok.injEq, Sl.own.injEq]
          refine sn_app (xs := ⟨true, es.map tupI⟩) rfl ?_
          simp only [wn_ok, wn_some, wn_only, wn_noex, wn_e2, wn_e1, wn_eN, wn_a0, wn_aC, wn_call, wn_tb, wn_tup, wn_lst, wn_andB, wn_orB, wn_notB, wn_andV, wn_orV, wn_notV, wn_ifV, wn_iA, wn_iR1, wn_iR2, wn_iZ, wn_iEn, wn_iRR, wn_sl, wn_p0, wn_p1, wn_up, wn_upB, wn_upI, wn_x2, wn_x0, wn_xC, wn_xN, wn_xb, wn_xAnd, wn_xOr, wn_xNot, wn_xIf, wn_xCall, wn_xR1, wn_xR2, sn_nx, sn_rt, sn_bk, sn_ct, sn_seq, sn_set, sn_ret, sn_expr, sn_if, sn_for, sn_xSet, sn_xRet, sn_xExpr, sn_xIf, sn_xFor, sn_asg, sn_xAsg, sn_own, sn_xOwn, gv_zero, gv_succ, go_own, go_dat, go_succ, k0_def, gN_def, tru_bool, tru_none, tru_int, tru_list, asSeq_list, asSeq_tup, addV_int, subV_int, ltA_i, leA_i, gtA_i, geA_i, negV_int, intV_int, lenV_list, lenV_tup, ixV_list, ixV_tup, asInt_int, slV_list, slV_tup, slL_list, revV_tup, revV_list, tupleV_list, listV_list, listV_tup, eqV_str, neV_str, eqV_int, List.set_cons_zero, List.set_cons_succ, List.getElem?_cons_zero, List.getElem?_cons_succ, List.length_cons, List.length_nil, ↓reduceIte, Bool.false_eq_true, Bool.not_true, Bool.not_false, wn_ite, gT2, gT3, neV_tup, eqV_tup, in_tup, notin_tup', lineN_eq, Nat.reduceAdd, Nat.reduceLeDiff, Nat.zero_le, true_and, and_true, List.map_nil, List.map_cons, exists_eq_left', Option.some.injEq, PyData.list.injEq, exists_eq_left, PyData.int.injEq, R.ok.injEq, Sl.own.injEq, ai, aj, List.length_map]
          refine ⟨by omega, ?_⟩
          refine wn_comp (xs := (Pg.uptoI j).map PyData.int) (fun _ => true) (triD names xj xi) ?_ ?_ ?_ ?_
          · simp only [wn_ok, wn_some, wn_only, wn_noex, wn_e2, wn_e1, wn_eN, wn_a0, wn_aC, wn_call, wn_tb, wn_tup, wn_lst, wn_andB, wn_orB, wn_notB, wn_andV, wn_orV, wn_notV, wn_ifV, wn_iA, wn_iR1, wn_iR2, wn_iZ, wn_iEn, wn_iRR, wn_sl, wn_p0, wn_p1, wn_up, wn_upB, wn_upI, wn_x2, wn_x0, wn_xC, wn_xN, wn_xb, wn_xAnd, wn_xOr, wn_xNot, wn_xIf, wn_xCall, wn_xR1, wn_xR2, sn_nx, sn_rt, sn_bk, sn_ct, sn_seq, sn_set, sn_ret, sn_expr, sn_if, sn_for, sn_xSet, sn_xRet, sn_xExpr, sn_xIf, sn_xFor, sn_asg, sn_xAsg, sn_own, sn_xOwn, gv_zero, gv_succ, go_own, go_dat, go_succ, k0_def, gN_def, tru_bool, tru_none, tru_int, tru_list, asSeq_list, asSeq_tup, addV_int, subV_int, ltA_i, leA_i, gtA_i, geA_i, negV_int, intV_int, lenV_list, lenV_tup, ixV_list, ixV_tup, asInt_int, slV_list, slV_tup, slL_list, revV_tup, revV_list, tupleV_list, listV_list, listV_tup, eqV_str, neV_str, eqV_int, List.set_cons_zero, List.set_cons_succ, List.getElem?_cons_zero, List.getElem?_cons_succ, List.length_cons, List.length_nil, ↓reduceIte, Bool.false_eq_true, Bool.not_true, Bool.not_false, wn_ite, gT2, gT3, neV_tup, eqV_tup, in_tup, notin_tup', lineN_eq, Nat.reduceAdd, Nat.reduceLeDiff, Nat.zero_le, true_and, and_true, List.map_nil, List.map_cons, exists_eq_left', Option.some.injEq, PyData.list.injEq, exists_eq_left, PyData.int.injEq, R.ok.injEq, Sl.own.injEq]
            refine (wn_rng1 (by omega) (by omega)).mpr ?_
            rw [range_up, Int.toNat_natCast]
          · intro y my
            obtain ⟨z, mz, rfl⟩ := List.mem_map.mp my
            obtain ⟨q, hq, rfl⟩ := List.mem_map.mp mz
            have ql := List.mem_range.mp hq
            obtain ⟨xq, gq, uq⟩ := get q (by omega)
            have aq : atD (names.map PyData.int) (q : Int) = some (.int xq) := atD_ints (by omega) (by rw [Int.toNat_natCast]; exact gq)
            refine ⟨_, rfl, wn_ok.mpr ⟨rfl, fun _ => ?_⟩⟩
            show Wn (tupV (aC (e2 ixV (gv 0) (gv 4)) (aC (e2 ixV (gv 0) (gv 3)) (aC (e2 ixV (gv 0) (gv 2)) a0))) [.d (.list (names.map PyData.int)), .own ⟨true, es.map tupI ++ [PyData.tuple [.int xj, .int xi]]⟩, .d (.int (i : Nat)), .d (.int (j : Nat)), .d (.int (q : Nat))]) _
            simp only [wn_ok, wn_some, wn_only, wn_noex, wn_e2, wn_e1, wn_eN, wn_a0, wn_aC, wn_call, wn_tb, wn_tup, wn_lst, wn_andB, wn_orB, wn_notB, wn_andV, wn_orV, wn_notV, wn_ifV, wn_iA, wn_iR1, wn_iR2, wn_iZ, wn_iEn, wn_iRR, wn_sl, wn_p0, wn_p1, wn_up, wn_upB, wn_upI, wn_x2, wn_x0, wn_xC, wn_xN, wn_xb, wn_xAnd, wn_xOr, wn_xNot, wn_xIf, wn_xCall, wn_xR1, wn_xR2, sn_nx, sn_rt, sn_bk, sn_ct, sn_seq, sn_set, sn_ret, sn_expr, sn_if, sn_for, sn_xSet, sn_xRet, sn_xExpr, sn_xIf, sn_xFor, sn_asg, sn_xAsg, sn_own, sn_xOwn, gv_zero, gv_succ, go_own, go_dat, go_succ, k0_def, gN_def, tru_bool, tru_none, tru_int, tru_list, asSeq_list, asSeq_tup, addV_int, subV_int, ltA_i, leA_i, gtA_i, geA_i, negV_int, intV_int, lenV_list, lenV_tup, ixV_list, ixV_tup, asInt_int, slV_list, slV_tup, slL_list, revV_tup, revV_list, tupleV_list, listV_list, listV_tup, eqV_str, neV_str, eqV_int, List.set_cons_zero, List.set_cons_succ, List.getElem?_cons_zero, List.getElem?_cons_succ, List.length_cons, List.length_nil, ↓reduceIte, Bool.false_eq_true, Bool.not_true, Bool.not_false, wn_ite, gT2, gT3, neV_tup, eqV_tup, in_tup, notin_tup', lineN_eq, Nat.reduceAdd, Nat.reduceLeDiff, Nat.zero_le, true_and, and_true, List.map_nil, List.map_cons, exists_eq_left', Option.some.injEq, PyData.list.injEq, exists_eq_left, PyData.int.injEq, R.ok.injEq, Sl.own.injEq, ai, aj, aq]
            show _ = tupI [(names.getD (q : Int).toNat 0), xj, xi]
            rw [Int.toNat_natCast, List.getD_eq_getElem?_getD, gq]
            rfl
          · rw [List.length_map, List.length_map, List.length_range, lineN_eq]
            omega
          · have new : (((Pg.uptoI j).map PyData.int).filter fun _ => true).map (triD names xj xi) = ((List.range j).map fun q : Nat => [names.getD q 0, xj, xi]).map tupI := by
              rw [List.filter_eq_self.mpr fun _ _ => rfl, List.map_map, List.map_map, List.map_map]
              rfl
            rw [new]
            have cat : catV (.list (es.map tupI ++ [PyData.tuple [.int xj, .int xi]])) (.list (((List.range j).map fun q : Nat => [names.getD q 0, xj, xi]).map tupI)) = some (.list ((es ++ [[xj, xi]] ++ ((List.range j).map fun q : Nat => [names.getD q 0, xj, xi])).map tupI)) := by
              rw [catV_list (by rw [List.length_append, List.length_map, List.length_map, List.length_map, List.length_range]; simp; omega), List.map_append, List.map_append]
              rfl
            simp only [wn_ok, wn_some, wn_only, wn_noex, wn_e2, wn_e1, wn_eN, wn_a0, wn_aC, wn_call, wn_tb, wn_tup, wn_lst, wn_andB, wn_orB, wn_notB, wn_andV, wn_orV, wn_notV, wn_ifV, wn_iA, wn_iR1, wn_iR2, wn_iZ, wn_iEn, wn_iRR, wn_sl, wn_p0, wn_p1, wn_up, wn_upB, wn_upI, wn_x2, wn_x0, wn_xC, wn_xN, wn_xb, wn_xAnd, wn_xOr, wn_xNot, wn_xIf, wn_xCall, wn_xR1, wn_xR2, sn_nx, sn_rt, sn_bk, sn_ct, sn_seq, sn_set, sn_ret, sn_expr, sn_if, sn_for, sn_xSet, sn_xRet, sn_xExpr, sn_xIf, sn_xFor, sn_asg, sn_xAsg, sn_own, sn_xOwn, gv_zero, gv_succ, go_own, go_dat, go_succ, k0_def, gN_def, tru_bool, tru_none, tru_int, tru_list, asSeq_list, asSeq_tup, addV_int, subV_int, ltA_i, leA_i, gtA_i, geA_i, negV_int, intV_int, lenV_list, lenV_tup, ixV_list, ixV_tup, asInt_int, slV_list, slV_tup, slL_list, revV_tup, revV_list, tupleV_list, listV_list, listV_tup, eqV_str, neV_str, eqV_int, List.set_cons_zero, List.set_cons_succ, List.getElem?_cons_zero, List.getElem?_cons_succ, List.length_cons, List.length_nil, ↓reduceIte, Bool.false_eq_true, Bool.not_true, Bool.not_false, wn_ite, gT2, gT3, neV_tup, eqV_tup, in_tup, notin_tup', lineN_eq, Nat.reduceAdd, Nat.reduceLeDiff, Nat.zero_le, true_and, and_true, List.map_nil, List.map_cons, exists_eq_left', Option.some.injEq, PyData.list.injEq, exists_eq_left, PyData.int.injEq, R.ok.injEq, Sl.own.injEq, cat]
            refine ⟨_, m, .d (.int (j : Nat)), s4, rfl, fun q mq => hm q (List.mem_cons_of_mem _ mq), fun s ms => ?_, ?_, rfl⟩
            · rcases List.mem_append.mp ms with ms | ms
              · rcases List.mem_append.mp ms with ms | ms
                · exact hes s ms
                · rw [List.mem_singleton.mp ms]
                  exact smp2 uj ui lt
              · obtain ⟨q, mq, rfl⟩ := List.mem_map.mp ms
                have ql := List.mem_range.mp mq
                obtain ⟨xq, gq, uq⟩ := get q (by omega)
                rw [List.getD_eq_getElem?_getD, gq]
                exact smp3 uq uj ui (asc_get hn.asc gq gj ql) lt
            · rw [List.length_append, List.length_append, List.length_map, List.length_range, List.length_singleton]
              omega
      · rintro η ⟨es, m, s3, s4, e1, hm, hes, hz, rfl⟩
        refine ⟨es, l, _, s3, s4, rfl, fun q mq => hl q (List.mem_cons_of_mem _ mq), hes, by omega, rfl⟩
      · intro s ms
        rcases List.mem_append.mp ms with ms | ms
        · exact hes s ms
        · rw [List.mem_singleton.mp ms]
          exact smp1 ui
      · rw [List.length_append, List.length_singleton, List.length_range]
        omega
  · rintro η ⟨es, l, s2, s3, s4, e1, hl, hes, hz, rfl⟩
    refine sn_retO (xs := es.map tupI) rfl ?_
    exact k es hes (by omega)
end Od
end Bd
/-! O3: orders and chains, drawn. -/
namespace Bd
open PySem L2
namespace Od
def tupMem (os : List Row) : D → Bool
  | .tuple ds => match ints? ds with
    | some s => decide (s ∈ os)
    | none => false
  | _ => false
theorem tupMem_tup (os : List Row) (s : Row) : tupMem os (tupI s) = decide (s ∈ os) := by
  show (match ints? (s.map PyData.int) with | some s => decide (s ∈ os) | none => false) = _
  rw [ints?_map]
theorem facesL_len {s : Row} (hs : Smp s) : (facesL s).length ≤ 3 := by
  unfold facesL
  split
  · exact Nat.zero_le _
  · rw [List.length_map, List.length_range]
    exact hs.hi
/-- which of all can stand next -/
def nextB (os : List Row) : D → Bool
  | .tuple ds => match ints? ds with
    | some s => !decide (s ∈ os) && (facesL s).all fun f => decide (f ∈ os)
    | none => false
  | _ => false
theorem nextB_tup (os : List Row) (s : Row) : nextB os (tupI s) = (!decide (s ∈ os) && (facesL s).all fun f => decide (f ∈ os)) := by
  show (match ints? (s.map PyData.int) with | some s => !decide (s ∈ os) && (facesL s).all fun f => decide (f ∈ os) | none => false) = _
  rw [ints?_map]
theorem order_w {kx : List D} {most steps : Int} {QK : D × List D → Prop} (hk : Dk.Deck kx) (h0 : 1 ≤ most) (h1 : most ≤ 12) (s0 : 0 ≤ steps) (s1 : steps ≤ 60) (k : ∀ (os : List Row) kx', Dk.Deck kx' → Ordr os → (os.length : Int) ≤ steps → QK (.list (os.map tupI), kx')) : Wn (F__law_order kx [.int most, .int steps]) QK := by
  refine wn_runK ?_
  show Sn (G__law_order [.own ⟨false, kx⟩, .d (.int most), .d (.int steps), .no, .no, .no, .no, .no, .no]) _ _ _ _
  unfold G__law_order
  simp only [wn_ok, wn_some, wn_only, wn_noex, wn_e2, wn_e1, wn_eN, wn_a0, wn_aC, wn_call, wn_tb, wn_tup, wn_lst, wn_andB, wn_orB, wn_notB, wn_andV, wn_orV, wn_notV, wn_ifV, wn_iA, wn_iR1, wn_iR2, wn_iZ, wn_iEn, wn_iRR, wn_sl, wn_p0, wn_p1, wn_up, wn_upB, wn_upI, wn_x2, wn_x0, wn_xC, wn_xN, wn_xb, wn_xAnd, wn_xOr, wn_xNot, wn_xIf, wn_xCall, wn_xR1, wn_xR2, sn_nx, sn_rt, sn_bk, sn_ct, sn_seq, sn_set, sn_ret, sn_expr, sn_if, sn_for, sn_xSet, sn_xRet, sn_xExpr, sn_xIf, sn_xFor, sn_asg, sn_xAsg, sn_own, sn_xOwn, gv_zero, gv_succ, go_own, go_dat, go_succ, k0_def, gN_def, tru_bool, tru_none, tru_int, tru_list, asSeq_list, asSeq_tup, addV_int, subV_int, ltA_i, leA_i, gtA_i, geA_i, negV_int, intV_int, lenV_list, lenV_tup, ixV_list, ixV_tup, asInt_int, slV_list, slV_tup, slL_list, revV_tup, revV_list, tupleV_list, listV_list, listV_tup, eqV_str, neV_str, eqV_int, List.set_cons_zero, List.set_cons_succ, List.getElem?_cons_zero, List.getElem?_cons_succ, List.length_cons, List.length_nil, ↓reduceIte, Bool.false_eq_true, Bool.not_true, Bool.not_false, wn_ite, gT2, gT3, neV_tup, eqV_tup, in_tup, notin_tup', lineN_eq, Nat.reduceAdd, Nat.reduceLeDiff, Nat.zero_le, true_and, and_true, List.map_nil, List.map_cons, exists_eq_left', Option.some.injEq, PyData.list.injEq, exists_eq_left, PyData.int.injEq, R.ok.injEq, Sl.own.injEq]
  refine wn_callK rfl ?_
  simp only [wn_ok, wn_some, wn_only, wn_noex, wn_e2, wn_e1, wn_eN, wn_a0, wn_aC, wn_call, wn_tb, wn_tup, wn_lst, wn_andB, wn_orB, wn_notB, wn_andV, wn_orV, wn_notV, wn_ifV, wn_iA, wn_iR1, wn_iR2, wn_iZ, wn_iEn, wn_iRR, wn_sl, wn_p0, wn_p1, wn_up, wn_upB, wn_upI, wn_x2, wn_x0, wn_xC, wn_xN, wn_xb, wn_xAnd, wn_xOr, wn_xNot, wn_xIf, wn_xCall, wn_xR1, wn_xR2, sn_nx, sn_rt, sn_bk, sn_ct, sn_seq, sn_set, sn_ret, sn_expr, sn_if, sn_for, sn_xSet, sn_xRet, sn_xExpr, sn_xIf, sn_xFor, sn_asg, sn_xAsg, sn_own, sn_xOwn, gv_zero, gv_succ, go_own, go_dat, go_succ, k0_def, gN_def, tru_bool, tru_none, tru_int, tru_list, asSeq_list, asSeq_tup, addV_int, subV_int, ltA_i, leA_i, gtA_i, geA_i, negV_int, intV_int, lenV_list, lenV_tup, ixV_list, ixV_tup, asInt_int, slV_list, slV_tup, slL_list, revV_tup, revV_list, tupleV_list, listV_list, listV_tup, eqV_str, neV_str, eqV_int, List.set_cons_zero, List.set_cons_succ, List.getElem?_cons_zero, List.getElem?_cons_succ, List.length_cons, List.length_nil, ↓reduceIte, Bool.false_eq_true, Bool.not_true, Bool.not_false, wn_ite, gT2, gT3, neV_tup, eqV_tup, in_tup, notin_tup', lineN_eq, Nat.reduceAdd, Nat.reduceLeDiff, Nat.zero_le, true_and, and_true, List.map_nil, List.map_cons, exists_eq_left', Option.some.injEq, PyData.list.injEq, exists_eq_left, PyData.int.injEq, R.ok.injEq, Sl.own.injEq]
  refine names_w hk h0 h1 fun names kx1 hk1 hn _ => ?_
  refine every_w hn fun es hes les => ?_
  simp only [wn_ok, wn_some, wn_only, wn_noex, wn_e2, wn_e1, wn_eN, wn_a0, wn_aC, wn_call, wn_tb, wn_tup, wn_lst, wn_andB, wn_orB, wn_notB, wn_andV, wn_orV, wn_notV, wn_ifV, wn_iA, wn_iR1, wn_iR2, wn_iZ, wn_iEn, wn_iRR, wn_sl, wn_p0, wn_p1, wn_up, wn_upB, wn_upI, wn_x2, wn_x0, wn_xC, wn_xN, wn_xb, wn_xAnd, wn_xOr, wn_xNot, wn_xIf, wn_xCall, wn_xR1, wn_xR2, sn_nx, sn_rt, sn_bk, sn_ct, sn_seq, sn_set, sn_ret, sn_expr, sn_if, sn_for, sn_xSet, sn_xRet, sn_xExpr, sn_xIf, sn_xFor, sn_asg, sn_xAsg, sn_own, sn_xOwn, gv_zero, gv_succ, go_own, go_dat, go_succ, k0_def, gN_def, tru_bool, tru_none, tru_int, tru_list, asSeq_list, asSeq_tup, addV_int, subV_int, ltA_i, leA_i, gtA_i, geA_i, negV_int, intV_int, lenV_list, lenV_tup, ixV_list, ixV_tup, asInt_int, slV_list, slV_tup, slL_list, revV_tup, revV_list, tupleV_list, listV_list, listV_tup, eqV_str, neV_str, eqV_int, List.set_cons_zero, List.set_cons_succ, List.getElem?_cons_zero, List.getElem?_cons_succ, List.length_cons, List.length_nil, ↓reduceIte, Bool.false_eq_true, Bool.not_true, Bool.not_false, wn_ite, gT2, gT3, neV_tup, eqV_tup, in_tup, notin_tup', lineN_eq, Nat.reduceAdd, Nat.reduceLeDiff, Nat.zero_le, true_and, and_true, List.map_nil, List.map_cons, exists_eq_left', Option.some.injEq, PyData.list.injEq, exists_eq_left, PyData.int.injEq, R.ok.injEq, Sl.own.injEq]
  refine wn_callK rfl ?_
  simp only [wn_ok, wn_some, wn_only, wn_noex, wn_e2, wn_e1, wn_eN, wn_a0, wn_aC, wn_call, wn_tb, wn_tup, wn_lst, wn_andB, wn_orB, wn_notB, wn_andV, wn_orV, wn_notV, wn_ifV, wn_iA, wn_iR1, wn_iR2, wn_iZ, wn_iEn, wn_iRR, wn_sl, wn_p0, wn_p1, wn_up, wn_upB, wn_upI, wn_x2, wn_x0, wn_xC, wn_xN, wn_xb, wn_xAnd, wn_xOr, wn_xNot, wn_xIf, wn_xCall, wn_xR1, wn_xR2, sn_nx, sn_rt, sn_bk, sn_ct, sn_seq, sn_set, sn_ret, sn_expr, sn_if, sn_for, sn_xSet, sn_xRet, sn_xExpr, sn_xIf, sn_xFor, sn_asg, sn_xAsg, sn_own, sn_xOwn, gv_zero, gv_succ, go_own, go_dat, go_succ, k0_def, gN_def, tru_bool, tru_none, tru_int, tru_list, asSeq_list, asSeq_tup, addV_int, subV_int, ltA_i, leA_i, gtA_i, geA_i, negV_int, intV_int, lenV_list, lenV_tup, ixV_list, ixV_tup, asInt_int, slV_list, slV_tup, slL_list, revV_tup, revV_list, tupleV_list, listV_list, listV_tup, eqV_str, neV_str, eqV_int, List.set_cons_zero, List.set_cons_succ, List.getElem?_cons_zero, List.getElem?_cons_succ, List.length_cons, List.length_nil, ↓reduceIte, Bool.false_eq_true, Bool.not_true, Bool.not_false, wn_ite, gT2, gT3, neV_tup, eqV_tup, in_tup, notin_tup', lineN_eq, Nat.reduceAdd, Nat.reduceLeDiff, Nat.zero_le, true_and, and_true, List.map_nil, List.map_cons, exists_eq_left', Option.some.injEq, PyData.list.injEq, exists_eq_left, PyData.int.injEq, R.ok.injEq, Sl.own.injEq]
  refine wn_draw hk1 (by omega) fun n kx2 hk2 n0 n1 => ?_
  simp only [wn_ok, wn_some, wn_only, wn_noex, wn_e2, wn_e1, wn_eN, wn_a0, wn_aC, wn_call, wn_tb, wn_tup, wn_lst, wn_andB, wn_orB, wn_notB, wn_andV, wn_orV, wn_notV, wn_ifV, wn_iA, wn_iR1, wn_iR2, wn_iZ, wn_iEn, wn_iRR, wn_sl, wn_p0, wn_p1, wn_up, wn_upB, wn_upI, wn_x2, wn_x0, wn_xC, wn_xN, wn_xb, wn_xAnd, wn_xOr, wn_xNot, wn_xIf, wn_xCall, wn_xR1, wn_xR2, sn_nx, sn_rt, sn_bk, sn_ct, sn_seq, sn_set, sn_ret, sn_expr, sn_if, sn_for, sn_xSet, sn_xRet, sn_xExpr, sn_xIf, sn_xFor, sn_asg, sn_xAsg, sn_own, sn_xOwn, gv_zero, gv_succ, go_own, go_dat, go_succ, k0_def, gN_def, tru_bool, tru_none, tru_int, tru_list, asSeq_list, asSeq_tup, addV_int, subV_int, ltA_i, leA_i, gtA_i, geA_i, negV_int, intV_int, lenV_list, lenV_tup, ixV_list, ixV_tup, asInt_int, slV_list, slV_tup, slL_list, revV_tup, revV_list, tupleV_list, listV_list, listV_tup, eqV_str, neV_str, eqV_int, List.set_cons_zero, List.set_cons_succ, List.getElem?_cons_zero, List.getElem?_cons_succ, List.length_cons, List.length_nil, ↓reduceIte, Bool.false_eq_true, Bool.not_true, Bool.not_false, wn_ite, gT2, gT3, neV_tup, eqV_tup, in_tup, notin_tup', lineN_eq, Nat.reduceAdd, Nat.reduceLeDiff, Nat.zero_le, true_and, and_true, List.map_nil, List.map_cons, exists_eq_left', Option.some.injEq, PyData.list.injEq, exists_eq_left, PyData.int.injEq, R.ok.injEq, Sl.own.injEq]
  rw [wn_rng1 (by omega) (by omega)]
  refine sn_loop (fun rest η => ∃ (os : List Row) (kx' : List D) (s5 s6 s7 s8 : Sl), Dk.Deck kx' ∧ Ordr os ∧ os.length + rest.length ≤ steps.toNat ∧
      η = [.own ⟨false, kx'⟩, .d (.int most), .d (.int steps), .d (.list (es.map tupI)), .own ⟨true, os.map tupI⟩, s5, s6, s7, s8]) ?_ ?_ _ _ ⟨[], kx2, .no, .no, .no, .no, hk2, .nil, ?_, rfl⟩
  · rintro x rest η ⟨os, kx', s5, s6, s7, s8, hk', ho, hz, rfl⟩
    rw [List.length_cons] at hz
    have hos := ho.smp
    refine ⟨_, rfl, ?_⟩
    simp only [wn_ok, wn_some, wn_only, wn_noex, wn_e2, wn_e1, wn_eN, wn_a0, wn_aC, wn_call, wn_tb, wn_tup, wn_lst, wn_andB, wn_orB, wn_notB, wn_andV, wn_orV, wn_notV, wn_ifV, wn_iA, wn_iR1, wn_iR2, wn_iZ, wn_iEn, wn_iRR, wn_sl, wn_p0, wn_p1, wn_up, wn_upB, wn_upI, wn_x2, wn_x0, wn_xC, wn_xN, wn_xb, wn_xAnd, wn_xOr, wn_xNot, wn_xIf, wn_xCall, wn_xR1, wn_xR2, sn_nx, sn_rt, sn_bk, sn_ct, sn_seq, sn_set, sn_ret, sn_expr, sn_if, sn_for, sn_xSet, sn_xRet, sn_xExpr, sn_xIf, sn_xFor, sn_asg, sn_xAsg, sn_own, sn_xOwn, gv_zero, gv_succ, go_own, go_dat, go_succ, k0_def, gN_def, tru_bool, tru_none, tru_int, tru_list, asSeq_list, asSeq_tup, addV_int, subV_int, ltA_i, leA_i, gtA_i, geA_i, negV_int, intV_int, lenV_list, lenV_tup, ixV_list, ixV_tup, asInt_int, slV_list, slV_tup, slL_list, revV_tup, revV_list, tupleV_list, listV_list, listV_tup, eqV_str, neV_str, eqV_int, List.set_cons_zero, List.set_cons_succ, List.getElem?_cons_zero, List.getElem?_cons_succ, List.length_cons, List.length_nil, ↓reduceIte, Bool.false_eq_true, Bool.not_true, Bool.not_false, wn_ite, gT2, gT3, neV_tup, eqV_tup, in_tup, notin_tup', lineN_eq, Nat.reduceAdd, Nat.reduceLeDiff, Nat.zero_le, true_and, and_true, List.map_nil, List.map_cons, exists_eq_left', Option.some.injEq, PyData.list.injEq, exists_eq_left, PyData.int.injEq, R.ok.injEq, Sl.own.injEq]
    refine wn_comp (xs := es.map tupI) (nextB os) id (by simp only [wn_ok, wn_some, wn_only, wn_noex, wn_e2, wn_e1, wn_eN, wn_a0, wn_aC, wn_call, wn_tb, wn_tup, wn_lst, wn_andB, wn_orB, wn_notB, wn_andV, wn_orV, wn_notV, wn_ifV, wn_iA, wn_iR1, wn_iR2, wn_iZ, wn_iEn, wn_iRR, wn_sl, wn_p0, wn_p1, wn_up, wn_upB, wn_upI, wn_x2, wn_x0, wn_xC, wn_xN, wn_xb, wn_xAnd, wn_xOr, wn_xNot, wn_xIf, wn_xCall, wn_xR1, wn_xR2, sn_nx, sn_rt, sn_bk, sn_ct, sn_seq, sn_set, sn_ret, sn_expr, sn_if, sn_for, sn_xSet, sn_xRet, sn_xExpr, sn_xIf, sn_xFor, sn_asg, sn_xAsg, sn_own, sn_xOwn, gv_zero, gv_succ, go_own, go_dat, go_succ, k0_def, gN_def, tru_bool, tru_none, tru_int, tru_list, asSeq_list, asSeq_tup, addV_int, subV_int, ltA_i, leA_i, gtA_i, geA_i, negV_int, intV_int, lenV_list, lenV_tup, ixV_list, ixV_tup, asInt_int, slV_list, slV_tup, slL_list, revV_tup, revV_list, tupleV_list, listV_list, listV_tup, eqV_str, neV_str, eqV_int, List.set_cons_zero, List.set_cons_succ, List.getElem?_cons_zero, List.getElem?_cons_succ, List.length_cons, List.length_nil, ↓reduceIte, Bool.false_eq_true, Bool.not_true, Bool.not_false, wn_ite, gT2, gT3, neV_tup, eqV_tup, in_tup, notin_tup', lineN_eq, Nat.reduceAdd, Nat.reduceLeDiff, Nat.zero_le, true_and, and_true, List.map_nil, List.map_cons, exists_eq_left', Option.some.injEq, PyData.list.injEq, exists_eq_left, PyData.int.injEq, R.ok.injEq, Sl.own.injEq]) (fun y m => ?_) (by rw [List.length_map, lineN_eq]; omega) ?_
    · obtain ⟨s, ms, rfl⟩ := List.mem_map.mp m
      have hs := hes s ms
      refine ⟨_, rfl, ?_⟩
      show Wn (andB _ _ [.own ⟨false, kx'⟩, .d (.int most), .d (.int steps), .d (.list (es.map tupI)), .own ⟨true, os.map tupI⟩, .d x, s6, .d (tupI s), s8]) _
      simp only [wn_ok, wn_some, wn_only, wn_noex, wn_e2, wn_e1, wn_eN, wn_a0, wn_aC, wn_call, wn_tb, wn_tup, wn_lst, wn_andB, wn_orB, wn_notB, wn_andV, wn_orV, wn_notV, wn_ifV, wn_iA, wn_iR1, wn_iR2, wn_iZ, wn_iEn, wn_iRR, wn_sl, wn_p0, wn_p1, wn_up, wn_upB, wn_upI, wn_x2, wn_x0, wn_xC, wn_xN, wn_xb, wn_xAnd, wn_xOr, wn_xNot, wn_xIf, wn_xCall, wn_xR1, wn_xR2, sn_nx, sn_rt, sn_bk, sn_ct, sn_seq, sn_set, sn_ret, sn_expr, sn_if, sn_for, sn_xSet, sn_xRet, sn_xExpr, sn_xIf, sn_xFor, sn_asg, sn_xAsg, sn_own, sn_xOwn, gv_zero, gv_succ, go_own, go_dat, go_succ, k0_def, gN_def, tru_bool, tru_none, tru_int, tru_list, asSeq_list, asSeq_tup, addV_int, subV_int, ltA_i, leA_i, gtA_i, geA_i, negV_int, intV_int, lenV_list, lenV_tup, ixV_list, ixV_tup, asInt_int, slV_list, slV_tup, slL_list, revV_tup, revV_list, tupleV_list, listV_list, listV_tup, eqV_str, neV_str, eqV_int, List.set_cons_zero, List.set_cons_succ, List.getElem?_cons_zero, List.getElem?_cons_succ, List.length_cons, List.length_nil, ↓reduceIte, Bool.false_eq_true, Bool.not_true, Bool.not_false, wn_ite, gT2, gT3, neV_tup, eqV_tup, in_tup, notin_tup', lineN_eq, Nat.reduceAdd, Nat.reduceLeDiff, Nat.zero_le, true_and, and_true, List.map_nil, List.map_cons, exists_eq_left', Option.some.injEq, PyData.list.injEq, exists_eq_left, PyData.int.injEq, R.ok.injEq, Sl.own.injEq, nin_rows hos (show os.length ≤ 100 by omega)]
      rw [nextB_tup]
      by_cases c : s ∈ os
      · rw [decide_eq_true c]
        simp only [Bool.not_true, Bool.false_eq_true, ↓reduceIte, Bool.false_and]
        exact ⟨trivial, fun h => nomatch h⟩
      · rw [decide_eq_false c]
        simp only [Bool.not_false, ↓reduceIte, Bool.true_and]
        refine wn_comp (xs := (facesL s).map tupI) (fun _ => true) (fun d => .bool (tupMem os d)) ?_ ?_ ?_ ?_
        · simp only [wn_ok, wn_some, wn_only, wn_noex, wn_e2, wn_e1, wn_eN, wn_a0, wn_aC, wn_call, wn_tb, wn_tup, wn_lst, wn_andB, wn_orB, wn_notB, wn_andV, wn_orV, wn_notV, wn_ifV, wn_iA, wn_iR1, wn_iR2, wn_iZ, wn_iEn, wn_iRR, wn_sl, wn_p0, wn_p1, wn_up, wn_upB, wn_upI, wn_x2, wn_x0, wn_xC, wn_xN, wn_xb, wn_xAnd, wn_xOr, wn_xNot, wn_xIf, wn_xCall, wn_xR1, wn_xR2, sn_nx, sn_rt, sn_bk, sn_ct, sn_seq, sn_set, sn_ret, sn_expr, sn_if, sn_for, sn_xSet, sn_xRet, sn_xExpr, sn_xIf, sn_xFor, sn_asg, sn_xAsg, sn_own, sn_xOwn, gv_zero, gv_succ, go_own, go_dat, go_succ, k0_def, gN_def, tru_bool, tru_none, tru_int, tru_list, asSeq_list, asSeq_tup, addV_int, subV_int, ltA_i, leA_i, gtA_i, geA_i, negV_int, intV_int, lenV_list, lenV_tup, ixV_list, ixV_tup, asInt_int, slV_list, slV_tup, slL_list, revV_tup, revV_list, tupleV_list, listV_list, listV_tup, eqV_str, neV_str, eqV_int, List.set_cons_zero, List.set_cons_succ, List.getElem?_cons_zero, List.getElem?_cons_succ, List.length_cons, List.length_nil, ↓reduceIte, Bool.false_eq_true, Bool.not_true, Bool.not_false, wn_ite, gT2, gT3, neV_tup, eqV_tup, in_tup, notin_tup', lineN_eq, Nat.reduceAdd, Nat.reduceLeDiff, Nat.zero_le, true_and, and_true, List.map_nil, List.map_cons, exists_eq_left', Option.some.injEq, PyData.list.injEq, exists_eq_left, PyData.int.injEq, R.ok.injEq, Sl.own.injEq, lfaces_ok hs]
        · intro z mz
          obtain ⟨f, mf, rfl⟩ := List.mem_map.mp mz
          refine ⟨_, rfl, wn_ok.mpr ⟨rfl, fun _ => ?_⟩⟩
          show Wn (e2 inV' (gv 8) (go 4) [.own ⟨false, kx'⟩, .d (.int most), .d (.int steps), .d (.list (es.map tupI)), .own ⟨true, os.map tupI⟩, .d x, s6, .d (tupI s), .d (tupI f)]) _
          simp only [wn_ok, wn_some, wn_only, wn_noex, wn_e2, wn_e1, wn_eN, wn_a0, wn_aC, wn_call, wn_tb, wn_tup, wn_lst, wn_andB, wn_orB, wn_notB, wn_andV, wn_orV, wn_notV, wn_ifV, wn_iA, wn_iR1, wn_iR2, wn_iZ, wn_iEn, wn_iRR, wn_sl, wn_p0, wn_p1, wn_up, wn_upB, wn_upI, wn_x2, wn_x0, wn_xC, wn_xN, wn_xb, wn_xAnd, wn_xOr, wn_xNot, wn_xIf, wn_xCall, wn_xR1, wn_xR2, sn_nx, sn_rt, sn_bk, sn_ct, sn_seq, sn_set, sn_ret, sn_expr, sn_if, sn_for, sn_xSet, sn_xRet, sn_xExpr, sn_xIf, sn_xFor, sn_asg, sn_xAsg, sn_own, sn_xOwn, gv_zero, gv_succ, go_own, go_dat, go_succ, k0_def, gN_def, tru_bool, tru_none, tru_int, tru_list, asSeq_list, asSeq_tup, addV_int, subV_int, ltA_i, leA_i, gtA_i, geA_i, negV_int, intV_int, lenV_list, lenV_tup, ixV_list, ixV_tup, asInt_int, slV_list, slV_tup, slL_list, revV_tup, revV_list, tupleV_list, listV_list, listV_tup, eqV_str, neV_str, eqV_int, List.set_cons_zero, List.set_cons_succ, List.getElem?_cons_zero, List.getElem?_cons_succ, List.length_cons, List.length_nil, ↓reduceIte, Bool.false_eq_true, Bool.not_true, Bool.not_false, wn_ite, gT2, gT3, neV_tup, eqV_tup, in_tup, notin_tup', lineN_eq, Nat.reduceAdd, Nat.reduceLeDiff, Nat.zero_le, true_and, and_true, List.map_nil, List.map_cons, exists_eq_left', Option.some.injEq, PyData.list.injEq, exists_eq_left, PyData.int.injEq, R.ok.injEq, Sl.own.injEq, in_rows hos (show os.length ≤ 100 by omega), tupMem_tup]
        · have := facesL_len hs
          rw [List.length_map, lineN_eq]
          omega
        · have e : (((facesL s).map tupI).filter fun _ => true).map (fun d => PyData.bool (tupMem os d)) = ((facesL s).map fun f => decide (f ∈ os)).map PyData.bool := by
            rw [List.filter_eq_self.mpr fun _ _ => rfl, List.map_map, List.map_map]
            apply List.map_congr_left
            intro f _
            show PyData.bool (tupMem os (tupI f)) = _
            rw [tupMem_tup]
            rfl
          simp only [wn_ok, wn_some, wn_only, wn_noex, wn_e2, wn_e1, wn_eN, wn_a0, wn_aC, wn_call, wn_tb, wn_tup, wn_lst, wn_andB, wn_orB, wn_notB, wn_andV, wn_orV, wn_notV, wn_ifV, wn_iA, wn_iR1, wn_iR2, wn_iZ, wn_iEn, wn_iRR, wn_sl, wn_p0, wn_p1, wn_up, wn_upB, wn_upI, wn_x2, wn_x0, wn_xC, wn_xN, wn_xb, wn_xAnd, wn_xOr, wn_xNot, wn_xIf, wn_xCall, wn_xR1, wn_xR2, sn_nx, sn_rt, sn_bk, sn_ct, sn_seq, sn_set, sn_ret, sn_expr, sn_if, sn_for, sn_xSet, sn_xRet, sn_xExpr, sn_xIf, sn_xFor, sn_asg, sn_xAsg, sn_own, sn_xOwn, gv_zero, gv_succ, go_own, go_dat, go_succ, k0_def, gN_def, tru_bool, tru_none, tru_int, tru_list, asSeq_list, asSeq_tup, addV_int, subV_int, ltA_i, leA_i, gtA_i, geA_i, negV_int, intV_int, lenV_list, lenV_tup, ixV_list, ixV_tup, asInt_int, slV_list, slV_tup, slL_list, revV_tup, revV_list, tupleV_list, listV_list, listV_tup, eqV_str, neV_str, eqV_int, List.set_cons_zero, List.set_cons_succ, List.getElem?_cons_zero, List.getElem?_cons_succ, List.length_cons, List.length_nil, ↓reduceIte, Bool.false_eq_true, Bool.not_true, Bool.not_false, wn_ite, gT2, gT3, neV_tup, eqV_tup, in_tup, notin_tup', lineN_eq, Nat.reduceAdd, Nat.reduceLeDiff, Nat.zero_le, true_and, and_true, List.map_nil, List.map_cons, exists_eq_left', Option.some.injEq, PyData.list.injEq, exists_eq_left, PyData.int.injEq, R.ok.injEq, Sl.own.injEq, e, all_bools]
          refine ⟨?_, fun _ => Wn.mk rfl rfl⟩
          rw [List.all_map]
          rfl
    · have e : ((es.map tupI).filter (nextB os)).map id = (es.filter fun s => !decide (s ∈ os) && (facesL s).all fun f => decide (f ∈ os)).map tupI := by
        rw [List.map_id, List.filter_map]
        congr 1
        apply List.filter_congr
        intro s _
        exact nextB_tup os s
      rw [e]
      have sp : ∀ s ∈ (es.filter fun s => !decide (s ∈ os) && (facesL s).all fun f => decide (f ∈ os)), Smp s ∧ s ∉ os ∧ ∀ f ∈ facesL s, f ∈ os := fun s m => by
        obtain ⟨m1, m2⟩ := List.mem_filter.mp m
        rw [Bool.and_eq_true, Bool.not_eq_true', decide_eq_false_iff_not, List.all_eq_true] at m2
        exact ⟨hes s m1, m2.1, fun f mf => of_decide_eq_true (m2.2 f mf)⟩
      have rl : (es.filter fun s => !decide (s ∈ os) && (facesL s).all fun f => decide (f ∈ os)).length ≤ 4000 := Nat.le_trans (List.length_filter_le _ _) les
      generalize (es.filter fun s => !decide (s ∈ os) && (facesL s).all fun f => decide (f ∈ os)) = ready at sp rl
      simp only [wn_ok, wn_some, wn_only, wn_noex, wn_e2, wn_e1, wn_eN, wn_a0, wn_aC, wn_call, wn_tb, wn_tup, wn_lst, wn_andB, wn_orB, wn_notB, wn_andV, wn_orV, wn_notV, wn_ifV, wn_iA, wn_iR1, wn_iR2, wn_iZ, wn_iEn, wn_iRR, wn_sl, wn_p0, wn_p1, wn_up, wn_upB, wn_upI, wn_x2, wn_x0, wn_xC, wn_xN, wn_xb, wn_xAnd, wn_xOr, wn_xNot, wn_xIf, wn_xCall, wn_xR1, wn_xR2, sn_nx, sn_rt, sn_bk, sn_ct, sn_seq, sn_set, sn_ret, sn_expr, sn_if, sn_for, sn_xSet, sn_xRet, sn_xExpr, sn_xIf, sn_xFor, sn_asg, sn_xAsg, sn_own, sn_xOwn, gv_zero, gv_succ, go_own, go_dat, go_succ, k0_def, gN_def, tru_bool, tru_none, tru_int, tru_list, asSeq_list, asSeq_tup, addV_int, subV_int, ltA_i, leA_i, gtA_i, geA_i, negV_int, intV_int, lenV_list, lenV_tup, ixV_list, ixV_tup, asInt_int, slV_list, slV_tup, slL_list, revV_tup, revV_list, tupleV_list, listV_list, listV_tup, eqV_str, neV_str, eqV_int, List.set_cons_zero, List.set_cons_succ, List.getElem?_cons_zero, List.getElem?_cons_succ, List.length_cons, List.length_nil, ↓reduceIte, Bool.false_eq_true, Bool.not_true, Bool.not_false, wn_ite, gT2, gT3, neV_tup, eqV_tup, in_tup, notin_tup', lineN_eq, Nat.reduceAdd, Nat.reduceLeDiff, Nat.zero_le, true_and, and_true, List.map_nil, List.map_cons, exists_eq_left', Option.some.injEq, PyData.list.injEq, exists_eq_left, PyData.int.injEq, R.ok.injEq, Sl.own.injEq]
      cases ready with
      | nil =>
        simp only [List.map_nil, List.isEmpty_nil, Bool.not_true, Bool.false_eq_true, ↓reduceIte]
        exact ⟨os, kx', _, _, s7, s8, hk', ho, by omega, rfl⟩
      | cons r ready =>
        simp only [List.map_cons, List.isEmpty_cons, Bool.not_false, ↓reduceIte]
        refine sn_xApp (o := ⟨true, os.map tupI⟩) rfl ?_
        simp only [wn_ok, wn_some, wn_only, wn_noex, wn_e2, wn_e1, wn_eN, wn_a0, wn_aC, wn_call, wn_tb, wn_tup, wn_lst, wn_andB, wn_orB, wn_notB, wn_andV, wn_orV, wn_notV, wn_ifV, wn_iA, wn_iR1, wn_iR2, wn_iZ, wn_iEn, wn_iRR, wn_sl, wn_p0, wn_p1, wn_up, wn_upB, wn_upI, wn_x2, wn_x0, wn_xC, wn_xN, wn_xb, wn_xAnd, wn_xOr, wn_xNot, wn_xIf, wn_xCall, wn_xR1, wn_xR2, sn_nx, sn_rt, sn_bk, sn_ct, sn_seq, sn_set, sn_ret, sn_expr, sn_if, sn_for, sn_xSet, sn_xRet, sn_xExpr, sn_xIf, sn_xFor, sn_asg, sn_xAsg, sn_own, sn_xOwn, gv_zero, gv_succ, go_own, go_dat, go_succ, k0_def, gN_def, tru_bool, tru_none, tru_int, tru_list, asSeq_list, asSeq_tup, addV_int, subV_int, ltA_i, leA_i, gtA_i, geA_i, negV_int, intV_int, lenV_list, lenV_tup, ixV_list, ixV_tup, asInt_int, slV_list, slV_tup, slL_list, revV_tup, revV_list, tupleV_list, listV_list, listV_tup, eqV_str, neV_str, eqV_int, List.set_cons_zero, List.set_cons_succ, List.getElem?_cons_zero, List.getElem?_cons_succ, List.length_cons, List.length_nil, ↓reduceIte, Bool.false_eq_true, Bool.not_true, Bool.not_false, wn_ite, gT2, gT3, neV_tup, eqV_tup, in_tup, notin_tup', lineN_eq, Nat.reduceAdd, Nat.reduceLeDiff, Nat.zero_le, true_and, and_true, List.map_nil, List.map_cons, exists_eq_left', Option.some.injEq, PyData.list.injEq, exists_eq_left, PyData.int.injEq, R.ok.injEq, Sl.own.injEq]
        refine wn_callK rfl ?_
        simp only [wn_ok, wn_some, wn_only, wn_noex, wn_e2, wn_e1, wn_eN, wn_a0, wn_aC, wn_call, wn_tb, wn_tup, wn_lst, wn_andB, wn_orB, wn_notB, wn_andV, wn_orV, wn_notV, wn_ifV, wn_iA, wn_iR1, wn_iR2, wn_iZ, wn_iEn, wn_iRR, wn_sl, wn_p0, wn_p1, wn_up, wn_upB, wn_upI, wn_x2, wn_x0, wn_xC, wn_xN, wn_xb, wn_xAnd, wn_xOr, wn_xNot, wn_xIf, wn_xCall, wn_xR1, wn_xR2, sn_nx, sn_rt, sn_bk, sn_ct, sn_seq, sn_set, sn_ret, sn_expr, sn_if, sn_for, sn_xSet, sn_xRet, sn_xExpr, sn_xIf, sn_xFor, sn_asg, sn_xAsg, sn_own, sn_xOwn, gv_zero, gv_succ, go_own, go_dat, go_succ, k0_def, gN_def, tru_bool, tru_none, tru_int, tru_list, asSeq_list, asSeq_tup, addV_int, subV_int, ltA_i, leA_i, gtA_i, geA_i, negV_int, intV_int, lenV_list, lenV_tup, ixV_list, ixV_tup, asInt_int, slV_list, slV_tup, slL_list, revV_tup, revV_list, tupleV_list, listV_list, listV_tup, eqV_str, neV_str, eqV_int, List.set_cons_zero, List.set_cons_succ, List.getElem?_cons_zero, List.getElem?_cons_succ, List.length_cons, List.length_nil, ↓reduceIte, Bool.false_eq_true, Bool.not_true, Bool.not_false, wn_ite, gT2, gT3, neV_tup, eqV_tup, in_tup, notin_tup', lineN_eq, Nat.reduceAdd, Nat.reduceLeDiff, Nat.zero_le, true_and, and_true, List.map_nil, List.map_cons, exists_eq_left', Option.some.injEq, PyData.list.injEq, exists_eq_left, PyData.int.injEq, R.ok.injEq, Sl.own.injEq, List.length_map]
        refine wn_draw hk' (by rw [List.length_cons] at rl; omega) fun j kx3 hk3 j0 j1 => ?_
        have jl : j.toNat < (r :: ready).length := by rw [List.length_cons]; omega
        have aj : atD (tupI r :: ready.map tupI) j = some (tupI (r :: ready)[j.toNat]) := atD_nat j0 (by
          show ((r :: ready).map tupI)[j.toNat]? = _
          rw [List.getElem?_map, List.getElem?_eq_getElem jl]
          rfl)
        simp only [wn_ok, wn_some, wn_only, wn_noex, wn_e2, wn_e1, wn_eN, wn_a0, wn_aC, wn_call, wn_tb, wn_tup, wn_lst, wn_andB, wn_orB, wn_notB, wn_andV, wn_orV, wn_notV, wn_ifV, wn_iA, wn_iR1, wn_iR2, wn_iZ, wn_iEn, wn_iRR, wn_sl, wn_p0, wn_p1, wn_up, wn_upB, wn_upI, wn_x2, wn_x0, wn_xC, wn_xN, wn_xb, wn_xAnd, wn_xOr, wn_xNot, wn_xIf, wn_xCall, wn_xR1, wn_xR2, sn_nx, sn_rt, sn_bk, sn_ct, sn_seq, sn_set, sn_ret, sn_expr, sn_if, sn_for, sn_xSet, sn_xRet, sn_xExpr, sn_xIf, sn_xFor, sn_asg, sn_xAsg, sn_own, sn_xOwn, gv_zero, gv_succ, go_own, go_dat, go_succ, k0_def, gN_def, tru_bool, tru_none, tru_int, tru_list, asSeq_list, asSeq_tup, addV_int, subV_int, ltA_i, leA_i, gtA_i, geA_i, negV_int, intV_int, lenV_list, lenV_tup, ixV_list, ixV_tup, asInt_int, slV_list, slV_tup, slL_list, revV_tup, revV_list, tupleV_list, listV_list, listV_tup, eqV_str, neV_str, eqV_int, List.set_cons_zero, List.set_cons_succ, List.getElem?_cons_zero, List.getElem?_cons_succ, List.length_cons, List.length_nil, ↓reduceIte, Bool.false_eq_true, Bool.not_true, Bool.not_false, wn_ite, gT2, gT3, neV_tup, eqV_tup, in_tup, notin_tup', lineN_eq, Nat.reduceAdd, Nat.reduceLeDiff, Nat.zero_le, true_and, and_true, List.map_nil, List.map_cons, exists_eq_left', Option.some.injEq, PyData.list.injEq, exists_eq_left, PyData.int.injEq, R.ok.injEq, Sl.own.injEq, aj, List.length_map]
        obtain ⟨p1, p2, p3⟩ := sp _ (List.getElem_mem jl)
        refine ⟨by omega, os ++ [(r :: ready)[j.toNat]], kx3, _, _, s7, s8, hk3, ho.snoc p1 p2 p3, by rw [List.length_append, List.length_singleton]; omega, by rw [List.map_append]; rfl⟩
  · rintro η ⟨os, kx', s5, s6, s7, s8, hk', ho, hz, rfl⟩
    refine sn_frz (xs := os.map tupI) rfl ?_
    simp only [wn_ok, wn_some, wn_only, wn_noex, wn_e2, wn_e1, wn_eN, wn_a0, wn_aC, wn_call, wn_tb, wn_tup, wn_lst, wn_andB, wn_orB, wn_notB, wn_andV, wn_orV, wn_notV, wn_ifV, wn_iA, wn_iR1, wn_iR2, wn_iZ, wn_iEn, wn_iRR, wn_sl, wn_p0, wn_p1, wn_up, wn_upB, wn_upI, wn_x2, wn_x0, wn_xC, wn_xN, wn_xb, wn_xAnd, wn_xOr, wn_xNot, wn_xIf, wn_xCall, wn_xR1, wn_xR2, sn_nx, sn_rt, sn_bk, sn_ct, sn_seq, sn_set, sn_ret, sn_expr, sn_if, sn_for, sn_xSet, sn_xRet, sn_xExpr, sn_xIf, sn_xFor, sn_asg, sn_xAsg, sn_own, sn_xOwn, gv_zero, gv_succ, go_own, go_dat, go_succ, k0_def, gN_def, tru_bool, tru_none, tru_int, tru_list, asSeq_list, asSeq_tup, addV_int, subV_int, ltA_i, leA_i, gtA_i, geA_i, negV_int, intV_int, lenV_list, lenV_tup, ixV_list, ixV_tup, asInt_int, slV_list, slV_tup, slL_list, revV_tup, revV_list, tupleV_list, listV_list, listV_tup, eqV_str, neV_str, eqV_int, List.set_cons_zero, List.set_cons_succ, List.getElem?_cons_zero, List.getElem?_cons_succ, List.length_cons, List.length_nil, ↓reduceIte, Bool.false_eq_true, Bool.not_true, Bool.not_false, wn_ite, gT2, gT3, neV_tup, eqV_tup, in_tup, notin_tup', lineN_eq, Nat.reduceAdd, Nat.reduceLeDiff, Nat.zero_le, true_and, and_true, List.map_nil, List.map_cons, exists_eq_left', Option.some.injEq, PyData.list.injEq, exists_eq_left, PyData.int.injEq, R.ok.injEq, Sl.own.injEq]
    exact ⟨kx', rfl, k os kx' hk' ho (by simp at hz; omega)⟩
  · unfold rangeD
    rw [List.length_map, List.length_range]
    simp
    omega
/-- positions of simplices of one size -/
structure Chn (os : List Row) (size : Nat) (l : Row) : Prop where
  asc : Asc l
  at_ : ∀ p ∈ l, 0 ≤ p ∧ ∃ s, os[p.toNat]? = some s ∧ s.length = size
theorem Chn.lt {os : List Row} {size : Nat} {l : Row} (h : Chn os size l) : ∀ p ∈ l, 0 ≤ p ∧ p < (os.length : Int) := fun p m => by
  obtain ⟨h0, s, e, _⟩ := h.at_ p m
  have := (List.getElem?_eq_some_iff.mp e).1
  omega
theorem Chn.inU {os : List Row} {size : Nat} {l : Row} (h : Chn os size l) : InU (Pg.uptoI os.length) l := ⟨h.asc, fun p m => by
  have := h.lt p m
  exact List.mem_map.mpr ⟨p.toNat, List.mem_range.mpr (by omega), by omega⟩⟩
theorem chain_w {kx : List D} {os : List Row} {size : Int} {QK : D × List D → Prop} (hk : Dk.Deck kx) (hl : os.length ≤ 100) (h0 : 0 ≤ size) (k : ∀ (l : Row) kx', Dk.Deck kx' → Chn os size.toNat l → QK (tupI l, kx')) : Wn (F__law_chain kx [.list (os.map tupI), .int size]) QK := by
  refine wn_runK ?_
  show Sn (G__law_chain [.own ⟨false, kx⟩, .d (.list (os.map tupI)), .d (.int size), .no]) _ _ _ _
  unfold G__law_chain
  simp only [wn_ok, wn_some, wn_only, wn_noex, wn_e2, wn_e1, wn_eN, wn_a0, wn_aC, wn_call, wn_tb, wn_tup, wn_lst, wn_andB, wn_orB, wn_notB, wn_andV, wn_orV, wn_notV, wn_ifV, wn_iA, wn_iR1, wn_iR2, wn_iZ, wn_iEn, wn_iRR, wn_sl, wn_p0, wn_p1, wn_up, wn_upB, wn_upI, wn_x2, wn_x0, wn_xC, wn_xN, wn_xb, wn_xAnd, wn_xOr, wn_xNot, wn_xIf, wn_xCall, wn_xR1, wn_xR2, sn_nx, sn_rt, sn_bk, sn_ct, sn_seq, sn_set, sn_ret, sn_expr, sn_if, sn_for, sn_xSet, sn_xRet, sn_xExpr, sn_xIf, sn_xFor, sn_asg, sn_xAsg, sn_own, sn_xOwn, gv_zero, gv_succ, go_own, go_dat, go_succ, k0_def, gN_def, tru_bool, tru_none, tru_int, tru_list, asSeq_list, asSeq_tup, addV_int, subV_int, ltA_i, leA_i, gtA_i, geA_i, negV_int, intV_int, lenV_list, lenV_tup, ixV_list, ixV_tup, asInt_int, slV_list, slV_tup, slL_list, revV_tup, revV_list, tupleV_list, listV_list, listV_tup, eqV_str, neV_str, eqV_int, List.set_cons_zero, List.set_cons_succ, List.getElem?_cons_zero, List.getElem?_cons_succ, List.length_cons, List.length_nil, ↓reduceIte, Bool.false_eq_true, Bool.not_true, Bool.not_false, wn_ite, gT2, gT3, neV_tup, eqV_tup, in_tup, notin_tup', lineN_eq, Nat.reduceAdd, Nat.reduceLeDiff, Nat.zero_le, true_and, and_true, List.map_nil, List.map_cons, exists_eq_left', Option.some.injEq, PyData.list.injEq, exists_eq_left, PyData.int.injEq, R.ok.injEq, Sl.own.injEq]
  refine wn_xComp (fun rest acc η => ∃ (l : List Nat) (ys : Row) (kx' : List D), Dk.Deck kx' ∧ rest = l.map (fun i : Nat => PyData.int (i : Nat)) ∧ acc = ys.map PyData.int ∧ l.Pairwise (· < ·) ∧ (∀ i ∈ l, i < os.length) ∧ (∀ y ∈ ys, ∀ i ∈ l, y < (i : Int)) ∧ Chn os size.toNat ys ∧
      η = [.own ⟨false, kx'⟩, .d (.list (os.map tupI)), .d (.int size), .no]) ?_ ?_ ?_
  · simp only [wn_ok, wn_some, wn_only, wn_noex, wn_e2, wn_e1, wn_eN, wn_a0, wn_aC, wn_call, wn_tb, wn_tup, wn_lst, wn_andB, wn_orB, wn_notB, wn_andV, wn_orV, wn_notV, wn_ifV, wn_iA, wn_iR1, wn_iR2, wn_iZ, wn_iEn, wn_iRR, wn_sl, wn_p0, wn_p1, wn_up, wn_upB, wn_upI, wn_x2, wn_x0, wn_xC, wn_xN, wn_xb, wn_xAnd, wn_xOr, wn_xNot, wn_xIf, wn_xCall, wn_xR1, wn_xR2, sn_nx, sn_rt, sn_bk, sn_ct, sn_seq, sn_set, sn_ret, sn_expr, sn_if, sn_for, sn_xSet, sn_xRet, sn_xExpr, sn_xIf, sn_xFor, sn_asg, sn_xAsg, sn_own, sn_xOwn, gv_zero, gv_succ, go_own, go_dat, go_succ, k0_def, gN_def, tru_bool, tru_none, tru_int, tru_list, asSeq_list, asSeq_tup, addV_int, subV_int, ltA_i, leA_i, gtA_i, geA_i, negV_int, intV_int, lenV_list, lenV_tup, ixV_list, ixV_tup, asInt_int, slV_list, slV_tup, slL_list, revV_tup, revV_list, tupleV_list, listV_list, listV_tup, eqV_str, neV_str, eqV_int, List.set_cons_zero, List.set_cons_succ, List.getElem?_cons_zero, List.getElem?_cons_succ, List.length_cons, List.length_nil, ↓reduceIte, Bool.false_eq_true, Bool.not_true, Bool.not_false, wn_ite, gT2, gT3, neV_tup, eqV_tup, in_tup, notin_tup', lineN_eq, Nat.reduceAdd, Nat.reduceLeDiff, Nat.zero_le, true_and, and_true, List.map_nil, List.map_cons, exists_eq_left', Option.some.injEq, PyData.list.injEq, exists_eq_left, PyData.int.injEq, R.ok.injEq, Sl.own.injEq, List.length_map]
    refine (wn_rng1 (by omega) (by omega)).mpr ?_
    rw [range_up, Int.toNat_natCast]
    exact ⟨List.range os.length, [], kx, hk, by rw [List.map_map]; rfl, rfl, List.pairwise_lt_range, fun i m => List.mem_range.mp m, fun y m => absurd m List.not_mem_nil, ⟨.nil, fun y m => absurd m List.not_mem_nil⟩, rfl⟩
  · rintro x rest acc η ⟨l, ys, kx', hk', e1, rfl, hp, hlt, hy, hc, rfl⟩
    cases l with
    | nil => cases e1
    | cons i l =>
      rw [List.map_cons] at e1
      obtain ⟨rfl, rfl⟩ := List.cons.inj e1
      obtain ⟨hp1, hp2⟩ := List.pairwise_cons.mp hp
      have il := hlt i List.mem_cons_self
      have gi : os[i]? = some os[i] := List.getElem?_eq_getElem il
      have ai : atD (os.map tupI) (i : Int) = some (tupI os[i]) := atD_nat (by omega) (by rw [Int.toNat_natCast, List.getElem?_map, gi]; rfl)
      have ln : lenV [tupI os[i]] = some (.int (os[i].length : Nat)) := by
        show some (PyData.int ((os[i].map PyData.int).length : Nat)) = _
        rw [List.length_map]
      have hlt' : ∀ i ∈ l, i < os.length := fun q mq => hlt q (List.mem_cons_of_mem _ mq)
      refine ⟨_, rfl, ?_⟩
      simp only [wn_ok, wn_some, wn_only, wn_noex, wn_e2, wn_e1, wn_eN, wn_a0, wn_aC, wn_call, wn_tb, wn_tup, wn_lst, wn_andB, wn_orB, wn_notB, wn_andV, wn_orV, wn_notV, wn_ifV, wn_iA, wn_iR1, wn_iR2, wn_iZ, wn_iEn, wn_iRR, wn_sl, wn_p0, wn_p1, wn_up, wn_upB, wn_upI, wn_x2, wn_x0, wn_xC, wn_xN, wn_xb, wn_xAnd, wn_xOr, wn_xNot, wn_xIf, wn_xCall, wn_xR1, wn_xR2, sn_nx, sn_rt, sn_bk, sn_ct, sn_seq, sn_set, sn_ret, sn_expr, sn_if, sn_for, sn_xSet, sn_xRet, sn_xExpr, sn_xIf, sn_xFor, sn_asg, sn_xAsg, sn_own, sn_xOwn, gv_zero, gv_succ, go_own, go_dat, go_succ, k0_def, gN_def, tru_bool, tru_none, tru_int, tru_list, asSeq_list, asSeq_tup, addV_int, subV_int, ltA_i, leA_i, gtA_i, geA_i, negV_int, intV_int, lenV_list, lenV_tup, ixV_list, ixV_tup, asInt_int, slV_list, slV_tup, slL_list, revV_tup, revV_list, tupleV_list, listV_list, listV_tup, eqV_str, neV_str, eqV_int, List.set_cons_zero, List.set_cons_succ, List.getElem?_cons_zero, List.getElem?_cons_succ, List.length_cons, List.length_nil, ↓reduceIte, Bool.false_eq_true, Bool.not_true, Bool.not_false, wn_ite, gT2, gT3, neV_tup, eqV_tup, in_tup, notin_tup', lineN_eq, Nat.reduceAdd, Nat.reduceLeDiff, Nat.zero_le, true_and, and_true, List.map_nil, List.map_cons, exists_eq_left', Option.some.injEq, PyData.list.injEq, exists_eq_left, PyData.int.injEq, R.ok.injEq, Sl.own.injEq, ai, ln]
      cases hb : ((os[i].length : Int) == size) with
      | false =>
        simp only [Bool.false_eq_true, ↓reduceIte]
        exact ⟨l, ys, kx', hk', rfl, rfl, hp2, hlt', fun y m q mq => hy y m q (List.mem_cons_of_mem _ mq), hc, rfl⟩
      | true =>
        simp only [↓reduceIte]
        refine wn_drw (b := 2) rfl hk' (by decide) fun j kx2 hk2 _ _ => ?_
        simp only [wn_ok, wn_some, wn_only, wn_noex, wn_e2, wn_e1, wn_eN, wn_a0, wn_aC, wn_call, wn_tb, wn_tup, wn_lst, wn_andB, wn_orB, wn_notB, wn_andV, wn_orV, wn_notV, wn_ifV, wn_iA, wn_iR1, wn_iR2, wn_iZ, wn_iEn, wn_iRR, wn_sl, wn_p0, wn_p1, wn_up, wn_upB, wn_upI, wn_x2, wn_x0, wn_xC, wn_xN, wn_xb, wn_xAnd, wn_xOr, wn_xNot, wn_xIf, wn_xCall, wn_xR1, wn_xR2, sn_nx, sn_rt, sn_bk, sn_ct, sn_seq, sn_set, sn_ret, sn_expr, sn_if, sn_for, sn_xSet, sn_xRet, sn_xExpr, sn_xIf, sn_xFor, sn_asg, sn_xAsg, sn_own, sn_xOwn, gv_zero, gv_succ, go_own, go_dat, go_succ, k0_def, gN_def, tru_bool, tru_none, tru_int, tru_list, asSeq_list, asSeq_tup, addV_int, subV_int, ltA_i, leA_i, gtA_i, geA_i, negV_int, intV_int, lenV_list, lenV_tup, ixV_list, ixV_tup, asInt_int, slV_list, slV_tup, slL_list, revV_tup, revV_list, tupleV_list, listV_list, listV_tup, eqV_str, neV_str, eqV_int, List.set_cons_zero, List.set_cons_succ, List.getElem?_cons_zero, List.getElem?_cons_succ, List.length_cons, List.length_nil, ↓reduceIte, Bool.false_eq_true, Bool.not_true, Bool.not_false, wn_ite, gT2, gT3, neV_tup, eqV_tup, in_tup, notin_tup', lineN_eq, Nat.reduceAdd, Nat.reduceLeDiff, Nat.zero_le, true_and, and_true, List.map_nil, List.map_cons, exists_eq_left', Option.some.injEq, PyData.list.injEq, exists_eq_left, PyData.int.injEq, R.ok.injEq, Sl.own.injEq]
        cases hb2 : (j == 0) with
        | false =>
          simp only [Bool.false_eq_true, ↓reduceIte]
          exact ⟨l, ys, kx2, hk2, rfl, rfl, hp2, hlt', fun y m q mq => hy y m q (List.mem_cons_of_mem _ mq), hc, rfl⟩
        | true =>
          simp only [↓reduceIte]
          have es : (os[i].length : Int) = size := eq_of_beq hb
          refine ⟨l, ys ++ [(i : Int)], kx2, hk2, rfl, by rw [List.map_append]; rfl, hp2, hlt', fun y m q mq => ?_, ⟨List.pairwise_append.mpr ⟨hc.asc, List.pairwise_singleton _ _, fun a ma b mb => ?_⟩, fun p m => ?_⟩, rfl⟩
          · rcases List.mem_append.mp m with m | m
            · exact hy y m q (List.mem_cons_of_mem _ mq)
            · rw [List.mem_singleton.mp m]
              have := hp1 q mq
              omega
          · rw [List.mem_singleton.mp mb]
            exact hy a ma i List.mem_cons_self
          · rcases List.mem_append.mp m with m | m
            · exact hc.at_ p m
            · rw [List.mem_singleton.mp m]
              exact ⟨by omega, os[i], by rw [Int.toNat_natCast]; exact gi, by omega⟩
  · rintro acc η ⟨l, ys, kx', hk', e1, rfl, hp, hlt, hy, hc, rfl⟩
    have := hc.inU.len (Pg.upto_asc _)
    rw [List.length_map, List.length_range] at this
    refine ⟨by rw [List.length_map, lineN_eq]; omega, ?_⟩
    simp only [wn_ok, wn_some, wn_only, wn_noex, wn_e2, wn_e1, wn_eN, wn_a0, wn_aC, wn_call, wn_tb, wn_tup, wn_lst, wn_andB, wn_orB, wn_notB, wn_andV, wn_orV, wn_notV, wn_ifV, wn_iA, wn_iR1, wn_iR2, wn_iZ, wn_iEn, wn_iRR, wn_sl, wn_p0, wn_p1, wn_up, wn_upB, wn_upI, wn_x2, wn_x0, wn_xC, wn_xN, wn_xb, wn_xAnd, wn_xOr, wn_xNot, wn_xIf, wn_xCall, wn_xR1, wn_xR2, sn_nx, sn_rt, sn_bk, sn_ct, sn_seq, sn_set, sn_ret, sn_expr, sn_if, sn_for, sn_xSet, sn_xRet, sn_xExpr, sn_xIf, sn_xFor, sn_asg, sn_xAsg, sn_own, sn_xOwn, gv_zero, gv_succ, go_own, go_dat, go_succ, k0_def, gN_def, tru_bool, tru_none, tru_int, tru_list, asSeq_list, asSeq_tup, addV_int, subV_int, ltA_i, leA_i, gtA_i, geA_i, negV_int, intV_int, lenV_list, lenV_tup, ixV_list, ixV_tup, asInt_int, slV_list, slV_tup, slL_list, revV_tup, revV_list, tupleV_list, listV_list, listV_tup, eqV_str, neV_str, eqV_int, List.set_cons_zero, List.set_cons_succ, List.getElem?_cons_zero, List.getElem?_cons_succ, List.length_cons, List.length_nil, ↓reduceIte, Bool.false_eq_true, Bool.not_true, Bool.not_false, wn_ite, gT2, gT3, neV_tup, eqV_tup, in_tup, notin_tup', lineN_eq, Nat.reduceAdd, Nat.reduceLeDiff, Nat.zero_le, true_and, and_true, List.map_nil, List.map_cons, exists_eq_left', Option.some.injEq, PyData.list.injEq, exists_eq_left, PyData.int.injEq, R.ok.injEq, Sl.own.injEq]
    exact ⟨kx', rfl, k ys kx' hk' hc⟩
end Od
end Bd
/-! X5: set(xs), xs a list of ints, with its table. -/
namespace Bd
open PySem PySem.Spec PyProof.Rows L2

/-- a set just made -/
def set0 (w : World) : Obj := { cls := .type "set", dict := none, data := .set #[] 0 (.fresh 0 0 (!w.params.followText "set-order")) }
section
variable {P : Program} {w : World} {A : Around} {E : Value → Shared → Prop} {s : Shared}
/-- the walk that fills the set at z from the list at l -/
theorem fill_listI {z l : Addr} {its : Array Value} (ns : List Int) {R : Result → Shared → Prop} (hh : A.in1.handled = none) (hz : s.heap.get? z = some (set0 w)) (hl : s.heap.IsList l its) (hi : IntsAre its.toList ns) (hb : ns.length + 1 < scanBound) (ne : l ≠ z)
    (k : ∀ (h' : Heap) (tk c : Nat), SetR w h' z (fun j => decide (j ∈ ns)) c → c ≤ ns.length → (∀ b o, b ≠ z → s.heap.get? b = some o → h'.get? b = some o) → R (.ok (.ret .none)) { s with heap := h', toks := tk }) :
    codeAny (model P w) A (.builtin "set.update.loop" ⟨[.ref z, .ref s.heap.objs.size], []⟩) R { s with heap := s.heap.push { cls := .type "list_iterator", data := .fields #[.ref l, .int 0 0] } } := by
  have zlt : z < s.heap.objs.size := Heap.lt_size hz
  obtain ⟨ol, hol, -⟩ := id hl
  have llt : l < s.heap.objs.size := Heap.lt_size hol
  have n0 : its.size = ns.length := by
    have q := IntsAre.length hi
    rwa [Array.length_toList] at q
  have vals : ∀ (i : Nat) (v : Value), its[i]? = some v → ∃ k t, ns[i]? = some k ∧ v = .int k t := fun i v hv => by
    have lt : i < ns.length := n0 ▸ (Array.getElem?_eq_some_iff.mp hv).1
    obtain ⟨t, e⟩ := IntsAre.int_at hi i v (by rw [Array.getElem?_toList]; exact hv)
    have g := List.getElem?_eq_getElem lt
    refine ⟨ns[i], t, g, ?_⟩
    rw [e, List.getD_eq_getElem?_getD, g]
    rfl
  have nz : z ∉ [s.heap.objs.size, l] := fun m => by
    rcases List.mem_cons.mp m with e | m
    · exact Nat.ne_of_lt zlt e
    · exact ne (List.mem_singleton.mp m).symm
  have old : ∀ b o, s.heap.get? b = some o → (s.heap.push { cls := .type "list_iterator", data := .fields #[.ref l, .int 0 0] }).get? b = some o := fun b o e => Heap.get?_push_of_some _ e
  refine set_update_ints (P := P) (w := w) (A := A) ((Walks.list hh s.heap.objs.size l (Nat.ne_of_lt llt) its).toS) z nz ns n0 hb vals its.size 0 _ (by omega) (Nat.zero_le _) ⟨⟨_, Heap.get?_push_size _ rfl, rfl, rfl⟩, hl.push _⟩ ⟨0, Nat.le_refl 0, setR_new_at (old _ _ hz)⟩ ?_
  rintro ⟨h', g', d', tk', os'⟩ c mv hc hs
  have e1 : g' = s.gens := mv.gens
  have e2 : d' = s.drawn := mv.drawn
  have e3 : os' = s.os := mv.os
  rw [e1, e2, e3]
  refine k h' tk' c hs (n0 ▸ hc) fun b o hbz e => mv.heap b o (fun m => ?_) (old b o e)
  rcases List.mem_cons.mp m with m | m
  · exact hbz m
  · exact Nat.ne_of_lt (Heap.lt_size e) (List.mem_singleton.mp m)
set_option maxRecDepth 100000 in
set_option maxHeartbeats 3200000 in
/-- set.__init__ of a set just made, from a list of ints -/
theorem init_listI {z l : Addr} {its : Array Value} (ns : List Int) {R : Result → Shared → Prop} {Z : Code → Shared → Prop} (hh : A.handled = none) (hz : s.heap.get? z = some (set0 w)) (hl : s.heap.IsList l its) (hi : IntsAre its.toList ns) (hb : ns.length + 1 < scanBound) (ne : l ≠ z)
    (k : ∀ (h' : Heap) (tk c : Nat), SetR w h' z (fun j => decide (j ∈ ns)) c → c ≤ ns.length → (∀ b o, b ≠ z → s.heap.get? b = some o → h'.get? b = some o) → R (.ok (.ret .none)) { s with heap := h', toks := tk }) :
    wpAny (model P w) A (Builtin.«set.__init__» ⟨[.ref z, .ref l], []⟩) (fun fin s' => match fin with | .done f => R (.ok f) s' | .again c' => Z c' s') (fun e s' => R (.error e) s') s := by
  obtain ⟨⟨oc, od, oda, os⟩, hol, hc, n, hd⟩ := id hl
  have hc : oc = .type "list" := hc
  have hd : oda = .seq its n := hd
  subst hc hd
  have f1 := F.sub_list_set
  have f2 := F.sub_list_frozenset
  have f3 : (Value.type "list" == Value.type "dict") = false := by decide
  have hz' : s.heap.get? z = some { cls := .type "set", dict := none, data := .set #[] 0 (.fresh 0 0 (!w.params.followText "set-order")) } := hz
  unfold Builtin.«set.__init__»
  unfold Builtin.Frozenset.updateFrom noKeywords
  generalize hPI : pyIter = PI
  wp_walk
  subst hPI
  refine wpAny_pyIter_list hl ?_
  refine wpAny_bind (wpAny_runValue ?_)
  refine fill_listI ns (by simp [hh]) hz hl hi hb ne fun h' tk c q1 q2 q3 => ?_
  refine wpAny_pure ?_
  exact wpAny_pure (k h' tk c q1 q2 q3)
theorem set_listI {l : Addr} {its : Array Value} (ns : List Int) {Q : Value → Shared → Prop} (hh : A.handled = none) (hl : s.heap.IsList l its) (hi : IntsAre its.toList ns) (hb : ns.length + 1 < scanBound)
    (k : ∀ (h' : Heap) (tk c : Nat), SetR w h' s.heap.objs.size (fun j => decide (j ∈ ns)) c → c ≤ ns.length → (∀ b o, s.heap.get? b = some o → h'.get? b = some o) → Q (.ref s.heap.objs.size) { s with heap := h', toks := tk }) :
    wpAny (model P w) A (call (.type "set") [.ref l]) Q E s := by
  have tc := F.called_set
  obtain ⟨mc, mt, hm⟩ := tc.mro
  have t1 := tc.made
  have t2 := tc.sub
  have t3 := tc.notType
  have t4 := tc.canCreate
  have t5 := F.typeCall_set_1 (.ref l)
  have live : ∀ b o, s.heap.get? b = some o → (s.heap.push (set0 w)).get? b = some o := fun b o e => Heap.get?_push_of_some _ e
  have born : (s.heap.push (set0 w)).get? s.heap.objs.size = some (set0 w) := Heap.get?_push_size _ rfl
  refine wpAny_call (codeAny_of_tree (show wpAny _ _ (callAny (.type "set") _) _ _ _ from wpAny_pure ⟨Code.quiet_builtin _ (by decide +kernel), codeAny_builtin F.entry_type_call ?_⟩))
  have t8 := weight_type_call_type "set" [.ref l] []
  rw [Around.under_plain t8 rfl]
  repeat (any_goals (first | assumption | wp_step))
  refine codeAny_mono (code_set_led1 (P := P) (w := w) (A := A.in1) (s := s) (.ref l) (E := E) (Q₁ := fun v s1 => v = .ref s.heap.objs.size ∧ s1 = { s with heap := s.heap.push (set0 w) }) ⟨rfl, rfl⟩) ?_
  rintro (e | (v | v | _ | _)) s1 hr
  all_goals first | exact hr | exact hr.elim | skip
  obtain ⟨rfl, rfl⟩ := hr
  have kind : Shared.TypeIs { s with heap := s.heap.push (set0 w) } (.ref s.heap.objs.size) "set" := ⟨_, born, rfl⟩
  have t6 := tc.init.lookup
  have t7 := tc.init.bind (.ref s.heap.objs.size)
  repeat (any_goals (first | assumption | wp_step))
  refine codeAny_mono (codeAny_call_builtin (R := (fun r s2 => ∃ (h' : Heap) (tk c : Nat), r = .ok (.ret .none) ∧ s2 = { s with heap := h', toks := tk } ∧ SetR w h' s.heap.objs.size (fun j => decide (j ∈ ns)) c ∧ c ≤ ns.length ∧ ∀ b o, s.heap.get? b = some o → h'.get? b = some o)) tc.init.plain F.entry_set_init (check_set_init_1 kind ?_)) ?_
  · obtain ⟨ol, hol, -⟩ := id hl
    have hA : A.in1.in1.handled = none := by simp [hh]
    exact init_listI (P := P) (w := w) (A := A.in1.in1) (s := { s with heap := s.heap.push (set0 w) }) ns (R := (fun r s2 => ∃ (h' : Heap) (tk c : Nat), r = .ok (.ret .none) ∧ s2 = { s with heap := h', toks := tk } ∧ SetR w h' s.heap.objs.size (fun j => decide (j ∈ ns)) c ∧ c ≤ ns.length ∧ ∀ b o, s.heap.get? b = some o → h'.get? b = some o)) hA born (hl.push _) hi hb (Nat.ne_of_lt (Heap.lt_size hol)) fun h' tk c q1 q2 q3 => ⟨h', tk, c, rfl, rfl, q1, q2, fun b o e => q3 b o (Nat.ne_of_lt (Heap.lt_size e)) (live b o e)⟩
  · rintro r s2 ⟨h', tk, c, rfl, rfl, q1, q2, q3⟩
    repeat (any_goals (first | assumption | wp_step))
    exact k h' tk c q1 q2 q3
end
end Bd
/-! D24: set(xs), xs a list or a tuple of ints, by data. -/
namespace Bd
open PySem L2

section
variable {X : Cx} {W : WX} {a : Expr} {pos p : Pos}
def rSetL (K : PySem.W.Frag) (w : World) : List V → Hp → VK → Prop := fun vs H Q => ∃ (a : Addr) (ns : List Int), vs = [.ref a] ∧ SqL K H a (ns.map V.int) ∧ ns.length < 4000 ∧ ∀ p, H p = none → Q (.ref p) (upd H p (SetL w p (sset ns)))
theorem cr_setLI (hc : X.calm = true) : CallR X (.type "set") (rSetL X.K X.w) := by
  intro pins s σ H vs us Q I r h
  obtain ⟨a, ns, rfl, hq, hz, q⟩ := h
  rw [Vals.ref1 r]
  obtain ⟨its, rr, hl, _⟩ := I.list hq
  refine set_listI (its := its.toArray) ns (I.ok.hd hc) hl.isList (by simpa using RZ.intsAre_vals rr) (by unfold scanBound; omega) fun h' tk c R hk kp => ?_
  have R2 := setL_of R (sset_asc ns) fun k => by rw [decide_eq_true_iff, mem_sset]
  exact ⟨.ref _, upd H s.heap.objs.size (SetL X.w s.heap.objs.size (sset ns)), I.laid (t' := tk) kp (Nat.le_refl _) (setO_new R2), rfl, q _ (I.hok.fresh (Nat.le_refl _))⟩
def setLV : List D → Option D
  | [.list ds] => (ints? ds).bind fun l => if l.length < 4000 then some (.list ((sset l).map PyData.int)) else none
  | _ => none
theorem o_setLI : OpN X (rSs X.w) (rSetL X.K X.w) setLV := fun H A vs ds d Q hA h e k => by
  unfold setLV at e
  split at e
  · rename_i xs
    cases c : ints? xs with
    | none => rw [c] at e; cases e
    | some l =>
      rw [c] at e
      have e : (if l.length < 4000 then some (PyData.list ((sset l).map PyData.int)) else none) = some d := e
      split at e
      · rename_i hz
        have e := Option.some.inj e
        subst e
        obtain ⟨v, rfl, q⟩ := all1 h
        obtain ⟨t, us, rfl, h1, h2⟩ := rO_list q
        rw [ints?_eq c] at h2
        rw [vals_ints h2] at h1
        exact ⟨t, l, rfl, h1, hz, fun z hn => k _ _ (same_new hn) ⟨z, sset l, rfl, rfl, sset_asc l, hn, upd_same⟩⟩
      · cases e
  · cases e
def setAV (ds : List D) : Option D := match setV ds with
  | some d => some d
  | none => setLV ds
def rSetA (K : PySem.W.Frag) (w : World) : List V → Hp → VK → Prop := fun vs H Q => rSetI K w vs H Q ∨ rSetL K w vs H Q
theorem cr_setA (hc : X.calm = true) : CallR X (.type "set") (rSetA X.K X.w) := fun pins s σ H vs us Q I r h => h.elim (cr_setI hc pins s σ H vs us Q I r) (cr_setLI hc pins s σ H vs us Q I r)
theorem o_setA : OpN X (rSs X.w) (rSetA X.K X.w) setAV := fun H A vs ds d Q hA h e k => by
  unfold setAV at e
  split at e
  · rename_i d0 e0
    have e := Option.some.inj e
    subst e
    exact .inl (o_setI H A vs ds _ Q hA h e0 k)
  · exact .inr (o_setLI H A vs ds d Q hA h e k)
theorem t_setA (hm : X.mg "set" = none) {Fs : Nv → R (List D)} (ha : TAs X W (vO X.K) [a] Fs) (hc : X.calm = true := by rfl) (hg : Gl X "set" := by rfl) (he : starEach [a] X.env = (false, eval a X.env) :: starEach [] X.env := by rfl) (hpl : (backTo pos (starEach [] X.env)).any (·.1) = false := by rfl) :
    PE X (.Call (.Name "set" p) [a] [] pos) (tR X.K X.mg W (rSs X.w) (eN setAV Fs)) := t_callTy back_Ss (cr_setA hc) o_setA hg hm (by decide +kernel) ha (he := he) (hpl := hpl)
theorem setAV_list {l : List Int} (h : l.length < 4000) : setAV [.list (l.map PyData.int)] = some (.list ((sset l).map PyData.int)) := by
  show setLV [.list (l.map PyData.int)] = _
  show (ints? (l.map PyData.int)).bind _ = _
  rw [ints?_map]
  exact if_pos h
end
end Bd
/-! X6: dicts whose keys are tuples of ints, made by a comprehension and read. -/
namespace Bd
open PySem PySem.Spec PyProof.Rows L2

abbrev ZP : List Zr → List (List Int × Addr × Value) → Prop := Paired fun z x => z.1 = x.1 ∧ z.2.1 = x.2.1 ∧ RelV z.2.2 x.2.2
def zAt (zs : List Zr) (k : List Int) : Option V := (zs.find? fun z => decide (z.1 = k)).map (·.2.2)
def zHas (zs : List Zr) (k : List Int) : Bool := zs.any fun z => decide (z.1 = k)
def putZ (zs : List Zr) (k : List Int) (b : Addr) (v : V) : List Zr := if zHas zs k = true then zs.map fun z => if z.1 = k then (z.1, z.2.1, v) else z else zs ++ [(k, b, v)]
theorem zp_at {k : List Int} : ∀ {zs : List Zr} {xs : List (List Int × Addr × Value)}, ZP zs xs → RelO (zAt zs k) ((atKey xs k).map (·.2))
  | _, _, .nil => trivial
  | _, _, .cons (a := z) (b := x) (l₁ := zs) (l₂ := xs) q t => by
    have ih := zp_at (k := k) t
    by_cases c : z.1 = k
    · have c2 : x.1 = k := q.1 ▸ c
      have e1 : zAt (z :: zs) k = some z.2.2 := by simp [zAt, List.find?_cons, c]
      have e2 : (atKey (x :: xs) k).map (·.2) = some x.2.2 := by simp [atKey, List.find?_cons, c2]
      rw [e1, e2]
      exact q.2.2
    · have c2 : ¬ x.1 = k := fun h => c (q.1.trans h)
      have e1 : zAt (z :: zs) k = zAt zs k := by simp [zAt, List.find?_cons, c]
      have e2 : (atKey (x :: xs) k) = atKey xs k := by simp [atKey, List.find?_cons, c2]
      rw [e1, e2]
      exact ih
theorem zp_has {k : List Int} : ∀ {zs : List Zr} {xs : List (List Int × Addr × Value)}, ZP zs xs → zHas zs k = (atKey xs k).isSome
  | _, _, .nil => rfl
  | _, _, .cons (a := z) (b := x) (l₁ := zs) (l₂ := xs) q t => by
    have ih := zp_has (k := k) t
    have e0 : zHas (z :: zs) k = (decide (z.1 = k) || zHas zs k) := rfl
    rw [e0, ih]
    by_cases c : z.1 = k
    · have c2 : x.1 = k := q.1 ▸ c
      simp [atKey, List.find?_cons, c, c2]
    · have c2 : ¬ x.1 = k := fun h => c (q.1.trans h)
      simp [atKey, List.find?_cons, c, c2]
theorem zp_map {k : List Int} {v : V} {r : Value} (rv : RelV v r) : ∀ {zs : List Zr} {xs : List (List Int × Addr × Value)}, ZP zs xs → ZP (zs.map fun z => if z.1 = k then (z.1, z.2.1, v) else z) (xs.map (PySem.putAt k r))
  | _, _, .nil => .nil
  | _, _, .cons (a := z) (b := x) q t => by
    refine .cons ?_ (zp_map rv t)
    by_cases c : z.1 = k
    · simp only [if_pos c]
      have c2 : x.1 = k := q.1 ▸ c
      rw [show PySem.putAt k r x = (x.1, x.2.1, r) from if_pos c2]
      exact ⟨q.1, q.2.1, rv⟩
    · simp only [if_neg c]
      have c2 : ¬ x.1 = k := fun h => c (q.1.trans h)
      rw [show PySem.putAt k r x = x from if_neg c2]
      exact q
theorem zp_end {zs : List Zr} {xs : List (List Int × Addr × Value)} {z : Zr} {x : List Int × Addr × Value} (q : z.1 = x.1 ∧ z.2.1 = x.2.1 ∧ RelV z.2.2 x.2.2) : ZP zs xs → ZP (zs ++ [z]) (xs ++ [x])
  | .nil => .cons q .nil
  | .cons h t => .cons h (zp_end q t)
theorem zp_put {k : List Int} {b : Addr} {v : V} {r : Value} {zs : List Zr} {xs : List (List Int × Addr × Value)} (h : ZP zs xs) (rv : RelV v r) : ZP (putZ zs k b v) (storedH xs k b r) := by
  unfold putZ storedH
  rw [zp_has h]
  split
  · exact zp_map rv h
  · exact zp_end ⟨rfl, rfl, rv⟩ h
theorem putZ_mem {P : List Int → Addr → Prop} {zs : List Zr} {k : List Int} {b : Addr} {v : V} (h : ∀ z ∈ zs, P z.1 z.2.1) (hb : P k b) : ∀ z ∈ putZ zs k b v, P z.1 z.2.1 := by
  intro z m
  unfold putZ at m
  split at m
  · obtain ⟨y, my, e⟩ := List.mem_map.mp m
    split at e
    · subst e
      exact h y my
    · subst e
      exact h y my
  · rcases List.mem_append.mp m with m | m
    · exact h z m
    · rw [List.mem_singleton.mp m]
      exact hb
theorem putZ_len {zs : List Zr} {k : List Int} {b : Addr} {v : V} : (putZ zs k b v).length ≤ zs.length + 1 := by
  unfold putZ
  split
  · rw [List.length_map]
    exact Nat.le_succ _
  · rw [List.length_append]
    exact Nat.le_refl _
theorem zp_mem {zs : List Zr} {xs : List (List Int × Addr × Value)} (h : ZP zs xs) : ∀ x ∈ xs, ∃ z ∈ zs, z.1 = x.1 ∧ z.2.1 = x.2.1 := by
  induction h with
  | nil => exact fun x m => absurd m List.not_mem_nil
  | cons q _ ih =>
    intro x m
    rcases List.mem_cons.mp m with e | m
    · subst e
      exact ⟨_, List.mem_cons_self, q.1, q.2.1⟩
    · obtain ⟨z, mz, e⟩ := ih x m
      exact ⟨z, List.mem_cons_of_mem _ mz, e⟩
theorem ints_key {P : Program} {w : World} : ∀ {ks : List Int} {us : List Value}, Vals (ks.map V.int) us → ItemsAre (intKind P w) ks us
  | [], us, r => match us, r with
    | _, .nil => .nil
  | k :: ks, us, r => match us, r with
    | _, .cons h t => .cons (by
        obtain ⟨tk, rfl⟩ := h
        simp [PySem.intKind, Value.isInt]) (ints_key t)
section
variable {X : Cx} {pins : List (Addr × Obj)} {σ : L2.St} {H : Hp} {s : Shared} {D b : Addr} {zs : List Zr} {k : List Int} {v : V}
theorem key_at (I : Inv X pins σ H s) (h : SqT X.K H b (k.map V.int)) : (tupleKind (intKind X.prog X.w)).is s.heap k b := by
  obtain ⟨its, r, ⟨o, h1, h2, n, h3⟩, _⟩ := I.tuple h
  exact ⟨o, its.toArray, n, h1, h2, h3, by simpa using ints_key r⟩
theorem dco_rows (I : Inv X pins σ H s) (hD : H D = some (dco D zs)) (hz : ∀ z ∈ zs, SqT X.K H z.2.1 (z.1.map V.int)) : ∃ xs, ZP zs xs ∧ s.heap.DictOfH (tupleKind (intKind X.prog X.w)) D xs := by
  obtain ⟨⟨xs, zp, o, es, ep, h1, h2, h3, h4, h5⟩, _⟩ := I.hok D _ hD
  refine ⟨xs, zp, o, es, ep, h1, h2, h3, h4, fun x mx => ?_, h5⟩
  obtain ⟨z, mz, e1, e2⟩ := zp_mem zp x mx
  rw [← e1, ← e2]
  exact key_at I (hz z mz)
theorem dco_new {P : Program} {w : World} {H' : Hp} {h' : Heap} {xs : List (List Int × Addr × Value)} (zp : ZP zs xs) (dd : h'.DictOfH (tupleKind (intKind P w)) D xs) : ObjOk P w H' h' D (dco D zs) := by
  obtain ⟨o, es, ep, h1, h2, h3, h4, _, h5⟩ := dd
  refine ⟨⟨xs, zp, o, es, ep, h1, h2, h3, h4, h5⟩, ⟨o, h1⟩, ?_⟩
  rintro ha hb ⟨ys, zq, o', es', ep', g1, g2, g3, g4, g5⟩ st
  exact ⟨ys, zq, o', es', ep', st o' g1, g2, g3, g4, g5⟩
theorem dco_set {E : Value → Shared → Prop} {r : Value} {Q : Unit → Shared → Prop} (hu : X.A.units < cLine) (I : Inv X pins σ H s) (hD : H D = some (dco D zs)) (hl : zs.length < sizeLine) (hz : ∀ z ∈ zs, SqT X.K H z.2.1 (z.1.map V.int))
    (hk : SqT X.K H b (k.map V.int)) (rv : RelV v r) (q : ∀ s', Inv X pins σ (upd H D (dco D (putZ zs k b v))) s' → Q () s') : wpAny (model X.prog X.w) X.A (dictSet D (.ref b) r) Q E s := by
  obtain ⟨xs, zp, dd⟩ := dco_rows I hD hz
  have hx : xs.length ≤ sizeLine := by
    rw [← zp.length]
    exact Nat.le_of_lt hl
  refine wpAny_dictSet_heap (hsz := hx) hu (key_at I hk) dd fun h' dd' sb => q _ ?_
  have there : ∃ q, h'.get? D = some q := by
    obtain ⟨o, _, _, e, _⟩ := dd'
    exact ⟨o, e⟩
  exact d_write I (by rw [hD]; trivial) sb there (dco_new (zp_put zp rv) dd')
theorem dco_get {A : Around} {E : Value → Shared → Prop} {Q : Value → Shared → Prop} (hu : A.units + 1 < cLine) (I : Inv X pins σ H s) (hD : H D = some (dco D zs)) (hz : ∀ z ∈ zs, SqT X.K H z.2.1 (z.1.map V.int))
    (hk : SqT X.K H b (k.map V.int)) (hv : zAt zs k = some v) (q : ∀ u s', Inv X pins σ H s' → RelV v u → Q u s') : wpAny (model X.prog X.w) A (getItem (.ref D) (.ref b)) Q E s := by
  obtain ⟨xs, zp, dd⟩ := dco_rows I hD hz
  obtain ⟨u, hu', rel⟩ := RelO.some_of (v := v) (o := (atKey xs k).map (·.2)) (by rw [← hv]; exact zp_at zp)
  obtain ⟨p, hp, e⟩ := Option.map_eq_some_iff.mp hu'
  refine wpAny_getItem_heap (tupleKind_room_in1 hu) (key_at I hk) dd hp ?_
  rw [e]
  exact q u _ (I.tok _) rel
end
/-! ### the comprehension -/
def DStep (K : PySem.W.Frag) (D : Addr) (y z : V) (H : Hp) (Nx : Hp → Prop) : Prop :=
  ∃ zs k b, y = .ref b ∧ H D = some (dco D zs) ∧ zs.length < sizeLine ∧ (∀ e ∈ zs, SqT K H e.2.1 (e.1.map V.int)) ∧ SqT K H b (k.map V.int) ∧ Nx (upd H D (dco D (putZ zs k b z)))
/-- {kx: vx for tg in iter}: the turns -/
def DTurns (K : PySem.W.Frag) (J : It) (g : TG) (tk tv : TE) (σ0 : L2.St) (vs : List Nat) (D : Addr) (Q : Hp → Prop) (W : Nat → Nat → Hp → Prop) : Prop :=
  ∀ i m H, W i m H → (J.stop i H ∧ Q H) ∨ (J.go i H ∧ ∃ Nx : Hp → Prop, (∀ G, Nx G → ∃ n, n < m ∧ W (i + 1) n G) ∧
    ∀ x G, J.yld i H x G → g x σ0 G fun τ G1 => wipe τ vs = σ0 ∧ tk τ G1 fun y G2 => tv τ G2 fun z G3 => DStep K D y z G3 Nx)
def tDx (K : PySem.W.Frag) (wi : TI) (g : TG) (tk tv : TE) (vs : List Nat) : TE := fun σ H Q => wi σ H fun J H1 => ∀ D, H1 D = none → (D == sysModules) = false →
  ∃ W : Nat → Nat → Hp → Prop, (∃ m, W 0 m (upd H1 D (dco D []))) ∧ DTurns K J g tk tv (wipe σ vs) vs D (Q (.ref D)) W
section
variable {X : Cx} {kx vx tg iter : Expr} {scope : Scope} {own : List (Str × Nat)} {pos : Pos} {wi : TI} {g : TG} {tk tv : TE}
theorem pe_dx (hu : X.A.units < cLine) (calm : X.calm = true) (nd : X.N.Nodup) (hw : PI X tg iter wi) (bo : BlkOk X.N X.env.scope scope own)
    (pg : ∀ (s : Shared) (H : Hp) (C : Addr) (cl : List (Str × Addr)) (fp : List Addr), PG (X.blk s H scope (compEnvC scope cl C X.env) fp) tg g)
    (pk : ∀ (s : Shared) (H : Hp) (C : Addr) (cl : List (Str × Addr)) (fp : List Addr), PE (X.blk s H scope (compEnvC scope cl C X.env) fp) kx tk)
    (pv : ∀ (s : Shared) (H : Hp) (C : Addr) (cl : List (Str × Addr)) (fp : List Addr), PE (X.blk s H scope (compEnvC scope cl C X.env) fp) vx tv)
    (fo : ∀ x, foldedSetIterable iter X.env x = pure x := by intro _; rfl) : PE X (.DictComp kx vx [⟨tg, iter, [], 0⟩] scope pos) (tDx X.K wi g tk tv (own.map (·.2))) := by
  refine ⟨fun pins s σ H Q I0 wish => ?_⟩
  rw [arm_eval_DictComp]
  have cells : ∀ nm ∈ scope.names, nm.2 = .free → ∃ c, X.env.cells.lookup nm.1 = some c := fun nm mem isf => (bo.free nm mem isf).elim (fun z => I0.ok.has _ (.inl z)) fun z => I0.ok.has _ (.inr z)
  refine wpAny_comprehension_free (use := none) rfl fo (closure_ok cells) bo.kind (fun nm mem isl => by rw [bo.uniq nm mem, isl])
    (thn (hw.run pins s σ H _ I0 wish) fun xv sA stepA => thn stepA fun itv sB stepB => ?_)
  obtain ⟨it, fp, turn, J, HB, eit, IB, T, atB, okB, rest⟩ := stepB
  subst eit
  refine wpAny_newObj_type (newEnv_comp ?_)
  -- the new dict
  generalize eD : sB.heap.objs.size = D
  have freeD : HB D = none := IB.hok.fresh (Nat.le_of_eq eD)
  have farD : (D == sysModules) = false := by
    have big := IB.big
    rw [eD] at big
    exact beq_eq_false_iff_ne.mpr (Nat.ne_of_gt big)
  obtain ⟨W, ⟨top, start⟩, turns⟩ := rest D freeD farD
  generalize esC : ({ sB with heap := sB.heap.push { cls := .type "dict", data := .dict #[] } } : Shared) = sC
  have heapC : sC.heap = sB.heap.push { cls := .type "dict", data := .dict #[] } := by rw [← esC]
  have IC : Inv X pins σ (upd HB D (dco D [])) sC := by
    subst esC
    refine IB.laid (t' := sB.toks) (fun c u e => Heap.get?_push_of_some _ e) (Nat.le_of_eq eD) (dco_new .nil ?_)
    subst eD
    exact Heap.DictOfH.new sB.heap
  have lowFp : ∀ c ∈ fp, c < sB.heap.objs.size := fun c mc => by
    obtain ⟨_, e, _⟩ := T.obj _ _ atB c mc
    exact Heap.lt_size e
  have okC : ∀ c ∈ fp, FpOk X pins (upd HB D (dco D [])) c ∧ c < sC.heap.objs.size := fun c mc => by
    have lt := lowFp c mc
    refine ⟨⟨?_, (okB c mc).2⟩, by rw [heapC, Heap.size_push]; exact Nat.lt_succ_of_lt lt⟩
    rw [upd_ne (by rw [← eD]; exact Nat.ne_of_lt lt)]
    exact (okB c mc).1
  have atC : turn 0 sC.heap := T.keep _ _ _ atB fun c _ u e => by
    rw [heapC]
    exact Heap.get?_push_of_some _ e
  -- the block's names
  have ID := block_start IC bo nd okC
  let cl := cellsFrom (sC.heap.objs.size + 1) scope.names (cloFrom X.env.cells scope.names [])
  have g1 := pg sC (upd HB D (dco D [])) sC.heap.objs.size cl fp
  have k1 := pk sC (upd HB D (dco D [])) sC.heap.objs.size cl fp
  have v1 := pv sC (upd HB D (dco D [])) sC.heap.objs.size cl fp
  have noneFp : ∀ c ∈ fp, (upd HB D (dco D [])) c = none := fun c mc => (okC c mc).1.1
  show codeAny _ _ (.compStart (.DictComp kx vx [⟨tg, iter, [], 0⟩] scope pos) 0 (.ref it) (.ref D) (compEnvC scope cl sC.heap.objs.size X.env)) (compPost (model X.prog X.w) X.A X.xe none (EP X pins σ Q) (.ref D) sC.heap.objs.size) { sC with heap := pushCells (sC.heap.push { cls := .type "dict", data := .dict #[] }) scope.names }
  generalize eE : compEnvC scope cl sC.heap.objs.size X.env = E1 at ID g1 k1 v1 ⊢
  have locE : E1.locals = sC.heap.objs.size := by rw [← eE]; rfl
  generalize eH : upd HB D (dco D []) = HC at IC ID g1 k1 v1 start noneFp okC
  generalize esD : ({ sC with heap := pushCells (sC.heap.push { cls := .type "dict", data := .dict #[] }) scope.names } : Shared) = sD at ID ⊢
  have atD : turn 0 sD.heap := T.keep _ _ _ atC fun c _ u e => by
    rw [← esD]
    exact pushCells_keeps _ _ _ _ (Heap.get?_push_of_some _ e)
  have fpIn : ∀ {τ : L2.St} {G : Hp} {t : Shared}, Inv (X.blk sC HC scope E1 fp) [] τ G t → (∀ c ∈ fp, G c = none) → ∀ c ∈ fp, FpOk (X.blk sC HC scope E1 fp) [] G c := fun {τ G t} J1 nn c mc =>
    ⟨nn c mc, (J1.ok.exf c mc).1, J1.ok.exfs c mc, .inl mc, fun nm cc e => (J1.ok.exf c mc).2 nm cc e, fun p mp => absurd (show p ∈ ([] : List (Addr × Obj)) ++ [] from mp) List.not_mem_nil⟩
  refine codeAny_compStart_dict ?_ (T.self X.A 0 _ _ _ atD ?_) <;>
  · refine compLoop_anyD (fun n t => ∃ i G, W i n G ∧ turn i t.heap ∧ (∀ c ∈ fp, G c = none) ∧ Inv (X.blk sC HC scope E1 fp) [] (wipe σ (own.map (·.2))) G t) ?_ top ⟨0, HC, start, atD, noneFp, ID⟩
    rintro n t ⟨i, G, wG, atG, nnG, IG⟩
    rcases turns i n G wG with ⟨isStop, fine⟩ | ⟨isGo, Nx, less, body⟩
    · refine thnF (T.done (X.blk sC HC scope E1 fp) rfl rfl rfl calm i [] t _ G (fun _ _ => False) IG (fpIn IG nnG) atG isStop) fun r t1 ⟨er, IG1⟩ => ?_
      subst er
      have back : Inv X pins σ G t1 := IC.call' (ch := fp) IG1.os IG1.base IG1.hok IG1.bare fun c mc => let z := (okC c mc).1; ⟨z.2.2.2.1, z.2.1, z.2.2.2.2.1, z.2.2.2.2.2⟩
      have nC : G sC.heap.objs.size = none := by
        have z : G E1.locals = none := IG1.free
        rwa [locE] at z
      obtain ⟨mm, hns, _⟩ := IG1.loc
      have hns : t1.heap.Ns E1.locals mm := hns
      rw [locE] at hns
      obtain ⟨f0, f1, f2, f3, f4, f5⟩ := IC.fpOk (Nat.le_refl _) nC
      exact ⟨mm, hns, fun h2 sb => ⟨.ref D, G, back.turned (t' := t1.toks) (fun c u nc e => (sb.2 c nc).trans e) f0 f1 f3 f4 f5, rfl, fine⟩⟩
    · refine thnF (T.item (X.blk sC HC scope E1 fp) rfl rfl rfl calm i [] t _ G (fun _ _ => False) IG (fpIn IG nnG) atG isGo) fun r t1 ⟨u, er, h1⟩ => ?_
      subst er
      refine thnF h1 fun _ t2 ⟨x, G2, I2, rx, yx, at2, nn2⟩ => ?_
      have I2p := I2.pinned (fpIn I2 nn2) (T.obj _ _ at2)
      refine thnF (g1.run _ t2 _ G2 x u _ I2p rx (body x G2 yx)) fun _ t3 ⟨τ, G3, I3, same3, q3⟩ => ?_
      refine wpAny_pure ?_
      simp only [if_true]
      refine thnF (k1.run _ t3 τ G3 _ I3 q3) fun kv t4 ⟨y, G4, I4, ry, q4⟩ => ?_
      refine thnF (v1.run _ t4 τ G4 _ I4 q4) fun vv t5 ⟨z, G5, I5, rz, zs, k, b, ey, hD5, hl5, hk5, hb5, nx⟩ => ?_
      subst ey
      cases (show kv = Value.ref b from ry)
      refine dco_set (X := X.blk sC HC scope E1 fp) hu I5 hD5 hl5 hk5 hb5 rz fun t6 I6 => ?_
      obtain ⟨n', lt, w'⟩ := less _ nx
      have len : (wipe σ (own.map (·.2))).length = τ.length := by rw [← same3, wipe_length]
      have pinned : ∀ c ∈ fp, ∀ o, t2.heap.get? c = some o → t6.heap.get? c = some o ∧ (upd G5 D (dco D (putZ zs k b z))) c = none := fun c mc o e =>
        let q := I6.pin (c, o) (List.mem_append_right _ (List.mem_append_right _ (mem_pinsAt mc e)))
        ⟨q.1, q.2.1⟩
      refine ⟨n', lt, i + 1, _, w', T.keep _ _ _ at2 fun c mc o e => (pinned c mc o e).1, fun c mc => ?_, (I6.unpinned (pins := [])).weak len fun j v e => ?_⟩
      · obtain ⟨o, e, _⟩ := T.obj _ _ at2 c mc
        exact (pinned c mc o e).2
      · rw [← same3] at e
        exact (wipe_some e).1
end
end Bd
/-! D25: a dict whose keys are tuples of ints, by data: made by a comprehension, kept under a name, read. -/
namespace Bd
open PySem L2

def isK (p : D) (k : List Int) : Bool := match p with
  | .tuple ds => decide (ints? ds = some k)
  | _ => false
def hasI (ks : List (D × D)) (k : List Int) : Bool := ks.any fun p => isK p.1 k
def putI (ks : List (D × D)) (k : List Int) (v : D) : List (D × D) := if hasI ks k = true then ks.map fun p => if isK p.1 k = true then (p.1, v) else p else ks ++ [(.tuple (k.map PyData.int), v)]
def putM (ks : List (D × D)) (k v : D) : Option (List (D × D)) := match k with
  | .tuple ds => (ints? ds).bind fun l => if ks.length < lineN then some (putI ks l v) else none
  | _ => none
def atI (ks : List (D × D)) (k : List Int) : Option D := (ks.find? fun p => isK p.1 k).map (·.2)
def atM (ks : List (D × D)) (k : D) : Option D := match k with
  | .tuple ds => (ints? ds).bind fun l => atI ks l
  | _ => none
def dictD (T : Tgt) (Kf Vf : Nv → R D) (η : Nv) : List (D × D) → List D → R (List (D × D))
  | acc, [] => .ok acc
  | acc, x :: xs => match T x η with
    | none => .no
    | some η1 => (Kf η1).bindN fun k => (Vf η1).bindN fun v => match putM acc k v with
      | none => .no
      | some acc' => dictD T Kf Vf η acc' xs
def dictE (Fi : Nv → R (List D)) (T : Tgt) (Kf Vf : Nv → R D) (vs : List Nat) : Nv → R D := fun η => (Fi η).bind fun xs => (dictD T Kf Vf (wipeE η vs) [] xs).bindN fun ks => .ok (.dict ks)
/-- a dict as it lies -/
def rM (K : PySem.W.Frag) : Rl := fun _ H' A v d => ∃ z ks, v = .ref z ∧ d = .dict ks ∧ DcR K (hid A H') z ks
theorem back_M {K : PySem.W.Frag} : Back (rM K) := fun _ _ _ _ _ _ _ h => h
section
variable {K : PySem.W.Frag} {T T' : Hp} {zs : List Zr} {ks : List (D × D)} {k : List Int} {b : Addr} {v : V} {d : D}
theorem zd_is {z : Zr} {p : D × D} (h : ZD K T z p) : isK p.1 k = decide (z.1 = k) := by
  rw [h.1]
  show decide (ints? (z.1.map PyData.int) = some k) = _
  rw [ints?_map]
  exact decide_eq_decide.mpr ⟨fun e => Option.some.inj e, fun e => by rw [e]⟩
theorem zd_has : ∀ {zs : List Zr} {ks : List (D × D)}, Paired (ZD K T) zs ks → hasI ks k = zHas zs k
  | _, _, .nil => rfl
  | _, _, .cons (a := z) (b := p) (l₁ := zs) (l₂ := ks) h t => by
    show (isK p.1 k || hasI ks k) = (decide (z.1 = k) || zHas zs k)
    rw [zd_is h, zd_has t]
theorem zd_map (q : Dp K T v d) : ∀ {zs : List Zr} {ks : List (D × D)}, Paired (ZD K T) zs ks → Paired (ZD K T) (zs.map fun z => if z.1 = k then (z.1, z.2.1, v) else z) (ks.map fun p => if isK p.1 k = true then (p.1, d) else p)
  | _, _, .nil => .nil
  | _, _, .cons (a := z) (b := p) h t => by
    refine .cons ?_ (zd_map q t)
    have e := zd_is (k := k) h
    by_cases c : z.1 = k
    · have e' : isK p.1 k = true := by rw [e]; exact decide_eq_true c
      simp only [if_pos c, if_pos e']
      exact ⟨h.1, h.2.1, q⟩
    · have e' : ¬ isK p.1 k = true := by rw [e, decide_eq_false c]; exact Bool.false_ne_true
      simp only [if_neg c, if_neg e']
      exact h
theorem zd_end {z : Zr} {p : D × D} (q : ZD K T z p) : ∀ {zs : List Zr} {ks : List (D × D)}, Paired (ZD K T) zs ks → Paired (ZD K T) (zs ++ [z]) (ks ++ [p])
  | _, _, .nil => .cons q .nil
  | _, _, .cons h t => .cons h (zd_end q t)
theorem zd_put (h : Paired (ZD K T) zs ks) (hb : SqT K T b (k.map V.int)) (q : Dp K T v d) : Paired (ZD K T) (putZ zs k b v) (putI ks k d) := by
  unfold putZ putI
  rw [zd_has h]
  split
  · exact zd_map q h
  · exact zd_end ⟨rfl, hb, q⟩ h
theorem zd_keys : ∀ {zs : List Zr} {ks : List (D × D)}, Paired (ZD K T) zs ks → ∀ z ∈ zs, SqT K T z.2.1 (z.1.map V.int)
  | _, _, .nil, z, m => absurd m List.not_mem_nil
  | _, _, .cons h t, z, m => by
    rcases List.mem_cons.mp m with e | m
    · rw [e]
      exact h.2.1
    · exact zd_keys t z m
theorem zd_at : ∀ {zs : List Zr} {ks : List (D × D)} {d : D}, Paired (ZD K T) zs ks → atI ks k = some d → ∃ v, zAt zs k = some v ∧ Dp K T v d
  | _, _, _, .nil, e => by cases e
  | _, _, d, .cons (a := z) (b := p) (l₁ := zs) (l₂ := ks) h t, e => by
    have i := zd_is (k := k) h
    by_cases c : z.1 = k
    · have i : isK p.1 k = true := by
        rw [i]
        exact decide_eq_true c
      have e2 : atI (p :: ks) k = some p.2 := by simp [atI, List.find?_cons, i]
      rw [e2] at e
      cases e
      exact ⟨z.2.2, by simp [zAt, List.find?_cons, c], h.2.2⟩
    · have i : isK p.1 k = false := by
        rw [i]
        exact decide_eq_false c
      have e2 : atI (p :: ks) k = atI ks k := by simp [atI, List.find?_cons, i]
      rw [e2] at e
      obtain ⟨v, h1, h2⟩ := zd_at t e
      exact ⟨v, by rw [← h1]; simp [zAt, List.find?_cons, c], h2⟩
theorem zd_same (s : Same T T') (h : Paired (ZD K T) zs ks) : Paired (ZD K T') zs ks := Paired.mapP h fun z k ⟨e1, e2, e3⟩ => ⟨e1, sqT_same s e2, Dp_mono e3 s⟩
theorem key_of_dp {y : V} {ds : List D} (h : Dp K T y (.tuple ds)) (e : ints? ds = some k) : ∃ b, y = .ref b ∧ SqT K T b (k.map V.int) := by
  cases h with
  | tup h1 h2 =>
    rw [ints?_eq e] at h2
    rw [vals_ints h2] at h1
    exact ⟨_, rfl, h1⟩
theorem putI_len : (putI ks k d).length ≤ ks.length + 1 := by
  unfold putI
  split
  · rw [List.length_map]
    exact Nat.le_succ _
  · rw [List.length_append]
    exact Nat.le_refl _
end
section
variable {X : Cx} {W : WX} {kx vx tg iter e : Expr} {pos : Pos} {Fi : Nv → R (List D)} {T : Tgt} {js vs : List Nat} {Kf Vf Fk F : Nv → R D}
theorem dx_t (hj : ∀ j ∈ js, j ∈ vs) {σ : L2.St} {H : Hp} {Q : VK} (h : tR X.K X.mg W (rM X.K) (dictE Fi T Kf Vf vs) σ H Q) :
    tDx X.K (tI X.K X.mg W Fi) (gD X.K T js) (tR X.K X.mg W0 (rD X.K) Kf) (tR X.K X.mg W0 (rD X.K) Vf) vs σ H Q := by
  obtain ⟨η, A, E, p0⟩ := h
  have p : Post X.K X.mg W (rM X.K) σ A H ((Fi η).bind fun xs => (dictD T Kf Vf (wipeE η vs) [] xs).bindN fun ks => .ok (.dict ks)) Q := p0
  refine (show tI X.K X.mg W Fi σ H _ from ⟨η, A, E, ?_⟩)
  cases e1 : Fi η with
  | ex c w q => rw [e1] at p; exact p
  | no => rw [e1] at p; exact p
  | ok ds =>
    rw [e1] at p
    have p : Post X.K X.mg W (rM X.K) σ A H ((dictD T Kf Vf (wipeE η vs) [] ds).bindN fun ks => .ok (.dict ks)) Q := p
    cases e2 : dictD T Kf Vf (wipeE η vs) [] ds with
    | ex c w q => rw [e2] at p; exact False.elim p
    | no => rw [e2] at p; exact False.elim p
    | ok all =>
      rw [e2] at p
      have p : Post X.K X.mg W (rM X.K) σ A H (.ok (.dict all)) Q := p
      intro J H1 s1 wk M nM farM
      have E1 := E.same s1
      have nA : M ∉ A := E1.fresh nM
      refine ⟨fun i m H2 => m + i = ds.length ∧ Same H1 H2 ∧ ∃ acc zs, dictD T Kf Vf (wipeE η vs) acc (ds.drop i) = .ok all ∧ acc.length ≤ lineN ∧ H2 M = some (dco M zs) ∧ Paired (ZD X.K (hid (M :: A) H2)) zs acc,
        ⟨ds.length, rfl, same_new nM, [], [], e2, Nat.zero_le _, upd_same, .nil⟩, fun i m H2 hw => ?_⟩
      obtain ⟨em, s2, acc, zs, er, hl, hM, hd⟩ := hw
      have sh : Same (hid A H1) (hid (M :: A) H2) := hid_new s2 nM
      have E2 : EnvD X.K H2 (M :: A) σ η := E1.new s2 nM (by rw [hM]; exact fun z => nomatch z)
      cases hx : ds[i]? with
      | none =>
        have hi : ds.length ≤ i := List.getElem?_eq_none_iff.mp hx
        have ei : i = ds.length := by omega
        subst ei
        rw [List.drop_length] at er
        cases (show R.ok acc = .ok all from er)
        exact .inl ⟨wk.stop _ _ sh, p _ H2 (s1.trans s2) ⟨M, _, rfl, rfl, farM, by rw [line_eq]; exact hl, zs, by rw [hid_out nA]; exact hM, zd_same (hid_mono fun _ q => List.mem_cons_of_mem _ q) hd⟩⟩
      | some x =>
        have hi : i < ds.length := (List.getElem?_eq_some_iff.mp hx).1
        have ed : ds.drop i = x :: ds.drop (i + 1) := by
          rw [List.drop_eq_getElem_cons hi]
          congr 1
          exact (List.getElem?_eq_some_iff.mp hx).2
        obtain ⟨g1, g2⟩ := wk.step i x hx _ _ sh E2.tr
        refine .inr ⟨g1, fun H' => ∃ m', m' < m ∧ (m' + (i + 1) = ds.length ∧ Same H1 H' ∧ ∃ acc zs, dictD T Kf Vf (wipeE η vs) acc (ds.drop (i + 1)) = .ok all ∧ acc.length ≤ lineN ∧ H' M = some (dco M zs) ∧ Paired (ZD X.K (hid (M :: A) H')) zs acc), fun H' hN => hN, fun v H3 y => ?_⟩
        obtain ⟨s3, qv⟩ := g2 v H3 y
        rw [ed] at er
        unfold dictD at er
        cases et : T x (wipeE η vs) with
        | none => rw [et] at er; cases er
        | some η1 =>
          rw [et] at er
          obtain ⟨kd, ek, er⟩ := R.bindN_ok er
          obtain ⟨vd, ev, er⟩ := R.bindN_ok er
          cases ep : putM acc kd vd with
          | none => rw [ep] at er; cases er
          | some acc' =>
            rw [ep] at er
            have er : dictD T Kf Vf (wipeE η vs) acc' (ds.drop (i + 1)) = .ok all := er
            refine ⟨wipeE η vs, M :: A, x, η1, (E2.same s3).wipe vs, qv, et, fun σ2 E3 S => ⟨stored_wipe S hj (S.len.trans (wipe_length σ vs)), ?_⟩⟩
            refine (show tR X.K X.mg W0 (rD X.K) Kf σ2 H3 _ from ⟨η1, M :: A, E3, ?_⟩)
            rw [ek]
            intro ky H4 s4 qk
            refine (show tR X.K X.mg W0 (rD X.K) Vf σ2 H4 _ from ⟨η1, M :: A, E3.same s4, ?_⟩)
            rw [ev]
            intro vy H5 s5 qw
            unfold putM at ep
            split at ep
            · rename_i kds
              cases ei : ints? kds with
              | none => rw [ei] at ep; cases ep
              | some l =>
                rw [ei] at ep
                have ep : (if acc.length < lineN then some (putI acc l vd) else none) = some acc' := ep
                split at ep
                · rename_i hlt
                  cases ep
                  obtain ⟨b, eb, hb⟩ := key_of_dp qk ei
                  have hM5 : H5 M = some (dco M zs) := s5 _ _ (s4 _ _ (s3 _ _ hM))
                  have hz5 : Paired (ZD X.K (hid (M :: A) H5)) zs acc := zd_same (hid_same ((s3.trans s4).trans s5)) hd
                  have hb5 : SqT X.K (hid (M :: A) H5) b (l.map V.int) := sqT_same (hid_same s5) hb
                  have hidM : hid (M :: A) (upd H5 M (dco M (putZ zs l b vy))) = hid (M :: A) H5 := hid_upd List.mem_cons_self
                  refine ⟨zs, l, b, eb, hM5, by rw [line_eq, hz5.length]; exact hlt, fun z mz => sqT_same (hid_le _ _) (zd_keys hz5 z mz), sqT_same (hid_le _ _) hb5, m - 1, by omega, by omega, ?_, putI acc l vd, _, er, Nat.le_trans putI_len hlt, upd_same, ?_⟩
                  · intro c o ec
                    rw [upd_ne fun z => by subst z; rw [nM] at ec; cases ec]
                    exact s5 _ _ (s4 _ _ (s3 _ _ (s2 _ _ ec)))
                  · rw [hidM]
                    exact zd_put hz5 hb5 qw
                · cases ep
            · cases ep
/-- {kx: vx for tg in iter} -/
theorem t_dict {scope : Scope} {own : List (Str × Nat)} (hu : X.A.units + 64 < cLine) (hc : X.calm = true) (hN : X.N.Nodup) (hi : TI' X W tg iter Fi) (ok : BlkOk X.N X.env.scope scope own)
    (hg : ∀ (s : Shared) (H : Hp) (C : Addr) (cl : List (Str × Addr)) (fp : List Addr), TT' (X.blk s H scope (compEnvC scope cl C X.env) fp) tg T js)
    (hk : ∀ (s : Shared) (H : Hp) (D : Addr) (cl : List (Str × Addr)) (fp : List Addr), TD (X.blk s H scope (compEnvC scope cl D X.env) fp) W0 kx Kf)
    (hv : ∀ (s : Shared) (H : Hp) (D : Addr) (cl : List (Str × Addr)) (fp : List Addr), TD (X.blk s H scope (compEnvC scope cl D X.env) fp) W0 vx Vf)
    {ws : List Nat} (hw : own.map (·.2) = ws := by rfl) (hj : ∀ j ∈ js, j ∈ own.map (·.2) := by decide) (hs : ∀ x, foldedSetIterable iter X.env x = pure x := by intro _; rfl) : PE X (.DictComp kx vx [⟨tg, iter, [], 0⟩] scope pos) (tR X.K X.mg W (rM X.K) (dictE Fi T Kf Vf ws)) := by
  subst hw
  exact peW (pe_dx (by omega) hc hN hi ok (fun s H C cl fp => show PG _ tg (gD X.K T js) from hg s H C cl fp) (fun s H C cl fp => show PE _ kx (tR X.K X.mg W0 (rD X.K) Kf) from hk s H C cl fp) (fun s H C cl fp => show PE _ vx (tR X.K X.mg W0 (rD X.K) Vf) from hv s H C cl fp) hs) fun σ H Q h => dx_t hj h
/-- places[key] -/
def zget (i : Nat) (Fk : Nv → R D) : Nv → R D := fun η => match η[i]? with
  | some (.m ks) => (Fk η).bind fun k => .of (atM ks k)
  | _ => .no
theorem t_zget (i : Nat) {x : Str} {p : Pos} (hu : X.A.units + 64 < cLine) (hk : TD X W e Fk) (hN : X.N[i]? = some x := by rfl) (hs : NoSl e := by exact fun _ _ => rfl)
    (hv : Vis X.env.scope x := by first | exact Or.inl rfl | exact Or.inr (Or.inl rfl) | exact Or.inr (Or.inr rfl)) (hd : (x == ("__debug__" : Str)) = false := by decide)
    (hcd : (x == ("__classdict__" : Str)) = false := by decide) : TD X W (.Subscript (.Name x p) e pos) (zget i Fk) := by
  refine ⟨fun pins s σ H Q I h => ?_⟩
  obtain ⟨η, A, E, p0⟩ := h
  have p : Post X.K X.mg W (rD X.K) σ A H (zget i Fk η) Q := p0
  unfold zget at p
  split at p
  · rename_i ks em
    obtain ⟨o, eo, q⟩ := E.at_ i _ em
    match o, q, eo with
    | some (.ref z), q, eo =>
      have q : DcR X.K (hid A H) z ks := q
      refine subD_of PySem.F.slot_dict_getitem.lookup hs (thn ((pe_var hN hv hd hcd).run pins s σ H (fun v H1 => v = .ref z ∧ H = H1) I ⟨.ref z, eo, rfl, rfl⟩) fun u s1 ⟨v1, H1, I1, r1, e1, e2⟩ => ?_)
      subst e1 e2
      obtain rfl : u = Value.ref z := r1
      refine thn (hk.run pins s1 σ H _ I1 (show tR X.K X.mg W (rD X.K) Fk σ H (fun y H2 => ∃ kd d, Same H H2 ∧ Dp X.K (hid A H2) y kd ∧ atM ks kd = some d ∧ ∀ v H', Same H2 H' → rD X.K H2 H' A v d → Q v H') from ⟨η, A, E, ?_⟩)) fun iv s2 ⟨y, H2, I2, ry, kd, d, s12, qk, ea, fin⟩ => ?_
      · cases e3 : Fk η with
        | ex c w q' => rw [e3] at p; exact p
        | no => rw [e3] at p; exact p
        | ok kd =>
          rw [e3] at p
          have p : Post X.K X.mg W (rD X.K) σ A H (.of (atM ks kd)) Q := p
          intro y H2 s12 qk
          cases ea : atM ks kd with
          | none => rw [ea] at p; exact False.elim p
          | some d =>
            rw [ea] at p
            exact ⟨kd, d, s12, qk, ea, fun v H' s q => p v H' (s12.trans s) q⟩
      · obtain ⟨far, _, zs, hz, hp⟩ := q.same (hid_same s12)
        have hz2 : H2 z = some (dco z zs) := (hid_some hz).2
        unfold atM at ea
        split at ea
        · rename_i kds
          cases ei : ints? kds with
          | none => rw [ei] at ea; cases ea
          | some l =>
            rw [ei] at ea
            obtain ⟨v, ez, qv⟩ := zd_at hp (show atI ks l = some d from ea)
            obtain ⟨b, rfl, hb⟩ := key_of_dp qk ei
            cases (show iv = Value.ref b from ry)
            have keys : ∀ z ∈ zs, SqT X.K H2 z.2.1 (z.1.map V.int) := fun z mz => sqT_same (hid_le _ _) (zd_keys hp z mz)
            have kind : s2.TypeIs (.ref z) "dict" := by
              obtain ⟨xs, _, dd⟩ := dco_rows I2 hz2 keys
              exact dd.typeIs
            refine ⟨kind, dco_get (by omega) I2 hz2 keys (sqT_same (hid_le _ _) hb) ez fun u s3 I3 ru => ⟨v, H2, I3, ru, fin v H2 (Same.refl _) qv⟩⟩
        · cases ea
  · exact False.elim p
theorem own_setM {η : Nv} {i j : Nat} {ks : List (D × D)} {xs : OL} (h : (η.set i (.m ks))[j]? = some (.own xs)) : j ≠ i ∧ η[j]? = some (.own xs) := by
  by_cases hj : i = j
  · subst hj
    by_cases hl : i < η.length
    · rw [List.getElem?_set_self hl] at h
      cases h
    · rw [List.getElem?_eq_none (by rw [List.length_set]; omega)] at h
      cases h
  · rw [List.getElem?_set_ne hj] at h
    exact ⟨fun z => hj z.symm, h⟩
theorem EnvD.setM {K : PySem.W.Frag} {H : Hp} {A : List Addr} {σ : L2.St} {η : Nv} {i : Nat} {z : Addr} {ks : List (D × D)} (E : EnvD K H A σ η) (q : DcR K (hid A H) z ks) : EnvD K H A (σ.set i (some (.ref z))) (η.set i (.m ks)) where
  len := by rw [List.length_set, List.length_set, E.len]
  at_ := fun j s e => by
    by_cases hj : i = j
    · subst hj
      have hl : i < η.length := by
        have := (List.getElem?_eq_some_iff.mp e).1
        rwa [List.length_set] at this
      rw [List.getElem?_set_self hl] at e
      cases e
      exact ⟨some (.ref z), by rw [List.getElem?_set_self (by rw [E.len]; exact hl)], q⟩
    · rw [List.getElem?_set_ne hj] at e ⊢
      exact E.at_ j s e
  ap := fun j k a xs ys e1 e2 e3 e4 => by
    obtain ⟨n1, e1⟩ := own_setM e1
    obtain ⟨n2, e2⟩ := own_setM e2
    rw [List.getElem?_set_ne fun z => n1 z.symm] at e3
    rw [List.getElem?_set_ne fun z => n2 z.symm] at e4
    exact E.ap j k a xs ys e1 e2 e3 e4
  tr := E.tr
theorem EnvS.setM {K : PySem.W.Frag} {M : List Addr} {H0 : Hp} {A0 : List Addr} {H : Hp} {B : List Addr} {σ : L2.St} {η : Nv} {i : Nat} {z : Addr} {ks : List (D × D)} (e : EnvS K M H0 A0 H B σ η) (q : DcR K (hid (B ++ A0) H) z ks) : EnvS K M H0 A0 H B (σ.set i (some (.ref z))) (η.set i (.m ks)) where
  env := e.env.setM q
  same := e.same
  mA := e.mA
  new := e.new
  own := fun j a xs h1 h2 => by
    obtain ⟨n, h1⟩ := own_setM h1
    rw [List.getElem?_set_ne fun z => n z.symm] at h2
    exact e.own j a xs h1 h2
variable {f : Fx}
/-- name = a dict -/
def setM (i : Nat) (F : Nv → R D) : Nv → Rs := fun η => (F η).toS fun x => match x with
  | .dict ks => .nx (η.set i (.m ks))
  | _ => .no
theorem s_setM (i : Nat) {x : Str} {pos' : Pos} (hN : X.N.Nodup) (he : PE X e (tR X.K X.mg f.W (rM X.K) F)) (hi : X.N[i]? = some x := by rfl) (hx : Loc X.env.scope x := by first | exact Or.inl rfl | exact Or.inr rfl) (hs : swapsWith e (some (.Name x pos')) pos.line X.env = pure false := by rfl)
    (hf : X.fn x = true ∨ X.env.scope.names.lookup x = some .local := by first | exact .inl rfl | exact .inr rfl) : TS' X f (.Assign [.Name x pos'] e pos) (setM i F) :=
  psW (ps_set hN hi hx he hs hf) fun E σ H h => toS_R h fun η B H1 v d e0 e s q p => by
    obtain ⟨z, ks, rfl, rfl, hd⟩ := q
    exact p _ H1 B (e.setM hd) (hid_same s)
end
end Bd
/-! D26: is True, is False, is not True, is not False. -/
namespace Bd
open PySem L2
/-- a thing of data -/
def Dat : V → Prop
  | .non | .bl _ | .int _ | .str _ | .ref _ => True
  | _ => False
section
variable {X : Cx} {W : WX} {a b : Expr} {Fa Fb : Nv → R D} {pos : Pos}
theorem same_bl {x : V} {v : Value} {k : Bool} (hx : Dat x) (rx : RelV x v) : isSame v (.bool k) = pure (decide (x = .bl k)) := by
  cases x <;> first | exact hx.elim | skip
  all_goals first
    | (cases rx; first | rfl | (rename_i c; cases c <;> cases k <;> rfl))
    | (obtain ⟨t, rfl⟩ := rx; rfl)
theorem op_isB : OpR X (compareOp .Is) (fun x y H Q => ∃ k, y = .bl k ∧ Dat x ∧ Q (.bl (decide (x = .bl k))) H) := by
  intro pins s σ H x y v u Q I rx ry h
  obtain ⟨k, rfl, hx, q⟩ := h
  cases ry
  show wpAny _ _ ((isSame v (Value.bool k)) >>= fun z => pure (Value.bool z)) _ _ s
  rw [same_bl hx rx]
  exact wpAny_bind (wpAny_pure (wpAny_pure (fin_bl I q rfl)))
theorem op_isnotB : OpR X (compareOp .IsNot) (fun x y H Q => ∃ k, y = .bl k ∧ Dat x ∧ Q (.bl (!decide (x = .bl k))) H) := by
  intro pins s σ H x y v u Q I rx ry h
  obtain ⟨k, rfl, hx, q⟩ := h
  cases ry
  show wpAny _ _ ((isSame v (Value.bool k)) >>= fun z => pure (Value.bool (!z))) _ _ s
  rw [same_bl hx rx]
  exact wpAny_bind (wpAny_pure (wpAny_pure (fin_bl I q rfl)))
theorem dat_of {K : PySem.W.Frag} {H : Hp} {v : V} {d : D} (h : Dp K H v d) : Dat v := by cases h <;> trivial
def isB (k : Bool) : D → Bool
  | .bool c => c == k
  | _ => false
theorem isB_of {K : PySem.W.Frag} {H : Hp} {v : V} {d : D} {k : Bool} (h : Dp K H v d) : decide (v = .bl k) = isB k d := by
  cases h <;> first | (exact decide_eq_false fun z => by cases z) | skip
  rename_i c
  cases c <;> cases k <;> rfl
def isBV (x y : D) : Option D := match y with
  | .bool k => some (.bool (isB k x))
  | _ => none
def isnotBV (x y : D) : Option D := match y with
  | .bool k => some (.bool (!isB k x))
  | _ => none
theorem o_isB : Op2 X rB (fun x y H Q => ∃ k, y = .bl k ∧ Dat x ∧ Q (.bl (decide (x = .bl k))) H) isBV := fun H A x y a b d Q hA ha hb e k => by
  unfold isBV at e
  split at e
  · have e := Option.some.inj e
    subst e
    exact ⟨_, rO_bool hb, dat_of (rO_dp ha), by rw [isB_of (rO_dp ha)]; exact k _ H (Same.refl _) ⟨_, rfl, rfl⟩⟩
  · cases e
theorem o_isnotB : Op2 X rB (fun x y H Q => ∃ k, y = .bl k ∧ Dat x ∧ Q (.bl (!decide (x = .bl k))) H) isnotBV := fun H A x y a b d Q hA ha hb e k => by
  unfold isnotBV at e
  split at e
  · have e := Option.some.inj e
    subst e
    exact ⟨_, rO_bool hb, dat_of (rO_dp ha), by rw [isB_of (rO_dp ha)]; exact k _ H (Same.refl _) ⟨_, rfl, rfl⟩⟩
  · cases e
theorem t_isB (ha : TO X W a Fa) (hb : TO X W b Fb) : TD X W (.Compare a [.Is] [b] pos) (e2 isBV Fa Fb) := t_cmpB op_isB o_isB ha hb (nomark _)
theorem t_isnotB (ha : TO X W a Fa) (hb : TO X W b Fb) : TD X W (.Compare a [.IsNot] [b] pos) (e2 isnotBV Fa Fb) := t_cmpB op_isnotB o_isnotB ha hb (nomark _)
theorem b_isB (ha : TO X W a Fa) (hb : TO X W b Fb) : TB X W (.Compare a [.Is] [b] pos) (tb (e2 isBV Fa Fb)) := b_cmp op_isB o_isB ha hb (nomark _)
theorem b_isnotB (ha : TO X W a Fa) (hb : TO X W b Fb) : TB X W (.Compare a [.IsNot] [b] pos) (tb (e2 isnotBV Fa Fb)) := b_cmp op_isnotB o_isnotB ha hb (nomark _)
theorem isBV_b (c k : Bool) : isBV (.bool c) (.bool k) = some (.bool (c == k)) := rfl
theorem isnotBV_b (c k : Bool) : isnotBV (.bool c) (.bool k) = some (.bool (!(c == k))) := rfl
end
end Bd
/-! Q1: dicts reckoned; the positions of faces, rims, the rim of a rim. -/
namespace Bd
open PySem L2

section
variable {QD : D → Prop} {η : Nv} {N B C : Nv → Prop} {T : D → Nv → Prop}
theorem sn_setM {i : Nat} {F : Nv → R D} : Sn (setM i F η) N T B C ↔ Wn (F η) fun d => ∃ ks, d = .dict ks ∧ N (η.set i (.m ks)) := by
  unfold setM
  rw [sn_toS]
  constructor <;> refine fun h => h.imp fun d h => ?_
  · split at h
    · exact ⟨_, rfl, sn_nx'.mp h⟩
    · exact (sn_no.mp h).elim
  · obtain ⟨ks, rfl, h⟩ := h
    exact sn_nx'.mpr h
theorem wn_zget {i : Nat} {Fk : Nv → R D} {ks : List (D × D)} (h : η[i]? = some (.m ks)) : Wn (zget i Fk η) QD ↔ Wn (Fk η) fun k => Wn (.of (atM ks k)) QD := by
  unfold zget
  rw [h]
  exact wn_bind
end
theorem isK_tup (r k : Row) : isK (tupI r) k = decide (r = k) := by
  show decide (ints? (r.map PyData.int) = some k) = _
  rw [ints?_map]
  exact decide_eq_decide.mpr ⟨fun e => Option.some.inj e, fun e => by rw [e]⟩
theorem hasI_snoc (acc : List (D × D)) (r k : Row) (v : D) : hasI (acc ++ [(tupI r, v)]) k = (hasI acc k || decide (r = k)) := by
  show (acc ++ [(tupI r, v)]).any (fun p => isK p.1 k) = _
  rw [List.any_append]
  show (hasI acc k || (isK (tupI r) k || false)) = _
  rw [isK_tup, Bool.or_false]
theorem dictD_ok {Tg : Tgt} {Kf Vf : Nv → R D} {η : Nv} (kl : D → Row) (vf : D → D) : ∀ {xs : List D} {acc : List (D × D)}, (∀ x ∈ xs, ∃ η1, Tg x η = some η1 ∧ Kf η1 = .ok (tupI (kl x)) ∧ Vf η1 = .ok (vf x)) →
    acc.length + xs.length ≤ lineN → (∀ x ∈ xs, hasI acc (kl x) = false) → (xs.map kl).Nodup → dictD Tg Kf Vf η acc xs = .ok (acc ++ xs.map fun x => (tupI (kl x), vf x))
  | [], acc, _, _, _, _ => by
    rw [List.map_nil, List.append_nil]
    rfl
  | x :: xs, acc, st, hz, hf, nd => by
    obtain ⟨η1, e1, e2, e3⟩ := st x List.mem_cons_self
    rw [List.map_cons, List.nodup_cons] at nd
    unfold dictD
    rw [e1]
    dsimp only
    rw [e2, R.ok_bindN, e3, R.ok_bindN]
    have p : putM acc (tupI (kl x)) (vf x) = some (acc ++ [(tupI (kl x), vf x)]) := by
      show (ints? ((kl x).map PyData.int)).bind _ = _
      rw [ints?_map]
      show (if acc.length < lineN then some (putI acc (kl x) (vf x)) else none) = _
      rw [List.length_cons] at hz
      rw [if_pos (by omega)]
      unfold putI
      rw [hf x List.mem_cons_self]
      rfl
    rw [p]
    dsimp only
    rw [dictD_ok kl vf (fun y m => st y (List.mem_cons_of_mem _ m)) (by rw [List.length_append]; rw [List.length_cons] at hz; simp only [List.length_cons, List.length_nil]; omega) (fun y m => ?_) nd.2]
    · rw [List.append_assoc, List.map_cons]
      rfl
    · rw [hasI_snoc, hf y (List.mem_cons_of_mem _ m), Bool.false_or, decide_eq_false_iff_not]
      exact fun e => nd.1 (List.mem_map.mpr ⟨y, m, e.symm⟩)
theorem wn_dict {Fi : Nv → R (List D)} {Tg : Tgt} {Kf Vf : Nv → R D} {vs : List Nat} {η : Nv} {QD : D → Prop} {xs : List D} (kl : D → Row) (vf : D → D) (hi : Wn (Fi η) (· = xs)) (st : ∀ x ∈ xs, ∃ η1, Tg x (wipeE η vs) = some η1 ∧ Kf η1 = .ok (tupI (kl x)) ∧ Vf η1 = .ok (vf x))
    (hz : xs.length ≤ lineN) (nd : (xs.map kl).Nodup) (q : QD (.dict (xs.map fun x => (tupI (kl x), vf x)))) : Wn (dictE Fi Tg Kf Vf vs η) QD := by
  obtain ⟨ys, e, rfl⟩ := hi.get
  unfold dictE
  rw [wn_bind]
  refine Wn.mk e ?_
  rw [wn_bindN]
  refine Wn.mk (dictD_ok kl vf st (by simpa using hz) (fun _ _ => rfl) nd) (wn_ok.mpr ?_)
  simpa using q
/-! ### positions -/
def posI (os : List Row) (f : Row) : Int := (os.idxOf f : Nat)
def swD : D → D × D
  | .tuple [i, s] => (s, i)
  | _ => (.none, .none)
theorem atI_enum (f : Row) : ∀ {os : List Row} {n : Nat}, f ∈ os → atI ((enumD n (os.map tupI)).map swD) f = some (.int (((n + os.idxOf f : Nat)) : Int))
  | [], _, m => absurd m List.not_mem_nil
  | s :: os, n, m => by
    show ((_ :: ((enumD (n + 1) (os.map tupI)).map swD)).find? fun p => isK p.1 f).map (·.2) = _
    rw [List.find?_cons]
    show (match isK (tupI s) f with | true => _ | false => _ : Option (D × D)).map (·.2) = _
    rw [isK_tup]
    by_cases c : s = f
    · rw [decide_eq_true c]
      subst c
      rw [List.idxOf_cons_self]
      rfl
    · rw [decide_eq_false c]
      have m2 : f ∈ os := (List.mem_cons.mp m).elim (fun e => absurd e.symm c) id
      have ih := atI_enum f (n := n + 1) m2
      unfold atI at ih
      have e0 : List.idxOf f (s :: os) = List.idxOf f os + 1 := by
        rw [List.idxOf_cons, beq_eq_false_iff_ne.mpr c]
        rfl
      rw [ih, e0, Nat.add_right_comm, Nat.add_assoc]
theorem pos_lt {os : List Row} {f : Row} (m : f ∈ os) : 0 ≤ posI os f ∧ posI os f < (os.length : Int) := by
  have := List.idxOf_lt_length_iff.mpr m
  unfold posI
  omega
theorem pos_inj {os : List Row} {f g : Row} (mf : f ∈ os) (mg : g ∈ os) (e : posI os f = posI os g) : f = g := by
  have e : os.idxOf f = os.idxOf g := by
    unfold posI at e
    omega
  have h1 := List.getElem_idxOf (List.idxOf_lt_length_iff.mpr mf)
  have h2 := List.getElem_idxOf (List.idxOf_lt_length_iff.mpr mg)
  rw [← h1, ← h2]
  congr 1
theorem row_pos {os : List Row} {f : Row} {F : Row → Row} (m : f ∈ os) : rowAt (os.map F) (posI os f) = F f := by
  unfold rowAt posI
  rw [Int.toNat_natCast, List.getD_eq_getElem?_getD, List.getElem?_map, List.getElem?_eq_getElem (List.idxOf_lt_length_iff.mpr m), List.getElem_idxOf]
  rfl
theorem Ordr.faces : ∀ {os : List Row}, Ordr os → ∀ s ∈ os, ∀ f ∈ facesL s, f ∈ os
  | _, .nil, s, m => absurd m List.not_mem_nil
  | _, .snoc h _ _ hf, x, m => fun f mf => by
    rcases List.mem_append.mp m with m | m
    · exact List.mem_append_left _ (h.faces x m f mf)
    · rw [List.mem_singleton.mp m] at mf
      exact List.mem_append_left _ (hf f mf)
theorem Ordr.nodup : ∀ {os : List Row}, Ordr os → os.Nodup
  | _, .nil => List.nodup_nil
  | _, .snoc h _ hn _ => List.nodup_append.mpr ⟨h.nodup, List.nodup_cons.mpr ⟨List.not_mem_nil, List.nodup_nil⟩, fun a ma b mb e => by
    rw [List.mem_singleton.mp mb] at e
    exact hn (e ▸ ma)⟩
/-- a simplex by its vertices -/
theorem Smp.cases {s : Row} (h : Smp s) : (∃ a, s = [a]) ∨ (∃ a b, s = [a, b] ∧ a < b) ∨ ∃ a b c, s = [a, b, c] ∧ a < b ∧ b < c := by
  have asc := h.u.asc
  have lo := h.lo
  have hi := h.hi
  match s, asc, lo, hi with
  | [a], _, _, _ => exact .inl ⟨a, rfl⟩
  | [a, b], asc, _, _ => exact .inr (.inl ⟨a, b, rfl, (List.pairwise_cons.mp asc).1 b List.mem_cons_self⟩)
  | [a, b, c], asc, _, _ => exact .inr (.inr ⟨a, b, c, rfl, (List.pairwise_cons.mp asc).1 b List.mem_cons_self, (List.pairwise_cons.mp (List.pairwise_cons.mp asc).2).1 c List.mem_cons_self⟩)
theorem faces1 (a : Int) : facesL [a] = [] := rfl
theorem faces2 (a b : Int) : facesL [a, b] = [[b], [a]] := rfl
theorem faces3 (a b c : Int) : facesL [a, b, c] = [[b, c], [a, c], [a, b]] := rfl
theorem faces_nodup {s : Row} (h : Smp s) : (facesL s).Nodup := by
  rcases h.cases with ⟨a, rfl⟩ | ⟨a, b, rfl, h1⟩ | ⟨a, b, c, rfl, h1, h2⟩
  · exact List.nodup_nil
  · rw [faces2]
    have : a ≠ b := Int.ne_of_lt h1
    simp [Ne.symm this]
  · rw [faces3]
    have n1 : a ≠ b := Int.ne_of_lt h1
    have n2 : b ≠ c := Int.ne_of_lt h2
    simp [Ne.symm n1, Ne.symm n2]
def rimL (os : List Row) (s : Row) : Row := isort ((facesL s).map (posI os))
theorem rim_nodup {os : List Row} {s : Row} (h : Ordr os) (m : s ∈ os) : ((facesL s).map (posI os)).Nodup :=
  List.pairwise_map.mpr ((faces_nodup (h.smp s m)).imp_of_mem fun ma mb ne e => ne (pos_inj (h.faces s m _ ma) (h.faces s m _ mb) e))
theorem rim_asc {os : List Row} {s : Row} (h : Ordr os) (m : s ∈ os) : Asc (rimL os s) := asc_sort (rim_nodup h m)
theorem mem_rim {os : List Row} {s : Row} {x : Int} : x ∈ rimL os s ↔ ∃ f ∈ facesL s, posI os f = x := by
  unfold rimL
  rw [(isort_perm _).mem_iff, List.mem_map]
theorem rim_in {os : List Row} {s : Row} (h : Ordr os) (m : s ∈ os) : InU (Pg.uptoI os.length) (rimL os s) := ⟨rim_asc h m, fun x mx => by
  obtain ⟨f, mf, rfl⟩ := mem_rim.mp mx
  have := List.idxOf_lt_length_iff.mpr (h.faces s m f mf)
  exact List.mem_map.mpr ⟨os.idxOf f, List.mem_range.mpr this, rfl⟩⟩
/-- all rims -/
def rimsL (os : List Row) : List Row := os.map (rimL os)
theorem rims_in {os : List Row} (h : Ordr os) : ∀ r ∈ rimsL os, InU (Pg.uptoI os.length) r := fun r m => by
  obtain ⟨s, ms, rfl⟩ := List.mem_map.mp m
  exact rim_in h ms
theorem rims_asc {os : List Row} (h : Ordr os) : AscR (rimsL os) := fun r m => (rims_in h r m).asc
theorem sumAt_in {U : List Int} {rows : List Row} (h : ∀ r ∈ rows, InU U r) (idx : List Int) : InU U (sumAt rows idx) := by
  have go : ∀ l : List Row, (∀ r ∈ l, InU U r) → InU U (sumR l) := fun l => by
    induction l with
    | nil => exact fun _ => .nil
    | cons r l ih => exact fun q => (q r List.mem_cons_self).sum (ih fun y m => q y (List.mem_cons_of_mem _ m))
  exact go _ (rowAt_in h idx)
/-- a rim's rim: by the faces -/
theorem rim_faces {os : List Row} {s : Row} (h : Ordr os) (m : s ∈ os) : sumAt (rimsL os) (rimL os s) = sumR ((facesL s).map (rimL os)) := by
  have p : (rimL os s).Perm ((facesL s).map (posI os)) := isort_perm _
  unfold sumAt
  rw [sumR_perm (p.map (rowAt (rimsL os))) (rowAt_all (rims_asc h) _), List.map_map]
  congr 1
  refine List.map_congr_left fun f mf => ?_
  exact row_pos (h.faces s m f mf)
theorem rim_rim {os : List Row} {s : Row} (h : Ordr os) (m : s ∈ os) : sumAt (rimsL os) (rimL os s) = [] := by
  rw [rim_faces h m]
  have fin := h.faces s m
  rcases (h.smp s m).cases with ⟨a, rfl⟩ | ⟨a, b, rfl, h1⟩ | ⟨a, b, c, rfl, h1, h2⟩
  · rfl
  · rfl
  · rw [faces3] at fin ⊢
    have m1 := fin [b, c] (by simp)
    have m2 := fin [a, c] (by simp)
    have m3 := fin [a, b] (by simp)
    have a1 := rim_asc h m1
    have a2 := rim_asc h m2
    have a3 := rim_asc h m3
    show sumL (rimL os [b, c]) (sumL (rimL os [a, c]) (sumL (rimL os [a, b]) [])) = []
    refine asc_ext (sumL_asc a1 (sumL_asc a2 (sumL_asc a3 .nil))) .nil fun x => ?_
    have q1 : x ∈ rimL os [b, c] ↔ posI os [c] = x ∨ posI os [b] = x := by rw [mem_rim, faces2]; simp
    have q2 : x ∈ rimL os [a, c] ↔ posI os [c] = x ∨ posI os [a] = x := by rw [mem_rim, faces2]; simp
    have q3 : x ∈ rimL os [a, b] ↔ posI os [b] = x ∨ posI os [a] = x := by rw [mem_rim, faces2]; simp
    have va : [a] ∈ os := h.faces _ m2 _ (by rw [faces2]; simp)
    have vb : [b] ∈ os := h.faces _ m1 _ (by rw [faces2]; simp)
    have vc : [c] ∈ os := h.faces _ m1 _ (by rw [faces2]; simp)
    have nab : posI os [a] ≠ posI os [b] := fun e => by
      have := pos_inj va vb e
      simp at this
      omega
    have nac : posI os [a] ≠ posI os [c] := fun e => by
      have := pos_inj va vc e
      simp at this
      omega
    have nbc : posI os [b] ≠ posI os [c] := fun e => by
      have := pos_inj vb vc e
      simp at this
      omega
    rw [mem_sumL, mem_sumL, mem_sumL, q1, q2, q3]
    simp only [List.not_mem_nil, not_false_eq_true, and_true, false_and, or_false, iff_false]
    omega
theorem sumAt_sumR {rows : List Row} (h : AscR rows) : ∀ {rs : List Row}, AscR rs → sumAt rows (sumR rs) = sumR (rs.map (sumAt rows))
  | [], _ => rfl
  | r :: rs, q => by
    show sumAt rows (sumL r (sumR rs)) = sumL (sumAt rows r) (sumR (rs.map (sumAt rows)))
    rw [sumAt_sum h q.head (sumR_asc q.tail), sumAt_sumR h q.tail]
theorem sumR_nils {α : Type} : ∀ l : List α, sumR (l.map fun _ => ([] : Row)) = []
  | [] => rfl
  | _ :: l => by
    show sumL [] (sumR (l.map fun _ => [])) = []
    rw [sumR_nils l]
    rfl
/-- the rim of a chain -/
def bdy (os : List Row) (c : Row) : Row := sumAt (rimsL os) c
theorem bdy_in {os : List Row} (h : Ordr os) (c : Row) : InU (Pg.uptoI os.length) (bdy os c) := sumAt_in (rims_in h) c
theorem bdy_bdy {os : List Row} (h : Ordr os) (c : Row) : bdy os (bdy os c) = [] := by
  have all : ∀ r ∈ c.map (rowAt (rimsL os)), sumAt (rimsL os) r = [] := fun r m => by
    obtain ⟨i, _, rfl⟩ := List.mem_map.mp m
    unfold rowAt
    rw [List.getD_eq_getElem?_getD]
    cases e : (rimsL os)[i.toNat]? with
    | none => rfl
    | some r =>
      obtain ⟨s, ms, rfl⟩ := List.mem_map.mp (List.mem_of_getElem? e)
      exact rim_rim h ms
  show sumAt (rimsL os) (sumR (c.map (rowAt (rimsL os)))) = []
  rw [sumAt_sumR (rims_asc h) (rowAt_all (rims_asc h) c), List.map_congr_left all]
  exact sumR_nils _
theorem bdy_sum {os : List Row} (h : Ordr os) {a b : Row} (ha : Asc a) (hb : Asc b) : bdy os (sumL a b) = sumL (bdy os a) (bdy os b) := sumAt_sum (rims_asc h) ha hb
end Bd
/-! Q2: the program's faces, rims, boundaries; the laws' sums, edges, rims. -/
namespace Bd
open PySem L2
theorem wn_m2 {f : List D → D → Option D} {Fo Fe : Nv → R D} {η : Nv} {QD : D → Prop} (h : Wn (Fo η) fun a => ∃ ds, a = .list ds ∧ Wn (Fe η) fun y => Wn (.of (f ds y)) QD) : Wn (m2 f Fo Fe η) QD := by
  unfold m2
  rw [wn_bind]
  refine h.imp fun a ⟨ds, e, q⟩ => ?_
  subst e
  dsimp only
  rw [wn_bind]
  exact q
theorem idxN_rows (f : Row) : ∀ {os : List Row}, f ∈ os → idxN (tupI f) (os.map tupI) = some (os.idxOf f)
  | [], m => absurd m List.not_mem_nil
  | s :: os, m => by
    show (if PyData.eqv (tupI s) (tupI f) then some 0 else (idxN (tupI f) (os.map tupI)).map (· + 1)) = _
    rw [eqv_tup]
    by_cases c : s = f
    · subst c
      rw [if_pos (decide_eq_true rfl), List.idxOf_cons_self]
    · have m2 : f ∈ os := (List.mem_cons.mp m).elim (fun e => absurd e.symm c) id
      rw [if_neg (by rw [decide_eq_false c]; exact Bool.false_ne_true), idxN_rows f m2]
      have e0 : List.idxOf f (s :: os) = List.idxOf f os + 1 := by
        rw [List.idxOf_cons, beq_eq_false_iff_ne.mpr c]
        rfl
      rw [e0]
      rfl
theorem index_rows {os : List Row} {f : Row} (h : ∀ s ∈ os, Smp s) (hl : os.length ≤ 100) (m : f ∈ os) : indexV (os.map tupI) (tupI f) = some (.int (posI os f)) := by
  unfold indexV
  rw [if_pos ⟨(fine_os h hl).shaped (by decide), shaped_tup f⟩, idxN_rows f m]
  rfl
theorem rrD_up (n : Nat) : rrD n = ((Pg.uptoI n).map PyData.int).reverse := by
  unfold rrD Pg.uptoI
  rw [List.map_map, ← List.map_reverse]
  refine List.ext_getElem (by simp) fun i h1 h2 => ?_
  simp only [List.getElem_map, List.getElem_range, List.getElem_reverse, List.length_range, Function.comp]
  simp only [List.length_map, List.length_range] at h1
  congr 1
  omega
theorem wn_rr {n : Int} {QL : List D → Prop} (h0 : 0 ≤ n) (h : n < 1000000) (q : QL ((Pg.uptoI n.toNat).map PyData.int).reverse) : Wn (rr1 (.int n)) QL := by
  have e : rr1 (.int n) = .ok (rrD n.toNat) := by
    show (if -(2 ^ 62) ≤ n ∧ n < 2 ^ 62 then _ else _) = _
    rw [if_pos ⟨by omega, by omega⟩]
  exact Wn.mk e (by rw [rrD_up]; exact q)
namespace Cb
def G_dimension_of : Nv → Rs :=
    (seqS (retS (e2 subV (eN lenV (aC (gv 0) a0)) (k0 (.int 1))))
    .nx)
def F_dimension_of : List D → R D := runD 1 (.ok .none) G_dimension_of
def G_faces_of : Nv → Rs :=
    (seqS (ifS (tb (e2 eqV' (callV F_dimension_of (aC (gv 0) a0)) (k0 (.int 0)))) (seqS (retS (lstV a0))
    .nx) .nx)
    (seqS (retS (compE (iRR (eN lenV (aC (gv 0) a0))) (gN 1) (fun _ => .ok true) (e2 addV (slE slV (gv 0) p0 (p1 (gv 1))) (slE slV (gv 0) (p1 (e2 addV (gv 1) (k0 (.int 1)))) p0)) [1]))
    .nx))
def F_faces_of : List D → R D := runD 2 .no G_faces_of
def G_summed : Nv → Rs :=
    (seqS (setS 1 (tupV a0))
    (seqS (forS (iA (gv 0)) (gN 2) (seqS (setS 1 (callV Pg.F_added (aC (gv 1) (aC (gv 2) a0))))
    .nx))
    (seqS (retS (gv 1))
    .nx)))
def F_summed : List D → R D := runD 3 (.ok .none) G_summed
def G_own_boundaries : Nv → Rs :=
    (seqS (setM 1 (dictE (iEn (aC (gv 0) a0)) (gT 2 (gsC (gN 2) (gsC (gN 3) gs0))) (gv 3) (gv 2) [2, 3]))
    (seqS (retS (compE (iA (gv 0)) (gN 3) (fun _ => .ok true) (eN tupleV (aC (eN sortAV (aC (compE (iA (callV F_faces_of (aC (gv 3) a0))) (gN 4) (fun _ => .ok true) (zget 1 (gv 4)) [4]) a0)) a0)) [3]))
    .nx))
def F_own_boundaries : List D → R D := runD 5 .no G_own_boundaries
def G_boundaries : Nv → Rs :=
    (seqS (setS 2 (callV F_own_boundaries (aC (gv 0) a0)))
    (seqS (retS (compE (iA (gv 1)) (gN 3) (fun _ => .ok true) (callV F_summed (aC (compE (iA (gv 3)) (gN 4) (fun _ => .ok true) (e2 ixV (gv 2) (gv 4)) [4]) a0)) [3]))
    .nx))
def F_boundaries : List D → R D := runD 5 .no G_boundaries
def G_boundary : Nv → Rs :=
    (seqS (retS (e2 ixV (callV F_boundaries (aC (gv 0) (aC (lstV (aC (gv 1) a0)) a0))) (k0 (.int 0))))
    .nx)
def F_boundary : List D → R D := runD 2 (.ok .none) G_boundary
def G_is_cycle : Nv → Rs :=
    (seqS (retS (e2 eqV' (callV F_boundary (aC (gv 0) (aC (gv 1) a0))) (tupV a0)))
    .nx)
def F_is_cycle : List D → R D := runD 2 (.ok .none) G_is_cycle
def G__law_sum : Nv → Rs :=
    (seqS (retS (eN sortAV (aC (e2 addV (compE (iA (gv 0)) (gN 2) (tb (e2 ninV' (gv 2) (gv 1))) (gv 2) [2]) (compE (iA (gv 1)) (gN 2) (tb (e2 ninV' (gv 2) (gv 0))) (gv 2) [2])) a0)))
    .nx)
def F__law_sum : List D → R D := runD 3 .no G__law_sum
def G__law_edge : Nv → Rs :=
    (seqS (retS (eN sortAV (aC (compE (iA (callV Od.F__law_faces (aC (e2 ixV (gv 0) (gv 1)) a0))) (gN 2) (fun _ => .ok true) (m2 indexV (gv 0) (gv 2)) [2]) a0)))
    .nx)
def F__law_edge : List D → R D := runD 3 .no G__law_edge
def G__law_rim : Nv → Rs :=
    (seqS (setS 2 (lstV a0))
    (seqS (forS (iA (gv 1)) (gN 3) (seqS (setS 2 (callV F__law_sum (aC (gv 2) (aC (callV F__law_edge (aC (gv 0) (aC (gv 3) a0))) a0))))
    .nx))
    (seqS (retS (eN tupleV (aC (gv 2) a0)))
    .nx)))
def F__law_rim : List D → R D := runD 4 (.ok .none) G__law_rim
theorem dim_ok {s : Row} (h : Smp s) : F_dimension_of [tupI s] = .ok (.int ((s.length : Int) - 1)) := by
  have ln : lenV [tupI s] = some (.int (s.length : Nat)) := by
    show some (PyData.int ((s.map PyData.int).length : Nat)) = _
    rw [List.length_map]
  refine Wn.eq (wn_runD ?_)
  show Sn (G_dimension_of [.d (tupI s)]) _ _ _ _
  unfold G_dimension_of
  simp only [wn_ok, wn_some, wn_only, wn_noex, wn_e2, wn_e1, wn_eN, wn_a0, wn_aC, wn_call, wn_tb, wn_tup, wn_lst, wn_andB, wn_orB, wn_notB, wn_andV, wn_orV, wn_notV, wn_ifV, wn_iA, wn_iR1, wn_iR2, wn_iZ, wn_iEn, wn_iRR, wn_sl, wn_p0, wn_p1, wn_up, wn_upB, wn_upI, wn_x2, wn_x0, wn_xC, wn_xN, wn_xb, wn_xAnd, wn_xOr, wn_xNot, wn_xIf, wn_xCall, wn_xR1, wn_xR2, sn_nx, sn_rt, sn_bk, sn_ct, sn_seq, sn_set, sn_ret, sn_expr, sn_if, sn_for, sn_xSet, sn_xRet, sn_xExpr, sn_xIf, sn_xFor, sn_asg, sn_xAsg, sn_own, sn_xOwn, gv_zero, gv_succ, go_own, go_dat, go_succ, k0_def, gN_def, tru_bool, tru_none, tru_int, tru_list, asSeq_list, asSeq_tup, addV_int, subV_int, ltA_i, leA_i, gtA_i, geA_i, negV_int, intV_int, lenV_list, lenV_tup, ixV_list, ixV_tup, asInt_int, slV_list, slV_tup, slL_list, revV_tup, revV_list, tupleV_list, listV_list, listV_tup, eqV_str, neV_str, eqV_int, List.set_cons_zero, List.set_cons_succ, List.getElem?_cons_zero, List.getElem?_cons_succ, List.length_cons, List.length_nil, ↓reduceIte, Bool.false_eq_true, Bool.not_true, Bool.not_false, wn_ite, gT2, gT3, neV_tup, eqV_tup, in_tup, notin_tup', lineN_eq, Nat.reduceAdd, Nat.reduceLeDiff, Nat.zero_le, true_and, and_true, List.map_nil, List.map_cons, exists_eq_left', Option.some.injEq, PyData.list.injEq, exists_eq_left, PyData.int.injEq, R.ok.injEq, Sl.own.injEq, ln]
theorem faces_ok {s : Row} (hs : Smp s) : F_faces_of [tupI s] = .ok (.list ((facesL s).reverse.map tupI)) := by
  have lo := hs.lo
  have hi := hs.hi
  have ln : lenV [tupI s] = some (.int (s.length : Nat)) := by
    show some (PyData.int ((s.map PyData.int).length : Nat)) = _
    rw [List.length_map]
  refine Wn.eq (wn_runD ?_)
  show Sn (G_faces_of [.d (tupI s), .no]) _ _ _ _
  unfold G_faces_of
  simp only [wn_ok, wn_some, wn_only, wn_noex, wn_e2, wn_e1, wn_eN, wn_a0, wn_aC, wn_call, wn_tb, wn_tup, wn_lst, wn_andB, wn_orB, wn_notB, wn_andV, wn_orV, wn_notV, wn_ifV, wn_iA, wn_iR1, wn_iR2, wn_iZ, wn_iEn, wn_iRR, wn_sl, wn_p0, wn_p1, wn_up, wn_upB, wn_upI, wn_x2, wn_x0, wn_xC, wn_xN, wn_xb, wn_xAnd, wn_xOr, wn_xNot, wn_xIf, wn_xCall, wn_xR1, wn_xR2, sn_nx, sn_rt, sn_bk, sn_ct, sn_seq, sn_set, sn_ret, sn_expr, sn_if, sn_for, sn_xSet, sn_xRet, sn_xExpr, sn_xIf, sn_xFor, sn_asg, sn_xAsg, sn_own, sn_xOwn, gv_zero, gv_succ, go_own, go_dat, go_succ, k0_def, gN_def, tru_bool, tru_none, tru_int, tru_list, asSeq_list, asSeq_tup, addV_int, subV_int, ltA_i, leA_i, gtA_i, geA_i, negV_int, intV_int, lenV_list, lenV_tup, ixV_list, ixV_tup, asInt_int, slV_list, slV_tup, slL_list, revV_tup, revV_list, tupleV_list, listV_list, listV_tup, eqV_str, neV_str, eqV_int, List.set_cons_zero, List.set_cons_succ, List.getElem?_cons_zero, List.getElem?_cons_succ, List.length_cons, List.length_nil, ↓reduceIte, Bool.false_eq_true, Bool.not_true, Bool.not_false, wn_ite, gT2, gT3, neV_tup, eqV_tup, in_tup, notin_tup', lineN_eq, Nat.reduceAdd, Nat.reduceLeDiff, Nat.zero_le, true_and, and_true, List.map_nil, List.map_cons, exists_eq_left', Option.some.injEq, PyData.list.injEq, exists_eq_left, PyData.int.injEq, R.ok.injEq, Sl.own.injEq, dim_ok hs]
  by_cases c : s.length = 1
  · have cb : ((s.length : Int) - 1 == 0) = true := by rw [beq_iff_eq]; omega
    rw [cb]
    simp only [↓reduceIte]
    unfold facesL
    rw [if_pos c]
    rfl
  · have cb : ((s.length : Int) - 1 == 0) = false := by rw [beq_eq_false_iff_ne]; omega
    rw [cb]
    simp only [Bool.false_eq_true, ↓reduceIte]
    refine wn_comp (xs := ((Pg.uptoI s.length).map PyData.int).reverse) (fun _ => true) (fun d => match d with | .int k => tupI (s.take k.toNat ++ s.drop (k.toNat + 1)) | _ => .none) ?_ ?_ ?_ ?_
    · simp only [wn_ok, wn_some, wn_only, wn_noex, wn_e2, wn_e1, wn_eN, wn_a0, wn_aC, wn_call, wn_tb, wn_tup, wn_lst, wn_andB, wn_orB, wn_notB, wn_andV, wn_orV, wn_notV, wn_ifV, wn_iA, wn_iR1, wn_iR2, wn_iZ, wn_iEn, wn_iRR, wn_sl, wn_p0, wn_p1, wn_up, wn_upB, wn_upI, wn_x2, wn_x0, wn_xC, wn_xN, wn_xb, wn_xAnd, wn_xOr, wn_xNot, wn_xIf, wn_xCall, wn_xR1, wn_xR2, sn_nx, sn_rt, sn_bk, sn_ct, sn_seq, sn_set, sn_ret, sn_expr, sn_if, sn_for, sn_xSet, sn_xRet, sn_xExpr, sn_xIf, sn_xFor, sn_asg, sn_xAsg, sn_own, sn_xOwn, gv_zero, gv_succ, go_own, go_dat, go_succ, k0_def, gN_def, tru_bool, tru_none, tru_int, tru_list, asSeq_list, asSeq_tup, addV_int, subV_int, ltA_i, leA_i, gtA_i, geA_i, negV_int, intV_int, lenV_list, lenV_tup, ixV_list, ixV_tup, asInt_int, slV_list, slV_tup, slL_list, revV_tup, revV_list, tupleV_list, listV_list, listV_tup, eqV_str, neV_str, eqV_int, List.set_cons_zero, List.set_cons_succ, List.getElem?_cons_zero, List.getElem?_cons_succ, List.length_cons, List.length_nil, ↓reduceIte, Bool.false_eq_true, Bool.not_true, Bool.not_false, wn_ite, gT2, gT3, neV_tup, eqV_tup, in_tup, notin_tup', lineN_eq, Nat.reduceAdd, Nat.reduceLeDiff, Nat.zero_le, true_and, and_true, List.map_nil, List.map_cons, exists_eq_left', Option.some.injEq, PyData.list.injEq, exists_eq_left, PyData.int.injEq, R.ok.injEq, Sl.own.injEq, ln]
      refine wn_rr (by omega) (by omega) ?_
      rw [Int.toNat_natCast]
    · intro x m
      obtain ⟨j, mj, rfl⟩ := List.mem_map.mp (List.mem_reverse.mp m)
      obtain ⟨k, hk, rfl⟩ := List.mem_map.mp mj
      refine ⟨_, rfl, wn_ok.mpr ⟨rfl, fun _ => ?_⟩⟩
      show Wn (e2 addV (slE slV (gv 0) p0 (p1 (gv 1))) (slE slV (gv 0) (p1 (e2 addV (gv 1) (k0 (.int 1)))) p0) [.d (tupI s), .d (.int (k : Nat))]) _
      simp only [wn_ok, wn_some, wn_only, wn_noex, wn_e2, wn_e1, wn_eN, wn_a0, wn_aC, wn_call, wn_tb, wn_tup, wn_lst, wn_andB, wn_orB, wn_notB, wn_andV, wn_orV, wn_notV, wn_ifV, wn_iA, wn_iR1, wn_iR2, wn_iZ, wn_iEn, wn_iRR, wn_sl, wn_p0, wn_p1, wn_up, wn_upB, wn_upI, wn_x2, wn_x0, wn_xC, wn_xN, wn_xb, wn_xAnd, wn_xOr, wn_xNot, wn_xIf, wn_xCall, wn_xR1, wn_xR2, sn_nx, sn_rt, sn_bk, sn_ct, sn_seq, sn_set, sn_ret, sn_expr, sn_if, sn_for, sn_xSet, sn_xRet, sn_xExpr, sn_xIf, sn_xFor, sn_asg, sn_xAsg, sn_own, sn_xOwn, gv_zero, gv_succ, go_own, go_dat, go_succ, k0_def, gN_def, tru_bool, tru_none, tru_int, tru_list, asSeq_list, asSeq_tup, addV_int, subV_int, ltA_i, leA_i, gtA_i, geA_i, negV_int, intV_int, lenV_list, lenV_tup, ixV_list, ixV_tup, asInt_int, slV_list, slV_tup, slL_list, revV_tup, revV_list, tupleV_list, listV_list, listV_tup, eqV_str, neV_str, eqV_int, List.set_cons_zero, List.set_cons_succ, List.getElem?_cons_zero, List.getElem?_cons_succ, List.length_cons, List.length_nil, ↓reduceIte, Bool.false_eq_true, Bool.not_true, Bool.not_false, wn_ite, gT2, gT3, neV_tup, eqV_tup, in_tup, notin_tup', lineN_eq, Nat.reduceAdd, Nat.reduceLeDiff, Nat.zero_le, true_and, and_true, List.map_nil, List.map_cons, exists_eq_left', Option.some.injEq, PyData.list.injEq, exists_eq_left, PyData.int.injEq, R.ok.injEq, Sl.own.injEq, tupI, cut_take (s.map PyData.int) (k : Int) (by omega), cut_drop (s.map PyData.int) ((k : Int) + 1) (by omega), Int.toNat_natCast, show ((k : Int) + 1).toNat = k + 1 by omega]
      rw [addV_tup (by rw [List.length_take, List.length_drop, List.length_map]; omega)]
      refine wn_some.mpr ?_
      show PyData.tuple _ = PyData.tuple _
      rw [List.map_append, List.map_take, List.map_drop]
    · rw [List.length_reverse, List.length_map, List.length_map, List.length_range, lineN_eq]
      omega
    · unfold facesL
      rw [if_neg c, List.filter_eq_self.mpr fun _ _ => rfl, List.map_reverse, List.map_reverse, List.map_map, List.map_map, List.map_map]
      rfl
theorem summed_ok {U : List Int} (hU : Asc U) (lU : U.length < 128) {rows : List Row} (h : ∀ r ∈ rows, InU U r) : F_summed [.list (rows.map tupI)] = .ok (tupI (sumR rows)) := by
  have e0 : sumR rows = rows.foldl sumL [] := by
    rw [fold_sumR (fun r m => (h r m).asc) .nil, sumL_nil (sumR_asc fun r m => (h r m).asc)]
  rw [e0]
  refine Wn.eq (wn_runD ?_)
  show Sn (G_summed [.d (.list (rows.map tupI)), .no, .no]) _ _ _ _
  unfold G_summed
  simp only [wn_ok, wn_some, wn_only, wn_noex, wn_e2, wn_e1, wn_eN, wn_a0, wn_aC, wn_call, wn_tb, wn_tup, wn_lst, wn_andB, wn_orB, wn_notB, wn_andV, wn_orV, wn_notV, wn_ifV, wn_iA, wn_iR1, wn_iR2, wn_iZ, wn_iEn, wn_iRR, wn_sl, wn_p0, wn_p1, wn_up, wn_upB, wn_upI, wn_x2, wn_x0, wn_xC, wn_xN, wn_xb, wn_xAnd, wn_xOr, wn_xNot, wn_xIf, wn_xCall, wn_xR1, wn_xR2, sn_nx, sn_rt, sn_bk, sn_ct, sn_seq, sn_set, sn_ret, sn_expr, sn_if, sn_for, sn_xSet, sn_xRet, sn_xExpr, sn_xIf, sn_xFor, sn_asg, sn_xAsg, sn_own, sn_xOwn, gv_zero, gv_succ, go_own, go_dat, go_succ, k0_def, gN_def, tru_bool, tru_none, tru_int, tru_list, asSeq_list, asSeq_tup, addV_int, subV_int, ltA_i, leA_i, gtA_i, geA_i, negV_int, intV_int, lenV_list, lenV_tup, ixV_list, ixV_tup, asInt_int, slV_list, slV_tup, slL_list, revV_tup, revV_list, tupleV_list, listV_list, listV_tup, eqV_str, neV_str, eqV_int, List.set_cons_zero, List.set_cons_succ, List.getElem?_cons_zero, List.getElem?_cons_succ, List.length_cons, List.length_nil, ↓reduceIte, Bool.false_eq_true, Bool.not_true, Bool.not_false, wn_ite, gT2, gT3, neV_tup, eqV_tup, in_tup, notin_tup', lineN_eq, Nat.reduceAdd, Nat.reduceLeDiff, Nat.zero_le, true_and, and_true, List.map_nil, List.map_cons, exists_eq_left', Option.some.injEq, PyData.list.injEq, exists_eq_left, PyData.int.injEq, R.ok.injEq, Sl.own.injEq]
  refine sn_loop (fun rest η => ∃ (rs : List Row) (a : Row) (s2 : Sl), rest = rs.map tupI ∧ (∀ r ∈ rs, InU U r) ∧ InU U a ∧ rs.foldl sumL a = rows.foldl sumL [] ∧ η = [.d (.list (rows.map tupI)), .d (tupI a), s2]) ?_ ?_ _ _ ⟨rows, [], .no, rfl, h, .nil, rfl, rfl⟩
  · rintro x rest η ⟨rs, a, s2, e1, hr, ha, ef, rfl⟩
    cases rs with
    | nil => cases e1
    | cons r rs =>
      obtain ⟨rfl, rfl⟩ := List.cons.inj e1
      have r1 := hr r List.mem_cons_self
      have la := r1.len hU
      have lb := ha.len hU
      refine ⟨[.d (.list (rows.map tupI)), .d (tupI a), .d (tupI r)], rfl, ?_⟩
      simp only [wn_ok, wn_some, wn_only, wn_noex, wn_e2, wn_e1, wn_eN, wn_a0, wn_aC, wn_call, wn_tb, wn_tup, wn_lst, wn_andB, wn_orB, wn_notB, wn_andV, wn_orV, wn_notV, wn_ifV, wn_iA, wn_iR1, wn_iR2, wn_iZ, wn_iEn, wn_iRR, wn_sl, wn_p0, wn_p1, wn_up, wn_upB, wn_upI, wn_x2, wn_x0, wn_xC, wn_xN, wn_xb, wn_xAnd, wn_xOr, wn_xNot, wn_xIf, wn_xCall, wn_xR1, wn_xR2, sn_nx, sn_rt, sn_bk, sn_ct, sn_seq, sn_set, sn_ret, sn_expr, sn_if, sn_for, sn_xSet, sn_xRet, sn_xExpr, sn_xIf, sn_xFor, sn_asg, sn_xAsg, sn_own, sn_xOwn, gv_zero, gv_succ, go_own, go_dat, go_succ, k0_def, gN_def, tru_bool, tru_none, tru_int, tru_list, asSeq_list, asSeq_tup, addV_int, subV_int, ltA_i, leA_i, gtA_i, geA_i, negV_int, intV_int, lenV_list, lenV_tup, ixV_list, ixV_tup, asInt_int, slV_list, slV_tup, slL_list, revV_tup, revV_list, tupleV_list, listV_list, listV_tup, eqV_str, neV_str, eqV_int, List.set_cons_zero, List.set_cons_succ, List.getElem?_cons_zero, List.getElem?_cons_succ, List.length_cons, List.length_nil, ↓reduceIte, Bool.false_eq_true, Bool.not_true, Bool.not_false, wn_ite, gT2, gT3, neV_tup, eqV_tup, in_tup, notin_tup', lineN_eq, Nat.reduceAdd, Nat.reduceLeDiff, Nat.zero_le, true_and, and_true, List.map_nil, List.map_cons, exists_eq_left', Option.some.injEq, PyData.list.injEq, exists_eq_left, PyData.int.injEq, R.ok.injEq, Sl.own.injEq, Pg.added_ok ha.asc r1.asc (show a.length < 1000 by omega) (show r.length < 128 by omega)]
      exact ⟨rs, sumL a r, _, rfl, fun y m => hr y (List.mem_cons_of_mem _ m), ha.sum r1, ef, rfl⟩
  · rintro η ⟨rs, a, s2, e1, hr, ha, ef, rfl⟩
    have : rs = [] := List.map_eq_nil_iff.mp e1.symm
    subst this
    simp only [wn_ok, wn_some, wn_only, wn_noex, wn_e2, wn_e1, wn_eN, wn_a0, wn_aC, wn_call, wn_tb, wn_tup, wn_lst, wn_andB, wn_orB, wn_notB, wn_andV, wn_orV, wn_notV, wn_ifV, wn_iA, wn_iR1, wn_iR2, wn_iZ, wn_iEn, wn_iRR, wn_sl, wn_p0, wn_p1, wn_up, wn_upB, wn_upI, wn_x2, wn_x0, wn_xC, wn_xN, wn_xb, wn_xAnd, wn_xOr, wn_xNot, wn_xIf, wn_xCall, wn_xR1, wn_xR2, sn_nx, sn_rt, sn_bk, sn_ct, sn_seq, sn_set, sn_ret, sn_expr, sn_if, sn_for, sn_xSet, sn_xRet, sn_xExpr, sn_xIf, sn_xFor, sn_asg, sn_xAsg, sn_own, sn_xOwn, gv_zero, gv_succ, go_own, go_dat, go_succ, k0_def, gN_def, tru_bool, tru_none, tru_int, tru_list, asSeq_list, asSeq_tup, addV_int, subV_int, ltA_i, leA_i, gtA_i, geA_i, negV_int, intV_int, lenV_list, lenV_tup, ixV_list, ixV_tup, asInt_int, slV_list, slV_tup, slL_list, revV_tup, revV_list, tupleV_list, listV_list, listV_tup, eqV_str, neV_str, eqV_int, List.set_cons_zero, List.set_cons_succ, List.getElem?_cons_zero, List.getElem?_cons_succ, List.length_cons, List.length_nil, ↓reduceIte, Bool.false_eq_true, Bool.not_true, Bool.not_false, wn_ite, gT2, gT3, neV_tup, eqV_tup, in_tup, notin_tup', lineN_eq, Nat.reduceAdd, Nat.reduceLeDiff, Nat.zero_le, true_and, and_true, List.map_nil, List.map_cons, exists_eq_left', Option.some.injEq, PyData.list.injEq, exists_eq_left, PyData.int.injEq, R.ok.injEq, Sl.own.injEq]
    rw [← ef]
    rfl
/-- what the dict of the places holds -/
def placesD (os : List Row) : List (D × D) := (enumD 0 (os.map tupI)).map swD
theorem enum_rows : ∀ (os : List Row) (n : Nat), enumD n (os.map tupI) = (os.zipIdx n).map fun p => PyData.tuple [.int (p.2 : Nat), tupI p.1]
  | [], _ => rfl
  | s :: os, n => by
    show PyData.tuple [.int (n : Nat), tupI s] :: enumD (n + 1) (os.map tupI) = _
    rw [enum_rows os (n + 1)]
    rfl
theorem own_ok {os : List Row} (h : Ordr os) (hl : os.length ≤ 100) : F_own_boundaries [.list (os.map tupI)] = .ok (.list ((rimsL os).map tupI)) := by
  refine Wn.eq (wn_runD ?_)
  show Sn (G_own_boundaries [.d (.list (os.map tupI)), .no, .no, .no, .no]) _ _ _ _
  unfold G_own_boundaries
  simp only [wn_ok, wn_some, wn_only, wn_noex, wn_e2, wn_e1, wn_eN, wn_a0, wn_aC, wn_call, wn_tb, wn_tup, wn_lst, wn_andB, wn_orB, wn_notB, wn_andV, wn_orV, wn_notV, wn_ifV, wn_iA, wn_iR1, wn_iR2, wn_iZ, wn_iEn, wn_iRR, wn_sl, wn_p0, wn_p1, wn_up, wn_upB, wn_upI, wn_x2, wn_x0, wn_xC, wn_xN, wn_xb, wn_xAnd, wn_xOr, wn_xNot, wn_xIf, wn_xCall, wn_xR1, wn_xR2, sn_nx, sn_rt, sn_bk, sn_ct, sn_seq, sn_set, sn_ret, sn_expr, sn_if, sn_for, sn_xSet, sn_xRet, sn_xExpr, sn_xIf, sn_xFor, sn_asg, sn_xAsg, sn_own, sn_xOwn, gv_zero, gv_succ, go_own, go_dat, go_succ, k0_def, gN_def, tru_bool, tru_none, tru_int, tru_list, asSeq_list, asSeq_tup, addV_int, subV_int, ltA_i, leA_i, gtA_i, geA_i, negV_int, intV_int, lenV_list, lenV_tup, ixV_list, ixV_tup, asInt_int, slV_list, slV_tup, slL_list, revV_tup, revV_list, tupleV_list, listV_list, listV_tup, eqV_str, neV_str, eqV_int, List.set_cons_zero, List.set_cons_succ, List.getElem?_cons_zero, List.getElem?_cons_succ, List.length_cons, List.length_nil, ↓reduceIte, Bool.false_eq_true, Bool.not_true, Bool.not_false, wn_ite, gT2, gT3, neV_tup, eqV_tup, in_tup, notin_tup', lineN_eq, Nat.reduceAdd, Nat.reduceLeDiff, Nat.zero_le, true_and, and_true, List.map_nil, List.map_cons, exists_eq_left', Option.some.injEq, PyData.list.injEq, exists_eq_left, PyData.int.injEq, R.ok.injEq, Sl.own.injEq, sn_setM]
  refine wn_dict (xs := enumD 0 (os.map tupI)) (fun d => match d with | .tuple [_, .tuple l] => (ints? l).getD [] | _ => []) (fun d => match d with | .tuple [i, _] => i | _ => .none) ?_ ?_ ?_ ?_ ?_
  · simp only [wn_ok, wn_some, wn_only, wn_noex, wn_e2, wn_e1, wn_eN, wn_a0, wn_aC, wn_call, wn_tb, wn_tup, wn_lst, wn_andB, wn_orB, wn_notB, wn_andV, wn_orV, wn_notV, wn_ifV, wn_iA, wn_iR1, wn_iR2, wn_iZ, wn_iEn, wn_iRR, wn_sl, wn_p0, wn_p1, wn_up, wn_upB, wn_upI, wn_x2, wn_x0, wn_xC, wn_xN, wn_xb, wn_xAnd, wn_xOr, wn_xNot, wn_xIf, wn_xCall, wn_xR1, wn_xR2, sn_nx, sn_rt, sn_bk, sn_ct, sn_seq, sn_set, sn_ret, sn_expr, sn_if, sn_for, sn_xSet, sn_xRet, sn_xExpr, sn_xIf, sn_xFor, sn_asg, sn_xAsg, sn_own, sn_xOwn, gv_zero, gv_succ, go_own, go_dat, go_succ, k0_def, gN_def, tru_bool, tru_none, tru_int, tru_list, asSeq_list, asSeq_tup, addV_int, subV_int, ltA_i, leA_i, gtA_i, geA_i, negV_int, intV_int, lenV_list, lenV_tup, ixV_list, ixV_tup, asInt_int, slV_list, slV_tup, slL_list, revV_tup, revV_list, tupleV_list, listV_list, listV_tup, eqV_str, neV_str, eqV_int, List.set_cons_zero, List.set_cons_succ, List.getElem?_cons_zero, List.getElem?_cons_succ, List.length_cons, List.length_nil, ↓reduceIte, Bool.false_eq_true, Bool.not_true, Bool.not_false, wn_ite, gT2, gT3, neV_tup, eqV_tup, in_tup, notin_tup', lineN_eq, Nat.reduceAdd, Nat.reduceLeDiff, Nat.zero_le, true_and, and_true, List.map_nil, List.map_cons, exists_eq_left', Option.some.injEq, PyData.list.injEq, exists_eq_left, PyData.int.injEq, R.ok.injEq, Sl.own.injEq]
    exact wn_ok.mpr rfl
  · intro x m
    rw [enum_rows] at m
    obtain ⟨p, mp, rfl⟩ := List.mem_map.mp m
    refine ⟨[.d (.list (os.map tupI)), .no, .d (.int (p.2 : Nat)), .d (tupI p.1), .no], gT2, ?_, rfl⟩
    show R.ok (tupI p.1) = .ok (tupI ((ints? (p.1.map PyData.int)).getD []))
    rw [ints?_map]
    rfl
  · rw [enumD_len, List.length_map, lineN_eq]
    omega
  · rw [enum_rows, List.map_map]
    have e : (fun p : Row × Nat => ((fun d : D => match d with | .tuple [_, .tuple l] => (ints? l).getD [] | _ => []) ∘ fun p : Row × Nat => PyData.tuple [.int (p.2 : Nat), tupI p.1]) p) = fun p => p.1 := by
      funext p
      show (ints? (p.1.map PyData.int)).getD [] = p.1
      rw [ints?_map]
      rfl
    have e2 : (os.zipIdx 0).map (fun p : Row × Nat => p.1) = os := by simp
    rw [← e2] at h
    have := h.nodup
    rw [show (List.map ((fun d : D => match d with | .tuple [_, .tuple l] => (ints? l).getD [] | _ => []) ∘ fun p : Row × Nat => PyData.tuple [.int (p.2 : Nat), tupI p.1]) (os.zipIdx 0)) = (os.zipIdx 0).map (fun p : Row × Nat => p.1) from List.map_congr_left fun p _ => congrFun e p]
    exact this
  · have eq : ((enumD 0 (os.map tupI)).map fun x => (tupI (match x with | .tuple [_, .tuple l] => (ints? l).getD [] | _ => []), match x with | .tuple [i, _] => i | _ => PyData.none)) = placesD os := by
      unfold placesD
      refine List.map_congr_left fun x m => ?_
      rw [enum_rows] at m
      obtain ⟨p, mp, rfl⟩ := List.mem_map.mp m
      show (tupI ((ints? (p.1.map PyData.int)).getD []), PyData.int (p.2 : Nat)) = (tupI p.1, PyData.int (p.2 : Nat))
      rw [ints?_map]
      rfl
    refine ⟨_, rfl, ?_⟩
    rw [eq]
    generalize hks : placesD os = ks
    refine wn_comp (xs := os.map tupI) (fun _ => true) (fun d => match d with | .tuple l => tupI (rimL os ((ints? l).getD [])) | _ => .none) ?_ ?_ ?_ ?_
    · simp only [wn_ok, wn_some, wn_only, wn_noex, wn_e2, wn_e1, wn_eN, wn_a0, wn_aC, wn_call, wn_tb, wn_tup, wn_lst, wn_andB, wn_orB, wn_notB, wn_andV, wn_orV, wn_notV, wn_ifV, wn_iA, wn_iR1, wn_iR2, wn_iZ, wn_iEn, wn_iRR, wn_sl, wn_p0, wn_p1, wn_up, wn_upB, wn_upI, wn_x2, wn_x0, wn_xC, wn_xN, wn_xb, wn_xAnd, wn_xOr, wn_xNot, wn_xIf, wn_xCall, wn_xR1, wn_xR2, sn_nx, sn_rt, sn_bk, sn_ct, sn_seq, sn_set, sn_ret, sn_expr, sn_if, sn_for, sn_xSet, sn_xRet, sn_xExpr, sn_xIf, sn_xFor, sn_asg, sn_xAsg, sn_own, sn_xOwn, gv_zero, gv_succ, go_own, go_dat, go_succ, k0_def, gN_def, tru_bool, tru_none, tru_int, tru_list, asSeq_list, asSeq_tup, addV_int, subV_int, ltA_i, leA_i, gtA_i, geA_i, negV_int, intV_int, lenV_list, lenV_tup, ixV_list, ixV_tup, asInt_int, slV_list, slV_tup, slL_list, revV_tup, revV_list, tupleV_list, listV_list, listV_tup, eqV_str, neV_str, eqV_int, List.set_cons_zero, List.set_cons_succ, List.getElem?_cons_zero, List.getElem?_cons_succ, List.length_cons, List.length_nil, ↓reduceIte, Bool.false_eq_true, Bool.not_true, Bool.not_false, wn_ite, gT2, gT3, neV_tup, eqV_tup, in_tup, notin_tup', lineN_eq, Nat.reduceAdd, Nat.reduceLeDiff, Nat.zero_le, true_and, and_true, List.map_nil, List.map_cons, exists_eq_left', Option.some.injEq, PyData.list.injEq, exists_eq_left, PyData.int.injEq, R.ok.injEq, Sl.own.injEq]
    · intro x m
      obtain ⟨s, ms, rfl⟩ := List.mem_map.mp m
      refine ⟨[.d (.list (os.map tupI)), .m ks, .no, .d (tupI s), .no], rfl, wn_ok.mpr ⟨rfl, fun _ => ?_⟩⟩
      simp only [wn_ok, wn_some, wn_only, wn_noex, wn_e2, wn_e1, wn_eN, wn_a0, wn_aC, wn_call, wn_tb, wn_tup, wn_lst, wn_andB, wn_orB, wn_notB, wn_andV, wn_orV, wn_notV, wn_ifV, wn_iA, wn_iR1, wn_iR2, wn_iZ, wn_iEn, wn_iRR, wn_sl, wn_p0, wn_p1, wn_up, wn_upB, wn_upI, wn_x2, wn_x0, wn_xC, wn_xN, wn_xb, wn_xAnd, wn_xOr, wn_xNot, wn_xIf, wn_xCall, wn_xR1, wn_xR2, sn_nx, sn_rt, sn_bk, sn_ct, sn_seq, sn_set, sn_ret, sn_expr, sn_if, sn_for, sn_xSet, sn_xRet, sn_xExpr, sn_xIf, sn_xFor, sn_asg, sn_xAsg, sn_own, sn_xOwn, gv_zero, gv_succ, go_own, go_dat, go_succ, k0_def, gN_def, tru_bool, tru_none, tru_int, tru_list, asSeq_list, asSeq_tup, addV_int, subV_int, ltA_i, leA_i, gtA_i, geA_i, negV_int, intV_int, lenV_list, lenV_tup, ixV_list, ixV_tup, asInt_int, slV_list, slV_tup, slL_list, revV_tup, revV_list, tupleV_list, listV_list, listV_tup, eqV_str, neV_str, eqV_int, List.set_cons_zero, List.set_cons_succ, List.getElem?_cons_zero, List.getElem?_cons_succ, List.length_cons, List.length_nil, ↓reduceIte, Bool.false_eq_true, Bool.not_true, Bool.not_false, wn_ite, gT2, gT3, neV_tup, eqV_tup, in_tup, notin_tup', lineN_eq, Nat.reduceAdd, Nat.reduceLeDiff, Nat.zero_le, true_and, and_true, List.map_nil, List.map_cons, exists_eq_left', Option.some.injEq, PyData.list.injEq, exists_eq_left, PyData.int.injEq, R.ok.injEq, Sl.own.injEq]
      refine wn_comp (xs := (facesL s).reverse.map tupI) (fun _ => true) (fun d => match d with | .tuple l => PyData.int (posI os ((ints? l).getD [])) | _ => .none) ?_ ?_ ?_ ?_
      · simp only [wn_ok, wn_some, wn_only, wn_noex, wn_e2, wn_e1, wn_eN, wn_a0, wn_aC, wn_call, wn_tb, wn_tup, wn_lst, wn_andB, wn_orB, wn_notB, wn_andV, wn_orV, wn_notV, wn_ifV, wn_iA, wn_iR1, wn_iR2, wn_iZ, wn_iEn, wn_iRR, wn_sl, wn_p0, wn_p1, wn_up, wn_upB, wn_upI, wn_x2, wn_x0, wn_xC, wn_xN, wn_xb, wn_xAnd, wn_xOr, wn_xNot, wn_xIf, wn_xCall, wn_xR1, wn_xR2, sn_nx, sn_rt, sn_bk, sn_ct, sn_seq, sn_set, sn_ret, sn_expr, sn_if, sn_for, sn_xSet, sn_xRet, sn_xExpr, sn_xIf, sn_xFor, sn_asg, sn_xAsg, sn_own, sn_xOwn, gv_zero, gv_succ, go_own, go_dat, go_succ, k0_def, gN_def, tru_bool, tru_none, tru_int, tru_list, asSeq_list, asSeq_tup, addV_int, subV_int, ltA_i, leA_i, gtA_i, geA_i, negV_int, intV_int, lenV_list, lenV_tup, ixV_list, ixV_tup, asInt_int, slV_list, slV_tup, slL_list, revV_tup, revV_list, tupleV_list, listV_list, listV_tup, eqV_str, neV_str, eqV_int, List.set_cons_zero, List.set_cons_succ, List.getElem?_cons_zero, List.getElem?_cons_succ, List.length_cons, List.length_nil, ↓reduceIte, Bool.false_eq_true, Bool.not_true, Bool.not_false, wn_ite, gT2, gT3, neV_tup, eqV_tup, in_tup, notin_tup', lineN_eq, Nat.reduceAdd, Nat.reduceLeDiff, Nat.zero_le, true_and, and_true, List.map_nil, List.map_cons, exists_eq_left', Option.some.injEq, PyData.list.injEq, exists_eq_left, PyData.int.injEq, R.ok.injEq, Sl.own.injEq, faces_ok (h.smp s ms)]
      · intro y my
        obtain ⟨f, mf, rfl⟩ := List.mem_map.mp my
        refine ⟨[.d (.list (os.map tupI)), .m ks, .no, .d (tupI s), .d (tupI f)], rfl, wn_ok.mpr ⟨rfl, fun _ => ?_⟩⟩
        rw [wn_zget rfl]
        simp only [wn_ok, wn_some, wn_only, wn_noex, wn_e2, wn_e1, wn_eN, wn_a0, wn_aC, wn_call, wn_tb, wn_tup, wn_lst, wn_andB, wn_orB, wn_notB, wn_andV, wn_orV, wn_notV, wn_ifV, wn_iA, wn_iR1, wn_iR2, wn_iZ, wn_iEn, wn_iRR, wn_sl, wn_p0, wn_p1, wn_up, wn_upB, wn_upI, wn_x2, wn_x0, wn_xC, wn_xN, wn_xb, wn_xAnd, wn_xOr, wn_xNot, wn_xIf, wn_xCall, wn_xR1, wn_xR2, sn_nx, sn_rt, sn_bk, sn_ct, sn_seq, sn_set, sn_ret, sn_expr, sn_if, sn_for, sn_xSet, sn_xRet, sn_xExpr, sn_xIf, sn_xFor, sn_asg, sn_xAsg, sn_own, sn_xOwn, gv_zero, gv_succ, go_own, go_dat, go_succ, k0_def, gN_def, tru_bool, tru_none, tru_int, tru_list, asSeq_list, asSeq_tup, addV_int, subV_int, ltA_i, leA_i, gtA_i, geA_i, negV_int, intV_int, lenV_list, lenV_tup, ixV_list, ixV_tup, asInt_int, slV_list, slV_tup, slL_list, revV_tup, revV_list, tupleV_list, listV_list, listV_tup, eqV_str, neV_str, eqV_int, List.set_cons_zero, List.set_cons_succ, List.getElem?_cons_zero, List.getElem?_cons_succ, List.length_cons, List.length_nil, ↓reduceIte, Bool.false_eq_true, Bool.not_true, Bool.not_false, wn_ite, gT2, gT3, neV_tup, eqV_tup, in_tup, notin_tup', lineN_eq, Nat.reduceAdd, Nat.reduceLeDiff, Nat.zero_le, true_and, and_true, List.map_nil, List.map_cons, exists_eq_left', Option.some.injEq, PyData.list.injEq, exists_eq_left, PyData.int.injEq, R.ok.injEq, Sl.own.injEq]
        have ea : atM ks (tupI f) = some (.int (posI os f)) := by
          show (ints? (f.map PyData.int)).bind (fun l => atI ks l) = _
          rw [ints?_map, ← hks]
          show atI (placesD os) f = _
          unfold placesD
          rw [atI_enum f (h.faces s ms f (List.mem_reverse.mp mf)), Nat.zero_add]
          rfl
        rw [ea]
        refine wn_some.mpr ?_
        show PyData.int (posI os f) = PyData.int (posI os ((ints? (f.map PyData.int)).getD []))
        rw [ints?_map]
        rfl
      · have := Od.facesL_len (h.smp s ms)
        rw [List.length_map, List.length_reverse, lineN_eq]
        omega
      · have e3 : (((facesL s).reverse.map tupI).filter fun _ => true).map (fun d => match d with | .tuple l => PyData.int (posI os ((ints? l).getD [])) | _ => .none) = ((facesL s).reverse.map (posI os)).map PyData.int := by
          rw [List.filter_eq_self.mpr fun _ _ => rfl, List.map_map, List.map_map]
          refine List.map_congr_left fun f _ => ?_
          show PyData.int (posI os ((ints? (f.map PyData.int)).getD [])) = PyData.int (posI os f)
          rw [ints?_map]
          rfl
        rw [e3]
        have e4 : isort ((facesL s).reverse.map (posI os)) = rimL os s := by
          have nd := rim_nodup h ms
          rw [List.map_reverse]
          refine asc_ext (asc_sort (nd.perm (List.reverse_perm _).symm)) (rim_asc h ms) fun x => ?_
          rw [(isort_perm _).mem_iff, List.mem_reverse, mem_rim, List.mem_map]
        simp only [wn_ok, wn_some, wn_only, wn_noex, wn_e2, wn_e1, wn_eN, wn_a0, wn_aC, wn_call, wn_tb, wn_tup, wn_lst, wn_andB, wn_orB, wn_notB, wn_andV, wn_orV, wn_notV, wn_ifV, wn_iA, wn_iR1, wn_iR2, wn_iZ, wn_iEn, wn_iRR, wn_sl, wn_p0, wn_p1, wn_up, wn_upB, wn_upI, wn_x2, wn_x0, wn_xC, wn_xN, wn_xb, wn_xAnd, wn_xOr, wn_xNot, wn_xIf, wn_xCall, wn_xR1, wn_xR2, sn_nx, sn_rt, sn_bk, sn_ct, sn_seq, sn_set, sn_ret, sn_expr, sn_if, sn_for, sn_xSet, sn_xRet, sn_xExpr, sn_xIf, sn_xFor, sn_asg, sn_xAsg, sn_own, sn_xOwn, gv_zero, gv_succ, go_own, go_dat, go_succ, k0_def, gN_def, tru_bool, tru_none, tru_int, tru_list, asSeq_list, asSeq_tup, addV_int, subV_int, ltA_i, leA_i, gtA_i, geA_i, negV_int, intV_int, lenV_list, lenV_tup, ixV_list, ixV_tup, asInt_int, slV_list, slV_tup, slL_list, revV_tup, revV_list, tupleV_list, listV_list, listV_tup, eqV_str, neV_str, eqV_int, List.set_cons_zero, List.set_cons_succ, List.getElem?_cons_zero, List.getElem?_cons_succ, List.length_cons, List.length_nil, ↓reduceIte, Bool.false_eq_true, Bool.not_true, Bool.not_false, wn_ite, gT2, gT3, neV_tup, eqV_tup, in_tup, notin_tup', lineN_eq, Nat.reduceAdd, Nat.reduceLeDiff, Nat.zero_le, true_and, and_true, List.map_nil, List.map_cons, exists_eq_left', Option.some.injEq, PyData.list.injEq, exists_eq_left, PyData.int.injEq, R.ok.injEq, Sl.own.injEq, sortAV_ints, e4]
        show tupI (rimL os s) = tupI (rimL os ((ints? (s.map PyData.int)).getD []))
        rw [ints?_map]
        rfl
    · rw [List.length_map, lineN_eq]
      omega
    · rw [List.filter_eq_self.mpr fun _ _ => rfl, List.map_map]
      unfold rimsL
      rw [List.map_map]
      congr 1
      refine List.map_congr_left fun s _ => ?_
      show tupI (rimL os ((ints? (s.map PyData.int)).getD [])) = tupI (rimL os s)
      rw [ints?_map]
      rfl
end Cb
end Bd
/-! Q3: the program's boundaries; the laws' sums, edges, rims. -/
namespace Bd
open PySem L2
theorem nin_ints (a : Int) (l : List Int) : ninV' (.int a) (.list (l.map PyData.int)) = some (.bool (notIn l a)) := by
  show (if SeqAt.shaped (.int a) = true ∧ SeqAt.shaped (.list (l.map PyData.int)) = true then some ((l.map PyData.int).any fun z => PyData.eqv z (.int a)) else none).map (fun b => PyData.bool !b) = _
  rw [if_pos ⟨rfl, shaped_ints l⟩, any_ints]
  rfl
/-- a row as a tuple or as a list -/
def sqI (t : Bool) (l : Row) : D := if t then tupI l else .list (l.map PyData.int)
theorem nin_sq (t : Bool) (a : Int) (l : Row) : ninV' (.int a) (sqI t l) = some (.bool (notIn l a)) := by
  cases t
  · exact nin_ints a l
  · exact notin_tup a l
theorem seq_sq (t : Bool) (l : Row) : asSeq (sqI t l) = .ok (l.map PyData.int) := by
  cases t <;> rfl
theorem pick_sq {so sp sk : Nat} {η : Nv} {a b : Row} {t u : Bool} (h0 : gv so η = .ok (sqI t a)) (h1 : ∀ x, gv sp ((wipeE η [sk]).set sk (.d x)) = .ok (sqI u b)) (h2 : ∀ x, gv sk ((wipeE η [sk]).set sk (.d x)) = .ok x) (hl : a.length ≤ 1000) :
    Wn (compE (iA (gv so)) (gN sk) (tb (e2 ninV' (gv sk) (gv sp))) (gv sk) [sk] η) (· = .list ((a.filter (notIn b)).map PyData.int)) := by
  refine wn_comp (xs := a.map PyData.int) (fun d => match d with | .int i => notIn b i | _ => false) id ?_ (fun x m => ?_) ?_ ?_
  · simp only [wn_ok, wn_some, wn_only, wn_noex, wn_e2, wn_e1, wn_eN, wn_a0, wn_aC, wn_call, wn_tb, wn_tup, wn_lst, wn_andB, wn_orB, wn_notB, wn_andV, wn_orV, wn_notV, wn_ifV, wn_iA, wn_iR1, wn_iR2, wn_iZ, wn_iEn, wn_iRR, wn_sl, wn_p0, wn_p1, wn_up, wn_upB, wn_upI, wn_x2, wn_x0, wn_xC, wn_xN, wn_xb, wn_xAnd, wn_xOr, wn_xNot, wn_xIf, wn_xCall, wn_xR1, wn_xR2, sn_nx, sn_rt, sn_bk, sn_ct, sn_seq, sn_set, sn_ret, sn_expr, sn_if, sn_for, sn_xSet, sn_xRet, sn_xExpr, sn_xIf, sn_xFor, sn_asg, sn_xAsg, sn_own, sn_xOwn, gv_zero, gv_succ, go_own, go_dat, go_succ, k0_def, gN_def, tru_bool, tru_none, tru_int, tru_list, asSeq_list, asSeq_tup, addV_int, subV_int, ltA_i, leA_i, gtA_i, geA_i, negV_int, intV_int, lenV_list, lenV_tup, ixV_list, ixV_tup, asInt_int, slV_list, slV_tup, slL_list, revV_tup, revV_list, tupleV_list, listV_list, listV_tup, eqV_str, neV_str, eqV_int, List.set_cons_zero, List.set_cons_succ, List.getElem?_cons_zero, List.getElem?_cons_succ, List.length_cons, List.length_nil, ↓reduceIte, Bool.false_eq_true, Bool.not_true, Bool.not_false, wn_ite, gT2, gT3, neV_tup, eqV_tup, in_tup, notin_tup', lineN_eq, Nat.reduceAdd, Nat.reduceLeDiff, Nat.zero_le, true_and, and_true, List.map_nil, List.map_cons, exists_eq_left', Option.some.injEq, PyData.list.injEq, exists_eq_left, PyData.int.injEq, R.ok.injEq, Sl.own.injEq, h0, seq_sq]
  · obtain ⟨i, _, rfl⟩ := List.mem_map.mp m
    refine ⟨_, rfl, ?_⟩
    simp only [wn_ok, wn_some, wn_only, wn_noex, wn_e2, wn_e1, wn_eN, wn_a0, wn_aC, wn_call, wn_tb, wn_tup, wn_lst, wn_andB, wn_orB, wn_notB, wn_andV, wn_orV, wn_notV, wn_ifV, wn_iA, wn_iR1, wn_iR2, wn_iZ, wn_iEn, wn_iRR, wn_sl, wn_p0, wn_p1, wn_up, wn_upB, wn_upI, wn_x2, wn_x0, wn_xC, wn_xN, wn_xb, wn_xAnd, wn_xOr, wn_xNot, wn_xIf, wn_xCall, wn_xR1, wn_xR2, sn_nx, sn_rt, sn_bk, sn_ct, sn_seq, sn_set, sn_ret, sn_expr, sn_if, sn_for, sn_xSet, sn_xRet, sn_xExpr, sn_xIf, sn_xFor, sn_asg, sn_xAsg, sn_own, sn_xOwn, gv_zero, gv_succ, go_own, go_dat, go_succ, k0_def, gN_def, tru_bool, tru_none, tru_int, tru_list, asSeq_list, asSeq_tup, addV_int, subV_int, ltA_i, leA_i, gtA_i, geA_i, negV_int, intV_int, lenV_list, lenV_tup, ixV_list, ixV_tup, asInt_int, slV_list, slV_tup, slL_list, revV_tup, revV_list, tupleV_list, listV_list, listV_tup, eqV_str, neV_str, eqV_int, List.set_cons_zero, List.set_cons_succ, List.getElem?_cons_zero, List.getElem?_cons_succ, List.length_cons, List.length_nil, ↓reduceIte, Bool.false_eq_true, Bool.not_true, Bool.not_false, wn_ite, gT2, gT3, neV_tup, eqV_tup, in_tup, notin_tup', lineN_eq, Nat.reduceAdd, Nat.reduceLeDiff, Nat.zero_le, true_and, and_true, List.map_nil, List.map_cons, exists_eq_left', Option.some.injEq, PyData.list.injEq, exists_eq_left, PyData.int.injEq, R.ok.injEq, Sl.own.injEq, h1, h2, nin_sq]
    exact fun _ => rfl
  · rw [List.length_map, lineN_eq]
    omega
  · rw [List.map_id, List.filter_map]
    rfl
/-- told of the row -/
def onRow (F : Row → D) : D → D
  | .tuple l => F ((ints? l).getD [])
  | _ => .none
theorem onRow_tup (F : Row → D) (s : Row) : onRow F (tupI s) = F s := by
  show F ((ints? (s.map PyData.int)).getD []) = F s
  rw [ints?_map]
  rfl
theorem onRows (F : Row → D) {xs : List Row} : ((xs.map tupI).filter fun _ => true).map (onRow F) = xs.map F := by
  rw [List.filter_eq_self.mpr fun _ _ => rfl, List.map_map]
  exact List.map_congr_left fun s _ => onRow_tup F s
namespace Cb
theorem boundaries_ok {os : List Row} (h : Ordr os) (hl : os.length ≤ 100) {cs : List Row} (hc : ∀ c ∈ cs, InU (Pg.uptoI os.length) c) (lc : cs.length ≤ 1000) : F_boundaries [.list (os.map tupI), .list (cs.map tupI)] = .ok (.list ((cs.map (bdy os)).map tupI)) := by
  have lu : (Pg.uptoI os.length).length < 128 := by
    unfold Pg.uptoI
    rw [List.length_map, List.length_range]
    omega
  refine Wn.eq (wn_runD ?_)
  show Sn (G_boundaries [.d (.list (os.map tupI)), .d (.list (cs.map tupI)), .no, .no, .no]) _ _ _ _
  unfold G_boundaries
  simp only [wn_ok, wn_some, wn_only, wn_noex, wn_e2, wn_e1, wn_eN, wn_a0, wn_aC, wn_call, wn_tb, wn_tup, wn_lst, wn_andB, wn_orB, wn_notB, wn_andV, wn_orV, wn_notV, wn_ifV, wn_iA, wn_iR1, wn_iR2, wn_iZ, wn_iEn, wn_iRR, wn_sl, wn_p0, wn_p1, wn_up, wn_upB, wn_upI, wn_x2, wn_x0, wn_xC, wn_xN, wn_xb, wn_xAnd, wn_xOr, wn_xNot, wn_xIf, wn_xCall, wn_xR1, wn_xR2, sn_nx, sn_rt, sn_bk, sn_ct, sn_seq, sn_set, sn_ret, sn_expr, sn_if, sn_for, sn_xSet, sn_xRet, sn_xExpr, sn_xIf, sn_xFor, sn_asg, sn_xAsg, sn_own, sn_xOwn, gv_zero, gv_succ, go_own, go_dat, go_succ, k0_def, gN_def, tru_bool, tru_none, tru_int, tru_list, asSeq_list, asSeq_tup, addV_int, subV_int, ltA_i, leA_i, gtA_i, geA_i, negV_int, intV_int, lenV_list, lenV_tup, ixV_list, ixV_tup, asInt_int, slV_list, slV_tup, slL_list, revV_tup, revV_list, tupleV_list, listV_list, listV_tup, eqV_str, neV_str, eqV_int, List.set_cons_zero, List.set_cons_succ, List.getElem?_cons_zero, List.getElem?_cons_succ, List.length_cons, List.length_nil, ↓reduceIte, Bool.false_eq_true, Bool.not_true, Bool.not_false, wn_ite, gT2, gT3, neV_tup, eqV_tup, in_tup, notin_tup', lineN_eq, Nat.reduceAdd, Nat.reduceLeDiff, Nat.zero_le, true_and, and_true, List.map_nil, List.map_cons, exists_eq_left', Option.some.injEq, PyData.list.injEq, exists_eq_left, PyData.int.injEq, R.ok.injEq, Sl.own.injEq, own_ok h hl]
  refine wn_comp (xs := cs.map tupI) (fun _ => true) (onRow fun c => tupI (bdy os c)) ?_ ?_ ?_ ?_
  · simp only [wn_ok, wn_some, wn_only, wn_noex, wn_e2, wn_e1, wn_eN, wn_a0, wn_aC, wn_call, wn_tb, wn_tup, wn_lst, wn_andB, wn_orB, wn_notB, wn_andV, wn_orV, wn_notV, wn_ifV, wn_iA, wn_iR1, wn_iR2, wn_iZ, wn_iEn, wn_iRR, wn_sl, wn_p0, wn_p1, wn_up, wn_upB, wn_upI, wn_x2, wn_x0, wn_xC, wn_xN, wn_xb, wn_xAnd, wn_xOr, wn_xNot, wn_xIf, wn_xCall, wn_xR1, wn_xR2, sn_nx, sn_rt, sn_bk, sn_ct, sn_seq, sn_set, sn_ret, sn_expr, sn_if, sn_for, sn_xSet, sn_xRet, sn_xExpr, sn_xIf, sn_xFor, sn_asg, sn_xAsg, sn_own, sn_xOwn, gv_zero, gv_succ, go_own, go_dat, go_succ, k0_def, gN_def, tru_bool, tru_none, tru_int, tru_list, asSeq_list, asSeq_tup, addV_int, subV_int, ltA_i, leA_i, gtA_i, geA_i, negV_int, intV_int, lenV_list, lenV_tup, ixV_list, ixV_tup, asInt_int, slV_list, slV_tup, slL_list, revV_tup, revV_list, tupleV_list, listV_list, listV_tup, eqV_str, neV_str, eqV_int, List.set_cons_zero, List.set_cons_succ, List.getElem?_cons_zero, List.getElem?_cons_succ, List.length_cons, List.length_nil, ↓reduceIte, Bool.false_eq_true, Bool.not_true, Bool.not_false, wn_ite, gT2, gT3, neV_tup, eqV_tup, in_tup, notin_tup', lineN_eq, Nat.reduceAdd, Nat.reduceLeDiff, Nat.zero_le, true_and, and_true, List.map_nil, List.map_cons, exists_eq_left', Option.some.injEq, PyData.list.injEq, exists_eq_left, PyData.int.injEq, R.ok.injEq, Sl.own.injEq]
  · intro x m
    obtain ⟨c, mc, rfl⟩ := List.mem_map.mp m
    have ic := hc c mc
    have l1 := ic.len (Pg.upto_asc _)
    refine ⟨[.d (.list (os.map tupI)), .d (.list (cs.map tupI)), .d (.list ((rimsL os).map tupI)), .d (tupI c), .no], rfl, wn_ok.mpr ⟨rfl, fun _ => ?_⟩⟩
    simp only [wn_ok, wn_some, wn_only, wn_noex, wn_e2, wn_e1, wn_eN, wn_a0, wn_aC, wn_call, wn_tb, wn_tup, wn_lst, wn_andB, wn_orB, wn_notB, wn_andV, wn_orV, wn_notV, wn_ifV, wn_iA, wn_iR1, wn_iR2, wn_iZ, wn_iEn, wn_iRR, wn_sl, wn_p0, wn_p1, wn_up, wn_upB, wn_upI, wn_x2, wn_x0, wn_xC, wn_xN, wn_xb, wn_xAnd, wn_xOr, wn_xNot, wn_xIf, wn_xCall, wn_xR1, wn_xR2, sn_nx, sn_rt, sn_bk, sn_ct, sn_seq, sn_set, sn_ret, sn_expr, sn_if, sn_for, sn_xSet, sn_xRet, sn_xExpr, sn_xIf, sn_xFor, sn_asg, sn_xAsg, sn_own, sn_xOwn, gv_zero, gv_succ, go_own, go_dat, go_succ, k0_def, gN_def, tru_bool, tru_none, tru_int, tru_list, asSeq_list, asSeq_tup, addV_int, subV_int, ltA_i, leA_i, gtA_i, geA_i, negV_int, intV_int, lenV_list, lenV_tup, ixV_list, ixV_tup, asInt_int, slV_list, slV_tup, slL_list, revV_tup, revV_list, tupleV_list, listV_list, listV_tup, eqV_str, neV_str, eqV_int, List.set_cons_zero, List.set_cons_succ, List.getElem?_cons_zero, List.getElem?_cons_succ, List.length_cons, List.length_nil, ↓reduceIte, Bool.false_eq_true, Bool.not_true, Bool.not_false, wn_ite, gT2, gT3, neV_tup, eqV_tup, in_tup, notin_tup', lineN_eq, Nat.reduceAdd, Nat.reduceLeDiff, Nat.zero_le, true_and, and_true, List.map_nil, List.map_cons, exists_eq_left', Option.some.injEq, PyData.list.injEq, exists_eq_left, PyData.int.injEq, R.ok.injEq, Sl.own.injEq]
    refine rows_at (rows := rimsL os) (l := c) ?_ (fun _ => rfl) (fun _ => rfl) (by omega) (fun j mj => ?_) ?_
    · simp only [wn_ok, wn_some, wn_only, wn_noex, wn_e2, wn_e1, wn_eN, wn_a0, wn_aC, wn_call, wn_tb, wn_tup, wn_lst, wn_andB, wn_orB, wn_notB, wn_andV, wn_orV, wn_notV, wn_ifV, wn_iA, wn_iR1, wn_iR2, wn_iZ, wn_iEn, wn_iRR, wn_sl, wn_p0, wn_p1, wn_up, wn_upB, wn_upI, wn_x2, wn_x0, wn_xC, wn_xN, wn_xb, wn_xAnd, wn_xOr, wn_xNot, wn_xIf, wn_xCall, wn_xR1, wn_xR2, sn_nx, sn_rt, sn_bk, sn_ct, sn_seq, sn_set, sn_ret, sn_expr, sn_if, sn_for, sn_xSet, sn_xRet, sn_xExpr, sn_xIf, sn_xFor, sn_asg, sn_xAsg, sn_own, sn_xOwn, gv_zero, gv_succ, go_own, go_dat, go_succ, k0_def, gN_def, tru_bool, tru_none, tru_int, tru_list, asSeq_list, asSeq_tup, addV_int, subV_int, ltA_i, leA_i, gtA_i, geA_i, negV_int, intV_int, lenV_list, lenV_tup, ixV_list, ixV_tup, asInt_int, slV_list, slV_tup, slL_list, revV_tup, revV_list, tupleV_list, listV_list, listV_tup, eqV_str, neV_str, eqV_int, List.set_cons_zero, List.set_cons_succ, List.getElem?_cons_zero, List.getElem?_cons_succ, List.length_cons, List.length_nil, ↓reduceIte, Bool.false_eq_true, Bool.not_true, Bool.not_false, wn_ite, gT2, gT3, neV_tup, eqV_tup, in_tup, notin_tup', lineN_eq, Nat.reduceAdd, Nat.reduceLeDiff, Nat.zero_le, true_and, and_true, List.map_nil, List.map_cons, exists_eq_left', Option.some.injEq, PyData.list.injEq, exists_eq_left, PyData.int.injEq, R.ok.injEq, Sl.own.injEq, tupI]
    · obtain ⟨i, hi, rfl⟩ := List.mem_map.mp (ic.sub j mj)
      have := List.mem_range.mp hi
      unfold rimsL
      rw [List.length_map]
      omega
    · simp only [wn_ok, wn_some, wn_only, wn_noex, wn_e2, wn_e1, wn_eN, wn_a0, wn_aC, wn_call, wn_tb, wn_tup, wn_lst, wn_andB, wn_orB, wn_notB, wn_andV, wn_orV, wn_notV, wn_ifV, wn_iA, wn_iR1, wn_iR2, wn_iZ, wn_iEn, wn_iRR, wn_sl, wn_p0, wn_p1, wn_up, wn_upB, wn_upI, wn_x2, wn_x0, wn_xC, wn_xN, wn_xb, wn_xAnd, wn_xOr, wn_xNot, wn_xIf, wn_xCall, wn_xR1, wn_xR2, sn_nx, sn_rt, sn_bk, sn_ct, sn_seq, sn_set, sn_ret, sn_expr, sn_if, sn_for, sn_xSet, sn_xRet, sn_xExpr, sn_xIf, sn_xFor, sn_asg, sn_xAsg, sn_own, sn_xOwn, gv_zero, gv_succ, go_own, go_dat, go_succ, k0_def, gN_def, tru_bool, tru_none, tru_int, tru_list, asSeq_list, asSeq_tup, addV_int, subV_int, ltA_i, leA_i, gtA_i, geA_i, negV_int, intV_int, lenV_list, lenV_tup, ixV_list, ixV_tup, asInt_int, slV_list, slV_tup, slL_list, revV_tup, revV_list, tupleV_list, listV_list, listV_tup, eqV_str, neV_str, eqV_int, List.set_cons_zero, List.set_cons_succ, List.getElem?_cons_zero, List.getElem?_cons_succ, List.length_cons, List.length_nil, ↓reduceIte, Bool.false_eq_true, Bool.not_true, Bool.not_false, wn_ite, gT2, gT3, neV_tup, eqV_tup, in_tup, notin_tup', lineN_eq, Nat.reduceAdd, Nat.reduceLeDiff, Nat.zero_le, true_and, and_true, List.map_nil, List.map_cons, exists_eq_left', Option.some.injEq, PyData.list.injEq, exists_eq_left, PyData.int.injEq, R.ok.injEq, Sl.own.injEq, summed_ok (Pg.upto_asc _) lu (rowAt_in (rims_in h) c)]
      rw [onRow_tup]
      rfl
  · rw [List.length_map, lineN_eq]
    omega
  · rw [onRows, List.map_map]
    rfl
theorem boundary_ok {os : List Row} (h : Ordr os) (hl : os.length ≤ 100) {c : Row} (hc : InU (Pg.uptoI os.length) c) : F_boundary [.list (os.map tupI), tupI c] = .ok (tupI (bdy os c)) := by
  have b := boundaries_ok h hl (cs := [c]) (fun x m => by rw [List.mem_singleton.mp m]; exact hc) (by simp)
  refine Wn.eq (wn_runD ?_)
  show Sn (G_boundary [.d (.list (os.map tupI)), .d (tupI c)]) _ _ _ _
  unfold G_boundary
  simp only [List.map_cons, List.map_nil] at b
  simp only [wn_ok, wn_some, wn_only, wn_noex, wn_e2, wn_e1, wn_eN, wn_a0, wn_aC, wn_call, wn_tb, wn_tup, wn_lst, wn_andB, wn_orB, wn_notB, wn_andV, wn_orV, wn_notV, wn_ifV, wn_iA, wn_iR1, wn_iR2, wn_iZ, wn_iEn, wn_iRR, wn_sl, wn_p0, wn_p1, wn_up, wn_upB, wn_upI, wn_x2, wn_x0, wn_xC, wn_xN, wn_xb, wn_xAnd, wn_xOr, wn_xNot, wn_xIf, wn_xCall, wn_xR1, wn_xR2, sn_nx, sn_rt, sn_bk, sn_ct, sn_seq, sn_set, sn_ret, sn_expr, sn_if, sn_for, sn_xSet, sn_xRet, sn_xExpr, sn_xIf, sn_xFor, sn_asg, sn_xAsg, sn_own, sn_xOwn, gv_zero, gv_succ, go_own, go_dat, go_succ, k0_def, gN_def, tru_bool, tru_none, tru_int, tru_list, asSeq_list, asSeq_tup, addV_int, subV_int, ltA_i, leA_i, gtA_i, geA_i, negV_int, intV_int, lenV_list, lenV_tup, ixV_list, ixV_tup, asInt_int, slV_list, slV_tup, slL_list, revV_tup, revV_list, tupleV_list, listV_list, listV_tup, eqV_str, neV_str, eqV_int, List.set_cons_zero, List.set_cons_succ, List.getElem?_cons_zero, List.getElem?_cons_succ, List.length_cons, List.length_nil, ↓reduceIte, Bool.false_eq_true, Bool.not_true, Bool.not_false, wn_ite, gT2, gT3, neV_tup, eqV_tup, in_tup, notin_tup', lineN_eq, Nat.reduceAdd, Nat.reduceLeDiff, Nat.zero_le, true_and, and_true, List.map_nil, List.map_cons, exists_eq_left', Option.some.injEq, PyData.list.injEq, exists_eq_left, PyData.int.injEq, R.ok.injEq, Sl.own.injEq, b]
  exact wn_some.mpr rfl
theorem is_cycle_ok {os : List Row} (h : Ordr os) (hl : os.length ≤ 100) {c : Row} (hc : InU (Pg.uptoI os.length) c) : F_is_cycle [.list (os.map tupI), tupI c] = .ok (.bool (decide (bdy os c = []))) := by
  refine Wn.eq (wn_runD ?_)
  show Sn (G_is_cycle [.d (.list (os.map tupI)), .d (tupI c)]) _ _ _ _
  unfold G_is_cycle
  simp only [wn_ok, wn_some, wn_only, wn_noex, wn_e2, wn_e1, wn_eN, wn_a0, wn_aC, wn_call, wn_tb, wn_tup, wn_lst, wn_andB, wn_orB, wn_notB, wn_andV, wn_orV, wn_notV, wn_ifV, wn_iA, wn_iR1, wn_iR2, wn_iZ, wn_iEn, wn_iRR, wn_sl, wn_p0, wn_p1, wn_up, wn_upB, wn_upI, wn_x2, wn_x0, wn_xC, wn_xN, wn_xb, wn_xAnd, wn_xOr, wn_xNot, wn_xIf, wn_xCall, wn_xR1, wn_xR2, sn_nx, sn_rt, sn_bk, sn_ct, sn_seq, sn_set, sn_ret, sn_expr, sn_if, sn_for, sn_xSet, sn_xRet, sn_xExpr, sn_xIf, sn_xFor, sn_asg, sn_xAsg, sn_own, sn_xOwn, gv_zero, gv_succ, go_own, go_dat, go_succ, k0_def, gN_def, tru_bool, tru_none, tru_int, tru_list, asSeq_list, asSeq_tup, addV_int, subV_int, ltA_i, leA_i, gtA_i, geA_i, negV_int, intV_int, lenV_list, lenV_tup, ixV_list, ixV_tup, asInt_int, slV_list, slV_tup, slL_list, revV_tup, revV_list, tupleV_list, listV_list, listV_tup, eqV_str, neV_str, eqV_int, List.set_cons_zero, List.set_cons_succ, List.getElem?_cons_zero, List.getElem?_cons_succ, List.length_cons, List.length_nil, ↓reduceIte, Bool.false_eq_true, Bool.not_true, Bool.not_false, wn_ite, gT2, gT3, neV_tup, eqV_tup, in_tup, notin_tup', lineN_eq, Nat.reduceAdd, Nat.reduceLeDiff, Nat.zero_le, true_and, and_true, List.map_nil, List.map_cons, exists_eq_left', Option.some.injEq, PyData.list.injEq, exists_eq_left, PyData.int.injEq, R.ok.injEq, Sl.own.injEq, boundary_ok h hl hc, tup_nil]
theorem lsum_ok {a b : Row} {t u : Bool} (ha : a.length ≤ 1000) (hb : b.length ≤ 1000) : F__law_sum [sqI t a, sqI u b] = .ok (.list ((sumL a b).map PyData.int)) := by
  have l1 := List.length_filter_le (notIn b) a
  have l2 := List.length_filter_le (notIn a) b
  have ad : addV (.list ((a.filter (notIn b)).map PyData.int)) (.list ((b.filter (notIn a)).map PyData.int)) = some (.list ((a.filter (notIn b) ++ b.filter (notIn a)).map PyData.int)) := by
    rw [addV_list (by rw [List.length_map, List.length_map]; omega), List.map_append]
  refine Wn.eq (wn_runD ?_)
  show Sn (G__law_sum [.d (sqI t a), .d (sqI u b), .no]) _ _ _ _
  unfold G__law_sum
  have c1 := (pick_sq (so := 0) (sp := 1) (sk := 2) (η := [.d (sqI t a), .d (sqI u b), .no]) (a := a) (b := b) (t := t) (u := u) rfl (fun _ => rfl) (fun _ => rfl) (by omega)).get
  have c2 := (pick_sq (so := 1) (sp := 0) (sk := 2) (η := [.d (sqI t a), .d (sqI u b), .no]) (a := b) (b := a) (t := u) (u := t) rfl (fun _ => rfl) (fun _ => rfl) (by omega)).get
  obtain ⟨_, c1, rfl⟩ := c1
  obtain ⟨_, c2, rfl⟩ := c2
  simp only [wn_ok, wn_some, wn_only, wn_noex, wn_e2, wn_e1, wn_eN, wn_a0, wn_aC, wn_call, wn_tb, wn_tup, wn_lst, wn_andB, wn_orB, wn_notB, wn_andV, wn_orV, wn_notV, wn_ifV, wn_iA, wn_iR1, wn_iR2, wn_iZ, wn_iEn, wn_iRR, wn_sl, wn_p0, wn_p1, wn_up, wn_upB, wn_upI, wn_x2, wn_x0, wn_xC, wn_xN, wn_xb, wn_xAnd, wn_xOr, wn_xNot, wn_xIf, wn_xCall, wn_xR1, wn_xR2, sn_nx, sn_rt, sn_bk, sn_ct, sn_seq, sn_set, sn_ret, sn_expr, sn_if, sn_for, sn_xSet, sn_xRet, sn_xExpr, sn_xIf, sn_xFor, sn_asg, sn_xAsg, sn_own, sn_xOwn, gv_zero, gv_succ, go_own, go_dat, go_succ, k0_def, gN_def, tru_bool, tru_none, tru_int, tru_list, asSeq_list, asSeq_tup, addV_int, subV_int, ltA_i, leA_i, gtA_i, geA_i, negV_int, intV_int, lenV_list, lenV_tup, ixV_list, ixV_tup, asInt_int, slV_list, slV_tup, slL_list, revV_tup, revV_list, tupleV_list, listV_list, listV_tup, eqV_str, neV_str, eqV_int, List.set_cons_zero, List.set_cons_succ, List.getElem?_cons_zero, List.getElem?_cons_succ, List.length_cons, List.length_nil, ↓reduceIte, Bool.false_eq_true, Bool.not_true, Bool.not_false, wn_ite, gT2, gT3, neV_tup, eqV_tup, in_tup, notin_tup', lineN_eq, Nat.reduceAdd, Nat.reduceLeDiff, Nat.zero_le, true_and, and_true, List.map_nil, List.map_cons, exists_eq_left', Option.some.injEq, PyData.list.injEq, exists_eq_left, PyData.int.injEq, R.ok.injEq, Sl.own.injEq, c1, c2, ad, sortAV_ints]
  rfl
theorem edge_ok {os : List Row} (h : Ordr os) (hl : os.length ≤ 100) {p : Int} (h0 : 0 ≤ p) (h1 : p < (os.length : Int)) : F__law_edge [.list (os.map tupI), .int p] = .ok (.list ((rowAt (rimsL os) p).map PyData.int)) := by
  have ms : rowAt os p ∈ os := by
    unfold rowAt
    rw [List.getD_eq_getElem?_getD, List.getElem?_eq_getElem (by omega)]
    exact List.getElem_mem _
  have er : rowAt (rimsL os) p = rimL os (rowAt os p) := by
    unfold rowAt rimsL
    rw [List.getD_eq_getElem?_getD, List.getD_eq_getElem?_getD, List.getElem?_map, List.getElem?_eq_getElem (by omega)]
    rfl
  refine Wn.eq (wn_runD ?_)
  show Sn (G__law_edge [.d (.list (os.map tupI)), .d (.int p), .no]) _ _ _ _
  unfold G__law_edge
  simp only [wn_ok, wn_some, wn_only, wn_noex, wn_e2, wn_e1, wn_eN, wn_a0, wn_aC, wn_call, wn_tb, wn_tup, wn_lst, wn_andB, wn_orB, wn_notB, wn_andV, wn_orV, wn_notV, wn_ifV, wn_iA, wn_iR1, wn_iR2, wn_iZ, wn_iEn, wn_iRR, wn_sl, wn_p0, wn_p1, wn_up, wn_upB, wn_upI, wn_x2, wn_x0, wn_xC, wn_xN, wn_xb, wn_xAnd, wn_xOr, wn_xNot, wn_xIf, wn_xCall, wn_xR1, wn_xR2, sn_nx, sn_rt, sn_bk, sn_ct, sn_seq, sn_set, sn_ret, sn_expr, sn_if, sn_for, sn_xSet, sn_xRet, sn_xExpr, sn_xIf, sn_xFor, sn_asg, sn_xAsg, sn_own, sn_xOwn, gv_zero, gv_succ, go_own, go_dat, go_succ, k0_def, gN_def, tru_bool, tru_none, tru_int, tru_list, asSeq_list, asSeq_tup, addV_int, subV_int, ltA_i, leA_i, gtA_i, geA_i, negV_int, intV_int, lenV_list, lenV_tup, ixV_list, ixV_tup, asInt_int, slV_list, slV_tup, slL_list, revV_tup, revV_list, tupleV_list, listV_list, listV_tup, eqV_str, neV_str, eqV_int, List.set_cons_zero, List.set_cons_succ, List.getElem?_cons_zero, List.getElem?_cons_succ, List.length_cons, List.length_nil, ↓reduceIte, Bool.false_eq_true, Bool.not_true, Bool.not_false, wn_ite, gT2, gT3, neV_tup, eqV_tup, in_tup, notin_tup', lineN_eq, Nat.reduceAdd, Nat.reduceLeDiff, Nat.zero_le, true_and, and_true, List.map_nil, List.map_cons, exists_eq_left', Option.some.injEq, PyData.list.injEq, exists_eq_left, PyData.int.injEq, R.ok.injEq, Sl.own.injEq]
  refine wn_comp (xs := (facesL (rowAt os p)).map tupI) (fun _ => true) (onRow fun f => .int (posI os f)) ?_ ?_ ?_ ?_
  · simp only [wn_ok, wn_some, wn_only, wn_noex, wn_e2, wn_e1, wn_eN, wn_a0, wn_aC, wn_call, wn_tb, wn_tup, wn_lst, wn_andB, wn_orB, wn_notB, wn_andV, wn_orV, wn_notV, wn_ifV, wn_iA, wn_iR1, wn_iR2, wn_iZ, wn_iEn, wn_iRR, wn_sl, wn_p0, wn_p1, wn_up, wn_upB, wn_upI, wn_x2, wn_x0, wn_xC, wn_xN, wn_xb, wn_xAnd, wn_xOr, wn_xNot, wn_xIf, wn_xCall, wn_xR1, wn_xR2, sn_nx, sn_rt, sn_bk, sn_ct, sn_seq, sn_set, sn_ret, sn_expr, sn_if, sn_for, sn_xSet, sn_xRet, sn_xExpr, sn_xIf, sn_xFor, sn_asg, sn_xAsg, sn_own, sn_xOwn, gv_zero, gv_succ, go_own, go_dat, go_succ, k0_def, gN_def, tru_bool, tru_none, tru_int, tru_list, asSeq_list, asSeq_tup, addV_int, subV_int, ltA_i, leA_i, gtA_i, geA_i, negV_int, intV_int, lenV_list, lenV_tup, ixV_list, ixV_tup, asInt_int, slV_list, slV_tup, slL_list, revV_tup, revV_list, tupleV_list, listV_list, listV_tup, eqV_str, neV_str, eqV_int, List.set_cons_zero, List.set_cons_succ, List.getElem?_cons_zero, List.getElem?_cons_succ, List.length_cons, List.length_nil, ↓reduceIte, Bool.false_eq_true, Bool.not_true, Bool.not_false, wn_ite, gT2, gT3, neV_tup, eqV_tup, in_tup, notin_tup', lineN_eq, Nat.reduceAdd, Nat.reduceLeDiff, Nat.zero_le, true_and, and_true, List.map_nil, List.map_cons, exists_eq_left', Option.some.injEq, PyData.list.injEq, exists_eq_left, PyData.int.injEq, R.ok.injEq, Sl.own.injEq, atD_row (rows := os) h0 h1, Od.lfaces_ok (h.smp _ ms)]
  · intro x m
    obtain ⟨f, mf, rfl⟩ := List.mem_map.mp m
    refine ⟨[.d (.list (os.map tupI)), .d (.int p), .d (tupI f)], rfl, wn_ok.mpr ⟨rfl, fun _ => ?_⟩⟩
    refine wn_m2 ?_
    simp only [wn_ok, wn_some, wn_only, wn_noex, wn_e2, wn_e1, wn_eN, wn_a0, wn_aC, wn_call, wn_tb, wn_tup, wn_lst, wn_andB, wn_orB, wn_notB, wn_andV, wn_orV, wn_notV, wn_ifV, wn_iA, wn_iR1, wn_iR2, wn_iZ, wn_iEn, wn_iRR, wn_sl, wn_p0, wn_p1, wn_up, wn_upB, wn_upI, wn_x2, wn_x0, wn_xC, wn_xN, wn_xb, wn_xAnd, wn_xOr, wn_xNot, wn_xIf, wn_xCall, wn_xR1, wn_xR2, sn_nx, sn_rt, sn_bk, sn_ct, sn_seq, sn_set, sn_ret, sn_expr, sn_if, sn_for, sn_xSet, sn_xRet, sn_xExpr, sn_xIf, sn_xFor, sn_asg, sn_xAsg, sn_own, sn_xOwn, gv_zero, gv_succ, go_own, go_dat, go_succ, k0_def, gN_def, tru_bool, tru_none, tru_int, tru_list, asSeq_list, asSeq_tup, addV_int, subV_int, ltA_i, leA_i, gtA_i, geA_i, negV_int, intV_int, lenV_list, lenV_tup, ixV_list, ixV_tup, asInt_int, slV_list, slV_tup, slL_list, revV_tup, revV_list, tupleV_list, listV_list, listV_tup, eqV_str, neV_str, eqV_int, List.set_cons_zero, List.set_cons_succ, List.getElem?_cons_zero, List.getElem?_cons_succ, List.length_cons, List.length_nil, ↓reduceIte, Bool.false_eq_true, Bool.not_true, Bool.not_false, wn_ite, gT2, gT3, neV_tup, eqV_tup, in_tup, notin_tup', lineN_eq, Nat.reduceAdd, Nat.reduceLeDiff, Nat.zero_le, true_and, and_true, List.map_nil, List.map_cons, exists_eq_left', Option.some.injEq, PyData.list.injEq, exists_eq_left, PyData.int.injEq, R.ok.injEq, Sl.own.injEq]
    rw [index_rows h.smp hl (h.faces _ ms f mf), onRow_tup]
    exact wn_some.mpr rfl
  · have := Od.facesL_len (h.smp _ ms)
    rw [List.length_map, lineN_eq]
    omega
  · rw [onRows, show (facesL (rowAt os p)).map (fun f => PyData.int (posI os f)) = ((facesL (rowAt os p)).map (posI os)).map PyData.int by rw [List.map_map]; rfl]
    simp only [wn_ok, wn_some, wn_only, wn_noex, wn_e2, wn_e1, wn_eN, wn_a0, wn_aC, wn_call, wn_tb, wn_tup, wn_lst, wn_andB, wn_orB, wn_notB, wn_andV, wn_orV, wn_notV, wn_ifV, wn_iA, wn_iR1, wn_iR2, wn_iZ, wn_iEn, wn_iRR, wn_sl, wn_p0, wn_p1, wn_up, wn_upB, wn_upI, wn_x2, wn_x0, wn_xC, wn_xN, wn_xb, wn_xAnd, wn_xOr, wn_xNot, wn_xIf, wn_xCall, wn_xR1, wn_xR2, sn_nx, sn_rt, sn_bk, sn_ct, sn_seq, sn_set, sn_ret, sn_expr, sn_if, sn_for, sn_xSet, sn_xRet, sn_xExpr, sn_xIf, sn_xFor, sn_asg, sn_xAsg, sn_own, sn_xOwn, gv_zero, gv_succ, go_own, go_dat, go_succ, k0_def, gN_def, tru_bool, tru_none, tru_int, tru_list, asSeq_list, asSeq_tup, addV_int, subV_int, ltA_i, leA_i, gtA_i, geA_i, negV_int, intV_int, lenV_list, lenV_tup, ixV_list, ixV_tup, asInt_int, slV_list, slV_tup, slL_list, revV_tup, revV_list, tupleV_list, listV_list, listV_tup, eqV_str, neV_str, eqV_int, List.set_cons_zero, List.set_cons_succ, List.getElem?_cons_zero, List.getElem?_cons_succ, List.length_cons, List.length_nil, ↓reduceIte, Bool.false_eq_true, Bool.not_true, Bool.not_false, wn_ite, gT2, gT3, neV_tup, eqV_tup, in_tup, notin_tup', lineN_eq, Nat.reduceAdd, Nat.reduceLeDiff, Nat.zero_le, true_and, and_true, List.map_nil, List.map_cons, exists_eq_left', Option.some.injEq, PyData.list.injEq, exists_eq_left, PyData.int.injEq, R.ok.injEq, Sl.own.injEq, sortAV_ints]
    rw [er]
    rfl
theorem lrim_ok {os : List Row} (h : Ordr os) (hl : os.length ≤ 100) {c : Row} {t : Bool} (hc : ∀ p ∈ c, 0 ≤ p ∧ p < (os.length : Int)) : F__law_rim [.list (os.map tupI), sqI t c] = .ok (tupI (bdy os c)) := by
  have e0 : bdy os c = (c.map (rowAt (rimsL os))).foldl sumL [] := (sums_at (rims_asc h) c).symm
  rw [e0]
  refine Wn.eq (wn_runD ?_)
  show Sn (G__law_rim [.d (.list (os.map tupI)), .d (sqI t c), .no, .no]) _ _ _ _
  unfold G__law_rim
  simp only [wn_ok, wn_some, wn_only, wn_noex, wn_e2, wn_e1, wn_eN, wn_a0, wn_aC, wn_call, wn_tb, wn_tup, wn_lst, wn_andB, wn_orB, wn_notB, wn_andV, wn_orV, wn_notV, wn_ifV, wn_iA, wn_iR1, wn_iR2, wn_iZ, wn_iEn, wn_iRR, wn_sl, wn_p0, wn_p1, wn_up, wn_upB, wn_upI, wn_x2, wn_x0, wn_xC, wn_xN, wn_xb, wn_xAnd, wn_xOr, wn_xNot, wn_xIf, wn_xCall, wn_xR1, wn_xR2, sn_nx, sn_rt, sn_bk, sn_ct, sn_seq, sn_set, sn_ret, sn_expr, sn_if, sn_for, sn_xSet, sn_xRet, sn_xExpr, sn_xIf, sn_xFor, sn_asg, sn_xAsg, sn_own, sn_xOwn, gv_zero, gv_succ, go_own, go_dat, go_succ, k0_def, gN_def, tru_bool, tru_none, tru_int, tru_list, asSeq_list, asSeq_tup, addV_int, subV_int, ltA_i, leA_i, gtA_i, geA_i, negV_int, intV_int, lenV_list, lenV_tup, ixV_list, ixV_tup, asInt_int, slV_list, slV_tup, slL_list, revV_tup, revV_list, tupleV_list, listV_list, listV_tup, eqV_str, neV_str, eqV_int, List.set_cons_zero, List.set_cons_succ, List.getElem?_cons_zero, List.getElem?_cons_succ, List.length_cons, List.length_nil, ↓reduceIte, Bool.false_eq_true, Bool.not_true, Bool.not_false, wn_ite, gT2, gT3, neV_tup, eqV_tup, in_tup, notin_tup', lineN_eq, Nat.reduceAdd, Nat.reduceLeDiff, Nat.zero_le, true_and, and_true, List.map_nil, List.map_cons, exists_eq_left', Option.some.injEq, PyData.list.injEq, exists_eq_left, PyData.int.injEq, R.ok.injEq, Sl.own.injEq, seq_sq]
  have lu : (Pg.uptoI os.length).length ≤ 100 := by
    unfold Pg.uptoI
    rw [List.length_map, List.length_range]
    exact hl
  refine sn_loop (fun rest η => ∃ (rs a : Row) (s3 : Sl), rest = rs.map PyData.int ∧ (∀ p ∈ rs, 0 ≤ p ∧ p < (os.length : Int)) ∧ InU (Pg.uptoI os.length) a ∧ (rs.map (rowAt (rimsL os))).foldl sumL a = (c.map (rowAt (rimsL os))).foldl sumL [] ∧ η = [.d (.list (os.map tupI)), .d (sqI t c), .d (sqI false a), s3]) ?_ ?_ _ _ ⟨c, [], .no, rfl, hc, .nil, rfl, rfl⟩
  · rintro x rest η ⟨rs, a, s3, e1, hr, ha, ef, rfl⟩
    cases rs with
    | nil => cases e1
    | cons p rs =>
      obtain ⟨rfl, rfl⟩ := List.cons.inj e1
      obtain ⟨h0, h1⟩ := hr p List.mem_cons_self
      have ir : InU (Pg.uptoI os.length) (rowAt (rimsL os) p) := rowAt_in (rims_in h) [p] _ (by simp)
      have l1 := ha.len (Pg.upto_asc _)
      have l2 := ir.len (Pg.upto_asc _)
      refine ⟨[.d (.list (os.map tupI)), .d (sqI t c), .d (sqI false a), .d (.int p)], rfl, ?_⟩
      simp only [wn_ok, wn_some, wn_only, wn_noex, wn_e2, wn_e1, wn_eN, wn_a0, wn_aC, wn_call, wn_tb, wn_tup, wn_lst, wn_andB, wn_orB, wn_notB, wn_andV, wn_orV, wn_notV, wn_ifV, wn_iA, wn_iR1, wn_iR2, wn_iZ, wn_iEn, wn_iRR, wn_sl, wn_p0, wn_p1, wn_up, wn_upB, wn_upI, wn_x2, wn_x0, wn_xC, wn_xN, wn_xb, wn_xAnd, wn_xOr, wn_xNot, wn_xIf, wn_xCall, wn_xR1, wn_xR2, sn_nx, sn_rt, sn_bk, sn_ct, sn_seq, sn_set, sn_ret, sn_expr, sn_if, sn_for, sn_xSet, sn_xRet, sn_xExpr, sn_xIf, sn_xFor, sn_asg, sn_xAsg, sn_own, sn_xOwn, gv_zero, gv_succ, go_own, go_dat, go_succ, k0_def, gN_def, tru_bool, tru_none, tru_int, tru_list, asSeq_list, asSeq_tup, addV_int, subV_int, ltA_i, leA_i, gtA_i, geA_i, negV_int, intV_int, lenV_list, lenV_tup, ixV_list, ixV_tup, asInt_int, slV_list, slV_tup, slL_list, revV_tup, revV_list, tupleV_list, listV_list, listV_tup, eqV_str, neV_str, eqV_int, List.set_cons_zero, List.set_cons_succ, List.getElem?_cons_zero, List.getElem?_cons_succ, List.length_cons, List.length_nil, ↓reduceIte, Bool.false_eq_true, Bool.not_true, Bool.not_false, wn_ite, gT2, gT3, neV_tup, eqV_tup, in_tup, notin_tup', lineN_eq, Nat.reduceAdd, Nat.reduceLeDiff, Nat.zero_le, true_and, and_true, List.map_nil, List.map_cons, exists_eq_left', Option.some.injEq, PyData.list.injEq, exists_eq_left, PyData.int.injEq, R.ok.injEq, Sl.own.injEq, edge_ok h hl h0 h1]
      have ls := lsum_ok (t := false) (u := false) (a := a) (b := rowAt (rimsL os) p) (by omega) (by omega)
      have eq : sqI false (rowAt (rimsL os) p) = .list ((rowAt (rimsL os) p).map PyData.int) := rfl
      rw [eq] at ls
      simp only [wn_ok, wn_some, wn_only, wn_noex, wn_e2, wn_e1, wn_eN, wn_a0, wn_aC, wn_call, wn_tb, wn_tup, wn_lst, wn_andB, wn_orB, wn_notB, wn_andV, wn_orV, wn_notV, wn_ifV, wn_iA, wn_iR1, wn_iR2, wn_iZ, wn_iEn, wn_iRR, wn_sl, wn_p0, wn_p1, wn_up, wn_upB, wn_upI, wn_x2, wn_x0, wn_xC, wn_xN, wn_xb, wn_xAnd, wn_xOr, wn_xNot, wn_xIf, wn_xCall, wn_xR1, wn_xR2, sn_nx, sn_rt, sn_bk, sn_ct, sn_seq, sn_set, sn_ret, sn_expr, sn_if, sn_for, sn_xSet, sn_xRet, sn_xExpr, sn_xIf, sn_xFor, sn_asg, sn_xAsg, sn_own, sn_xOwn, gv_zero, gv_succ, go_own, go_dat, go_succ, k0_def, gN_def, tru_bool, tru_none, tru_int, tru_list, asSeq_list, asSeq_tup, addV_int, subV_int, ltA_i, leA_i, gtA_i, geA_i, negV_int, intV_int, lenV_list, lenV_tup, ixV_list, ixV_tup, asInt_int, slV_list, slV_tup, slL_list, revV_tup, revV_list, tupleV_list, listV_list, listV_tup, eqV_str, neV_str, eqV_int, List.set_cons_zero, List.set_cons_succ, List.getElem?_cons_zero, List.getElem?_cons_succ, List.length_cons, List.length_nil, ↓reduceIte, Bool.false_eq_true, Bool.not_true, Bool.not_false, wn_ite, gT2, gT3, neV_tup, eqV_tup, in_tup, notin_tup', lineN_eq, Nat.reduceAdd, Nat.reduceLeDiff, Nat.zero_le, true_and, and_true, List.map_nil, List.map_cons, exists_eq_left', Option.some.injEq, PyData.list.injEq, exists_eq_left, PyData.int.injEq, R.ok.injEq, Sl.own.injEq, ls]
      exact ⟨rs, sumL a (rowAt (rimsL os) p), _, rfl, fun y m => hr y (List.mem_cons_of_mem _ m), ha.sum ir, ef, rfl⟩
  · rintro η ⟨rs, a, s3, e1, hr, ha, ef, rfl⟩
    have : rs = [] := List.map_eq_nil_iff.mp e1.symm
    subst this
    have eq : sqI false a = .list (a.map PyData.int) := rfl
    rw [eq]
    simp only [wn_ok, wn_some, wn_only, wn_noex, wn_e2, wn_e1, wn_eN, wn_a0, wn_aC, wn_call, wn_tb, wn_tup, wn_lst, wn_andB, wn_orB, wn_notB, wn_andV, wn_orV, wn_notV, wn_ifV, wn_iA, wn_iR1, wn_iR2, wn_iZ, wn_iEn, wn_iRR, wn_sl, wn_p0, wn_p1, wn_up, wn_upB, wn_upI, wn_x2, wn_x0, wn_xC, wn_xN, wn_xb, wn_xAnd, wn_xOr, wn_xNot, wn_xIf, wn_xCall, wn_xR1, wn_xR2, sn_nx, sn_rt, sn_bk, sn_ct, sn_seq, sn_set, sn_ret, sn_expr, sn_if, sn_for, sn_xSet, sn_xRet, sn_xExpr, sn_xIf, sn_xFor, sn_asg, sn_xAsg, sn_own, sn_xOwn, gv_zero, gv_succ, go_own, go_dat, go_succ, k0_def, gN_def, tru_bool, tru_none, tru_int, tru_list, asSeq_list, asSeq_tup, addV_int, subV_int, ltA_i, leA_i, gtA_i, geA_i, negV_int, intV_int, lenV_list, lenV_tup, ixV_list, ixV_tup, asInt_int, slV_list, slV_tup, slL_list, revV_tup, revV_list, tupleV_list, listV_list, listV_tup, eqV_str, neV_str, eqV_int, List.set_cons_zero, List.set_cons_succ, List.getElem?_cons_zero, List.getElem?_cons_succ, List.length_cons, List.length_nil, ↓reduceIte, Bool.false_eq_true, Bool.not_true, Bool.not_false, wn_ite, gT2, gT3, neV_tup, eqV_tup, in_tup, notin_tup', lineN_eq, Nat.reduceAdd, Nat.reduceLeDiff, Nat.zero_le, true_and, and_true, List.map_nil, List.map_cons, exists_eq_left', Option.some.injEq, PyData.list.injEq, exists_eq_left, PyData.int.injEq, R.ok.injEq, Sl.own.injEq]
    rw [← ef]
    rfl
end Cb
end Bd
namespace Bd
open PySem L2
/-- dimension_of: 0 simplex -/
def G_dimension_of : Nv → Rs :=
    (seqS (retS (e2 subV (eN lenV (aC (gv 0) a0)) (k0 (.int 1))))
    .nx)
def F_dimension_of : List D → R D := runD 1 (.ok .none) G_dimension_of
/-- faces_of: 0 simplex, 1 at -/
def G_faces_of : Nv → Rs :=
    (seqS (ifS (tb (e2 eqV' (callV F_dimension_of (aC (gv 0) a0)) (k0 (.int 0)))) (seqS (retS (lstV a0))
    .nx) .nx)
    (seqS (retS (compE (iRR (eN lenV (aC (gv 0) a0))) (gN 1) (fun _ => .ok true) (e2 addV (slE slV (gv 0) p0 (p1 (gv 1))) (slE slV (gv 0) (p1 (e2 addV (gv 1) (k0 (.int 1)))) p0)) [1]))
    .nx))
def F_faces_of : List D → R D := runD 2 .no G_faces_of
/-- added: 0 first, 1 second -/
def G_added : Nv → Rs :=
    (seqS (retS (eN tupleV (aC (e1 sortSV (e2 symV (eN setV (aC (gv 0) a0)) (eN setV (aC (gv 1) a0)))) a0)))
    .nx)
def F_added : List D → R D := runD 2 (.ok .none) G_added
/-- summed: 0 chains, 1 total, 2 chain -/
def G_summed : Nv → Rs :=
    (seqS (setS 1 (tupV a0))
    (seqS (forS (iA (gv 0)) (gN 2) (seqS (setS 1 (callV F_added (aC (gv 1) (aC (gv 2) a0))))
    .nx))
    (seqS (retS (gv 1))
    .nx)))
def F_summed : List D → R D := runD 3 (.ok .none) G_summed
/-- own_boundaries: 0 order, 1 places, 2 place, 3 simplex, 4 face -/
def G_own_boundaries : Nv → Rs :=
    (seqS (setM 1 (dictE (iEn (aC (gv 0) a0)) (gT 2 (gsC (gN 2) (gsC (gN 3) gs0))) (gv 3) (gv 2) [2, 3]))
    (seqS (retS (compE (iA (gv 0)) (gN 3) (fun _ => .ok true) (eN tupleV (aC (eN sortAV (aC (compE (iA (callV F_faces_of (aC (gv 3) a0))) (gN 4) (fun _ => .ok true) (zget 1 (gv 4)) [4]) a0)) a0)) [3]))
    .nx))
def F_own_boundaries : List D → R D := runD 5 .no G_own_boundaries
/-- boundaries: 0 order, 1 chains, 2 own, 3 chain, 4 place -/
def G_boundaries : Nv → Rs :=
    (seqS (setS 2 (callV F_own_boundaries (aC (gv 0) a0)))
    (seqS (retS (compE (iA (gv 1)) (gN 3) (fun _ => .ok true) (callV F_summed (aC (compE (iA (gv 3)) (gN 4) (fun _ => .ok true) (e2 ixV (gv 2) (gv 4)) [4]) a0)) [3]))
    .nx))
def F_boundaries : List D → R D := runD 5 .no G_boundaries
/-- boundary: 0 order, 1 chain -/
def G_boundary : Nv → Rs :=
    (seqS (retS (e2 ixV (callV F_boundaries (aC (gv 0) (aC (lstV (aC (gv 1) a0)) a0))) (k0 (.int 0))))
    .nx)
def F_boundary : List D → R D := runD 2 (.ok .none) G_boundary
/-- is_cycle: 0 order, 1 chain -/
def G_is_cycle : Nv → Rs :=
    (seqS (retS (e2 eqV' (callV F_boundary (aC (gv 0) (aC (gv 1) a0))) (tupV a0)))
    .nx)
def F_is_cycle : List D → R D := runD 2 (.ok .none) G_is_cycle
/-- _law_deck: 0 script, 1 seed, 2 cell -/
def G__law_deck : Nv → Rs :=
    (seqS (setS 1 (k0 (.int 7)))
    (seqS (forS (iA (gv 0)) (gN 2) (seqS (setS 1 (e2 modV (eN intV (aC (e2 addV (e2 mulV (gv 1) (k0 (.int 48271))) (gv 2)) a0)) (k0 (.int 2147483647))))
    .nx))
    (seqS (retS (lstV (aC (k0 (.int 0)) (aC (k0 (.int 0)) (aC (gv 1) (aC (eN listV (aC (gv 0) a0)) (aC (k0 (.int 0)) a0)))))))
    .nx)))
def F__law_deck : List D → R D := runD 3 .no G__law_deck
/-- _law_draw: 0 deck, 1 bound, 2 number, 3 value -/
def G__law_draw : Nv → Rs :=
    (seqS (ifS (andB (tb (e2 eqV' (e2 ixV (go 0) (k0 (.int 0))) (k0 (.int 0)))) (tb (e2 ltA (e2 ixV (go 0) (k0 (.int 1))) (eN lenV (aC (e2 ixV (go 0) (k0 (.int 3))) a0))))) (seqS (xPutS 0 (up (eN absV' (aC (e2 ixV (e2 ixV (go 0) (k0 (.int 3))) (e2 ixV (go 0) (k0 (.int 1)))) a0))) (k0 (.int 0)))
    (seqS (xPutS 0 (up (e2 addV (e2 ixV (go 0) (k0 (.int 1))) (k0 (.int 1)))) (k0 (.int 1)))
    .nx)) (seqS (ifS (tb (e2 eqV' (e2 ixV (go 0) (k0 (.int 0))) (k0 (.int 0)))) (seqS (xPutS 0 (up (e2 addV (e2 ixV (go 0) (k0 (.int 4))) (k0 (.int 1)))) (k0 (.int 4)))
    (seqS (setS 2 (e2 modV (eN intV (aC (e2 addV (e2 addV (e2 mulV (e2 ixV (go 0) (k0 (.int 2))) (k0 (.int 48271))) (e2 mulV (e2 ixV (go 0) (k0 (.int 4))) (k0 (.int 69621)))) (k0 (.int 12345))) a0)) (k0 (.int 2147483647))))
    (seqS (setS 2 (e2 modV (eN intV (aC (e2 addV (e2 addV (e2 mulV (gv 2) (gv 2)) (e2 mulV (k0 (.int 16807)) (e2 ixV (go 0) (k0 (.int 4))))) (k0 (.int 7))) a0)) (k0 (.int 998244353))))
    (seqS (setS 2 (e2 modV (eN intV (aC (e2 addV (e2 addV (e2 mulV (gv 2) (gv 2)) (e2 mulV (k0 (.int 48271)) (e2 ixV (go 0) (k0 (.int 4))))) (e2 ixV (go 0) (k0 (.int 2)))) a0)) (k0 (.int 2147483629))))
    (seqS (xPutS 0 (up (e2 fdivV (gv 2) (k0 (.int 13)))) (k0 (.int 0)))
    .nx))))) .nx)
    .nx))
    (seqS (setS 3 (e2 modV (eN intV (aC (e2 ixV (go 0) (k0 (.int 0))) a0)) (gv 1)))
    (seqS (xPutS 0 (up (e2 fdivV (e2 ixV (go 0) (k0 (.int 0))) (gv 1))) (k0 (.int 0)))
    (seqS (retS (gv 3))
    .nx))))
def F__law_draw : List D → List D → R (D × List D) := runK 4 G__law_draw
/-- _law_faces: 0 simplex, 1 k -/
def G__law_faces : Nv → Rs :=
    (seqS (ifS (tb (e2 eqV' (eN lenV (aC (gv 0) a0)) (k0 (.int 1)))) (seqS (retS (lstV a0))
    .nx) .nx)
    (seqS (retS (compE (iR1 (aC (eN lenV (aC (gv 0) a0)) a0)) (gN 1) (fun _ => .ok true) (e2 addV (slE slV (gv 0) p0 (p1 (gv 1))) (slE slV (gv 0) (p1 (e2 addV (gv 1) (k0 (.int 1)))) p0)) [1]))
    .nx))
def F__law_faces : List D → R D := runD 2 .no G__law_faces
/-- _law_names: 0 deck, 1 most, 2 pool, 3 names, 4 k -/
def G__law_names : Nv → Rs :=
    (seqS (ownS 2 (lrgV (k0 (.int 12))))
    (seqS (ownS 3 (lstV a0))
    (seqS (xFor (xR1 (xC (x2 addV (up (k0 (.int 1))) (xCallK 0 F__law_draw (xC (up (gv 1)) x0))) x0)) (gN 4) (seqS (xApp 3 (xPop 2 (xCallK 0 F__law_draw (xC (up (eN lenV (aC (go 2) a0))) x0))))
    .nx))
    (seqS (frzS 3)
    (seqS (retS (eN sortAV (aC (gv 3) a0)))
    .nx)))))
def F__law_names : List D → List D → R (D × List D) := runK 5 G__law_names
/-- _law_every: 0 names, 1 found, 2 i, 3 j, 4 k -/
def G__law_every : Nv → Rs :=
    (seqS (ownS 1 (lstV a0))
    (seqS (forS (iR1 (aC (eN lenV (aC (gv 0) a0)) a0)) (gN 2) (seqS (appS 1 (tupV (aC (e2 ixV (gv 0) (gv 2)) a0)))
    (seqS (forS (iR1 (aC (gv 2) a0)) (gN 3) (seqS (appS 1 (tupV (aC (e2 ixV (gv 0) (gv 3)) (aC (e2 ixV (gv 0) (gv 2)) a0))))
    (seqS (ownS 1 (e2 catV (go 1) (compE (iR1 (aC (gv 3) a0)) (gN 4) (fun _ => .ok true) (tupV (aC (e2 ixV (gv 0) (gv 4)) (aC (e2 ixV (gv 0) (gv 3)) (aC (e2 ixV (gv 0) (gv 2)) a0)))) [4])))
    .nx)))
    .nx)))
    (seqS (retO 1)
    .nx)))
def F__law_every : List D → R D := runD 5 .no G__law_every
/-- _law_order: 0 deck, 1 most, 2 steps, 3 every, 4 order, 5 turn, 6 ready, 7 one, 8 face -/
def G__law_order : Nv → Rs :=
    (seqS (xSet 3 (xCall F__law_every (xC (xCallK 0 F__law_names (xC (up (gv 1)) x0)) x0)))
    (seqS (ownS 4 (lstV a0))
    (seqS (xFor (xR1 (xC (xCallK 0 F__law_draw (xC (up (e2 addV (gv 2) (k0 (.int 1)))) x0)) x0)) (gN 5) (seqS (setS 6 (compE (iA (gv 3)) (gN 7) (andB (tb (e2 ninV' (gv 7) (go 4))) (tb (eN allV (aC (compE (iA (callV F__law_faces (aC (gv 7) a0))) (gN 8) (fun _ => .ok true) (e2 inV' (gv 8) (go 4)) [8]) a0)))) (gv 7) [7]))
    (seqS (ifS (tb (gv 6)) (seqS (xApp 4 (x2 ixV (up (gv 6)) (xCallK 0 F__law_draw (xC (up (eN lenV (aC (gv 6) a0))) x0))))
    .nx) .nx)
    .nx)))
    (seqS (frzS 4)
    (seqS (retS (gv 4))
    .nx)))))
def F__law_order : List D → List D → R (D × List D) := runK 9 G__law_order
/-- _law_sum: 0 one, 1 other, 2 place -/
def G__law_sum : Nv → Rs :=
    (seqS (retS (eN sortAV (aC (e2 addV (compE (iA (gv 0)) (gN 2) (tb (e2 ninV' (gv 2) (gv 1))) (gv 2) [2]) (compE (iA (gv 1)) (gN 2) (tb (e2 ninV' (gv 2) (gv 0))) (gv 2) [2])) a0)))
    .nx)
def F__law_sum : List D → R D := runD 3 .no G__law_sum
/-- _law_edge: 0 order, 1 place, 2 face -/
def G__law_edge : Nv → Rs :=
    (seqS (retS (eN sortAV (aC (compE (iA (callV F__law_faces (aC (e2 ixV (gv 0) (gv 1)) a0))) (gN 2) (fun _ => .ok true) (m2 indexV (gv 0) (gv 2)) [2]) a0)))
    .nx)
def F__law_edge : List D → R D := runD 3 .no G__law_edge
/-- _law_rim: 0 order, 1 chain, 2 found, 3 place -/
def G__law_rim : Nv → Rs :=
    (seqS (setS 2 (lstV a0))
    (seqS (forS (iA (gv 1)) (gN 3) (seqS (setS 2 (callV F__law_sum (aC (gv 2) (aC (callV F__law_edge (aC (gv 0) (aC (gv 3) a0))) a0))))
    .nx))
    (seqS (retS (eN tupleV (aC (gv 2) a0)))
    .nx)))
def F__law_rim : List D → R D := runD 4 (.ok .none) G__law_rim
/-- _law_chain: 0 deck, 1 order, 2 size, 3 place -/
def G__law_chain : Nv → Rs :=
    (seqS (xRet (xN tupleV (xC (xComp (upI (iR1 (aC (eN lenV (aC (gv 1) a0)) a0))) (gN 3) (xAnd (upB (tb (e2 eqV' (eN lenV (aC (e2 ixV (gv 1) (gv 3)) a0)) (gv 2)))) (xb (x2 eqV' (xCallK 0 F__law_draw (xC (up (k0 (.int 2))) x0)) (up (k0 (.int 0)))))) (up (gv 3)) [3]) x0)))
    .nx)
def F__law_chain : List D → List D → R (D × List D) := runK 4 G__law_chain
/-- law: 0 script, 1 deck, 2 order, 3 size, 4 one, 5 other, 6 kept, 7 both, 8 chains, 9 chain, 10 due, 11 told, 12 place -/
def G_law : Nv → Rs :=
    (seqS (ownS 1 (callV F__law_deck (aC (gv 0) a0)))
    (seqS (xSet 2 (xCallK 1 F__law_order (xC (up (k0 (.int 5))) (xC (up (k0 (.int 20))) x0))))
    (seqS (xSet 3 (x2 addV (up (k0 (.int 1))) (xCallK 1 F__law_draw (xC (up (k0 (.int 3))) x0))))
    (seqS (xSet 4 (xCallK 1 F__law_chain (xC (up (gv 2)) (xC (up (gv 3)) x0))))
    (seqS (xSet 5 (xCallK 1 F__law_chain (xC (up (gv 2)) (xC (up (gv 3)) x0))))
    (seqS (setS 6 (eN listV (aC (gv 2) a0)))
    (seqS (setS 7 (eN tupleV (aC (callV F__law_sum (aC (gv 4) (aC (gv 5) a0))) a0)))
    (seqS (setS 8 (e2 addV (lstV (aC (gv 4) (aC (gv 5) (aC (gv 7) (aC (callV F__law_rim (aC (gv 2) (aC (gv 4) a0))) (aC (tupV a0) a0)))))) (compE (iR1 (aC (eN lenV (aC (gv 2) a0)) a0)) (gN 12) (fun _ => .ok true) (tupV (aC (gv 12) a0)) [12])))
    (seqS (forS (iA (gv 8)) (gN 9) (seqS (setS 10 (callV F__law_rim (aC (gv 2) (aC (gv 9) a0))))
    (seqS (setS 11 (callV F_boundary (aC (gv 6) (aC (gv 9) a0))))
    (seqS (ifS (orB (tb (e2 neV' (eN reprV (aC (gv 11) a0)) (eN reprV (aC (gv 10) a0)))) (orB (tb (e2 neV' (callV F_boundary (aC (gv 6) (aC (gv 11) a0))) (tupV a0))) (tb (e2 isnotBV (callV F_is_cycle (aC (gv 6) (aC (gv 11) a0))) (k0 (.bool true)))))) (seqS (retS (k0 (.bool false)))
    .nx) .nx)
    (seqS (ifS (tb (e2 neV' (eN reprV (aC (callV F_is_cycle (aC (gv 6) (aC (gv 9) a0))) a0)) (eN reprV (aC (e2 eqV' (gv 10) (tupV a0)) a0)))) (seqS (retS (k0 (.bool false)))
    .nx) .nx)
    .nx)))))
    (seqS (setS 10 (eN tupleV (aC (callV F__law_sum (aC (callV F__law_rim (aC (gv 2) (aC (gv 4) a0))) (aC (callV F__law_rim (aC (gv 2) (aC (gv 5) a0))) a0))) a0)))
    (seqS (retS (andV (e2 eqV' (callV F_boundary (aC (gv 6) (aC (callV F_added (aC (gv 4) (aC (gv 5) a0))) a0))) (gv 10)) (e2 eqV' (gv 6) (gv 2))))
    .nx)))))))))))
def F_law : List D → R D := runD 13 (.ok .none) G_law
def topS (i : Nat) : Stmt := PySem.Challenge.pw_barstay_k13_boundaries.main.body.getD i (.Pass ⟨0, 0, 0, 0⟩)
structure Zs (mg : Str → Option Value) : Prop where
  b_abs : mg "abs" = none
  b_all : mg "all" = none
  b_enumerate : mg "enumerate" = none
  b_int : mg "int" = none
  b_len : mg "len" = none
  b_list : mg "list" = none
  b_range : mg "range" = none
  b_repr : mg "repr" = none
  b_reversed : mg "reversed" = none
  b_set : mg "set" = none
  b_sorted : mg "sorted" = none
  b_tuple : mg "tuple" = none
section
variable {P : Program} {w : World} {K : PySem.W.Frag} {mg : Str → Option Value} {base : Heap}
abbrev s_dimension_of : Stmt := topS 1
theorem sc_dimension_of : FnScope ["simplex"] ["simplex"] (defScope s_dimension_of) := ⟨rfl, rfl, rfl, by decide +kernel, rfl, by decide +kernel, by decide +kernel⟩
set_option maxHeartbeats 400000 in
theorem ok_dimension_of {f : Addr} {fd : FuncData} (F : Fun K "dimension_of" "dimension_of" s_dimension_of f fd) (z : Zs mg) (gm : mg "dimension_of" = some (.ref f)) : Df P w K mg base 1 "dimension_of" 1 (rD K) F_dimension_of := by
  have bb : Binds K fd ["simplex"] [] := F.binds fun _ _ _ _ _ _ us hl => (match us, hl with | [_], _ => rfl)
  refine ⟨f, fd, ["simplex"], ?_, bb, gm, F.kp⟩
  suffices body : ∀ (cdv : Value) (A : Around) (outer : List PySem.Env) (s : Shared) (H : Hp) (E : XK) (A0 : List Addr), Room 0 (A.deeper (PyProof.Rows.envOfC "dimension_of" (defScope s_dimension_of) s.heap.objs.size f cdv)) → A.guards = some [] →
      TSs (cxOf (L2.CX P w) P w K mg base ["simplex"] "dimension_of" (defScope s_dimension_of) f cdv A outer s H E) ⟨fun cls d _ H => E cls d H, rD K, [], H, A0⟩ (defBody s_dimension_of) G_dimension_of by
    exact fn_rule (k := 0) (G := G_dimension_of) (N := ["simplex"]) (ps := ["simplex"]) (rl := rD K) (fall := .ok .none) F sc_dimension_of (.inl ⟨rfl, rfl⟩) body
  intro cdv A outer s H E A0 hr hg
  have hN := sc_dimension_of.nd
  have hu := hr.un
  have u64 : (A.deeper (PyProof.Rows.envOfC "dimension_of" (defScope s_dimension_of) s.heap.objs.size f cdv)).units + 64 < cLine := by omega
  have u65 : (A.deeper (PyProof.Rows.envOfC "dimension_of" (defScope s_dimension_of) s.heap.objs.size f cdv)).units + 65 < cLine := by omega
  have u66 : (A.deeper (PyProof.Rows.envOfC "dimension_of" (defScope s_dimension_of) s.heap.objs.size f cdv)).units + 66 < cLine := by omega
  have tk : Takes (cxOf (L2.CX P w) P w K mg base ["simplex"] "dimension_of" (defScope s_dimension_of) f cdv A outer s H E) (fun cls d _ H => E cls d H) := takes_of rfl rfl rfl rfl
  have hp : PassesOwn (model P w) (cxOf (L2.CX P w) P w K mg base ["simplex"] "dimension_of" (defScope s_dimension_of) f cdv A outer s H E).A (cxOf (L2.CX P w) P w K mg base ["simplex"] "dimension_of" (defScope s_dimension_of) f cdv A outer s H E).env (cxOf (L2.CX P w) P w K mg base ["simplex"] "dimension_of" (defScope s_dimension_of) f cdv A outer s H E).xe := passes_of (X := cxOf (L2.CX P w) P w K mg base ["simplex"] "dimension_of" (defScope s_dimension_of) f cdv A outer s H E) rfl
  exact ss_cons (s_ret (t_op back_D op_sub o_sub (TD.o (t_len z.b_len (as_cons keeps_O (TO.v (TD.o (t_var 0))) (as_nil)))) (TD.o (t_int))) rfl)
    (ss_nil)
abbrev s_faces_of : Stmt := topS 2
theorem sc_faces_of : FnScope ["simplex", "at"] ["simplex"] (defScope s_faces_of) := ⟨rfl, rfl, rfl, by decide +kernel, rfl, by decide +kernel, by decide +kernel⟩
set_option maxHeartbeats 400000 in
theorem ok_faces_of {f : Addr} {fd : FuncData} (F : Fun K "faces_of" "faces_of" s_faces_of f fd) (z : Zs mg) (d_dimension_of : Df P w K mg base 1 "dimension_of" 1 (rD K) F_dimension_of) (gm : mg "faces_of" = some (.ref f)) : Df P w K mg base 2 "faces_of" 1 (rF K) F_faces_of := by
  have bb : Binds K fd ["simplex"] [] := F.binds fun _ _ _ _ _ _ us hl => (match us, hl with | [_], _ => rfl)
  refine ⟨f, fd, ["simplex"], ?_, bb, gm, F.kp⟩
  suffices body : ∀ (cdv : Value) (A : Around) (outer : List PySem.Env) (s : Shared) (H : Hp) (E : XK) (A0 : List Addr), Room 1 (A.deeper (PyProof.Rows.envOfC "faces_of" (defScope s_faces_of) s.heap.objs.size f cdv)) → A.guards = some [] →
      TSs (cxOf (L2.CX P w) P w K mg base ["simplex", "at"] "faces_of" (defScope s_faces_of) f cdv A outer s H E) ⟨fun cls d _ H => E cls d H, rF K, [], H, A0⟩ (defBody s_faces_of) G_faces_of by
    exact fn_rule (k := 1) (G := G_faces_of) (N := ["simplex", "at"]) (ps := ["simplex"]) (rl := rF K) (fall := .no) F sc_faces_of (.inr rfl) body
  intro cdv A outer s H E A0 hr hg
  have hN := sc_faces_of.nd
  have hu := hr.un
  have u64 : (A.deeper (PyProof.Rows.envOfC "faces_of" (defScope s_faces_of) s.heap.objs.size f cdv)).units + 64 < cLine := by omega
  have u65 : (A.deeper (PyProof.Rows.envOfC "faces_of" (defScope s_faces_of) s.heap.objs.size f cdv)).units + 65 < cLine := by omega
  have u66 : (A.deeper (PyProof.Rows.envOfC "faces_of" (defScope s_faces_of) s.heap.objs.size f cdv)).units + 66 < cLine := by omega
  have tk : Takes (cxOf (L2.CX P w) P w K mg base ["simplex", "at"] "faces_of" (defScope s_faces_of) f cdv A outer s H E) (fun cls d _ H => E cls d H) := takes_of rfl rfl rfl rfl
  have hp : PassesOwn (model P w) (cxOf (L2.CX P w) P w K mg base ["simplex", "at"] "faces_of" (defScope s_faces_of) f cdv A outer s H E).A (cxOf (L2.CX P w) P w K mg base ["simplex", "at"] "faces_of" (defScope s_faces_of) f cdv A outer s H E).env (cxOf (L2.CX P w) P w K mg base ["simplex", "at"] "faces_of" (defScope s_faces_of) f cdv A outer s H E).xe := passes_of (X := cxOf (L2.CX P w) P w K mg base ["simplex", "at"] "faces_of" (defScope s_faces_of) f cdv A outer s H E) rfl
  exact ss_cons (s_if (b_eq u64 (TD.o (t_callD d_dimension_of hr hg (as_cons keeps_D (TD.v (t_var 0)) (as_nil)) (aC_len a0_len) back_D)) (TD.o (t_int))) (ss_cons (s_retF (t_lst (as_nil)) rfl)
    (ss_nil)) (ss_nil))
    (ss_cons (s_retF (t_lc rfl hN (i_revR z.b_reversed z.b_range (TD.o (t_len z.b_len (as_cons keeps_O (TO.v (TD.o (t_var 0))) (as_nil))))) (blkOk_by (N := ["simplex", "at"]) (sc := defScope s_faces_of) (own := [("at", 1)]) (by first | decide +kernel | rfl | with_unfolding_all rfl)) (fun _ _ _ _ _ => g_name 1 hN) (fun _ _ _ _ _ => cs_nil) (fun _ _ _ _ _ => t_op back_D op_addA o_add (TD.o (t_slice (TD.o (t_var 0)) (pt_0) (pt_1 (TD.o (t_var 1))))) (TD.o (t_slice (TD.o (t_var 0)) (pt_1 (TD.o (t_op back_D op_addA o_add (TD.o (t_var 1)) (TD.o (t_int))))) (pt_0))))) rfl)
    (ss_nil))
abbrev s_added : Stmt := topS 4
theorem sc_added : FnScope ["first", "second"] ["first", "second"] (defScope s_added) := ⟨rfl, rfl, rfl, by decide +kernel, rfl, by decide +kernel, by decide +kernel⟩
set_option maxHeartbeats 400000 in
theorem ok_added {f : Addr} {fd : FuncData} (F : Fun K "added" "added" s_added f fd) (z : Zs mg) (gm : mg "added" = some (.ref f)) : Df P w K mg base 1 "added" 2 (rD K) F_added := by
  have bb : Binds K fd ["first", "second"] [] := F.binds fun _ _ _ _ _ _ us hl => (match us, hl with | [_, _], _ => rfl)
  refine ⟨f, fd, ["first", "second"], ?_, bb, gm, F.kp⟩
  suffices body : ∀ (cdv : Value) (A : Around) (outer : List PySem.Env) (s : Shared) (H : Hp) (E : XK) (A0 : List Addr), Room 0 (A.deeper (PyProof.Rows.envOfC "added" (defScope s_added) s.heap.objs.size f cdv)) → A.guards = some [] →
      TSs (cxOf (L2.CX P w) P w K mg base ["first", "second"] "added" (defScope s_added) f cdv A outer s H E) ⟨fun cls d _ H => E cls d H, rD K, [], H, A0⟩ (defBody s_added) G_added by
    exact fn_rule (k := 0) (G := G_added) (N := ["first", "second"]) (ps := ["first", "second"]) (rl := rD K) (fall := .ok .none) F sc_added (.inl ⟨rfl, rfl⟩) body
  intro cdv A outer s H E A0 hr hg
  have hN := sc_added.nd
  have hu := hr.un
  have u64 : (A.deeper (PyProof.Rows.envOfC "added" (defScope s_added) s.heap.objs.size f cdv)).units + 64 < cLine := by omega
  have u65 : (A.deeper (PyProof.Rows.envOfC "added" (defScope s_added) s.heap.objs.size f cdv)).units + 65 < cLine := by omega
  have u66 : (A.deeper (PyProof.Rows.envOfC "added" (defScope s_added) s.heap.objs.size f cdv)).units + 66 < cLine := by omega
  have tk : Takes (cxOf (L2.CX P w) P w K mg base ["first", "second"] "added" (defScope s_added) f cdv A outer s H E) (fun cls d _ H => E cls d H) := takes_of rfl rfl rfl rfl
  have hp : PassesOwn (model P w) (cxOf (L2.CX P w) P w K mg base ["first", "second"] "added" (defScope s_added) f cdv A outer s H E).A (cxOf (L2.CX P w) P w K mg base ["first", "second"] "added" (defScope s_added) f cdv A outer s H E).env (cxOf (L2.CX P w) P w K mg base ["first", "second"] "added" (defScope s_added) f cdv A outer s H E).xe := passes_of (X := cxOf (L2.CX P w) P w K mg base ["first", "second"] "added" (defScope s_added) f cdv A outer s H E) rfl
  exact ss_cons (s_ret (t_tuplec z.b_tuple (as_cons keeps_O (TO.v (TF.o (t_sortS z.b_sorted (t_sxor (t_set z.b_set (as_cons keeps_O (TO.v (TD.o (t_var 0))) (as_nil))) (t_set z.b_set (as_cons keeps_O (TO.v (TD.o (t_var 1))) (as_nil))))))) (as_nil))) rfl)
    (ss_nil)
abbrev s_summed : Stmt := topS 5
theorem sc_summed : FnScope ["chains", "total", "chain"] ["chains"] (defScope s_summed) := ⟨rfl, rfl, rfl, by decide +kernel, rfl, by decide +kernel, by decide +kernel⟩
set_option maxHeartbeats 400000 in
theorem ok_summed {f : Addr} {fd : FuncData} (F : Fun K "summed" "summed" s_summed f fd) (z : Zs mg) (d_added : Df P w K mg base 1 "added" 2 (rD K) F_added) (gm : mg "summed" = some (.ref f)) : Df P w K mg base 2 "summed" 1 (rD K) F_summed := by
  have bb : Binds K fd ["chains"] [] := F.binds fun _ _ _ _ _ _ us hl => (match us, hl with | [_], _ => rfl)
  refine ⟨f, fd, ["chains"], ?_, bb, gm, F.kp⟩
  suffices body : ∀ (cdv : Value) (A : Around) (outer : List PySem.Env) (s : Shared) (H : Hp) (E : XK) (A0 : List Addr), Room 1 (A.deeper (PyProof.Rows.envOfC "summed" (defScope s_summed) s.heap.objs.size f cdv)) → A.guards = some [] →
      TSs (cxOf (L2.CX P w) P w K mg base ["chains", "total", "chain"] "summed" (defScope s_summed) f cdv A outer s H E) ⟨fun cls d _ H => E cls d H, rD K, [], H, A0⟩ (defBody s_summed) G_summed by
    exact fn_rule (k := 1) (G := G_summed) (N := ["chains", "total", "chain"]) (ps := ["chains"]) (rl := rD K) (fall := .ok .none) F sc_summed (.inl ⟨rfl, rfl⟩) body
  intro cdv A outer s H E A0 hr hg
  have hN := sc_summed.nd
  have hu := hr.un
  have u64 : (A.deeper (PyProof.Rows.envOfC "summed" (defScope s_summed) s.heap.objs.size f cdv)).units + 64 < cLine := by omega
  have u65 : (A.deeper (PyProof.Rows.envOfC "summed" (defScope s_summed) s.heap.objs.size f cdv)).units + 65 < cLine := by omega
  have u66 : (A.deeper (PyProof.Rows.envOfC "summed" (defScope s_summed) s.heap.objs.size f cdv)).units + 66 < cLine := by omega
  have tk : Takes (cxOf (L2.CX P w) P w K mg base ["chains", "total", "chain"] "summed" (defScope s_summed) f cdv A outer s H E) (fun cls d _ H => E cls d H) := takes_of rfl rfl rfl rfl
  have hp : PassesOwn (model P w) (cxOf (L2.CX P w) P w K mg base ["chains", "total", "chain"] "summed" (defScope s_summed) f cdv A outer s H E).A (cxOf (L2.CX P w) P w K mg base ["chains", "total", "chain"] "summed" (defScope s_summed) f cdv A outer s H E).env (cxOf (L2.CX P w) P w K mg base ["chains", "total", "chain"] "summed" (defScope s_summed) f cdv A outer s H E).xe := passes_of (X := cxOf (L2.CX P w) P w K mg base ["chains", "total", "chain"] "summed" (defScope s_summed) f cdv A outer s H E) rfl
  exact ss_cons (s_set 1 hN (t_tup (as_nil)))
    (ss_cons (s_for hp rfl (i_any (t_var 0)) (g_name 2 hN) (ss_cons (s_set 1 hN (t_callD d_added hr hg (as_cons keeps_D (TD.v (t_var 1)) (as_cons keeps_D (TD.v (t_var 2)) (as_nil))) (aC_len (aC_len a0_len)) back_D))
    (ss_nil)))
    (ss_cons (s_ret (t_var 1) rfl)
    (ss_nil)))
abbrev s_own_boundaries : Stmt := topS 8
theorem sc_own_boundaries : FnScope ["order", "places", "place", "simplex", "face"] ["order"] (defScope s_own_boundaries) := ⟨rfl, rfl, rfl, by decide +kernel, rfl, by decide +kernel, by decide +kernel⟩
set_option maxHeartbeats 400000 in
theorem ok_own_boundaries {f : Addr} {fd : FuncData} (F : Fun K "own_boundaries" "own_boundaries" s_own_boundaries f fd) (z : Zs mg) (d_faces_of : Df P w K mg base 2 "faces_of" 1 (rF K) F_faces_of) (gm : mg "own_boundaries" = some (.ref f)) : Df P w K mg base 3 "own_boundaries" 1 (rF K) F_own_boundaries := by
  have bb : Binds K fd ["order"] [] := F.binds fun _ _ _ _ _ _ us hl => (match us, hl with | [_], _ => rfl)
  refine ⟨f, fd, ["order"], ?_, bb, gm, F.kp⟩
  suffices body : ∀ (cdv : Value) (A : Around) (outer : List PySem.Env) (s : Shared) (H : Hp) (E : XK) (A0 : List Addr), Room 2 (A.deeper (PyProof.Rows.envOfC "own_boundaries" (defScope s_own_boundaries) s.heap.objs.size f cdv)) → A.guards = some [] →
      TSs (cxOf (L2.CX P w) P w K mg base ["order", "places", "place", "simplex", "face"] "own_boundaries" (defScope s_own_boundaries) f cdv A outer s H E) ⟨fun cls d _ H => E cls d H, rF K, [], H, A0⟩ (defBody s_own_boundaries) G_own_boundaries by
    exact fn_rule (k := 2) (G := G_own_boundaries) (N := ["order", "places", "place", "simplex", "face"]) (ps := ["order"]) (rl := rF K) (fall := .no) F sc_own_boundaries (.inr rfl) body
  intro cdv A outer s H E A0 hr hg
  have hN := sc_own_boundaries.nd
  have hu := hr.un
  have u64 : (A.deeper (PyProof.Rows.envOfC "own_boundaries" (defScope s_own_boundaries) s.heap.objs.size f cdv)).units + 64 < cLine := by omega
  have u65 : (A.deeper (PyProof.Rows.envOfC "own_boundaries" (defScope s_own_boundaries) s.heap.objs.size f cdv)).units + 65 < cLine := by omega
  have u66 : (A.deeper (PyProof.Rows.envOfC "own_boundaries" (defScope s_own_boundaries) s.heap.objs.size f cdv)).units + 66 < cLine := by omega
  have tk : Takes (cxOf (L2.CX P w) P w K mg base ["order", "places", "place", "simplex", "face"] "own_boundaries" (defScope s_own_boundaries) f cdv A outer s H E) (fun cls d _ H => E cls d H) := takes_of rfl rfl rfl rfl
  have hp : PassesOwn (model P w) (cxOf (L2.CX P w) P w K mg base ["order", "places", "place", "simplex", "face"] "own_boundaries" (defScope s_own_boundaries) f cdv A outer s H E).A (cxOf (L2.CX P w) P w K mg base ["order", "places", "place", "simplex", "face"] "own_boundaries" (defScope s_own_boundaries) f cdv A outer s H E).env (cxOf (L2.CX P w) P w K mg base ["order", "places", "place", "simplex", "face"] "own_boundaries" (defScope s_own_boundaries) f cdv A outer s H E).xe := passes_of (X := cxOf (L2.CX P w) P w K mg base ["order", "places", "place", "simplex", "face"] "own_boundaries" (defScope s_own_boundaries) f cdv A outer s H E) rfl
  exact ss_cons (s_setM 1 hN (t_dict u64 rfl hN (i_enum z.b_enumerate (as_cons keeps_D (TD.v (t_var 0)) (as_nil))) (blkOk_by (N := ["order", "places", "place", "simplex", "face"]) (sc := defScope s_own_boundaries) (own := [("place", 2), ("simplex", 3)]) (by first | decide +kernel | rfl | with_unfolding_all rfl)) (fun _ _ _ _ _ => g_tup rfl (g_cons (g_name 2 hN) (g_cons (g_name 3 hN) (g_nil)))) (fun _ _ _ _ _ => t_var 3) (fun _ _ _ _ _ => t_var 2)))
    (ss_cons (s_retF (t_lc rfl hN (i_any (t_var 0)) (blkOk_by (N := ["order", "places", "place", "simplex", "face"]) (sc := defScope s_own_boundaries) (own := [("simplex", 3)]) (by first | decide +kernel | rfl | with_unfolding_all rfl)) (fun _ _ _ _ _ => g_name 3 hN) (fun _ _ _ _ _ => cs_nil) (fun _ _ _ _ _ => t_tuplec z.b_tuple (as_cons keeps_O (TO.v (TF.o (t_sortA u64 z.b_sorted (as_cons keeps_O (TO.v (TF.o (t_lc rfl hN (i_any (TF.d (t_callD d_faces_of hr hg (as_cons keeps_D (TD.v (t_var 3)) (as_nil)) (aC_len a0_len) back_F))) (blkOk_by (N := ["order", "places", "place", "simplex", "face"]) (sc := _) (own := [("face", 4)]) (by first | decide +kernel | rfl | with_unfolding_all rfl)) (fun _ _ _ _ _ => g_name 4 hN) (fun _ _ _ _ _ => cs_nil) (fun _ _ _ _ _ => t_zget 1 u64 (t_var 4))))) (as_nil))))) (as_nil)))) rfl)
    (ss_nil))
abbrev s_boundaries : Stmt := topS 7
theorem sc_boundaries : FnScope ["order", "chains", "own", "chain", "place"] ["order", "chains"] (defScope s_boundaries) := ⟨rfl, rfl, rfl, by decide +kernel, rfl, by decide +kernel, by decide +kernel⟩
set_option maxHeartbeats 400000 in
theorem ok_boundaries {f : Addr} {fd : FuncData} (F : Fun K "boundaries" "boundaries" s_boundaries f fd) (z : Zs mg) (d_own_boundaries : Df P w K mg base 3 "own_boundaries" 1 (rF K) F_own_boundaries) (d_summed : Df P w K mg base 2 "summed" 1 (rD K) F_summed) (gm : mg "boundaries" = some (.ref f)) : Df P w K mg base 4 "boundaries" 2 (rF K) F_boundaries := by
  have bb : Binds K fd ["order", "chains"] [] := F.binds fun _ _ _ _ _ _ us hl => (match us, hl with | [_, _], _ => rfl)
  refine ⟨f, fd, ["order", "chains"], ?_, bb, gm, F.kp⟩
  suffices body : ∀ (cdv : Value) (A : Around) (outer : List PySem.Env) (s : Shared) (H : Hp) (E : XK) (A0 : List Addr), Room 3 (A.deeper (PyProof.Rows.envOfC "boundaries" (defScope s_boundaries) s.heap.objs.size f cdv)) → A.guards = some [] →
      TSs (cxOf (L2.CX P w) P w K mg base ["order", "chains", "own", "chain", "place"] "boundaries" (defScope s_boundaries) f cdv A outer s H E) ⟨fun cls d _ H => E cls d H, rF K, [], H, A0⟩ (defBody s_boundaries) G_boundaries by
    exact fn_rule (k := 3) (G := G_boundaries) (N := ["order", "chains", "own", "chain", "place"]) (ps := ["order", "chains"]) (rl := rF K) (fall := .no) F sc_boundaries (.inr rfl) body
  intro cdv A outer s H E A0 hr hg
  have hN := sc_boundaries.nd
  have hu := hr.un
  have u64 : (A.deeper (PyProof.Rows.envOfC "boundaries" (defScope s_boundaries) s.heap.objs.size f cdv)).units + 64 < cLine := by omega
  have u65 : (A.deeper (PyProof.Rows.envOfC "boundaries" (defScope s_boundaries) s.heap.objs.size f cdv)).units + 65 < cLine := by omega
  have u66 : (A.deeper (PyProof.Rows.envOfC "boundaries" (defScope s_boundaries) s.heap.objs.size f cdv)).units + 66 < cLine := by omega
  have tk : Takes (cxOf (L2.CX P w) P w K mg base ["order", "chains", "own", "chain", "place"] "boundaries" (defScope s_boundaries) f cdv A outer s H E) (fun cls d _ H => E cls d H) := takes_of rfl rfl rfl rfl
  have hp : PassesOwn (model P w) (cxOf (L2.CX P w) P w K mg base ["order", "chains", "own", "chain", "place"] "boundaries" (defScope s_boundaries) f cdv A outer s H E).A (cxOf (L2.CX P w) P w K mg base ["order", "chains", "own", "chain", "place"] "boundaries" (defScope s_boundaries) f cdv A outer s H E).env (cxOf (L2.CX P w) P w K mg base ["order", "chains", "own", "chain", "place"] "boundaries" (defScope s_boundaries) f cdv A outer s H E).xe := passes_of (X := cxOf (L2.CX P w) P w K mg base ["order", "chains", "own", "chain", "place"] "boundaries" (defScope s_boundaries) f cdv A outer s H E) rfl
  exact ss_cons (s_set 2 hN (TF.d (t_callD d_own_boundaries hr hg (as_cons keeps_D (TD.v (t_var 0)) (as_nil)) (aC_len a0_len) back_F)))
    (ss_cons (s_retF (t_lc rfl hN (i_any (t_var 1)) (blkOk_by (N := ["order", "chains", "own", "chain", "place"]) (sc := defScope s_boundaries) (own := [("chain", 3)]) (by first | decide +kernel | rfl | with_unfolding_all rfl)) (fun _ _ _ _ _ => g_name 3 hN) (fun _ _ _ _ _ => cs_nil) (fun _ _ _ _ _ => t_callD d_summed hr hg (as_cons keeps_D (TD.v (TF.d (t_lc rfl hN (i_any (t_var 3)) (blkOk_by (N := ["order", "chains", "own", "chain", "place"]) (sc := _) (own := [("place", 4)]) (by first | decide +kernel | rfl | with_unfolding_all rfl)) (fun _ _ _ _ _ => g_name 4 hN) (fun _ _ _ _ _ => cs_nil) (fun _ _ _ _ _ => t_ix (TD.o (t_var 2)) (TD.o (t_var 4)))))) (as_nil)) (aC_len a0_len) back_D)) rfl)
    (ss_nil))
abbrev s_boundary : Stmt := topS 6
theorem sc_boundary : FnScope ["order", "chain"] ["order", "chain"] (defScope s_boundary) := ⟨rfl, rfl, rfl, by decide +kernel, rfl, by decide +kernel, by decide +kernel⟩
set_option maxHeartbeats 400000 in
theorem ok_boundary {f : Addr} {fd : FuncData} (F : Fun K "boundary" "boundary" s_boundary f fd) (z : Zs mg) (d_boundaries : Df P w K mg base 4 "boundaries" 2 (rF K) F_boundaries) (gm : mg "boundary" = some (.ref f)) : Df P w K mg base 5 "boundary" 2 (rD K) F_boundary := by
  have bb : Binds K fd ["order", "chain"] [] := F.binds fun _ _ _ _ _ _ us hl => (match us, hl with | [_, _], _ => rfl)
  refine ⟨f, fd, ["order", "chain"], ?_, bb, gm, F.kp⟩
  suffices body : ∀ (cdv : Value) (A : Around) (outer : List PySem.Env) (s : Shared) (H : Hp) (E : XK) (A0 : List Addr), Room 4 (A.deeper (PyProof.Rows.envOfC "boundary" (defScope s_boundary) s.heap.objs.size f cdv)) → A.guards = some [] →
      TSs (cxOf (L2.CX P w) P w K mg base ["order", "chain"] "boundary" (defScope s_boundary) f cdv A outer s H E) ⟨fun cls d _ H => E cls d H, rD K, [], H, A0⟩ (defBody s_boundary) G_boundary by
    exact fn_rule (k := 4) (G := G_boundary) (N := ["order", "chain"]) (ps := ["order", "chain"]) (rl := rD K) (fall := .ok .none) F sc_boundary (.inl ⟨rfl, rfl⟩) body
  intro cdv A outer s H E A0 hr hg
  have hN := sc_boundary.nd
  have hu := hr.un
  have u64 : (A.deeper (PyProof.Rows.envOfC "boundary" (defScope s_boundary) s.heap.objs.size f cdv)).units + 64 < cLine := by omega
  have u65 : (A.deeper (PyProof.Rows.envOfC "boundary" (defScope s_boundary) s.heap.objs.size f cdv)).units + 65 < cLine := by omega
  have u66 : (A.deeper (PyProof.Rows.envOfC "boundary" (defScope s_boundary) s.heap.objs.size f cdv)).units + 66 < cLine := by omega
  have tk : Takes (cxOf (L2.CX P w) P w K mg base ["order", "chain"] "boundary" (defScope s_boundary) f cdv A outer s H E) (fun cls d _ H => E cls d H) := takes_of rfl rfl rfl rfl
  have hp : PassesOwn (model P w) (cxOf (L2.CX P w) P w K mg base ["order", "chain"] "boundary" (defScope s_boundary) f cdv A outer s H E).A (cxOf (L2.CX P w) P w K mg base ["order", "chain"] "boundary" (defScope s_boundary) f cdv A outer s H E).env (cxOf (L2.CX P w) P w K mg base ["order", "chain"] "boundary" (defScope s_boundary) f cdv A outer s H E).xe := passes_of (X := cxOf (L2.CX P w) P w K mg base ["order", "chain"] "boundary" (defScope s_boundary) f cdv A outer s H E) rfl
  exact ss_cons (s_ret (t_ix (TF.o (t_callD d_boundaries hr hg (as_cons keeps_D (TD.v (t_var 0)) (as_cons keeps_D (TD.v (TF.d (t_lst (as_cons keeps_D (TD.v (t_var 1)) (as_nil))))) (as_nil))) (aC_len (aC_len a0_len)) back_F)) (TD.o (t_int))) rfl)
    (ss_nil)
abbrev s_is_cycle : Stmt := topS 9
theorem sc_is_cycle : FnScope ["order", "chain"] ["order", "chain"] (defScope s_is_cycle) := ⟨rfl, rfl, rfl, by decide +kernel, rfl, by decide +kernel, by decide +kernel⟩
set_option maxHeartbeats 400000 in
theorem ok_is_cycle {f : Addr} {fd : FuncData} (F : Fun K "is_cycle" "is_cycle" s_is_cycle f fd) (z : Zs mg) (d_boundary : Df P w K mg base 5 "boundary" 2 (rD K) F_boundary) (gm : mg "is_cycle" = some (.ref f)) : Df P w K mg base 6 "is_cycle" 2 (rD K) F_is_cycle := by
  have bb : Binds K fd ["order", "chain"] [] := F.binds fun _ _ _ _ _ _ us hl => (match us, hl with | [_, _], _ => rfl)
  refine ⟨f, fd, ["order", "chain"], ?_, bb, gm, F.kp⟩
  suffices body : ∀ (cdv : Value) (A : Around) (outer : List PySem.Env) (s : Shared) (H : Hp) (E : XK) (A0 : List Addr), Room 5 (A.deeper (PyProof.Rows.envOfC "is_cycle" (defScope s_is_cycle) s.heap.objs.size f cdv)) → A.guards = some [] →
      TSs (cxOf (L2.CX P w) P w K mg base ["order", "chain"] "is_cycle" (defScope s_is_cycle) f cdv A outer s H E) ⟨fun cls d _ H => E cls d H, rD K, [], H, A0⟩ (defBody s_is_cycle) G_is_cycle by
    exact fn_rule (k := 5) (G := G_is_cycle) (N := ["order", "chain"]) (ps := ["order", "chain"]) (rl := rD K) (fall := .ok .none) F sc_is_cycle (.inl ⟨rfl, rfl⟩) body
  intro cdv A outer s H E A0 hr hg
  have hN := sc_is_cycle.nd
  have hu := hr.un
  have u64 : (A.deeper (PyProof.Rows.envOfC "is_cycle" (defScope s_is_cycle) s.heap.objs.size f cdv)).units + 64 < cLine := by omega
  have u65 : (A.deeper (PyProof.Rows.envOfC "is_cycle" (defScope s_is_cycle) s.heap.objs.size f cdv)).units + 65 < cLine := by omega
  have u66 : (A.deeper (PyProof.Rows.envOfC "is_cycle" (defScope s_is_cycle) s.heap.objs.size f cdv)).units + 66 < cLine := by omega
  have tk : Takes (cxOf (L2.CX P w) P w K mg base ["order", "chain"] "is_cycle" (defScope s_is_cycle) f cdv A outer s H E) (fun cls d _ H => E cls d H) := takes_of rfl rfl rfl rfl
  have hp : PassesOwn (model P w) (cxOf (L2.CX P w) P w K mg base ["order", "chain"] "is_cycle" (defScope s_is_cycle) f cdv A outer s H E).A (cxOf (L2.CX P w) P w K mg base ["order", "chain"] "is_cycle" (defScope s_is_cycle) f cdv A outer s H E).env (cxOf (L2.CX P w) P w K mg base ["order", "chain"] "is_cycle" (defScope s_is_cycle) f cdv A outer s H E).xe := passes_of (X := cxOf (L2.CX P w) P w K mg base ["order", "chain"] "is_cycle" (defScope s_is_cycle) f cdv A outer s H E) rfl
  exact ss_cons (s_ret (t_eq u64 (TD.o (t_callD d_boundary hr hg (as_cons keeps_D (TD.v (t_var 0)) (as_cons keeps_D (TD.v (t_var 1)) (as_nil))) (aC_len (aC_len a0_len)) back_D)) (TD.o (t_tup (as_nil)))) rfl)
    (ss_nil)
abbrev s__law_deck : Stmt := topS 11
theorem sc__law_deck : FnScope ["script", "seed", "cell"] ["script"] (defScope s__law_deck) := ⟨rfl, rfl, rfl, by decide +kernel, rfl, by decide +kernel, by decide +kernel⟩
set_option maxHeartbeats 400000 in
theorem ok__law_deck {f : Addr} {fd : FuncData} (F : Fun K "_law_deck" "_law_deck" s__law_deck f fd) (z : Zs mg) (gm : mg "_law_deck" = some (.ref f)) : Df P w K mg base 1 "_law_deck" 1 (rF K) F__law_deck := by
  have bb : Binds K fd ["script"] [] := F.binds fun _ _ _ _ _ _ us hl => (match us, hl with | [_], _ => rfl)
  refine ⟨f, fd, ["script"], ?_, bb, gm, F.kp⟩
  suffices body : ∀ (cdv : Value) (A : Around) (outer : List PySem.Env) (s : Shared) (H : Hp) (E : XK) (A0 : List Addr), Room 0 (A.deeper (PyProof.Rows.envOfC "_law_deck" (defScope s__law_deck) s.heap.objs.size f cdv)) → A.guards = some [] →
      TSs (cxOf (L2.CX P w) P w K mg base ["script", "seed", "cell"] "_law_deck" (defScope s__law_deck) f cdv A outer s H E) ⟨fun cls d _ H => E cls d H, rF K, [], H, A0⟩ (defBody s__law_deck) G__law_deck by
    exact fn_rule (k := 0) (G := G__law_deck) (N := ["script", "seed", "cell"]) (ps := ["script"]) (rl := rF K) (fall := .no) F sc__law_deck (.inr rfl) body
  intro cdv A outer s H E A0 hr hg
  have hN := sc__law_deck.nd
  have hu := hr.un
  have u64 : (A.deeper (PyProof.Rows.envOfC "_law_deck" (defScope s__law_deck) s.heap.objs.size f cdv)).units + 64 < cLine := by omega
  have u65 : (A.deeper (PyProof.Rows.envOfC "_law_deck" (defScope s__law_deck) s.heap.objs.size f cdv)).units + 65 < cLine := by omega
  have u66 : (A.deeper (PyProof.Rows.envOfC "_law_deck" (defScope s__law_deck) s.heap.objs.size f cdv)).units + 66 < cLine := by omega
  have tk : Takes (cxOf (L2.CX P w) P w K mg base ["script", "seed", "cell"] "_law_deck" (defScope s__law_deck) f cdv A outer s H E) (fun cls d _ H => E cls d H) := takes_of rfl rfl rfl rfl
  have hp : PassesOwn (model P w) (cxOf (L2.CX P w) P w K mg base ["script", "seed", "cell"] "_law_deck" (defScope s__law_deck) f cdv A outer s H E).A (cxOf (L2.CX P w) P w K mg base ["script", "seed", "cell"] "_law_deck" (defScope s__law_deck) f cdv A outer s H E).env (cxOf (L2.CX P w) P w K mg base ["script", "seed", "cell"] "_law_deck" (defScope s__law_deck) f cdv A outer s H E).xe := passes_of (X := cxOf (L2.CX P w) P w K mg base ["script", "seed", "cell"] "_law_deck" (defScope s__law_deck) f cdv A outer s H E) rfl
  exact ss_cons (s_set 1 hN (t_int))
    (ss_cons (s_for hp rfl (i_any (t_var 0)) (g_name 2 hN) (ss_cons (s_set 1 hN (t_op back_D op_mod o_mod (TD.o (t_intc z.b_int (as_cons keeps_O (TO.v (TD.o (t_op back_D op_addA o_add (TD.o (t_op back_D op_mul o_mul (TD.o (t_var 1)) (TD.o (t_int)))) (TD.o (t_var 2))))) (as_nil)))) (TD.o (t_int))))
    (ss_nil)))
    (ss_cons (s_retF (t_lst (as_cons keeps_D (TD.v (t_int)) (as_cons keeps_D (TD.v (t_int)) (as_cons keeps_D (TD.v (t_var 1)) (as_cons keeps_D (TD.v (TF.d (t_listc z.b_list (as_cons keeps_O (TO.v (TD.o (t_var 0))) (as_nil))))) (as_cons keeps_D (TD.v (t_int)) (as_nil))))))) rfl)
    (ss_nil)))
abbrev s__law_draw : Stmt := topS 12
theorem sc__law_draw : FnScope ["deck", "bound", "number", "value"] ["deck", "bound"] (defScope s__law_draw) := ⟨rfl, rfl, rfl, by decide +kernel, rfl, by decide +kernel, by decide +kernel⟩
set_option maxHeartbeats 400000 in
theorem ok__law_draw {f : Addr} {fd : FuncData} (F : Fun K "_law_draw" "_law_draw" s__law_draw f fd) (z : Zs mg) (gm : mg "_law_draw" = some (.ref f)) : DfK P w K mg base 1 "_law_draw" 1 F__law_draw := by
  have bb : Binds K fd ["deck", "bound"] [] := F.binds fun _ _ _ _ _ _ us hl => (match us, hl with | [_, _], _ => rfl)
  refine ⟨f, fd, ["deck", "bound"], ?_, bb, gm, F.kp⟩
  suffices body : ∀ (cdv : Value) (A : Around) (outer : List PySem.Env) (s : Shared) (H : Hp) (E : XK) (A0 : List Addr) (a : Addr), Room 0 (A.deeper (PyProof.Rows.envOfC "_law_draw" (defScope s__law_draw) s.heap.objs.size f cdv)) → A.guards = some [] →
      TSs (cxOf (L2.CX P w) P w K mg base ["deck", "bound", "number", "value"] "_law_draw" (defScope s__law_draw) f cdv A outer s H E) ⟨fun cls d _ H => E cls d H, rD K, [a], H, A0⟩ (defBody s__law_draw) G__law_draw by
    exact fn_ruleK (k := 0) (G := G__law_draw) (y := "deck") (N := ["bound", "number", "value"]) (ps := ["bound"]) (rl := rD K) F sc__law_draw body
  intro cdv A outer s H E A0 a hr hg
  have hN := sc__law_draw.nd
  have hu := hr.un
  have u64 : (A.deeper (PyProof.Rows.envOfC "_law_draw" (defScope s__law_draw) s.heap.objs.size f cdv)).units + 64 < cLine := by omega
  have u65 : (A.deeper (PyProof.Rows.envOfC "_law_draw" (defScope s__law_draw) s.heap.objs.size f cdv)).units + 65 < cLine := by omega
  have u66 : (A.deeper (PyProof.Rows.envOfC "_law_draw" (defScope s__law_draw) s.heap.objs.size f cdv)).units + 66 < cLine := by omega
  have tk : Takes (cxOf (L2.CX P w) P w K mg base ["deck", "bound", "number", "value"] "_law_draw" (defScope s__law_draw) f cdv A outer s H E) (fun cls d _ H => E cls d H) := takes_of rfl rfl rfl rfl
  have hp : PassesOwn (model P w) (cxOf (L2.CX P w) P w K mg base ["deck", "bound", "number", "value"] "_law_draw" (defScope s__law_draw) f cdv A outer s H E).A (cxOf (L2.CX P w) P w K mg base ["deck", "bound", "number", "value"] "_law_draw" (defScope s__law_draw) f cdv A outer s H E).env (cxOf (L2.CX P w) P w K mg base ["deck", "bound", "number", "value"] "_law_draw" (defScope s__law_draw) f cdv A outer s H E).xe := passes_of (X := cxOf (L2.CX P w) P w K mg base ["deck", "bound", "number", "value"] "_law_draw" (defScope s__law_draw) f cdv A outer s H E) rfl
  exact ss_cons (s_if (b_w (w_and (b_eq u64 (TD.o (t_ix (t_own 0) (TD.o (t_int)))) (TD.o (t_int))) (w_and1 (b_ltA u64 (TD.o (t_ix (t_own 0) (TD.o (t_int)))) (TD.o (t_len z.b_len (as_cons keeps_O (TO.v (TD.o (t_ix (t_own 0) (TD.o (t_int))))) (as_nil)))))))) (ss_cons (xs_put 0 (W := W0) (x_up (W := W0) (t_abs z.b_abs (as_cons keeps_O (TO.v (TD.o (t_ix (TD.o (t_ix (t_own 0) (TD.o (t_int)))) (TD.o (t_ix (t_own 0) (TD.o (t_int))))))) (as_nil)))) (t_int))
    (ss_cons (xs_put 0 (W := W0) (x_up (W := W0) (t_op back_D op_addA o_add (TD.o (t_ix (t_own 0) (TD.o (t_int)))) (TD.o (t_int)))) (t_int))
    (ss_nil))) (ss_cons (s_if (b_eq u64 (TD.o (t_ix (t_own 0) (TD.o (t_int)))) (TD.o (t_int))) (ss_cons (xs_put 0 (W := W0) (x_up (W := W0) (t_op back_D op_addA o_add (TD.o (t_ix (t_own 0) (TD.o (t_int)))) (TD.o (t_int)))) (t_int))
    (ss_cons (s_set 2 hN (t_op back_D op_mod o_mod (TD.o (t_intc z.b_int (as_cons keeps_O (TO.v (TD.o (t_op back_D op_addA o_add (TD.o (t_op back_D op_addA o_add (TD.o (t_op back_D op_mul o_mul (TD.o (t_ix (t_own 0) (TD.o (t_int)))) (TD.o (t_int)))) (TD.o (t_op back_D op_mul o_mul (TD.o (t_ix (t_own 0) (TD.o (t_int)))) (TD.o (t_int)))))) (TD.o (t_int))))) (as_nil)))) (TD.o (t_int))))
    (ss_cons (s_set 2 hN (t_op back_D op_mod o_mod (TD.o (t_intc z.b_int (as_cons keeps_O (TO.v (TD.o (t_op back_D op_addA o_add (TD.o (t_op back_D op_addA o_add (TD.o (t_op back_D op_mul o_mul (TD.o (t_var 2)) (TD.o (t_var 2)))) (TD.o (t_op back_D op_mul o_mul (TD.o (t_int)) (TD.o (t_ix (t_own 0) (TD.o (t_int)))))))) (TD.o (t_int))))) (as_nil)))) (TD.o (t_int))))
    (ss_cons (s_set 2 hN (t_op back_D op_mod o_mod (TD.o (t_intc z.b_int (as_cons keeps_O (TO.v (TD.o (t_op back_D op_addA o_add (TD.o (t_op back_D op_addA o_add (TD.o (t_op back_D op_mul o_mul (TD.o (t_var 2)) (TD.o (t_var 2)))) (TD.o (t_op back_D op_mul o_mul (TD.o (t_int)) (TD.o (t_ix (t_own 0) (TD.o (t_int)))))))) (TD.o (t_ix (t_own 0) (TD.o (t_int))))))) (as_nil)))) (TD.o (t_int))))
    (ss_cons (xs_put 0 (W := W0) (x_up (W := W0) (t_op back_D op_fdiv o_fdiv (TD.o (t_var 2)) (TD.o (t_int)))) (t_int))
    (ss_nil)))))) (ss_nil))
    (ss_nil)))
    (ss_cons (s_set 3 hN (t_op back_D op_mod o_mod (TD.o (t_intc z.b_int (as_cons keeps_O (TO.v (TD.o (t_ix (t_own 0) (TD.o (t_int))))) (as_nil)))) (TD.o (t_var 1))))
    (ss_cons (xs_put 0 (W := W0) (x_up (W := W0) (t_op back_D op_fdiv o_fdiv (TD.o (t_ix (t_own 0) (TD.o (t_int)))) (TD.o (t_var 1)))) (t_int))
    (ss_cons (s_ret (t_var 3) rfl)
    (ss_nil))))
abbrev s__law_faces : Stmt := topS 13
theorem sc__law_faces : FnScope ["simplex", "k"] ["simplex"] (defScope s__law_faces) := ⟨rfl, rfl, rfl, by decide +kernel, rfl, by decide +kernel, by decide +kernel⟩
set_option maxHeartbeats 400000 in
theorem ok__law_faces {f : Addr} {fd : FuncData} (F : Fun K "_law_faces" "_law_faces" s__law_faces f fd) (z : Zs mg) (gm : mg "_law_faces" = some (.ref f)) : Df P w K mg base 1 "_law_faces" 1 (rF K) F__law_faces := by
  have bb : Binds K fd ["simplex"] [] := F.binds fun _ _ _ _ _ _ us hl => (match us, hl with | [_], _ => rfl)
  refine ⟨f, fd, ["simplex"], ?_, bb, gm, F.kp⟩
  suffices body : ∀ (cdv : Value) (A : Around) (outer : List PySem.Env) (s : Shared) (H : Hp) (E : XK) (A0 : List Addr), Room 0 (A.deeper (PyProof.Rows.envOfC "_law_faces" (defScope s__law_faces) s.heap.objs.size f cdv)) → A.guards = some [] →
      TSs (cxOf (L2.CX P w) P w K mg base ["simplex", "k"] "_law_faces" (defScope s__law_faces) f cdv A outer s H E) ⟨fun cls d _ H => E cls d H, rF K, [], H, A0⟩ (defBody s__law_faces) G__law_faces by
    exact fn_rule (k := 0) (G := G__law_faces) (N := ["simplex", "k"]) (ps := ["simplex"]) (rl := rF K) (fall := .no) F sc__law_faces (.inr rfl) body
  intro cdv A outer s H E A0 hr hg
  have hN := sc__law_faces.nd
  have hu := hr.un
  have u64 : (A.deeper (PyProof.Rows.envOfC "_law_faces" (defScope s__law_faces) s.heap.objs.size f cdv)).units + 64 < cLine := by omega
  have u65 : (A.deeper (PyProof.Rows.envOfC "_law_faces" (defScope s__law_faces) s.heap.objs.size f cdv)).units + 65 < cLine := by omega
  have u66 : (A.deeper (PyProof.Rows.envOfC "_law_faces" (defScope s__law_faces) s.heap.objs.size f cdv)).units + 66 < cLine := by omega
  have tk : Takes (cxOf (L2.CX P w) P w K mg base ["simplex", "k"] "_law_faces" (defScope s__law_faces) f cdv A outer s H E) (fun cls d _ H => E cls d H) := takes_of rfl rfl rfl rfl
  have hp : PassesOwn (model P w) (cxOf (L2.CX P w) P w K mg base ["simplex", "k"] "_law_faces" (defScope s__law_faces) f cdv A outer s H E).A (cxOf (L2.CX P w) P w K mg base ["simplex", "k"] "_law_faces" (defScope s__law_faces) f cdv A outer s H E).env (cxOf (L2.CX P w) P w K mg base ["simplex", "k"] "_law_faces" (defScope s__law_faces) f cdv A outer s H E).xe := passes_of (X := cxOf (L2.CX P w) P w K mg base ["simplex", "k"] "_law_faces" (defScope s__law_faces) f cdv A outer s H E) rfl
  exact ss_cons (s_if (b_eq u64 (TD.o (t_len z.b_len (as_cons keeps_O (TO.v (TD.o (t_var 0))) (as_nil)))) (TD.o (t_int))) (ss_cons (s_retF (t_lst (as_nil)) rfl)
    (ss_nil)) (ss_nil))
    (ss_cons (s_retF (t_lc rfl hN (i_range1 (by rfl) z.b_range (as_cons keeps_O (TO.v (TD.o (t_len z.b_len (as_cons keeps_O (TO.v (TD.o (t_var 0))) (as_nil))))) (as_nil))) (blkOk_by (N := ["simplex", "k"]) (sc := defScope s__law_faces) (own := [("k", 1)]) (by first | decide +kernel | rfl | with_unfolding_all rfl)) (fun _ _ _ _ _ => g_name 1 hN) (fun _ _ _ _ _ => cs_nil) (fun _ _ _ _ _ => t_op back_D op_addA o_add (TD.o (t_slice (TD.o (t_var 0)) (pt_0) (pt_1 (TD.o (t_var 1))))) (TD.o (t_slice (TD.o (t_var 0)) (pt_1 (TD.o (t_op back_D op_addA o_add (TD.o (t_var 1)) (TD.o (t_int))))) (pt_0))))) rfl)
    (ss_nil))
abbrev s__law_names : Stmt := topS 14
theorem sc__law_names : FnScope ["deck", "most", "pool", "names", "k"] ["deck", "most"] (defScope s__law_names) := ⟨rfl, rfl, rfl, by decide +kernel, rfl, by decide +kernel, by decide +kernel⟩
set_option maxHeartbeats 400000 in
theorem ok__law_names {f : Addr} {fd : FuncData} (F : Fun K "_law_names" "_law_names" s__law_names f fd) (z : Zs mg) (d__law_draw : DfK P w K mg base 1 "_law_draw" 1 F__law_draw) (gm : mg "_law_names" = some (.ref f)) : DfK P w K mg base 2 "_law_names" 1 F__law_names := by
  have bb : Binds K fd ["deck", "most"] [] := F.binds fun _ _ _ _ _ _ us hl => (match us, hl with | [_, _], _ => rfl)
  refine ⟨f, fd, ["deck", "most"], ?_, bb, gm, F.kp⟩
  suffices body : ∀ (cdv : Value) (A : Around) (outer : List PySem.Env) (s : Shared) (H : Hp) (E : XK) (A0 : List Addr) (a : Addr), Room 1 (A.deeper (PyProof.Rows.envOfC "_law_names" (defScope s__law_names) s.heap.objs.size f cdv)) → A.guards = some [] →
      TSs (cxOf (L2.CX P w) P w K mg base ["deck", "most", "pool", "names", "k"] "_law_names" (defScope s__law_names) f cdv A outer s H E) ⟨fun cls d _ H => E cls d H, rD K, [a], H, A0⟩ (defBody s__law_names) G__law_names by
    exact fn_ruleK (k := 1) (G := G__law_names) (y := "deck") (N := ["most", "pool", "names", "k"]) (ps := ["most"]) (rl := rD K) F sc__law_names body
  intro cdv A outer s H E A0 a hr hg
  have hN := sc__law_names.nd
  have hu := hr.un
  have u64 : (A.deeper (PyProof.Rows.envOfC "_law_names" (defScope s__law_names) s.heap.objs.size f cdv)).units + 64 < cLine := by omega
  have u65 : (A.deeper (PyProof.Rows.envOfC "_law_names" (defScope s__law_names) s.heap.objs.size f cdv)).units + 65 < cLine := by omega
  have u66 : (A.deeper (PyProof.Rows.envOfC "_law_names" (defScope s__law_names) s.heap.objs.size f cdv)).units + 66 < cLine := by omega
  have tk : Takes (cxOf (L2.CX P w) P w K mg base ["deck", "most", "pool", "names", "k"] "_law_names" (defScope s__law_names) f cdv A outer s H E) (fun cls d _ H => E cls d H) := takes_of rfl rfl rfl rfl
  have hp : PassesOwn (model P w) (cxOf (L2.CX P w) P w K mg base ["deck", "most", "pool", "names", "k"] "_law_names" (defScope s__law_names) f cdv A outer s H E).A (cxOf (L2.CX P w) P w K mg base ["deck", "most", "pool", "names", "k"] "_law_names" (defScope s__law_names) f cdv A outer s H E).env (cxOf (L2.CX P w) P w K mg base ["deck", "most", "pool", "names", "k"] "_law_names" (defScope s__law_names) f cdv A outer s H E).xe := passes_of (X := cxOf (L2.CX P w) P w K mg base ["deck", "most", "pool", "names", "k"] "_law_names" (defScope s__law_names) f cdv A outer s H E) rfl
  exact ss_cons (s_own 2 hN (t_listRg rfl z.b_list z.b_range (TD.o (t_int))))
    (ss_cons (s_own 3 hN (t_lst (as_nil)))
    (ss_cons (xs_for hp rfl (xi_range1 (by rfl) z.b_range (xa_cons (x_op back2_D op_addA o_add (x_up (W := W0) (t_int)) (x_callDK 0 d__law_draw hr hg (xa_cons (x_up (W := W0) (t_var 1)) (xa_nil)) (xC_len x0_len))) (xa_nil))) (g_name 4 hN) (ss_cons (xs_app 3 (x_pop 2 (x_callDK 0 d__law_draw hr hg (xa_cons (x_up (W := W0) (t_len z.b_len (as_cons keeps_O (TO.v (t_own 2)) (as_nil)))) (xa_nil)) (xC_len x0_len))))
    (ss_nil)))
    (ss_frz 3 (ss_cons (s_ret (TF.d (t_sortA u64 z.b_sorted (as_cons keeps_O (TO.v (TD.o (t_var 3))) (as_nil)))) rfl)
    (ss_nil)))))
abbrev s__law_every : Stmt := topS 15
theorem sc__law_every : FnScope ["names", "found", "i", "j", "k"] ["names"] (defScope s__law_every) := ⟨rfl, rfl, rfl, by decide +kernel, rfl, by decide +kernel, by decide +kernel⟩
set_option maxHeartbeats 400000 in
theorem ok__law_every {f : Addr} {fd : FuncData} (F : Fun K "_law_every" "_law_every" s__law_every f fd) (z : Zs mg) (gm : mg "_law_every" = some (.ref f)) : Df P w K mg base 1 "_law_every" 1 (rF K) F__law_every := by
  have bb : Binds K fd ["names"] [] := F.binds fun _ _ _ _ _ _ us hl => (match us, hl with | [_], _ => rfl)
  refine ⟨f, fd, ["names"], ?_, bb, gm, F.kp⟩
  suffices body : ∀ (cdv : Value) (A : Around) (outer : List PySem.Env) (s : Shared) (H : Hp) (E : XK) (A0 : List Addr), Room 0 (A.deeper (PyProof.Rows.envOfC "_law_every" (defScope s__law_every) s.heap.objs.size f cdv)) → A.guards = some [] →
      TSs (cxOf (L2.CX P w) P w K mg base ["names", "found", "i", "j", "k"] "_law_every" (defScope s__law_every) f cdv A outer s H E) ⟨fun cls d _ H => E cls d H, rF K, [], H, A0⟩ (defBody s__law_every) G__law_every by
    exact fn_rule (k := 0) (G := G__law_every) (N := ["names", "found", "i", "j", "k"]) (ps := ["names"]) (rl := rF K) (fall := .no) F sc__law_every (.inr rfl) body
  intro cdv A outer s H E A0 hr hg
  have hN := sc__law_every.nd
  have hu := hr.un
  have u64 : (A.deeper (PyProof.Rows.envOfC "_law_every" (defScope s__law_every) s.heap.objs.size f cdv)).units + 64 < cLine := by omega
  have u65 : (A.deeper (PyProof.Rows.envOfC "_law_every" (defScope s__law_every) s.heap.objs.size f cdv)).units + 65 < cLine := by omega
  have u66 : (A.deeper (PyProof.Rows.envOfC "_law_every" (defScope s__law_every) s.heap.objs.size f cdv)).units + 66 < cLine := by omega
  have tk : Takes (cxOf (L2.CX P w) P w K mg base ["names", "found", "i", "j", "k"] "_law_every" (defScope s__law_every) f cdv A outer s H E) (fun cls d _ H => E cls d H) := takes_of rfl rfl rfl rfl
  have hp : PassesOwn (model P w) (cxOf (L2.CX P w) P w K mg base ["names", "found", "i", "j", "k"] "_law_every" (defScope s__law_every) f cdv A outer s H E).A (cxOf (L2.CX P w) P w K mg base ["names", "found", "i", "j", "k"] "_law_every" (defScope s__law_every) f cdv A outer s H E).env (cxOf (L2.CX P w) P w K mg base ["names", "found", "i", "j", "k"] "_law_every" (defScope s__law_every) f cdv A outer s H E).xe := passes_of (X := cxOf (L2.CX P w) P w K mg base ["names", "found", "i", "j", "k"] "_law_every" (defScope s__law_every) f cdv A outer s H E) rfl
  exact ss_cons (s_own 1 hN (t_lst (as_nil)))
    (ss_cons (s_for hp rfl (i_range1 (by rfl) z.b_range (as_cons keeps_O (TO.v (TD.o (t_len z.b_len (as_cons keeps_O (TO.v (TD.o (t_var 0))) (as_nil))))) (as_nil))) (g_name 2 hN) (ss_cons (s_app 1 (t_tup (as_cons keeps_D (TD.v (t_ix (TD.o (t_var 0)) (TD.o (t_var 2)))) (as_nil))))
    (ss_cons (s_for hp rfl (i_range1 (by rfl) z.b_range (as_cons keeps_O (TO.v (TD.o (t_var 2))) (as_nil))) (g_name 3 hN) (ss_cons (s_app 1 (t_tup (as_cons keeps_D (TD.v (t_ix (TD.o (t_var 0)) (TD.o (t_var 3)))) (as_cons keeps_D (TD.v (t_ix (TD.o (t_var 0)) (TD.o (t_var 2)))) (as_nil)))))
    (ss_cons (s_own 1 hN (t_op back_F op_catS o_cat (t_own 1) (TF.o (t_lc rfl hN (i_range1 (by rfl) z.b_range (as_cons keeps_O (TO.v (TD.o (t_var 3))) (as_nil))) (blkOk_by (N := ["names", "found", "i", "j", "k"]) (sc := defScope s__law_every) (own := [("k", 4)]) (by first | decide +kernel | rfl | with_unfolding_all rfl)) (fun _ _ _ _ _ => g_name 4 hN) (fun _ _ _ _ _ => cs_nil) (fun _ _ _ _ _ => t_tup (as_cons keeps_D (TD.v (t_ix (TD.o (t_var 0)) (TD.o (t_var 4)))) (as_cons keeps_D (TD.v (t_ix (TD.o (t_var 0)) (TD.o (t_var 3)))) (as_cons keeps_D (TD.v (t_ix (TD.o (t_var 0)) (TD.o (t_var 2)))) (as_nil)))))))))
    (ss_nil))))
    (ss_nil))))
    (ss_cons (s_retO 1 rfl)
    (ss_nil)))
abbrev s__law_order : Stmt := topS 16
theorem sc__law_order : FnScope ["deck", "most", "steps", "every", "order", "turn", "ready", "one", "face"] ["deck", "most", "steps"] (defScope s__law_order) := ⟨rfl, rfl, rfl, by decide +kernel, rfl, by decide +kernel, by decide +kernel⟩
set_option maxHeartbeats 400000 in
theorem ok__law_order {f : Addr} {fd : FuncData} (F : Fun K "_law_order" "_law_order" s__law_order f fd) (z : Zs mg) (d__law_draw : DfK P w K mg base 1 "_law_draw" 1 F__law_draw) (d__law_every : Df P w K mg base 1 "_law_every" 1 (rF K) F__law_every) (d__law_faces : Df P w K mg base 1 "_law_faces" 1 (rF K) F__law_faces) (d__law_names : DfK P w K mg base 2 "_law_names" 1 F__law_names) (gm : mg "_law_order" = some (.ref f)) : DfK P w K mg base 3 "_law_order" 2 F__law_order := by
  have bb : Binds K fd ["deck", "most", "steps"] [] := F.binds fun _ _ _ _ _ _ us hl => (match us, hl with | [_, _, _], _ => rfl)
  refine ⟨f, fd, ["deck", "most", "steps"], ?_, bb, gm, F.kp⟩
  suffices body : ∀ (cdv : Value) (A : Around) (outer : List PySem.Env) (s : Shared) (H : Hp) (E : XK) (A0 : List Addr) (a : Addr), Room 2 (A.deeper (PyProof.Rows.envOfC "_law_order" (defScope s__law_order) s.heap.objs.size f cdv)) → A.guards = some [] →
      TSs (cxOf (L2.CX P w) P w K mg base ["deck", "most", "steps", "every", "order", "turn", "ready", "one", "face"] "_law_order" (defScope s__law_order) f cdv A outer s H E) ⟨fun cls d _ H => E cls d H, rD K, [a], H, A0⟩ (defBody s__law_order) G__law_order by
    exact fn_ruleK (k := 2) (G := G__law_order) (y := "deck") (N := ["most", "steps", "every", "order", "turn", "ready", "one", "face"]) (ps := ["most", "steps"]) (rl := rD K) F sc__law_order body
  intro cdv A outer s H E A0 a hr hg
  have hN := sc__law_order.nd
  have hu := hr.un
  have u64 : (A.deeper (PyProof.Rows.envOfC "_law_order" (defScope s__law_order) s.heap.objs.size f cdv)).units + 64 < cLine := by omega
  have u65 : (A.deeper (PyProof.Rows.envOfC "_law_order" (defScope s__law_order) s.heap.objs.size f cdv)).units + 65 < cLine := by omega
  have u66 : (A.deeper (PyProof.Rows.envOfC "_law_order" (defScope s__law_order) s.heap.objs.size f cdv)).units + 66 < cLine := by omega
  have tk : Takes (cxOf (L2.CX P w) P w K mg base ["deck", "most", "steps", "every", "order", "turn", "ready", "one", "face"] "_law_order" (defScope s__law_order) f cdv A outer s H E) (fun cls d _ H => E cls d H) := takes_of rfl rfl rfl rfl
  have hp : PassesOwn (model P w) (cxOf (L2.CX P w) P w K mg base ["deck", "most", "steps", "every", "order", "turn", "ready", "one", "face"] "_law_order" (defScope s__law_order) f cdv A outer s H E).A (cxOf (L2.CX P w) P w K mg base ["deck", "most", "steps", "every", "order", "turn", "ready", "one", "face"] "_law_order" (defScope s__law_order) f cdv A outer s H E).env (cxOf (L2.CX P w) P w K mg base ["deck", "most", "steps", "every", "order", "turn", "ready", "one", "face"] "_law_order" (defScope s__law_order) f cdv A outer s H E).xe := passes_of (X := cxOf (L2.CX P w) P w K mg base ["deck", "most", "steps", "every", "order", "turn", "ready", "one", "face"] "_law_order" (defScope s__law_order) f cdv A outer s H E) rfl
  exact ss_cons (xs_set 3 hN (x_callD d__law_every.asD hr hg (xa_cons (x_callDK 0 d__law_names hr hg (xa_cons (x_up (W := W0) (t_var 1)) (xa_nil)) (xC_len x0_len)) (xa_nil)) (xC_len x0_len)))
    (ss_cons (s_own 4 hN (t_lst (as_nil)))
    (ss_cons (xs_for hp rfl (xi_range1 (by rfl) z.b_range (xa_cons (x_callDK 0 d__law_draw hr hg (xa_cons (x_up (W := W0) (t_op back_D op_addA o_add (TD.o (t_var 2)) (TD.o (t_int)))) (xa_nil)) (xC_len x0_len)) (xa_nil))) (g_name 5 hN) (ss_cons (s_setLc 6 rfl hN (sw_true rfl rfl rfl (by decide +kernel)) (i_any (t_var 3)) (blkOk_by (N := ["deck", "most", "steps", "every", "order", "turn", "ready", "one", "face"]) (sc := defScope s__law_order) (own := [("one", 7)]) (by first | decide +kernel | rfl | with_unfolding_all rfl)) (fun _ _ _ _ _ => g_name 7 hN) (fun _ _ _ _ _ => cs_one (b_w (w_and (b_notin u65 (TD.o (t_var 7)) (t_own 4)) (w_and1 (b_val (TD.o (t_all rfl z.b_all (as_cons keeps_O (TO.v (TF.o (t_lc rfl hN (i_any (TF.d (t_callD d__law_faces hr hg (as_cons keeps_D (TD.v (t_var 7)) (as_nil)) (aC_len a0_len) back_F))) (blkOk_by (N := ["deck", "most", "steps", "every", "order", "turn", "ready", "one", "face"]) (sc := _) (own := [("face", 8)]) (by first | decide +kernel | rfl | with_unfolding_all rfl)) (fun _ _ _ _ _ => g_name 8 hN) (fun _ _ _ _ _ => cs_nil) (fun _ _ _ _ _ => t_in u65 (TD.o (t_var 8)) (t_own 4))))) (as_nil))))))))) (fun _ _ _ _ _ => t_var 7))
    (ss_cons (s_if (b_val (TD.o (t_var 6))) (ss_cons (xs_app 4 (x_ix (x_up (W := W0) (t_var 6)) (x_callDK 0 d__law_draw hr hg (xa_cons (x_up (W := W0) (t_len z.b_len (as_cons keeps_O (TO.v (TD.o (t_var 6))) (as_nil)))) (xa_nil)) (xC_len x0_len))))
    (ss_nil)) (ss_nil))
    (ss_nil))))
    (ss_frz 4 (ss_cons (s_ret (t_var 4) rfl)
    (ss_nil)))))
abbrev s__law_sum : Stmt := topS 17
theorem sc__law_sum : FnScope ["one", "other", "place"] ["one", "other"] (defScope s__law_sum) := ⟨rfl, rfl, rfl, by decide +kernel, rfl, by decide +kernel, by decide +kernel⟩
set_option maxHeartbeats 400000 in
theorem ok__law_sum {f : Addr} {fd : FuncData} (F : Fun K "_law_sum" "_law_sum" s__law_sum f fd) (z : Zs mg) (gm : mg "_law_sum" = some (.ref f)) : Df P w K mg base 1 "_law_sum" 2 (rF K) F__law_sum := by
  have bb : Binds K fd ["one", "other"] [] := F.binds fun _ _ _ _ _ _ us hl => (match us, hl with | [_, _], _ => rfl)
  refine ⟨f, fd, ["one", "other"], ?_, bb, gm, F.kp⟩
  suffices body : ∀ (cdv : Value) (A : Around) (outer : List PySem.Env) (s : Shared) (H : Hp) (E : XK) (A0 : List Addr), Room 0 (A.deeper (PyProof.Rows.envOfC "_law_sum" (defScope s__law_sum) s.heap.objs.size f cdv)) → A.guards = some [] →
      TSs (cxOf (L2.CX P w) P w K mg base ["one", "other", "place"] "_law_sum" (defScope s__law_sum) f cdv A outer s H E) ⟨fun cls d _ H => E cls d H, rF K, [], H, A0⟩ (defBody s__law_sum) G__law_sum by
    exact fn_rule (k := 0) (G := G__law_sum) (N := ["one", "other", "place"]) (ps := ["one", "other"]) (rl := rF K) (fall := .no) F sc__law_sum (.inr rfl) body
  intro cdv A outer s H E A0 hr hg
  have hN := sc__law_sum.nd
  have hu := hr.un
  have u64 : (A.deeper (PyProof.Rows.envOfC "_law_sum" (defScope s__law_sum) s.heap.objs.size f cdv)).units + 64 < cLine := by omega
  have u65 : (A.deeper (PyProof.Rows.envOfC "_law_sum" (defScope s__law_sum) s.heap.objs.size f cdv)).units + 65 < cLine := by omega
  have u66 : (A.deeper (PyProof.Rows.envOfC "_law_sum" (defScope s__law_sum) s.heap.objs.size f cdv)).units + 66 < cLine := by omega
  have tk : Takes (cxOf (L2.CX P w) P w K mg base ["one", "other", "place"] "_law_sum" (defScope s__law_sum) f cdv A outer s H E) (fun cls d _ H => E cls d H) := takes_of rfl rfl rfl rfl
  have hp : PassesOwn (model P w) (cxOf (L2.CX P w) P w K mg base ["one", "other", "place"] "_law_sum" (defScope s__law_sum) f cdv A outer s H E).A (cxOf (L2.CX P w) P w K mg base ["one", "other", "place"] "_law_sum" (defScope s__law_sum) f cdv A outer s H E).env (cxOf (L2.CX P w) P w K mg base ["one", "other", "place"] "_law_sum" (defScope s__law_sum) f cdv A outer s H E).xe := passes_of (X := cxOf (L2.CX P w) P w K mg base ["one", "other", "place"] "_law_sum" (defScope s__law_sum) f cdv A outer s H E) rfl
  exact ss_cons (s_retF (t_sortA u64 z.b_sorted (as_cons keeps_O (TO.v (TD.o (t_op back_D op_addA o_add (TF.o (t_lc rfl hN (i_any (t_var 0)) (blkOk_by (N := ["one", "other", "place"]) (sc := defScope s__law_sum) (own := [("place", 2)]) (by first | decide +kernel | rfl | with_unfolding_all rfl)) (fun _ _ _ _ _ => g_name 2 hN) (fun _ _ _ _ _ => cs_one (b_notin u65 (TD.o (t_var 2)) (TD.o (t_var 1)))) (fun _ _ _ _ _ => t_var 2))) (TF.o (t_lc rfl hN (i_any (t_var 1)) (blkOk_by (N := ["one", "other", "place"]) (sc := defScope s__law_sum) (own := [("place", 2)]) (by first | decide +kernel | rfl | with_unfolding_all rfl)) (fun _ _ _ _ _ => g_name 2 hN) (fun _ _ _ _ _ => cs_one (b_notin u65 (TD.o (t_var 2)) (TD.o (t_var 0)))) (fun _ _ _ _ _ => t_var 2)))))) (as_nil))) rfl)
    (ss_nil)
abbrev s__law_edge : Stmt := topS 18
theorem sc__law_edge : FnScope ["order", "place", "face"] ["order", "place"] (defScope s__law_edge) := ⟨rfl, rfl, rfl, by decide +kernel, rfl, by decide +kernel, by decide +kernel⟩
set_option maxHeartbeats 400000 in
theorem ok__law_edge {f : Addr} {fd : FuncData} (F : Fun K "_law_edge" "_law_edge" s__law_edge f fd) (z : Zs mg) (d__law_faces : Df P w K mg base 1 "_law_faces" 1 (rF K) F__law_faces) (gm : mg "_law_edge" = some (.ref f)) : Df P w K mg base 2 "_law_edge" 2 (rF K) F__law_edge := by
  have bb : Binds K fd ["order", "place"] [] := F.binds fun _ _ _ _ _ _ us hl => (match us, hl with | [_, _], _ => rfl)
  refine ⟨f, fd, ["order", "place"], ?_, bb, gm, F.kp⟩
  suffices body : ∀ (cdv : Value) (A : Around) (outer : List PySem.Env) (s : Shared) (H : Hp) (E : XK) (A0 : List Addr), Room 1 (A.deeper (PyProof.Rows.envOfC "_law_edge" (defScope s__law_edge) s.heap.objs.size f cdv)) → A.guards = some [] →
      TSs (cxOf (L2.CX P w) P w K mg base ["order", "place", "face"] "_law_edge" (defScope s__law_edge) f cdv A outer s H E) ⟨fun cls d _ H => E cls d H, rF K, [], H, A0⟩ (defBody s__law_edge) G__law_edge by
    exact fn_rule (k := 1) (G := G__law_edge) (N := ["order", "place", "face"]) (ps := ["order", "place"]) (rl := rF K) (fall := .no) F sc__law_edge (.inr rfl) body
  intro cdv A outer s H E A0 hr hg
  have hN := sc__law_edge.nd
  have hu := hr.un
  have u64 : (A.deeper (PyProof.Rows.envOfC "_law_edge" (defScope s__law_edge) s.heap.objs.size f cdv)).units + 64 < cLine := by omega
  have u65 : (A.deeper (PyProof.Rows.envOfC "_law_edge" (defScope s__law_edge) s.heap.objs.size f cdv)).units + 65 < cLine := by omega
  have u66 : (A.deeper (PyProof.Rows.envOfC "_law_edge" (defScope s__law_edge) s.heap.objs.size f cdv)).units + 66 < cLine := by omega
  have tk : Takes (cxOf (L2.CX P w) P w K mg base ["order", "place", "face"] "_law_edge" (defScope s__law_edge) f cdv A outer s H E) (fun cls d _ H => E cls d H) := takes_of rfl rfl rfl rfl
  have hp : PassesOwn (model P w) (cxOf (L2.CX P w) P w K mg base ["order", "place", "face"] "_law_edge" (defScope s__law_edge) f cdv A outer s H E).A (cxOf (L2.CX P w) P w K mg base ["order", "place", "face"] "_law_edge" (defScope s__law_edge) f cdv A outer s H E).env (cxOf (L2.CX P w) P w K mg base ["order", "place", "face"] "_law_edge" (defScope s__law_edge) f cdv A outer s H E).xe := passes_of (X := cxOf (L2.CX P w) P w K mg base ["order", "place", "face"] "_law_edge" (defScope s__law_edge) f cdv A outer s H E) rfl
  exact ss_cons (s_retF (t_sortA u64 z.b_sorted (as_cons keeps_O (TO.v (TF.o (t_lc rfl hN (i_any (TF.d (t_callD d__law_faces hr hg (as_cons keeps_D (TD.v (t_ix (TD.o (t_var 0)) (TD.o (t_var 1)))) (as_nil)) (aC_len a0_len) back_F))) (blkOk_by (N := ["order", "place", "face"]) (sc := defScope s__law_edge) (own := [("face", 2)]) (by first | decide +kernel | rfl | with_unfolding_all rfl)) (fun _ _ _ _ _ => g_name 2 hN) (fun _ _ _ _ _ => cs_nil) (fun _ _ _ _ _ => t_index u65 (TD.o (t_var 0)) (TD.o (t_var 2)))))) (as_nil))) rfl)
    (ss_nil)
abbrev s__law_rim : Stmt := topS 19
theorem sc__law_rim : FnScope ["order", "chain", "found", "place"] ["order", "chain"] (defScope s__law_rim) := ⟨rfl, rfl, rfl, by decide +kernel, rfl, by decide +kernel, by decide +kernel⟩
set_option maxHeartbeats 400000 in
theorem ok__law_rim {f : Addr} {fd : FuncData} (F : Fun K "_law_rim" "_law_rim" s__law_rim f fd) (z : Zs mg) (d__law_edge : Df P w K mg base 2 "_law_edge" 2 (rF K) F__law_edge) (d__law_sum : Df P w K mg base 1 "_law_sum" 2 (rF K) F__law_sum) (gm : mg "_law_rim" = some (.ref f)) : Df P w K mg base 3 "_law_rim" 2 (rD K) F__law_rim := by
  have bb : Binds K fd ["order", "chain"] [] := F.binds fun _ _ _ _ _ _ us hl => (match us, hl with | [_, _], _ => rfl)
  refine ⟨f, fd, ["order", "chain"], ?_, bb, gm, F.kp⟩
  suffices body : ∀ (cdv : Value) (A : Around) (outer : List PySem.Env) (s : Shared) (H : Hp) (E : XK) (A0 : List Addr), Room 2 (A.deeper (PyProof.Rows.envOfC "_law_rim" (defScope s__law_rim) s.heap.objs.size f cdv)) → A.guards = some [] →
      TSs (cxOf (L2.CX P w) P w K mg base ["order", "chain", "found", "place"] "_law_rim" (defScope s__law_rim) f cdv A outer s H E) ⟨fun cls d _ H => E cls d H, rD K, [], H, A0⟩ (defBody s__law_rim) G__law_rim by
    exact fn_rule (k := 2) (G := G__law_rim) (N := ["order", "chain", "found", "place"]) (ps := ["order", "chain"]) (rl := rD K) (fall := .ok .none) F sc__law_rim (.inl ⟨rfl, rfl⟩) body
  intro cdv A outer s H E A0 hr hg
  have hN := sc__law_rim.nd
  have hu := hr.un
  have u64 : (A.deeper (PyProof.Rows.envOfC "_law_rim" (defScope s__law_rim) s.heap.objs.size f cdv)).units + 64 < cLine := by omega
  have u65 : (A.deeper (PyProof.Rows.envOfC "_law_rim" (defScope s__law_rim) s.heap.objs.size f cdv)).units + 65 < cLine := by omega
  have u66 : (A.deeper (PyProof.Rows.envOfC "_law_rim" (defScope s__law_rim) s.heap.objs.size f cdv)).units + 66 < cLine := by omega
  have tk : Takes (cxOf (L2.CX P w) P w K mg base ["order", "chain", "found", "place"] "_law_rim" (defScope s__law_rim) f cdv A outer s H E) (fun cls d _ H => E cls d H) := takes_of rfl rfl rfl rfl
  have hp : PassesOwn (model P w) (cxOf (L2.CX P w) P w K mg base ["order", "chain", "found", "place"] "_law_rim" (defScope s__law_rim) f cdv A outer s H E).A (cxOf (L2.CX P w) P w K mg base ["order", "chain", "found", "place"] "_law_rim" (defScope s__law_rim) f cdv A outer s H E).env (cxOf (L2.CX P w) P w K mg base ["order", "chain", "found", "place"] "_law_rim" (defScope s__law_rim) f cdv A outer s H E).xe := passes_of (X := cxOf (L2.CX P w) P w K mg base ["order", "chain", "found", "place"] "_law_rim" (defScope s__law_rim) f cdv A outer s H E) rfl
  exact ss_cons (s_set 2 hN (TF.d (t_lst (as_nil))))
    (ss_cons (s_for hp rfl (i_any (t_var 1)) (g_name 3 hN) (ss_cons (s_set 2 hN (TF.d (t_callD d__law_sum hr hg (as_cons keeps_D (TD.v (t_var 2)) (as_cons keeps_D (TD.v (TF.d (t_callD d__law_edge hr hg (as_cons keeps_D (TD.v (t_var 0)) (as_cons keeps_D (TD.v (t_var 3)) (as_nil))) (aC_len (aC_len a0_len)) back_F))) (as_nil))) (aC_len (aC_len a0_len)) back_F)))
    (ss_nil)))
    (ss_cons (s_ret (t_tuplec z.b_tuple (as_cons keeps_O (TO.v (TD.o (t_var 2))) (as_nil))) rfl)
    (ss_nil)))
abbrev s__law_chain : Stmt := topS 20
theorem sc__law_chain : FnScope ["deck", "order", "size", "place"] ["deck", "order", "size"] (defScope s__law_chain) := ⟨rfl, rfl, rfl, by decide +kernel, rfl, by decide +kernel, by decide +kernel⟩
set_option maxHeartbeats 400000 in
theorem ok__law_chain {f : Addr} {fd : FuncData} (F : Fun K "_law_chain" "_law_chain" s__law_chain f fd) (z : Zs mg) (d__law_draw : DfK P w K mg base 1 "_law_draw" 1 F__law_draw) (gm : mg "_law_chain" = some (.ref f)) : DfK P w K mg base 2 "_law_chain" 2 F__law_chain := by
  have bb : Binds K fd ["deck", "order", "size"] [] := F.binds fun _ _ _ _ _ _ us hl => (match us, hl with | [_, _, _], _ => rfl)
  refine ⟨f, fd, ["deck", "order", "size"], ?_, bb, gm, F.kp⟩
  suffices body : ∀ (cdv : Value) (A : Around) (outer : List PySem.Env) (s : Shared) (H : Hp) (E : XK) (A0 : List Addr) (a : Addr), Room 1 (A.deeper (PyProof.Rows.envOfC "_law_chain" (defScope s__law_chain) s.heap.objs.size f cdv)) → A.guards = some [] →
      TSs (cxOf (L2.CX P w) P w K mg base ["deck", "order", "size", "place"] "_law_chain" (defScope s__law_chain) f cdv A outer s H E) ⟨fun cls d _ H => E cls d H, rD K, [a], H, A0⟩ (defBody s__law_chain) G__law_chain by
    exact fn_ruleK (k := 1) (G := G__law_chain) (y := "deck") (N := ["order", "size", "place"]) (ps := ["order", "size"]) (rl := rD K) F sc__law_chain body
  intro cdv A outer s H E A0 a hr hg
  have hN := sc__law_chain.nd
  have hu := hr.un
  have u64 : (A.deeper (PyProof.Rows.envOfC "_law_chain" (defScope s__law_chain) s.heap.objs.size f cdv)).units + 64 < cLine := by omega
  have u65 : (A.deeper (PyProof.Rows.envOfC "_law_chain" (defScope s__law_chain) s.heap.objs.size f cdv)).units + 65 < cLine := by omega
  have u66 : (A.deeper (PyProof.Rows.envOfC "_law_chain" (defScope s__law_chain) s.heap.objs.size f cdv)).units + 66 < cLine := by omega
  have tk : Takes (cxOf (L2.CX P w) P w K mg base ["deck", "order", "size", "place"] "_law_chain" (defScope s__law_chain) f cdv A outer s H E) (fun cls d _ H => E cls d H) := takes_of rfl rfl rfl rfl
  have hp : PassesOwn (model P w) (cxOf (L2.CX P w) P w K mg base ["deck", "order", "size", "place"] "_law_chain" (defScope s__law_chain) f cdv A outer s H E).A (cxOf (L2.CX P w) P w K mg base ["deck", "order", "size", "place"] "_law_chain" (defScope s__law_chain) f cdv A outer s H E).env (cxOf (L2.CX P w) P w K mg base ["deck", "order", "size", "place"] "_law_chain" (defScope s__law_chain) f cdv A outer s H E).xe := passes_of (X := cxOf (L2.CX P w) P w K mg base ["deck", "order", "size", "place"] "_law_chain" (defScope s__law_chain) f cdv A outer s H E) rfl
  exact ss_cons (xs_ret (x_tuplec z.b_tuple (xa_cons (xF_d (x_lc rfl hN (xi_up (W := W0) (i_range1 (by rfl) z.b_range (as_cons keeps_O (TO.v (TD.o (t_len z.b_len (as_cons keeps_O (TO.v (TD.o (t_var 1))) (as_nil))))) (as_nil)))) (blkOk_by (N := ["deck", "order", "size", "place"]) (sc := defScope s__law_chain) (own := [("place", 3)]) (by first | decide +kernel | rfl | with_unfolding_all rfl)) (fun _ _ _ _ _ => g_name 3 hN) (fun _ _ _ _ _ => xcs_one (xb_w (xw_and (xb_up (W := W0) (b_eq u64 (TD.o (t_len z.b_len (as_cons keeps_O (TO.v (TD.o (t_ix (TD.o (t_var 1)) (TD.o (t_var 3))))) (as_nil)))) (TD.o (t_var 2)))) (xw_and1 (xb_cmp (op_eqA u64) o_eq (x_callDK 0 d__law_draw hr hg (xa_cons (x_up (W := W0) (t_int)) (xa_nil)) (xC_len x0_len)) (x_up (W := W0) (t_int)) (nomark _)))))) (fun _ _ _ _ _ => x_up (W := W0) (t_var 3)))) (xa_nil))) rfl)
    (ss_nil)
abbrev s_law : Stmt := topS 21
theorem sc_law : FnScope ["script", "deck", "order", "size", "one", "other", "kept", "both", "chains", "chain", "due", "told", "place"] ["script"] (defScope s_law) := ⟨rfl, rfl, rfl, by decide +kernel, rfl, by decide +kernel, by decide +kernel⟩
set_option maxHeartbeats 400000 in
theorem ok_law {f : Addr} {fd : FuncData} (F : Fun K "law" "law" s_law f fd) (z : Zs mg) (d__law_chain : DfK P w K mg base 2 "_law_chain" 2 F__law_chain) (d__law_deck : Df P w K mg base 1 "_law_deck" 1 (rF K) F__law_deck) (d__law_draw : DfK P w K mg base 1 "_law_draw" 1 F__law_draw) (d__law_order : DfK P w K mg base 3 "_law_order" 2 F__law_order) (d__law_rim : Df P w K mg base 3 "_law_rim" 2 (rD K) F__law_rim) (d__law_sum : Df P w K mg base 1 "_law_sum" 2 (rF K) F__law_sum) (d_added : Df P w K mg base 1 "added" 2 (rD K) F_added) (d_boundary : Df P w K mg base 5 "boundary" 2 (rD K) F_boundary) (d_is_cycle : Df P w K mg base 6 "is_cycle" 2 (rD K) F_is_cycle) : FnG P w K mg base 7 f fd ["script"] (spD K mg (rD K) 1 F_law) := by
  suffices body : ∀ (cdv : Value) (A : Around) (outer : List PySem.Env) (s : Shared) (H : Hp) (E : XK) (A0 : List Addr), Room 6 (A.deeper (PyProof.Rows.envOfC "law" (defScope s_law) s.heap.objs.size f cdv)) → A.guards = some [] →
      TSs (cxOf (L2.CX P w) P w K mg base ["script", "deck", "order", "size", "one", "other", "kept", "both", "chains", "chain", "due", "told", "place"] "law" (defScope s_law) f cdv A outer s H E) ⟨fun cls d _ H => E cls d H, rD K, [], H, A0⟩ (defBody s_law) G_law by
    exact fn_rule (k := 6) (G := G_law) (N := ["script", "deck", "order", "size", "one", "other", "kept", "both", "chains", "chain", "due", "told", "place"]) (ps := ["script"]) (rl := rD K) (fall := .ok .none) F sc_law (.inl ⟨rfl, rfl⟩) body
  intro cdv A outer s H E A0 hr hg
  have hN := sc_law.nd
  have hu := hr.un
  have u64 : (A.deeper (PyProof.Rows.envOfC "law" (defScope s_law) s.heap.objs.size f cdv)).units + 64 < cLine := by omega
  have u65 : (A.deeper (PyProof.Rows.envOfC "law" (defScope s_law) s.heap.objs.size f cdv)).units + 65 < cLine := by omega
  have u66 : (A.deeper (PyProof.Rows.envOfC "law" (defScope s_law) s.heap.objs.size f cdv)).units + 66 < cLine := by omega
  have tk : Takes (cxOf (L2.CX P w) P w K mg base ["script", "deck", "order", "size", "one", "other", "kept", "both", "chains", "chain", "due", "told", "place"] "law" (defScope s_law) f cdv A outer s H E) (fun cls d _ H => E cls d H) := takes_of rfl rfl rfl rfl
  have hp : PassesOwn (model P w) (cxOf (L2.CX P w) P w K mg base ["script", "deck", "order", "size", "one", "other", "kept", "both", "chains", "chain", "due", "told", "place"] "law" (defScope s_law) f cdv A outer s H E).A (cxOf (L2.CX P w) P w K mg base ["script", "deck", "order", "size", "one", "other", "kept", "both", "chains", "chain", "due", "told", "place"] "law" (defScope s_law) f cdv A outer s H E).env (cxOf (L2.CX P w) P w K mg base ["script", "deck", "order", "size", "one", "other", "kept", "both", "chains", "chain", "due", "told", "place"] "law" (defScope s_law) f cdv A outer s H E).xe := passes_of (X := cxOf (L2.CX P w) P w K mg base ["script", "deck", "order", "size", "one", "other", "kept", "both", "chains", "chain", "due", "told", "place"] "law" (defScope s_law) f cdv A outer s H E) rfl
  exact ss_cons (s_own 1 hN (t_callD d__law_deck hr hg (as_cons keeps_D (TD.v (t_var 0)) (as_nil)) (aC_len a0_len) back_F))
    (ss_cons (xs_set 2 hN (x_callDK 1 d__law_order hr hg (xa_cons (x_up (W := W0) (t_int)) (xa_cons (x_up (W := W0) (t_int)) (xa_nil))) (xC_len (xC_len x0_len))))
    (ss_cons (xs_set 3 hN (x_op back2_D op_addA o_add (x_up (W := W0) (t_int)) (x_callDK 1 d__law_draw hr hg (xa_cons (x_up (W := W0) (t_int)) (xa_nil)) (xC_len x0_len))))
    (ss_cons (xs_set 4 hN (x_callDK 1 d__law_chain hr hg (xa_cons (x_up (W := W0) (t_var 2)) (xa_cons (x_up (W := W0) (t_var 3)) (xa_nil))) (xC_len (xC_len x0_len))))
    (ss_cons (xs_set 5 hN (x_callDK 1 d__law_chain hr hg (xa_cons (x_up (W := W0) (t_var 2)) (xa_cons (x_up (W := W0) (t_var 3)) (xa_nil))) (xC_len (xC_len x0_len))))
    (ss_cons (s_set 6 hN (TF.d (t_listc z.b_list (as_cons keeps_O (TO.v (TD.o (t_var 2))) (as_nil)))))
    (ss_cons (s_set 7 hN (t_tuplec z.b_tuple (as_cons keeps_O (TO.v (TF.o (t_callD d__law_sum hr hg (as_cons keeps_D (TD.v (t_var 4)) (as_cons keeps_D (TD.v (t_var 5)) (as_nil))) (aC_len (aC_len a0_len)) back_F))) (as_nil))))
    (ss_cons (s_set 8 hN (t_op back_D op_addA o_add (TF.o (t_lst (as_cons keeps_D (TD.v (t_var 4)) (as_cons keeps_D (TD.v (t_var 5)) (as_cons keeps_D (TD.v (t_var 7)) (as_cons keeps_D (TD.v (t_callD d__law_rim hr hg (as_cons keeps_D (TD.v (t_var 2)) (as_cons keeps_D (TD.v (t_var 4)) (as_nil))) (aC_len (aC_len a0_len)) back_D)) (as_cons keeps_D (TD.v (t_tup (as_nil))) (as_nil)))))))) (TF.o (t_lc rfl hN (i_range1 (by rfl) z.b_range (as_cons keeps_O (TO.v (TD.o (t_len z.b_len (as_cons keeps_O (TO.v (TD.o (t_var 2))) (as_nil))))) (as_nil))) (blkOk_by (N := ["script", "deck", "order", "size", "one", "other", "kept", "both", "chains", "chain", "due", "told", "place"]) (sc := defScope s_law) (own := [("place", 12)]) (by first | decide +kernel | rfl | with_unfolding_all rfl)) (fun _ _ _ _ _ => g_name 12 hN) (fun _ _ _ _ _ => cs_nil) (fun _ _ _ _ _ => t_tup (as_cons keeps_D (TD.v (t_var 12)) (as_nil)))))))
    (ss_cons (s_for hp rfl (i_any (t_var 8)) (g_name 9 hN) (ss_cons (s_set 10 hN (t_callD d__law_rim hr hg (as_cons keeps_D (TD.v (t_var 2)) (as_cons keeps_D (TD.v (t_var 9)) (as_nil))) (aC_len (aC_len a0_len)) back_D))
    (ss_cons (s_set 11 hN (t_callD d_boundary hr hg (as_cons keeps_D (TD.v (t_var 6)) (as_cons keeps_D (TD.v (t_var 9)) (as_nil))) (aC_len (aC_len a0_len)) back_D))
    (ss_cons (s_if (b_w (w_or (b_ne u64 (TD.o (t_repr hg u66 z.b_repr (as_cons keeps_O (TO.v (TD.o (t_var 11))) (as_nil)))) (TD.o (t_repr hg u66 z.b_repr (as_cons keeps_O (TO.v (TD.o (t_var 10))) (as_nil))))) (w_or (b_ne u64 (TD.o (t_callD d_boundary hr hg (as_cons keeps_D (TD.v (t_var 6)) (as_cons keeps_D (TD.v (t_var 11)) (as_nil))) (aC_len (aC_len a0_len)) back_D)) (TD.o (t_tup (as_nil)))) (w_or1 (b_isnotB (TD.o (t_callD d_is_cycle hr hg (as_cons keeps_D (TD.v (t_var 6)) (as_cons keeps_D (TD.v (t_var 11)) (as_nil))) (aC_len (aC_len a0_len)) back_D)) (TD.o (t_bool))))))) (ss_cons (s_ret (t_bool) rfl)
    (ss_nil)) (ss_nil))
    (ss_cons (s_if (b_ne u64 (TD.o (t_repr hg u66 z.b_repr (as_cons keeps_O (TO.v (TD.o (t_callD d_is_cycle hr hg (as_cons keeps_D (TD.v (t_var 6)) (as_cons keeps_D (TD.v (t_var 9)) (as_nil))) (aC_len (aC_len a0_len)) back_D))) (as_nil)))) (TD.o (t_repr hg u66 z.b_repr (as_cons keeps_O (TO.v (TD.o (t_eq u64 (TD.o (t_var 10)) (TD.o (t_tup (as_nil)))))) (as_nil))))) (ss_cons (s_ret (t_bool) rfl)
    (ss_nil)) (ss_nil))
    (ss_nil))))))
    (ss_cons (s_set 10 hN (t_tuplec z.b_tuple (as_cons keeps_O (TO.v (TF.o (t_callD d__law_sum hr hg (as_cons keeps_D (TD.v (t_callD d__law_rim hr hg (as_cons keeps_D (TD.v (t_var 2)) (as_cons keeps_D (TD.v (t_var 4)) (as_nil))) (aC_len (aC_len a0_len)) back_D)) (as_cons keeps_D (TD.v (t_callD d__law_rim hr hg (as_cons keeps_D (TD.v (t_var 2)) (as_cons keeps_D (TD.v (t_var 5)) (as_nil))) (aC_len (aC_len a0_len)) back_D)) (as_nil))) (aC_len (aC_len a0_len)) back_F))) (as_nil))))
    (ss_cons (s_ret (t_and (t_eq u64 (TD.o (t_callD d_boundary hr hg (as_cons keeps_D (TD.v (t_var 6)) (as_cons keeps_D (TD.v (t_callD d_added hr hg (as_cons keeps_D (TD.v (t_var 4)) (as_cons keeps_D (TD.v (t_var 5)) (as_nil))) (aC_len (aC_len a0_len)) back_D)) (as_nil))) (aC_len (aC_len a0_len)) back_D)) (TD.o (t_var 10))) (t_one (t_eq u64 (TD.o (t_var 6)) (TD.o (t_var 2))))) rfl)
    (ss_nil)))))))))))
end
end Bd
namespace Bd
open PySem L2

theorem e_draw : F__law_draw = Dk.F_draw := rfl
theorem e_deck : F__law_deck = Dk.F_deck := rfl
theorem e_order : F__law_order = Od.F__law_order := rfl
theorem e_chain : F__law_chain = Od.F__law_chain := rfl
theorem e_rim : F__law_rim = Cb.F__law_rim := rfl
theorem e_sum : F__law_sum = Cb.F__law_sum := rfl
theorem e_boundary : F_boundary = Cb.F_boundary := rfl
theorem e_cycle : F_is_cycle = Cb.F_is_cycle := rfl
theorem e_added : F_added = Pg.F_added := rfl
theorem same_rows {os : List Row} (h : ∀ s ∈ os, Smp s) (hl : os.length ≤ 100) : eqV' (.list (os.map tupI)) (.list (os.map tupI)) = some (.bool true) := by
  have f := fine_os h hl
  unfold eqV'
  split
  · rename_i e _
    cases e
  · rw [if_pos ⟨f.shaped (by decide), f.shaped (by decide)⟩, SeqAt.eqv_refl _ f.cl]
def chainsL (os : List Row) (a b : Row) : List Row := [a, b, sumL a b, bdy os a, []] ++ (Pg.uptoI os.length).map fun p => [p]
theorem law_true (ns : List Int) (hl : ns.length ≤ 63) : F_law [.list (ns.map PyData.int)] = .ok (.bool true) := by
  refine Wn.eq (wn_runD ?_)
  show Sn (G_law [.d (.list (ns.map PyData.int)), .no, .no, .no, .no, .no, .no, .no, .no, .no, .no, .no, .no]) _ _ _ _
  unfold G_law
  rw [e_draw, e_deck, e_order, e_chain, e_rim, e_sum, e_boundary, e_cycle, e_added]
  simp only [wn_ok, wn_some, wn_only, wn_noex, wn_e2, wn_e1, wn_eN, wn_a0, wn_aC, wn_call, wn_tb, wn_tup, wn_lst, wn_andB, wn_orB, wn_notB, wn_andV, wn_orV, wn_notV, wn_ifV, wn_iA, wn_iR1, wn_iR2, wn_iZ, wn_iEn, wn_iRR, wn_sl, wn_p0, wn_p1, wn_up, wn_upB, wn_upI, wn_x2, wn_x0, wn_xC, wn_xN, wn_xb, wn_xAnd, wn_xOr, wn_xNot, wn_xIf, wn_xCall, wn_xR1, wn_xR2, sn_nx, sn_rt, sn_bk, sn_ct, sn_seq, sn_set, sn_ret, sn_expr, sn_if, sn_for, sn_xSet, sn_xRet, sn_xExpr, sn_xIf, sn_xFor, sn_asg, sn_xAsg, sn_own, sn_xOwn, gv_zero, gv_succ, go_own, go_dat, go_succ, k0_def, gN_def, tru_bool, tru_none, tru_int, tru_list, asSeq_list, asSeq_tup, addV_int, subV_int, ltA_i, leA_i, gtA_i, geA_i, negV_int, intV_int, lenV_list, lenV_tup, ixV_list, ixV_tup, asInt_int, slV_list, slV_tup, slL_list, revV_tup, revV_list, tupleV_list, listV_list, listV_tup, eqV_str, neV_str, eqV_int, List.set_cons_zero, List.set_cons_succ, List.getElem?_cons_zero, List.getElem?_cons_succ, List.length_cons, List.length_nil, ↓reduceIte, Bool.false_eq_true, Bool.not_true, Bool.not_false, wn_ite, gT2, gT3, neV_tup, eqV_tup, in_tup, notin_tup', lineN_eq, Nat.reduceAdd, Nat.reduceLeDiff, Nat.zero_le, true_and, and_true, List.map_nil, List.map_cons, exists_eq_left', Option.some.injEq, PyData.list.injEq, exists_eq_left, PyData.int.injEq, R.ok.injEq, Sl.own.injEq]
  refine wn_deck fun kx hk => ?_
  simp only [wn_ok, wn_some, wn_only, wn_noex, wn_e2, wn_e1, wn_eN, wn_a0, wn_aC, wn_call, wn_tb, wn_tup, wn_lst, wn_andB, wn_orB, wn_notB, wn_andV, wn_orV, wn_notV, wn_ifV, wn_iA, wn_iR1, wn_iR2, wn_iZ, wn_iEn, wn_iRR, wn_sl, wn_p0, wn_p1, wn_up, wn_upB, wn_upI, wn_x2, wn_x0, wn_xC, wn_xN, wn_xb, wn_xAnd, wn_xOr, wn_xNot, wn_xIf, wn_xCall, wn_xR1, wn_xR2, sn_nx, sn_rt, sn_bk, sn_ct, sn_seq, sn_set, sn_ret, sn_expr, sn_if, sn_for, sn_xSet, sn_xRet, sn_xExpr, sn_xIf, sn_xFor, sn_asg, sn_xAsg, sn_own, sn_xOwn, gv_zero, gv_succ, go_own, go_dat, go_succ, k0_def, gN_def, tru_bool, tru_none, tru_int, tru_list, asSeq_list, asSeq_tup, addV_int, subV_int, ltA_i, leA_i, gtA_i, geA_i, negV_int, intV_int, lenV_list, lenV_tup, ixV_list, ixV_tup, asInt_int, slV_list, slV_tup, slL_list, revV_tup, revV_list, tupleV_list, listV_list, listV_tup, eqV_str, neV_str, eqV_int, List.set_cons_zero, List.set_cons_succ, List.getElem?_cons_zero, List.getElem?_cons_succ, List.length_cons, List.length_nil, ↓reduceIte, Bool.false_eq_true, Bool.not_true, Bool.not_false, wn_ite, gT2, gT3, neV_tup, eqV_tup, in_tup, notin_tup', lineN_eq, Nat.reduceAdd, Nat.reduceLeDiff, Nat.zero_le, true_and, and_true, List.map_nil, List.map_cons, exists_eq_left', Option.some.injEq, PyData.list.injEq, exists_eq_left, PyData.int.injEq, R.ok.injEq, Sl.own.injEq]
  refine wn_callK rfl ?_
  simp only [wn_ok, wn_some, wn_only, wn_noex, wn_e2, wn_e1, wn_eN, wn_a0, wn_aC, wn_call, wn_tb, wn_tup, wn_lst, wn_andB, wn_orB, wn_notB, wn_andV, wn_orV, wn_notV, wn_ifV, wn_iA, wn_iR1, wn_iR2, wn_iZ, wn_iEn, wn_iRR, wn_sl, wn_p0, wn_p1, wn_up, wn_upB, wn_upI, wn_x2, wn_x0, wn_xC, wn_xN, wn_xb, wn_xAnd, wn_xOr, wn_xNot, wn_xIf, wn_xCall, wn_xR1, wn_xR2, sn_nx, sn_rt, sn_bk, sn_ct, sn_seq, sn_set, sn_ret, sn_expr, sn_if, sn_for, sn_xSet, sn_xRet, sn_xExpr, sn_xIf, sn_xFor, sn_asg, sn_xAsg, sn_own, sn_xOwn, gv_zero, gv_succ, go_own, go_dat, go_succ, k0_def, gN_def, tru_bool, tru_none, tru_int, tru_list, asSeq_list, asSeq_tup, addV_int, subV_int, ltA_i, leA_i, gtA_i, geA_i, negV_int, intV_int, lenV_list, lenV_tup, ixV_list, ixV_tup, asInt_int, slV_list, slV_tup, slL_list, revV_tup, revV_list, tupleV_list, listV_list, listV_tup, eqV_str, neV_str, eqV_int, List.set_cons_zero, List.set_cons_succ, List.getElem?_cons_zero, List.getElem?_cons_succ, List.length_cons, List.length_nil, ↓reduceIte, Bool.false_eq_true, Bool.not_true, Bool.not_false, wn_ite, gT2, gT3, neV_tup, eqV_tup, in_tup, notin_tup', lineN_eq, Nat.reduceAdd, Nat.reduceLeDiff, Nat.zero_le, true_and, and_true, List.map_nil, List.map_cons, exists_eq_left', Option.some.injEq, PyData.list.injEq, exists_eq_left, PyData.int.injEq, R.ok.injEq, Sl.own.injEq]
  refine Od.order_w hk (by decide) (by decide) (by decide) (by decide) fun os kx1 hk1 hos hlen => ?_
  have l20 : os.length ≤ 20 := by omega
  generalize hS : (PyData.list (ns.map PyData.int)) = S
  simp only [wn_ok, wn_some, wn_only, wn_noex, wn_e2, wn_e1, wn_eN, wn_a0, wn_aC, wn_call, wn_tb, wn_tup, wn_lst, wn_andB, wn_orB, wn_notB, wn_andV, wn_orV, wn_notV, wn_ifV, wn_iA, wn_iR1, wn_iR2, wn_iZ, wn_iEn, wn_iRR, wn_sl, wn_p0, wn_p1, wn_up, wn_upB, wn_upI, wn_x2, wn_x0, wn_xC, wn_xN, wn_xb, wn_xAnd, wn_xOr, wn_xNot, wn_xIf, wn_xCall, wn_xR1, wn_xR2, sn_nx, sn_rt, sn_bk, sn_ct, sn_seq, sn_set, sn_ret, sn_expr, sn_if, sn_for, sn_xSet, sn_xRet, sn_xExpr, sn_xIf, sn_xFor, sn_asg, sn_xAsg, sn_own, sn_xOwn, gv_zero, gv_succ, go_own, go_dat, go_succ, k0_def, gN_def, tru_bool, tru_none, tru_int, tru_list, asSeq_list, asSeq_tup, addV_int, subV_int, ltA_i, leA_i, gtA_i, geA_i, negV_int, intV_int, lenV_list, lenV_tup, ixV_list, ixV_tup, asInt_int, slV_list, slV_tup, slL_list, revV_tup, revV_list, tupleV_list, listV_list, listV_tup, eqV_str, neV_str, eqV_int, List.set_cons_zero, List.set_cons_succ, List.getElem?_cons_zero, List.getElem?_cons_succ, List.length_cons, List.length_nil, ↓reduceIte, Bool.false_eq_true, Bool.not_true, Bool.not_false, wn_ite, gT2, gT3, neV_tup, eqV_tup, in_tup, notin_tup', lineN_eq, Nat.reduceAdd, Nat.reduceLeDiff, Nat.zero_le, true_and, and_true, List.map_nil, List.map_cons, exists_eq_left', Option.some.injEq, PyData.list.injEq, exists_eq_left, PyData.int.injEq, R.ok.injEq, Sl.own.injEq]
  refine wn_drw (b := 3) rfl hk1 (by decide) fun sz kx2 hk2 z0 z1 => ?_
  simp only [wn_ok, wn_some, wn_only, wn_noex, wn_e2, wn_e1, wn_eN, wn_a0, wn_aC, wn_call, wn_tb, wn_tup, wn_lst, wn_andB, wn_orB, wn_notB, wn_andV, wn_orV, wn_notV, wn_ifV, wn_iA, wn_iR1, wn_iR2, wn_iZ, wn_iEn, wn_iRR, wn_sl, wn_p0, wn_p1, wn_up, wn_upB, wn_upI, wn_x2, wn_x0, wn_xC, wn_xN, wn_xb, wn_xAnd, wn_xOr, wn_xNot, wn_xIf, wn_xCall, wn_xR1, wn_xR2, sn_nx, sn_rt, sn_bk, sn_ct, sn_seq, sn_set, sn_ret, sn_expr, sn_if, sn_for, sn_xSet, sn_xRet, sn_xExpr, sn_xIf, sn_xFor, sn_asg, sn_xAsg, sn_own, sn_xOwn, gv_zero, gv_succ, go_own, go_dat, go_succ, k0_def, gN_def, tru_bool, tru_none, tru_int, tru_list, asSeq_list, asSeq_tup, addV_int, subV_int, ltA_i, leA_i, gtA_i, geA_i, negV_int, intV_int, lenV_list, lenV_tup, ixV_list, ixV_tup, asInt_int, slV_list, slV_tup, slL_list, revV_tup, revV_list, tupleV_list, listV_list, listV_tup, eqV_str, neV_str, eqV_int, List.set_cons_zero, List.set_cons_succ, List.getElem?_cons_zero, List.getElem?_cons_succ, List.length_cons, List.length_nil, ↓reduceIte, Bool.false_eq_true, Bool.not_true, Bool.not_false, wn_ite, gT2, gT3, neV_tup, eqV_tup, in_tup, notin_tup', lineN_eq, Nat.reduceAdd, Nat.reduceLeDiff, Nat.zero_le, true_and, and_true, List.map_nil, List.map_cons, exists_eq_left', Option.some.injEq, PyData.list.injEq, exists_eq_left, PyData.int.injEq, R.ok.injEq, Sl.own.injEq]
  refine wn_callK rfl ?_
  simp only [wn_ok, wn_some, wn_only, wn_noex, wn_e2, wn_e1, wn_eN, wn_a0, wn_aC, wn_call, wn_tb, wn_tup, wn_lst, wn_andB, wn_orB, wn_notB, wn_andV, wn_orV, wn_notV, wn_ifV, wn_iA, wn_iR1, wn_iR2, wn_iZ, wn_iEn, wn_iRR, wn_sl, wn_p0, wn_p1, wn_up, wn_upB, wn_upI, wn_x2, wn_x0, wn_xC, wn_xN, wn_xb, wn_xAnd, wn_xOr, wn_xNot, wn_xIf, wn_xCall, wn_xR1, wn_xR2, sn_nx, sn_rt, sn_bk, sn_ct, sn_seq, sn_set, sn_ret, sn_expr, sn_if, sn_for, sn_xSet, sn_xRet, sn_xExpr, sn_xIf, sn_xFor, sn_asg, sn_xAsg, sn_own, sn_xOwn, gv_zero, gv_succ, go_own, go_dat, go_succ, k0_def, gN_def, tru_bool, tru_none, tru_int, tru_list, asSeq_list, asSeq_tup, addV_int, subV_int, ltA_i, leA_i, gtA_i, geA_i, negV_int, intV_int, lenV_list, lenV_tup, ixV_list, ixV_tup, asInt_int, slV_list, slV_tup, slL_list, revV_tup, revV_list, tupleV_list, listV_list, listV_tup, eqV_str, neV_str, eqV_int, List.set_cons_zero, List.set_cons_succ, List.getElem?_cons_zero, List.getElem?_cons_succ, List.length_cons, List.length_nil, ↓reduceIte, Bool.false_eq_true, Bool.not_true, Bool.not_false, wn_ite, gT2, gT3, neV_tup, eqV_tup, in_tup, notin_tup', lineN_eq, Nat.reduceAdd, Nat.reduceLeDiff, Nat.zero_le, true_and, and_true, List.map_nil, List.map_cons, exists_eq_left', Option.some.injEq, PyData.list.injEq, exists_eq_left, PyData.int.injEq, R.ok.injEq, Sl.own.injEq]
  refine Od.chain_w hk2 (by omega) (by omega) fun a kx3 hk3 ha => ?_
  simp only [wn_ok, wn_some, wn_only, wn_noex, wn_e2, wn_e1, wn_eN, wn_a0, wn_aC, wn_call, wn_tb, wn_tup, wn_lst, wn_andB, wn_orB, wn_notB, wn_andV, wn_orV, wn_notV, wn_ifV, wn_iA, wn_iR1, wn_iR2, wn_iZ, wn_iEn, wn_iRR, wn_sl, wn_p0, wn_p1, wn_up, wn_upB, wn_upI, wn_x2, wn_x0, wn_xC, wn_xN, wn_xb, wn_xAnd, wn_xOr, wn_xNot, wn_xIf, wn_xCall, wn_xR1, wn_xR2, sn_nx, sn_rt, sn_bk, sn_ct, sn_seq, sn_set, sn_ret, sn_expr, sn_if, sn_for, sn_xSet, sn_xRet, sn_xExpr, sn_xIf, sn_xFor, sn_asg, sn_xAsg, sn_own, sn_xOwn, gv_zero, gv_succ, go_own, go_dat, go_succ, k0_def, gN_def, tru_bool, tru_none, tru_int, tru_list, asSeq_list, asSeq_tup, addV_int, subV_int, ltA_i, leA_i, gtA_i, geA_i, negV_int, intV_int, lenV_list, lenV_tup, ixV_list, ixV_tup, asInt_int, slV_list, slV_tup, slL_list, revV_tup, revV_list, tupleV_list, listV_list, listV_tup, eqV_str, neV_str, eqV_int, List.set_cons_zero, List.set_cons_succ, List.getElem?_cons_zero, List.getElem?_cons_succ, List.length_cons, List.length_nil, ↓reduceIte, Bool.false_eq_true, Bool.not_true, Bool.not_false, wn_ite, gT2, gT3, neV_tup, eqV_tup, in_tup, notin_tup', lineN_eq, Nat.reduceAdd, Nat.reduceLeDiff, Nat.zero_le, true_and, and_true, List.map_nil, List.map_cons, exists_eq_left', Option.some.injEq, PyData.list.injEq, exists_eq_left, PyData.int.injEq, R.ok.injEq, Sl.own.injEq]
  refine wn_callK rfl ?_
  simp only [wn_ok, wn_some, wn_only, wn_noex, wn_e2, wn_e1, wn_eN, wn_a0, wn_aC, wn_call, wn_tb, wn_tup, wn_lst, wn_andB, wn_orB, wn_notB, wn_andV, wn_orV, wn_notV, wn_ifV, wn_iA, wn_iR1, wn_iR2, wn_iZ, wn_iEn, wn_iRR, wn_sl, wn_p0, wn_p1, wn_up, wn_upB, wn_upI, wn_x2, wn_x0, wn_xC, wn_xN, wn_xb, wn_xAnd, wn_xOr, wn_xNot, wn_xIf, wn_xCall, wn_xR1, wn_xR2, sn_nx, sn_rt, sn_bk, sn_ct, sn_seq, sn_set, sn_ret, sn_expr, sn_if, sn_for, sn_xSet, sn_xRet, sn_xExpr, sn_xIf, sn_xFor, sn_asg, sn_xAsg, sn_own, sn_xOwn, gv_zero, gv_succ, go_own, go_dat, go_succ, k0_def, gN_def, tru_bool, tru_none, tru_int, tru_list, asSeq_list, asSeq_tup, addV_int, subV_int, ltA_i, leA_i, gtA_i, geA_i, negV_int, intV_int, lenV_list, lenV_tup, ixV_list, ixV_tup, asInt_int, slV_list, slV_tup, slL_list, revV_tup, revV_list, tupleV_list, listV_list, listV_tup, eqV_str, neV_str, eqV_int, List.set_cons_zero, List.set_cons_succ, List.getElem?_cons_zero, List.getElem?_cons_succ, List.length_cons, List.length_nil, ↓reduceIte, Bool.false_eq_true, Bool.not_true, Bool.not_false, wn_ite, gT2, gT3, neV_tup, eqV_tup, in_tup, notin_tup', lineN_eq, Nat.reduceAdd, Nat.reduceLeDiff, Nat.zero_le, true_and, and_true, List.map_nil, List.map_cons, exists_eq_left', Option.some.injEq, PyData.list.injEq, exists_eq_left, PyData.int.injEq, R.ok.injEq, Sl.own.injEq]
  refine Od.chain_w hk3 (by omega) (by omega) fun b kx4 hk4 hb => ?_
  have lu : (Pg.uptoI os.length).length = os.length := by
    unfold Pg.uptoI
    rw [List.length_map, List.length_range]
  have la := ha.inU.len (Pg.upto_asc _)
  have lb := hb.inU.len (Pg.upto_asc _)
  rw [lu] at la lb
  have l1 : os.length ≤ 100 := by omega
  have lsab : Cb.F__law_sum [tupI a, tupI b] = .ok (.list ((sumL a b).map PyData.int)) := Cb.lsum_ok (t := true) (u := true) (by omega) (by omega)
  have rim : ∀ {c : Row}, InU (Pg.uptoI os.length) c → Cb.F__law_rim [.list (os.map tupI), tupI c] = .ok (tupI (bdy os c)) := fun {c} hc => Cb.lrim_ok (t := true) hos l1 fun p m => by
    obtain ⟨i, hi, rfl⟩ := List.mem_map.mp (hc.sub p m)
    have := List.mem_range.mp hi
    omega
  have lra := rim ha.inU
  have lrb := rim hb.inU
  have bsm : Cb.F__law_sum [tupI (bdy os a), tupI (bdy os b)] = .ok (.list ((sumL (bdy os a) (bdy os b)).map PyData.int)) := by
    have x1 := (bdy_in hos a).len (Pg.upto_asc _)
    have x2 := (bdy_in hos b).len (Pg.upto_asc _)
    exact Cb.lsum_ok (t := true) (u := true) (by omega) (by omega)
  have adab : Pg.F_added [tupI a, tupI b] = .ok (tupI (sumL a b)) := Pg.added_ok ha.asc hb.asc (by omega) (by omega)
  simp only [wn_ok, wn_some, wn_only, wn_noex, wn_e2, wn_e1, wn_eN, wn_a0, wn_aC, wn_call, wn_tb, wn_tup, wn_lst, wn_andB, wn_orB, wn_notB, wn_andV, wn_orV, wn_notV, wn_ifV, wn_iA, wn_iR1, wn_iR2, wn_iZ, wn_iEn, wn_iRR, wn_sl, wn_p0, wn_p1, wn_up, wn_upB, wn_upI, wn_x2, wn_x0, wn_xC, wn_xN, wn_xb, wn_xAnd, wn_xOr, wn_xNot, wn_xIf, wn_xCall, wn_xR1, wn_xR2, sn_nx, sn_rt, sn_bk, sn_ct, sn_seq, sn_set, sn_ret, sn_expr, sn_if, sn_for, sn_xSet, sn_xRet, sn_xExpr, sn_xIf, sn_xFor, sn_asg, sn_xAsg, sn_own, sn_xOwn, gv_zero, gv_succ, go_own, go_dat, go_succ, k0_def, gN_def, tru_bool, tru_none, tru_int, tru_list, asSeq_list, asSeq_tup, addV_int, subV_int, ltA_i, leA_i, gtA_i, geA_i, negV_int, intV_int, lenV_list, lenV_tup, ixV_list, ixV_tup, asInt_int, slV_list, slV_tup, slL_list, revV_tup, revV_list, tupleV_list, listV_list, listV_tup, eqV_str, neV_str, eqV_int, List.set_cons_zero, List.set_cons_succ, List.getElem?_cons_zero, List.getElem?_cons_succ, List.length_cons, List.length_nil, ↓reduceIte, Bool.false_eq_true, Bool.not_true, Bool.not_false, wn_ite, gT2, gT3, neV_tup, eqV_tup, in_tup, notin_tup', lineN_eq, Nat.reduceAdd, Nat.reduceLeDiff, Nat.zero_le, true_and, and_true, List.map_nil, List.map_cons, exists_eq_left', Option.some.injEq, PyData.list.injEq, exists_eq_left, PyData.int.injEq, R.ok.injEq, Sl.own.injEq, lsab, lra]
  have ub := (Pg.upto_asc os.length)
  have small : ∀ x ∈ Pg.uptoI os.length, -1000000000000 < x ∧ x < 1000000000000 := fun x m => by
    obtain ⟨i, hi, rfl⟩ := List.mem_map.mp m
    have := List.mem_range.mp hi
    omega
  refine wn_comp (xs := (Pg.uptoI os.length).map PyData.int) (fun _ => true) (fun d => .tuple [d]) ?_ ?_ ?_ ?_
  · simp only [wn_ok, wn_some, wn_only, wn_noex, wn_e2, wn_e1, wn_eN, wn_a0, wn_aC, wn_call, wn_tb, wn_tup, wn_lst, wn_andB, wn_orB, wn_notB, wn_andV, wn_orV, wn_notV, wn_ifV, wn_iA, wn_iR1, wn_iR2, wn_iZ, wn_iEn, wn_iRR, wn_sl, wn_p0, wn_p1, wn_up, wn_upB, wn_upI, wn_x2, wn_x0, wn_xC, wn_xN, wn_xb, wn_xAnd, wn_xOr, wn_xNot, wn_xIf, wn_xCall, wn_xR1, wn_xR2, sn_nx, sn_rt, sn_bk, sn_ct, sn_seq, sn_set, sn_ret, sn_expr, sn_if, sn_for, sn_xSet, sn_xRet, sn_xExpr, sn_xIf, sn_xFor, sn_asg, sn_xAsg, sn_own, sn_xOwn, gv_zero, gv_succ, go_own, go_dat, go_succ, k0_def, gN_def, tru_bool, tru_none, tru_int, tru_list, asSeq_list, asSeq_tup, addV_int, subV_int, ltA_i, leA_i, gtA_i, geA_i, negV_int, intV_int, lenV_list, lenV_tup, ixV_list, ixV_tup, asInt_int, slV_list, slV_tup, slL_list, revV_tup, revV_list, tupleV_list, listV_list, listV_tup, eqV_str, neV_str, eqV_int, List.set_cons_zero, List.set_cons_succ, List.getElem?_cons_zero, List.getElem?_cons_succ, List.length_cons, List.length_nil, ↓reduceIte, Bool.false_eq_true, Bool.not_true, Bool.not_false, wn_ite, gT2, gT3, neV_tup, eqV_tup, in_tup, notin_tup', lineN_eq, Nat.reduceAdd, Nat.reduceLeDiff, Nat.zero_le, true_and, and_true, List.map_nil, List.map_cons, exists_eq_left', Option.some.injEq, PyData.list.injEq, exists_eq_left, PyData.int.injEq, R.ok.injEq, Sl.own.injEq, List.length_map]
    refine (wn_rng1 (n := (os.length : Int)) (by omega) (by omega)).mpr ?_
    rw [Od.range_up, Int.toNat_natCast]
  · intro x m
    refine ⟨[.d S, .own ⟨true, kx4⟩, .d (.list (os.map tupI)), .d (.int (1 + sz)), .d (tupI a), .d (tupI b), .d (.list (os.map tupI)), .d (tupI (sumL a b)), .no, .no, .no, .no, .d x], rfl, wn_ok.mpr ⟨rfl, fun _ => ?_⟩⟩
    simp only [wn_ok, wn_some, wn_only, wn_noex, wn_e2, wn_e1, wn_eN, wn_a0, wn_aC, wn_call, wn_tb, wn_tup, wn_lst, wn_andB, wn_orB, wn_notB, wn_andV, wn_orV, wn_notV, wn_ifV, wn_iA, wn_iR1, wn_iR2, wn_iZ, wn_iEn, wn_iRR, wn_sl, wn_p0, wn_p1, wn_up, wn_upB, wn_upI, wn_x2, wn_x0, wn_xC, wn_xN, wn_xb, wn_xAnd, wn_xOr, wn_xNot, wn_xIf, wn_xCall, wn_xR1, wn_xR2, sn_nx, sn_rt, sn_bk, sn_ct, sn_seq, sn_set, sn_ret, sn_expr, sn_if, sn_for, sn_xSet, sn_xRet, sn_xExpr, sn_xIf, sn_xFor, sn_asg, sn_xAsg, sn_own, sn_xOwn, gv_zero, gv_succ, go_own, go_dat, go_succ, k0_def, gN_def, tru_bool, tru_none, tru_int, tru_list, asSeq_list, asSeq_tup, addV_int, subV_int, ltA_i, leA_i, gtA_i, geA_i, negV_int, intV_int, lenV_list, lenV_tup, ixV_list, ixV_tup, asInt_int, slV_list, slV_tup, slL_list, revV_tup, revV_list, tupleV_list, listV_list, listV_tup, eqV_str, neV_str, eqV_int, List.set_cons_zero, List.set_cons_succ, List.getElem?_cons_zero, List.getElem?_cons_succ, List.length_cons, List.length_nil, ↓reduceIte, Bool.false_eq_true, Bool.not_true, Bool.not_false, wn_ite, gT2, gT3, neV_tup, eqV_tup, in_tup, notin_tup', lineN_eq, Nat.reduceAdd, Nat.reduceLeDiff, Nat.zero_le, true_and, and_true, List.map_nil, List.map_cons, exists_eq_left', Option.some.injEq, PyData.list.injEq, exists_eq_left, PyData.int.injEq, R.ok.injEq, Sl.own.injEq]
  · rw [List.length_map, lu, lineN_eq]
    omega
  have ech0 : ∀ u : Row, u.length ≤ 100 → addV (.list [tupI a, tupI b, tupI (sumL a b), tupI (bdy os a), tupI []]) (.list (((u.map PyData.int).filter fun _ => true).map fun d => .tuple [d])) = some (.list (([a, b, sumL a b, bdy os a, []] ++ u.map fun p => [p]).map tupI)) := fun u lu => by
    rw [addV_list (by rw [List.length_map, List.filter_eq_self.mpr fun _ _ => rfl, List.length_map]; simp; omega), List.filter_eq_self.mpr fun _ _ => rfl]
    rw [List.map_append, List.map_map, List.map_map]
    rfl
  have ech := ech0 (Pg.uptoI os.length) (by omega)
  have inC : ∀ c ∈ chainsL os a b, InU (Pg.uptoI os.length) c := fun c m => by
    rcases List.mem_append.mp m with m | m
    · simp only [List.mem_cons, List.not_mem_nil, or_false] at m
      rcases m with rfl | rfl | rfl | rfl | rfl
      · exact ha.inU
      · exact hb.inU
      · exact ha.inU.sum hb.inU
      · exact bdy_in hos _
      · exact .nil
    · obtain ⟨p, mp, rfl⟩ := List.mem_map.mp m
      exact ⟨List.pairwise_singleton _ _, fun x mx => by rw [List.mem_singleton.mp mx]; exact mp⟩
  have lch : (chainsL os a b).length ≤ 200 := by
    unfold chainsL
    rw [List.length_append, List.length_map, lu]
    simp
    omega
  rw [show ([a, b, sumL a b, bdy os a, []] ++ (Pg.uptoI os.length).map fun p => [p]) = chainsL os a b from rfl] at ech
  rw [show PyData.tuple [] = tupI [] from rfl, show PyData.tuple ((sumL a b).map PyData.int) = tupI (sumL a b) from rfl, ech]
  generalize chainsL os a b = cs at inC lch
  simp only [wn_ok, wn_some, wn_only, wn_noex, wn_e2, wn_e1, wn_eN, wn_a0, wn_aC, wn_call, wn_tb, wn_tup, wn_lst, wn_andB, wn_orB, wn_notB, wn_andV, wn_orV, wn_notV, wn_ifV, wn_iA, wn_iR1, wn_iR2, wn_iZ, wn_iEn, wn_iRR, wn_sl, wn_p0, wn_p1, wn_up, wn_upB, wn_upI, wn_x2, wn_x0, wn_xC, wn_xN, wn_xb, wn_xAnd, wn_xOr, wn_xNot, wn_xIf, wn_xCall, wn_xR1, wn_xR2, sn_nx, sn_rt, sn_bk, sn_ct, sn_seq, sn_set, sn_ret, sn_expr, sn_if, sn_for, sn_xSet, sn_xRet, sn_xExpr, sn_xIf, sn_xFor, sn_asg, sn_xAsg, sn_own, sn_xOwn, gv_zero, gv_succ, go_own, go_dat, go_succ, k0_def, gN_def, tru_bool, tru_none, tru_int, tru_list, asSeq_list, asSeq_tup, addV_int, subV_int, ltA_i, leA_i, gtA_i, geA_i, negV_int, intV_int, lenV_list, lenV_tup, ixV_list, ixV_tup, asInt_int, slV_list, slV_tup, slL_list, revV_tup, revV_list, tupleV_list, listV_list, listV_tup, eqV_str, neV_str, eqV_int, List.set_cons_zero, List.set_cons_succ, List.getElem?_cons_zero, List.getElem?_cons_succ, List.length_cons, List.length_nil, ↓reduceIte, Bool.false_eq_true, Bool.not_true, Bool.not_false, wn_ite, gT2, gT3, neV_tup, eqV_tup, in_tup, notin_tup', lineN_eq, Nat.reduceAdd, Nat.reduceLeDiff, Nat.zero_le, true_and, and_true, List.map_nil, List.map_cons, exists_eq_left', Option.some.injEq, PyData.list.injEq, exists_eq_left, PyData.int.injEq, R.ok.injEq, Sl.own.injEq]
  refine sn_loop (fun rest η => ∃ (rs : List Row) (s9 s10 s11 s12 : Sl), rest = rs.map tupI ∧ (∀ c ∈ rs, InU (Pg.uptoI os.length) c) ∧ η = [.d S, .own ⟨true, kx4⟩, .d (.list (os.map tupI)), .d (.int (1 + sz)), .d (tupI a), .d (tupI b), .d (.list (os.map tupI)), .d (tupI (sumL a b)), .d (.list (cs.map tupI)), s9, s10, s11, s12]) ?_ ?_ _ _ ⟨cs, _, _, _, _, rfl, inC, rfl⟩
  · rintro x rest η ⟨rs, s9, s10, s11, s12, e1, hr, rfl⟩
    cases rs with
    | nil => cases e1
    | cons c rs =>
      obtain ⟨rfl, rfl⟩ := List.cons.inj e1
      have ic := hr c List.mem_cons_self
      refine ⟨_, rfl, ?_⟩
      have fr := fine_row (bdy_in hos c) ub (by omega) small
      simp only [wn_ok, wn_some, wn_only, wn_noex, wn_e2, wn_e1, wn_eN, wn_a0, wn_aC, wn_call, wn_tb, wn_tup, wn_lst, wn_andB, wn_orB, wn_notB, wn_andV, wn_orV, wn_notV, wn_ifV, wn_iA, wn_iR1, wn_iR2, wn_iZ, wn_iEn, wn_iRR, wn_sl, wn_p0, wn_p1, wn_up, wn_upB, wn_upI, wn_x2, wn_x0, wn_xC, wn_xN, wn_xb, wn_xAnd, wn_xOr, wn_xNot, wn_xIf, wn_xCall, wn_xR1, wn_xR2, sn_nx, sn_rt, sn_bk, sn_ct, sn_seq, sn_set, sn_ret, sn_expr, sn_if, sn_for, sn_xSet, sn_xRet, sn_xExpr, sn_xIf, sn_xFor, sn_asg, sn_xAsg, sn_own, sn_xOwn, gv_zero, gv_succ, go_own, go_dat, go_succ, k0_def, gN_def, tru_bool, tru_none, tru_int, tru_list, asSeq_list, asSeq_tup, addV_int, subV_int, ltA_i, leA_i, gtA_i, geA_i, negV_int, intV_int, lenV_list, lenV_tup, ixV_list, ixV_tup, asInt_int, slV_list, slV_tup, slL_list, revV_tup, revV_list, tupleV_list, listV_list, listV_tup, eqV_str, neV_str, eqV_int, List.set_cons_zero, List.set_cons_succ, List.getElem?_cons_zero, List.getElem?_cons_succ, List.length_cons, List.length_nil, ↓reduceIte, Bool.false_eq_true, Bool.not_true, Bool.not_false, wn_ite, gT2, gT3, neV_tup, eqV_tup, in_tup, notin_tup', lineN_eq, Nat.reduceAdd, Nat.reduceLeDiff, Nat.zero_le, true_and, and_true, List.map_nil, List.map_cons, exists_eq_left', Option.some.injEq, PyData.list.injEq, exists_eq_left, PyData.int.injEq, R.ok.injEq, Sl.own.injEq, rim ic, Cb.boundary_ok hos l1 ic, Cb.boundary_ok hos l1 (bdy_in hos c), Cb.is_cycle_ok hos l1 ic, Cb.is_cycle_ok hos l1 (bdy_in hos c), bdy_bdy hos c, fr.repr (by decide) (by decide), (fine_bool (decide (bdy os c = []))).repr (by decide) (by decide), decide_true, tup_nil]
      rw [isnotBV_b]
      simp only [wn_ok, wn_some, wn_only, wn_noex, wn_e2, wn_e1, wn_eN, wn_a0, wn_aC, wn_call, wn_tb, wn_tup, wn_lst, wn_andB, wn_orB, wn_notB, wn_andV, wn_orV, wn_notV, wn_ifV, wn_iA, wn_iR1, wn_iR2, wn_iZ, wn_iEn, wn_iRR, wn_sl, wn_p0, wn_p1, wn_up, wn_upB, wn_upI, wn_x2, wn_x0, wn_xC, wn_xN, wn_xb, wn_xAnd, wn_xOr, wn_xNot, wn_xIf, wn_xCall, wn_xR1, wn_xR2, sn_nx, sn_rt, sn_bk, sn_ct, sn_seq, sn_set, sn_ret, sn_expr, sn_if, sn_for, sn_xSet, sn_xRet, sn_xExpr, sn_xIf, sn_xFor, sn_asg, sn_xAsg, sn_own, sn_xOwn, gv_zero, gv_succ, go_own, go_dat, go_succ, k0_def, gN_def, tru_bool, tru_none, tru_int, tru_list, asSeq_list, asSeq_tup, addV_int, subV_int, ltA_i, leA_i, gtA_i, geA_i, negV_int, intV_int, lenV_list, lenV_tup, ixV_list, ixV_tup, asInt_int, slV_list, slV_tup, slL_list, revV_tup, revV_list, tupleV_list, listV_list, listV_tup, eqV_str, neV_str, eqV_int, List.set_cons_zero, List.set_cons_succ, List.getElem?_cons_zero, List.getElem?_cons_succ, List.length_cons, List.length_nil, ↓reduceIte, Bool.false_eq_true, Bool.not_true, Bool.not_false, wn_ite, gT2, gT3, neV_tup, eqV_tup, in_tup, notin_tup', lineN_eq, Nat.reduceAdd, Nat.reduceLeDiff, Nat.zero_le, true_and, and_true, List.map_nil, List.map_cons, exists_eq_left', Option.some.injEq, PyData.list.injEq, exists_eq_left, PyData.int.injEq, R.ok.injEq, Sl.own.injEq]
      exact ⟨rs, _, _, _, _, rfl, fun y m => hr y (List.mem_cons_of_mem _ m), rfl⟩
  · rintro η ⟨rs, s9, s10, s11, s12, e1, hr, rfl⟩
    simp only [wn_ok, wn_some, wn_only, wn_noex, wn_e2, wn_e1, wn_eN, wn_a0, wn_aC, wn_call, wn_tb, wn_tup, wn_lst, wn_andB, wn_orB, wn_notB, wn_andV, wn_orV, wn_notV, wn_ifV, wn_iA, wn_iR1, wn_iR2, wn_iZ, wn_iEn, wn_iRR, wn_sl, wn_p0, wn_p1, wn_up, wn_upB, wn_upI, wn_x2, wn_x0, wn_xC, wn_xN, wn_xb, wn_xAnd, wn_xOr, wn_xNot, wn_xIf, wn_xCall, wn_xR1, wn_xR2, sn_nx, sn_rt, sn_bk, sn_ct, sn_seq, sn_set, sn_ret, sn_expr, sn_if, sn_for, sn_xSet, sn_xRet, sn_xExpr, sn_xIf, sn_xFor, sn_asg, sn_xAsg, sn_own, sn_xOwn, gv_zero, gv_succ, go_own, go_dat, go_succ, k0_def, gN_def, tru_bool, tru_none, tru_int, tru_list, asSeq_list, asSeq_tup, addV_int, subV_int, ltA_i, leA_i, gtA_i, geA_i, negV_int, intV_int, lenV_list, lenV_tup, ixV_list, ixV_tup, asInt_int, slV_list, slV_tup, slL_list, revV_tup, revV_list, tupleV_list, listV_list, listV_tup, eqV_str, neV_str, eqV_int, List.set_cons_zero, List.set_cons_succ, List.getElem?_cons_zero, List.getElem?_cons_succ, List.length_cons, List.length_nil, ↓reduceIte, Bool.false_eq_true, Bool.not_true, Bool.not_false, wn_ite, gT2, gT3, neV_tup, eqV_tup, in_tup, notin_tup', lineN_eq, Nat.reduceAdd, Nat.reduceLeDiff, Nat.zero_le, true_and, and_true, List.map_nil, List.map_cons, exists_eq_left', Option.some.injEq, PyData.list.injEq, exists_eq_left, PyData.int.injEq, R.ok.injEq, Sl.own.injEq, lra, lrb, bsm, adab, Cb.boundary_ok hos l1 (ha.inU.sum hb.inU), bdy_sum hos ha.asc hb.asc, same_rows hos.smp l1, decide_true]
    rw [show PyData.tuple ((sumL (bdy os a) (bdy os b)).map PyData.int) = tupI (sumL (bdy os a) (bdy os b)) from rfl]
    simp only [wn_ok, wn_some, wn_only, wn_noex, wn_e2, wn_e1, wn_eN, wn_a0, wn_aC, wn_call, wn_tb, wn_tup, wn_lst, wn_andB, wn_orB, wn_notB, wn_andV, wn_orV, wn_notV, wn_ifV, wn_iA, wn_iR1, wn_iR2, wn_iZ, wn_iEn, wn_iRR, wn_sl, wn_p0, wn_p1, wn_up, wn_upB, wn_upI, wn_x2, wn_x0, wn_xC, wn_xN, wn_xb, wn_xAnd, wn_xOr, wn_xNot, wn_xIf, wn_xCall, wn_xR1, wn_xR2, sn_nx, sn_rt, sn_bk, sn_ct, sn_seq, sn_set, sn_ret, sn_expr, sn_if, sn_for, sn_xSet, sn_xRet, sn_xExpr, sn_xIf, sn_xFor, sn_asg, sn_xAsg, sn_own, sn_xOwn, gv_zero, gv_succ, go_own, go_dat, go_succ, k0_def, gN_def, tru_bool, tru_none, tru_int, tru_list, asSeq_list, asSeq_tup, addV_int, subV_int, ltA_i, leA_i, gtA_i, geA_i, negV_int, intV_int, lenV_list, lenV_tup, ixV_list, ixV_tup, asInt_int, slV_list, slV_tup, slL_list, revV_tup, revV_list, tupleV_list, listV_list, listV_tup, eqV_str, neV_str, eqV_int, List.set_cons_zero, List.set_cons_succ, List.getElem?_cons_zero, List.getElem?_cons_succ, List.length_cons, List.length_nil, ↓reduceIte, Bool.false_eq_true, Bool.not_true, Bool.not_false, wn_ite, gT2, gT3, neV_tup, eqV_tup, in_tup, notin_tup', lineN_eq, Nat.reduceAdd, Nat.reduceLeDiff, Nat.zero_le, true_and, and_true, List.map_nil, List.map_cons, exists_eq_left', Option.some.injEq, PyData.list.injEq, exists_eq_left, PyData.int.injEq, R.ok.injEq, Sl.own.injEq, decide_true]
end Bd
namespace Bd
open PySem L2
set_option maxHeartbeats 4000000 in
theorem all_mk {l : PySem.W.OpenLaw} {w : World} {K : PySem.W.Frag} {h : Heap} {mg : Str → Option Value} {fa : Addr} (X : K.In h) (Gm : h.Ns mainGlobals mg) (hfa : mg "law" = some (.ref fa))
    {f1 f2 f3 f4 f5 f6 f7 f8 f9 f10 f11 f12 f13 f14 f15 f16 f17 f18 f19 : Addr} {od1 an1 od2 an2 od3 an3 od4 an4 od5 an5 od6 an6 od7 an7 od8 an8 od9 an9 od10 an10 od11 an11 od12 an12 od13 an13 od14 an14 od15 an15 od16 an16 od17 an17 od18 an18 od19 an19 : Option Addr} {sl1 sl2 sl3 sl4 sl5 sl6 sl7 sl8 sl9 sl10 sl11 sl12 sl13 sl14 sl15 sl16 sl17 sl18 sl19 : Array (Option Value)} {oc1 kV1 dc1 pm1 cd1 ct1 oc2 kV2 dc2 pm2 cd2 ct2 oc3 kV3 dc3 pm3 cd3 ct3 oc4 kV4 dc4 pm4 cd4 ct4 oc5 kV5 dc5 pm5 cd5 ct5 oc6 kV6 dc6 pm6 cd6 ct6 oc7 kV7 dc7 pm7 cd7 ct7 oc8 kV8 dc8 pm8 cd8 ct8 oc9 kV9 dc9 pm9 cd9 ct9 oc10 kV10 dc10 pm10 cd10 ct10 oc11 kV11 dc11 pm11 cd11 ct11 oc12 kV12 dc12 pm12 cd12 ct12 oc13 kV13 dc13 pm13 cd13 ct13 oc14 kV14 dc14 pm14 cd14 ct14 oc15 kV15 dc15 pm15 cd15 ct15 oc16 kV16 dc16 pm16 cd16 ct16 oc17 kV17 dc17 pm17 cd17 ct17 oc18 kV18 dc18 pm18 cd18 ct18 oc19 kV19 dc19 pm19 cd19 ct19 : Value}
    (a1 : PySem.W.nsIn K mainGlobals "dimension_of" = some (some (.ref f1))) (l1 : K.lookup f1 = some ⟨oc1, od1, .func (PySem.W.fnOf "dimension_of" "dimension_of" (defArgs s_dimension_of) (defBody s_dimension_of) (defScope s_dimension_of) .none kV1 dc1 pm1 an1 cd1 ct1), sl1⟩) (c1 : PySem.W.codeIn K cd1 "dimension_of" = true) (k1 : PySem.W.keepIn K (.ref f1) = true)
    (a2 : PySem.W.nsIn K mainGlobals "faces_of" = some (some (.ref f2))) (l2 : K.lookup f2 = some ⟨oc2, od2, .func (PySem.W.fnOf "faces_of" "faces_of" (defArgs s_faces_of) (defBody s_faces_of) (defScope s_faces_of) .none kV2 dc2 pm2 an2 cd2 ct2), sl2⟩) (c2 : PySem.W.codeIn K cd2 "faces_of" = true) (k2 : PySem.W.keepIn K (.ref f2) = true)
    (a3 : PySem.W.nsIn K mainGlobals "added" = some (some (.ref f3))) (l3 : K.lookup f3 = some ⟨oc3, od3, .func (PySem.W.fnOf "added" "added" (defArgs s_added) (defBody s_added) (defScope s_added) .none kV3 dc3 pm3 an3 cd3 ct3), sl3⟩) (c3 : PySem.W.codeIn K cd3 "added" = true) (k3 : PySem.W.keepIn K (.ref f3) = true)
    (a4 : PySem.W.nsIn K mainGlobals "summed" = some (some (.ref f4))) (l4 : K.lookup f4 = some ⟨oc4, od4, .func (PySem.W.fnOf "summed" "summed" (defArgs s_summed) (defBody s_summed) (defScope s_summed) .none kV4 dc4 pm4 an4 cd4 ct4), sl4⟩) (c4 : PySem.W.codeIn K cd4 "summed" = true) (k4 : PySem.W.keepIn K (.ref f4) = true)
    (a5 : PySem.W.nsIn K mainGlobals "own_boundaries" = some (some (.ref f5))) (l5 : K.lookup f5 = some ⟨oc5, od5, .func (PySem.W.fnOf "own_boundaries" "own_boundaries" (defArgs s_own_boundaries) (defBody s_own_boundaries) (defScope s_own_boundaries) .none kV5 dc5 pm5 an5 cd5 ct5), sl5⟩) (c5 : PySem.W.codeIn K cd5 "own_boundaries" = true) (k5 : PySem.W.keepIn K (.ref f5) = true)
    (a6 : PySem.W.nsIn K mainGlobals "boundaries" = some (some (.ref f6))) (l6 : K.lookup f6 = some ⟨oc6, od6, .func (PySem.W.fnOf "boundaries" "boundaries" (defArgs s_boundaries) (defBody s_boundaries) (defScope s_boundaries) .none kV6 dc6 pm6 an6 cd6 ct6), sl6⟩) (c6 : PySem.W.codeIn K cd6 "boundaries" = true) (k6 : PySem.W.keepIn K (.ref f6) = true)
    (a7 : PySem.W.nsIn K mainGlobals "boundary" = some (some (.ref f7))) (l7 : K.lookup f7 = some ⟨oc7, od7, .func (PySem.W.fnOf "boundary" "boundary" (defArgs s_boundary) (defBody s_boundary) (defScope s_boundary) .none kV7 dc7 pm7 an7 cd7 ct7), sl7⟩) (c7 : PySem.W.codeIn K cd7 "boundary" = true) (k7 : PySem.W.keepIn K (.ref f7) = true)
    (a8 : PySem.W.nsIn K mainGlobals "is_cycle" = some (some (.ref f8))) (l8 : K.lookup f8 = some ⟨oc8, od8, .func (PySem.W.fnOf "is_cycle" "is_cycle" (defArgs s_is_cycle) (defBody s_is_cycle) (defScope s_is_cycle) .none kV8 dc8 pm8 an8 cd8 ct8), sl8⟩) (c8 : PySem.W.codeIn K cd8 "is_cycle" = true) (k8 : PySem.W.keepIn K (.ref f8) = true)
    (a9 : PySem.W.nsIn K mainGlobals "_law_deck" = some (some (.ref f9))) (l9 : K.lookup f9 = some ⟨oc9, od9, .func (PySem.W.fnOf "_law_deck" "_law_deck" (defArgs s__law_deck) (defBody s__law_deck) (defScope s__law_deck) .none kV9 dc9 pm9 an9 cd9 ct9), sl9⟩) (c9 : PySem.W.codeIn K cd9 "_law_deck" = true) (k9 : PySem.W.keepIn K (.ref f9) = true)
    (a10 : PySem.W.nsIn K mainGlobals "_law_draw" = some (some (.ref f10))) (l10 : K.lookup f10 = some ⟨oc10, od10, .func (PySem.W.fnOf "_law_draw" "_law_draw" (defArgs s__law_draw) (defBody s__law_draw) (defScope s__law_draw) .none kV10 dc10 pm10 an10 cd10 ct10), sl10⟩) (c10 : PySem.W.codeIn K cd10 "_law_draw" = true) (k10 : PySem.W.keepIn K (.ref f10) = true)
    (a11 : PySem.W.nsIn K mainGlobals "_law_faces" = some (some (.ref f11))) (l11 : K.lookup f11 = some ⟨oc11, od11, .func (PySem.W.fnOf "_law_faces" "_law_faces" (defArgs s__law_faces) (defBody s__law_faces) (defScope s__law_faces) .none kV11 dc11 pm11 an11 cd11 ct11), sl11⟩) (c11 : PySem.W.codeIn K cd11 "_law_faces" = true) (k11 : PySem.W.keepIn K (.ref f11) = true)
    (a12 : PySem.W.nsIn K mainGlobals "_law_names" = some (some (.ref f12))) (l12 : K.lookup f12 = some ⟨oc12, od12, .func (PySem.W.fnOf "_law_names" "_law_names" (defArgs s__law_names) (defBody s__law_names) (defScope s__law_names) .none kV12 dc12 pm12 an12 cd12 ct12), sl12⟩) (c12 : PySem.W.codeIn K cd12 "_law_names" = true) (k12 : PySem.W.keepIn K (.ref f12) = true)
    (a13 : PySem.W.nsIn K mainGlobals "_law_every" = some (some (.ref f13))) (l13 : K.lookup f13 = some ⟨oc13, od13, .func (PySem.W.fnOf "_law_every" "_law_every" (defArgs s__law_every) (defBody s__law_every) (defScope s__law_every) .none kV13 dc13 pm13 an13 cd13 ct13), sl13⟩) (c13 : PySem.W.codeIn K cd13 "_law_every" = true) (k13 : PySem.W.keepIn K (.ref f13) = true)
    (a14 : PySem.W.nsIn K mainGlobals "_law_order" = some (some (.ref f14))) (l14 : K.lookup f14 = some ⟨oc14, od14, .func (PySem.W.fnOf "_law_order" "_law_order" (defArgs s__law_order) (defBody s__law_order) (defScope s__law_order) .none kV14 dc14 pm14 an14 cd14 ct14), sl14⟩) (c14 : PySem.W.codeIn K cd14 "_law_order" = true) (k14 : PySem.W.keepIn K (.ref f14) = true)
    (a15 : PySem.W.nsIn K mainGlobals "_law_sum" = some (some (.ref f15))) (l15 : K.lookup f15 = some ⟨oc15, od15, .func (PySem.W.fnOf "_law_sum" "_law_sum" (defArgs s__law_sum) (defBody s__law_sum) (defScope s__law_sum) .none kV15 dc15 pm15 an15 cd15 ct15), sl15⟩) (c15 : PySem.W.codeIn K cd15 "_law_sum" = true) (k15 : PySem.W.keepIn K (.ref f15) = true)
    (a16 : PySem.W.nsIn K mainGlobals "_law_edge" = some (some (.ref f16))) (l16 : K.lookup f16 = some ⟨oc16, od16, .func (PySem.W.fnOf "_law_edge" "_law_edge" (defArgs s__law_edge) (defBody s__law_edge) (defScope s__law_edge) .none kV16 dc16 pm16 an16 cd16 ct16), sl16⟩) (c16 : PySem.W.codeIn K cd16 "_law_edge" = true) (k16 : PySem.W.keepIn K (.ref f16) = true)
    (a17 : PySem.W.nsIn K mainGlobals "_law_rim" = some (some (.ref f17))) (l17 : K.lookup f17 = some ⟨oc17, od17, .func (PySem.W.fnOf "_law_rim" "_law_rim" (defArgs s__law_rim) (defBody s__law_rim) (defScope s__law_rim) .none kV17 dc17 pm17 an17 cd17 ct17), sl17⟩) (c17 : PySem.W.codeIn K cd17 "_law_rim" = true) (k17 : PySem.W.keepIn K (.ref f17) = true)
    (a18 : PySem.W.nsIn K mainGlobals "_law_chain" = some (some (.ref f18))) (l18 : K.lookup f18 = some ⟨oc18, od18, .func (PySem.W.fnOf "_law_chain" "_law_chain" (defArgs s__law_chain) (defBody s__law_chain) (defScope s__law_chain) .none kV18 dc18 pm18 an18 cd18 ct18), sl18⟩) (c18 : PySem.W.codeIn K cd18 "_law_chain" = true) (k18 : PySem.W.keepIn K (.ref f18) = true)
    (a19 : PySem.W.nsIn K mainGlobals "law" = some (some (.ref f19))) (l19 : K.lookup f19 = some ⟨oc19, od19, .func (PySem.W.fnOf "law" "law" (defArgs s_law) (defBody s_law) (defScope s_law) .none kV19 dc19 pm19 an19 cd19 ct19), sl19⟩) (c19 : PySem.W.codeIn K cd19 "law" = true) (k19 : PySem.W.keepIn K (.ref f19) = true)
    (z_abs : PySem.W.nsIn K mainGlobals "abs" = some none)
    (z_all : PySem.W.nsIn K mainGlobals "all" = some none)
    (z_enumerate : PySem.W.nsIn K mainGlobals "enumerate" = some none)
    (z_int : PySem.W.nsIn K mainGlobals "int" = some none)
    (z_len : PySem.W.nsIn K mainGlobals "len" = some none)
    (z_list : PySem.W.nsIn K mainGlobals "list" = some none)
    (z_range : PySem.W.nsIn K mainGlobals "range" = some none)
    (z_repr : PySem.W.nsIn K mainGlobals "repr" = some none)
    (z_reversed : PySem.W.nsIn K mainGlobals "reversed" = some none)
    (z_set : PySem.W.nsIn K mainGlobals "set" = some none)
    (z_sorted : PySem.W.nsIn K mainGlobals "sorted" = some none)
    (z_tuple : PySem.W.nsIn K mainGlobals "tuple" = some none)
    : ∃ fd : FuncData, (∀ (s : Shared) (v : Value), BindsTo s fd ⟨[v], []⟩ [("script", v)]) ∧ ∀ base : Heap, K.In base → base.Ns mainGlobals mg → FnG l.prog w K mg base 7 fa fd ["script"] (spD K mg (rD K) 1 F_law) := by
  have e := hfa.symm.trans (PySem.W.mg_of X Gm a19)
  cases e
  have z : Zs mg := ⟨PySem.W.mg_none_of X Gm z_abs, PySem.W.mg_none_of X Gm z_all, PySem.W.mg_none_of X Gm z_enumerate, PySem.W.mg_none_of X Gm z_int, PySem.W.mg_none_of X Gm z_len, PySem.W.mg_none_of X Gm z_list, PySem.W.mg_none_of X Gm z_range, PySem.W.mg_none_of X Gm z_repr, PySem.W.mg_none_of X Gm z_reversed, PySem.W.mg_none_of X Gm z_set, PySem.W.mg_none_of X Gm z_sorted, PySem.W.mg_none_of X Gm z_tuple⟩
  refine ⟨PySem.W.fnOf "law" "law" (defArgs s_law) (defBody s_law) (defScope s_law) .none kV19 dc19 pm19 an19 cd19 ct19, fun s v => .of_eq rfl, fun base _ _ => ?_⟩
  have d_dimension_of := ok_dimension_of (P := l.prog) (w := w) (base := base) (fun_mk (st := s_dimension_of) l1 c1 k1) z  (PySem.W.mg_of X Gm a1)
  have d_faces_of := ok_faces_of (P := l.prog) (w := w) (base := base) (fun_mk (st := s_faces_of) l2 c2 k2) z d_dimension_of (PySem.W.mg_of X Gm a2)
  have d_added := ok_added (P := l.prog) (w := w) (base := base) (fun_mk (st := s_added) l3 c3 k3) z  (PySem.W.mg_of X Gm a3)
  have d_summed := ok_summed (P := l.prog) (w := w) (base := base) (fun_mk (st := s_summed) l4 c4 k4) z d_added (PySem.W.mg_of X Gm a4)
  have d_own_boundaries := ok_own_boundaries (P := l.prog) (w := w) (base := base) (fun_mk (st := s_own_boundaries) l5 c5 k5) z d_faces_of (PySem.W.mg_of X Gm a5)
  have d_boundaries := ok_boundaries (P := l.prog) (w := w) (base := base) (fun_mk (st := s_boundaries) l6 c6 k6) z d_own_boundaries d_summed (PySem.W.mg_of X Gm a6)
  have d_boundary := ok_boundary (P := l.prog) (w := w) (base := base) (fun_mk (st := s_boundary) l7 c7 k7) z d_boundaries (PySem.W.mg_of X Gm a7)
  have d_is_cycle := ok_is_cycle (P := l.prog) (w := w) (base := base) (fun_mk (st := s_is_cycle) l8 c8 k8) z d_boundary (PySem.W.mg_of X Gm a8)
  have d__law_deck := ok__law_deck (P := l.prog) (w := w) (base := base) (fun_mk (st := s__law_deck) l9 c9 k9) z  (PySem.W.mg_of X Gm a9)
  have d__law_draw := ok__law_draw (P := l.prog) (w := w) (base := base) (fun_mk (st := s__law_draw) l10 c10 k10) z  (PySem.W.mg_of X Gm a10)
  have d__law_faces := ok__law_faces (P := l.prog) (w := w) (base := base) (fun_mk (st := s__law_faces) l11 c11 k11) z  (PySem.W.mg_of X Gm a11)
  have d__law_names := ok__law_names (P := l.prog) (w := w) (base := base) (fun_mk (st := s__law_names) l12 c12 k12) z d__law_draw (PySem.W.mg_of X Gm a12)
  have d__law_every := ok__law_every (P := l.prog) (w := w) (base := base) (fun_mk (st := s__law_every) l13 c13 k13) z  (PySem.W.mg_of X Gm a13)
  have d__law_order := ok__law_order (P := l.prog) (w := w) (base := base) (fun_mk (st := s__law_order) l14 c14 k14) z d__law_draw d__law_every d__law_faces d__law_names (PySem.W.mg_of X Gm a14)
  have d__law_sum := ok__law_sum (P := l.prog) (w := w) (base := base) (fun_mk (st := s__law_sum) l15 c15 k15) z  (PySem.W.mg_of X Gm a15)
  have d__law_edge := ok__law_edge (P := l.prog) (w := w) (base := base) (fun_mk (st := s__law_edge) l16 c16 k16) z d__law_faces (PySem.W.mg_of X Gm a16)
  have d__law_rim := ok__law_rim (P := l.prog) (w := w) (base := base) (fun_mk (st := s__law_rim) l17 c17 k17) z d__law_edge d__law_sum (PySem.W.mg_of X Gm a17)
  have d__law_chain := ok__law_chain (P := l.prog) (w := w) (base := base) (fun_mk (st := s__law_chain) l18 c18 k18) z d__law_draw (PySem.W.mg_of X Gm a18)
  exact ok_law (P := l.prog) (w := w) (base := base) (fun_mk (st := s_law) l19 c19 k19) z d__law_chain d__law_deck d__law_draw d__law_order d__law_rim d__law_sum d_added d_boundary d_is_cycle
end Bd
open PySem PySem.W
set_option maxRecDepth 100000 in
set_option maxHeartbeats 0 in
theorem PySem.Challenge.cw_barstay_k13_boundaries_holds : PySem.Challenge.rw_barstay_k13_boundaries.Holds := by
  w_on; o_law; k_head; (case hw => w_witness2)
  k_fill
  refine Bd.walk_end (l := PySem.Challenge.rw_barstay_k13_boundaries) (n := 63) (k := 7) (x := "script") (Fn := Bd.F_law) rfl (by decide) rfl ⟨rfl, by decide, by decide⟩ (fun w h Y => PySem.W.kIn_of Y) ?F (fun ns hl => Bd.law_true ns hl)
  case F =>
    intro w mg fa h KX G hmg
    refine' Bd.all_mk KX G hmg ?a1 ?l1 ?c1 ?k1 ?a2 ?l2 ?c2 ?k2 ?a3 ?l3 ?c3 ?k3 ?a4 ?l4 ?c4 ?k4 ?a5 ?l5 ?c5 ?k5 ?a6 ?l6 ?c6 ?k6 ?a7 ?l7 ?c7 ?k7 ?a8 ?l8 ?c8 ?k8 ?a9 ?l9 ?c9 ?k9 ?a10 ?l10 ?c10 ?k10 ?a11 ?l11 ?c11 ?k11 ?a12 ?l12 ?c12 ?k12 ?a13 ?l13 ?c13 ?k13 ?a14 ?l14 ?c14 ?k14 ?a15 ?l15 ?c15 ?k15 ?a16 ?l16 ?c16 ?k16 ?a17 ?l17 ?c17 ?k17 ?a18 ?l18 ?c18 ?k18 ?a19 ?l19 ?c19 ?k19 ?z_abs ?z_all ?z_enumerate ?z_int ?z_len ?z_list ?z_range ?z_repr ?z_reversed ?z_set ?z_sorted ?z_tuple
    (case a1 => k_is)
    (case l1 => k_is)
    (case c1 => k_is)
    (case k1 => k_is)
    (case a2 => k_is)
    (case l2 => k_is)
    (case c2 => k_is)
    (case k2 => k_is)
    (case a3 => k_is)
    (case l3 => k_is)
    (case c3 => k_is)
    (case k3 => k_is)
    (case a4 => k_is)
    (case l4 => k_is)
    (case c4 => k_is)
    (case k4 => k_is)
    (case a5 => k_is)
    (case l5 => k_is)
    (case c5 => k_is)
    (case k5 => k_is)
    (case a6 => k_is)
    (case l6 => k_is)
    (case c6 => k_is)
    (case k6 => k_is)
    (case a7 => k_is)
    (case l7 => k_is)
    (case c7 => k_is)
    (case k7 => k_is)
    (case a8 => k_is)
    (case l8 => k_is)
    (case c8 => k_is)
    (case k8 => k_is)
    (case a9 => k_is)
    (case l9 => k_is)
    (case c9 => k_is)
    (case k9 => k_is)
    (case a10 => k_is)
    (case l10 => k_is)
    (case c10 => k_is)
    (case k10 => k_is)
    (case a11 => k_is)
    (case l11 => k_is)
    (case c11 => k_is)
    (case k11 => k_is)
    (case a12 => k_is)
    (case l12 => k_is)
    (case c12 => k_is)
    (case k12 => k_is)
    (case a13 => k_is)
    (case l13 => k_is)
    (case c13 => k_is)
    (case k13 => k_is)
    (case a14 => k_is)
    (case l14 => k_is)
    (case c14 => k_is)
    (case k14 => k_is)
    (case a15 => k_is)
    (case l15 => k_is)
    (case c15 => k_is)
    (case k15 => k_is)
    (case a16 => k_is)
    (case l16 => k_is)
    (case c16 => k_is)
    (case k16 => k_is)
    (case a17 => k_is)
    (case l17 => k_is)
    (case c17 => k_is)
    (case k17 => k_is)
    (case a18 => k_is)
    (case l18 => k_is)
    (case c18 => k_is)
    (case k18 => k_is)
    (case a19 => k_is)
    (case l19 => k_is)
    (case c19 => k_is)
    (case k19 => k_is)
    (case z_abs => k_is)
    (case z_all => k_is)
    (case z_enumerate => k_is)
    (case z_int => k_is)
    (case z_len => k_is)
    (case z_list => k_is)
    (case z_range => k_is)
    (case z_repr => k_is)
    (case z_reversed => k_is)
    (case z_set => k_is)
    (case z_sorted => k_is)
    (case z_tuple => k_is)
